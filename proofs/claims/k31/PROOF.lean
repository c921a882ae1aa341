import PyProof.Rows.All
import Wide.All
import OpenK.AllK
import Wide.FinOn
import HandS.Base
import HandS.Call
import HandS.List
import HandS.Comp
import HandS.Words
import HandS.WordsList
import HandS.Exc
import HandS.ExcOwn
import HandS.TryOnly
import HandS.Wide
import HandS.More
import HandS.IsInst
import HandS.Gcd
import HandS.WideBits
import HandS.TupAny
import HandS.CallSlots
import HandS.WordsExc
import OpenK.KMeth
import OpenK.KWalk
import OpenK.KMake
import KE.KOpsOwn
import PyProof.InstEq
import PyProof.CallFns
import HandS.Defaults
import HandS.Ends
import HandS.ExcIs
import HandS.StrMore
import HandS.Flow
import PyProof.NoPylong
import KE.KxIndex
import HandS.Iter
import HandS.Star
import KE.KMathG
import HandS.Style
import HandS.Zip
import HandS.OwnEq
import HandS.TupMul
import KE.GoesEnum
import KE.GoesMore
import KE.RegKIsAll
import PySem.Challenge.RW_traproom_k31_further_conditions
set_option Elab.async false
set_option linter.all false
set_option maxRecDepth 100000
/-! Value semantics over the hand layer: what an expression, a statement, a def is worth, as plain functions of data. -/
namespace Vs
open PySem PySem.Spec PyProof.Rows L2

/-- data without places -/
inductive P where
  | non | bl (b : Bool) | int (i : Int) | str (s : Str) | tup (xs : List P) | lst (xs : List P) | wl (xs : List P) | obj (c : Nat) (xs : List P)
/-- a value: data, or a place of the store -/
inductive D where
  | p (x : P) | loc (l : Nat)
/-- what stands at a place -/
inductive MO where
  | lst (xs : List P) | ins (c : Nat) (xs : List P) | dl (ds : List D)
abbrev Mu := List (Option MO)
abbrev Sl := List (Option D)

/-- what is fixed: the written part, the classes' addresses, their fields -/
structure Amb where
  K : PySem.W.Frag
  cl : Nat → Addr
  fl : Nat → List Str

mutual
inductive Rep (α : Amb) (G : Hp) : V → P → Prop
  | non : Rep α G .non .non
  | bl (b : Bool) : Rep α G (.bl b) (.bl b)
  | int (i : Int) : Rep α G (.int i) (.int i)
  | str (s : Str) : Rep α G (.str s) (.str s)
  | tup {a : Addr} {vs : List V} {xs : List P} : SqT α.K G a vs → Reps α G vs xs → Rep α G (.ref a) (.tup xs)
  | lst {a : Addr} {vs : List V} {xs : List P} : G a = some (.lst vs) → Reps α G vs xs → Rep α G (.ref a) (.lst xs)
  | wl {a : Addr} {vs : List V} {xs : List P} : SqL α.K G a vs → Reps α G vs xs → Rep α G (.ref a) (.wl xs)
  | obj {a dx : Addr} {c : Nat} {vs : List V} {xs : List P} : G a = some (.ins (α.cl c) dx ((α.fl c).zip vs)) → vs.length = (α.fl c).length → Reps α G vs xs → Rep α G (.ref a) (.obj c xs)
inductive Reps (α : Amb) (G : Hp) : List V → List P → Prop
  | nil : Reps α G [] []
  | cons {v : V} {vs : List V} {x : P} {xs : List P} : Rep α G v x → Reps α G vs xs → Reps α G (v :: vs) (x :: xs)
end

theorem seqT {K : PySem.W.Frag} {H H' : Hp} {a : Addr} {xs : List V} (e : Same H H') (h : SqT K H a xs) : SqT K H' a xs :=
  h.elim (fun h => .inl (h.elim (fun h => .inl (e _ _ h)) fun ⟨o, h⟩ => .inr ⟨o, e _ _ h⟩)) fun h => .inr h
theorem seqL {K : PySem.W.Frag} {H H' : Hp} {a : Addr} {xs : List V} (e : Same H H') (h : SqL K H a xs) : SqL K H' a xs := e.seq h

mutual
theorem Rep.mono {α : Amb} {G G' : Hp} (s : Same G G') : ∀ {v : V} {x : P}, Rep α G v x → Rep α G' v x
  | _, _, .non => .non
  | _, _, .bl b => .bl b
  | _, _, .int i => .int i
  | _, _, .str z => .str z
  | _, _, .tup h r => .tup (seqT s h) (r.mono s)
  | _, _, .lst h r => .lst (s _ _ h) (r.mono s)
  | _, _, .wl h r => .wl (seqL s h) (r.mono s)
  | _, _, .obj h l r => .obj (s _ _ h) l (r.mono s)
theorem Reps.mono {α : Amb} {G G' : Hp} (s : Same G G') : ∀ {vs : List V} {xs : List P}, Reps α G vs xs → Reps α G' vs xs
  | _, _, .nil => .nil
  | _, _, .cons h t => .cons (h.mono s) (t.mono s)
end
theorem Reps.length {α : Amb} {G : Hp} : ∀ {vs : List V} {xs : List P}, Reps α G vs xs → vs.length = xs.length
  | _, _, .nil => rfl
  | _, _, .cons _ t => congrArg (· + 1) t.length
theorem Reps.get {α : Amb} {G : Hp} : ∀ {vs : List V} {xs : List P} {i : Nat} {x : P}, Reps α G vs xs → xs[i]? = some x → ∃ v, vs[i]? = some v ∧ Rep α G v x
  | _, _, _, _, .nil, e => by simp at e
  | _, _, 0, _, .cons h _, e => by simp at e; subst e; exact ⟨_, rfl, h⟩
  | _, _, i + 1, x, .cons _ t, e => by
    obtain ⟨u, h1, h2⟩ := Reps.get (i := i) (x := x) t (by simpa using e)
    exact ⟨u, by simpa using h1, h2⟩
theorem Reps.get' {α : Amb} {G : Hp} : ∀ {vs : List V} {xs : List P} {i : Nat} {v : V}, Reps α G vs xs → vs[i]? = some v → ∃ x, xs[i]? = some x ∧ Rep α G v x
  | _, _, _, _, .nil, e => by simp at e
  | _, _, 0, _, .cons h _, e => by simp at e; subst e; exact ⟨_, rfl, h⟩
  | _, _, i + 1, v, .cons _ t, e => by
    obtain ⟨u, h1, h2⟩ := Reps.get' (i := i) (v := v) t (by simpa using e)
    exact ⟨u, by simpa using h1, h2⟩
theorem Reps.append {α : Amb} {G : Hp} : ∀ {vs ws : List V} {xs ys : List P}, Reps α G vs xs → Reps α G ws ys → Reps α G (vs ++ ws) (xs ++ ys)
  | _, _, _, _, .nil, s => s
  | _, _, _, _, .cons r t, s => .cons r (Reps.append t s)
theorem Reps.set {α : Amb} {G : Hp} {v : V} {x : P} (r : Rep α G v x) : ∀ {vs : List V} {xs : List P} (i : Nat), Reps α G vs xs → Reps α G (vs.set i v) (xs.set i x)
  | _, _, _, .nil => .nil
  | _, _, 0, .cons _ t => .cons r t
  | _, _, i + 1, .cons q t => .cons q (Reps.set r i t)
theorem Reps.take {α : Amb} {G : Hp} : ∀ {vs : List V} {xs : List P} (n : Nat), Reps α G vs xs → Reps α G (vs.take n) (xs.take n)
  | _, _, 0, _ => .nil
  | _, _, _ + 1, .nil => .nil
  | _, _, n + 1, .cons r t => .cons r (Reps.take n t)
theorem Reps.drop {α : Amb} {G : Hp} : ∀ {vs : List V} {xs : List P} (n : Nat), Reps α G vs xs → Reps α G (vs.drop n) (xs.drop n)
  | _, _, 0, r => r
  | _, _, _ + 1, .nil => .nil
  | _, _, n + 1, .cons _ t => Reps.drop n t

def RepD (α : Amb) (G : Hp) (ρ : List Addr) (v : V) : D → Prop
  | .p x => Rep α G v x
  | .loc l => ∃ a, v = .ref a ∧ ρ[l]? = some a
inductive RepDs (α : Amb) (G : Hp) (ρ : List Addr) : List V → List D → Prop
  | nil : RepDs α G ρ [] []
  | cons {v : V} {vs : List V} {x : D} {xs : List D} : RepD α G ρ v x → RepDs α G ρ vs xs → RepDs α G ρ (v :: vs) (x :: xs)

/-- the ground and the places have grown -/
structure Up (G : Hp) (ρ : List Addr) (G' : Hp) (ρ' : List Addr) : Prop where
  same : Same G G'
  pre : ∃ r, ρ' = ρ ++ r
theorem Up.refl {G : Hp} {ρ : List Addr} : Up G ρ G ρ := ⟨Same.refl G, [], (List.append_nil ρ).symm⟩
theorem Up.trans {G G1 G2 : Hp} {ρ ρ1 ρ2 : List Addr} (a : Up G ρ G1 ρ1) (b : Up G1 ρ1 G2 ρ2) : Up G ρ G2 ρ2 := by
  obtain ⟨s, r, rfl⟩ := a
  obtain ⟨s', r', rfl⟩ := b
  exact ⟨s.trans s', r ++ r', by rw [List.append_assoc]⟩
theorem Up.get {G G' : Hp} {ρ ρ' : List Addr} (u : Up G ρ G' ρ') {l : Nat} {a : Addr} (h : ρ[l]? = some a) : ρ'[l]? = some a := by
  obtain ⟨_, r, rfl⟩ := u
  rw [List.getElem?_append_left (List.getElem?_eq_some_iff.mp h).1]
  exact h
theorem RepD.up {α : Amb} {G G' : Hp} {ρ ρ' : List Addr} {v : V} {d : D} (u : Up G ρ G' ρ') (h : RepD α G ρ v d) : RepD α G' ρ' v d := by
  cases d with
  | p x => exact Rep.mono u.same h
  | loc l => obtain ⟨a, e, h⟩ := h; exact ⟨a, e, u.get h⟩
theorem RepDs.up {α : Amb} {G G' : Hp} {ρ ρ' : List Addr} (u : Up G ρ G' ρ') : ∀ {vs : List V} {ds : List D}, RepDs α G ρ vs ds → RepDs α G' ρ' vs ds
  | _, _, .nil => .nil
  | _, _, .cons h t => .cons (h.up u) (t.up u)
theorem RepDs.length {α : Amb} {G : Hp} {ρ : List Addr} : ∀ {vs : List V} {ds : List D}, RepDs α G ρ vs ds → vs.length = ds.length
  | _, _, .nil => rfl
  | _, _, .cons _ t => congrArg (· + 1) t.length
theorem RepDs.append {α : Amb} {G : Hp} {ρ : List Addr} : ∀ {vs ws : List V} {xs ys : List D}, RepDs α G ρ vs xs → RepDs α G ρ ws ys → RepDs α G ρ (vs ++ ws) (xs ++ ys)
  | _, _, _, _, .nil, s => s
  | _, _, _, _, .cons r t, s => .cons r (RepDs.append t s)
theorem RepDs.get {α : Amb} {G : Hp} {ρ : List Addr} : ∀ {vs : List V} {xs : List D} {i : Nat} {x : D}, RepDs α G ρ vs xs → xs[i]? = some x → ∃ v, vs[i]? = some v ∧ RepD α G ρ v x
  | _, _, _, _, .nil, e => by simp at e
  | _, _, 0, _, .cons h _, e => by simp at e; subst e; exact ⟨_, rfl, h⟩
  | _, _, i + 1, x, .cons _ t, e => by
    obtain ⟨u, h1, h2⟩ := RepDs.get (i := i) (x := x) t (by simpa using e)
    exact ⟨u, by simpa using h1, h2⟩

/-- places before l alone -/
def Blw (l : Nat) (ds : List D) : Prop := ∀ k, D.loc k ∈ ds → k < l
theorem Blw.le {l l' : Nat} {ds : List D} (h : Blw l ds) (e : l ≤ l') : Blw l' ds := fun k hk => Nat.lt_of_lt_of_le (h k hk) e
theorem RepDs.cut {α : Amb} {G : Hp} {ρ0 r : List Addr} {l : Nat} (hl : l ≤ ρ0.length) : ∀ {vs : List V} {ds : List D}, RepDs α G (ρ0 ++ r) vs ds → Blw l ds → RepDs α G ρ0 vs ds
  | _, _, .nil, _ => .nil
  | _, _, .cons (x := d) h t, b => .cons (by
      cases d with
      | p x => exact h
      | loc k =>
        obtain ⟨a, e, h⟩ := h
        have hk := b k List.mem_cons_self
        exact ⟨a, e, by rw [List.getElem?_append_left (by omega)] at h; exact h⟩) (RepDs.cut hl t fun k hk => b k (List.mem_cons_of_mem _ hk))
/-- what stands in the heap at the place l -/
def MRep (α : Amb) (G : Hp) (ρ : List Addr) (l : Nat) (o : Option HO) : MO → Prop
  | .lst xs => ∃ vs, o = some (.lst vs) ∧ Reps α G vs xs
  | .ins c xs => ∃ dx vs, o = some (.ins (α.cl c) dx ((α.fl c).zip vs)) ∧ vs.length ≤ (α.fl c).length ∧ Reps α G vs xs
  | .dl ds => ∃ vs, o = some (.lst vs) ∧ RepDs α G ρ vs ds ∧ Blw l ds
theorem MRep.up {α : Amb} {G G' : Hp} {ρ ρ' : List Addr} {l : Nat} {o : Option HO} {m : MO} (u : Up G ρ G' ρ') (h : MRep α G ρ l o m) : MRep α G' ρ' l o m := by
  cases m with
  | lst xs => obtain ⟨vs, e, r⟩ := h; exact ⟨vs, e, r.mono u.same⟩
  | ins c xs => obtain ⟨dx, vs, e, l, r⟩ := h; exact ⟨dx, vs, e, l, r.mono u.same⟩
  | dl ds => obtain ⟨vs, e, r, b⟩ := h; exact ⟨vs, e, r.up u, b⟩
theorem MRep.ne {α : Amb} {G : Hp} {ρ : List Addr} {l : Nat} {o : Option HO} {m : MO} (h : MRep α G ρ l o m) : o ≠ none := by
  cases m with
  | lst xs => obtain ⟨vs, e, r⟩ := h; rw [e]; intro z; cases z
  | ins c xs => obtain ⟨dx, vs, e, l, r⟩ := h; rw [e]; intro z; cases z
  | dl ds => obtain ⟨vs, e, r, b⟩ := h; rw [e]; intro z; cases z
theorem MRep.cut {α : Amb} {G : Hp} {ρ0 r : List Addr} {l : Nat} {o : Option HO} {m : MO} (hl : l ≤ ρ0.length) (h : MRep α G (ρ0 ++ r) l o m) : MRep α G ρ0 l o m := by
  cases m with
  | lst xs => exact h
  | ins c xs => exact h
  | dl ds => obtain ⟨vs, e, r, b⟩ := h; exact ⟨vs, e, r.cut hl b, b⟩

structure Zn (α : Amb) (H G : Hp) (ρ : List Addr) (μ : Mu) : Prop where
  sub : Same G H
  len : ρ.length = μ.length
  cell : ∀ (l : Nat) (m : MO), μ[l]? = some (some m) → ∃ a, ρ[l]? = some a ∧ G a = none ∧ MRep α G ρ l (H a) m
  inj : ∀ (l l' : Nat) (m m' : MO) (a : Addr), μ[l]? = some (some m) → μ[l']? = some (some m') → ρ[l]? = some a → ρ[l']? = some a → l = l'

theorem same_upd {H : Hp} {p : Addr} {o : HO} (h : H p = none) : Same H (upd H p o) := fun b x e => by
  rw [upd_ne (ne_of_none e h)]
  exact e
theorem up_new {G : Hp} {ρ : List Addr} {p : Addr} {o : HO} (h : G p = Option.none) : Up G ρ (upd G p o) ρ := ⟨same_upd h, [], (List.append_nil ρ).symm⟩
theorem up_place {G : Hp} {ρ : List Addr} {p : Addr} : Up G ρ G (ρ ++ [p]) := ⟨Same.refl G, [p], rfl⟩
theorem Zn.free {α : Amb} {H G : Hp} {ρ : List Addr} {μ : Mu} (z : Zn α H G ρ μ) {p : Addr} (h : H p = none) : G p = none := by
  cases e : G p with
  | none => rfl
  | some o => rw [z.sub _ _ e] at h; cases h
/-- a new object, into the ground -/
theorem Zn.new {α : Amb} {H G : Hp} {ρ : List Addr} {μ : Mu} (z : Zn α H G ρ μ) {p : Addr} (h : H p = none) (o : HO) : Zn α (upd H p o) (upd G p o) ρ μ := by
  have g := z.free h
  refine ⟨fun b x e => ?_, z.len, fun l m e => ?_, z.inj⟩
  · by_cases hb : b = p
    · subst hb; rw [upd_same] at e ⊢; exact e
    · rw [upd_ne hb] at e ⊢; exact z.sub _ _ e
  · obtain ⟨a, h1, h2, h3⟩ := z.cell l m e
    have hap : a ≠ p := fun q => by subst q; exact h3.ne h
    exact ⟨a, h1, by rw [upd_ne hap]; exact h2, by rw [upd_ne hap]; exact h3.up (up_new g)⟩
/-- a new object that is not told -/
theorem Zn.grow {α : Amb} {H H' G : Hp} {ρ : List Addr} {μ : Mu} (z : Zn α H G ρ μ) (s : Same H H') : Zn α H' G ρ μ := by
  refine ⟨z.sub.trans s, z.len, fun l m e => ?_, z.inj⟩
  obtain ⟨a, h1, h2, h3⟩ := z.cell l m e
  refine ⟨a, h1, h2, ?_⟩
  cases q : H a with
  | none => exact absurd q h3.ne
  | some o => rw [s _ _ q]; rw [q] at h3; exact h3
/-- a new place -/
theorem Zn.place {α : Amb} {H G : Hp} {ρ : List Addr} {μ : Mu} (z : Zn α H G ρ μ) {p : Addr} (h : H p = Option.none) {o : HO} {m : MO} (r : MRep α G ρ μ.length (some o) m) : Zn α (upd H p o) G (ρ ++ [p]) (μ ++ [some m]) := by
  have g := z.free h
  have old : ∀ {l : Nat} {m' : MO}, (μ ++ [some m])[l]? = some (some m') → (l < μ.length ∧ μ[l]? = some (some m')) ∨ (l = μ.length ∧ m' = m) := fun {l m'} e => by
    by_cases hl : l < μ.length
    · rw [List.getElem?_append_left hl] at e; exact .inl ⟨hl, e⟩
    · rw [List.getElem?_append_right (by omega)] at e
      by_cases h0 : l - μ.length = 0
      · rw [h0] at e
        simp at e
        exact .inr ⟨by omega, e.symm⟩
      · rw [List.getElem?_eq_none (by simp; omega)] at e; cases e
  have at_old : ∀ {l : Nat}, l < μ.length → (ρ ++ [p])[l]? = ρ[l]? := fun {l} hl => List.getElem?_append_left (by rw [z.len]; exact hl)
  have at_new : (ρ ++ [p])[μ.length]? = some p := by rw [← z.len]; simp
  refine ⟨fun b x e => ?_, by simp [z.len], fun l m' e => ?_, fun l l' m1 m2 a e1 e2 h1 h2 => ?_⟩
  · rw [upd_ne (ne_of_none e g)]; exact z.sub _ _ e
  · rcases old e with ⟨hl, e⟩ | ⟨rfl, rfl⟩
    · obtain ⟨a, h1, h2, h3⟩ := z.cell l m' e
      have hap : a ≠ p := fun q => by subst q; exact h3.ne h
      exact ⟨a, by rw [at_old hl]; exact h1, h2, by rw [upd_ne hap]; exact h3.up up_place⟩
    · exact ⟨p, at_new, g, by rw [upd_same]; exact r.up up_place⟩
  · have notp : ∀ {l : Nat} {m' : MO}, l < μ.length → μ[l]? = some (some m') → ρ[l]? ≠ some p := fun {l m'} hl e q => by
      obtain ⟨b, b1, b2, b3⟩ := z.cell l m' e
      rw [q] at b1; cases b1
      exact b3.ne h
    rcases old e1 with ⟨k1, f1⟩ | ⟨q1, _⟩ <;> rcases old e2 with ⟨k2, f2⟩ | ⟨q2, _⟩
    · rw [at_old k1] at h1; rw [at_old k2] at h2
      exact z.inj _ _ _ _ _ f1 f2 h1 h2
    · subst q2
      rw [at_old k1] at h1; rw [at_new] at h2; cases h2
      exact absurd h1 (notp k1 f1)
    · subst q1
      rw [at_old k2] at h2; rw [at_new] at h1; cases h1
      exact absurd h2 (notp k2 f2)
    · rw [q1, q2]
/-- a place is written -/
theorem Zn.write {α : Amb} {H G : Hp} {ρ : List Addr} {μ : Mu} (z : Zn α H G ρ μ) {l : Nat} {a : Addr} {m m' : MO} (hm : μ[l]? = some (some m)) (ha : ρ[l]? = some a) {o : HO} (r : MRep α G ρ l (some o) m') : Zn α (upd H a o) G ρ (μ.set l (some m')) := by
  have hl : l < μ.length := (List.getElem?_eq_some_iff.mp hm).1
  obtain ⟨a', h1, h2, h3⟩ := z.cell l m hm
  rw [ha] at h1; cases h1
  have live : ∀ {k : Nat} {mk : MO}, (μ.set l (some m'))[k]? = some (some mk) → ∃ mk', μ[k]? = some (some mk') := fun {k mk} e => by
    by_cases hk : l = k
    · subst hk; exact ⟨m, hm⟩
    · rw [List.getElem?_set_ne hk] at e; exact ⟨mk, e⟩
  refine ⟨fun b x e => ?_, by rw [List.length_set]; exact z.len, fun k mk e => ?_, fun k k' m1 m2 b e1 e2 g1 g2 => ?_⟩
  · rw [upd_ne (ne_of_none e h2)]; exact z.sub _ _ e
  · by_cases hk : l = k
    · subst hk
      rw [List.getElem?_set_self hl] at e
      cases e
      exact ⟨a, ha, h2, by rw [upd_same]; exact r⟩
    · rw [List.getElem?_set_ne hk] at e
      obtain ⟨b, b1, b2, b3⟩ := z.cell k mk e
      have hab : b ≠ a := fun q => by
        subst q
        exact hk (z.inj _ _ _ _ _ hm e ha b1)
      exact ⟨b, b1, b2, by rw [upd_ne hab]; exact b3⟩
  · obtain ⟨n1, e1⟩ := live e1
    obtain ⟨n2, e2⟩ := live e2
    exact z.inj _ _ _ _ _ e1 e2 g1 g2
/-- a place is taken into the ground -/
theorem Zn.freeze {α : Amb} {H G : Hp} {ρ : List Addr} {μ : Mu} (z : Zn α H G ρ μ) {l : Nat} {a : Addr} {m : MO} {o : HO} (hm : μ[l]? = some (some m)) (ha : ρ[l]? = some a) (ho : H a = some o) : Zn α H (upd G a o) ρ (μ.set l Option.none) ∧ G a = Option.none := by
  have hl : l < μ.length := (List.getElem?_eq_some_iff.mp hm).1
  obtain ⟨a', h1, h2, h3⟩ := z.cell l m hm
  rw [ha] at h1; cases h1
  have live : ∀ {k : Nat} {mk : MO}, (μ.set l Option.none)[k]? = some (some mk) → l ≠ k ∧ μ[k]? = some (some mk) := fun {k mk} e => by
    by_cases hk : l = k
    · subst hk; rw [List.getElem?_set_self hl] at e; cases e
    · rw [List.getElem?_set_ne hk] at e; exact ⟨hk, e⟩
  refine ⟨⟨fun b x e => ?_, by rw [List.length_set]; exact z.len, fun k mk e => ?_, fun k k' m1 m2 b e1 e2 g1 g2 => ?_⟩, h2⟩
  · by_cases hb : b = a
    · subst hb; rw [upd_same] at e; cases e; exact ho
    · rw [upd_ne hb] at e; exact z.sub _ _ e
  · obtain ⟨hk, e⟩ := live e
    obtain ⟨b, b1, b2, b3⟩ := z.cell k mk e
    have hab : b ≠ a := fun q => by
      subst q
      exact hk (z.inj _ _ _ _ _ hm e ha b1)
    exact ⟨b, b1, by rw [upd_ne hab]; exact b2, b3.up (up_new h2)⟩
  · exact z.inj _ _ _ _ _ (live e1).2 (live e2).2 g1 g2
/-- the places beyond n are forgotten -/
theorem Zn.cut {α : Amb} {H G : Hp} {ρ ρ0 : List Addr} {μ : Mu} (z : Zn α H G ρ μ) {r : List Addr} (e : ρ = ρ0 ++ r) : Zn α H G ρ0 (μ.take ρ0.length) := by
  subst e
  have hl : ρ0.length ≤ μ.length := by rw [← z.len, List.length_append]; omega
  have old : ∀ {l : Nat} {m : MO}, (μ.take ρ0.length)[l]? = some (some m) → l < ρ0.length ∧ μ[l]? = some (some m) := fun {l m} e => by
    by_cases h : l < ρ0.length
    · rw [List.getElem?_take_of_lt h] at e; exact ⟨h, e⟩
    · rw [List.getElem?_eq_none (by rw [List.length_take]; omega)] at e; cases e
  refine ⟨z.sub, by rw [List.length_take]; omega, fun l m e => ?_, fun l l' m m' a e1 e2 h1 h2 => ?_⟩
  · obtain ⟨h, e⟩ := old e
    obtain ⟨a, h1, h2, h3⟩ := z.cell l m e
    rw [List.getElem?_append_left h] at h1
    exact ⟨a, h1, h2, h3.cut (Nat.le_of_lt h)⟩
  · obtain ⟨k1, e1⟩ := old e1
    obtain ⟨k2, e2⟩ := old e2
    exact z.inj _ _ _ _ a e1 e2 (by rw [List.getElem?_append_left k1]; exact h1) (by rw [List.getElem?_append_left k2]; exact h2)

/-- the slots -/
structure Sq (α : Amb) (G : Hp) (ρ : List Addr) (σ : L2.St) (δ : Sl) : Prop where
  len : σ.length = δ.length
  get : ∀ (i : Nat) (d : D), δ[i]? = some (some d) → ∃ v, σ[i]? = some (some v) ∧ RepD α G ρ v d
theorem Sq.up {α : Amb} {G G' : Hp} {ρ ρ' : List Addr} {σ : L2.St} {δ : Sl} (s : Sq α G ρ σ δ) (u : Up G ρ G' ρ') : Sq α G' ρ' σ δ :=
  ⟨s.len, fun i d e => let ⟨v, h, r⟩ := s.get i d e; ⟨v, h, r.up u⟩⟩
theorem Sq.set {α : Amb} {G : Hp} {ρ : List Addr} {σ : L2.St} {δ : Sl} (s : Sq α G ρ σ δ) {v : V} {d : D} (r : RepD α G ρ v d) (i : Nat) : Sq α G ρ (σ.set i (some v)) (δ.set i (some d)) := by
  refine ⟨by rw [List.length_set, List.length_set]; exact s.len, fun j x e => ?_⟩
  by_cases h : i = j
  · subst h
    have hl : i < δ.length := by
      have := (List.getElem?_eq_some_iff.mp e).1
      rw [List.length_set] at this
      exact this
    rw [List.getElem?_set_self hl] at e
    cases e
    exact ⟨v, by rw [List.getElem?_set_self (by rw [s.len]; exact hl)], r⟩
  · rw [List.getElem?_set_ne h] at e ⊢
    exact s.get j x e
theorem Sq.start {α : Amb} {G : Hp} {ρ : List Addr} {N : List Str} {vs : List V} {ds : List D} (r : RepDs α G ρ vs ds) : Sq α G ρ (start N vs) (ds.map some ++ List.replicate (N.length - ds.length) none) := by
  unfold L2.start
  refine ⟨by simp [r.length], fun i d e => ?_⟩
  by_cases h : i < ds.length
  · rw [List.getElem?_append_left (by simpa using h), List.getElem?_map] at e
    cases q : ds[i]? with
    | none => rw [q] at e; cases e
    | some x =>
      rw [q] at e; cases e
      obtain ⟨v, h1, h2⟩ := r.get q
      exact ⟨v, by rw [List.getElem?_append_left (by simpa [r.length] using h), List.getElem?_map, h1]; rfl, h2⟩
  · rw [List.getElem?_append_right (by simpa using h), List.getElem?_replicate] at e
    split at e <;> cases e

/-! ### readings -/
inductive Out (β : Type) where
  | ok (x : β) | exc (c : Nat)
abbrev EvG (β : Type) := Sl → Mu → Option (Out β × Mu)
abbrev Ev := EvG D
abbrev EvA := EvG (List D)
abbrev EvT := EvG Bool
abbrev FSem := List D → Mu → Option (Out D × Mu)

section
variable (α : Amb) (W : WX)
/-- how a reading goes on: R v H' for what the value may be -/
def Post {β γ : Type} (rep : Hp → List Addr → γ → β → Prop) (G : Hp) (ρ : List Addr) (σ : L2.St) (Q : γ → Hp → Prop) : Option (Out β × Mu) → Prop
  | some (.ok x, μ') => ∀ v H' G' ρ', Up G ρ G' ρ' → Zn α H' G' ρ' μ' → rep G' ρ' v x → Q v H'
  | some (.exc c, μ') => ∀ H' G' ρ', Up G ρ G' ρ' → Zn α H' G' ρ' μ' → W (.ref (α.cl c)) none σ H'
  | none => False
def tG {β γ : Type} (rep : Hp → List Addr → γ → β → Prop) (ev : EvG β) : L2.St → Hp → (γ → Hp → Prop) → Prop :=
  fun σ H Q => ∃ G ρ δ μ, Zn α H G ρ μ ∧ Sq α G ρ σ δ ∧ Post α W rep G ρ σ Q (ev δ μ)
abbrev tV (ev : Ev) : TE := tG α W (RepD α) ev
abbrev tVs (ev : EvA) : TA := tG α W (RepDs α) ev
abbrev tVt (ev : EvT) : TT := tG α W (fun _ _ (b c : Bool) => b = c) ev
end
variable {α : Amb} {W : WX}

def bindG {β γ : Type} (m : Option (Out β × Mu)) (f : β → Mu → Option (Out γ × Mu)) : Option (Out γ × Mu) := match m with
  | some (.ok x, μ) => f x μ
  | some (.exc c, μ) => some (.exc c, μ)
  | none => none

theorem Post.mono {β γ : Type} {rep : Hp → List Addr → γ → β → Prop} {G : Hp} {ρ : List Addr} {σ : L2.St} {Q Q' : γ → Hp → Prop} {m : Option (Out β × Mu)} (h : Post α W rep G ρ σ Q m) (hq : ∀ v H, Q v H → Q' v H) : Post α W rep G ρ σ Q' m := by
  match m, h with
  | some (.ok x, μ'), h => exact fun v H' G' ρ' u z r => hq _ _ (h v H' G' ρ' u z r)
  | some (.exc c, μ'), h => exact h
/-- one reading behind another -/
theorem Post.bind {β γ β' γ' : Type} {rep : Hp → List Addr → γ → β → Prop} {rep' : Hp → List Addr → γ' → β' → Prop} {G : Hp} {ρ : List Addr} {σ : L2.St} {Q : γ → Hp → Prop} {Q' : γ' → Hp → Prop} {m : Option (Out β × Mu)} {f : β → Mu → Option (Out β' × Mu)}
    (h : Post α W rep' G ρ σ Q' (bindG m f))
    (go : ∀ x μ' v H' G' ρ', Up G ρ G' ρ' → Zn α H' G' ρ' μ' → rep G' ρ' v x → Post α W rep' G' ρ' σ Q' (f x μ') → Q v H') : Post α W rep G ρ σ Q m := by
  match m, h with
  | some (.ok x, μ'), h =>
    intro v H' G' ρ' u z r
    refine go x μ' v H' G' ρ' u z r ?_
    have h : Post α W rep' G ρ σ Q' (f x μ') := h
    match hf : f x μ', h with
    | some (.ok y, μ2), h => exact fun v2 H2 G2 ρ2 u2 z2 r2 => h v2 H2 G2 ρ2 (u.trans u2) z2 r2
    | some (.exc c, μ2), h => exact fun H2 G2 ρ2 u2 z2 => h H2 G2 ρ2 (u.trans u2) z2
  | some (.exc c, μ'), h => exact h

theorem PE.imp {X : Cx} {e : Expr} {t t' : TE} (h : PE X e t) (i : ∀ σ H Q, t' σ H Q → t σ H Q) : PE X e t' := ⟨fun pins s σ H Q I q => h.run pins s σ H Q I (i _ _ _ q)⟩
theorem PT.imp {X : Cx} {e : Expr} {t t' : TT} (h : PT X e t) (i : ∀ σ H Q, t' σ H Q → t σ H Q) : PT X e t' := ⟨fun pins s σ H Q I q => h.run pins s σ H Q I (i _ _ _ q)⟩
theorem PW.imp {X : Cx} {e : Expr} {t t' : TT} (h : PW X e t) (i : ∀ σ H Q, t' σ H Q → t σ H Q) : PW X e t' := ⟨fun w pins s σ H Q I q => h.run w pins s σ H Q I (i _ _ _ q)⟩
theorem PA.imp {X : Cx} {es : List Expr} {t t' : TA} (h : PA X es t) (i : ∀ σ H Q, t' σ H Q → t σ H Q) : PA X es t' := ⟨fun p pins s σ H Q I q => h.run p pins s σ H Q I (i _ _ _ q)⟩
theorem PS.imp {X : Cx} {st : Stmt} {t t' : TS} (h : PS X st t) (i : ∀ D σ H, t' D σ H → t D σ H) : PS X st t' := ⟨fun pins s σ H D I q => h.run pins s σ H D I (i _ _ _ q)⟩
theorem PSs.imp {X : Cx} {st : List Stmt} {t t' : TS} (h : PSs X st t) (i : ∀ D σ H, t' D σ H → t D σ H) : PSs X st t' := ⟨fun pins s σ H D I q => h.run pins s σ H D I (i _ _ _ q)⟩

end Vs
namespace Vs
open PySem PySem.Spec PyProof.Rows L2

theorem OpR.imp {X : Cx} {g : Value → Value → Sem Value} {r r' : R2} (h : OpR X g r) (i : ∀ x y H Q, r' x y H Q → r x y H Q) : OpR X g r' :=
  fun pins s σ H x y v u Q I rx ry q => h pins s σ H x y v u Q I rx ry (i _ _ _ _ q)
theorem UnR.imp {X : Cx} {g : Value → Sem Value} {r r' : V → Hp → VK → Prop} (h : UnR X g r) (i : ∀ x H Q, r' x H Q → r x H Q) : UnR X g r' := by
  intro pins s σ H x v Q I rx q
  exact h pins s σ H x v Q I rx (i _ _ _ q)
theorem CallR.imp {X : Cx} {f : Value} {r r' : List V → Hp → VK → Prop} (h : CallR X f r) (i : ∀ x H Q, r' x H Q → r x H Q) : CallR X f r' :=
  fun pins s σ H x v Q I rx q => h pins s σ H x v Q I rx (i _ _ _ q)
theorem IxR.imp {X : Cx} {r r' : R2} (h : IxR X r) (i : ∀ x y H Q, r' x y H Q → r x y H Q) : IxR X r' := by
  intro e1 e2 pins s σ H x y v u Q I rx ry q hs
  exact h e1 e2 pins s σ H x y v u Q I rx ry (i _ _ _ _ q) hs
theorem MtR.imp {X : Cx} {id : String} {r r' : V → List V → Hp → VK → Prop} (h : MtR X id r) (i : ∀ x y H Q, r' x y H Q → r x y H Q) : MtR X id r' :=
  fun pins s σ H x y v u Q I rx ry q => h pins s σ H x y v u Q I rx ry (i _ _ _ _ q)

section
variable {α : Amb} {W : WX} {X : Cx}

/-! ### constants and names -/
def evC (x : P) : Ev := fun _ μ => some (.ok (.p x), μ)
theorem v_const {e : Expr} {v : V} {x : P} (h : PE X e (tC v)) (r : ∀ G, Rep α G v x) : PE X e (tV α W (evC x)) :=
  PE.imp h fun σ H Q ⟨G, ρ, δ, μ, z, s, p⟩ => p v H G ρ Up.refl z (r G)
theorem v_int {i j pos} : PE X (.Constant (.int i) j pos) (tV α W (evC (.int i))) := v_const pe_int fun _ => .int i
theorem v_bl {b j pos} : PE X (.Constant (.bool b) j pos) (tV α W (evC (.bl b))) := v_const pe_bl fun _ => .bl b
theorem v_non {j pos} : PE X (.Constant .none j pos) (tV α W (evC .non)) := v_const pe_non fun _ => .non
theorem v_str {x j pos} : PE X (.Constant (.str x) j pos) (tV α W (evC (.str x))) := v_const pe_str fun _ => .str x
def evV (i : Nat) : Ev := fun δ μ => match δ[i]? with
  | some (some d) => some (.ok d, μ)
  | _ => none
theorem v_var' {i : Nat} {e : Expr} (h : PE X e (tVar i)) : PE X e (tV α W (evV i)) :=
  PE.imp h fun σ H Q ⟨G, ρ, δ, μ, z, s, p⟩ => by
    unfold evV at p
    cases q : δ[i]? with
    | none => rw [q] at p; exact p.elim
    | some o =>
      cases o with
      | none => rw [q] at p; exact p.elim
      | some d =>
        rw [q] at p
        obtain ⟨v, h1, h2⟩ := s.get i d q
        exact ⟨v, h1, p v H G ρ Up.refl z h2⟩
theorem v_var (i : Nat) {x : Str} {pos : Pos} (hN : X.N[i]? = some x := by rfl) (hv : Vis X.env.scope x := by first | exact Or.inl rfl | exact Or.inr (Or.inl rfl) | exact Or.inr (Or.inr rfl)) (hd : (x == ("__debug__" : Str)) = false := by decide)
    (hcd : (x == ("__classdict__" : Str)) = false := by decide) : PE X (.Name x pos) (tV α W (evV i)) := v_var' (pe_var hN hv hd hcd)

/-! ### two operands -/
abbrev F2 := D → D → Mu → Option (D × Mu)
def okm (m : Option (D × Mu)) : Option (Out D × Mu) := match m with
  | some (d, μ) => some (.ok d, μ)
  | none => none
def evBin (f : F2) (a b : Ev) : Ev := fun δ μ => bindG (a δ μ) fun x μ1 => bindG (b δ μ1) fun y μ2 => okm (f x y μ2)
/-- what is asked of a value's making -/
def Fin1 (α : Amb) (G : Hp) (ρ : List Addr) (Q : VK) : Option (D × Mu) → Prop
  | some (d, μ') => ∀ v H' G' ρ', Up G ρ G' ρ' → Zn α H' G' ρ' μ' → RepD α G' ρ' v d → Q v H'
  | none => False
theorem Post.fin {G : Hp} {ρ : List Addr} {σ : L2.St} {Q : VK} {m : Option (D × Mu)} (h : Post α W (RepD α) G ρ σ Q (okm m)) : Fin1 α G ρ Q m := by
  match m, h with
  | some (d, μ'), h => exact h
def r2V (α : Amb) (f : F2) : R2 := fun x y H Q => ∃ G ρ μ dx dy, Zn α H G ρ μ ∧ RepD α G ρ x dx ∧ RepD α G ρ y dy ∧ Fin1 α G ρ Q (f dx dy μ)
theorem bin_imp {f : F2} {ea eb : Ev} {r : R2} {σ : L2.St} {H : Hp} {Q : VK} (i : ∀ x y H Q, r2V α f x y H Q → r x y H Q) (h : tV α W (evBin f ea eb) σ H Q) : tOp r (tV α W ea) (tV α W eb) σ H Q := by
  obtain ⟨G, ρ, δ, μ, z, s, p⟩ := h
  refine ⟨G, ρ, δ, μ, z, s, Post.bind p fun x μ1 v H1 G1 ρ1 u z1 r1 p1 => ?_⟩
  refine ⟨G1, ρ1, δ, μ1, z1, s.up u, Post.bind p1 fun y μ2 w H2 G2 ρ2 u2 z2 r2 p2 => ?_⟩
  exact i _ _ _ _ ⟨G2, ρ2, μ2, x, y, z2, r1.up u2, r2, p2.fin⟩
section
variable {a b : Expr} {ea eb : Ev} {pos : Pos} {f : F2}
theorem v_bin {op : Operator} (ho : OpR X (binaryOp op) (r2V α f)) (ha : PE X a (tV α W ea)) (hb : PE X b (tV α W eb)) : PE X (.BinOp a op b pos) (tV α W (evBin f ea eb)) :=
  PE.imp (pe_op ho ha hb) fun σ H Q h => bin_imp (fun _ _ _ _ q => q) h
theorem v_cmp {op : CmpOp} (ho : OpR X (compareOp op) (r2V α f)) (ha : PE X a (tV α W ea)) (hb : PE X b (tV α W eb)) (hm : behindInMarks op b = false := by first | exact nomark _ | rfl) : PE X (.Compare a [op] [b] pos) (tV α W (evBin f ea eb)) :=
  PE.imp (pe_cmpR ho ha hb hm) fun σ H Q h => bin_imp (fun _ _ _ _ q => q) h
theorem v_ix (ho : IxR X (r2V α f)) (ha : PE X a (tV α W ea)) (hb : PE X b (tV α W eb)) (hs : PlainIx b := by exact fun _ _ => rfl) : PE X (.Subscript a b pos) (tV α W (evBin f ea eb)) :=
  PE.imp (pe_ix ho ha hb hs) fun σ H Q h => bin_imp (fun _ _ _ _ q => q) h
end

/-- ints to an int -/
def fII (C : Int → Int → Bool) (g : Int → Int → P) : F2 := fun x y μ => match x, y with
  | .p (.int i), .p (.int j) => if C i j = true then some (.p (g i j), μ) else none
  | _, _ => none
theorem repInt {G : Hp} {x : V} {i : Int} (h : Rep α G x (.int i)) : x = .int i := by cases h; rfl
theorem repStr {G : Hp} {x : V} {i : Str} (h : Rep α G x (.str i)) : x = .str i := by cases h; rfl
theorem repBl {G : Hp} {x : V} {i : Bool} (h : Rep α G x (.bl i)) : x = .bl i := by cases h; rfl
theorem repNon {G : Hp} {x : V} (h : Rep α G x .non) : x = .non := by cases h; rfl
theorem fII_imp {C : Int → Int → Bool} {g : Int → Int → P} {C' : Int → Int → Prop} {gv : Int → Int → V} (hC : ∀ i j, C i j = true → C' i j) (hg : ∀ i j G, Rep α G (gv i j) (g i j)) {x y : V} {H : Hp} {Q : VK}
    (h : r2V α (fII C g) x y H Q) : rI C' gv x y H Q := by
  obtain ⟨G, ρ, μ, dx, dy, z, rx, ry, q⟩ := h
  unfold fII at q
  split at q
  · rename_i i j
    split at q
    · rename_i c
      exact ⟨i, j, repInt rx, repInt ry, hC _ _ c, q _ H G ρ Up.refl z (hg i j G)⟩
    · exact q.elim
  · exact q.elim
theorem fII_imp0 {g : Int → Int → P} {gv : Int → Int → V} (hg : ∀ i j G, Rep α G (gv i j) (g i j)) {x y : V} {H : Hp} {Q : VK}
    (h : r2V α (fII (fun _ _ => true) g) x y H Q) : rI0 gv x y H Q := by
  obtain ⟨i, j, a, b, _, c⟩ := fII_imp (C' := fun _ _ => True) (fun _ _ _ => trivial) hg h
  exact ⟨i, j, a, b, c⟩
abbrev fAdd : F2 := fII (fun _ _ => true) fun i j => .int (i + j)
abbrev fSub : F2 := fII (fun _ _ => true) fun i j => .int (i - j)
/-- the sizes of a product's factors -/
def mulOk (i j : Int) : Bool := decide (i.natAbs.log2 + j.natAbs.log2 < 1000000)
def divOk (i j : Int) : Bool := decide (j ≠ 0) && decide (j.natAbs.log2 < 9000)
def powOk (i j : Int) : Bool := decide (0 ≤ j) && decide (j ≤ 1000000) && decide (i.natAbs < 2 ^ 64)
abbrev fMul : F2 := fII mulOk fun i j => .int (i * j)
abbrev fDiv : F2 := fII divOk fun i j => .int (i.fdiv j)
abbrev fMod : F2 := fII (fun _ j => decide (j ≠ 0)) fun i j => .int (i.fmod j)
abbrev fPow : F2 := fII powOk fun i j => .int (i ^ j.toNat)
theorem o_add : OpR X (binaryOp .Add) (r2V α fAdd) := OpR.imp op_add fun _ _ _ _ h => fII_imp0 (fun i j G => .int _) h
theorem o_sub : OpR X (binaryOp .Sub) (r2V α fSub) := OpR.imp op_sub fun _ _ _ _ h => fII_imp0 (fun i j G => .int _) h
theorem o_mul : OpR X (binaryOp .Mult) (r2V α fMul) := OpR.imp op_mulW fun _ _ _ _ h => fII_imp (fun i j c => by
  unfold mulOk at c
  have c := of_decide_eq_true c
  exact c) (fun i j G => .int _) h
theorem op_fdivG : OpR X (binaryOp .FloorDiv) (rI (fun _ j => j ≠ 0 ∧ j.natAbs.log2 < 9000) fun i j => .int (i.fdiv j)) := opI fun _ _ _ _ _ _ _ hc q => floordiv_int hc.1 q (.inl (PyProof.noPylong_of_log2 hc.2))
theorem o_div : OpR X (binaryOp .FloorDiv) (r2V α fDiv) := OpR.imp op_fdivG fun _ _ _ _ h => fII_imp (fun i j c => by
  unfold divOk at c
  rw [Bool.and_eq_true] at c
  exact ⟨of_decide_eq_true c.1, of_decide_eq_true c.2⟩) (fun i j G => .int _) h
theorem o_mod : OpR X (binaryOp .Mod) (r2V α fMod) := OpR.imp op_modN fun _ _ _ _ h => fII_imp (fun i j c => of_decide_eq_true c) (fun i j G => .int _) h
theorem o_pow : OpR X (binaryOp .Pow) (r2V α fPow) := OpR.imp op_pow fun _ _ _ _ h => fII_imp (fun i j c => by
  unfold powOk at c
  rw [Bool.and_eq_true, Bool.and_eq_true] at c
  exact ⟨of_decide_eq_true c.1.1, of_decide_eq_true c.1.2, of_decide_eq_true c.2⟩) (fun i j G => .int _) h
abbrev fLt : F2 := fII (fun _ _ => true) fun i j => .bl (decide (i < j))
abbrev fLe : F2 := fII (fun _ _ => true) fun i j => .bl (decide (i ≤ j))
abbrev fGt : F2 := fII (fun _ _ => true) fun i j => .bl (decide (j < i))
abbrev fGe : F2 := fII (fun _ _ => true) fun i j => .bl (decide (j ≤ i))
theorem o_lt : OpR X (compareOp .Lt) (r2V α fLt) := OpR.imp op_lt fun _ _ _ _ h => fII_imp0 (fun i j G => .bl _) h
theorem o_le : OpR X (compareOp .LtE) (r2V α fLe) := OpR.imp op_le fun _ _ _ _ h => fII_imp0 (fun i j G => .bl _) h
theorem o_gt : OpR X (compareOp .Gt) (r2V α fGt) := OpR.imp op_gt fun _ _ _ _ h => fII_imp0 (fun i j G => .bl _) h
theorem o_ge : OpR X (compareOp .GtE) (r2V α fGe) := OpR.imp op_ge fun _ _ _ _ h => fII_imp0 (fun i j G => .bl _) h

/-! ### == of data at any depth -/
mutual
def toPD : P → Option PyData
  | .non => some .none
  | .bl b => some (.bool b)
  | .int i => some (.int i)
  | .str s => some (.str s)
  | .tup xs => (toPDs xs).map .tuple
  | .lst xs => (toPDs xs).map .list
  | .wl xs => (toPDs xs).map .list
  | .obj _ _ => none
def toPDs : List P → Option (List PyData)
  | [] => some []
  | x :: xs => match toPD x, toPDs xs with
    | some d, some ds => some (d :: ds)
    | _, _ => none
end
mutual
theorem rep_dp {G H : Hp} (s : Same G H) : ∀ {v : V} {x : P} {d : PyData}, Rep α G v x → toPD x = some d → Dp α.K H v d
  | _, _, d, .non, e => by simp [toPD] at e; subst e; exact .non
  | _, _, d, .bl b, e => by simp [toPD] at e; subst e; exact .bl b
  | _, _, d, .int i, e => by simp [toPD] at e; subst e; exact .int i
  | _, _, d, .str z, e => by simp [toPD] at e; subst e; exact .str z
  | _, _, d, .tup h r, e => by
    simp only [toPD, Option.map_eq_some_iff] at e
    obtain ⟨ds, e, rfl⟩ := e
    exact .tup (seqT s h) (reps_dp s r e)
  | _, _, d, .lst h r, e => by
    simp only [toPD, Option.map_eq_some_iff] at e
    obtain ⟨ds, e, rfl⟩ := e
    exact .lst (SqL.of (s _ _ h)) (reps_dp s r e)
  | _, _, d, .wl h r, e => by
    simp only [toPD, Option.map_eq_some_iff] at e
    obtain ⟨ds, e, rfl⟩ := e
    exact .lst (seqL s h) (reps_dp s r e)
  | _, _, d, .obj _ _ _, e => by simp [toPD] at e
theorem reps_dp {G H : Hp} (s : Same G H) : ∀ {vs : List V} {xs : List P} {ds : List PyData}, Reps α G vs xs → toPDs xs = some ds → DpAll α.K H vs ds
  | _, _, ds, .nil, e => by simp [toPDs] at e; subst e; exact .nil
  | _, _, ds, .cons h t, e => by
    simp only [toPDs] at e
    split at e
    · rename_i d ds' h1 h2
      cases e
      exact .cons (rep_dp s h h1) (reps_dp s t h2)
    · cases e
end
/-- the list at a place -/
def cellL (μ : Mu) (l : Nat) : Option (List P) := match μ[l]? with
  | some (some (.lst xs)) => some xs
  | _ => none
theorem cellL_some {μ : Mu} {l : Nat} {xs : List P} (h : cellL μ l = some xs) : μ[l]? = some (some (.lst xs)) := by
  unfold cellL at h
  split at h
  · rename_i ys e; cases h; exact e
  · cases h
/-- the data that a value shows: itself, or what stands at its place -/
def view (μ : Mu) : D → Option P
  | .p x => some x
  | .loc l => (cellL μ l).map .lst
theorem view_loc {μ : Mu} {l : Nat} {x : P} (h : view μ (.loc l) = some x) : ∃ xs, x = .lst xs ∧ μ[l]? = some (some (.lst xs)) := by
  have h : (cellL μ l).map P.lst = some x := h
  rw [Option.map_eq_some_iff] at h
  obtain ⟨xs, h1, rfl⟩ := h
  exact ⟨xs, rfl, cellL_some h1⟩
theorem view_dp {H G : Hp} {ρ : List Addr} {μ : Mu} (z : Zn α H G ρ μ) {v : V} {d : D} {x : P} {y : PyData} (r : RepD α G ρ v d) (e : view μ d = some x) (h : toPD x = some y) : Dp α.K H v y := by
  cases d with
  | p x' => cases e; exact rep_dp z.sub r h
  | loc l =>
    obtain ⟨xs, rfl, hx⟩ := view_loc e
    obtain ⟨a, rfl, ha⟩ := r
    obtain ⟨a', h1, h2, vs, h3, h4⟩ := z.cell l _ hx
    rw [ha] at h1; cases h1
    simp only [toPD, Option.map_eq_some_iff] at h
    obtain ⟨ds, h, rfl⟩ := h
    exact .lst (SqL.of h3) (reps_dp z.sub h4 h)
/-- == of two plain values of one kind -/
def eqAt : P → P → Option Bool
  | .int i, .int j => some (decide (i = j))
  | .str i, .str j => some (decide (i = j))
  | .bl i, .bl j => some (decide (i = j))
  | .non, .non => some true
  | _, _ => none
def eqDeep (x y : P) : Option Bool := match toPD x, toPD y with
  | some d, some e => if SeqAt.shaped d && SeqAt.shaped e then some (PyData.eqv d e) else none
  | _, _ => none
def eqP (x y : P) : Option Bool := match eqAt x y with
  | some b => some b
  | none => eqDeep x y
def fEqG (neg : Bool) : F2 := fun x y μ => match view μ x, view μ y with
  | some x, some y => match eqP x y with
    | some b => some (.p (.bl (if neg then !b else b)), μ)
    | none => none
  | _, _ => none
abbrev fEq : F2 := fEqG false
abbrev fNe : F2 := fEqG true
theorem view_at {H G : Hp} {ρ : List Addr} {μ : Mu} (z : Zn α H G ρ μ) {v w : V} {d e : D} {x y : P} {b : Bool} (r : RepD α G ρ v d) (r2 : RepD α G ρ w e) (h : view μ d = some x) (h2 : view μ e = some y) (hb : eqAt x y = some b) : scal v w = true ∧ decide (v = w) = b := by
  have hx : d = .p x := by
    cases d with
    | p x' => cases h; rfl
    | loc l => obtain ⟨xs, rfl, _⟩ := view_loc h; cases y <;> cases hb
  have hy : e = .p y := by
    cases e with
    | p x' => cases h2; rfl
    | loc l => obtain ⟨xs, rfl, _⟩ := view_loc h2; cases x <;> cases hb
  subst hx; subst hy
  cases x <;> cases y <;> first | (cases hb; done) | skip
  all_goals (cases r; cases r2; cases hb; refine ⟨rfl, ?_⟩)
  all_goals first
    | rfl
    | (rename_i i j; by_cases q : i = j <;> simp [q])
theorem fEq_imp {neg : Bool} {x y : V} {H : Hp} {Q : VK} (h : r2V α (fEqG neg) x y H Q) : (scal x y = true ∧ Q (.bl (if neg then !decide (x = y) else decide (x = y))) H) ∨ ∃ d e, Dp α.K H x d ∧ Dp α.K H y e ∧ SeqAt.shaped d = true ∧ SeqAt.shaped e = true ∧ Q (.bl (if neg then !PyData.eqv d e else PyData.eqv d e)) H := by
  obtain ⟨G, ρ, μ, dx, dy, z, rx, ry, q⟩ := h
  unfold fEqG at q
  split at q
  · rename_i x' y' h1 h2
    split at q
    · rename_i b hb
      unfold eqP at hb
      split at hb
      · rename_i b' hb'
        cases hb
        obtain ⟨h3, h4⟩ := view_at z rx ry h1 h2 hb'
        exact .inl ⟨h3, by rw [h4]; exact q _ H G ρ Up.refl z (.bl _)⟩
      · unfold eqDeep at hb
        split at hb
        · rename_i d e hd he
          split at hb
          · rename_i hs
            cases hb
            rw [Bool.and_eq_true] at hs
            exact .inr ⟨d, e, view_dp z rx h1 hd, view_dp z ry h2 he, hs.1, hs.2, q _ H G ρ Up.refl z (.bl _)⟩
          · cases hb
        · cases hb
    · exact q.elim
  · exact q.elim
theorem o_eq (hu : X.A.units + 64 < cLine) (hK : X.K = α.K) : OpR X (compareOp .Eq) (r2V α fEq) := OpR.imp (op_eq.or (op_eqD hu)) fun _ _ _ _ h => by rw [hK]; exact fEq_imp h
theorem o_ne (hu : X.A.units + 64 < cLine) (hK : X.K = α.K) : OpR X (compareOp .NotEq) (r2V α fNe) := OpR.imp (op_ne.or (op_neD hu)) fun _ _ _ _ h => by rw [hK]; exact fEq_imp h
/-- x is None -/
def isNon : D → Bool
  | .p .non => true
  | _ => false
def fIs (neg : Bool) : F2 := fun x y μ => match y with
  | .p .non => some (.p (.bl (if neg then !isNon x else isNon x)), μ)
  | _ => none
theorem rep_non {G : Hp} {ρ : List Addr} {v : V} {d : D} (r : RepD α G ρ v d) : decide (v = V.non) = isNon d := by
  cases d with
  | loc l => obtain ⟨a, rfl, _⟩ := r; simp [isNon]
  | p x => cases r <;> simp [isNon]
theorem o_is : OpR X (compareOp .Is) (r2V α (fIs false)) := OpR.imp op_isN fun x y H Q h => by
  obtain ⟨G, ρ, μ, dx, dy, z, rx, ry, q⟩ := h
  unfold fIs at q
  split at q
  · refine ⟨repNon ry, ?_⟩
    rw [rep_non rx]
    exact q _ H G ρ Up.refl z (.bl _)
  · exact q.elim
theorem o_isnot : OpR X (compareOp .IsNot) (r2V α (fIs true)) := OpR.imp op_notN fun x y H Q h => by
  obtain ⟨G, ρ, μ, dx, dy, z, rx, ry, q⟩ := h
  unfold fIs at q
  split at q
  · refine ⟨repNon ry, ?_⟩
    rw [rep_non rx]
    exact q _ H G ρ Up.refl z (.bl _)
  · exact q.elim

/-! ### items -/
def fIx : F2 := fun x y μ => match view μ x, y with
  | some (.lst xs), .p (.int i) => (atI xs i).map fun v => (.p v, μ)
  | some (.wl xs), .p (.int i) => (atI xs i).map fun v => (.p v, μ)
  | some (.tup xs), .p (.int i) => (atI xs i).map fun v => (.p v, μ)
  | some (.str z), .p (.int i) => if z.length ≤ sizeLine then (atI z.cps.toList i).map fun c => (.p (.str ⟨#[c]⟩), μ) else none
  | _, _ => none
/-- a value shows a list -/
theorem view_lst {H G : Hp} {ρ : List Addr} {μ : Mu} (z : Zn α H G ρ μ) {v : V} {d : D} {xs : List P} (r : RepD α G ρ v d) (e : view μ d = some (.lst xs)) : ∃ a vs, v = .ref a ∧ H a = some (.lst vs) ∧ Reps α G vs xs := by
  cases d with
  | p x' => cases e; cases r with
    | lst h r => exact ⟨_, _, rfl, z.sub _ _ h, r⟩
  | loc l =>
    obtain ⟨xs', e', hx⟩ := view_loc e
    cases e'
    obtain ⟨a, rfl, ha⟩ := r
    obtain ⟨a', h1, h2, vs, h3, h4⟩ := z.cell l _ hx
    rw [ha] at h1; cases h1
    exact ⟨a, vs, rfl, h3, h4⟩
theorem view_tup {H G : Hp} {ρ : List Addr} {μ : Mu} (z : Zn α H G ρ μ) {v : V} {d : D} {xs : List P} (r : RepD α G ρ v d) (e : view μ d = some (.tup xs)) : ∃ a vs, v = .ref a ∧ SqT α.K H a vs ∧ Reps α G vs xs := by
  cases d with
  | p x' => cases e; cases r with
    | tup h r => exact ⟨_, _, rfl, seqT z.sub h, r⟩
  | loc l =>
    obtain ⟨xs', e', hx⟩ := view_loc e
    cases e'
theorem view_wl {H G : Hp} {ρ : List Addr} {μ : Mu} (z : Zn α H G ρ μ) {v : V} {d : D} {xs : List P} (r : RepD α G ρ v d) (e : view μ d = some (.wl xs)) : ∃ a vs, v = .ref a ∧ SqL α.K H a vs ∧ Reps α G vs xs := by
  cases d with
  | p x' => cases e; cases r with
    | wl h r => exact ⟨_, _, rfl, seqL z.sub h, r⟩
  | loc l =>
    obtain ⟨xs', e', hx⟩ := view_loc e
    cases e'
theorem view_str {H G : Hp} {ρ : List Addr} {μ : Mu} (z : Zn α H G ρ μ) {v : V} {d : D} {x : Str} (r : RepD α G ρ v d) (e : view μ d = some (.str x)) : v = .str x := by
  cases d with
  | p x' => cases e; exact repStr r
  | loc l =>
    obtain ⟨xs', e', hx⟩ := view_loc e
    cases e'
theorem reps_at {G : Hp} {vs : List V} {xs : List P} {i : Int} {x : P} (r : Reps α G vs xs) (h : atI xs i = some x) : ∃ v, atI vs i = some v ∧ Rep α G v x := by
  unfold atI at h ⊢
  rw [r.length]
  cases q : ixN xs.length i with
  | none => rw [q] at h; cases h
  | some j =>
    rw [q] at h
    obtain ⟨v, h1, h2⟩ := r.get (show xs[j]? = some x from h)
    exact ⟨v, h1, h2⟩
theorem o_ix (hK : X.K = α.K) : IxR X (r2V α fIx) := IxR.imp ix_seq fun x y H Q h => by
  obtain ⟨G, ρ, μ, dx, dy, z, rx, ry, q⟩ := h
  unfold fIx at q
  rw [hK]
  split at q
  · rename_i xs i hv
    cases hi : atI xs i with
    | none => rw [hi] at q; exact q.elim
    | some v =>
      rw [hi] at q
      obtain ⟨a, vs, rfl, h1, h2⟩ := view_lst z rx hv
      obtain ⟨u, h3, h4⟩ := reps_at h2 hi
      exact .inl ⟨a, vs, i, u, rfl, repInt ry, SqL.of h1, h3, q u H G ρ Up.refl z h4⟩
  · rename_i xs i hv
    cases hi : atI xs i with
    | none => rw [hi] at q; exact q.elim
    | some v =>
      rw [hi] at q
      obtain ⟨a, vs, rfl, h1, h2⟩ := view_wl z rx hv
      obtain ⟨u, h3, h4⟩ := reps_at h2 hi
      exact .inl ⟨a, vs, i, u, rfl, repInt ry, h1, h3, q u H G ρ Up.refl z h4⟩
  · rename_i xs i hv
    cases hi : atI xs i with
    | none => rw [hi] at q; exact q.elim
    | some v =>
      rw [hi] at q
      obtain ⟨a, vs, rfl, h1, h2⟩ := view_tup z rx hv
      obtain ⟨u, h3, h4⟩ := reps_at h2 hi
      exact .inr (.inl ⟨a, vs, i, u, rfl, repInt ry, h1, h3, q u H G ρ Up.refl z h4⟩)
  · rename_i zz i hv
    split at q
    · rename_i hl
      cases hi : atI zz.cps.toList i with
      | none => rw [hi] at q; exact q.elim
      | some c =>
        rw [hi] at q
        have e := view_str z rx hv
        subst e
        exact .inr (.inr ⟨zz, i, c, rfl, repInt ry, hl, hi, q _ H G ρ Up.refl z (.str _)⟩)
    · exact q.elim
  · exact q.elim

/-! ### one operand -/
abbrev F1 := D → Mu → Option (D × Mu)
def evUn (f : F1) (a : Ev) : Ev := fun δ μ => bindG (a δ μ) fun x μ1 => okm (f x μ1)
def r1V (α : Amb) (f : F1) : V → Hp → VK → Prop := fun x H Q => ∃ G ρ μ dx, Zn α H G ρ μ ∧ RepD α G ρ x dx ∧ Fin1 α G ρ Q (f dx μ)
theorem un_imp {f : F1} {ea : Ev} {σ : L2.St} {H : Hp} {Q : VK} (h : tV α W (evUn f ea) σ H Q) : tV α W ea σ H (fun x H1 => r1V α f x H1 Q) := by
  obtain ⟨G, ρ, δ, μ, z, s, p⟩ := h
  exact ⟨G, ρ, δ, μ, z, s, Post.bind p fun x μ1 v H1 G1 ρ1 u z1 r1 p1 => ⟨G1, ρ1, μ1, x, z1, r1, p1.fin⟩⟩
theorem v_un {op : UnaryOp} {a : Expr} {ea : Ev} {pos : Pos} {f : F1} (ho : UnR X (unaryOp op) (r1V α f)) (ha : PE X a (tV α W ea)) : PE X (.UnaryOp op a pos) (tV α W (evUn f ea)) :=
  PE.imp (pe_un ho ha) fun σ H Q h => un_imp h
def fNeg : F1 := fun x μ => match x with
  | .p (.int i) => some (.p (.int (-i)), μ)
  | _ => none
theorem o_neg : UnR X (unaryOp .USub) (r1V α fNeg) := UnR.imp un_neg fun x H Q h => by
  obtain ⟨G, ρ, μ, dx, z, rx, q⟩ := h
  unfold fNeg at q
  split at q
  · rename_i i
    exact ⟨i, repInt rx, q _ H G ρ Up.refl z (.int _)⟩
  · exact q.elim

/-! ### tests -/
def evB (a : Ev) : EvT := fun δ μ => bindG (a δ μ) fun x μ1 => match x with
  | .p (.bl b) => some (.ok b, μ1)
  | _ => none
theorem v_test {e : Expr} {ea : Ev} (h : PE X e (tV α W ea)) (he : ∀ whole, isTrue e X.env whole = (do let v ← whole; standAt e.pos; holding [v] (truthy v)) := by intro _; rfl) : PT X e (tVt α W (evB ea)) :=
  PT.imp (pt_val h he) fun σ H Q ⟨G, ρ, δ, μ, z, s, p⟩ => ⟨G, ρ, δ, μ, z, s, Post.bind p fun x μ1 v H1 G1 ρ1 u z1 r1 p1 => by
    split at p1
    · rename_i b
      exact ⟨b, repBl r1, p1 b H1 G1 ρ1 Up.refl z1 rfl⟩
    · exact p1.elim⟩
theorem v_tcmp {op : CmpOp} {a b : Expr} {ea eb : Ev} {pos : Pos} {f : F2} (ho : OpR X (compareOp op) (r2V α f)) (ha : PE X a (tV α W ea)) (hb : PE X b (tV α W eb)) (hm : behindInMarks op b = false := by first | exact nomark _ | rfl) : PT X (.Compare a [op] [b] pos) (tVt α W (evB (evBin f ea eb))) :=
  PT.imp (pt_cmpR ho ha hb hm) fun σ H Q ⟨G, ρ, δ, μ, z, s, p⟩ => bin_imp (Q := fun x H' => ∃ k, x = .bl k ∧ Q k H') (fun _ _ _ _ q => q) ⟨G, ρ, δ, μ, z, s, Post.bind p fun x μ1 v H1 G1 ρ1 u z1 r1 p1 => by
    split at p1
    · rename_i b
      exact ⟨b, repBl r1, p1 b H1 G1 ρ1 Up.refl z1 rfl⟩
    · exact p1.elim⟩
/-- a value of any kind as a test: lists, tuples, ints, texts, None -/
def truP : P → Option Bool
  | .non => some false
  | .bl b => some b
  | .int i => some (i != 0)
  | .lst xs => some (!xs.isEmpty)
  | .tup xs => some (!xs.isEmpty)
  | .str x => if x.length ≤ sizeLine then some (x.length != 0) else none
  | _ => none
def evTru (a : Ev) : EvT := fun δ μ => bindG (a δ μ) fun x μ1 => match view μ1 x with
  | some y => (truP y).map fun b => (.ok b, μ1)
  | none => none
theorem reps_empty {G : Hp} {vs : List V} {xs : List P} (r : Reps α G vs xs) : vs.isEmpty = xs.isEmpty := by cases r <;> rfl
def tNotV (a : EvT) : EvT := fun δ μ => bindG (a δ μ) fun b μ1 => some (.ok (!b), μ1)
theorem v_tnot {a : Expr} {ea : EvT} {pos : Pos} (h : PT X a (tVt α W ea)) : PT X (.UnaryOp .Not a pos) (tVt α W (tNotV ea)) :=
  PT.imp (pt_not h) fun σ H Q ⟨G, ρ, δ, μ, z, s, p⟩ => ⟨G, ρ, δ, μ, z, s, Post.bind p fun x μ1 v H1 G1 ρ1 u z1 r1 p1 => by
    subst r1
    exact p1 (!v) H1 G1 ρ1 Up.refl z1 rfl⟩
def tAndV' (a b : EvT) : EvT := fun δ μ => bindG (a δ μ) fun x μ1 => if x = true then b δ μ1 else some (.ok false, μ1)
def tOrV' (a b : EvT) : EvT := fun δ μ => bindG (a δ μ) fun x μ1 => if x = true then some (.ok true, μ1) else b δ μ1
theorem tg_of {β γ : Type} {rep : Hp → List Addr → γ → β → Prop} {ev : EvG β} {G G' : Hp} {ρ ρ' : List Addr} {σ : L2.St} {H : Hp} {δ : Sl} {μ : Mu} {Q : γ → Hp → Prop} (z : Zn α H G' ρ' μ) (s : Sq α G ρ σ δ) (u : Up G ρ G' ρ') (p : Post α W rep G' ρ' σ Q (ev δ μ)) : tG α W rep ev σ H Q := ⟨G', ρ', δ, μ, z, s.up u, p⟩
section
variable {a b : Expr} {rest : List Expr} {ea eb : EvT} {pos : Pos}
theorem v_and1 (h : PT X a (tVt α W ea)) : PW X (.BoolOp .And [a] pos) (tVt α W ea) := pw_and1 h
theorem v_or1 (h : PT X a (tVt α W ea)) : PW X (.BoolOp .Or [a] pos) (tVt α W ea) := pw_or1 h
theorem v_tand (ha : PT X a (tVt α W ea)) (hb : PW X (.BoolOp .And (b :: rest) pos) (tVt α W eb)) : PW X (.BoolOp .And (a :: b :: rest) pos) (tVt α W (tAndV' ea eb)) :=
  PW.imp (pw_and ha hb) fun σ H Q ⟨G, ρ, δ, μ, z, s, p⟩ => ⟨G, ρ, δ, μ, z, s, Post.bind p fun x μ1 v H1 G1 ρ1 u z1 r1 p1 => by
    subst r1
    cases v with
    | true => exact iteT (tg_of z1 s u p1)
    | false => exact iteF (p1 false H1 G1 ρ1 Up.refl z1 rfl)⟩
theorem v_tor (ha : PT X a (tVt α W ea)) (hb : PW X (.BoolOp .Or (b :: rest) pos) (tVt α W eb)) : PW X (.BoolOp .Or (a :: b :: rest) pos) (tVt α W (tOrV' ea eb)) :=
  PW.imp (pw_or ha hb) fun σ H Q ⟨G, ρ, δ, μ, z, s, p⟩ => ⟨G, ρ, δ, μ, z, s, Post.bind p fun x μ1 v H1 G1 ρ1 u z1 r1 p1 => by
    subst r1
    cases v with
    | false => exact iteF (tg_of z1 s u p1)
    | true => exact iteT (p1 true H1 G1 ρ1 Up.refl z1 rfl)⟩
end
/-! ### and, or, not, if as values -/
def evAnd (a b : Ev) : Ev := fun δ μ => bindG (a δ μ) fun x μ1 => match x with
  | .p (.bl true) => b δ μ1
  | .p (.bl false) => some (.ok (.p (.bl false)), μ1)
  | _ => none
def evOr (a b : Ev) : Ev := fun δ μ => bindG (a δ μ) fun x μ1 => match x with
  | .p (.bl false) => b δ μ1
  | .p (.bl true) => some (.ok (.p (.bl true)), μ1)
  | _ => none
def fNot : F1 := fun x μ => match x with
  | .p (.bl b) => some (.p (.bl (!b)), μ)
  | _ => none
section
variable {a b : Expr} {rest : List Expr} {ea eb : Ev} {pos : Pos}
theorem v_one {op} (h : PE X a (tV α W ea)) : PE X (.BoolOp op [a] pos) (tV α W ea) := pe_one h
theorem v_and (ha : PE X a (tV α W ea)) (hb : PE X (.BoolOp .And (b :: rest) pos) (tV α W eb)) : PE X (.BoolOp .And (a :: b :: rest) pos) (tV α W (evAnd ea eb)) :=
  PE.imp (pe_and ha hb) fun σ H Q ⟨G, ρ, δ, μ, z, s, p⟩ => ⟨G, ρ, δ, μ, z, s, Post.bind p fun x μ1 v H1 G1 ρ1 u z1 r1 p1 => by
    split at p1
    · exact ⟨true, repBl r1, iteT (tg_of z1 s u p1)⟩
    · exact ⟨false, repBl r1, iteF (p1 _ H1 G1 ρ1 Up.refl z1 (.bl _))⟩
    · exact p1.elim⟩
theorem v_or (ha : PE X a (tV α W ea)) (hb : PE X (.BoolOp .Or (b :: rest) pos) (tV α W eb)) : PE X (.BoolOp .Or (a :: b :: rest) pos) (tV α W (evOr ea eb)) :=
  PE.imp (pe_or ha hb) fun σ H Q ⟨G, ρ, δ, μ, z, s, p⟩ => ⟨G, ρ, δ, μ, z, s, Post.bind p fun x μ1 v H1 G1 ρ1 u z1 r1 p1 => by
    split at p1
    · exact ⟨false, repBl r1, iteF (tg_of z1 s u p1)⟩
    · exact ⟨true, repBl r1, iteT (p1 _ H1 G1 ρ1 Up.refl z1 (.bl _))⟩
    · exact p1.elim⟩
theorem v_not (ha : PE X a (tV α W ea)) : PE X (.UnaryOp .Not a pos) (tV α W (evUn fNot ea)) :=
  PE.imp (pe_not ha) fun σ H Q ⟨G, ρ, δ, μ, z, s, p⟩ => ⟨G, ρ, δ, μ, z, s, Post.bind p fun x μ1 v H1 G1 ρ1 u z1 r1 p1 => by
    have p1 := p1.fin
    unfold fNot at p1
    split at p1
    · exact ⟨_, repBl r1, p1 _ H1 G1 ρ1 Up.refl z1 (.bl _)⟩
    · exact p1.elim⟩
def evIf (c : EvT) (a b : Ev) : Ev := fun δ μ => bindG (c δ μ) fun x μ1 => if x = true then a δ μ1 else b δ μ1
theorem v_ifExp {c : Expr} {ec : EvT} (hc : PT X c (tVt α W ec)) (ha : PE X a (tV α W ea)) (hb : PE X b (tV α W eb)) : PE X (.IfExp c a b pos) (tV α W (evIf ec ea eb)) :=
  PE.imp (pe_ifExp hc ha hb) fun σ H Q ⟨G, ρ, δ, μ, z, s, p⟩ => ⟨G, ρ, δ, μ, z, s, Post.bind p fun x μ1 v H1 G1 ρ1 u z1 r1 p1 => by
    subst r1
    cases v with
    | true => exact iteT (tg_of z1 s u p1)
    | false => exact iteF (tg_of z1 s u p1)⟩
end

/-! ### arguments, displays -/
def evNil : EvA := fun _ μ => some (.ok [], μ)
def evCons (a : Ev) (r : EvA) : EvA := fun δ μ => bindG (a δ μ) fun x μ1 => bindG (r δ μ1) fun xs μ2 => some (.ok (x :: xs), μ2)
theorem va_nil : PA X [] (tVs α W evNil) := PA.imp pa_nil fun σ H Q ⟨G, ρ, δ, μ, z, s, p⟩ => p [] H G ρ Up.refl z .nil
theorem va_cons {e : Expr} {es : List Expr} {ea : Ev} {er : EvA} (ha : PE X e (tV α W ea)) (hr : PA X es (tVs α W er)) (hs : starEach (e :: es) X.env = (false, eval e X.env) :: starEach es X.env := by rfl) : PA X (e :: es) (tVs α W (evCons ea er)) :=
  PA.imp (pa_cons ha hr hs) fun σ H Q ⟨G, ρ, δ, μ, z, s, p⟩ => ⟨G, ρ, δ, μ, z, s, Post.bind p fun x μ1 v H1 G1 ρ1 u z1 r1 p1 =>
    ⟨G1, ρ1, δ, μ1, z1, s.up u, Post.bind p1 fun xs μ2 vs H2 G2 ρ2 u2 z2 r2 p2 => p2 (v :: vs) H2 G2 ρ2 Up.refl z2 (.cons (r1.up u2) r2)⟩⟩
/-- a value, taken into the ground if it stands at a place -/
def toP (μ : Mu) : D → Option (P × Mu)
  | .p x => some (x, μ)
  | .loc l => (cellL μ l).map fun xs => (.lst xs, μ.set l none)
def toPs (μ : Mu) : List D → Option (List P × Mu)
  | [] => some ([], μ)
  | d :: ds => match toP μ d with
    | some (x, μ1) => match toPs μ1 ds with
      | some (xs, μ2) => some (x :: xs, μ2)
      | none => none
    | none => none
theorem toP_ok {H G : Hp} {ρ : List Addr} {μ μ' : Mu} (z : Zn α H G ρ μ) {v : V} {d : D} {x : P} (r : RepD α G ρ v d) (e : toP μ d = some (x, μ')) : ∃ G', Up G ρ G' ρ ∧ Zn α H G' ρ μ' ∧ Rep α G' v x := by
  cases d with
  | p y => cases e; exact ⟨G, Up.refl, z, r⟩
  | loc l =>
    have e : (cellL μ l).map (fun xs => (P.lst xs, μ.set l none)) = some (x, μ') := e
    rw [Option.map_eq_some_iff] at e
    obtain ⟨xs, hx, e⟩ := e
    cases e
    have hx := cellL_some hx
    obtain ⟨a, rfl, ha⟩ := r
    obtain ⟨a', h1, h2, vs, h3, h4⟩ := z.cell l _ hx
    rw [ha] at h1; cases h1
    obtain ⟨z', g⟩ := z.freeze hx ha h3
    exact ⟨upd G a (.lst vs), up_new g, z', .lst upd_same (h4.mono (same_upd g))⟩
theorem toPs_ok {H : Hp} {ρ : List Addr} : ∀ {ds : List D} {G : Hp} {μ μ' : Mu} {vs : List V} {xs : List P}, Zn α H G ρ μ → RepDs α G ρ vs ds → toPs μ ds = some (xs, μ') → ∃ G', Up G ρ G' ρ ∧ Zn α H G' ρ μ' ∧ Reps α G' vs xs
  | [], G, μ, μ', _, xs, z, .nil, e => by cases e; exact ⟨G, Up.refl, z, .nil⟩
  | d :: ds, G, μ, μ', _, xs, z, .cons r t, e => by
    unfold toPs at e
    split at e
    · rename_i x μ1 h1
      obtain ⟨G1, u1, z1, r1⟩ := toP_ok z r h1
      split at e
      · rename_i xs' μ2 h2
        cases e
        obtain ⟨G2, u2, z2, r2⟩ := toPs_ok z1 (t.up u1) h2
        exact ⟨G2, u1.trans u2, z2, .cons (r1.mono u2.same) r2⟩
      · cases e
    · cases e
def evTup (r : EvA) : Ev := fun δ μ => bindG (r δ μ) fun ds μ1 => match toPs μ1 ds with
  | some (xs, μ2) => if xs.length ≤ sizeLine then some (.ok (.p (.tup xs)), μ2) else none
  | none => none
def evLst (r : EvA) : Ev := fun δ μ => bindG (r δ μ) fun ds μ1 => match toPs μ1 ds with
  | some (xs, μ2) => if xs.length ≤ sizeLine then some (.ok (.p (.lst xs)), μ2) else none
  | none => none
/-- a list that will change -/
def evLstC (r : EvA) : Ev := fun δ μ => bindG (r δ μ) fun ds μ1 => match toPs μ1 ds with
  | some (xs, μ2) => if xs.length ≤ sizeLine then some (.ok (.loc μ2.length), μ2 ++ [some (.lst xs)]) else none
  | none => none
section
variable {es : List Expr} {er : EvA} {pos : Pos}
theorem v_tup {x1} (h : PA X es (tVs α W er)) : PE X (.Tuple es x1 pos) (tV α W (evTup er)) :=
  PE.imp (pe_tup h) fun σ H Q ⟨G, ρ, δ, μ, z, s, p⟩ => ⟨G, ρ, δ, μ, z, s, Post.bind p fun ds μ1 vs H1 G1 ρ1 u z1 r1 p1 => by
    split at p1
    · rename_i xs μ2 h2
      obtain ⟨G2, u2, z2, r2⟩ := toPs_ok z1 r1 h2
      split at p1
      · rename_i hl
        exact ⟨by rw [r2.length]; exact hl, fun a na => p1 _ _ _ _ (u2.trans (up_new (z2.free na))) (z2.new na _) (.tup (SqT.of upd_same) (r2.mono (same_upd (z2.free na))))⟩
      · exact p1.elim
    · exact p1.elim⟩
theorem v_lst (h : PA X es (tVs α W er)) : PE X (.List es pos) (tV α W (evLst er)) :=
  PE.imp (pe_lst h) fun σ H Q ⟨G, ρ, δ, μ, z, s, p⟩ => ⟨G, ρ, δ, μ, z, s, Post.bind p fun ds μ1 vs H1 G1 ρ1 u z1 r1 p1 => by
    split at p1
    · rename_i xs μ2 h2
      obtain ⟨G2, u2, z2, r2⟩ := toPs_ok z1 r1 h2
      split at p1
      · rename_i hl
        exact ⟨by rw [r2.length]; exact hl, fun a na => p1 _ _ _ _ (u2.trans (up_new (z2.free na))) (z2.new na _) (.lst upd_same (r2.mono (same_upd (z2.free na))))⟩
      · exact p1.elim
    · exact p1.elim⟩
theorem v_lstC (h : PA X es (tVs α W er)) : PE X (.List es pos) (tV α W (evLstC er)) :=
  PE.imp (pe_lst h) fun σ H Q ⟨G, ρ, δ, μ, z, s, p⟩ => ⟨G, ρ, δ, μ, z, s, Post.bind p fun ds μ1 vs H1 G1 ρ1 u z1 r1 p1 => by
    split at p1
    · rename_i xs μ2 h2
      obtain ⟨G2, u2, z2, r2⟩ := toPs_ok z1 r1 h2
      split at p1
      · rename_i hl
        exact ⟨by rw [r2.length]; exact hl, fun a na => p1 _ _ _ _ (u2.trans up_place) (z2.place na ⟨vs, rfl, r2⟩) ⟨a, rfl, by rw [← z2.len]; simp⟩⟩
      · exact p1.elim
    · exact p1.elim⟩
end
end
end Vs
namespace Vs
open PySem PySem.Spec PyProof.Rows L2

/-! ### statements -/
inductive Fl where
  | nx | ret (d : D) | brk | cont | exc (c : Nat)
abbrev SEv := Sl → Mu → Option (Fl × Sl × Mu)
section
variable (α : Amb) (W : WX)
def SPost (Dn : Ends) (G : Hp) (ρ : List Addr) : Option (Fl × Sl × Mu) → Prop
  | some (.nx, δ', μ') => ∀ σ' H' G' ρ', Up G ρ G' ρ' → Zn α H' G' ρ' μ' → Sq α G' ρ' σ' δ' → Dn.nx σ' H'
  | some (.brk, δ', μ') => ∀ σ' H' G' ρ', Up G ρ G' ρ' → Zn α H' G' ρ' μ' → Sq α G' ρ' σ' δ' → Dn.bk σ' H'
  | some (.cont, δ', μ') => ∀ σ' H' G' ρ', Up G ρ G' ρ' → Zn α H' G' ρ' μ' → Sq α G' ρ' σ' δ' → Dn.ct σ' H'
  | some (.ret d, δ', μ') => ∀ v H' G' ρ', Up G ρ G' ρ' → Zn α H' G' ρ' μ' → RepD α G' ρ' v d → Dn.rt v H'
  | some (.exc c, δ', μ') => ∀ σ' H' G' ρ', Up G ρ G' ρ' → Zn α H' G' ρ' μ' → Sq α G' ρ' σ' δ' → W (.ref (α.cl c)) none σ' H'
  | none => False
def tS (sv : SEv) : TS := fun Dn σ H => ∃ G ρ δ μ, Zn α H G ρ μ ∧ Sq α G ρ σ δ ∧ SPost α W Dn G ρ (sv δ μ)
end
section
variable {α : Amb} {W : WX} {X : Cx}
theorem SPost.up {Dn : Ends} {G G1 : Hp} {ρ ρ1 : List Addr} {r : Option (Fl × Sl × Mu)} (h : SPost α W Dn G ρ r) (u : Up G ρ G1 ρ1) : SPost α W Dn G1 ρ1 r := by
  match r, h with
  | some (.nx, δ', μ'), h => exact fun σ' H' G' ρ' u' => h σ' H' G' ρ' (u.trans u')
  | some (.brk, δ', μ'), h => exact fun σ' H' G' ρ' u' => h σ' H' G' ρ' (u.trans u')
  | some (.cont, δ', μ'), h => exact fun σ' H' G' ρ' u' => h σ' H' G' ρ' (u.trans u')
  | some (.ret d, δ', μ'), h => exact fun v H' G' ρ' u' => h v H' G' ρ' (u.trans u')
  | some (.exc c, δ', μ'), h => exact fun σ' H' G' ρ' u' => h σ' H' G' ρ' (u.trans u')
def bindS {β : Type} (m : Option (Out β × Mu)) (δ : Sl) (f : β → Mu → Option (Fl × Sl × Mu)) : Option (Fl × Sl × Mu) := match m with
  | some (.ok x, μ) => f x μ
  | some (.exc c, μ) => some (.exc c, δ, μ)
  | none => none
theorem SPost.bind {β γ : Type} {rep : Hp → List Addr → γ → β → Prop} {Dn : Ends} {G : Hp} {ρ : List Addr} {σ : L2.St} {δ : Sl} {Q : γ → Hp → Prop} {m : Option (Out β × Mu)} {f : β → Mu → Option (Fl × Sl × Mu)}
    (h : SPost α W Dn G ρ (bindS m δ f)) (s : Sq α G ρ σ δ)
    (go : ∀ x μ' v H' G' ρ', Up G ρ G' ρ' → Zn α H' G' ρ' μ' → rep G' ρ' v x → SPost α W Dn G' ρ' (f x μ') → Q v H') : Post α W rep G ρ σ Q m := by
  match m, h with
  | some (.ok x, μ'), h => exact fun v H' G' ρ' u z r => go x μ' v H' G' ρ' u z r (SPost.up (r := f x μ') h u)
  | some (.exc c, μ'), h => exact fun H' G' ρ' u z => h σ H' G' ρ' u z (s.up u)

def seqS (a b : SEv) : SEv := fun δ μ => match a δ μ with
  | some (.nx, δ', μ') => b δ' μ'
  | r => r
def sNil : SEv := fun δ μ => some (.nx, δ, μ)
section
variable {st : Stmt} {rest : List Stmt} {a b : SEv}
theorem vs_nil : PSs X [] (tS α W sNil) := PSs.imp pss_nil fun D σ H ⟨G, ρ, δ, μ, z, s, p⟩ => p σ H G ρ Up.refl z s
theorem vs_one (h : PS X st (tS α W a)) : PSs X [st] (tS α W a) := pss_one h
theorem vs_cons (h1 : PS X st (tS α W a)) (h2 : PSs X rest (tS α W b)) : PSs X (st :: rest) (tS α W (seqS a b)) :=
  PSs.imp (pss_cons h1 h2) fun Dn σ H ⟨G, ρ, δ, μ, z, s, p⟩ => by
    refine ⟨G, ρ, δ, μ, z, s, ?_⟩
    unfold seqS at p
    match q : a δ μ, p with
    | some (.nx, δ', μ'), p => exact fun σ' H' G' ρ' u z' s' => ⟨G', ρ', δ', μ', z', s', SPost.up (r := b δ' μ') p u⟩
    | some (.brk, δ', μ'), p => exact p
    | some (.cont, δ', μ'), p => exact p
    | some (.ret d, δ', μ'), p => exact p
    | some (.exc c, δ', μ'), p => exact p
end
def sSet (i : Nat) (e : Ev) : SEv := fun δ μ => bindS (e δ μ) δ fun d μ1 => some (.nx, δ.set i (some d), μ1)
theorem v_set (i : Nat) {x : Str} {e : Expr} {ev : Ev} {pos pos' : Pos} (hN : X.N.Nodup) (he : PE X e (tV α W ev)) (hi : X.N[i]? = some x := by rfl) (hx : Loc X.env.scope x := by first | exact Or.inl rfl | exact Or.inr rfl) (hs : swapsWith e (some (.Name x pos')) pos.line X.env = pure false := by rfl)
    (hf : X.fn x = true ∨ X.env.scope.names.lookup x = some .local := by first | exact .inl rfl | exact .inr rfl | assumption) : PS X (.Assign [.Name x pos'] e pos) (tS α W (sSet i ev)) :=
  PS.imp (ps_set (i := i) hN hi hx he hs hf) fun Dn σ H ⟨G, ρ, δ, μ, z, s, p⟩ => ⟨G, ρ, δ, μ, z, s, SPost.bind p s fun d μ1 v H1 G1 ρ1 u z1 r1 p1 => p1 _ H1 G1 ρ1 Up.refl z1 ((s.up u).set r1 i)⟩
def sRet (e : Ev) : SEv := fun δ μ => bindS (e δ μ) δ fun d μ1 => some (.ret d, δ, μ1)
theorem v_ret {e : Expr} {ev : Ev} {pos : Pos} (he : PE X e (tV α W ev)) : PS X (.Return (some e) pos) (tS α W (sRet ev)) :=
  PS.imp (ps_ret he) fun Dn σ H ⟨G, ρ, δ, μ, z, s, p⟩ => ⟨G, ρ, δ, μ, z, s, SPost.bind p s fun d μ1 v H1 G1 ρ1 u z1 r1 p1 => p1 _ H1 G1 ρ1 Up.refl z1 r1⟩
def sRetN : SEv := fun δ μ => some (.ret (.p .non), δ, μ)
theorem v_retN {pos : Pos} : PS X (.Return none pos) (tS α W sRetN) :=
  PS.imp ps_retN fun Dn σ H ⟨G, ρ, δ, μ, z, s, p⟩ => p _ H G ρ Up.refl z .non
def sExpr (e : Ev) : SEv := fun δ μ => bindS (e δ μ) δ fun d μ1 => some (.nx, δ, μ1)
theorem v_expr {e : Expr} {ev : Ev} {pos : Pos} (he : PE X e (tV α W ev)) (hs : swapsWith e none pos.line X.env = pure false := by rfl) : PS X (.Expr e pos) (tS α W (sExpr ev)) :=
  PS.imp (ps_expr he hs) fun Dn σ H ⟨G, ρ, δ, μ, z, s, p⟩ => ⟨G, ρ, δ, μ, z, s, SPost.bind p s fun d μ1 v H1 G1 ρ1 u z1 r1 p1 => p1 _ H1 G1 ρ1 Up.refl z1 (s.up u)⟩
def sIf (c : EvT) (a b : SEv) : SEv := fun δ μ => bindS (c δ μ) δ fun x μ1 => if x = true then a δ μ1 else b δ μ1
theorem v_if {c : Expr} {ec : EvT} {as bs : List Stmt} {a b : SEv} {pos : Pos} (hc : PT X c (tVt α W ec)) (ha : PSs X as (tS α W a)) (hb : PSs X bs (tS α W b)) : PS X (.If c as bs pos) (tS α W (sIf ec a b)) :=
  PS.imp (ps_if hc ha hb) fun Dn σ H ⟨G, ρ, δ, μ, z, s, p⟩ => ⟨G, ρ, δ, μ, z, s, SPost.bind p s fun x μ1 v H1 G1 ρ1 u z1 r1 p1 => by
    subst r1
    cases v with
    | true => exact iteT ⟨G1, ρ1, δ, μ1, z1, s.up u, p1⟩
    | false => exact iteF ⟨G1, ρ1, δ, μ1, z1, s.up u, p1⟩⟩
def sBrk : SEv := fun δ μ => some (.brk, δ, μ)
def sCont : SEv := fun δ μ => some (.cont, δ, μ)
theorem v_break {pos : Pos} : PS X (.Break pos) (tS α W sBrk) := PS.imp ps_break fun Dn σ H ⟨G, ρ, δ, μ, z, s, p⟩ => p σ H G ρ Up.refl z s
theorem v_continue {pos : Pos} : PS X (.Continue pos) (tS α W sCont) := PS.imp ps_continue fun Dn σ H ⟨G, ρ, δ, μ, z, s, p⟩ => p σ H G ρ Up.refl z s
theorem v_pass {pos : Pos} : PS X (.Pass pos) (tS α W sNil) := PS.imp ps_pass fun Dn σ H ⟨G, ρ, δ, μ, z, s, p⟩ => p σ H G ρ Up.refl z s

/-- a, b = e1, e2 -/
def sPar (i j : Nat) (e : EvA) : SEv := fun δ μ => bindS (e δ μ) δ fun ds μ1 => match ds with
  | [x, y] => some (.nx, (δ.set i (some x)).set j (some y), μ1)
  | _ => none
theorem sq_par {G : Hp} {ρ : List Addr} {σ : L2.St} {δ : Sl} {i j : Nat} {v w : V} {x y : D} (s : Sq α G ρ σ δ) (r1 : RepD α G ρ v x) (r2 : RepD α G ρ w y) : Sq α G ρ ((σ.set i (some v)).set j (some w)) ((δ.set i (some x)).set j (some y)) := (s.set r1 i).set r2 j

/-! ### targets of walks -/
abbrev Tgt := P → Sl → Option Sl
def VG (α : Amb) (X : Cx) (tg : Expr) (ts : Tgt) : Prop := ∃ g : TG, PG X tg g ∧ ∀ G ρ H μ σ δ v x δ' (Q : L2.St → Hp → Prop), Zn α H G ρ μ → Sq α G ρ σ δ → Rep α G v x → ts x δ = some δ' → (∀ σ', Sq α G ρ σ' δ' → Q σ' H) → g v σ H Q
def tgN (i : Nat) : Tgt := fun x δ => some (δ.set i (some (.p x)))
theorem vg_name (i : Nat) {x : Str} {pos : Pos} (hN : X.N.Nodup) (hi : X.N[i]? = some x := by rfl) (hx : Loc X.env.scope x := by first | exact Or.inl rfl | exact Or.inr rfl) (hf : X.fn x = true ∨ X.env.scope.names.lookup x = some .local := by first | exact .inl rfl | exact .inr rfl | assumption) :
    VG α X (.Name x pos) (tgN i) :=
  ⟨gName i, pg_name hN hi hx hf, fun G ρ H μ σ δ v x δ' Q z s r e k => by cases e; exact k _ (s.set (show RepD α G ρ v (.p x) from r) i)⟩
/-- a, b, .. -/
def setAll : List Nat → List P → Sl → Option Sl
  | [], [], δ => some δ
  | i :: is, x :: xs, δ => setAll is xs (δ.set i (some (.p x)))
  | _, _, _ => none
def tgT (is : List Nat) : Tgt := fun x δ => match x with
  | .tup xs => setAll is xs δ
  | _ => none
def VGs (α : Amb) (X : Cx) (tgs : List Expr) (is : List Nat) : Prop := ∃ g : TGs, PGs X tgs g ∧ ∀ G ρ H μ σ δ vs xs δ' (Q : L2.St → Hp → Prop), Zn α H G ρ μ → Sq α G ρ σ δ → Reps α G vs xs → setAll is xs δ = some δ' → (∀ σ', Sq α G ρ σ' δ' → Q σ' H) → g vs σ H Q
theorem vgs_nil : VGs α X [] [] := ⟨gNil, pgs_nil, fun G ρ H μ σ δ vs xs δ' Q z s r e k => by
  cases r with
  | nil => cases e; exact ⟨rfl, k _ s⟩
  | cons _ _ => cases e⟩
theorem vgs_cons (i : Nat) {x : Str} {pos : Pos} {es : List Expr} {is : List Nat} (hN : X.N.Nodup) (h : VGs α X es is) (hi : X.N[i]? = some x := by rfl) (hx : Loc X.env.scope x := by first | exact Or.inl rfl | exact Or.inr rfl) (hf : X.fn x = true ∨ X.env.scope.names.lookup x = some .local := by first | exact .inl rfl | exact .inr rfl | assumption)
    (hs : (assignEach (.Name x pos :: es) X.env).map (·.2) = assign (.Name x pos) X.env :: (assignEach es X.env).map (·.2) := by rfl) : VGs α X (.Name x pos :: es) (i :: is) := by
  obtain ⟨g, pg, hg⟩ := h
  refine ⟨gCons (gName i) g, pgs_cons (pg_name hN hi hx hf) pg hs, fun G ρ H μ σ δ vs xs δ' Q z s r e k => ?_⟩
  cases r with
  | nil => cases e
  | cons r t => exact ⟨_, _, rfl, hg G ρ H μ _ _ _ _ _ Q z (s.set (show RepD α G ρ _ (.p _) from r) i) t e k⟩
theorem setAll_len : ∀ {is : List Nat} {xs : List P} {δ δ' : Sl}, setAll is xs δ = some δ' → xs.length = is.length
  | [], [], _, _, _ => rfl
  | _ :: is, _ :: xs, _, _, e => congrArg (· + 1) (setAll_len (is := is) (xs := xs) e)
  | [], _ :: _, _, _, e => by cases e
  | _ :: _, [], _, _, e => by cases e
theorem vg_tup {es : List Expr} {is : List Nat} {k : Nat} {pos : Pos} (hK : X.K = α.K) (hc : X.calm = true) (h : VGs α X es is) (hn : (assignEach es X.env).length = is.length := by rfl) (hst : (assignEach es X.env).findIdx? (·.1) = none := by rfl) : VG α X (.Tuple es k pos) (tgT is) := by
  obtain ⟨g, pg, hg⟩ := h
  refine ⟨gTup X.K is.length g, pg_tup hc pg hn hst, fun G ρ H μ σ δ v x δ' Q z s r e k => ?_⟩
  cases r <;> try (cases e; done)
  rename_i a vs xs hT hr
  have e : setAll is xs δ = some δ' := e
  exact ⟨a, vs, rfl, by rw [hK]; exact seqT z.sub hT, by rw [hr.length]; exact setAll_len e, hg G ρ H μ _ _ _ _ _ Q z s hr e k⟩
/-- target = e, the target several names -/
def sAsgT (ts : Tgt) (e : Ev) : SEv := fun δ μ => bindS (e δ μ) δ fun d μ1 => match d with
  | .p x => (ts x δ).map fun δ' => (.nx, δ', μ1)
  | _ => none
theorem v_asgT {tg e : Expr} {ts : Tgt} {ev : Ev} {pos : Pos} (hg : VG α X tg ts) (he : PE X e (tV α W ev)) (hs : swapsWithSole [tg] e pos.line X.env = pure false := by rfl) (hw : swappedStores [tg] e X.env = pure none := by rfl) (h1 : (assignEach [tg] X.env).map (·.2) = [assign tg X.env] := by rfl) : PS X (.Assign [tg] e pos) (tS α W (sAsgT ts ev)) := by
  obtain ⟨g, pg, hg⟩ := hg
  refine PS.imp (ps_asg he pg hs hw h1) fun Dn σ H ⟨G, ρ, δ, μ, z, s, p⟩ => ⟨G, ρ, δ, μ, z, s, SPost.bind p s fun d μ1 v H1 G1 ρ1 u z1 r1 p1 => ?_⟩
  cases d with
  | loc l => exact p1.elim
  | p x =>
    cases q : ts x δ with
    | none => dsimp only at p1; rw [q] at p1; exact p1.elim
    | some δ' =>
      dsimp only at p1
      rw [q] at p1
      exact hg G1 ρ1 H1 μ1 σ δ v x δ' _ z1 (s.up u) r1 q fun σ' s' => p1 σ' H1 G1 ρ1 Up.refl z1 s'

/-! ### walks -/
/-- J yields xs, one by one, whatever is made meanwhile -/
def JOk (α : Amb) (J : It) (xs : List P) (G1 : Hp) : Prop := ∀ i H G ρ μ, Same G1 G → Zn α H G ρ μ →
  (∀ x, xs[i]? = some x → J.go i H ∧ ∀ v H', J.yld i H v H' → ∃ G', Up G ρ G' ρ ∧ Zn α H' G' ρ μ ∧ Rep α G' v x) ∧ (xs.length ≤ i → J.stop i H)
def VI (α : Amb) (W : WX) (X : Cx) (tg iter : Expr) (ev : EvG (List P)) : Prop := ∃ wi : TI, PI X tg iter wi ∧ ∀ σ H G ρ δ μ (R : It → Hp → Prop), Zn α H G ρ μ → Sq α G ρ σ δ →
  Post α W (fun G' _ (J : It) xs => JOk α J xs G') G ρ σ R (ev δ μ) → wi σ H R
def asList (x : P) : Option (List P) := match x with
  | .lst xs => some xs
  | .wl xs => some xs
  | .tup xs => some xs
  | _ => none
def evIt (e : Ev) : EvG (List P) := fun δ μ => bindG (e δ μ) fun d μ1 => match toP μ1 d with
  | some (x, μ2) => (asList x).map fun xs => (.ok xs, μ2)
  | none => none
theorem pi_seq {tg l : Expr} {tl : TE} (hl : PE X l tl) : PI X tg l (fun σ H R => tl σ H fun x H1 => ∃ a, x = .ref a ∧ (((∃ xs, SqL X.K H1 a xs) ∧ R (Itl X.K a) H1) ∨ ((∃ xs, SqT X.K H1 a xs) ∧ R (Itt X.K a) H1))) := by
  refine ⟨fun pins s σ H R I h => ?_⟩
  refine thn (hl.run pins s σ H _ I h) fun v s1 ⟨x, H1, I1, r1, q1⟩ => ?_
  obtain ⟨a, e, q⟩ := q1
  subst e
  cases r1
  rcases q with ⟨⟨xs, hq⟩, q⟩ | ⟨⟨xs, hq⟩, q⟩
  · obtain ⟨its, rv, p, hz⟩ := I1.list hq
    refine wpAny_pyIter_list p.isList ?_
    refine ⟨s1.heap.objs.size, [s1.heap.objs.size], _, _, H1, rfl, I1.kept (t' := s1.toks) fun b o e => Heap.get?_push_of_some _ e, turn_list a _, ⟨_, Heap.get?_push_size _ rfl, rfl, rfl⟩, fun b hb => ?_, q⟩
    have e : b = s1.heap.objs.size := by simpa using hb
    subst e
    exact I1.fpOk (Nat.le_refl _) (I1.hok.fresh (Nat.le_refl _))
  · obtain ⟨its, rv, p, hz⟩ := I1.tuple hq
    refine wpAny_pyIter_tuple (show s1.heap.IsTuple a its.toArray from p) ?_
    refine ⟨s1.heap.objs.size, [s1.heap.objs.size], _, _, H1, rfl, I1.kept (t' := s1.toks) fun b o e => Heap.get?_push_of_some _ e, turn_tuple a _, ⟨_, Heap.get?_push_size _ rfl, rfl, rfl⟩, fun b hb => ?_, q⟩
    have e : b = s1.heap.objs.size := by simpa using hb
    subst e
    exact I1.fpOk (Nat.le_refl _) (I1.hok.fresh (Nat.le_refl _))
section
variable {tg iter : Expr}
theorem jok_list {K : PySem.W.Frag} {G1 : Hp} {a : Addr} {vs : List V} {xs : List P} (h : SqL K G1 a vs) (r : Reps α G1 vs xs) : JOk α (Itl K a) xs G1 := fun i H G ρ μ s z => by
  have hH : SqL K H a vs := seqL z.sub (seqL s h)
  have r := r.mono s
  refine ⟨fun x hx => ?_, fun hi => ⟨vs, hH, by rw [r.length]; exact hi⟩⟩
  obtain ⟨v, h1, h2⟩ := r.get hx
  refine ⟨⟨vs, v, hH, h1⟩, fun w H' y => ?_⟩
  obtain ⟨rfl, y⟩ := y
  have e := y vs hH
  rw [h1] at e; cases e
  exact ⟨G, Up.refl, z, h2⟩
theorem jok_tup {K : PySem.W.Frag} {G1 : Hp} {a : Addr} {vs : List V} {xs : List P} (h : SqT K G1 a vs) (r : Reps α G1 vs xs) : JOk α (Itt K a) xs G1 := fun i H G ρ μ s z => by
  have hH : SqT K H a vs := seqT z.sub (seqT s h)
  have r := r.mono s
  refine ⟨fun x hx => ?_, fun hi => ⟨vs, hH, by rw [r.length]; exact hi⟩⟩
  obtain ⟨v, h1, h2⟩ := r.get hx
  refine ⟨⟨vs, v, hH, h1⟩, fun w H' y => ?_⟩
  obtain ⟨rfl, y⟩ := y
  have e := y vs hH
  rw [h1] at e; cases e
  exact ⟨G, Up.refl, z, h2⟩
theorem vi_seq {ev : Ev} (hK : X.K = α.K) (h : PE X iter (tV α W ev)) : VI α W X tg iter (evIt ev) := by
  refine ⟨_, pi_seq h, fun σ H G ρ δ μ R z s p => ⟨G, ρ, δ, μ, z, s, Post.bind p fun d μ1 v H1 G1 ρ1 u z1 r1 p1 => ?_⟩⟩
  cases q : toP μ1 d with
  | none => rw [q] at p1; exact p1.elim
  | some y =>
    obtain ⟨x, μ2⟩ := y
    rw [q] at p1
    obtain ⟨G2, u2, z2, r2⟩ := toP_ok z1 r1 q
    rw [hK]
    cases r2 with
    | tup h r => exact ⟨_, rfl, .inr ⟨⟨_, seqT z2.sub h⟩, p1 (Itt α.K _) H1 G2 ρ1 u2 z2 (jok_tup h r)⟩⟩
    | lst h r => exact ⟨_, rfl, .inl ⟨⟨_, SqL.of (z2.sub _ _ h)⟩, p1 (Itl α.K _) H1 G2 ρ1 u2 z2 (jok_list (SqL.of h) r)⟩⟩
    | wl h r => exact ⟨_, rfl, .inl ⟨⟨_, seqL z2.sub h⟩, p1 (Itl α.K _) H1 G2 ρ1 u2 z2 (jok_list h r)⟩⟩
    | _ => exact p1.elim
def rangeP (lo : Int) (n : Nat) : List P := (List.range n).map fun (i : Nat) => P.int (lo + (i : Int))
theorem jok_range {G1 : Hp} {lo : Int} {n : Nat} : JOk α (Itr lo n) (rangeP lo n) G1 := fun i H G ρ μ s z => by
  refine ⟨fun x hx => ?_, fun hi => by
    have hi : n ≤ i := by simpa [rangeP] using hi
    exact hi⟩
  unfold rangeP at hx
  rw [List.getElem?_map] at hx
  by_cases h : i < n
  · rw [List.getElem?_range h] at hx
    cases hx
    refine ⟨h, fun v H' y => ?_⟩
    obtain ⟨rfl, rfl⟩ := y
    exact ⟨G, Up.refl, z, .int _⟩
  · rw [List.getElem?_eq_none (by simp; omega)] at hx; cases hx
def rngOk (i : Int) : Bool := decide (-(2 ^ 62) ≤ i) && decide (i < 2 ^ 62)
theorem rngOk_of {i : Int} (h : rngOk i = true) : -(2 ^ 62) ≤ i ∧ i < 2 ^ 62 := by
  unfold rngOk at h
  rw [Bool.and_eq_true] at h
  exact ⟨of_decide_eq_true h.1, of_decide_eq_true h.2⟩
def evRng1 (a : Ev) : EvG (List P) := fun δ μ => bindG (a δ μ) fun d μ1 => match d with
  | .p (.int j) => if rngOk j = true then some (.ok (rangeP 0 j.toNat), μ1) else none
  | _ => none
def evRng2 (a b : Ev) : EvG (List P) := fun δ μ => bindG (a δ μ) fun d μ1 => bindG (b δ μ1) fun e μ2 => match d, e with
  | .p (.int i), .p (.int j) => if (rngOk i && rngOk j) = true then some (.ok (rangeP i (j - i).toNat), μ2) else none
  | _, _ => none
theorem vi_rng1 {a : Expr} {ea : Ev} {p pos : Pos} (hm : X.mg "range" = none) (ha : PE X a (tV α W ea)) (hg : Gl X "range" := by rfl) (hs : starEach [a] X.env = [(false, eval a X.env)] := by rfl) : VI α W X tg (.Call (.Name "range" p) [a] [] pos) (evRng1 ea) := by
  refine ⟨_, pi_range1 hg hm (pa_cons ha pa_nil hs) hs, fun σ H G ρ δ μ R z s p => ⟨G, ρ, δ, μ, z, s, Post.bind p fun d μ1 v H1 G1 ρ1 u z1 r1 p1 => ?_⟩⟩
  split at p1
  · rename_i j
    split at p1
    · rename_i hj
      obtain ⟨h1, h2⟩ := rngOk_of hj
      exact ⟨j, by rw [repInt r1], h1, h2, p1 _ H1 G1 ρ1 Up.refl z1 jok_range⟩
    · exact p1.elim
  · exact p1.elim
theorem vi_rng2 {a b : Expr} {ea eb : Ev} {p pos : Pos} (hm : X.mg "range" = none) (ha : PE X a (tV α W ea)) (hb : PE X b (tV α W eb)) (hg : Gl X "range" := by rfl) (hs : starEach [a, b] X.env = [(false, eval a X.env), (false, eval b X.env)] := by rfl) (hs2 : starEach [b] X.env = [(false, eval b X.env)] := by rfl) : VI α W X tg (.Call (.Name "range" p) [a, b] [] pos) (evRng2 ea eb) := by
  refine ⟨_, pi_range2 hg hm (pa_cons ha (pa_cons hb pa_nil hs2) (by rw [hs, hs2])) hs hs2, fun σ H G ρ δ μ R z s p => ⟨G, ρ, δ, μ, z, s, Post.bind p fun d μ1 v H1 G1 ρ1 u z1 r1 p1 => ?_⟩⟩
  refine ⟨G1, ρ1, δ, μ1, z1, s.up u, Post.bind p1 fun d2 μ2 v2 H2 G2 ρ2 u2 z2 r2 p2 => ?_⟩
  split at p2
  · rename_i i j
    split at p2
    · rename_i hj
      rw [Bool.and_eq_true] at hj
      obtain ⟨h1, h2⟩ := rngOk_of hj.1
      obtain ⟨h3, h4⟩ := rngOk_of hj.2
      exact ⟨i, j, by rw [repInt r1, repInt r2], ⟨h1, h2, h3, h4⟩, p2 _ H2 G2 ρ2 Up.refl z2 jok_range⟩
    · exact p2.elim
  · exact p2.elim
end

/-! ### for -/
def forL (ts : Tgt) (body : SEv) : List P → SEv
  | [], δ, μ => some (.nx, δ, μ)
  | x :: xs, δ, μ => match ts x δ with
    | none => none
    | some δ1 => match body δ1 μ with
      | some (.nx, δ2, μ2) => forL ts body xs δ2 μ2
      | some (.cont, δ2, μ2) => forL ts body xs δ2 μ2
      | some (.brk, δ2, μ2) => some (.nx, δ2, μ2)
      | r => r
def sFor (it : EvG (List P)) (ts : Tgt) (body : SEv) : SEv := fun δ μ => bindS (it δ μ) δ fun xs μ1 => forL ts body xs δ μ1
theorem v_for {tg iter : Expr} {body : List Stmt} {ev : EvG (List P)} {ts : Tgt} {sb : SEv} {pos : Pos} (hc : X.calm = true) (hp : PassesOwn (model X.prog X.w) X.A X.env X.xe) (hi : VI α W X tg iter ev) (hg : VG α X tg ts) (hb : PSs X body (tS α W sb))
    (hs : ∀ x, foldedSetIterable iter X.env x = pure x := by intro _; rfl) : PS X (.For tg iter body [] pos) (tS α W (sFor ev ts sb)) := by
  obtain ⟨wi, pi, hi⟩ := hi
  obtain ⟨g, pg, hg⟩ := hg
  refine PS.imp (ps_for hp hc pi pg hb hs) fun Dn σ H ⟨G, ρ, δ, μ, z, s, p⟩ => ?_
  refine hi σ H G ρ δ μ _ z s (SPost.bind p s fun xs μ1 J H1 G1 ρ1 u z1 j1 p1 => ?_)
  refine ⟨fun i m σ H => m + i = xs.length ∧ ∃ G' ρ' δ' μ', Up G1 ρ1 G' ρ' ∧ Zn α H G' ρ' μ' ∧ Sq α G' ρ' σ δ' ∧ SPost α W Dn G' ρ' (forL ts sb (xs.drop i) δ' μ'), ⟨xs.length, by omega, G1, ρ1, δ, μ1, Up.refl, z1, s.up u, by simpa using p1⟩, ?_⟩
  rintro i m σ2 H2 ⟨hm, G2, ρ2, δ2, μ2, u2, z2, s2, p2⟩
  obtain ⟨jgo, jstop⟩ := j1 i H2 G2 ρ2 μ2 u2.same z2
  by_cases h : i < xs.length
  · obtain ⟨x, hx⟩ : ∃ x, xs[i]? = some x := ⟨xs[i], List.getElem?_eq_getElem h⟩
    obtain ⟨go, yl⟩ := jgo x hx
    have hd : xs.drop i = x :: xs.drop (i + 1) := by
      rw [List.drop_eq_getElem_cons h]
      rw [List.getElem?_eq_getElem h] at hx
      cases hx; rfl
    rw [hd] at p2
    refine .inr ⟨go, fun σ' H' => ∃ G' ρ' δ' μ', Up G1 ρ1 G' ρ' ∧ Zn α H' G' ρ' μ' ∧ Sq α G' ρ' σ' δ' ∧ SPost α W Dn G' ρ' (forL ts sb (xs.drop (i + 1)) δ' μ'), fun σ' H' hN => ⟨m - 1, by omega, by omega, hN⟩, fun v H' y => ?_⟩
    obtain ⟨G3, u3, z3, r3⟩ := yl v H' y
    unfold forL at p2
    cases q : ts x δ2 with
    | none => rw [q] at p2; exact p2.elim
    | some δ3 =>
      rw [q] at p2
      refine hg G3 ρ2 H' μ2 σ2 δ2 v x δ3 _ z3 (s2.up u3) r3 q fun σ3 s3 => ⟨G3, ρ2, δ3, μ2, z3, s3, ?_⟩
      have p2 := SPost.up p2 u3
      have u23 := u2.trans u3
      dsimp only at p2
      match q2 : sb δ3 μ2, p2 with
      | some (.nx, δ4, μ4), p2 => exact fun σ' H' G' ρ' u' z' s' => ⟨G', ρ', δ4, μ4, u23.trans u', z', s', SPost.up (r := forL ts sb (xs.drop (i + 1)) δ4 μ4) p2 u'⟩
      | some (.cont, δ4, μ4), p2 => exact fun σ' H' G' ρ' u' z' s' => ⟨G', ρ', δ4, μ4, u23.trans u', z', s', SPost.up (r := forL ts sb (xs.drop (i + 1)) δ4 μ4) p2 u'⟩
      | some (.brk, δ4, μ4), p2 => exact p2
      | some (.ret d, δ4, μ4), p2 => exact p2
      | some (.exc c, δ4, μ4), p2 => exact p2
  · have hd : xs.drop i = [] := List.drop_eq_nil_of_le (by omega)
    rw [hd] at p2
    exact .inl ⟨jstop (by omega), p2 σ2 H2 G2 ρ2 Up.refl z2 s2⟩

/-! ### while, a given number of turns at most -/
def whL (c : EvT) (body : SEv) : Nat → SEv
  | 0, _, _ => none
  | n + 1, δ, μ => bindS (c δ μ) δ fun b μ1 => if b = true then (match body δ μ1 with
      | some (.nx, δ2, μ2) => whL c body n δ2 μ2
      | some (.cont, δ2, μ2) => whL c body n δ2 μ2
      | some (.brk, δ2, μ2) => some (.nx, δ2, μ2)
      | r => r) else some (.nx, δ, μ1)
def sWhile (n : Nat) (c : EvT) (body : SEv) : SEv := whL c body n
theorem v_while (n : Nat) {c : Expr} {body : List Stmt} {ec : EvT} {sb : SEv} {pos : Pos} (hp : PassesOwn (model X.prog X.w) X.A X.env X.xe) (hc : PT X c (tVt α W ec)) (hb : PSs X body (tS α W sb)) : PS X (.While c body [] pos) (tS α W (sWhile n ec sb)) := by
  refine PS.imp (ps_while hp hc hb) fun Dn σ H ⟨G, ρ, δ, μ, z, s, p⟩ => ?_
  refine ⟨fun m σ H => ∃ G' ρ' δ' μ', Zn α H G' ρ' μ' ∧ Sq α G' ρ' σ δ' ∧ SPost α W Dn G' ρ' (whL ec sb m δ' μ'), ⟨n, G, ρ, δ, μ, z, s, p⟩, ?_⟩
  rintro m σ2 H2 ⟨G2, ρ2, δ2, μ2, z2, s2, p2⟩
  cases m with
  | zero => exact p2.elim
  | succ m =>
    refine ⟨G2, ρ2, δ2, μ2, z2, s2, SPost.bind (f := fun b μ1 => if b = true then (match sb δ2 μ1 with
      | some (.nx, δ2, μ2) => whL ec sb m δ2 μ2
      | some (.cont, δ2, μ2) => whL ec sb m δ2 μ2
      | some (.brk, δ2, μ2) => some (.nx, δ2, μ2)
      | r => r) else some (.nx, δ2, μ1)) p2 s2 fun b μ3 v H3 G3 ρ3 u3 z3 r3 p3 => ?_⟩
    subst r3
    cases v with
    | false => exact iteF (p3 σ2 H3 G3 ρ3 Up.refl z3 (s2.up u3))
    | true =>
      refine iteT ⟨fun σ' H' => ∃ G' ρ' δ' μ', Zn α H' G' ρ' μ' ∧ Sq α G' ρ' σ' δ' ∧ SPost α W Dn G' ρ' (whL ec sb m δ' μ'), fun σ' H' hN => ⟨m, Nat.lt_succ_self _, hN⟩, G3, ρ3, δ2, μ3, z3, s2.up u3, ?_⟩
      rw [if_pos rfl] at p3
      match q2 : sb δ2 μ3, p3 with
      | some (.nx, δ4, μ4), p2 => exact fun σ' H' G' ρ' u' z' s' => ⟨G', ρ', δ4, μ4, z', s', SPost.up (r := whL ec sb m δ4 μ4) p2 u'⟩
      | some (.cont, δ4, μ4), p2 => exact fun σ' H' G' ρ' u' z' s' => ⟨G', ρ', δ4, μ4, z', s', SPost.up (r := whL ec sb m δ4 μ4) p2 u'⟩
      | some (.brk, δ4, μ4), p2 => exact p2
      | some (.ret d, δ4, μ4), p2 => exact p2
      | some (.exc c, δ4, μ4), p2 => exact p2

/-! ### comprehensions -/
def wipeS (δ : Sl) : List Nat → Sl
  | [] => δ
  | v :: vs => (wipeS δ vs).set v none
theorem sq_wipe {G : Hp} {ρ : List Addr} {σ : L2.St} {δ : Sl} (s : Sq α G ρ σ δ) : ∀ vs : List Nat, Sq α G ρ (wipe σ vs) (wipeS δ vs)
  | [] => s
  | v :: vs => by
    have h := sq_wipe s vs
    refine ⟨by show ((wipe σ vs).set v none).length = ((wipeS δ vs).set v none).length; rw [List.length_set, List.length_set]; exact h.len, fun i d e => ?_⟩
    have e : ((wipeS δ vs).set v none)[i]? = some (some d) := e
    show ∃ w, ((wipe σ vs).set v none)[i]? = some (some w) ∧ _
    by_cases hv : v = i
    · subst hv
      by_cases hl : v < (wipeS δ vs).length
      · rw [List.getElem?_set_self hl] at e; cases e
      · rw [List.getElem?_eq_none (by rw [List.length_set]; omega)] at e; cases e
    · rw [List.getElem?_set_ne hv] at e ⊢
      exact h.get i d e
theorem wipe_set {σ : L2.St} {o : Option V} : ∀ {vs : List Nat} {i : Nat}, i ∈ vs → wipe (σ.set i o) vs = wipe σ vs
  | v :: vs, i, h => by
    show (wipe (σ.set i o) vs).set v none = (wipe σ vs).set v none
    by_cases hi : i ∈ vs
    · rw [wipe_set hi]
    · have e : i = v := by
        rcases List.mem_cons.mp h with h | h
        · exact h
        · exact absurd h hi
      subst e
      have q : ∀ ws : List Nat, i ∉ ws → wipe (σ.set i o) ws = (wipe σ ws).set i o := by
        intro ws
        induction ws with
        | nil => intro _; rfl
        | cons a ws ih =>
          intro hn
          show (wipe (σ.set i o) ws).set a none = ((wipe σ ws).set a none).set i o
          rw [ih (fun z => hn (List.mem_cons_of_mem _ z)), List.set_comm _ _ (fun z => hn (by rw [z]; exact List.mem_cons_self))]
      rw [q vs hi, List.set_set]
theorem wipe_idem {σ : L2.St} {vs : List Nat} : wipe (wipe σ vs) vs = wipe σ vs := by
  apply List.ext_getElem?
  intro i
  by_cases h : i ∈ vs
  · have none_of : ∀ (τ : L2.St) (ws : List Nat), i ∈ ws → i < τ.length → (wipe τ ws)[i]? = some none := by
      intro τ ws
      induction ws with
      | nil => intro h; cases h
      | cons a ws ih =>
        intro h hl
        show ((wipe τ ws).set a none)[i]? = some none
        by_cases ha : a = i
        · subst ha; rw [List.getElem?_set_self (by rw [wipe_length]; exact hl)]
        · rw [List.getElem?_set_ne ha]
          exact ih (by rcases List.mem_cons.mp h with h | h; exact absurd h.symm ha; exact h) hl
    by_cases hl : i < σ.length
    · rw [none_of _ _ h (by rw [wipe_length]; exact hl), none_of _ _ h hl]
    · rw [List.getElem?_eq_none (by rw [wipe_length, wipe_length]; omega), List.getElem?_eq_none (by rw [wipe_length]; omega)]
  · rw [wipe_out h]
/-- the tests of a comprehension -/
def evTrue : EvT := fun _ μ => some (.ok true, μ)
/-- one item after another: the kept ones, made by e, come to the list at the place l -/
def lcL (ts : Tgt) (t : EvT) (e : Ev) (δ0 : Sl) (l : Nat) : List P → Mu → Option Mu
  | [], μ => some μ
  | x :: xs, μ => match ts x δ0 with
    | none => none
    | some δ1 => match t δ1 μ with
      | some (.ok true, μ1) => match e δ1 μ1 with
        | some (.ok d, μ2) => match toP μ2 d with
          | some (y, μ3) => match cellL μ3 l with
            | some acc => if acc.length < sizeLine then lcL ts t e δ0 l xs (μ3.set l (some (.lst (acc ++ [y])))) else none
            | none => none
          | none => none
        | _ => none
      | some (.ok false, μ1) => lcL ts t e δ0 l xs μ1
      | _ => none
def lcEnd (l : Nat) (m : Option Mu) : Option (Out D × Mu) := match m with
  | some μ => match cellL μ l with
    | some acc => some (.ok (.p (.lst acc)), μ.take l)
    | none => none
  | none => none
def lcEndC (l : Nat) (m : Option Mu) : Option (Out D × Mu) := match m with
  | some μ => match cellL μ l with
    | some acc => some (.ok (.loc l), μ.take (l + 1))
    | none => none
  | none => none
def evLc (it : EvG (List P)) (ts : Tgt) (t : EvT) (e : Ev) (vs : List Nat) : Ev := fun δ μ => bindG (it δ μ) fun xs μ1 => lcEnd μ1.length (lcL ts t e (wipeS δ vs) μ1.length xs (μ1 ++ [some (.lst [])]))
/-- a list that will change -/
def evLcC (it : EvG (List P)) (ts : Tgt) (t : EvT) (e : Ev) (vs : List Nat) : Ev := fun δ μ => bindG (it δ μ) fun xs μ1 => lcEndC μ1.length (lcL ts t e (wipeS δ vs) μ1.length xs (μ1 ++ [some (.lst [])]))
abbrev W0 : WX := fun _ _ _ _ => False
/-- a target's store, that touches the slots vs alone -/
def GSem (α : Amb) (g : TG) (ts : Tgt) (vs : List Nat) : Prop := ∀ G ρ H μ σ δ v x δ' (Q : L2.St → Hp → Prop), Zn α H G ρ μ → Sq α G ρ σ δ → Rep α G v x → ts x δ = some δ' → (∀ σ', Sq α G ρ σ' δ' → wipe σ' vs = wipe σ vs → Q σ' H) → g v σ H Q
theorem gs_name {i : Nat} {vs : List Nat} (h : i ∈ vs) : GSem α (gName i) (tgN i) vs := fun G ρ H μ σ δ v x δ' Q z s r e k => by
  cases e
  exact k _ (s.set (show RepD α G ρ v (.p x) from r) i) (wipe_set h)
def gsOf : List Nat → TGs
  | [] => gNil
  | i :: is => gCons (gName i) (gsOf is)
theorem gs_all {vs : List Nat} : ∀ {is : List Nat}, (∀ i ∈ is, i ∈ vs) → ∀ G ρ H μ σ δ ws xs δ' (Q : L2.St → Hp → Prop), Zn α H G ρ μ → Sq α G ρ σ δ → Reps α G ws xs → setAll is xs δ = some δ' → (∀ σ', Sq α G ρ σ' δ' → wipe σ' vs = wipe σ vs → Q σ' H) → gsOf is ws σ H Q
  | [], _, G, ρ, H, μ, σ, δ, ws, xs, δ', Q, z, s, r, e, k => by
    cases r with
    | nil => cases e; exact ⟨rfl, k _ s rfl⟩
    | cons _ _ => cases e
  | i :: is, hv, G, ρ, H, μ, σ, δ, ws, xs, δ', Q, z, s, r, e, k => by
    cases r with
    | nil => cases e
    | cons r t =>
      exact ⟨_, _, rfl, gs_all (fun j hj => hv j (List.mem_cons_of_mem _ hj)) G ρ H μ _ _ _ _ _ Q z (s.set (show RepD α G ρ _ (.p _) from r) i) t e fun σ' s' w => k σ' s' (w.trans (wipe_set (hv i List.mem_cons_self)))⟩
theorem gs_tup {is vs : List Nat} {n : Nat} (hn : is.length = n) (hv : ∀ i ∈ is, i ∈ vs) : GSem α (gTup α.K n (gsOf is)) (tgT is) vs := fun G ρ H μ σ δ v x δ' Q z s r e k => by
  cases r <;> try (cases e; done)
  rename_i a ws xs hT hr
  have e : setAll is xs δ = some δ' := e
  exact ⟨a, ws, rfl, seqT z.sub hT, by rw [hr.length, ← hn]; exact setAll_len e, gs_all hv G ρ H μ _ _ _ _ _ Q z s hr e k⟩
theorem cell_at {G H : Hp} {ρ : List Addr} {μ : Mu} (z : Zn α H G ρ μ) {l : Nat} {a : Addr} {acc : List P} (h : cellL μ l = some acc) (ha : ρ[l]? = some a) : ∃ vs, H a = some (.lst vs) ∧ Reps α G vs acc := by
  obtain ⟨a', h1, h2, vs, h3, h4⟩ := z.cell l _ (cellL_some h)
  rw [ha] at h1; cases h1
  exact ⟨vs, h3, h4⟩
/-- the common part of both makings -/
theorem lc_imp {W : WX} {wi : TI} {g : TG} {tt : TT} {te : TE} {vs : List Nat} {it : EvG (List P)} {ts : Tgt} {t : EvT} {e : Ev} {fin : Nat → Option Mu → Option (Out D × Mu)}
    (hi : ∀ σ H G ρ δ μ (R : It → Hp → Prop), Zn α H G ρ μ → Sq α G ρ σ δ → Post α W (fun G' _ (J : It) xs => JOk α J xs G') G ρ σ R (it δ μ) → wi σ H R)
    (hgs : GSem α g ts vs) (htt : ∀ σ H Q, tVt α W0 t σ H Q → tt σ H Q) (hte : ∀ σ H Q, tV α W0 e σ H Q → te σ H Q)
    (hnone : ∀ l, fin l none = none)
    (hfin : ∀ G1 ρ1 G ρ H μ l Dd σ (Q : VK), Up G1 (ρ1 ++ [Dd]) G ρ → Zn α H G ρ μ → l = ρ1.length → Post α W (RepD α) G1 ρ1 σ Q (fin l (some μ)) → Q (.ref Dd) H)
    {σ : L2.St} {H : Hp} {Q : VK} {G : Hp} {ρ : List Addr} {δ : Sl} {μ : Mu} (z : Zn α H G ρ μ) (s : Sq α G ρ σ δ)
    (p : Post α W (RepD α) G ρ σ Q (bindG (it δ μ) fun xs μ1 => fin μ1.length (lcL ts t e (wipeS δ vs) μ1.length xs (μ1 ++ [some (.lst [])])))) : tLc wi g tt te vs σ H Q := by
  refine hi σ H G ρ δ μ _ z s (Post.bind p fun xs μ1 J H1 G1 ρ1 u z1 j1 p1 => ?_)
  intro Dd hD
  have zp := z1.place (m := .lst []) hD ⟨[], rfl, .nil⟩
  refine ⟨fun i m H => m + i = xs.length ∧ ∃ G' ρ' μ', Up G1 (ρ1 ++ [Dd]) G' ρ' ∧ Zn α H G' ρ' μ' ∧ Post α W (RepD α) G1 ρ1 σ Q (fin μ1.length (lcL ts t e (wipeS δ vs) μ1.length (xs.drop i) μ')),
    ⟨xs.length, by omega, G1, ρ1 ++ [Dd], _, Up.refl, zp, by simpa using p1⟩, ?_⟩
  rintro i m H2 ⟨hm, G2, ρ2, μ2, u2, z2, p2⟩
  have hDat : (ρ1 ++ [Dd])[μ1.length]? = some Dd := by rw [← z1.len]; simp
  have u12 : Up G1 ρ1 G2 ρ2 := Up.trans up_place u2
  obtain ⟨jgo, jstop⟩ := j1 i H2 G2 ρ2 μ2 u2.same z2
  by_cases h : i < xs.length
  · obtain ⟨x, hx⟩ : ∃ x, xs[i]? = some x := ⟨xs[i], List.getElem?_eq_getElem h⟩
    obtain ⟨go, yl⟩ := jgo x hx
    have hd : xs.drop i = x :: xs.drop (i + 1) := by
      rw [List.drop_eq_getElem_cons h]
      rw [List.getElem?_eq_getElem h] at hx
      cases hx; rfl
    rw [hd] at p2
    refine .inr ⟨go, fun H' => ∃ G' ρ' μ', Up G1 (ρ1 ++ [Dd]) G' ρ' ∧ Zn α H' G' ρ' μ' ∧ Post α W (RepD α) G1 ρ1 σ Q (fin μ1.length (lcL ts t e (wipeS δ vs) μ1.length (xs.drop (i + 1)) μ')), fun H' hN => ⟨m - 1, by omega, by omega, hN⟩, fun v H' y => ?_⟩
    obtain ⟨G3, u3, z3, r3⟩ := yl v H' y
    have s3 : Sq α G3 ρ2 (wipe σ vs) (wipeS δ vs) := sq_wipe (((s.up u).up u12).up u3) vs
    unfold lcL at p2
    cases q : ts x (wipeS δ vs) with
    | none => rw [q] at p2; dsimp only at p2; rw [hnone] at p2; exact p2.elim
    | some δ3 =>
      rw [q] at p2
      dsimp only at p2
      refine hgs G3 ρ2 H' μ2 _ _ v x δ3 _ z3 s3 r3 q fun σ3 s4 hw => ⟨hw.trans wipe_idem, htt _ _ _ ⟨G3, ρ2, δ3, μ2, z3, s4, ?_⟩⟩
      have u23 : Up G1 (ρ1 ++ [Dd]) G3 ρ2 := u2.trans u3
      match q2 : t δ3 μ2, p2 with
      | none, p2 => rw [hnone] at p2; exact p2.elim
      | some (.exc c, μ4), p2 => rw [hnone] at p2; exact p2.elim
      | some (.ok false, μ4), p2 =>
        intro b H4 G4 ρ4 u4 z4 hb
        subst hb
        exact iteF ⟨G4, ρ4, μ4, u23.trans u4, z4, p2⟩
      | some (.ok true, μ4), p2 =>
        intro b H4 G4 ρ4 u4 z4 hb
        subst hb
        refine iteT (hte _ _ _ ⟨G4, ρ4, δ3, μ4, z4, s4.up u4, ?_⟩)
        dsimp only at p2
        match q3 : e δ3 μ4, p2 with
        | none, p2 => rw [hnone] at p2; exact p2.elim
        | some (.exc c, μ5), p2 => rw [hnone] at p2; exact p2.elim
        | some (.ok d, μ5), p2 =>
          intro w H5 G5 ρ5 u5 z5 r5
          dsimp only at p2
          cases q5 : toP μ5 d with
          | none => rw [q5] at p2; dsimp only at p2; rw [hnone] at p2; exact p2.elim
          | some ym =>
            obtain ⟨y', μ6⟩ := ym
            rw [q5] at p2
            dsimp only at p2
            obtain ⟨G6, u6, z6, r6⟩ := toP_ok z5 r5 q5
            have uu : Up G1 (ρ1 ++ [Dd]) G6 ρ5 := ((u23.trans u4).trans u5).trans u6
            cases q6 : cellL μ6 μ1.length with
            | none => rw [q6] at p2; dsimp only at p2; rw [hnone] at p2; exact p2.elim
            | some acc =>
              rw [q6] at p2
              dsimp only at p2
              split at p2
              · rename_i hl
                have hDD := uu.get hDat
                obtain ⟨vacc, h1, h2⟩ := cell_at z6 q6 hDD
                exact ⟨vacc, h1, by rw [h2.length]; exact hl, G6, ρ5, _, uu, z6.write (cellL_some q6) hDD (m' := .lst (acc ++ [y'])) ⟨_, rfl, h2.append (.cons r6 .nil)⟩, p2⟩
              · rw [hnone] at p2; exact p2.elim
  · have hd : xs.drop i = [] := List.drop_eq_nil_of_le (by omega)
    rw [hd] at p2
    exact .inl ⟨jstop (by omega), hfin G1 ρ1 G2 ρ2 H2 μ2 μ1.length Dd σ Q u2 z2 z1.len.symm p2⟩
theorem fin_lc {W : WX} {G1 : Hp} {ρ1 : List Addr} {G : Hp} {ρ : List Addr} {H : Hp} {μ : Mu} {l : Nat} {Dd : Addr} {σ : L2.St} {Q : VK} (u : Up G1 (ρ1 ++ [Dd]) G ρ) (z : Zn α H G ρ μ) (hl : l = ρ1.length) (p : Post α W (RepD α) G1 ρ1 σ Q (lcEnd l (some μ))) : Q (.ref Dd) H := by
  subst hl
  unfold lcEnd at p
  dsimp only at p
  cases q : cellL μ ρ1.length with
  | none => rw [q] at p; exact p.elim
  | some acc =>
    rw [q] at p
    have hDD : ρ[ρ1.length]? = some Dd := u.get (by simp)
    obtain ⟨vacc, h1, h2⟩ := cell_at z q hDD
    obtain ⟨z', g⟩ := z.freeze (cellL_some q) hDD h1
    obtain ⟨sm, r, hr⟩ := u
    have z2 := z'.cut (ρ0 := ρ1) (r := [Dd] ++ r) (by rw [hr, List.append_assoc])
    have e : (μ.set ρ1.length none).take ρ1.length = μ.take ρ1.length := by
      apply List.ext_getElem?
      intro i
      by_cases hi : i < ρ1.length
      · rw [List.getElem?_take_of_lt hi, List.getElem?_take_of_lt hi, List.getElem?_set_ne (by omega)]
      · rw [List.getElem?_eq_none (by rw [List.length_take]; omega), List.getElem?_eq_none (by rw [List.length_take]; omega)]
    rw [e] at z2
    exact p (.ref Dd) H (upd G Dd (.lst vacc)) ρ1 ⟨sm.trans (same_upd g), [], (List.append_nil _).symm⟩ z2 (.lst upd_same (h2.mono (same_upd g)))
theorem fin_lcC {W : WX} {G1 : Hp} {ρ1 : List Addr} {G : Hp} {ρ : List Addr} {H : Hp} {μ : Mu} {l : Nat} {Dd : Addr} {σ : L2.St} {Q : VK} (u : Up G1 (ρ1 ++ [Dd]) G ρ) (z : Zn α H G ρ μ) (hl : l = ρ1.length) (p : Post α W (RepD α) G1 ρ1 σ Q (lcEndC l (some μ))) : Q (.ref Dd) H := by
  subst hl
  unfold lcEndC at p
  dsimp only at p
  cases q : cellL μ ρ1.length with
  | none => rw [q] at p; exact p.elim
  | some acc =>
    rw [q] at p
    have hDD : ρ[ρ1.length]? = some Dd := u.get (by simp)
    obtain ⟨sm, r, hr⟩ := u
    have z2 := z.cut (ρ0 := ρ1 ++ [Dd]) (r := r) hr
    rw [List.length_append] at z2
    exact p (.ref Dd) H G (ρ1 ++ [Dd]) ⟨sm, [Dd], rfl⟩ z2 ⟨Dd, rfl, by simp⟩
section
variable {W : WX} {elt tg iter : Expr} {ifs : List Expr} {scope : Scope} {own : List (Str × Nat)} {pos : Pos} {g : TG} {it : EvG (List P)} {ts : Tgt} {t : EvT} {e : Ev}
theorem v_lc (hc : X.calm = true) (hN : X.N.Nodup) (hi : VI α W X tg iter it) (ok : BlkOk X.N X.env.scope scope own) (hgs : GSem α g ts (own.map (·.2)))
    (hg : ∀ (s : Shared) (H : Hp) (C : Addr) (cl : List (Str × Addr)) (fp : List Addr), PG (X.blk s H scope (compEnvC scope cl C X.env) fp) tg g) (ht : ∀ (s : Shared) (H : Hp) (C : Addr) (cl : List (Str × Addr)) (fp : List Addr), PTs (X.blk s H scope (compEnvC scope cl C X.env) fp) ifs (tVt α W0 t))
    (he : ∀ (s : Shared) (H : Hp) (C : Addr) (cl : List (Str × Addr)) (fp : List Addr), PE (X.blk s H scope (compEnvC scope cl C X.env) fp) elt (tV α W0 e)) (hs : ∀ x, foldedSetIterable iter X.env x = pure x := by intro _; rfl) :
    PE X (.ListComp elt [⟨tg, iter, ifs, 0⟩] scope pos) (tV α W (evLc it ts t e (own.map (·.2)))) := by
  obtain ⟨wi, pi, hi⟩ := hi
  exact PE.imp (pe_lc hc hN pi ok hg ht he hs) fun σ H Q ⟨G, ρ, δ, μ, z, s, p⟩ => lc_imp hi hgs (fun _ _ _ h => h) (fun _ _ _ h => h) (fun _ => rfl) (fun _ _ _ _ _ _ _ _ _ _ => fin_lc) z s p
theorem v_lcC (hc : X.calm = true) (hN : X.N.Nodup) (hi : VI α W X tg iter it) (ok : BlkOk X.N X.env.scope scope own) (hgs : GSem α g ts (own.map (·.2)))
    (hg : ∀ (s : Shared) (H : Hp) (C : Addr) (cl : List (Str × Addr)) (fp : List Addr), PG (X.blk s H scope (compEnvC scope cl C X.env) fp) tg g) (ht : ∀ (s : Shared) (H : Hp) (C : Addr) (cl : List (Str × Addr)) (fp : List Addr), PTs (X.blk s H scope (compEnvC scope cl C X.env) fp) ifs (tVt α W0 t))
    (he : ∀ (s : Shared) (H : Hp) (C : Addr) (cl : List (Str × Addr)) (fp : List Addr), PE (X.blk s H scope (compEnvC scope cl C X.env) fp) elt (tV α W0 e)) (hs : ∀ x, foldedSetIterable iter X.env x = pure x := by intro _; rfl) :
    PE X (.ListComp elt [⟨tg, iter, ifs, 0⟩] scope pos) (tV α W (evLcC it ts t e (own.map (·.2)))) := by
  obtain ⟨wi, pi, hi⟩ := hi
  exact PE.imp (pe_lc hc hN pi ok hg ht he hs) fun σ H Q ⟨G, ρ, δ, μ, z, s, p⟩ => lc_imp hi hgs (fun _ _ _ h => h) (fun _ _ _ h => h) (fun _ => rfl) (fun _ _ _ _ _ _ _ _ _ _ => fin_lcC) z s p
/-- y = [..], y a local -/
theorem v_setLc {i : Nat} {y : Str} {py : Pos} {spos : Pos} (hc : X.calm = true) (hN : X.N.Nodup) (hy : X.N[i]? = some y) (hyl : X.env.scope.names.lookup y = some .local)
    (hsw : swapsWith (.ListComp elt [⟨tg, iter, ifs, 0⟩] scope pos) (some (.Name y py)) spos.line X.env = pure true) (hi : VI α W X tg iter it) (ok : BlkOk X.N X.env.scope scope own) (hgs : GSem α g ts (own.map (·.2)))
    (hg : ∀ (s : Shared) (H : Hp) (C : Addr) (cl : List (Str × Addr)) (fp : List Addr), PG (X.blk s H scope (compEnvC scope cl C X.env) fp) tg g) (ht : ∀ (s : Shared) (H : Hp) (C : Addr) (cl : List (Str × Addr)) (fp : List Addr), PTs (X.blk s H scope (compEnvC scope cl C X.env) fp) ifs (tVt α W0 t))
    (he : ∀ (s : Shared) (H : Hp) (C : Addr) (cl : List (Str × Addr)) (fp : List Addr), PE (X.blk s H scope (compEnvC scope cl C X.env) fp) elt (tV α W0 e)) (hs : ∀ x, foldedSetIterable iter X.env x = pure x := by intro _; rfl) :
    PS X (.Assign [.Name y py] (.ListComp elt [⟨tg, iter, ifs, 0⟩] scope pos) spos) (tS α W (sSet i (evLc it ts t e (own.map (·.2))))) := by
  obtain ⟨wi, pi, hi⟩ := hi
  refine PS.imp (ps_setLc (i := i) hc hN hy hyl hsw pi ok hg ht he hs) fun Dn σ H ⟨G, ρ, δ, μ, z, s, p⟩ => ?_
  refine lc_imp (fin := lcEnd) hi hgs (fun _ _ _ h => h) (fun _ _ _ h => h) (fun _ => rfl) (fun _ _ _ _ _ _ _ _ _ _ => fin_lc) z s (SPost.bind (m := evLc it ts t e (own.map (·.2)) δ μ) p s fun d μ1 v H1 G1 ρ1 u z1 r1 p1 => ?_)
  exact p1 _ H1 G1 ρ1 Up.refl z1 ((s.up u).set r1 i)
theorem v_setLcC {i : Nat} {y : Str} {py : Pos} {spos : Pos} (hc : X.calm = true) (hN : X.N.Nodup) (hy : X.N[i]? = some y) (hyl : X.env.scope.names.lookup y = some .local)
    (hsw : swapsWith (.ListComp elt [⟨tg, iter, ifs, 0⟩] scope pos) (some (.Name y py)) spos.line X.env = pure true) (hi : VI α W X tg iter it) (ok : BlkOk X.N X.env.scope scope own) (hgs : GSem α g ts (own.map (·.2)))
    (hg : ∀ (s : Shared) (H : Hp) (C : Addr) (cl : List (Str × Addr)) (fp : List Addr), PG (X.blk s H scope (compEnvC scope cl C X.env) fp) tg g) (ht : ∀ (s : Shared) (H : Hp) (C : Addr) (cl : List (Str × Addr)) (fp : List Addr), PTs (X.blk s H scope (compEnvC scope cl C X.env) fp) ifs (tVt α W0 t))
    (he : ∀ (s : Shared) (H : Hp) (C : Addr) (cl : List (Str × Addr)) (fp : List Addr), PE (X.blk s H scope (compEnvC scope cl C X.env) fp) elt (tV α W0 e)) (hs : ∀ x, foldedSetIterable iter X.env x = pure x := by intro _; rfl) :
    PS X (.Assign [.Name y py] (.ListComp elt [⟨tg, iter, ifs, 0⟩] scope pos) spos) (tS α W (sSet i (evLcC it ts t e (own.map (·.2))))) := by
  obtain ⟨wi, pi, hi⟩ := hi
  refine PS.imp (ps_setLc (i := i) hc hN hy hyl hsw pi ok hg ht he hs) fun Dn σ H ⟨G, ρ, δ, μ, z, s, p⟩ => ?_
  refine lc_imp (fin := lcEndC) hi hgs (fun _ _ _ h => h) (fun _ _ _ h => h) (fun _ => rfl) (fun _ _ _ _ _ _ _ _ _ _ => fin_lcC) z s (SPost.bind (m := evLcC it ts t e (own.map (·.2)) δ μ) p s fun d μ1 v H1 G1 ρ1 u z1 r1 p1 => ?_)
  exact p1 _ H1 G1 ρ1 Up.refl z1 ((s.up u).set r1 i)
end
end
end Vs
namespace Vs
open PySem PySem.Spec PyProof.Rows L2

section
variable {α : Amb}
/-! ### a def's worth -/
def spF (α : Amb) (n : Nat) (sem : FSem) : Sp := fun vs H Q E => vs.length = n ∧ ∃ G ρ μ ds, Zn α H G ρ μ ∧ RepDs α G ρ vs ds ∧ Post α (fun c d _ H => E c d H) (RepD α) G ρ [] Q (sem ds μ)
def retL (n l : Nat) (μ : Mu) : Option (Out D × Mu) := if l < n then some (.ok (.loc l), μ.take n) else match cellL μ l with
  | some xs => some (.ok (.p (.lst xs)), μ.take n)
  | none => none
def retLC (n l : Nat) (μ : Mu) : Option (Out D × Mu) := if l < n then none else match cellL μ l with
  | some xs => some (.ok (.loc n), μ.take n ++ [some (.lst xs)])
  | none => none
/-- what a body hands back: a list of its own becomes data -/
def retF (n : Nat) : Option (Fl × Sl × Mu) → Option (Out D × Mu)
  | some (.ret (.p x), _, μ) => some (.ok (.p x), μ.take n)
  | some (.ret (.loc l), _, μ) => retL n l μ
  | some (.nx, _, μ) => some (.ok (.p .non), μ.take n)
  | some (.exc c, _, μ) => some (.exc c, μ.take n)
  | _ => none
/-- .. a list of its own stays one that may change -/
def retC (n : Nat) : Option (Fl × Sl × Mu) → Option (Out D × Mu)
  | some (.ret (.loc l), _, μ) => retLC n l μ
  | r => retF n r
def bodyS (N : Nat) (sv : SEv) (ds : List D) (μ : Mu) : Option (Fl × Sl × Mu) := sv (ds.map some ++ List.replicate (N - ds.length) none) μ
def bodySem (N : Nat) (sv : SEv) : FSem := fun ds μ => retF μ.length (bodyS N sv ds μ)
def bodySemC (N : Nat) (sv : SEv) : FSem := fun ds μ => retC μ.length (bodyS N sv ds μ)
abbrev WF (E : XK) : WX := fun c d _ H => E c d H
theorem zn_frz {H G : Hp} {ρ ρ0 : List Addr} {μ : Mu} {l : Nat} {xs : List P} {r : List Addr} {v : V} (z : Zn α H G ρ μ) (e : ρ = ρ0 ++ r) (hl : ρ0.length ≤ l) (hc : cellL μ l = some xs) (hv : RepD α G ρ v (.loc l)) :
    ∃ G', Up G ρ0 G' ρ0 ∧ Zn α H G' ρ0 (μ.take ρ0.length) ∧ Rep α G' v (.lst xs) := by
  obtain ⟨a, rfl, ha⟩ := hv
  obtain ⟨vs, h1, h2⟩ := cell_at z hc ha
  obtain ⟨z', g⟩ := z.freeze (cellL_some hc) ha h1
  have z2 := z'.cut e
  have e2 : (μ.set l none).take ρ0.length = μ.take ρ0.length := by
    apply List.ext_getElem?
    intro i
    by_cases hi : i < ρ0.length
    · rw [List.getElem?_take_of_lt hi, List.getElem?_take_of_lt hi, List.getElem?_set_ne (by omega)]
    · rw [List.getElem?_eq_none (by rw [List.length_take]; omega), List.getElem?_eq_none (by rw [List.length_take]; omega)]
  rw [e2] at z2
  exact ⟨upd G a (.lst vs), up_new g, z2, .lst upd_same (h2.mono (same_upd g))⟩
theorem ret_ok {E : XK} {Q : VK} {G : Hp} {ρ : List Addr} {r : Option (Fl × Sl × Mu)} (h : Post α (WF E) (RepD α) G ρ [] Q (retF ρ.length r)) : SPost α (WF E) { nx := fun _ H' => Q .non H', rt := Q } G ρ r := by
  match r, h with
  | some (.ret (.p x), δ, μ), h =>
    intro v H' G' ρ' u z r
    obtain ⟨sm, q, e⟩ := u
    exact h v H' G' ρ ⟨sm, [], (List.append_nil _).symm⟩ (z.cut e) r
  | some (.ret (.loc l), δ, μ), h =>
    intro v H' G' ρ' u z r
    obtain ⟨sm, q, e⟩ := u
    have h : Post α (WF E) (RepD α) G ρ [] Q (retL ρ.length l μ) := h
    unfold retL at h
    split at h
    · rename_i hl
      refine h v H' G' ρ ⟨sm, [], (List.append_nil _).symm⟩ (z.cut e) ?_
      obtain ⟨a, rfl, ha⟩ := r
      rw [e, List.getElem?_append_left hl] at ha
      exact ⟨a, rfl, ha⟩
    · rename_i hl
      cases hc : cellL μ l with
      | none => rw [hc] at h; exact h.elim
      | some xs =>
        rw [hc] at h
        obtain ⟨G2, u2, z2, r2⟩ := zn_frz z e (by omega) hc r
        exact h v H' G2 ρ ⟨sm.trans u2.same, [], (List.append_nil _).symm⟩ z2 r2
  | some (.nx, δ, μ), h =>
    intro σ' H' G' ρ' u z s
    obtain ⟨sm, q, e⟩ := u
    exact h .non H' G' ρ ⟨sm, [], (List.append_nil _).symm⟩ (z.cut e) .non
  | some (.exc c, δ, μ), h =>
    intro σ' H' G' ρ' u z s
    obtain ⟨sm, q, e⟩ := u
    exact h H' G' ρ ⟨sm, [], (List.append_nil _).symm⟩ (z.cut e)
theorem retC_ok {E : XK} {Q : VK} {G : Hp} {ρ : List Addr} {r : Option (Fl × Sl × Mu)} (h : Post α (WF E) (RepD α) G ρ [] Q (retC ρ.length r)) : SPost α (WF E) { nx := fun _ H' => Q .non H', rt := Q } G ρ r := by
  match r, h with
  | some (.ret (.loc l), δ, μ), h =>
    intro v H' G' ρ' u z r
    obtain ⟨sm, q, e⟩ := u
    have h : Post α (WF E) (RepD α) G ρ [] Q (retLC ρ.length l μ) := h
    unfold retLC at h
    split at h
    · exact h.elim
    · rename_i hl
      cases hc : cellL μ l with
      | none => rw [hc] at h; exact h.elim
      | some xs =>
        rw [hc] at h
        obtain ⟨a, rfl, ha⟩ := r
        obtain ⟨vs, h1, h2⟩ := cell_at z hc ha
        obtain ⟨a', g1, g2, g3⟩ := z.cell l _ (cellL_some hc)
        rw [ha] at g1; cases g1
        have z0 := z.cut e
        have hlen : (μ.take ρ.length).length = ρ.length := z0.len.symm
        have old : ∀ {k : Nat} {m : MO}, (μ.take ρ.length ++ [some (MO.lst xs)])[k]? = some (some m) → (k < ρ.length ∧ (μ.take ρ.length)[k]? = some (some m)) ∨ (k = ρ.length ∧ m = .lst xs) := fun {k m} ek => by
          by_cases hk : k < ρ.length
          · rw [List.getElem?_append_left (by omega)] at ek; exact .inl ⟨hk, ek⟩
          · rw [List.getElem?_append_right (by omega), hlen] at ek
            by_cases h0 : k - ρ.length = 0
            · rw [h0] at ek; simp at ek; exact .inr ⟨by omega, ek.symm⟩
            · rw [List.getElem?_eq_none (by simp; omega)] at ek; cases ek
        have up : ∀ {k : Nat} {m : MO}, k < ρ.length → (μ.take ρ.length)[k]? = some (some m) → μ[k]? = some (some m) := fun {k m} hk ek => by rw [List.getElem?_take_of_lt hk] at ek; exact ek
        have atl : ∀ {k : Nat}, k < ρ.length → (ρ ++ [a])[k]? = ρ'[k]? := fun {k} hk => by rw [e, List.getElem?_append_left hk, List.getElem?_append_left hk]
        have atn : (ρ ++ [a])[ρ.length]? = some a := by simp
        refine h (.ref a) H' G' (ρ ++ [a]) ⟨sm, [a], rfl⟩ ⟨z.sub, by rw [List.length_append, List.length_append, hlen]; rfl, fun k m ek => ?_, fun k k' m m' b e1 e2 b1 b2 => ?_⟩ ⟨a, rfl, atn⟩
        · rcases old ek with ⟨hk, ek⟩ | ⟨rfl, rfl⟩
          · obtain ⟨b, b1, b2, b3⟩ := z.cell k m (up hk ek)
            exact ⟨b, by rw [atl hk]; exact b1, b2, (MRep.cut (Nat.le_of_lt hk) (by rw [e] at b3; exact b3)).up up_place⟩
          · exact ⟨a, atn, g2, g3⟩
        · rcases old e1 with ⟨k1, f1⟩ | ⟨q1, _⟩ <;> rcases old e2 with ⟨k2, f2⟩ | ⟨q2, _⟩
          · rw [atl k1] at b1; rw [atl k2] at b2
            exact z.inj _ _ _ _ b (up k1 f1) (up k2 f2) b1 b2
          · subst q2
            rw [atl k1] at b1; rw [atn] at b2; cases b2
            have := z.inj _ _ _ _ a (up k1 f1) (cellL_some hc) b1 ha
            omega
          · subst q1
            rw [atl k2] at b2; rw [atn] at b1; cases b1
            have := z.inj _ _ _ _ a (up k2 f2) (cellL_some hc) b2 ha
            omega
          · rw [q1, q2]
  | some (.ret (.p x), δ, μ), h => exact ret_ok (r := some (.ret (.p x), δ, μ)) h
  | some (.nx, δ, μ), h => exact ret_ok (r := some (.nx, δ, μ)) h
  | some (.exc c, δ, μ), h => exact ret_ok (r := some (.exc c, δ, μ)) h

section
variable {P : Program} {w : World} {K : PySem.W.Frag} {mg : Str → Option Value} {base : Heap}
/-- the context of a def's body -/
abbrev cxF (P : Program) (w : World) (K : PySem.W.Frag) (mg : Str → Option Value) (base : Heap) (N : List Str) (qual : Str) (st : Stmt) (f : Addr) (cdv : Value) (A : Around) (outer : List Env) (s : Shared) (H : Hp) (E : XK) : Cx :=
  cxOf (L2.CX P w) P w K mg base N qual (defScope st) f cdv A outer s H E
/-- a def by its body's worth -/
theorem fnG {x qual : Str} {st : Stmt} {f : Addr} {fd : FuncData} {N ps : List Str} {k : Nat} {sv : SEv} {sem : FSem} (F : Fun K x qual st f fd) (S : FnScope N ps (defScope st))
    (hret : ∀ (E : XK) (Q : VK) (G : Hp) (ρ : List Addr) (H : Hp) (ds : List D) (μ : Mu), Zn α H G ρ μ → Post α (WF E) (RepD α) G ρ [] Q (sem ds μ) → SPost α (WF E) { nx := fun _ H' => Q .non H', rt := Q } G ρ (bodyS N.length sv ds μ))
    (hb : ∀ (cdv : Value) (A : Around) (outer : List Env) (s : Shared) (H : Hp) (E : XK), Room k (A.deeper (envOfC qual (defScope st) s.heap.objs.size f cdv)) →
      Takes (cxF P w K mg base N qual st f cdv A outer s H E) (WF E) → PassesOwn (model P w) (cxF P w K mg base N qual st f cdv A outer s H E).A (cxF P w K mg base N qual st f cdv A outer s H E).env (cxF P w K mg base N qual st f cdv A outer s H E).xe →
      PSs (cxF P w K mg base N qual st f cdv A outer s H E) (defBody st) (tS α (WF E) sv)) :
    FnOk P w K mg base (L2.CX P w) (k + 1) f fd ps (spF α ps.length sem) := by
  refine F.okX S (fun vs H Q E h => h.1) (fun cdv A outer s H vs Q E hr h => ?_)
  obtain ⟨hl, G, ρ, μ, ds, z, r, p⟩ := h
  refine ⟨_, hb cdv A outer s H E hr (takes_of rfl rfl rfl rfl) (passes_of rfl), G, ρ, _, μ, z, Sq.start r, ?_⟩
  exact hret E Q G ρ H ds μ z p
theorem fnV {x qual : Str} {st : Stmt} {f : Addr} {fd : FuncData} {N ps : List Str} {k : Nat} {sv : SEv} (F : Fun K x qual st f fd) (S : FnScope N ps (defScope st))
    (hb : ∀ (cdv : Value) (A : Around) (outer : List Env) (s : Shared) (H : Hp) (E : XK), Room k (A.deeper (envOfC qual (defScope st) s.heap.objs.size f cdv)) →
      Takes (cxF P w K mg base N qual st f cdv A outer s H E) (WF E) → PassesOwn (model P w) (cxF P w K mg base N qual st f cdv A outer s H E).A (cxF P w K mg base N qual st f cdv A outer s H E).env (cxF P w K mg base N qual st f cdv A outer s H E).xe →
      PSs (cxF P w K mg base N qual st f cdv A outer s H E) (defBody st) (tS α (WF E) sv)) :
    FnOk P w K mg base (L2.CX P w) (k + 1) f fd ps (spF α ps.length (bodySem N.length sv)) :=
  fnG F S (fun E Q G ρ H ds μ z p => ret_ok (by rw [z.len]; exact p)) hb
theorem fnVC {x qual : Str} {st : Stmt} {f : Addr} {fd : FuncData} {N ps : List Str} {k : Nat} {sv : SEv} (F : Fun K x qual st f fd) (S : FnScope N ps (defScope st))
    (hb : ∀ (cdv : Value) (A : Around) (outer : List Env) (s : Shared) (H : Hp) (E : XK), Room k (A.deeper (envOfC qual (defScope st) s.heap.objs.size f cdv)) →
      Takes (cxF P w K mg base N qual st f cdv A outer s H E) (WF E) → PassesOwn (model P w) (cxF P w K mg base N qual st f cdv A outer s H E).A (cxF P w K mg base N qual st f cdv A outer s H E).env (cxF P w K mg base N qual st f cdv A outer s H E).xe →
      PSs (cxF P w K mg base N qual st f cdv A outer s H E) (defBody st) (tS α (WF E) sv)) :
    FnOk P w K mg base (L2.CX P w) (k + 1) f fd ps (spF α ps.length (bodySemC N.length sv)) :=
  fnG F S (fun E Q G ρ H ds μ z p => retC_ok (by rw [z.len]; exact p)) hb
/-- a worth that says less -/
theorem fn_le {f : Addr} {fd : FuncData} {ps : List Str} {k n : Nat} {sem sem' : FSem} {CX : CXT} (F : FnOk P w K mg base CX k f fd ps (spF α n sem)) (h : ∀ ds μ r, sem' ds μ = some r → sem ds μ = some r) : FnOk P w K mg base CX k f fd ps (spF α n sem') :=
  F.imp fun vs H Q E ⟨hl, G, ρ, μ, ds, z, r, p⟩ => ⟨hl, G, ρ, μ, ds, z, r, by
    cases q : sem' ds μ with
    | none => rw [q] at p; exact p.elim
    | some y => rw [h _ _ _ q]; rw [q] at p; exact p⟩
end

/-! ### calls -/
section
variable {W : WX} {X : Cx}
theorem post_at {G : Hp} {ρ : List Addr} {σ : L2.St} {Q : VK} {m : Option (Out D × Mu)} (h : Post α W (RepD α) G ρ σ Q m) : Post α (WF (WE W σ)) (RepD α) G ρ [] Q m := by
  match m, h with
  | some (.ok x, μ'), h => exact h
  | some (.exc c, μ'), h => exact h
theorem reps_ds {G : Hp} {ρ : List Addr} : ∀ {vs : List V} {xs : List P}, Reps α G vs xs → RepDs α G ρ vs (xs.map .p)
  | _, _, .nil => .nil
  | _, _, .cons r t => .cons r (reps_ds t)
theorem reps_dvs {G : Hp} {ρ : List Addr} {dvs : List V} {dds : List P} (h : ∀ G, Reps α G dvs dds) : RepDs α G ρ dvs (dds.map .p) := reps_ds (h G)
def evCall (sem : FSem) (dds : List P) (args : EvA) : Ev := fun δ μ => bindG (args δ μ) fun ds μ1 => sem (ds ++ dds.map .p) μ1
theorem call_imp {sem : FSem} {n : Nat} {dvs : List V} {dds : List P} {args : EvA} (hd : ∀ G, Reps α G dvs dds) (hn : ∀ ds μ r, sem ds μ = some r → ds.length = n) {σ : L2.St} {H : Hp} {Q : VK} (h : tV α W (evCall sem dds args) σ H Q) :
    tVs α W args σ H fun vs H1 => spF α n sem (vs ++ dvs) H1 Q (WE W σ) := by
  obtain ⟨G, ρ, δ, μ, z, s, p⟩ := h
  refine ⟨G, ρ, δ, μ, z, s, Post.bind p fun ds μ1 vs H1 G1 ρ1 u z1 r1 p1 => ?_⟩
  have r2 := r1.append (reps_dvs (G := G1) (ρ := ρ1) hd)
  refine ⟨?_, G1, ρ1, μ1, _, z1, r2, post_at p1⟩
  rw [r2.length]
  cases q : sem (ds ++ dds.map .p) μ1 with
  | none => rw [q] at p1; exact p1.elim
  | some y => exact hn _ _ _ q
/-- the worths have their number of arguments -/
def Arity (sem : FSem) (n : Nat) : Prop := ∀ ds μ r, sem ds μ = some r → ds.length = n
section
variable {k n : Nat} {f : Addr} {fd : FuncData} {ps : List Str} {sem : FSem} {dvs : List V} {dds : List P} {ds : List Value} {x : Str} {p pos : Pos} {e : Expr} {es : List Expr} {args : EvA}
theorem v_call (tk : Takes X W) (hr : Room k X.A) (F : FnOk X.prog X.w X.K X.mg X.base (L2.CX X.prog X.w) k f fd ps (spF α n sem)) (hn : Arity sem n) (hm : X.mg x = some (.ref f)) (hk : PySem.W.keepIn X.K (.ref f) = true) (hb : Binds X.K fd ps ds) (hd : Vals dvs ds) (hdd : ∀ G, Reps α G dvs dds)
    (ha : PA X (e :: es) (tVs α W args)) (hg : Gl X x := by rfl) (hdb : (x == ("__debug__" : Str)) = false := by decide) (he : starEach (e :: es) X.env = (false, eval e X.env) :: starEach es X.env := by rfl) (hpl : (backTo pos (starEach es X.env)).any (·.1) = false := by rfl) :
    PE X (.Call (.Name x p) (e :: es) [] pos) (tV α W (evCall sem dds args)) :=
  PE.imp (pe_callSD F hr hg hm hk hb hd (fun σ => passAt tk σ) ha hdb he hpl) fun σ H Q h => call_imp hdd hn h

/-! ### own classes -/
theorem run_makeS {k : Nat} {f C : Addr} {fd : FuncData} {ps : List Str} {sp : Sp} {dvs : List V} {ds : List Value} {E : XK} {pins : List (Addr × Obj)} {σ : L2.St} {H : Hp} {s : Shared} {Q : VK} {us : List Value} {vs : List V} {CX : CXT} (M : Mk X.K C f) (F : FnOk X.prog X.w X.K X.mg X.base CX k f fd ps sp) (hr : Room (k + 1) X.A) (hb : Binds X.K fd ps ds) (hd : Vals dvs ds)
    (hx : PassesAt CX X σ E) (I : Inv X pins σ H s) (r : Vals vs us)
    (h : ∀ x dx, H x = none → H dx = none → dx ≠ x → sp (.ref x :: (vs ++ dvs)) (upd (upd H dx (.own x)) x (.ins C dx [])) (fun v H2 => v = .non ∧ Q (.ref x) H2) E) :
    wpAny (model X.prog X.w) X.A (call (.ref C) us) (EP X pins σ Q) X.xe s := by
  have hq := h (s.heap.objs.size + 1) s.heap.objs.size (I.hok.fresh (Nat.le_succ _)) (I.hok.fresh (Nat.le_refl _)) (Nat.ne_of_lt (Nat.lt_succ_self _))
  have I2 := Inv.made (C := C) I
  have r2 : Vals (V.ref (s.heap.objs.size + 1) :: (vs ++ dvs)) (Value.ref (s.heap.objs.size + 1) :: (us ++ ds)) := .cons rfl (r.append hd)
  have hl : (Value.ref (s.heap.objs.size + 1) :: us ++ ds).length = ps.length := by
    have e := r2.length
    rw [F.len _ _ _ _ hq] at e
    exact e.symm
  refine wpAny_call (make_map (f := f) I.kIn M.makes M.init (beq_iff_eq.mp M.fn) (codeAny_mono (F.run _ X.stack _ _ ⟨Value.ref (s.heap.objs.size + 1) :: us, []⟩ (Value.ref (s.heap.objs.size + 1) :: (us ++ ds)) _ _ E (hr.make C us [])
    (I2.env0.make C us []) (hb _ (Value.ref (s.heap.objs.size + 1) :: us) I2.kIn hl) r2 hq) fun r s' hq' => ?_))
  cases r with
  | error e => exact hx pins _ _ e s' I2 hq'
  | ok fl =>
    cases fl with
    | ret u =>
      obtain ⟨v, H', I3, rv, ev, q3⟩ := I2.after hq'
      subst ev
      exact ⟨rv, ⟨V.ref (s.heap.objs.size + 1), H', I3, rfl, q3⟩⟩
    | next => exact False.elim hq'
    | brk => exact False.elim hq'
    | cont => exact False.elim hq'
def tMakeS (C : Addr) (sp : Sp) (dvs : List V) (E : L2.St → XK) (t : TA) : TE := fun σ H Q => t σ H fun vs H1 => ∀ x dx, H1 x = none → H1 dx = none → dx ≠ x →
  sp (.ref x :: (vs ++ dvs)) (upd (upd H1 dx (.own x)) x (.ins C dx [])) (fun v H2 => v = .non ∧ Q (.ref x) H2) (E σ)
theorem pe_makeS {k : Nat} {f C : Addr} {fd : FuncData} {ps : List Str} {sp : Sp} {dvs : List V} {ds : List Value} {E : L2.St → XK} {x : Str} {p pos : Pos} {e : Expr} {es : List Expr} {t : TA} {CX : CXT} (M : Mk X.K C f) (F : FnOk X.prog X.w X.K X.mg X.base CX k f fd ps sp) (hr : Room (k + 1) X.A) (hg : Gl X x) (hm : X.mg x = some (.ref C)) (hb : Binds X.K fd ps ds) (hd : Vals dvs ds) (hx : ∀ σ, PassesAt CX X σ (E σ))
    (ha : PA X (e :: es) t) (hdb : (x == ("__debug__" : Str)) = false := by decide) (he : starEach (e :: es) X.env = (false, eval e X.env) :: starEach es X.env := by rfl) (hpl : (backTo pos (starEach es X.env)).any (·.1) = false := by rfl) :
    PE X (.Call (.Name x p) (e :: es) [] pos) (tMakeS C sp dvs E t) := by
  refine ⟨fun pins s σ H Q I h => ?_⟩
  refine wpAny_Call_Name_kw (ld_glob I hg hm ?_ hdb)
  refine PySem.W.callWith_K (h₀ := X.base) I.ok.mod.kin M.kp (thn (ha.run pos pins s σ H _ I h) fun us s1 ⟨vs, H1, I1, r, q⟩ => ⟨I1.kIn, ?_⟩) he hpl
  exact run_makeS M F hr hb hd (hx σ) I1 r q
def mkEnd (c nf l : Nat) : Option (Out D × Mu) → Option (Out D × Mu)
  | some (.ok d, μ2) => if isNon d = true then (match μ2[l]? with
    | some (some (.ins c' xs)) => if c' = c ∧ xs.length = nf then some (.ok (.p (.obj c xs)), μ2.take l) else none
    | _ => none) else none
  | some (.exc e, μ2) => some (.exc e, μ2.take l)
  | none => none
theorem isNon_of {d : D} (h : isNon d = true) : d = .p .non := by
  cases d with
  | loc l => cases h
  | p x => cases x <;> first | rfl | cases h
def evMake (c nf : Nat) (sem : FSem) (dds : List P) (args : EvA) : Ev := fun δ μ => bindG (args δ μ) fun ds μ1 => mkEnd c nf μ1.length (sem (.loc μ1.length :: (ds ++ dds.map .p)) (μ1 ++ [some (.ins c [])]))
theorem take_set {μ : Mu} {l n : Nat} {o : Option MO} (h : n ≤ l) : (μ.set l o).take n = μ.take n := by
  apply List.ext_getElem?
  intro i
  by_cases hi : i < n
  · rw [List.getElem?_take_of_lt hi, List.getElem?_take_of_lt hi, List.getElem?_set_ne (by omega)]
  · rw [List.getElem?_eq_none (by rw [List.length_take]; omega), List.getElem?_eq_none (by rw [List.length_take]; omega)]
theorem v_make {c nf k n : Nat} {f : Addr} {fd : FuncData} {ps : List Str} {sem : FSem} {dvs : List V} {dds : List P} {ds : List Value} {x : Str} {p pos : Pos} {e : Expr} {es : List Expr} {args : EvA} (tk : Takes X W) (hr : Room (k + 1) X.A) (M : Mk X.K (α.cl c) f) (F : FnOk X.prog X.w X.K X.mg X.base (L2.CX X.prog X.w) k f fd ps (spF α n sem)) (hn : Arity sem n) (hnf : (α.fl c).length = nf)
    (hm : X.mg x = some (.ref (α.cl c))) (hb : Binds X.K fd ps ds) (hd : Vals dvs ds) (hdd : ∀ G, Reps α G dvs dds) (ha : PA X (e :: es) (tVs α W args)) (hg : Gl X x := by rfl) (hdb : (x == ("__debug__" : Str)) = false := by decide) (he : starEach (e :: es) X.env = (false, eval e X.env) :: starEach es X.env := by rfl)
    (hpl : (backTo pos (starEach es X.env)).any (·.1) = false := by rfl) : PE X (.Call (.Name x p) (e :: es) [] pos) (tV α W (evMake c nf sem dds args)) := by
  refine PE.imp (pe_makeS M F hr hg hm hb hd (fun σ => passAt tk σ) ha hdb he hpl) fun σ H Q ⟨G, ρ, δ, μ, z, s, p⟩ => ⟨G, ρ, δ, μ, z, s, Post.bind p fun ds' μ1 vs H1 G1 ρ1 u z1 r1 p1 => ?_⟩
  intro a dx na ndx nad
  have s1 : Same H1 (upd H1 dx (.own a)) := same_upd ndx
  have na2 : (upd H1 dx (.own a)) a = none := by rw [upd_ne (Ne.symm nad)]; exact na
  have z2 := (z1.grow s1).place (m := .ins c []) na2 (o := .ins (α.cl c) dx []) ⟨dx, [], by rw [List.zip_nil_right], Nat.zero_le _, .nil⟩
  have hat : (ρ1 ++ [a])[μ1.length]? = some a := by rw [← z1.len]; simp
  have r2 : RepDs α G1 (ρ1 ++ [a]) (.ref a :: (vs ++ dvs)) (.loc μ1.length :: (ds' ++ dds.map .p)) := .cons ⟨a, rfl, hat⟩ ((r1.up up_place).append (reps_dvs hdd))
  refine ⟨?_, G1, ρ1 ++ [a], _, _, z2, r2, ?_⟩
  · rw [r2.length]
    cases q : sem (.loc μ1.length :: (ds' ++ dds.map .p)) (μ1 ++ [some (.ins c [])]) with
    | none => rw [q] at p1; exact p1.elim
    | some y => exact hn _ _ _ q
  · generalize sem (.loc μ1.length :: (ds' ++ dds.map .p)) (μ1 ++ [some (.ins c [])]) = m at p1
    match m, p1 with
    | some (.exc ec, μ2), p1 =>
      intro H' G' ρ' u2 z3
      obtain ⟨sm, r, er⟩ := u2
      have z4 := z3.cut (ρ0 := ρ1) (r := [a] ++ r) (by rw [er, List.append_assoc])
      rw [z1.len] at z4
      exact p1 H' G' ρ1 ⟨sm, [], (List.append_nil _).symm⟩ z4
    | some (.ok d, μ2), p1 =>
      intro v H' G' ρ' u2 z3 rv
      unfold mkEnd at p1
      dsimp only at p1
      split at p1
      · rename_i hd0
        rw [isNon_of hd0] at rv
        refine ⟨repNon rv, ?_⟩
        have hat' : ρ'[μ1.length]? = some a := u2.get hat
        obtain ⟨sm, r, er⟩ := u2
        split at p1
        · rename_i c' xs hc
          split at p1
          · rename_i hh
            obtain ⟨rfl, hx⟩ := hh
            obtain ⟨a', h1, h2, dx', ws, h3, h4, h5⟩ := z3.cell _ _ hc
            rw [hat'] at h1; cases h1
            obtain ⟨z4, g⟩ := z3.freeze hc hat' h3
            have z5 := z4.cut (ρ0 := ρ1) (r := [a] ++ r) (by rw [er, List.append_assoc])
            rw [z1.len, take_set (Nat.le_refl _)] at z5
            exact p1 (.ref a) H' _ ρ1 ⟨sm.trans (same_upd g), [], (List.append_nil _).symm⟩ z5 (.obj upd_same (by rw [h5.length, hx, hnf]) (h5.mono (same_upd g)))
          · exact p1.elim
        · exact p1.elim
      · exact p1.elim

/-- a class's attributes, as the rules ask for them -/
structure Own (α : Amb) (c : Nat) : Prop where
  cls : Cls α.K (α.cl c)
  no : ∀ (i : Nat) (f : Str), (α.fl c)[i]? = some f → NoAttr α.K (α.cl c) f
  nd : (α.fl c).Nodup
  few : (α.fl c).length < 1000
theorem lookup_zip : ∀ {ns : List Str} {vs : List V} {i : Nat} {f : Str} {v : V}, ns.Nodup → ns[i]? = some f → vs[i]? = some v → (ns.zip vs).lookup f = some v
  | [], _, _, _, _, _, h, _ => by simp at h
  | _ :: _, [], _, _, _, _, _, h => by simp at h
  | a :: ns, w :: vs, 0, f, v, nd, h1, h2 => by
    simp at h1 h2; subst h1; subst h2
    show List.lookup a ((a, w) :: ns.zip vs) = some w
    simp [List.lookup]
  | a :: ns, w :: vs, i + 1, f, v, nd, h1, h2 => by
    have nd' := List.nodup_cons.mp nd
    have hf : f ∈ ns := List.mem_of_getElem? (by simpa using h1)
    have hne : (f == a) = false := beq_eq_false_iff_ne.mpr fun e => nd'.1 (by rw [← e]; exact hf)
    show List.lookup f ((a, w) :: ns.zip vs) = some v
    simp only [List.lookup, hne]
    exact lookup_zip nd'.2 (by simpa using h1) (by simpa using h2)
theorem putF_zip_set {y : V} : ∀ {ns : List Str} {vs : List V} {i : Nat} {f : Str}, ns.Nodup → ns[i]? = some f → i < vs.length → putF f y (ns.zip vs) = ns.zip (vs.set i y)
  | [], _, _, _, _, h, _ => by simp at h
  | _ :: _, [], _, _, _, _, h => by simp at h
  | a :: ns, w :: vs, 0, f, nd, h1, _ => by
    simp at h1; subst h1
    show (if a = a then _ else _) = _
    rw [if_pos rfl]; rfl
  | a :: ns, w :: vs, i + 1, f, nd, h1, h2 => by
    have nd' := List.nodup_cons.mp nd
    have hf : f ∈ ns := List.mem_of_getElem? (by simpa using h1)
    have hne : ¬ a = f := fun e => nd'.1 (by rw [e]; exact hf)
    show (if a = f then _ else (a, w) :: putF f y (ns.zip vs)) = _
    rw [if_neg hne, putF_zip_set nd'.2 (by simpa using h1) (by simpa using h2)]
    rfl
theorem putF_zip_new {y : V} : ∀ {ns : List Str} {vs : List V} {f : Str}, ns.Nodup → ns[vs.length]? = some f → putF f y (ns.zip vs) = ns.zip (vs ++ [y])
  | [], _, _, _, h => by simp at h
  | a :: ns, [], f, nd, h1 => by
    simp at h1; subst h1
    show [(a, y)] = (a, y) :: List.zip ns []
    rw [List.zip_nil_right]
  | a :: ns, w :: vs, f, nd, h1 => by
    have nd' := List.nodup_cons.mp nd
    have hf : f ∈ ns := List.mem_of_getElem? (by simpa using h1)
    have hne : ¬ a = f := fun e => nd'.1 (by rw [e]; exact hf)
    show (if a = f then _ else (a, w) :: putF f y (ns.zip vs)) = _
    rw [if_neg hne, putF_zip_new nd'.2 (by simpa using h1)]
    rfl
/-- o.f, the attribute i of the class c -/
def fFld (c i : Nat) : F1 := fun x μ => match x with
  | .p (.obj c' xs) => if c' = c then (xs[i]?).map fun y => (.p y, μ) else none
  | .loc l => match μ[l]? with
    | some (some (.ins c' xs)) => if c' = c then (xs[i]?).map fun y => (.p y, μ) else none
    | _ => none
  | _ => none
theorem v_fld (c i : Nat) {e : Expr} {ev : Ev} {f : Str} {pos : Pos} (O : Own α c) (hK : X.K = α.K) (hf : (α.fl c)[i]? = some f) (he : PE X e (tV α W ev)) (hb : attributeBase e f X.env (eval e X.env) = eval e X.env := by rfl) : PE X (.Attribute e f pos) (tV α W (evUn (fFld c i) ev)) :=
  PE.imp (pe_fld he hb) fun σ H Q ⟨G, ρ, δ, μ, z, s, p⟩ => ⟨G, ρ, δ, μ, z, s, Post.bind p fun x μ1 v H1 G1 ρ1 u z1 r1 p1 => by
    have pf := p1.fin
    clear p1
    rw [hK]
    cases x with
    | p x =>
      cases x with
      | obj c' xs =>
        cases r1 with
        | obj h hl hr =>
          unfold fFld at pf
          dsimp only at pf
          split at pf
          · rename_i hc
            subst hc
            cases q : xs[i]? with
            | none => rw [q] at pf; exact pf.elim
            | some y =>
              rw [q] at pf
              obtain ⟨w, h1, h2⟩ := hr.get q
              exact ⟨_, α.cl c', _, _, w, rfl, z1.sub _ _ h, O.cls, O.no i f hf, lookup_zip O.nd hf h1, pf w H1 G1 ρ1 Up.refl z1 h2⟩
          · exact pf.elim
      | _ => exact pf.elim
    | loc l =>
      obtain ⟨a, ev, ha⟩ := r1
      subst ev
      unfold fFld at pf
      dsimp only at pf
      split at pf
      · rename_i c' xs hm
        split at pf
        · rename_i hc
          subst hc
          obtain ⟨a', g1, g2, dx, vs, g3, g4, g5⟩ := z1.cell l _ hm
          rw [ha] at g1; cases g1
          cases q : xs[i]? with
          | none => rw [q] at pf; exact pf.elim
          | some y =>
            rw [q] at pf
            obtain ⟨w, h1, h2⟩ := g5.get q
            exact ⟨a, α.cl c', dx, _, w, rfl, g3, O.cls, O.no i f hf, lookup_zip O.nd hf h1, pf w H1 G1 ρ1 Up.refl z1 h2⟩
        · exact pf.elim
      · exact pf.elim⟩
/-- self.f = e, the attribute i of the class c, self an object that may change -/
def sFldS (c i : Nat) (o e : Ev) : SEv := fun δ μ => bindS (e δ μ) δ fun d μ1 => bindS (o δ μ1) δ fun x μ2 => match x, toP μ2 d with
  | .loc l, some (y, μ3) => match μ3[l]? with
    | some (some (.ins c' xs)) => if c' = c then (if i < xs.length then some (.nx, δ, μ3.set l (some (.ins c (xs.set i y)))) else if i = xs.length then some (.nx, δ, μ3.set l (some (.ins c (xs ++ [y])))) else none) else none
    | _ => none
  | _, _ => none
theorem v_fldS (c i : Nat) {o value : Expr} {eo ev : Ev} {f : Str} {pos pos' : Pos} (O : Own α c) (hK : X.K = α.K) (hf : (α.fl c)[i]? = some f) (ho : PE X o (tV α W eo)) (hv : PE X value (tV α W ev)) (hs : swapsWith value (some (.Attribute o f pos')) pos.line X.env = pure false := by rfl) :
    PS X (.Assign [.Attribute o f pos'] value pos) (tS α W (sFldS c i eo ev)) :=
  PS.imp (ps_fld ho hv hs) fun Dn σ H ⟨G, ρ, δ, μ, z, s, p⟩ => ⟨G, ρ, δ, μ, z, s, SPost.bind p s fun d μ1 y H1 G1 ρ1 u z1 r1 p1 => ⟨G1, ρ1, δ, μ1, z1, s.up u, SPost.bind p1 (s.up u) fun x μ2 v H2 G2 ρ2 u2 z2 r2 p2 => by
    rw [hK]
    cases x with
    | p x => exact p2.elim
    | loc l =>
      cases q : toP μ2 d with
      | none => rw [q] at p2; exact p2.elim
      | some ym =>
        obtain ⟨y', μ3⟩ := ym
        rw [q] at p2
        dsimp only at p2
        obtain ⟨G3, u3, z3, r3⟩ := toP_ok z2 (r1.up u2) q
        obtain ⟨a, rfl, ha⟩ := r2
        split at p2
        · rename_i c' xs hm
          split at p2
          · rename_i hc
            subst hc
            obtain ⟨a', g1, g2, dx, vs, g3, g4, g5⟩ := z3.cell l _ hm
            rw [ha] at g1; cases g1
            have hlen : ((α.fl c').zip vs).length < 1000 := by
              rw [List.length_zip]
              have := O.few
              omega
            refine ⟨a, α.cl c', dx, _, rfl, g3, O.cls, O.no i f hf, hlen, ?_⟩
            have s3 := ((s.up u).up u2).up u3
            have hi : i < (α.fl c').length := (List.getElem?_eq_some_iff.mp hf).1
            split at p2
            · rename_i hlt
              rw [putF_zip_set O.nd hf (by rw [g5.length]; exact hlt)]
              exact p2 σ _ G3 ρ2 u3 (z3.write hm ha (m' := .ins c' (xs.set i y')) ⟨dx, _, rfl, by rw [List.length_set]; exact g4, g5.set r3 i⟩) s3
            · split at p2
              · rename_i hge
                have hvl : vs.length = i := by rw [g5.length]; omega
                rw [putF_zip_new O.nd (by rw [hvl]; exact hf)]
                exact p2 σ _ G3 ρ2 u3 (z3.write hm ha (m' := .ins c' (xs ++ [y'])) ⟨dx, _, rfl, by rw [List.length_append, hvl]; exact hi, g5.append (.cons r3 .nil)⟩) s3
              · exact p2.elim
          · exact p2.elim
        · exact p2.elim⟩⟩
end
end
end
end Vs
namespace PySem.W
open PySem PySem.Calls PyProof.Rows
section
variable {prog : Program} {w : World} {A : Around} {E : Value → Shared → Prop} {s : Shared} {K : Frag} {x C L f : Addr} {h₀ : Heap} {m : Str → Option Value} {ox : Obj} {od : Option Obj} {b tb : Value}
theorem vs_ne_bind (self : Value) : bindSpecial (.builtin "object.__ne__") self = pure (.builtin "object.__ne__", [self]) := PySem.F.cmp_object.ne.bind self
theorem vs_ifBoundB {M : Model} {args : List Value} {Q : Option Value → Shared → Prop} (X : K.In s.heap) (I : InstAt s.heap x ox C od) (hs : findIn K (.ref C) "__ne__" = some (some (.builtin "object.__ne__")))
    (h : wpAny M A (call (.builtin "object.__ne__") (.ref x :: args)) (fun v => Q (some v)) E s) : wpAny M A (callSpecialIfBound? (.ref x) "__ne__" args) Q E s := by
  simp only [callSpecialIfBound?, bindSpecialIfBound?]
  refine wpAny_holding (wpAny_bind (wpAny_bind (wpAny_bind (I.type.here ((looks_findIn X hs).here ?_)))))
  refine wpAny_bind (wpAny_askSetting (wpAny_ite ?_))
  have fin : wpAny M A (call (.builtin "object.__ne__") ([.ref x] ++ args) >>= fun v => pure (some v)) Q E s := wpAny_bind (wpAny_mono h (fun v s' h' => wpAny_pure h') fun _ _ h' => h')
  rw [vs_ne_bind]
  split
  · exact wpAny_bind (wpAny_pure (wpAny_pure (by exact fin)))
  · exact wpAny_tryCatch (wpAny_bind (wpAny_pure (wpAny_pure (by exact fin))))
theorem vs_neBody {M : Model} {Q : Fin → Shared → Prop} (hu : A.units < cLine) (X : K.In s.heap) (I : InstAt s.heap x ox C od) (hs : findIn K (.ref C) "__eq__" = some (some (.ref f))) (hf : isFn K (.ref f) = true)
    (h : wpAny M A (call (.ref f) [.ref x, b]) (fun v s' => ∃ k, v = .bool k ∧ Q (.done (.ret (.bool (!k)))) s') E s) : wpAny M A (Builtin.«object.__ne__» ⟨[.ref x, b], []⟩) Q E s := by
  unfold Builtin.«object.__ne__»
  repeat (first
    | with_reducible refine wpAny_cRoomFor hu ?_
    | (refine wpAny_bind (m := callSpecialIfBound? (.ref x) (Str.ofString "__eq__") [b])
        (ifBound_K X I hs hf (wpAny_mono h (fun r s' hr => by
          obtain ⟨k, rfl, hq⟩ := hr
          repeat (first | exact hq | exact wpAny_pure hq | exact wpAny_truthy_bool hq | (refine wpAny_bind (m := truthy (.bool _)) (wpAny_truthy_bool ?_)) | wp_step)) fun _ _ e => e)))
    | wp_step)
/-- x != b by the class's own ==, its != being the object's -/
theorem vs_ne_K {Q : Value → Shared → Prop} (hu : A.units + 1 < cLine) (F : Fr h₀ L s.heap m) (X₀ : K.In h₀) (I : InstAt s.heap x ox C od) (hb : Looks (model prog w) s.heap (typeOf b) tb) (hn : notFirst K C tb = true)
    (hne : findIn K (.ref C) "__ne__" = some (some (.builtin "object.__ne__"))) (hob : subIn K (.ref C) (.type "object") = some true) (hs : findIn K (.ref C) "__eq__" = some (some (.ref f))) (hf : isFn K (.ref f) = true)
    (h : wpAny (model prog w) A.in1 (call (.ref f) [.ref x, b]) (fun v s' => ∃ k, v = .bool k ∧ Q (.bool (!k)) s') E s) : wpAny (model prog w) A (richCompare .NotEq (.ref x) b) Q E s := by
  have X := X₀.keeps F.keep
  have hcall : wpAny (model prog w) A (call (.builtin "object.__ne__") [.ref x, b]) (fun v s' => ∃ k, v = .bool k ∧ Q (.bool k) s') E s := by
    refine wpAny_call (codeAny_call_builtin PySem.F.cmp_object.ne.plain PySem.F.cmpEntry_ne ?_)
    refine check_slot PySem.F.cmpKind_ne PySem.F.cmpSplit_ne (I.type.andThen (looks_subIn X hob)) (PySem.F.cmpArgs_ne _ _) ?_
    exact vs_neBody (A := A.in1) (by show A.units + 1 < cLine; exact hu) X I hs hf (wpAny_mono h (fun v s' hv => by
      obtain ⟨k, rfl, q⟩ := hv
      exact ⟨k, rfl, !k, rfl, q⟩) fun _ _ e => e)
  have one : wpAny (model prog w) A (tryCompare (.ref x) (cmpInfo .NotEq).2.1 b) (fun r s' => ∃ v, r = some v ∧ Q v s') E s := by
    unfold tryCompare
    refine wpAny_bind (vs_ifBoundB X I hne (wpAny_mono hcall (fun v s' hv => ?_) fun _ _ e => e))
    obtain ⟨k, rfl, q⟩ := hv
    exact wpAny_pure ⟨_, rfl, q⟩
  unfold richCompare
  simp only [oneThing_ref]
  refine wpAny_holding (wpAny_bind (wpAny_cRoomFor (Nat.lt_of_succ_lt hu) ?_))
  refine wpAny_bind (I.type.here (wpAny_bind (hb.here ?_)))
  split
  · rename_i q
    have e : subIn K tb (.ref C) = some false := by
      rcases Bool.or_eq_true_iff.mp hn with e | e
      · rw [beq_iff_eq.mp e] at q; simp at q
      · exact beq_iff_eq.mp e
    refine wpAny_bind ((looks_subIn X e).here ?_)
    simp only [Bool.false_eq_true, if_false]
    refine wpAny_bind (wpAny_mono one (fun r s' z => ?_) fun _ _ e => e)
    obtain ⟨v, rfl, hq⟩ := z
    exact wpAny_pure hq
  · refine wpAny_bind (wpAny_pure ?_)
    simp only [Bool.false_eq_true, if_false]
    refine wpAny_bind (wpAny_mono one (fun r s' z => ?_) fun _ _ e => e)
    obtain ⟨v, rfl, hq⟩ := z
    exact wpAny_pure hq
end
end PySem.W
namespace Vs
open PySem PySem.Spec PyProof.Rows L2
section
variable {α : Amb} {W : WX} {X : Cx}

/-! ### own operators -/
section
variable {k n : Nat} {f : Addr} {fd : FuncData} {ps : List Str} {sem : FSem}
/-- a call one machine level deeper -/
theorem run_fnS1 {CX : CXT} {sp : Sp} {E : L2.St → XK} {pins : List (Addr × Obj)} {σ : L2.St} {H : Hp} {s : Shared} {Q : VK} {us : List Value} {vs : List V} (F : FnOk X.prog X.w X.K X.mg X.base CX k f fd ps sp) (hr : Room (k + 1) X.A) (hb : Binds X.K fd ps []) (hx : PassesAt CX X σ (E σ))
    (I : Inv X pins σ H s) (r : Vals vs us) (h : sp vs H Q (E σ)) : wpAny (model X.prog X.w) X.A.in1 (call (.ref f) us) (EP X pins σ Q) X.xe s := by
  have hl : us.length = ps.length := by rw [← r.length]; exact F.len _ _ _ _ h
  have b := hb s us I.kIn (by rw [List.append_nil]; exact hl)
  rw [List.append_nil] at b
  refine wpAny_call (codeAny_mono (F.run X.A.in1 X.stack s H ⟨us, []⟩ us vs Q (E σ) hr.in1 I.env0.in1 b r h) fun r s' hq => ?_)
  cases r with
  | error e => exact hx pins H s e s' I hq
  | ok fl =>
    cases fl with
    | ret u => exact I.after hq
    | next => exact False.elim hq
    | brk => exact False.elim hq
    | cont => exact False.elim hq
theorem repObj {G : Hp} {x : V} {c : Nat} {xs : List P} (h : Rep α G x (.obj c xs)) : ∃ a dx fs, x = .ref a ∧ G a = some (.ins (α.cl c) dx fs) := by
  cases h with
  | obj h _ _ => exact ⟨_, _, _, rfl, h⟩
theorem inst_of {pins : List (Addr × Obj)} {σ : L2.St} {H : Hp} {s : Shared} {a C dx : Addr} {fs : List (Str × V)} (I : Inv X pins σ H s) (h : H a = some (.ins C dx fs)) : ∃ od, PySem.W.InstAt s.heap a (PySem.W.instObj C dx) C (some od) := by
  obtain ⟨mA, J, _⟩ := ins_get I.hok h
  obtain ⟨od, J, _⟩ := J.look
  exact ⟨od, J⟩
theorem back_ok {pins : List (Addr × Obj)} {σ : L2.St} {Q : VK} {u : Value} {s' : Shared} (h : EP X pins σ Q u s') : PySem.W.CmpBack (EP X pins σ Q) u s' := by
  obtain ⟨v, H', I, r, q⟩ := h
  have hne : u ≠ .notImplemented := by
    rintro rfl
    cases v <;> first | (cases r; done) | (obtain ⟨t, e⟩ := r; cases e)
  unfold PySem.W.CmpBack
  split
  · exact absurd rfl hne
  · exact ⟨v, H', I, r, q⟩
def semD (sem : FSem) (ds : List D) (μ : Mu) : Option (D × Mu) := match sem ds μ with
  | some (.ok d, μ') => some (d, μ')
  | _ => none
def isObj (c : Nat) : D → Bool
  | .p (.obj c' _) => c' == c
  | _ => false
theorem isObj_of {c : Nat} {d : D} (h : isObj c d = true) : ∃ xs, d = .p (.obj c xs) := by
  cases d with
  | loc l => cases h
  | p x => cases x <;> first | (cases h; done) | (rename_i c' xs; have e : (c' == c) = true := h; rw [beq_iff_eq.mp e]; exact ⟨_, rfl⟩)
/-- an operator of two objects of one class, by the class's method -/
def fOwn (c : Nat) (sem : FSem) : F2 := fun x y μ => if (isObj c x && isObj c y) = true then semD sem [x, y] μ else none
/-- what the class's method for an operator must be -/
structure OpOwn (K : PySem.W.Frag) (C f : Addr) (name : Str) : Prop where
  first : PySem.W.selfFirst K C = true
  find : PySem.W.findIn K (.ref C) name = some (some (.ref f))
  fn : PySem.W.isFn K (.ref f) = true
theorem spf_of {c : Nat} {G : Hp} {ρ : List Addr} {H : Hp} {μ : Mu} {σ : L2.St} {Q : VK} {vs : List V} {ds : List D} (z : Zn α H G ρ μ) (r : RepDs α G ρ vs ds) (hn : Arity sem n) (q : Fin1 α G ρ Q (semD sem ds μ)) : spF α n sem vs H Q (WE W σ) := by
  unfold semD at q
  split at q
  · rename_i d μ' h
    refine ⟨by rw [r.length]; exact hn _ _ _ h, G, ρ, μ, ds, z, r, ?_⟩
    rw [h]; exact q
  · exact q.elim
theorem o_own {op : Operator} {c : Nat} (tk : Takes X W) (hr : Room k X.A) (hK : X.K = α.K) (F : FnOk X.prog X.w X.K X.mg X.base (L2.CX X.prog X.w) k f fd ps (spF α n sem)) (hn : Arity sem n) (hb : Binds X.K fd ps []) (O : OpOwn X.K (α.cl c) f (PySem.dunder op.info.2)) :
    OpR X (binaryOp op) (r2V α (fOwn c sem)) := by
  intro pins s σ H x y v u Q I rx ry h
  obtain ⟨G, ρ, μ, dx, dy, z, r1, r2, q⟩ := h
  unfold fOwn at q
  split at q
  · rename_i hh
    rw [Bool.and_eq_true] at hh
    obtain ⟨xs, rfl⟩ := isObj_of hh.1
    obtain ⟨ys, rfl⟩ := isObj_of hh.2
    obtain ⟨a, d1, fs, rfl, h1⟩ := repObj r1
    obtain ⟨b, d2, gs, rfl, h2⟩ := repObj r2
    cases rx
    cases ry
    obtain ⟨od, J⟩ := inst_of I (z.sub _ _ h1)
    obtain ⟨od', J'⟩ := inst_of I (z.sub _ _ h2)
    obtain ⟨m, hF⟩ := I.fr
    refine PySem.W.binop_K hF I.ok.mod.kin J J'.type O.first O.find O.fn ?_
    refine wpAny_mono (run_fnS (E := WE W) F hr hb (passAt tk σ) I (vs := [.ref a, .ref b]) (.cons rfl (.cons rfl .nil)) (spf_of (c := c) z (.cons r1 (.cons r2 .nil)) hn q)) (fun u s' hu => back_ok hu) fun _ _ e => e
  · exact q.elim
def fOwn1 (c : Nat) (sem : FSem) : F1 := fun x μ => if isObj c x = true then semD sem [x] μ else none
theorem o_own1 {c : Nat} (tk : Takes X W) (hr : Room k X.A) (F : FnOk X.prog X.w X.K X.mg X.base (L2.CX X.prog X.w) k f fd ps (spF α n sem)) (hn : Arity sem n) (hb : Binds X.K fd ps []) (O : OpOwn X.K (α.cl c) f "__neg__") :
    UnR X (unaryOp .USub) (r1V α (fOwn1 c sem)) := by
  intro pins s σ H x v Q I rx h
  obtain ⟨G, ρ, μ, dx, z, r1, q⟩ := h
  unfold fOwn1 at q
  split at q
  · rename_i hh
    obtain ⟨xs, rfl⟩ := isObj_of hh
    obtain ⟨a, d1, fs, rfl, h1⟩ := repObj r1
    cases rx
    obtain ⟨od, J⟩ := inst_of I (z.sub _ _ h1)
    obtain ⟨m, hF⟩ := I.fr
    exact PySem.W.ksp_neg hF I.ok.mod.kin J O.find O.fn (run_fnS (E := WE W) F hr hb (passAt tk σ) I (vs := [.ref a]) (.cons rfl .nil) (spf_of (c := c) z (.cons r1 .nil) hn q))
  · exact q.elim

/-! ### own == and != with anything -/
/-- the type of data -/
def tyP (α : Amb) : P → Value
  | .non => .type "NoneType"
  | .bl _ => .type "bool"
  | .int _ => .type "int"
  | .str _ => .type "str"
  | .tup _ => .type "tuple"
  | .lst _ => .type "list"
  | .wl _ => .type "list"
  | .obj c _ => .ref (α.cl c)
theorem looks_ty {pins : List (Addr × Obj)} {σ : L2.St} {H G : Hp} {ρ : List Addr} {μ : Mu} {s : Shared} {v : V} {u : Value} {x : P} (I : Inv X pins σ H s) (hK : X.K = α.K) (z : Zn α H G ρ μ) (r : Rep α G v x) (ru : RelV v u) : PySem.W.Looks (model X.prog X.w) s.heap (typeOf u) (tyP α x) := by
  cases r with
  | non => cases ru; exact PySem.W.Looks.of_pure rfl
  | bl b => cases ru; exact PySem.W.Looks.of_pure rfl
  | int i => obtain ⟨t, rfl⟩ := ru; exact PySem.W.Looks.of_pure rfl
  | str i => obtain ⟨t, rfl⟩ := ru; exact PySem.W.Looks.of_pure rfl
  | tup h _ =>
    cases ru
    obtain ⟨its, rv, ⟨o, ho, hc, n, hd⟩, _⟩ := I.tuple (by rw [hK]; exact seqT z.sub h)
    exact fun A Q E s k q => wpAny_typeOf_ref (k _ _ ho) (by rw [hc]; exact q)
  | lst h _ =>
    cases ru
    obtain ⟨its, rv, ⟨o, n, ho, hc, _, hd⟩, _⟩ := I.list (SqL.of (z.sub _ _ h))
    exact fun A Q E s k q => wpAny_typeOf_ref (k _ _ ho) (by rw [hc]; exact q)
  | wl h _ =>
    cases ru
    obtain ⟨its, rv, ⟨o, n, ho, hc, _, hd⟩, _⟩ := I.list (by rw [hK]; exact seqL z.sub h)
    exact fun A Q E s k q => wpAny_typeOf_ref (k _ _ ho) (by rw [hc]; exact q)
  | obj h _ _ =>
    cases ru
    obtain ⟨od, J⟩ := inst_of I (z.sub _ _ h)
    exact J.type
/-- the types that the other side may have -/
def eqTys : List String := ["NoneType", "bool", "int", "str", "tuple", "list"]
structure EqOwn (K : PySem.W.Frag) (C f : Addr) : Prop where
  find : PySem.W.findIn K (.ref C) "__eq__" = some (some (.ref f))
  fn : PySem.W.isFn K (.ref f) = true
  nf : ∀ T ∈ eqTys, PySem.W.notFirst K C (.type T) = true
structure NeOwn (K : PySem.W.Frag) (C : Addr) : Prop where
  ne : PySem.W.findIn K (.ref C) "__ne__" = some (some (.builtin "object.__ne__"))
  ob : PySem.W.subIn K (.ref C) (.type "object") = some true
theorem nf_of {K : PySem.W.Frag} {c : Nat} {x : P} (hK : K = α.K) {g : Addr} (O : EqOwn K (α.cl c) g) (h : ∀ c' xs, x = .obj c' xs → c' = c) : PySem.W.notFirst K (α.cl c) (tyP α x) = true := by
  cases x with
  | obj c' xs => rw [h c' xs rfl]; simp [PySem.W.notFirst, tyP]
  | _ => exact O.nf _ (by decide)
/-- the other side: data; an object only of this class -/
def okSide (c : Nat) : D → Bool
  | .p (.obj c' _) => c' == c
  | .p _ => true
  | .loc _ => false
def notD : Option (D × Mu) → Option (D × Mu)
  | some (.p (.bl b), μ) => some (.p (.bl (!b)), μ)
  | _ => none
def fEqO (c : Nat) (sem : FSem) : F2 := fun x y μ => if (isObj c x && okSide c y) = true then semD sem [x, y] μ else none
def fNeO (c : Nat) (sem : FSem) : F2 := fun x y μ => if (isObj c x && okSide c y) = true then notD (semD sem [x, y] μ) else none
theorem side_of {c : Nat} {d : D} (h : okSide c d = true) : ∃ x, d = .p x ∧ ∀ c' xs, x = .obj c' xs → c' = c := by
  cases d with
  | loc l => cases h
  | p x => exact ⟨x, rfl, fun c' xs e => by subst e; exact beq_iff_eq.mp h⟩
theorem o_eqO {c : Nat} (tk : Takes X W) (hr : Room k X.A) (hK : X.K = α.K) (F : FnOk X.prog X.w X.K X.mg X.base (L2.CX X.prog X.w) k f fd ps (spF α n sem)) (hn : Arity sem n) (hb : Binds X.K fd ps []) (O : EqOwn X.K (α.cl c) f) :
    OpR X (compareOp .Eq) (r2V α (fEqO c sem)) := by
  intro pins s σ H x y v u Q I rx ry h
  obtain ⟨G, ρ, μ, dx, dy, z, r1, r2, q⟩ := h
  unfold fEqO at q
  split at q
  · rename_i hh
    rw [Bool.and_eq_true] at hh
    obtain ⟨xs, rfl⟩ := isObj_of hh.1
    obtain ⟨y', rfl, hy⟩ := side_of hh.2
    obtain ⟨a, d1, fs, rfl, h1⟩ := repObj r1
    cases rx
    obtain ⟨od, J⟩ := inst_of I (z.sub _ _ h1)
    obtain ⟨m, hF⟩ := I.fr
    show wpAny (model X.prog X.w) X.A (richCompare .Eq (.ref a) u) (EP X pins σ Q) X.xe s
    refine PySem.W.cmp_K (op := .Eq) hr.units0 hF I.ok.mod.kin J (looks_ty I hK z r2 ry) (nf_of hK O hy) O.find O.fn ?_
    refine wpAny_mono (run_fnS (E := WE W) F hr hb (passAt tk σ) I (vs := [.ref a, y]) (.cons rfl (.cons ry .nil)) (spf_of (c := c) z (.cons r1 (.cons r2 .nil)) hn q)) (fun u s' hu => back_ok hu) fun _ _ e => e
  · exact q.elim
theorem o_neO {c : Nat} (tk : Takes X W) (hr : Room (k + 1) X.A) (hK : X.K = α.K) (F : FnOk X.prog X.w X.K X.mg X.base (L2.CX X.prog X.w) k f fd ps (spF α n sem)) (hn : Arity sem n) (hb : Binds X.K fd ps []) (O : EqOwn X.K (α.cl c) f) (O2 : NeOwn X.K (α.cl c)) :
    OpR X (compareOp .NotEq) (r2V α (fNeO c sem)) := by
  intro pins s σ H x y v u Q I rx ry h
  obtain ⟨G, ρ, μ, dx, dy, z, r1, r2, q⟩ := h
  unfold fNeO at q
  split at q
  · rename_i hh
    rw [Bool.and_eq_true] at hh
    obtain ⟨xs, rfl⟩ := isObj_of hh.1
    obtain ⟨y', rfl, hy⟩ := side_of hh.2
    obtain ⟨a, d1, fs, rfl, h1⟩ := repObj r1
    cases rx
    obtain ⟨od, J⟩ := inst_of I (z.sub _ _ h1)
    obtain ⟨m, hF⟩ := I.fr
    show wpAny (model X.prog X.w) X.A (richCompare .NotEq (.ref a) u) (EP X pins σ Q) X.xe s
    have hu1 : X.A.units + 1 < cLine := by have := hr.units; omega
    refine PySem.W.vs_ne_K hu1 hF I.ok.mod.kin J (looks_ty I hK z r2 ry) (nf_of hK O hy) O2.ne O2.ob O.find O.fn ?_
    have q2 : Fin1 α G ρ (fun w H' => ∃ b, w = .bl b ∧ Q (.bl (!b)) H') (semD sem [D.p (.obj c xs), D.p y'] μ) := by
      revert q
      generalize semD sem [D.p (.obj c xs), D.p y'] μ = r
      intro q
      unfold notD at q
      split at q
      · rename_i b μ'
        intro w H' G' ρ' u' z' rw'
        cases rw' with
        | bl _ => exact ⟨b, rfl, q _ H' G' ρ' u' z' (.bl _)⟩
      · exact q.elim
    refine wpAny_mono (run_fnS1 (E := WE W) F hr hb (passAt tk σ) I (vs := [.ref a, y]) (.cons rfl (.cons ry .nil)) (spf_of (c := c) z (.cons r1 (.cons r2 .nil)) hn q2)) (fun u s' hu => ?_) fun _ _ e => e
    obtain ⟨w, H', I', rw', b, rfl, q3⟩ := hu
    cases rw'
    exact ⟨b, rfl, .bl (!b), H', I', rfl, q3⟩
  · exact q.elim
end

/-! ### calls of built-ins -/
abbrev FA := List D → Mu → Option (D × Mu)
def rCV (α : Amb) (f : FA) : List V → Hp → VK → Prop := fun vs H Q => ∃ G ρ μ ds, Zn α H G ρ μ ∧ RepDs α G ρ vs ds ∧ Fin1 α G ρ Q (f ds μ)
def evBI (f : FA) (a : EvA) : Ev := fun δ μ => bindG (a δ μ) fun ds μ1 => okm (f ds μ1)
section
variable {f : FA} {x : Str} {p pos : Pos} {e : Expr} {es : List Expr} {a : EvA} {id T : String}
theorem bi_imp {σ : L2.St} {H : Hp} {Q : VK} (h : tV α W (evBI f a) σ H Q) : tVs α W a σ H fun vs H1 => rCV α f vs H1 Q := by
  obtain ⟨G, ρ, δ, μ, z, s, p⟩ := h
  exact ⟨G, ρ, δ, μ, z, s, Post.bind p fun ds μ1 vs H1 G1 ρ1 u z1 r1 p1 => ⟨G1, ρ1, μ1, ds, z1, r1, p1.fin⟩⟩
theorem v_callB (hc : CallR X (.builtin id) (rCV α f)) (hm : X.mg x = none) (hv : bootBuiltins x = some (.builtin id)) (ha : PA X (e :: es) (tVs α W a)) (hg : Gl X x := by rfl) (hn : x ≠ "__name__" := by decide) (hdb : (x == ("__debug__" : Str)) = false := by decide)
    (he : starEach (e :: es) X.env = (false, eval e X.env) :: starEach es X.env := by rfl) (hpl : (backTo pos (starEach es X.env)).any (·.1) = false := by rfl) : PE X (.Call (.Name x p) (e :: es) [] pos) (tV α W (evBI f a)) :=
  PE.imp (pe_callB hc hg hm hv ha hn hdb he hpl) fun σ H Q h => bi_imp h
theorem v_callTy (hc : CallR X (.type T) (rCV α f)) (hm : X.mg x = none) (hv : bootBuiltins x = some (.type T)) (ha : PA X (e :: es) (tVs α W a)) (hg : Gl X x := by rfl) (hn : x ≠ "__name__" := by decide) (hdb : (x == ("__debug__" : Str)) = false := by decide)
    (he : starEach (e :: es) X.env = (false, eval e X.env) :: starEach es X.env := by rfl) (hpl : (backTo pos (starEach es X.env)).any (·.1) = false := by rfl) : PE X (.Call (.Name x p) (e :: es) [] pos) (tV α W (evBI f a)) :=
  PE.imp (pe_callTy hc hg hm hv ha hn hdb he hpl) fun σ H Q h => bi_imp h
theorem v_callBf (hc : CallR X (.builtin id) (rCV α f)) (hm : X.mg x = some (.builtin id)) (ha : PA X (e :: es) (tVs α W a)) (hg : Gl X x := by rfl) (hdb : (x == ("__debug__" : Str)) = false := by decide)
    (he : starEach (e :: es) X.env = (false, eval e X.env) :: starEach es X.env := by rfl) (hpl : (backTo pos (starEach es X.env)).any (·.1) = false := by rfl) : PE X (.Call (.Name x p) (e :: es) [] pos) (tV α W (evBI f a)) :=
  PE.imp (pe_callBfun hc hg hm ha hdb he hpl) fun σ H Q h => bi_imp h
end
theorem rds1 {G : Hp} {ρ : List Addr} {vs : List V} {d : D} (r : RepDs α G ρ vs [d]) : ∃ v, vs = [v] ∧ RepD α G ρ v d := by
  cases r with
  | cons r t => cases t; exact ⟨_, rfl, r⟩
theorem rds2 {G : Hp} {ρ : List Addr} {vs : List V} {d e : D} (r : RepDs α G ρ vs [d, e]) : ∃ v w, vs = [v, w] ∧ RepD α G ρ v d ∧ RepD α G ρ w e := by
  cases r with
  | cons r t => obtain ⟨w, rfl, r2⟩ := rds1 t; exact ⟨_, w, rfl, r, r2⟩
def fAbs : FA := fun ds μ => match ds with
  | [.p (.int i)] => some (.p (.int (if i < 0 then -i else i)), μ)
  | _ => none
theorem c_abs : CallR X (.builtin "abs") (rCV α fAbs) := CallR.imp call_abs fun vs H Q ⟨G, ρ, μ, ds, z, r, q⟩ => by
  unfold fAbs at q
  split at q
  · rename_i i
    obtain ⟨v, rfl, r1⟩ := rds1 r
    exact ⟨i, by rw [repInt r1], q _ H G ρ Up.refl z (.int _)⟩
  · exact q.elim
def fInt : FA := fun ds μ => match ds with
  | [.p (.int i)] => some (.p (.int i), μ)
  | [.p (.bl b)] => some (.p (.int (if b then 1 else 0)), μ)
  | _ => none
theorem c_int : CallR X (.type "int") (rCV α fInt) := CallR.imp call_int1 fun vs H Q ⟨G, ρ, μ, ds, z, r, q⟩ => by
  unfold fInt at q
  split at q
  · rename_i i
    obtain ⟨v, rfl, r1⟩ := rds1 r
    exact .inl ⟨i, by rw [repInt r1], q _ H G ρ Up.refl z (.int _)⟩
  · rename_i b
    obtain ⟨v, rfl, r1⟩ := rds1 r
    exact .inr ⟨b, by rw [repBl r1], q _ H G ρ Up.refl z (.int _)⟩
  · exact q.elim
def fGcd : FA := fun ds μ => match ds with
  | [.p (.int i), .p (.int j)] => some (.p (.int ((Nat.gcd i.natAbs j.natAbs : Nat) : Int)), μ)
  | _ => none
theorem c_gcd : CallR X (.builtin "math.gcd") (rCV α fGcd) := CallR.imp cr_gcd fun vs H Q ⟨G, ρ, μ, ds, z, r, q⟩ => by
  unfold fGcd at q
  split at q
  · rename_i i j
    obtain ⟨v, w, rfl, r1, r2⟩ := rds2 r
    exact ⟨i, j, by rw [repInt r1, repInt r2], q _ H G ρ Up.refl z (.int _)⟩
  · exact q.elim
def fLen : FA := fun ds μ => match ds with
  | [d] => match view μ d with
    | some (.lst xs) => some (.p (.int xs.length), μ)
    | some (.wl xs) => some (.p (.int xs.length), μ)
    | some (.tup xs) => some (.p (.int xs.length), μ)
    | some (.str s) => if s.length ≤ sizeLine then some (.p (.int s.length), μ) else none
    | _ => none
  | _ => none
theorem c_len (hK : X.K = α.K) : CallR X (.builtin "len") (rCV α fLen) := CallR.imp (call_len_seq.or call_len_str) fun vs H Q ⟨G, ρ, μ, ds, z, r, q⟩ => by
  unfold fLen at q
  rw [hK]
  split at q
  · rename_i d
    obtain ⟨v, rfl, r1⟩ := rds1 r
    split at q
    · rename_i xs hv
      obtain ⟨a, ws, rfl, h1, h2⟩ := view_lst z r1 hv
      exact .inl ⟨a, ws, rfl, .inl (SqL.of h1), by rw [h2.length]; exact q _ H G ρ Up.refl z (.int _)⟩
    · rename_i xs hv
      obtain ⟨a, ws, rfl, h1, h2⟩ := view_wl z r1 hv
      exact .inl ⟨a, ws, rfl, .inl h1, by rw [h2.length]; exact q _ H G ρ Up.refl z (.int _)⟩
    · rename_i xs hv
      obtain ⟨a, ws, rfl, h1, h2⟩ := view_tup z r1 hv
      exact .inl ⟨a, ws, rfl, .inr h1, by rw [h2.length]; exact q _ H G ρ Up.refl z (.int _)⟩
    · rename_i zz hv
      split at q
      · rename_i hl
        rw [view_str z r1 hv]
        exact .inr ⟨zz, rfl, hl, q _ H G ρ Up.refl z (.int _)⟩
      · exact q.elim
    · exact q.elim
  · exact q.elim
/-- list(x), a new one -/
def fList : FA := fun ds μ => match ds with
  | [d] => match view μ d with
    | some x => (asList x).map fun xs => (.p (.lst xs), μ)
    | _ => none
  | _ => none
def fListC : FA := fun ds μ => match ds with
  | [d] => match view μ d with
    | some x => (asList x).map fun xs => (.loc μ.length, μ ++ [some (.lst xs)])
    | _ => none
  | _ => none
theorem view_seq {H G : Hp} {ρ : List Addr} {μ : Mu} (z : Zn α H G ρ μ) {v : V} {d : D} {x : P} {xs : List P} (r : RepD α G ρ v d) (e : view μ d = some x) (h : asList x = some xs) : ∃ a vs, v = .ref a ∧ (SqL α.K H a vs ∨ SqT α.K H a vs) ∧ Reps α G vs xs := by
  cases x <;> cases h
  · obtain ⟨a, vs, h1, h2, h3⟩ := view_tup z r e; exact ⟨a, vs, h1, .inr h2, h3⟩
  · obtain ⟨a, vs, h1, h2, h3⟩ := view_lst z r e; exact ⟨a, vs, h1, .inl (SqL.of h2), h3⟩
  · obtain ⟨a, vs, h1, h2, h3⟩ := view_wl z r e; exact ⟨a, vs, h1, .inl h2, h3⟩
theorem c_list (hK : X.K = α.K) : CallR X (.type "list") (rCV α fList) := CallR.imp call_list_of fun vs H Q ⟨G, ρ, μ, ds, z, r, q⟩ => by
  unfold fList at q
  rw [hK]
  split at q
  · rename_i d
    obtain ⟨v, rfl, r1⟩ := rds1 r
    split at q
    · rename_i x hv
      cases hx : asList x with
      | none => rw [hx] at q; exact q.elim
      | some xs =>
        rw [hx] at q
        obtain ⟨a, ws, rfl, h1, h2⟩ := view_seq z r1 hv hx
        exact ⟨a, ws, rfl, h1, fun l nl => q _ _ _ _ (up_new (z.free nl)) (z.new nl _) (.lst upd_same (h2.mono (same_upd (z.free nl))))⟩
    · exact q.elim
  · exact q.elim
theorem c_listC (hK : X.K = α.K) : CallR X (.type "list") (rCV α fListC) := CallR.imp call_list_of fun vs H Q ⟨G, ρ, μ, ds, z, r, q⟩ => by
  unfold fListC at q
  rw [hK]
  split at q
  · rename_i d
    obtain ⟨v, rfl, r1⟩ := rds1 r
    split at q
    · rename_i x hv
      cases hx : asList x with
      | none => rw [hx] at q; exact q.elim
      | some xs =>
        rw [hx] at q
        obtain ⟨a, ws, rfl, h1, h2⟩ := view_seq z r1 hv hx
        exact ⟨a, ws, rfl, h1, fun l nl => q _ _ _ _ up_place (z.place nl ⟨ws, rfl, h2⟩) ⟨l, rfl, by rw [← z.len]; simp⟩⟩
    · exact q.elim
  · exact q.elim
def boolStr (b : Bool) : Str := if b then "True" else "False"
def fRepr : FA := fun ds μ => match ds with
  | [.p (.bl b)] => some (.p (.str (boolStr b)), μ)
  | _ => none
theorem c_repr : CallR X (.builtin "repr") (rCV α fRepr) := by
  intro pins s σ H xs us Q I r h
  obtain ⟨G, ρ, μ, ds, z, rd, q⟩ := h
  unfold fRepr at q
  split at q
  · rename_i b
    obtain ⟨v, rfl, rd1⟩ := rds1 rd
    rw [repBl rd1] at r
    obtain ⟨u, rfl, ru⟩ := vals1 r
    cases ru
    exact PySem.P.repr_of_bool ⟨.str _, H, I.tok _, ⟨_, rfl⟩, q _ H G ρ Up.refl z (.str _)⟩
  · exact q.elim

/-! ### isinstance of one class -/
/-- what isinstance(x, c) says, by x's type -/
def evIsi (t : P → Option Bool) (a : Ev) : Ev := fun δ μ => bindG (a δ μ) fun d μ1 => match d with
  | .p x => match t x with
    | some b => some (.ok (.p (.bl b)), μ1)
    | none => none
  | .loc _ => none
/-- what an own class's objects must be for isinstance -/
structure InsOwn (K : PySem.W.Frag) (C : Addr) : Prop where
  cls : Cls K C
  ha : PySem.W.findIn K (.ref C) "__class__" = some (some (.builtin "object.__class__"))
  hn : PySem.W.specialIn K (.builtin "object.__class__") "__get__" = some (some (.builtin "getset_descriptor.__get__"))
  htk : PySem.W.takesIn K (.builtin "object.__class__") = some true
  hm : PySem.W.mroIn K C (.type "object") = some true
theorem tyx_of {H G : Hp} {ρ : List Addr} {μ : Mu} {v : V} {x : P} (z : Zn α H G ρ μ) (r : Rep α G v x) (O : ∀ c xs, x = .obj c xs → InsOwn α.K (α.cl c)) : TyX α.K H v (tyP α x) := by
  cases r with
  | non => exact .base .non
  | bl b => exact .base (.bl b)
  | int i => exact .base (.int i)
  | str i => exact .base (.str i)
  | tup h _ =>
    rcases h with (h | ⟨o, h⟩) | ⟨o, its, n, h, hc, _⟩
    · exact .base (.tup (z.sub _ _ h))
    · exact .fTuple (z.sub _ _ h)
    · exact .kTuple h hc
  | lst h _ => exact .base (.lst (z.sub _ _ h))
  | wl h _ =>
    rcases h with (h | ⟨o, h⟩) | ⟨o, its, n, h, hc, _⟩
    · exact .base (.lst (z.sub _ _ h))
    · exact .base (.frz (z.sub _ _ h))
    · exact .kList h hc
  | obj h _ _ =>
    have o := O _ _ rfl
    exact .base (.ins (z.sub _ _ h) o.cls o.ha o.hn o.htk o.hm)
theorem v_isi {t : P → Option Bool} {e ce : Expr} {ev : Ev} {cv : V} {cu : Value} {p pos : Pos} (hK : X.K = α.K) (hm : X.mg "isinstance" = none) (hv : bootBuiltins "isinstance" = some (.builtin "isinstance")) (ha : PE X e (tV α W ev)) (hc : PE X ce (tC cv)) (hcv : ClsV cv cu)
    (ht : ∀ x b, t x = some b → PySem.W.kitOne α.K (tyP α x) cu = some b ∧ ∀ c xs, x = .obj c xs → InsOwn α.K (α.cl c)) (hg : Gl X "isinstance" := by rfl)
    (hs : starEach [e, ce] X.env = (false, eval e X.env) :: starEach [ce] X.env := by rfl) (hs2 : starEach [ce] X.env = (false, eval ce X.env) :: starEach [] X.env := by rfl) (hpl : (backTo pos (starEach [ce] X.env)).any (·.1) = false := by rfl) :
    PE X (.Call (.Name "isinstance" p) [e, ce] [] pos) (tV α W (evIsi t ev)) :=
  PE.imp (pe_callB call_isi hg hm hv (pa_cons ha (pa_cons hc pa_nil hs2) hs) (by decide) (by decide) hs hpl) fun σ H Q ⟨G, ρ, δ, μ, z, s, p⟩ => ⟨G, ρ, δ, μ, z, s, Post.bind p fun d μ1 v H1 G1 ρ1 u z1 r1 p1 => by
    cases d with
    | loc l => exact p1.elim
    | p x =>
      cases q : t x with
      | none => dsimp only at p1; rw [q] at p1; exact p1.elim
      | some b =>
        dsimp only at p1
        rw [q] at p1
        obtain ⟨h1, h2⟩ := ht x b q
        exact ⟨v, cv, tyP α x, cu, b, rfl, hcv, by rw [hK]; exact tyx_of z1 r1 h2, by rw [hK]; exact h1, p1 _ H1 G1 ρ1 Up.refl z1 (.bl _)⟩⟩

/-! ### methods of lists -/
def isLst (μ : Mu) (d : D) : Bool := match view μ d with
  | some (.lst _) => true
  | _ => false
def isStr (μ : Mu) (d : D) : Bool := match view μ d with
  | some (.str _) => true
  | _ => false
abbrev FM := D → List D → Mu → Option (D × Mu)
def rMV (α : Amb) (f : FM) : V → List V → Hp → VK → Prop := fun x vs H Q => ∃ G ρ μ d ds, Zn α H G ρ μ ∧ RepD α G ρ x d ∧ RepDs α G ρ vs ds ∧ Fin1 α G ρ Q (f d ds μ)
def evBM (ty : Mu → D → Bool) (f : FM) (o : Ev) (a : EvA) : Ev := fun δ μ => bindG (o δ μ) fun x μ1 => if ty μ1 x = true then bindG (a δ μ1) fun ds μ2 => okm (f x ds μ2) else none
theorem ty_lst {H G : Hp} {ρ : List Addr} {μ : Mu} {v : V} {d : D} (z : Zn α H G ρ μ) (r : RepD α G ρ v d) (h : isLst μ d = true) : tyV X.K "list" v H := by
  unfold isLst at h
  split at h
  · rename_i xs hv
    obtain ⟨a, vs, rfl, h1, h2⟩ := view_lst z r hv
    exact .inl ⟨rfl, vs, SqL.of h1⟩
  · cases h
theorem ty_str {H G : Hp} {ρ : List Addr} {μ : Mu} {v : V} {d : D} (z : Zn α H G ρ μ) (r : RepD α G ρ v d) (h : isStr μ d = true) : tyV X.K "str" v H := by
  unfold isStr at h
  split at h
  · rename_i xs hv
    rw [view_str z r hv]
    exact rfl
  · cases h
theorem v_bm {T id : String} {name : Str} {ty : Mu → D → Bool} {f : FM} {o e : Expr} {es : List Expr} {eo : Ev} {a : EvA} {apos cpos : Pos} (pa : PlainAttrs T) (slot : Slot T name id) (hty : typeOf (.builtin id) = pure (.type "method_descriptor")) (hm : MtR X id (rMV α f))
    (htv : ∀ {H G : Hp} {ρ : List Addr} {μ : Mu} {v : V} {d : D}, Zn α H G ρ μ → RepD α G ρ v d → ty μ d = true → tyV X.K T v H) (ho : PE X o (tV α W eo)) (ha : PA X (e :: es) (tVs α W a))
    (hbase : attributeBase o name X.env (eval o X.env) = eval o X.env := by rfl)
    (hfew : ((backTo cpos (starEach (e :: es) X.env)).all (fun x => !x.1) && (backToKw cpos (keywordEach [] X.env)).all (fun x => x.1.isSome)
      && decide ((e :: es).length + ([] : List Keyword).length + (if ([] : List Keyword).isEmpty then 0 else 1) < 30)) = true := by rfl)
    (hline : (apos.endLine == cpos.line) = true := by rfl) (hs : starEach (e :: es) X.env = (false, eval e X.env) :: starEach es X.env := by rfl) (hplain : (backTo cpos (starEach es X.env)).any (·.1) = false := by rfl) :
    PE X (.Call (.Attribute o name apos) (e :: es) [] cpos) (tV α W (evBM ty f eo a)) :=
  PE.imp (pe_bm pa slot hty hm ho ha hbase hfew hline hs hplain) fun σ H Q ⟨G, ρ, δ, μ, z, s, p⟩ => ⟨G, ρ, δ, μ, z, s, Post.bind p fun d μ1 v H1 G1 ρ1 u z1 r1 p1 => by
    split at p1
    · rename_i ht
      exact ⟨htv z1 r1 ht, G1, ρ1, δ, μ1, z1, s.up u, Post.bind p1 fun ds μ2 vs H2 G2 ρ2 u2 z2 r2 p2 => ⟨G2, ρ2, μ2, d, ds, z2, r1.up u2, r2, p2.fin⟩⟩
    · exact p1.elim⟩
def fApp : FM := fun x ds μ => match x, ds with
  | .loc l, [d] => match toP μ d with
    | some (y, μ1) => match cellL μ1 l with
      | some xs => if xs.length < sizeLine then some (.p .non, μ1.set l (some (.lst (xs ++ [y])))) else none
      | none => none
    | none => none
  | _, _ => none
theorem m_append : MtR X "list.append" (rMV α fApp) := MtR.imp mt_append fun x vs H Q ⟨G, ρ, μ, d, ds, z, r, rs, q⟩ => by
  unfold fApp at q
  split at q
  · rename_i l d'
    obtain ⟨v, rfl, rs1⟩ := rds1 rs
    cases h1 : toP μ d' with
    | none => rw [h1] at q; exact q.elim
    | some ym =>
      obtain ⟨y, μ1⟩ := ym
      rw [h1] at q
      dsimp only at q
      obtain ⟨G1, u1, z1, r1⟩ := toP_ok z rs1 h1
      cases h2 : cellL μ1 l with
      | none => rw [h2] at q; exact q.elim
      | some xs =>
        rw [h2] at q
        dsimp only at q
        split at q
        · rename_i hl
          obtain ⟨a, rfl, ha⟩ := r
          obtain ⟨ws, g1, g2⟩ := cell_at z1 h2 ha
          exact ⟨a, ws, v, rfl, rfl, g1, by rw [g2.length]; exact hl, q _ _ G1 ρ u1 (z1.write (cellL_some h2) ha (m' := .lst (xs ++ [y])) ⟨_, rfl, g2.append (.cons r1 .nil)⟩) .non⟩
        · exact q.elim
  · exact q.elim
def fIns : FM := fun x ds μ => match x, ds with
  | .loc l, [.p (.int i), d] => match toP μ d with
    | some (y, μ1) => match cellL μ1 l with
      | some xs => if xs.length < sizeLine ∧ 0 ≤ i ∧ i < 2 ^ 63 then some (.p .non, μ1.set l (some (.lst (xs.take i.toNat ++ [y] ++ xs.drop i.toNat)))) else none
      | none => none
    | none => none
  | _, _ => none
theorem m_insert : MtR X "list.insert" (rMV α fIns) := MtR.imp mt_insert fun x vs H Q ⟨G, ρ, μ, d, ds, z, r, rs, q⟩ => by
  unfold fIns at q
  split at q
  · rename_i l i d'
    obtain ⟨v, w, rfl, ri, rs1⟩ := rds2 rs
    cases h1 : toP μ d' with
    | none => rw [h1] at q; exact q.elim
    | some ym =>
      obtain ⟨y, μ1⟩ := ym
      rw [h1] at q
      dsimp only at q
      obtain ⟨G1, u1, z1, r1⟩ := toP_ok z rs1 h1
      cases h2 : cellL μ1 l with
      | none => rw [h2] at q; exact q.elim
      | some xs =>
        rw [h2] at q
        dsimp only at q
        split at q
        · rename_i hl
          obtain ⟨a, rfl, ha⟩ := r
          obtain ⟨ws, g1, g2⟩ := cell_at z1 h2 ha
          exact ⟨a, ws, i, w, rfl, by rw [repInt ri], g1, by rw [g2.length]; exact hl.1, hl.2.1, hl.2.2, q _ _ G1 ρ u1 (z1.write (cellL_some h2) ha (m' := .lst _) ⟨_, rfl, ((g2.take _).append (.cons r1 .nil)).append (g2.drop _)⟩) .non⟩
        · exact q.elim
  · exact q.elim
/-- o[i] = e, o a list that may change -/
def sSetIx (o i e : Ev) : SEv := fun δ μ => bindS (e δ μ) δ fun d μ1 => bindS (o δ μ1) δ fun x μ2 => bindS (i δ μ2) δ fun j μ3 => match x, j, toP μ3 d with
  | .loc l, .p (.int k), some (y, μ4) => match cellL μ4 l with
    | some xs => match ixN xs.length k with
      | some n => some (.nx, δ, μ4.set l (some (.lst (xs.set n y))))
      | none => none
    | none => none
  | _, _, _ => none
theorem v_setIx {o i e : Expr} {eo ei ee : Ev} {p2 pos : Pos} (ho : PE X o (tV α W eo)) (hi : PE X i (tV α W ei)) (he : PE X e (tV α W ee))
    (hg : ∀ v, assign (.Subscript o i p2) X.env v = (do
      let ov ← holding [v] (eval o X.env)
      let iv ← holding [v, ov] (eval i X.env)
      standAt p2
      holding [v, ov, iv] (setItem ov iv v)
      release [v, ov, iv] []) := by intro _; rfl) (hs : swapsWithSole [.Subscript o i p2] e pos.line X.env = pure false := by rfl) (hw : swappedStores [.Subscript o i p2] e X.env = pure none := by rfl) (h1 : (assignEach [.Subscript o i p2] X.env).map (·.2) = [assign (.Subscript o i p2) X.env] := by rfl) :
    PS X (.Assign [.Subscript o i p2] e pos) (tS α W (sSetIx eo ei ee)) :=
  PS.imp (ps_asg he (pg_sub ho hi set_list hg) hs hw h1) fun Dn σ H ⟨G, ρ, δ, μ, z, s, p⟩ => ⟨G, ρ, δ, μ, z, s, SPost.bind p s fun d μ1 y H1 G1 ρ1 u z1 r1 p1 => ⟨G1, ρ1, δ, μ1, z1, s.up u, SPost.bind p1 (s.up u) fun x μ2 v H2 G2 ρ2 u2 z2 r2 p2 => ⟨G2, ρ2, δ, μ2, z2, (s.up u).up u2, SPost.bind p2 ((s.up u).up u2) fun j μ3 w H3 G3 ρ3 u3 z3 r3 p3 => by
    split at p3
    · rename_i l k y' μ4 q4
      obtain ⟨G4, u4, z4, r4⟩ := toP_ok z3 ((r1.up u2).up u3) q4
      cases h2 : cellL μ4 l with
      | none => rw [h2] at p3; exact p3.elim
      | some xs =>
        rw [h2] at p3
        dsimp only at p3
        cases h3 : ixN xs.length k with
        | none => rw [h3] at p3; exact p3.elim
        | some n =>
          rw [h3] at p3
          obtain ⟨a, rfl, ha⟩ := r2.up u3
          obtain ⟨ws, g1, g2⟩ := cell_at z4 h2 ha
          exact ⟨a, ws, k, n, rfl, repInt r3, g1, by rw [g2.length]; exact h3, p3 σ _ G4 ρ3 u4 (z4.write (cellL_some h2) ha (m' := .lst _) ⟨_, rfl, g2.set r4 n⟩) (((s.up u).up u2).up u3 |>.up u4)⟩
    · exact p3.elim⟩⟩⟩

/-! ### raise -/
def sRaise (c : Nat) : SEv := fun δ μ => some (.exc c, δ, μ)
theorem v_raise {e : Expr} {c : Nat} {pos : Pos} (hc : X.calm = true) (tk : Takes X W) (h : PMk X e (fun _ H Q => Q (.ref (α.cl c)) none H)) : PS X (.Raise (some e) none pos) (tS α W (sRaise c)) :=
  PS.imp (ps_raise hc tk h) fun Dn σ H ⟨G, ρ, δ, μ, z, s, p⟩ => p σ H G ρ Up.refl z s

/-! ### a, b = x, y -/
theorem v_par {i j : Nat} {x y : Str} {a b : Expr} {ea : EvA} {px py pt : Pos} {kt k2 pt2} {pos : Pos} (hc : X.calm = true) (hN : X.N.Nodup) (ha : PA X [a, b] (tVs α W ea)) (hi : X.N[i]? = some x := by rfl) (hj : X.N[j]? = some y := by rfl) (hij : i ≠ j := by decide)
    (hx : X.env.scope.names.lookup x = some .local := by rfl) (hy : X.env.scope.names.lookup y = some .local := by rfl)
    (hw : swappedStores [.Tuple [.Name x px, .Name y py] kt pt] (.Tuple [a, b] k2 pt2) X.env = pure (some [x, y]) := by rfl)
    (hs : swapsWithSole [.Tuple [.Name x px, .Name y py] kt pt] (.Tuple [a, b] k2 pt2) pos.line X.env = pure false := by rfl) : PS X (.Assign [.Tuple [.Name x px, .Name y py] kt pt] (.Tuple [a, b] k2 pt2) pos) (tS α W (sPar i j ea)) :=
  PS.imp (ps_par hc hN hi hj hij hx hy ha hw hs) fun Dn σ H ⟨G, ρ, δ, μ, z, s, p⟩ => ⟨G, ρ, δ, μ, z, s, SPost.bind p s fun ds μ1 vs H1 G1 ρ1 u z1 r1 p1 => by
    split at p1
    · rename_i d1 d2
      obtain ⟨v, w, rfl, q1, q2⟩ := rds2 r1
      exact ⟨v, w, rfl, p1 _ H1 G1 ρ1 Up.refl z1 (sq_par (s.up u) q1 q2)⟩
    · exact p1.elim⟩

/-! ### a def of the module, by its worth -/
structure Fn (P : Program) (w : World) (K : PySem.W.Frag) (mg : Str → Option Value) (base : Heap) (α : Amb) (k : Nat) (x : Str) (n : Nat) (sem : FSem) : Prop where
  ex : ∃ (f : Addr) (fd : FuncData) (ps : List Str), mg x = some (.ref f) ∧ PySem.W.keepIn K (.ref f) = true ∧ Binds K fd ps [] ∧ FnOk P w K mg base (L2.CX P w) k f fd ps (spF α n sem)
  ar : Arity sem n
/-- a method of the class at C, by its worth -/
structure Mt (P : Program) (w : World) (K : PySem.W.Frag) (mg : Str → Option Value) (base : Heap) (α : Amb) (k : Nat) (C : Addr) (x : Str) (n : Nat) (sem : FSem) : Prop where
  ex : ∃ (f : Addr) (fd : FuncData) (ps : List Str), PySem.W.findIn K (.ref C) x = some (some (.ref f)) ∧ PySem.W.isFn K (.ref f) = true ∧ PySem.W.keepIn K (.ref f) = true ∧ Binds K fd ps [] ∧ FnOk P w K mg base (L2.CX P w) k f fd ps (spF α n sem)
  ar : Arity sem n
namespace Om
variable {k n : Nat} {sem : FSem} {x : Str} {p pos : Pos} {e : Expr} {es : List Expr} {args : EvA}
theorem call (tk : Takes X W) (hr : Room k X.A) (F : Fn X.prog X.w X.K X.mg X.base α k x n sem) (ha : PA X (e :: es) (tVs α W args)) (hg : Gl X x := by rfl) (hdb : (x == ("__debug__" : Str)) = false := by decide)
    (he : starEach (e :: es) X.env = (false, eval e X.env) :: starEach es X.env := by rfl) (hpl : (backTo pos (starEach es X.env)).any (·.1) = false := by rfl) : PE X (.Call (.Name x p) (e :: es) [] pos) (tV α W (evCall sem [] args)) := by
  obtain ⟨⟨f, fd, ps, hm, hk, hb, F⟩, ar⟩ := F
  exact v_call tk hr F ar hm hk hb .nil (fun _ => .nil) ha hg hdb he hpl
theorem bin {op : Operator} {c : Nat} (tk : Takes X W) (hr : Room k X.A) (hK : X.K = α.K) (F : Mt X.prog X.w X.K X.mg X.base α k (α.cl c) (PySem.dunder op.info.2) n sem) (hf : PySem.W.selfFirst X.K (α.cl c) = true) : OpR X (binaryOp op) (r2V α (fOwn c sem)) := by
  obtain ⟨⟨f, fd, ps, h1, h2, h3, hb, F⟩, ar⟩ := F
  exact o_own tk hr hK F ar hb ⟨hf, h1, h2⟩
theorem neg {c : Nat} (tk : Takes X W) (hr : Room k X.A) (F : Mt X.prog X.w X.K X.mg X.base α k (α.cl c) "__neg__" n sem) (hf : PySem.W.selfFirst X.K (α.cl c) = true) : UnR X (unaryOp .USub) (r1V α (fOwn1 c sem)) := by
  obtain ⟨⟨f, fd, ps, h1, h2, h3, hb, F⟩, ar⟩ := F
  exact o_own1 tk hr F ar hb ⟨hf, h1, h2⟩
theorem eq {c : Nat} (tk : Takes X W) (hr : Room k X.A) (hK : X.K = α.K) (F : Mt X.prog X.w X.K X.mg X.base α k (α.cl c) "__eq__" n sem) (hf : ∀ T ∈ eqTys, PySem.W.notFirst X.K (α.cl c) (.type T) = true) : OpR X (compareOp .Eq) (r2V α (fEqO c sem)) := by
  obtain ⟨⟨f, fd, ps, h1, h2, h3, hb, F⟩, ar⟩ := F
  exact o_eqO tk hr hK F ar hb ⟨h1, h2, hf⟩
theorem ne {c : Nat} (tk : Takes X W) (hr : Room (k + 1) X.A) (hK : X.K = α.K) (F : Mt X.prog X.w X.K X.mg X.base α k (α.cl c) "__eq__" n sem) (hf : ∀ T ∈ eqTys, PySem.W.notFirst X.K (α.cl c) (.type T) = true) (O2 : NeOwn X.K (α.cl c)) : OpR X (compareOp .NotEq) (r2V α (fNeO c sem)) := by
  obtain ⟨⟨f, fd, ps, h1, h2, h3, hb, F⟩, ar⟩ := F
  exact o_neO tk hr hK F ar hb ⟨h1, h2, hf⟩ O2
theorem mk' {c nf : Nat} {f : Addr} {fd : FuncData} {ps : List Str} {dvs : List V} {dds : List P} {ds : List Value} (tk : Takes X W) (hr : Room (k + 1) X.A) (M : Mk X.K (α.cl c) f) (F : FnOk X.prog X.w X.K X.mg X.base (L2.CX X.prog X.w) k f fd ps (spF α n sem)) (ar : Arity sem n) (hb : Binds X.K fd ps ds) (hd : Vals dvs ds) (hdd : ∀ G, Reps α G dvs dds)
    (hm : X.mg x = some (.ref (α.cl c))) (hnf : (α.fl c).length = nf) (ha : PA X (e :: es) (tVs α W args)) (hg : Gl X x := by rfl) (hdb : (x == ("__debug__" : Str)) = false := by decide)
    (he : starEach (e :: es) X.env = (false, eval e X.env) :: starEach es X.env := by rfl) (hpl : (backTo pos (starEach es X.env)).any (·.1) = false := by rfl) : PE X (.Call (.Name x p) (e :: es) [] pos) (tV α W (evMake c nf sem dds args)) :=
  v_make tk hr M F ar hnf hm hb hd hdd ha hg hdb he hpl
end Om
/-- a class's making, by its __init__'s worth: with all arguments, and with the defaults -/
structure In (P : Program) (w : World) (K : PySem.W.Frag) (mg : Str → Option Value) (base : Heap) (α : Amb) (k : Nat) (c : Nat) (n : Nat) (dds : List Vs.P) (sem : FSem) : Prop where
  ex : ∃ (f : Addr) (fd : FuncData) (ps : List Str) (dvs : List V) (ds : List Value), Mk K (α.cl c) f ∧ Binds K fd ps ds ∧ Vals dvs ds ∧ (∀ G, Reps α G dvs dds) ∧ FnOk P w K mg base (L2.CX P w) k f fd ps (spF α n sem)
  ar : Arity sem n
namespace Om
theorem mk {k n c nf : Nat} {sem : FSem} {x : Str} {p pos : Pos} {e : Expr} {es : List Expr} {args : EvA} {dds : List P} (tk : Takes X W) (hr : Room (k + 1) X.A) (F : In X.prog X.w X.K X.mg X.base α k c n dds sem) (hm : X.mg x = some (.ref (α.cl c))) (ha : PA X (e :: es) (tVs α W args)) (hnf : (α.fl c).length = nf := by rfl) (hg : Gl X x := by rfl) (hdb : (x == ("__debug__" : Str)) = false := by decide)
    (he : starEach (e :: es) X.env = (false, eval e X.env) :: starEach es X.env := by rfl) (hpl : (backTo pos (starEach es X.env)).any (·.1) = false := by rfl) : PE X (.Call (.Name x p) (e :: es) [] pos) (tV α W (evMake c nf sem dds args)) := by
  obtain ⟨⟨f, fd, ps, dvs, ds, M, hb, hd, hdd, F⟩, ar⟩ := F
  exact v_make tk hr M F ar hnf hm hb hd hdd ha hg hdb he hpl
end Om
/-- a def as the top has left it -/
structure DefAt (K : PySem.W.Frag) (mg : Str → Option Value) (x : Str) (st : Stmt) : Prop where
  ex : ∃ (f : Addr) (fd : FuncData), mg x = some (.ref f) ∧ Fun K x x st f fd
theorem defAt_mk {K : PySem.W.Frag} {h : Heap} {mg : Str → Option Value} {x : Str} {st : Stmt} {f : Addr} {od an : Option Addr} {sl : Array (Option Value)} {oc kV dc pm cd ct : Value} (Y : K.In h) (G : h.Ns mainGlobals mg)
    (a : PySem.W.nsIn K mainGlobals x = some (some (.ref f))) (l : K.lookup f = some ⟨oc, od, .func (PySem.W.fnOf x x (defArgs st) (defBody st) (defScope st) .none kV dc pm an cd ct), sl⟩) (c : PySem.W.codeIn K cd x = true) (k : PySem.W.keepIn K (.ref f) = true) : DefAt K mg x st :=
  ⟨f, _, PySem.W.mg_of Y G a, fun_mk l c k⟩
structure MethAt (K : PySem.W.Frag) (C : Addr) (x qual : Str) (st : Stmt) : Prop where
  ex : ∃ (f : Addr) (fd : FuncData), PySem.W.findIn K (.ref C) x = some (some (.ref f)) ∧ PySem.W.isFn K (.ref f) = true ∧ Fun K x qual st f fd
theorem methAt_mk {K : PySem.W.Frag} {C : Addr} {x qual : Str} {st : Stmt} {f : Addr} {od an : Option Addr} {sl : Array (Option Value)} {oc kV dc pm cd ct : Value}
    (a : PySem.W.findIn K (.ref C) x = some (some (.ref f))) (i : PySem.W.isFn K (.ref f) = true) (l : K.lookup f = some ⟨oc, od, .func (PySem.W.fnOf x qual (defArgs st) (defBody st) (defScope st) .none kV dc pm an cd ct), sl⟩) (c : PySem.W.codeIn K cd qual = true) (k : PySem.W.keepIn K (.ref f) = true) : MethAt K C x qual st :=
  ⟨f, _, a, i, fun_mk l c k⟩
/-! ### isinstance's answers -/
def isiO (c : Nat) : P → Option Bool
  | .obj c' _ => if c' = c then some true else none
  | _ => some false
def tyNm : P → String
  | .non => "NoneType"
  | .bl _ => "bool"
  | .int _ => "int"
  | .str _ => "str"
  | .tup _ => "tuple"
  | .lst _ => "list"
  | .wl _ => "list"
  | .obj _ _ => "object"
/-- of a built-in type T; own objects of the classes below n are none -/
def isiT (n : Nat) (T : String) : P → Option Bool
  | .obj c _ => if c < n then some false else none
  | x => if tyNm x = T then some true else (if (tyNm x = "bool" ∧ T = "int") then some true else some false)
structure IsiO (K : PySem.W.Frag) (α : Amb) (c : Nat) : Prop where
  ty : ∀ T ∈ eqTys, PySem.W.kitOne K (.type T) (.ref (α.cl c)) = some false
  self : PySem.W.kitOne K (.ref (α.cl c)) (.ref (α.cl c)) = some true
  ins : InsOwn K (α.cl c)
theorem isiO_ok {c : Nat} (O : IsiO α.K α c) : ∀ x b, isiO c x = some b → PySem.W.kitOne α.K (tyP α x) (.ref (α.cl c)) = some b ∧ ∀ c' xs, x = .obj c' xs → InsOwn α.K (α.cl c') := fun x b h => by
  cases x with
  | obj c' xs =>
    have h : (if c' = c then some true else none) = some b := h
    by_cases e : c' = c
    · rw [if_pos e] at h
      cases h
      rw [e]
      exact ⟨O.self, fun c2 xs2 e2 => by cases e2; exact O.ins⟩
    · rw [if_neg e] at h
      cases h
  | _ => cases h; exact ⟨O.ty _ (by decide), fun _ _ e => by cases e⟩
theorem isiT_ok {n : Nat} {T : String} (hT : ∀ c, c < n → PySem.W.kitOne α.K (.ref (α.cl c)) (.type T) = some false ∧ InsOwn α.K (α.cl c)) (hb : ∀ S ∈ eqTys, kitB S T = some (decide (S = T) || (decide (S = "bool") && decide (T = "int")))) :
    ∀ x b, isiT n T x = some b → PySem.W.kitOne α.K (tyP α x) (.type T) = some b ∧ ∀ c' xs, x = .obj c' xs → InsOwn α.K (α.cl c') := fun x b h => by
  have key : ∀ S, S ∈ eqTys → (if S = T then some true else (if (S = "bool" ∧ T = "int") then some true else some false)) = some b → PySem.W.kitOne α.K (.type S) (.type T) = some b := fun S hS h => by
    rw [kit_ty (hb S hS)]
    split at h
    · rename_i e; cases h; simp [e]
    · rename_i e
      split at h
      · rename_i e2; cases h; simp [e2.1, e2.2]
      · rename_i e2; cases h
        rw [decide_eq_false e, Bool.false_or]
        by_cases e3 : S = "bool"
        · have e4 : ¬ T = "int" := fun z => e2 ⟨e3, z⟩
          rw [decide_eq_false e4, Bool.and_false]
        · rw [decide_eq_false e3, Bool.false_and]
  cases x with
  | obj c' xs =>
    have h : (if c' < n then some false else none) = some b := h
    split at h
    · rename_i e
      cases h
      exact ⟨(hT c' e).1, fun c'' xs' e' => by cases e'; exact (hT c' e).2⟩
    · cases h
  | _ => exact ⟨key _ (by decide) h, fun _ _ e => by cases e⟩
end
end Vs
/-! Evaluation by simp. -/
namespace Vs
open PySem PySem.Spec PyProof.Rows L2
section
variable {β γ : Type} {x : β} {c : Nat} {μ μ' : Mu} {δ δ' : Sl}
@[simp] theorem bindG_ok {f : β → Mu → Option (Out γ × Mu)} : bindG (some (.ok x, μ)) f = f x μ := rfl
@[simp] theorem bindG_exc {f : β → Mu → Option (Out γ × Mu)} : bindG (some (.exc c, μ)) f = some (.exc c, μ) := rfl
@[simp] theorem bindG_none {f : β → Mu → Option (Out γ × Mu)} : bindG none f = none := rfl
@[simp] theorem bindS_ok {f : β → Mu → Option (Fl × Sl × Mu)} : bindS (some (.ok x, μ)) δ f = f x μ := rfl
@[simp] theorem bindS_exc {f : β → Mu → Option (Fl × Sl × Mu)} : bindS (some (.exc c, μ)) δ f = some (.exc c, δ, μ) := rfl
@[simp] theorem bindS_none {f : β → Mu → Option (Fl × Sl × Mu)} : bindS none δ f = none := rfl
end
section
variable {δ δ' : Sl} {μ μ' : Mu} {a b : SEv} {e e' ea eb : Ev} {t t' : EvT} {args : EvA} {f1 : F1} {f2 : F2} {fa : FA}
@[simp] theorem okm_some {d : D} : okm (some (d, μ)) = some (.ok d, μ) := rfl
@[simp] theorem okm_none : okm none = none := rfl
@[simp] theorem evC_eq {x : P} : evC x δ μ = some (.ok (.p x), μ) := rfl
theorem evV_at {i : Nat} {d : D} (h : δ[i]? = some (some d)) : evV i δ μ = some (.ok d, μ) := by unfold evV; rw [h]
@[simp] theorem evV_0 {d : D} : evV 0 (some d :: δ) μ = some (.ok d, μ) := rfl
@[simp] theorem evV_1 {a0} {d : D} : evV 1 (a0 :: some d :: δ) μ = some (.ok d, μ) := rfl
@[simp] theorem evV_2 {a0 a1} {d : D} : evV 2 (a0 :: a1 :: some d :: δ) μ = some (.ok d, μ) := rfl
@[simp] theorem evV_3 {a0 a1 a2} {d : D} : evV 3 (a0 :: a1 :: a2 :: some d :: δ) μ = some (.ok d, μ) := rfl
@[simp] theorem evV_4 {a0 a1 a2 a3} {d : D} : evV 4 (a0 :: a1 :: a2 :: a3 :: some d :: δ) μ = some (.ok d, μ) := rfl
@[simp] theorem evV_5 {a0 a1 a2 a3 a4} {d : D} : evV 5 (a0 :: a1 :: a2 :: a3 :: a4 :: some d :: δ) μ = some (.ok d, μ) := rfl
@[simp] theorem evV_6 {a0 a1 a2 a3 a4 a5} {d : D} : evV 6 (a0 :: a1 :: a2 :: a3 :: a4 :: a5 :: some d :: δ) μ = some (.ok d, μ) := rfl
@[simp] theorem evV_7 {a0 a1 a2 a3 a4 a5 a6} {d : D} : evV 7 (a0 :: a1 :: a2 :: a3 :: a4 :: a5 :: a6 :: some d :: δ) μ = some (.ok d, μ) := rfl
@[simp] theorem evV_8 {a0 a1 a2 a3 a4 a5 a6 a7} {d : D} : evV 8 (a0 :: a1 :: a2 :: a3 :: a4 :: a5 :: a6 :: a7 :: some d :: δ) μ = some (.ok d, μ) := rfl
@[simp] theorem evV_9 {a0 a1 a2 a3 a4 a5 a6 a7 a8} {d : D} : evV 9 (a0 :: a1 :: a2 :: a3 :: a4 :: a5 :: a6 :: a7 :: a8 :: some d :: δ) μ = some (.ok d, μ) := rfl
@[simp] theorem evV_10 {a0 a1 a2 a3 a4 a5 a6 a7 a8 a9} {d : D} : evV 10 (a0 :: a1 :: a2 :: a3 :: a4 :: a5 :: a6 :: a7 :: a8 :: a9 :: some d :: δ) μ = some (.ok d, μ) := rfl
@[simp] theorem evBin_eq : evBin f2 ea eb δ μ = bindG (ea δ μ) fun x μ1 => bindG (eb δ μ1) fun y μ2 => okm (f2 x y μ2) := rfl
@[simp] theorem evUn_eq : evUn f1 ea δ μ = bindG (ea δ μ) fun x μ1 => okm (f1 x μ1) := rfl
@[simp] theorem evBI_eq : evBI fa args δ μ = bindG (args δ μ) fun ds μ1 => okm (fa ds μ1) := rfl
@[simp] theorem evNil_eq : evNil δ μ = some (.ok [], μ) := rfl
@[simp] theorem evCons_eq {r : EvA} : evCons ea r δ μ = bindG (ea δ μ) fun x μ1 => bindG (r δ μ1) fun xs μ2 => some (.ok (x :: xs), μ2) := rfl
@[simp] theorem evCall_eq {sem : FSem} {dds : List P} : evCall sem dds args δ μ = bindG (args δ μ) fun ds μ1 => sem (ds ++ dds.map .p) μ1 := rfl
@[simp] theorem evMake_eq {sem : FSem} {dds : List P} {c nf : Nat} : evMake c nf sem dds args δ μ = bindG (args δ μ) fun ds μ1 => mkEnd c nf μ1.length (sem (.loc μ1.length :: (ds ++ dds.map .p)) (μ1 ++ [some (.ins c [])])) := rfl
theorem evB_eq : evB ea δ μ = bindG (ea δ μ) fun x μ1 => match x with
  | .p (.bl b) => some (.ok b, μ1)
  | _ => none := rfl
def toB (μ : Mu) : D → Option (Out Bool × Mu)
  | .p (.bl b) => some (.ok b, μ)
  | _ => none
@[simp] theorem evB_eq' : evB ea δ μ = bindG (ea δ μ) fun x μ1 => toB μ1 x := rfl
@[simp] theorem toB_bl {b : Bool} : toB μ (.p (.bl b)) = some (.ok b, μ) := rfl
@[simp] theorem tNotV_eq : tNotV t δ μ = bindG (t δ μ) fun b μ1 => some (.ok (!b), μ1) := rfl
@[simp] theorem tAndV_eq : tAndV' t t' δ μ = bindG (t δ μ) fun x μ1 => if x = true then t' δ μ1 else some (.ok false, μ1) := rfl
@[simp] theorem tOrV_eq : tOrV' t t' δ μ = bindG (t δ μ) fun x μ1 => if x = true then some (.ok true, μ1) else t' δ μ1 := rfl
def andD (k : Option (Out D × Mu)) (μ : Mu) : D → Option (Out D × Mu)
  | .p (.bl true) => k
  | .p (.bl false) => some (.ok (.p (.bl false)), μ)
  | _ => none
def orD (k : Option (Out D × Mu)) (μ : Mu) : D → Option (Out D × Mu)
  | .p (.bl false) => k
  | .p (.bl true) => some (.ok (.p (.bl true)), μ)
  | _ => none
@[simp] theorem evAnd_eq : evAnd ea eb δ μ = bindG (ea δ μ) fun x μ1 => andD (eb δ μ1) μ1 x := rfl
@[simp] theorem evOr_eq : evOr ea eb δ μ = bindG (ea δ μ) fun x μ1 => orD (eb δ μ1) μ1 x := rfl
@[simp] theorem andD_bl {k : Option (Out D × Mu)} {b : Bool} : andD k μ (.p (.bl b)) = if b = true then k else some (.ok (.p (.bl false)), μ) := by cases b <;> rfl
@[simp] theorem orD_bl {k : Option (Out D × Mu)} {b : Bool} : orD k μ (.p (.bl b)) = if b = true then some (.ok (.p (.bl true)), μ) else k := by cases b <;> rfl
@[simp] theorem fNot_bl {b : Bool} : fNot (.p (.bl b)) μ = some (.p (.bl (!b)), μ) := rfl
@[simp] theorem evIf_eq : evIf t ea eb δ μ = bindG (t δ μ) fun x μ1 => if x = true then ea δ μ1 else eb δ μ1 := rfl
@[simp] theorem fII_int {C : Int → Int → Bool} {g : Int → Int → P} {i j : Int} : fII C g (.p (.int i)) (.p (.int j)) μ = if C i j = true then some (.p (g i j), μ) else none := rfl
@[simp] theorem fNeg_int {i : Int} : fNeg (.p (.int i)) μ = some (.p (.int (-i)), μ) := rfl
@[simp] theorem fAbs_int {i : Int} : fAbs [.p (.int i)] μ = some (.p (.int (if i < 0 then -i else i)), μ) := rfl
@[simp] theorem fInt_int {i : Int} : fInt [.p (.int i)] μ = some (.p (.int i), μ) := rfl
@[simp] theorem fInt_bl {i : Bool} : fInt [.p (.bl i)] μ = some (.p (.int (if i then 1 else 0)), μ) := rfl
@[simp] theorem fGcd_int {i j : Int} : fGcd [.p (.int i), .p (.int j)] μ = some (.p (.int ((Nat.gcd i.natAbs j.natAbs : Nat) : Int)), μ) := rfl
@[simp] theorem fRepr_bl {b : Bool} : fRepr [.p (.bl b)] μ = some (.p (.str (boolStr b)), μ) := rfl
@[simp] theorem view_p {x : P} : view μ (.p x) = some x := rfl
theorem view_l {l : Nat} {xs : List P} (h : μ[l]? = some (some (.lst xs))) : view μ (.loc l) = some (.lst xs) := by
  show (cellL μ l).map P.lst = _
  unfold cellL
  rw [h]; rfl
theorem cellL_l {l : Nat} {xs : List P} (h : μ[l]? = some (some (.lst xs))) : cellL μ l = some xs := by
  unfold cellL
  rw [h]
@[simp] theorem toP_p {x : P} : toP μ (.p x) = some (x, μ) := rfl
@[simp] theorem toPs_nil : toPs μ [] = some ([], μ) := rfl
theorem toPs_map {xs : List P} : toPs μ (xs.map .p) = some (xs, μ) := by
  induction xs with
  | nil => rfl
  | cons x xs ih =>
    show (match toPs μ (xs.map D.p) with
      | some (xs, μ2) => some (x :: xs, μ2)
      | none => none) = _
    rw [ih]
def consP (x : P) : Option (List P × Mu) → Option (List P × Mu)
  | some (xs, μ2) => some (x :: xs, μ2)
  | none => none
@[simp] theorem consP_some {x : P} {xs : List P} : consP x (some (xs, μ)) = some (x :: xs, μ) := rfl
@[simp] theorem toPs_cons {x : P} {ds : List D} : toPs μ (.p x :: ds) = consP x (toPs μ ds) := rfl
def tupEnd : Option (List P × Mu) → Option (Out D × Mu)
  | some (xs, μ2) => if xs.length ≤ sizeLine then some (.ok (.p (.tup xs)), μ2) else none
  | none => none
def lstEnd : Option (List P × Mu) → Option (Out D × Mu)
  | some (xs, μ2) => if xs.length ≤ sizeLine then some (.ok (.p (.lst xs)), μ2) else none
  | none => none
def lstEndC : Option (List P × Mu) → Option (Out D × Mu)
  | some (xs, μ2) => if xs.length ≤ sizeLine then some (.ok (.loc μ2.length), μ2 ++ [some (.lst xs)]) else none
  | none => none
@[simp] theorem evTup_eq : evTup args δ μ = bindG (args δ μ) fun ds μ1 => tupEnd (toPs μ1 ds) := rfl
@[simp] theorem evLst_eq : evLst args δ μ = bindG (args δ μ) fun ds μ1 => lstEnd (toPs μ1 ds) := rfl
@[simp] theorem evLstC_eq : evLstC args δ μ = bindG (args δ μ) fun ds μ1 => lstEndC (toPs μ1 ds) := rfl
@[simp] theorem tupEnd_some {xs : List P} : tupEnd (some (xs, μ)) = if xs.length ≤ sizeLine then some (.ok (.p (.tup xs)), μ) else none := rfl
@[simp] theorem lstEnd_some {xs : List P} : lstEnd (some (xs, μ)) = if xs.length ≤ sizeLine then some (.ok (.p (.lst xs)), μ) else none := rfl
@[simp] theorem lstEndC_some {xs : List P} : lstEndC (some (xs, μ)) = if xs.length ≤ sizeLine then some (.ok (.loc μ.length), μ ++ [some (.lst xs)]) else none := rfl
theorem le_line {n : Nat} (h : n ≤ 1000) : n ≤ sizeLine := Nat.le_trans h (by decide)
@[simp] theorem line_0 : (0 : Nat) ≤ sizeLine := Nat.zero_le _
@[simp] theorem line_1 : (1 : Nat) ≤ sizeLine := le_line (by decide)
@[simp] theorem line_2 : (2 : Nat) ≤ sizeLine := le_line (by decide)
@[simp] theorem line_3 : (3 : Nat) ≤ sizeLine := le_line (by decide)
@[simp] theorem line_4 : (4 : Nat) ≤ sizeLine := le_line (by decide)
@[simp] theorem line_5 : (5 : Nat) ≤ sizeLine := le_line (by decide)
@[simp] theorem line_6 : (6 : Nat) ≤ sizeLine := le_line (by decide)
@[simp] theorem line_7 : (7 : Nat) ≤ sizeLine := le_line (by decide)
@[simp] theorem line_8 : (8 : Nat) ≤ sizeLine := le_line (by decide)
/-! items -/
def ixAns (μ : Mu) : Option P → Option (D × Mu)
  | some v => some (.p v, μ)
  | none => none
@[simp] theorem ixAns_some {v : P} : ixAns μ (some v) = some (.p v, μ) := rfl
theorem fIx_lst {d : D} {xs : List P} {i : Int} (h : view μ d = some (.lst xs)) : fIx d (.p (.int i)) μ = ixAns μ (atI xs i) := by
  unfold fIx; rw [h]; dsimp only; cases atI xs i <;> rfl
@[simp] theorem fIx_tup {xs : List P} {i : Int} : fIx (.p (.tup xs)) (.p (.int i)) μ = ixAns μ (atI xs i) := by
  unfold fIx; rw [view_p]; dsimp only; cases atI xs i <;> rfl
@[simp] theorem fIx_lstp {xs : List P} {i : Int} : fIx (.p (.lst xs)) (.p (.int i)) μ = ixAns μ (atI xs i) := fIx_lst rfl
@[simp] theorem at_0 {x : P} {xs : List P} : atI (x :: xs) 0 = some x := atI_nat (j := 0) rfl
@[simp] theorem at_1 {x y : P} {xs : List P} : atI (x :: y :: xs) 1 = some y := atI_nat (j := 1) rfl
@[simp] theorem at_2 {x y z : P} {xs : List P} : atI (x :: y :: z :: xs) 2 = some z := atI_nat (j := 2) rfl
@[simp] theorem at_3 {x y z w : P} {xs : List P} : atI (x :: y :: z :: w :: xs) 3 = some w := atI_nat (j := 3) rfl
/-! fields -/
@[simp] theorem fFld_obj {c i : Nat} {xs : List P} : fFld c i (.p (.obj c xs)) μ = ixAns μ (xs[i]?) := by
  show (if c = c then (xs[i]?).map fun y => (D.p y, μ) else none) = _
  rw [if_pos rfl]; cases xs[i]? <;> rfl
/-! comparisons -/
def eqAns (neg : Bool) (μ : Mu) : Option Bool → Option (D × Mu)
  | some b => some (.p (.bl (if neg then !b else b)), μ)
  | none => none
@[simp] theorem eqAns_f {b : Bool} : eqAns false μ (some b) = some (.p (.bl b), μ) := rfl
@[simp] theorem eqAns_t {b : Bool} : eqAns true μ (some b) = some (.p (.bl (!b)), μ) := rfl
@[simp] theorem fEqG_p {neg : Bool} {x y : P} : fEqG neg (.p x) (.p y) μ = eqAns neg μ (eqP x y) := by
  unfold fEqG; rw [view_p, view_p]; dsimp only; cases eqP x y <;> rfl
theorem fEqG_v {neg : Bool} {d e : D} {x y : P} (h : view μ d = some x) (h2 : view μ e = some y) : fEqG neg d e μ = eqAns neg μ (eqP x y) := by
  unfold fEqG; rw [h, h2]; dsimp only; cases eqP x y <;> rfl
@[simp] theorem eqP_int {i j : Int} : eqP (.int i) (.int j) = some (decide (i = j)) := rfl
@[simp] theorem eqP_str {i j : Str} : eqP (.str i) (.str j) = some (decide (i = j)) := rfl
@[simp] theorem eqP_bl {i j : Bool} : eqP (.bl i) (.bl j) = some (decide (i = j)) := rfl
@[simp] theorem fIs_non {d : D} {neg : Bool} : fIs neg d (.p .non) μ = some (.p (.bl (if neg then !isNon d else isNon d)), μ) := rfl
@[simp] theorem isNon_int {i : Int} : isNon (.p (.int i)) = false := rfl
@[simp] theorem isNon_lst {i : List P} : isNon (.p (.lst i)) = false := rfl
@[simp] theorem isNon_tup {i : List P} : isNon (.p (.tup i)) = false := rfl
@[simp] theorem isNon_obj {c : Nat} {i : List P} : isNon (.p (.obj c i)) = false := rfl
@[simp] theorem isNon_loc {i : Nat} : isNon (.loc i) = false := rfl
@[simp] theorem isNon_non : isNon (.p .non) = true := rfl
/-! statements -/
def andThen (b : SEv) : Option (Fl × Sl × Mu) → Option (Fl × Sl × Mu)
  | some (.nx, δ', μ') => b δ' μ'
  | r => r
@[simp] theorem seqS_eq : seqS a b δ μ = andThen b (a δ μ) := by unfold seqS andThen; rfl
@[simp] theorem andThen_nx : andThen b (some (.nx, δ, μ)) = b δ μ := rfl
@[simp] theorem andThen_ret {d : D} : andThen b (some (.ret d, δ, μ)) = some (.ret d, δ, μ) := rfl
@[simp] theorem andThen_exc {c : Nat} : andThen b (some (.exc c, δ, μ)) = some (.exc c, δ, μ) := rfl
@[simp] theorem andThen_brk : andThen b (some (.brk, δ, μ)) = some (.brk, δ, μ) := rfl
@[simp] theorem andThen_cont : andThen b (some (.cont, δ, μ)) = some (.cont, δ, μ) := rfl
@[simp] theorem andThen_none : andThen b none = none := rfl
theorem andThen_ite {p : Prop} [Decidable p] {x y : Option (Fl × Sl × Mu)} : andThen b (if p then x else y) = if p then andThen b x else andThen b y := by split <;> rfl
@[simp] theorem sNil_eq : sNil δ μ = some (.nx, δ, μ) := rfl
@[simp] theorem sSet_eq {i : Nat} : sSet i e δ μ = bindS (e δ μ) δ fun d μ1 => some (.nx, δ.set i (some d), μ1) := rfl
@[simp] theorem sRet_eq : sRet e δ μ = bindS (e δ μ) δ fun d μ1 => some (.ret d, δ, μ1) := rfl
@[simp] theorem sRetN_eq : sRetN δ μ = some (.ret (.p .non), δ, μ) := rfl
@[simp] theorem sExpr_eq : sExpr e δ μ = bindS (e δ μ) δ fun d μ1 => some (.nx, δ, μ1) := rfl
@[simp] theorem sIf_eq : sIf t a b δ μ = bindS (t δ μ) δ fun x μ1 => if x = true then a δ μ1 else b δ μ1 := rfl
@[simp] theorem sBrk_eq : sBrk δ μ = some (.brk, δ, μ) := rfl
@[simp] theorem sCont_eq : sCont δ μ = some (.cont, δ, μ) := rfl
@[simp] theorem sRaise_eq {c : Nat} : sRaise c δ μ = some (.exc c, δ, μ) := rfl
def parEnd (i j : Nat) (δ : Sl) (μ : Mu) : List D → Option (Fl × Sl × Mu)
  | [x, y] => some (.nx, (δ.set i (some x)).set j (some y), μ)
  | _ => none
@[simp] theorem sPar_eq {i j : Nat} : sPar i j args δ μ = bindS (args δ μ) δ fun ds μ1 => parEnd i j δ μ1 ds := rfl
@[simp] theorem parEnd_2 {i j : Nat} {x y : D} : parEnd i j δ μ [x, y] = some (.nx, (δ.set i (some x)).set j (some y), μ) := rfl
@[simp] theorem sFor_eq {it : EvG (List P)} {ts : Tgt} : sFor it ts a δ μ = bindS (it δ μ) δ fun xs μ1 => forL ts a xs δ μ1 := rfl
@[simp] theorem evRng1_eq : evRng1 e δ μ = bindG (e δ μ) fun d μ1 => match d with
  | .p (.int j) => if rngOk j = true then some (.ok (rangeP 0 j.toNat), μ1) else none
  | _ => none := rfl
def asgEnd (ts : Tgt) (δ : Sl) (μ : Mu) : D → Option (Fl × Sl × Mu)
  | .p x => (ts x δ).map fun δ' => (.nx, δ', μ)
  | _ => none
@[simp] theorem sAsgT_eq {ts : Tgt} : sAsgT ts e δ μ = bindS (e δ μ) δ fun d μ1 => asgEnd ts δ μ1 d := rfl
@[simp] theorem asgEnd_p {ts : Tgt} {x : P} : asgEnd ts δ μ (.p x) = (ts x δ).map fun δ' => (.nx, δ', μ) := rfl
def setIxEnd (δ : Sl) (μ : Mu) (x j : D) (d : D) : Option (Fl × Sl × Mu) := match x, j, toP μ d with
  | .loc l, .p (.int k), some (y, μ4) => match cellL μ4 l with
    | some xs => match ixN xs.length k with
      | some n => some (.nx, δ, μ4.set l (some (.lst (xs.set n y))))
      | none => none
    | none => none
  | _, _, _ => none
@[simp] theorem sSetIx_eq : sSetIx ea eb e δ μ = bindS (e δ μ) δ fun d μ1 => bindS (ea δ μ1) δ fun x μ2 => bindS (eb δ μ2) δ fun j μ3 => setIxEnd δ μ3 x j d := rfl
theorem setIxEnd_l {l : Nat} {xs : List P} {k : Int} {n : Nat} {y : P} (h : μ[l]? = some (some (.lst xs))) (hn : ixN xs.length k = some n) : setIxEnd δ μ (.loc l) (.p (.int k)) (.p y) = some (.nx, δ, μ.set l (some (.lst (xs.set n y)))) := by
  unfold setIxEnd; rw [toP_p]; dsimp only; rw [cellL_l h]; dsimp only; rw [hn]
def fldEnd (c i : Nat) (δ : Sl) (μ : Mu) (x d : D) : Option (Fl × Sl × Mu) := match x, toP μ d with
  | .loc l, some (y, μ3) => match μ3[l]? with
    | some (some (.ins c' xs)) => if c' = c then (if i < xs.length then some (.nx, δ, μ3.set l (some (.ins c (xs.set i y)))) else if i = xs.length then some (.nx, δ, μ3.set l (some (.ins c (xs ++ [y])))) else none) else none
    | _ => none
  | _, _ => none
@[simp] theorem sFldS_eq {c i : Nat} : sFldS c i ea e δ μ = bindS (e δ μ) δ fun d μ1 => bindS (ea δ μ1) δ fun x μ2 => fldEnd c i δ μ2 x d := rfl
theorem fldEnd_new {c i l : Nat} {xs : List P} {y : P} (h : μ[l]? = some (some (.ins c xs))) (hi : i = xs.length) : fldEnd c i δ μ (.loc l) (.p y) = some (.nx, δ, μ.set l (some (.ins c (xs ++ [y])))) := by
  unfold fldEnd; rw [toP_p]; dsimp only; rw [h]; dsimp only; rw [if_pos rfl, if_neg (by omega), if_pos hi]
@[simp] theorem take_set_len {l : Nat} {o : Option MO} : (μ.set l o).take μ.length = μ.set l o := by
  rw [show μ.length = (μ.set l o).length by rw [List.length_set]]; exact List.take_length
/-- a worth, for so many arguments -/
def arF (n : Nat) (sem : FSem) : FSem := fun ds μ => if ds.length = n then sem ds μ else none
theorem arF_ar {n : Nat} {sem : FSem} : Arity (arF n sem) n := fun ds μ r h => by
  unfold arF at h
  split at h
  · assumption
  · cases h
theorem arF_le {n : Nat} {sem : FSem} : ∀ ds μ r, arF n sem ds μ = some r → sem ds μ = some r := fun ds μ r h => by
  unfold arF at h
  split at h
  · exact h
  · cases h
/-! defs -/
theorem bodySem_eq {N : Nat} {ds : List D} : bodySem N a ds μ = retF μ.length (a (ds.map some ++ List.replicate (N - ds.length) none) μ) := rfl
theorem bodySemC_eq {N : Nat} {ds : List D} : bodySemC N a ds μ = retC μ.length (a (ds.map some ++ List.replicate (N - ds.length) none) μ) := rfl
@[simp] theorem retF_p {n : Nat} {x : P} : retF n (some (.ret (.p x), δ, μ)) = some (.ok (.p x), μ.take n) := rfl
@[simp] theorem retF_nx {n : Nat} : retF n (some (.nx, δ, μ)) = some (.ok (.p .non), μ.take n) := rfl
@[simp] theorem retF_exc {n c : Nat} : retF n (some (.exc c, δ, μ)) = some (.exc c, μ.take n) := rfl
theorem retF_ite {n : Nat} {p : Prop} [Decidable p] {x y : Option (Fl × Sl × Mu)} : retF n (if p then x else y) = if p then retF n x else retF n y := by split <;> rfl
end
end Vs
namespace Vs
open PySem PySem.Spec PyProof.Rows L2
section
variable {α : Amb} {P : Program} {w : World} {K : PySem.W.Frag} {mg : Str → Option Value} {base : Heap}
/-- as fnV, for a def with defaults -/
theorem fnVD {x qual : Str} {st : Stmt} {dvs : List V} {f : Addr} {fd : FuncData} {N ps : List Str} {k : Nat} {sv : SEv} (F : FunD K x qual (defArgs st) (defBody st) (defScope st) dvs [] f fd) (S : FnScope N ps (defScope st))
    (hb : ∀ (cdv : Value) (A : Around) (outer : List Env) (s : Shared) (H : Hp) (E : XK), Room k (A.deeper (envOfC qual (defScope st) s.heap.objs.size f cdv)) →
      Takes (cxF P w K mg base N qual st f cdv A outer s H E) (WF E) → PassesOwn (model P w) (cxF P w K mg base N qual st f cdv A outer s H E).A (cxF P w K mg base N qual st f cdv A outer s H E).env (cxF P w K mg base N qual st f cdv A outer s H E).xe →
      PSs (cxF P w K mg base N qual st f cdv A outer s H E) (defBody st) (tS α (WF E) sv)) :
    FnOk P w K mg base (L2.CX P w) (k + 1) f fd ps (spF α ps.length (bodySem N.length sv)) := by
  refine F.ok S (fun vs H Q E h => h.1) (fun cdv A outer s H vs Q E hr h => ?_)
  obtain ⟨hl, G, ρ, μ, ds, z, r, p⟩ := h
  refine ⟨_, hb cdv A outer s H E hr (takes_of rfl rfl rfl rfl) (passes_of rfl), G, ρ, _, μ, z, Sq.start r, ?_⟩
  exact ret_ok (by rw [z.len]; exact p)
/-- a def with one default int -/
theorem fun_mkD {x qual : Str} {st : Stmt} {f T : Addr} {oc : Value} {od an : Option Addr} {osl : Array (Option Value)} {kV doc pm cdv ct : Value} {o : Obj} {i : Int} {t : Tok} {n : Nat} (l : K.lookup f = some ⟨oc, od, .func (PySem.W.fnOf x qual (defArgs st) (defBody st) (defScope st) (.ref T) kV doc pm an cdv ct), osl⟩)
    (c : PySem.W.codeIn K cdv qual = true) (k : PySem.W.keepIn K (.ref f) = true) (lT : K.lookup T = some o) (oT : o.data = .seq [Value.int i t].toArray n) :
    FunD K x qual (defArgs st) (defBody st) (defScope st) [.int i] [] f (PySem.W.fnOf x qual (defArgs st) (defBody st) (defScope st) (.ref T) kV doc pm an cdv ct) :=
  ⟨⟨oc, od, .ref T, kV, doc, pm, an, cdv, ct, osl, rfl, l, c, .inr ⟨by simp, T, o, [.int i t], n, rfl, lT, oT, .cons ⟨t, rfl⟩ .nil⟩, .inl rfl⟩, k⟩
/-- no exception leaves the law -/
theorem cx_none {P : Program} {w : World} {H : Hp} {s : Shared} {e : Value} {s' : Shared} (h : L2.CX P w [] H s (fun _ _ _ => False) e s') : False := by
  obtain ⟨_, _, _, _, _, _, _, _, _, _, _, _, z⟩ := h
  exact z.elim
/-- the law's promise, from its worth -/
def spLaw (K : PySem.W.Frag) : Sp := fun vs H Q _ => ∃ (a : Addr) (ns : List Int), vs = [.ref a] ∧ SqL K H a (ns.map V.int) ∧ ns.length ≤ 63 ∧ ∀ H', Q (.bl true) H'
theorem reps_ints {G : Hp} : ∀ ns : List Int, Reps α G (ns.map V.int) (ns.map .int)
  | [] => .nil
  | n :: ns => .cons (.int n) (reps_ints ns)
theorem law_of {f : Addr} {fd : FuncData} {ps : List Str} {k : Nat} {sem : FSem} (F : FnOk P w K mg base (L2.CX P w) k f fd ps (spF α 1 sem)) (hK : α.K = K) (ev : ∀ ns : List Int, ns.length ≤ 63 → sem [.p (.wl (ns.map .int))] [] = some (.ok (.p (.bl true)), [])) :
    FnOk P w K mg base (L2.CX P w) k f fd ps (spLaw K) := F.imp fun vs H Q E ⟨a, ns, e, h, hl, q⟩ => by
  subst e
  refine ⟨rfl, H, [], [], [.p (.wl (ns.map .int))], ⟨Same.refl H, rfl, fun l m e => by simp at e, fun l l' m m' a e => by simp at e⟩, .cons (.wl (by rw [hK]; exact h) (reps_ints ns)) .nil, ?_⟩
  rw [ev ns hl]
  intro v H' G' ρ' u z r
  cases r
  exact q H'
end
end Vs
/-! More words: strings, divmod of long ints, defs that call themselves. -/
namespace Vs
open PySem PySem.Spec PyProof.Rows L2
section
variable {α : Amb} {W : WX} {X : Cx}
/-! ### strings -/
def fAddS : F2 := fun x y μ => match x, y with
  | .p (.str a), .p (.str b) => if a.length + b.length ≤ sizeLine then some (.p (.str (a ++ b)), μ) else none
  | _, _ => none
theorem o_addS : OpR X (binaryOp .Add) (r2V α fAddS) := OpR.imp op_add_str fun x y H Q h => by
  obtain ⟨G, ρ, μ, dx, dy, z, rx, ry, q⟩ := h
  unfold fAddS at q
  split at q
  · rename_i a b
    split at q
    · rename_i c
      exact ⟨a, b, repStr rx, repStr ry, c, q _ H G ρ Up.refl z (.str _)⟩
    · exact q.elim
  · exact q.elim
/-- a written string, often -/
def fRepS : F2 := fun x y μ => match x, y with
  | .p (.str a), .p (.int i) => if a.length ≤ 16 ∧ -(2 ^ 63) ≤ i ∧ i ≤ 1048576 then some (.p (.str (Txt.mul a i)), μ) else none
  | _, _ => none
theorem o_repS : OpR X (binaryOp .Mult) (r2V α fRepS) := by
  intro pins s σ H x y v u Q I rx ry h
  obtain ⟨G, ρ, μ, dx, dy, z, rdx, rdy, q⟩ := h
  unfold fRepS at q
  split at q
  · rename_i a i
    split at q
    · rename_i c
      cases repStr rdx
      cases repInt rdy
      obtain ⟨t, rfl⟩ := rx
      obtain ⟨t', rfl⟩ := ry
      exact PySem.W.KXi.mul rfl c.1 c.2.1 c.2.2 fun t' k _ _ => ⟨.str (Txt.mul a i), H, I.tok _, ⟨_, rfl⟩, q _ H G ρ Up.refl z (.str _)⟩
    · exact q.elim
  · exact q.elim
def fLstr : FM := fun x ds μ => match x, ds with
  | .p (.str a), [.p (.str b)] => if a.length ≤ sizeLine then some (.p (.str (Txt.lstripChars a b)), μ) else none
  | _, _ => none
theorem m_lstr : MtR X "str.lstrip" (rMV α fLstr) := MtR.imp mt_lstripChars fun x vs H Q ⟨G, ρ, μ, d, ds, z, r, rs, q⟩ => by
  unfold fLstr at q
  split at q
  · rename_i a b
    split at q
    · rename_i c
      obtain ⟨v, rfl, r1⟩ := rds1 rs
      exact ⟨a, b, repStr r, by rw [repStr r1], c, q _ H G ρ Up.refl z (.str _)⟩
    · exact q.elim
  · exact q.elim
def fZfill : FM := fun x ds μ => match x, ds with
  | .p (.str a), [.p (.int i)] => if PadOk i = true then some (.p (.str (Txt.zfill a i)), μ) else none
  | _, _ => none
theorem m_zfill : MtR X "str.zfill" (rMV α fZfill) := MtR.imp mt_zfill fun x vs H Q ⟨G, ρ, μ, d, ds, z, r, rs, q⟩ => by
  unfold fZfill at q
  split at q
  · rename_i a i
    split at q
    · rename_i c
      obtain ⟨v, rfl, r1⟩ := rds1 rs
      exact ⟨a, i, repStr r, by rw [repInt r1], c, q _ H G ρ Up.refl z (.str _)⟩
    · exact q.elim
  · exact q.elim
/-- str of an int -/
def fStr : FA := fun ds μ => match ds with
  | [.p (.int i)] => if i.natAbs.log2 < 1920 then some (.p (.str (toString i)), μ) else none
  | _ => none
theorem c_str : CallR X (.type "str") (rCV α fStr) := CallR.imp call_str_int fun vs H Q ⟨G, ρ, μ, ds, z, r, q⟩ => by
  unfold fStr at q
  split at q
  · rename_i i
    split at q
    · rename_i c
      obtain ⟨v, rfl, r1⟩ := rds1 r
      exact ⟨i, by rw [repInt r1], c, q _ H G ρ Up.refl z (.str _)⟩
    · exact q.elim
  · exact q.elim
/-! ### divmod, of ints of any size -/
def fDvm : FA := fun ds μ => match ds with
  | [.p (.int i), .p (.int j)] => if 0 < j then some (.p (.tup [.int (i / j), .int (i % j)]), μ) else none
  | _ => none
/-- what a long division asks of the place where it is done -/
structure Pyl (X : Cx) : Prop where
  seer : X.base.NoSeer
  tree : X.prog.given.tree = none
theorem pyl_room {pins : List (Addr × Obj)} {σ : L2.St} {H : Hp} {s : Shared} (Y : Pyl X) (I : Inv X pins σ H s) (hr : Room 32 X.A) (hs : X.stack = X.env :: X.outer) (hg : X.env.scope.isGenerator = false) (hc : X.env.scope.isCoroutine = false) : PylongRoom (model X.prog X.w) X.A s := by
  refine PylongRoom.of I.nolimit ?_ (SeerAt.of (env := X.env) (l := X.outer) (Y.seer.keeps I.bk) Y.tree ?_ hg hc I.ok.blt I.ok.glob)
  · have := hr.dp
    show X.A.depth + 100 < _
    omega
  · rw [← hs]; exact I.ok.frames
theorem c_dvm (Y : Pyl X) (hr : Room 32 X.A) (hs : X.stack = X.env :: X.outer) (hg : X.env.scope.isGenerator = false) (hc : X.env.scope.isCoroutine = false) : CallR X (.builtin "divmod") (rCV α fDvm) := by
  intro pins s σ H xs us Q I r h
  obtain ⟨G, ρ, μ, ds, z, rd, q⟩ := h
  unfold fDvm at q
  split at q
  · rename_i i j
    split at q
    · rename_i hj
      obtain ⟨a, b, rfl, ra, rb⟩ := rds2 rd
      cases repInt ra
      cases repInt rb
      obtain ⟨u, u', rfl, ⟨t, rfl⟩, ⟨t', rfl⟩⟩ := vals2 r
      have hn : H s.heap.objs.size = none := I.hok.fresh (Nat.le_refl _)
      refine divmod_int (by omega) ?_ (.inr (pyl_room Y I hr hs hg hc))
      rw [Int.fdiv_eq_ediv_of_nonneg i (by omega), Int.fmod_eq_emod_of_nonneg i (by omega)]
      refine ⟨.ref s.heap.objs.size, _, ?_, rfl, q _ _ _ _ (up_new (z.free hn)) (z.new hn _) (.tup (SqT.of upd_same) (.cons (.int _) (.cons (.int _) .nil)))⟩
      exact I.laid (fun b o e => Heap.get?_push_of_some _ e) (Nat.le_refl _) ⟨by rw [sizeLine_eq]; show 2 ≤ _; decide, [.int (i / j) s.toks, .int (i % j) (s.toks + 1)], .cons ⟨_, rfl⟩ (.cons ⟨_, rfl⟩ .nil), _, Heap.get?_push_size s.heap rfl, rfl, 0, rfl⟩
    · exact q.elim
  · exact q.elim
/-! ### a string, or another one if it is empty -/
def evOrS (a b : Ev) : Ev := fun δ μ => bindG (a δ μ) fun x μ1 => match x with
  | .p (.str s) => if s.length ≤ sizeLine then (if s.length = 0 then b δ μ1 else some (.ok (.p (.str s)), μ1)) else none
  | _ => none
theorem v_orS {a b : Expr} {rest : List Expr} {ea eb : Ev} {pos : Pos} (ha : PE X a (tV α W ea)) (hb : PE X (.BoolOp .Or (b :: rest) pos) (tV α W eb)) : PE X (.BoolOp .Or (a :: b :: rest) pos) (tV α W (evOrS ea eb)) :=
  PE.imp (pe_orT ha hb) fun σ H Q ⟨G, ρ, δ, μ, z, s, p⟩ => ⟨G, ρ, δ, μ, z, s, Post.bind p fun x μ1 v H1 G1 ρ1 u z1 r1 p1 => by
    split at p1
    · rename_i y
      split at p1
      · rename_i hl
        refine ⟨(y.length : Int) != 0, ?_, ?_⟩
        · rw [repStr r1]
          exact ⟨hl, rfl⟩
        · split at p1
          · rename_i h0
            rw [if_neg (by simp [h0])]
            exact tg_of z1 s u p1
          · rename_i h0
            rw [if_pos (by simp; omega)]
            exact p1 _ H1 G1 ρ1 Up.refl z1 r1
      · exact p1.elim
    · exact p1.elim⟩
/-- a worth that says nothing -/
def m_no : FSem := fun _ _ => none
theorem fn_no {P : Program} {w : World} {K : PySem.W.Frag} {mg : Str → Option Value} {base : Heap} {CX : CXT} {k n : Nat} {f : Addr} {fd : FuncData} {ps : List Str} (hl : ∀ H vs Q E, spF α n m_no vs H Q E → vs.length = ps.length) : FnOk P w K mg base CX k f fd ps (spF α n m_no) :=
  ⟨fun vs H Q E h => hl H vs Q E h, fun A outer s H args us vs Q E _ _ _ _ h => by
    obtain ⟨_, G, ρ, μ, ds, z, r, p⟩ := h
    exact p.elim⟩
end
end Vs
/-! The law's end, with what long divisions ask of the heap. -/
namespace Vs
open PySem PySem.Spec PyProof.Rows L2
section
variable {P : Program} {w : World} {K : PySem.W.Frag} {mg nb : Str → Option Value} {CX : CXT} {k : Nat} {fa sc : Addr} {fd : FuncData} {x : Str} {sp : Sp} {t : Shared} {us : List Value} {zs : List Int}
/-- the law's call, where at most the script is told in the store -/
theorem call_core (KX : K.In t.heap) (g1 : t.heap.Ns mainGlobals mg) (g2 : t.heap.Ns builtinsNs nb) (g3 : ∀ y : Str, y ≠ "__name__" → nb y = bootBuiltins y) (g4 : t.heap.NoLimit) (g5 : t.heap.NoSeer) (g6 : t.gens = #[])
    (hs : t.heap.get? sc = some { cls := .type "list", data := .seq us.toArray }) (hr : Room k callerA)
    (F : ∀ b : Heap, K.In b → b.Ns mainGlobals mg → b.NoSeer → FnOk P w K mg b CX k fa fd [x] sp) (hb : ∀ (s : Shared) (u : Value), BindsTo s fd ⟨[u], []⟩ [(x, u)])
    (hx : ∀ S e s', CX [] S t (fun _ _ _ => False) e s' → False) (S : Hp) (o1 : Only S) (o2 : HOk P w S t.heap) (o3 : ∀ b, S b ≠ none → b = sc) (o4 : S sc ≠ none → K.lookup sc = none)
    (hq : sp [.ref sc] S (fun v _ => v = .bl true) fun _ _ _ => False) :
    codeAny (model P w) callerA (.call (.ref fa) ⟨[.ref sc], []⟩) (fun r s' => r = .ok (.ret (.bool true)) ∧ OldK t.heap s'.heap ∧ s'.os = t.os ∧ AllBare s'.gens) t := by
  have at1 : ∀ {b : Addr} {o : Obj}, t.heap.get? b = some o → b ≠ sc → (hidT t.heap S).get? b = some o := fun {b o} e hne =>
    hidT_get e (Classical.byContradiction fun q => hne (o3 b q))
  have nd : ∀ {b : Addr} {o : Obj}, t.heap.get? b = some o → (∀ q, o.data ≠ .seq us.toArray q) → b ≠ sc := fun {b o} e hd hbs => by
    subst hbs
    rw [hs] at e
    cases e
    exact hd _ rfl
  have nsOf : ∀ {b : Addr} {m : Str → Option Value}, t.heap.Ns b m → (hidT t.heap S).Ns b m := fun {b m} y => by
    obtain ⟨o, es, ep, e, d, r⟩ := y
    exact ⟨o, es, ep, at1 e (nd e fun q z => by rw [d] at z; cases z), d, r⟩
  have kIn : K.In (hidT t.heap S) := fun b o e => by
    cases q : S b with
    | none => exact hidT_get (KX b o e) q
    | some u =>
      have hne : S b ≠ none := by rw [q]; exact nofun
      have hbs := o3 b hne
      subst hbs
      rw [o4 hne] at e
      cases e
  have seer : (hidT t.heap S).NoSeer := by
    obtain ⟨⟨m1, a1, a2⟩, ⟨m2, b1, b2⟩, ⟨m3, c1, c2⟩, ⟨m4, bm, ob, d1, d2, d3, d4⟩⟩ := g5
    refine ⟨⟨m1, nsOf a1, a2⟩, ⟨m2, nsOf b1, b2⟩, ⟨m3, nsOf c1, c2⟩, ⟨m4, bm, ob, nsOf d1, d2, at1 d3 fun z => ?_, d4⟩⟩
    subst z
    rw [hs] at d3
    cases d3
    exact absurd d4.1 (by intro e; injection e with e; exact absurd e (by decide))
  obtain ⟨m5, l1, l2⟩ := g4
  have M : Mod K mg (hidT t.heap S) := ⟨kIn, nsOf g1, ⟨nb, nsOf g2, g3⟩, ⟨m5, nsOf l1, l2⟩⟩
  have E0 : Env0 P w K mg (hidT t.heap S) callerA [] t S := ⟨rfl, M, fun _ _ => of_hidT, Nat.le_of_eq (hidT_size _ _), trivial, (fun _ hm => nomatch hm), o2, .of_eq g6⟩
  refine codeAny_mono ((F _ kIn (nsOf g1) seer).run callerA [] t S ⟨[.ref sc], []⟩ [.ref sc] [.ref sc] _ _ hr E0 (hb t _) (.cons rfl .nil) hq) fun r s' h => ?_
  match r, h with
  | .error e, h => exact (hx S e s' h).elim
  | .ok (.ret u), h =>
    obtain ⟨v, S', h1, h2, un, ok', rv, hv⟩ := h
    cases (show v = .bl true from hv)
    cases (show u = Value.bool true from rv)
    refine ⟨rfl, OldK.of_keep fun b o e => ?_, h1, h2⟩
    cases q : S b with
    | none => exact un.keep b o e q (fun z => nomatch z) (fun z => nomatch z)
    | some u =>
      rcases o1 b with z | ⟨oz, xz, z⟩
      · rw [q] at z; cases z
      · have e1 := (o2 b _ z).1
        have e2 := (ok' b _ (un.frzs b oz _ z)).1
        rw [e] at e1
        cases e1
        exact e2
theorem call_law (KX : K.In t.heap) (g1 : t.heap.Ns mainGlobals mg) (g2 : t.heap.Ns builtinsNs nb) (g3 : ∀ y : Str, y ≠ "__name__" → nb y = bootBuiltins y) (g4 : t.heap.NoLimit) (g5 : t.heap.NoSeer) (g6 : t.gens = #[])
    (hs : t.heap.get? sc = some { cls := .type "list", data := .seq us.toArray }) (hi : IntsAre us zs) (hz : zs.length ≤ sizeLine) (hr : Room k callerA)
    (F : ∀ b : Heap, K.In b → b.Ns mainGlobals mg → b.NoSeer → FnOk P w K mg b CX k fa fd [x] sp) (hb : ∀ (s : Shared) (u : Value), BindsTo s fd ⟨[u], []⟩ [(x, u)])
    (hq : ∀ S : Hp, Only S → SqL K S sc (zs.map V.int) → sp [.ref sc] S (fun v _ => v = .bl true) fun _ _ _ => False)
    (hx : ∀ S e s', CX [] S t (fun _ _ _ => False) e s' → False) :
    codeAny (model P w) callerA (.call (.ref fa) ⟨[.ref sc], []⟩) (fun r s' => r = .ok (.ret (.bool true)) ∧ OldK t.heap s'.heap ∧ s'.os = t.os ∧ AllBare s'.gens) t := by
  have rv := vals_ints hi
  have ln := hi.length
  have go := call_core KX g1 g2 g3 g4 g5 g6 hs hr F hb hx
  cases hk : K.lookup sc with
  | some o =>
    have e := KX sc o hk
    rw [hs] at e
    cases e
    have no : ∀ b : Addr, (fun _ => none : Hp) b = none := fun _ => rfl
    exact go (fun _ => none) (fun b => .inl (no b)) (fun b u z => nomatch (no b).symm.trans z) (fun b z => absurd (no b) z) (fun z => absurd (no sc) z)
      (hq _ (fun b => .inl (no b)) (.inr ⟨_, us.toArray, _, hk, rfl, rfl, rfl, by rw [List.size_toArray, ln]; exact hz, rv⟩))
  | none =>
    let S : Hp := fun b => if b = sc then some (.frz { cls := .type "list", data := .seq us.toArray } (.lst (zs.map V.int))) else none
    have S1 : S sc = some (.frz { cls := .type "list", data := .seq us.toArray } (.lst (zs.map V.int))) := if_pos rfl
    have S0 : ∀ b, b ≠ sc → S b = none := fun b h => if_neg h
    have S2 : ∀ b u, S b = some u → b = sc := fun b u h => Classical.byContradiction fun q => by rw [S0 b q] at h; cases h
    have on : Only S := fun b => by
      by_cases h : b = sc
      · subst h; exact .inr ⟨_, _, S1⟩
      · exact .inl (S0 b h)
    refine go S on (fun b u z => ?_) (fun b z => Classical.byContradiction fun q => z (S0 b q)) (fun _ => hk) (hq S on (.inl (.inr ⟨_, S1⟩)))
    have hbs := S2 b u z
    subst hbs
    rw [S1] at z
    cases z
    exact ⟨hs, by rw [List.length_map]; exact hz, us, _, rv, hs⟩
end
/-- as the kit's walk, and no file stands where a long division would look -/
theorem walk_ofS {l : PySem.W.OpenLaw} {n k : Nat} {q : Program} {loose : List Str} {XP : (Str → Option Value) → Heap → Prop} {YP : World → Heap → Prop} {d : DefRec} {K : Params → PySem.W.Frag} {CX : World → CXT} {sp : World → Sp} {x : Str}
    (h1 : l.most = some n) (h2 : n ≤ sizeLine) (h3 : d.params.defaults = []) (h4 : importsNone q = true) (hr : Room k callerA) (hY : ∀ w h, YP w h → (K w.params).In h)
    (F : ∀ (w : World) (mg : Str → Option Value) (fa : Addr) (h : Heap), (K w.params).In h → h.Ns mainGlobals mg → mg d.name = some (.ref fa) →
      ∃ fd : FuncData, (∀ (s : Shared) (u : Value), BindsTo s fd ⟨[u], []⟩ [(x, u)]) ∧ ∀ b : Heap, (K w.params).In b → b.Ns mainGlobals mg → b.NoSeer → FnOk l.prog w (K w.params) mg b (CX w) k fa fd [x] (sp w))
    (hq : ∀ (w : World) (H : Hp) (a : Addr) (ns : List Int), ns.length ≤ n → Only H → SqL (K w.params) H a (ns.map V.int) → sp w [.ref a] H (fun v _ => v = .bl true) fun _ _ _ => False)
    (hx : ∀ w H s e s', CX w [] H s (fun _ _ _ => False) e s' → False) : PySem.W.WalkO q loose XP YP l.row.toRowW d [] (fun f vs => PySem.call f vs) := by
  refine Att.attach_call h1 h3 fun w s₀ s₁ mg mb fa o pm cd doc a vs ns G Y ho hd hcd hmg hobj hints hlen hg => ?_
  have KX := hY w _ Y
  obtain ⟨fd, hb, hF⟩ := F w mg fa _ KX G.T.g hmg
  exact call_law KX G.T.g G.T.b G.T.builtins G.T.nolimit (G.T.seer h4) hg hobj hints (Nat.le_trans hlen h2) hr hF hb (fun S hO hS => hq w S a ns hlen hO hS) fun S e s' => hx w S s₁ e s'
end Vs
/-! More words: sum, any, all of lists, tuple(list). -/
namespace Vs
open PySem PySem.Spec PyProof.Rows L2
section
variable {α : Amb} {W : WX} {X : Cx}
def intsOf : List P → Option (List Int)
  | [] => some []
  | .int i :: xs => (intsOf xs).map (i :: ·)
  | _ => none
def blsOf : List P → Option (List Bool)
  | [] => some []
  | .bl b :: xs => (blsOf xs).map (b :: ·)
  | _ => none
theorem reps_intsOf {G : Hp} : ∀ {vs : List V} {xs : List P} {ns : List Int}, Reps α G vs xs → intsOf xs = some ns → vs = ns.map V.int
  | _, [], ns, r, h => by cases h; cases r; rfl
  | _, x :: xs, ns, r, h => by
    cases r with
    | cons r1 r2 =>
      unfold intsOf at h
      split at h
      · rename_i e; cases e
      · rename_i i ys e
        cases e
        cases q : intsOf xs with
        | none => rw [q] at h; cases h
        | some ms =>
          rw [q] at h
          cases h
          rw [reps_intsOf r2 q]
          cases r1
          rfl
      · cases h
theorem reps_blsOf {G : Hp} : ∀ {vs : List V} {xs : List P} {ns : List Bool}, Reps α G vs xs → blsOf xs = some ns → vs = ns.map V.bl
  | _, [], ns, r, h => by cases h; cases r; rfl
  | _, x :: xs, ns, r, h => by
    cases r with
    | cons r1 r2 =>
      unfold blsOf at h
      split at h
      · rename_i e; cases e
      · rename_i i ys e
        cases e
        cases q : blsOf xs with
        | none => rw [q] at h; cases h
        | some ms =>
          rw [q] at h
          cases h
          rw [reps_blsOf r2 q]
          cases r1
          rfl
      · cases h
/-- the list that a value shows -/
def lstOf (μ : Mu) (d : D) : Option (List P) := match view μ d with
  | some (.lst xs) => some xs
  | some (.wl xs) => some xs
  | _ => none
theorem lst_of {H G : Hp} {ρ : List Addr} {μ : Mu} (z : Zn α H G ρ μ) {v : V} {d : D} {xs : List P} (r : RepD α G ρ v d) (h : lstOf μ d = some xs) : ∃ a vs, v = .ref a ∧ SqL α.K H a vs ∧ Reps α G vs xs := by
  unfold lstOf at h
  split at h
  · rename_i ys e
    cases h
    obtain ⟨a, vs, rfl, h1, h2⟩ := view_lst z r e
    exact ⟨a, vs, rfl, SqL.of h1, h2⟩
  · rename_i ys e
    cases h
    cases d with
    | p x' =>
      cases e
      cases r with
      | wl h1 r1 => exact ⟨_, _, rfl, seqL z.sub h1, r1⟩
    | loc l =>
      obtain ⟨xs', e', hx⟩ := view_loc e
      cases e'
  · cases h
def fSum : FA := fun ds μ => match ds with
  | [d] => match (lstOf μ d).bind intsOf with
    | some ns => some (.p (.int ns.sum), μ)
    | none => none
  | _ => none
def fAny : FA := fun ds μ => match ds with
  | [d] => match (lstOf μ d).bind blsOf with
    | some bs => some (.p (.bl (bs.any id)), μ)
    | none => none
  | _ => none
def fAll : FA := fun ds μ => match ds with
  | [d] => match (lstOf μ d).bind blsOf with
    | some bs => some (.p (.bl (bs.all id)), μ)
    | none => none
  | _ => none
theorem c_sum (hc : X.calm = true) (hK : X.K = α.K) : CallR X (.builtin "sum") (rCV α fSum) := CallR.imp (cr_sum hc) fun vs H Q ⟨G, ρ, μ, ds, z, r, q⟩ => by
  unfold fSum at q
  split at q
  · rename_i d
    split at q
    · rename_i ns hn
      obtain ⟨xs, h1, h2⟩ := Option.bind_eq_some_iff.mp hn
      obtain ⟨v, rfl, r1⟩ := rds1 r
      obtain ⟨a, ws, rfl, h3, h4⟩ := lst_of z r1 h1
      rw [reps_intsOf h4 h2] at h3
      exact ⟨a, ns, rfl, hK ▸ h3, q _ H G ρ Up.refl z (.int _)⟩
    · exact q.elim
  · exact q.elim
theorem c_any (hc : X.calm = true) (hK : X.K = α.K) : CallR X (.builtin "any") (rCV α fAny) := CallR.imp (cr_any hc) fun vs H Q ⟨G, ρ, μ, ds, z, r, q⟩ => by
  unfold fAny at q
  split at q
  · rename_i d
    split at q
    · rename_i ns hn
      obtain ⟨xs, h1, h2⟩ := Option.bind_eq_some_iff.mp hn
      obtain ⟨v, rfl, r1⟩ := rds1 r
      obtain ⟨a, ws, rfl, h3, h4⟩ := lst_of z r1 h1
      rw [reps_blsOf h4 h2] at h3
      exact ⟨a, ns, rfl, hK ▸ h3, q _ H G ρ Up.refl z (.bl _)⟩
    · exact q.elim
  · exact q.elim
theorem c_all (hc : X.calm = true) (hK : X.K = α.K) : CallR X (.builtin "all") (rCV α fAll) := CallR.imp (cr_all hc) fun vs H Q ⟨G, ρ, μ, ds, z, r, q⟩ => by
  unfold fAll at q
  split at q
  · rename_i d
    split at q
    · rename_i ns hn
      obtain ⟨xs, h1, h2⟩ := Option.bind_eq_some_iff.mp hn
      obtain ⟨v, rfl, r1⟩ := rds1 r
      obtain ⟨a, ws, rfl, h3, h4⟩ := lst_of z r1 h1
      rw [reps_blsOf h4 h2] at h3
      exact ⟨a, ns, rfl, hK ▸ h3, q _ H G ρ Up.refl z (.bl _)⟩
    · exact q.elim
  · exact q.elim
/-! ### zip and enumerate, of lists -/
def zipP : List P → List P → List P
  | x :: xs, y :: ys => .tup [x, y] :: zipP xs ys
  | _, _ => []
theorem zipP_get : ∀ (xs ys : List P) (i : Nat) (w : P), (zipP xs ys)[i]? = some w → ∃ x y, xs[i]? = some x ∧ ys[i]? = some y ∧ w = .tup [x, y]
  | x :: xs, y :: ys, 0, w, h => by
    cases h
    exact ⟨x, y, rfl, rfl, rfl⟩
  | x :: xs, y :: ys, i + 1, w, h => zipP_get xs ys i w h
  | [], _, i, w, h => by simp [zipP] at h
  | _ :: _, [], i, w, h => by simp [zipP] at h
theorem zipP_len : ∀ (xs ys : List P), (zipP xs ys).length = min xs.length ys.length
  | x :: xs, y :: ys => by simp [zipP, zipP_len xs ys]
  | [], _ => by simp [zipP]
  | _ :: _, [] => by simp [zipP]
theorem jok_zip {K : PySem.W.Frag} {G1 : Hp} {a b : Addr} {vs ws : List V} {xs ys : List P} (h : SqL K G1 a vs) (h2 : SqL K G1 b ws) (r : Reps α G1 vs xs) (r2 : Reps α G1 ws ys) (hK : K = α.K) : JOk α (Itz K a b) (zipP xs ys) G1 := fun i H G ρ μ s z => by
  have hH : SqL K H a vs := seqL z.sub (seqL s h)
  have hH2 : SqL K H b ws := seqL z.sub (seqL s h2)
  have r := r.mono s
  have r2 := r2.mono s
  refine ⟨fun w hw => ?_, fun hi => ⟨vs, ws, hH, hH2, by rw [r.length, r2.length]; rw [zipP_len] at hi; omega⟩⟩
  obtain ⟨x, y, e1, e2, rfl⟩ := zipP_get _ _ _ _ hw
  obtain ⟨v, h3, h4⟩ := r.get e1
  obtain ⟨u, h5, h6⟩ := r2.get e2
  refine ⟨⟨vs, ws, v, u, hH, hH2, h3, h5⟩, fun q H' yl => ?_⟩
  obtain ⟨T, x', y', rfl, hT, rfl, f1, f2⟩ := yl
  have g1 := f1 vs hH
  have g2 := f2 ws hH2
  rw [h3] at g1
  rw [h5] at g2
  cases g1
  cases g2
  exact ⟨_, up_new (z.free hT), z.new hT _, .tup (SqT.of upd_same) (.cons (h4.mono (same_upd (z.free hT))) (.cons (h6.mono (same_upd (z.free hT))) .nil))⟩
def asLst : P → Option (List P)
  | .lst xs => some xs
  | .wl xs => some xs
  | _ => none
theorem sq_asLst {G : Hp} {v : V} {x : P} {xs : List P} (r : Rep α G v x) (h : asLst x = some xs) : ∃ a vs, v = .ref a ∧ SqL α.K G a vs ∧ Reps α G vs xs := by
  cases r with
  | lst h1 r1 => cases h; exact ⟨_, _, rfl, SqL.of h1, r1⟩
  | wl h1 r1 => cases h; exact ⟨_, _, rfl, h1, r1⟩
  | _ => cases h
def zipEnd (μ : Mu) : List D → Option (Out (List P) × Mu)
  | [d, e] => match toP μ d with
    | some (x, μ1) => match toP μ1 e with
      | some (y, μ2) => match asLst x, asLst y with
        | some xs, some ys => some (.ok (zipP xs ys), μ2)
        | _, _ => none
      | none => none
    | none => none
  | _ => none
def evZip (a : EvA) : EvG (List P) := fun δ μ => bindG (a δ μ) fun ds μ1 => zipEnd μ1 ds
theorem vi_zip {e e2 : Expr} {a : EvA} {p pos tpos : Pos} {elts : List Expr} {kk : Nat} (hK : X.K = α.K) (hm : X.mg "zip" = none) (ha : PA X [e, e2] (tVs α W a)) (hg : Gl X "zip" := by rfl)
    (hs : starEach [e, e2] X.env = (false, eval e X.env) :: starEach [e2] X.env := by rfl) (hpl : (backTo pos (starEach [e2] X.env)).any (·.1) = false := by rfl) :
    VI α W X (.Tuple elts kk tpos) (.Call (.Name "zip" p) [e, e2] [] pos) (evZip a) := by
  refine ⟨_, pi_zip hg hm ha hs hpl, fun σ H G ρ δ μ R z s pq => ⟨G, ρ, δ, μ, z, s, Post.bind pq fun ds μ1 vs H1 G1 ρ1 u z1 r1 p1 => ?_⟩⟩
  unfold zipEnd at p1
  split at p1
  · rename_i d d'
    obtain ⟨v, w, rfl, ra, rb⟩ := rds2 r1
    split at p1
    · rename_i x μ2 q1
      obtain ⟨G2, u2, z2, r2⟩ := toP_ok z1 ra q1
      split at p1
      · rename_i y μ3 q2
        obtain ⟨G3, u3, z3, r3⟩ := toP_ok z2 (rb.up u2) q2
        split at p1
        · rename_i xs ys h1 h2
          have r2 := r2.mono u3.1
          obtain ⟨b1, vs1, rfl, s1, t1⟩ := sq_asLst r2 h1
          obtain ⟨b2, vs2, rfl, s2, t2⟩ := sq_asLst r3 h2
          refine ⟨b1, b2, vs1, vs2, rfl, ?_, ?_, ?_⟩
          · rw [hK]; exact seqL z3.sub s1
          · rw [hK]; exact seqL z3.sub s2
          · rw [hK]; exact p1 (Itz α.K b1 b2) H1 G3 ρ1 (u2.trans u3) z3 (jok_zip s1 s2 t1 t2 rfl)
        · exact p1.elim
      · exact p1.elim
    · exact p1.elim
  · exact p1.elim
def enumP : Nat → List P → List P
  | _, [] => []
  | n, x :: xs => .tup [.int (n : Int), x] :: enumP (n + 1) xs
theorem enumP_get : ∀ (n : Nat) (xs : List P) (i : Nat) (w : P), (enumP n xs)[i]? = some w → ∃ x, xs[i]? = some x ∧ w = .tup [.int ((n + i : Nat) : Int), x]
  | n, x :: xs, 0, w, h => by cases h; exact ⟨x, rfl, rfl⟩
  | n, x :: xs, i + 1, w, h => by
    obtain ⟨y, h1, h2⟩ := enumP_get (n + 1) xs i w h
    exact ⟨y, h1, by rw [h2, show n + 1 + i = n + (i + 1) by omega]⟩
  | n, [], i, w, h => by simp [enumP] at h
theorem enumP_len : ∀ (n : Nat) (xs : List P), (enumP n xs).length = xs.length
  | _, [] => rfl
  | n, x :: xs => by simp [enumP, enumP_len (n + 1) xs]
theorem jok_enum {K : PySem.W.Frag} {G1 : Hp} {a : Addr} {vs : List V} {xs : List P} (h : SqL K G1 a vs) (r : Reps α G1 vs xs) : JOk α (Ite K a) (enumP 0 xs) G1 := fun i H G ρ μ s z => by
  have hH : SqL K H a vs := seqL z.sub (seqL s h)
  have r := r.mono s
  refine ⟨fun w hw => ?_, fun hi => ⟨vs, hH, by rw [r.length]; rw [enumP_len] at hi; exact hi⟩⟩
  obtain ⟨x, e1, rfl⟩ := enumP_get _ _ _ _ hw
  obtain ⟨v, h3, h4⟩ := r.get e1
  refine ⟨⟨vs, v, hH, h3⟩, fun q H' yl => ?_⟩
  obtain ⟨T, x', rfl, hT, rfl, f1⟩ := yl
  have g1 := f1 vs hH
  rw [h3] at g1
  cases g1
  rw [Nat.zero_add]
  exact ⟨_, up_new (z.free hT), z.new hT _, .tup (SqT.of upd_same) (.cons (.int _) (.cons (h4.mono (same_upd (z.free hT))) .nil))⟩
def enumEnd (μ : Mu) : List D → Option (Out (List P) × Mu)
  | [d] => match toP μ d with
    | some (x, μ1) => match asLst x with
      | some xs => some (.ok (enumP 0 xs), μ1)
      | none => none
    | none => none
  | _ => none
def evEnum (a : EvA) : EvG (List P) := fun δ μ => bindG (a δ μ) fun ds μ1 => enumEnd μ1 ds
theorem vi_enum {e : Expr} {a : EvA} {p pos tpos : Pos} {elts : List Expr} {kk : Nat} (hK : X.K = α.K) (hm : X.mg "enumerate" = none) (ha : PA X [e] (tVs α W a)) (hg : Gl X "enumerate" := by rfl)
    (hs : starEach [e] X.env = [(false, eval e X.env)] := by rfl) : VI α W X (.Tuple elts kk tpos) (.Call (.Name "enumerate" p) [e] [] pos) (evEnum a) := by
  refine ⟨_, pi_enum hg hm ha hs, fun σ H G ρ δ μ R z s pq => ⟨G, ρ, δ, μ, z, s, Post.bind pq fun ds μ1 vs H1 G1 ρ1 u z1 r1 p1 => ?_⟩⟩
  unfold enumEnd at p1
  split at p1
  · rename_i d
    obtain ⟨v, rfl, ra⟩ := rds1 r1
    split at p1
    · rename_i x μ2 q1
      obtain ⟨G2, u2, z2, r2⟩ := toP_ok z1 ra q1
      split at p1
      · rename_i xs h1
        obtain ⟨b1, vs1, rfl, s1, t1⟩ := sq_asLst r2 h1
        refine ⟨b1, vs1, rfl, ?_, ?_⟩
        · rw [hK]; exact seqL z2.sub s1
        · rw [hK]; exact p1 (Ite α.K b1) H1 G2 ρ1 u2 z2 (jok_enum s1 t1)
      · exact p1.elim
    · exact p1.elim
  · exact p1.elim
/-! ### [*xs, ..], xs + ys -/
def seqOf (μ : Mu) (d : D) : Option (List P) := (view μ d).bind asList
def evStar (e : Ev) (r : EvA) : EvA := fun δ μ => bindG (e δ μ) fun x μ1 => match seqOf μ1 x with
  | some xs => bindG (r δ μ1) fun ys μ2 => some (.ok (xs.map .p ++ ys), μ2)
  | none => none
theorem v_star {e : Expr} {es : List Expr} {p : Pos} {ee : Ev} {er : EvA} (hK : X.K = α.K) (he : PE X e (tV α W ee)) (hr : PA X es (tVs α W er)) (hs : starEach (.Starred e p :: es) X.env = (true, eval e X.env) :: starEach es X.env := by rfl) : PA X (.Starred e p :: es) (tVs α W (evStar ee er)) :=
  PA.imp (StX.pa_star he hr hs) fun σ H Q ⟨G, ρ, δ, μ, z, s, pq⟩ => ⟨G, ρ, δ, μ, z, s, Post.bind pq fun x μ1 v H1 G1 ρ1 u z1 r1 p1 => by
    split at p1
    · rename_i xs hx
      obtain ⟨y, h1, h2⟩ := Option.bind_eq_some_iff.mp hx
      obtain ⟨a, vs, rfl, h3, h4⟩ := view_seq z1 r1 h1 h2
      refine ⟨a, vs, rfl, ?_, G1, ρ1, δ, μ1, z1, s.up u, Post.bind p1 fun ys μ2 ws H2 G2 ρ2 u2 z2 r2 p2 => p2 (vs ++ ws) H2 G2 ρ2 Up.refl z2 ((reps_ds (h4.mono u2.1)).append r2)⟩
      rw [hK]
      exact h3.symm
    · exact p1.elim⟩
def fCatL : F2 := fun x y μ => match view μ x, view μ y with
  | some (.lst xs), some (.lst ys) => if xs.length + ys.length ≤ sizeLine then some (.p (.lst (xs ++ ys)), μ) else none
  | _, _ => none
theorem o_catL : OpR X (binaryOp .Add) (r2V α fCatL) := OpR.imp op_cat fun x y H Q h => by
  obtain ⟨G, ρ, μ, dx, dy, z, rx, ry, q⟩ := h
  unfold fCatL at q
  split at q
  · rename_i xs ys h1 h2
    split at q
    · rename_i hl
      obtain ⟨a, vs, rfl, e1, t1⟩ := view_lst z rx h1
      obtain ⟨b, ws, rfl, e2, t2⟩ := view_lst z ry h2
      refine ⟨a, b, vs, ws, rfl, rfl, e1, e2, by rw [t1.length, t2.length]; exact hl, fun p hp => ?_⟩
      exact q _ _ _ _ (up_new (z.free hp)) (z.new hp _) (.lst upd_same ((t1.append t2).mono (same_upd (z.free hp))))
    · exact q.elim
  · exact q.elim
/-! ### slices of lists -/
abbrev EvO := EvG (Option Int)
abbrev tVo (α : Amb) (W : WX) (ev : EvO) : TO := tG α W (fun _ _ (b c : Option Int) => b = c) ev
theorem PO.imp {e : Option Expr} {t t' : TO} (h : PO X e t) (i : ∀ σ H Q, t' σ H Q → t σ H Q) : PO X e t' := ⟨fun pins s σ H Q I q => h.run pins s σ H Q I (i _ _ _ q)⟩
def evNoP : EvO := fun _ μ => some (.ok none, μ)
def evPt (e : Ev) : EvO := fun δ μ => bindG (e δ μ) fun d μ1 => match d with
  | .p (.int i) => some (.ok (some i), μ1)
  | _ => none
theorem v_noP : PO X none (tVo α W evNoP) := PO.imp po_none fun σ H Q ⟨G, ρ, δ, μ, z, s, p⟩ => p none H G ρ Up.refl z rfl
theorem v_pt {e : Expr} {ev : Ev} (h : PE X e (tV α W ev)) : PO X (some e) (tVo α W (evPt ev)) :=
  PO.imp (po_some h) fun σ H Q ⟨G, ρ, δ, μ, z, s, p⟩ => ⟨G, ρ, δ, μ, z, s, Post.bind p fun x μ1 v H1 G1 ρ1 u z1 r1 p1 => by
    split at p1
    · rename_i i
      exact ⟨i, repInt r1, p1 _ H1 G1 ρ1 Up.refl z1 rfl⟩
    · exact p1.elim⟩
def cutP (xs : List P) (lo hi : Option Int) : List P := (xs.drop (HT.sIx xs.length 0 lo)).take (HT.sIx xs.length xs.length hi - HT.sIx xs.length 0 lo)
def evSl (e : Ev) (lo hi : EvO) : Ev := fun δ μ => bindG (e δ μ) fun x μ1 => bindG (lo δ μ1) fun l μ2 => bindG (hi δ μ2) fun h μ3 => match lstOf μ3 x with
  | some xs => some (.ok (.p (.lst (cutP xs l h))), μ3)
  | none => none
theorem v_slice {e : Expr} {lo hi : Option Expr} {p2 pos : Pos} {ev : Ev} {el eh : EvO} (hK : X.K = α.K) (he : PE X e (tV α W ev)) (hl : PO X lo (tVo α W el)) (hh : PO X hi (tVo α W eh)) : PE X (.Subscript e (.Slice lo hi none p2) pos) (tV α W (evSl ev el eh)) :=
  PE.imp (pe_slice sl_list he hl hh) fun σ H Q ⟨G, ρ, δ, μ, z, s, p⟩ => ⟨G, ρ, δ, μ, z, s, Post.bind p fun x μ1 v H1 G1 ρ1 u z1 r1 p1 =>
    ⟨G1, ρ1, δ, μ1, z1, s.up u, Post.bind p1 fun l μ2 l' H2 G2 ρ2 u2 z2 r2 p2 => ⟨G2, ρ2, δ, μ2, z2, s.up (u.trans u2), Post.bind p2 fun h μ3 h' H3 G3 ρ3 u3 z3 r3 p3 => by
      cases r2
      cases r3
      split at p3
      · rename_i xs hx
        obtain ⟨a, vs, rfl, h1, h2⟩ := lst_of z3 (r1.up (u2.trans u3)) hx
        refine ⟨a, vs, rfl, ?_, fun q hq => ?_⟩
        · rw [hK]; exact h1
        · refine p3 _ _ _ _ (up_new (z3.free hq)) (z3.new hq _) (.lst upd_same (Reps.mono (same_upd (z3.free hq)) ?_))
          unfold cutV cutP
          rw [h2.length]
          exact (h2.drop _).take _
      · exact p3.elim⟩⟩⟩
/-! ### tuple(list) -/
def fTupOf : FA := fun ds μ => match ds with
  | [d] => match lstOf μ d with
    | some xs => some (.p (.tup xs), μ)
    | none => none
  | _ => none
theorem c_tupOf (hK : X.K = α.K) : CallR X (.type "tuple") (rCV α fTupOf) := CallR.imp call_tuple_of fun vs H Q ⟨G, ρ, μ, ds, z, r, q⟩ => by
  unfold fTupOf at q
  split at q
  · rename_i d
    split at q
    · rename_i xs hx
      obtain ⟨v, rfl, r1⟩ := rds1 r
      obtain ⟨a, ws, rfl, h3, h4⟩ := lst_of z r1 hx
      refine ⟨a, ws, rfl, .inl ⟨by rw [hK]; exact h3, fun l hl => ?_⟩⟩
      exact q _ _ _ _ (up_new (z.free hl)) (z.new hl _) (.tup (SqT.of upd_same) (h4.mono (same_upd (z.free hl))))
    · exact q.elim
  · exact q.elim
/-! ### lcm, of ints of up to 6,000 bits -/
def fLcm : FA := fun ds μ => match ds with
  | [.p (.int i), .p (.int j)] => if i.natAbs < 2 ^ 6000 ∧ j.natAbs < 2 ^ 6000 then some (.p (.int ((Nat.lcm i.natAbs j.natAbs : Nat) : Int)), μ) else none
  | _ => none
theorem log_max {a b : Nat} (h : a < 2 ^ 6000) (h2 : b < 2 ^ 6000) : ¬ (max a b).log2 / 30 + 1 > 450 := by
  have h3 : max a b < 2 ^ 6000 := by rcases Nat.le_total a b with q | q <;> simp [Nat.max_eq_right, Nat.max_eq_left, q, h, h2]
  have h4 := PySem.Flt.log2_lt_of (k := 6000) (by decide) h3
  omega
theorem c_lcm : CallR X (.builtin "math.lcm") (rCV α fLcm) := by
  intro pins s σ H xs us Q I r h
  obtain ⟨G, ρ, μ, ds, z, rd, q⟩ := h
  unfold fLcm at q
  split at q
  · rename_i i j
    split at q
    · rename_i hc
      obtain ⟨a, b, rfl, ra, rb⟩ := rds2 rd
      cases repInt ra
      cases repInt rb
      obtain ⟨t, u, rfl⟩ := Vals.int2 r
      have e1 : Nat.lcm 1 i.natAbs = i.natAbs := Nat.lcm_one_left _
      have hl : Nat.lcm i.natAbs j.natAbs < 2 ^ 12000 := by
        have h1 : Nat.lcm i.natAbs j.natAbs ≤ i.natAbs * j.natAbs := Nat.div_le_self _ _
        have h2 : i.natAbs * j.natAbs < 2 ^ 6000 * 2 ^ 6000 := Nat.mul_lt_mul_of_lt_of_lt hc.1 hc.2
        rw [← Nat.pow_add] at h2
        exact Nat.lt_of_le_of_lt h1 h2
      have hg := PySem.W.mg_run_lcm i t j u (log_max (Nat.lt_of_lt_of_le (by decide : 1 < 2 ^ 1) (Nat.pow_le_pow_right (by decide) (by decide))) hc.1) (log_max hc.1 hc.2) (by
        rw [e1, Int.natAbs_natCast]
        exact Nat.lt_of_lt_of_le (PySem.Flt.log2_lt_of (k := 12000) (by decide) hl) (by decide))
      rw [e1] at hg
      exact call_function_meets PySem.W.MGF.kind_lcm PySem.W.MGF.plain_lcm PySem.W.MGF.entry_lcm (PySem.W.MGF.args_lcm _ _) hg.meets ⟨.int _, H, I.tok _, ⟨_, rfl⟩, q _ H G ρ Up.refl z (.int _)⟩
    · exact q.elim
  · exact q.elim
end
end Vs
/-! Still more words: x = y = z = e; a, b, c = x, y, z; names from a list; isinstance of a list that may change; tests of comprehensions. -/
namespace Vs
open PySem PySem.Spec PyProof.Rows L2
section
variable {α : Amb} {W : WX} {X : Cx}
def sAsg3 (i j k : Nat) (e : Ev) : SEv := fun δ μ => bindS (e δ μ) δ fun d μ1 => some (.nx, ((δ.set i (some d)).set j (some d)).set k (some d), μ1)
theorem v_asg3 {i j k : Nat} {x y w : Str} {e : Expr} {ev : Ev} {p1 p2 p3 pos : Pos} (hN : X.N.Nodup) (he : PE X e (tV α W ev)) (hi : X.N[i]? = some x := by rfl) (hj : X.N[j]? = some y := by rfl) (hk : X.N[k]? = some w := by rfl)
    (hx : Loc X.env.scope x := by first | exact Or.inl rfl | exact Or.inr rfl) (hy : Loc X.env.scope y := by first | exact Or.inl rfl | exact Or.inr rfl) (hw : Loc X.env.scope w := by first | exact Or.inl rfl | exact Or.inr rfl)
    (fx : X.fn x = true ∨ X.env.scope.names.lookup x = some .local := by first | exact .inl rfl | exact .inr rfl) (fy : X.fn y = true ∨ X.env.scope.names.lookup y = some .local := by first | exact .inl rfl | exact .inr rfl) (fw : X.fn w = true ∨ X.env.scope.names.lookup w = some .local := by first | exact .inl rfl | exact .inr rfl)
    (ha : (assignEach [.Name x p1, .Name y p2, .Name w p3] X.env).map (·.2) = [assign (.Name x p1) X.env, assign (.Name y p2) X.env, assign (.Name w p3) X.env] := by rfl) (hs : swappedStores [.Name x p1, .Name y p2, .Name w p3] e X.env = pure none := by rfl) :
    PS X (.Assign [.Name x p1, .Name y p2, .Name w p3] e pos) (tS α W (sAsg3 i j k ev)) :=
  PS.imp (ps_asg3 he (pg_name hN hi hx fx) (pg_name hN hj hy fy) (pg_name hN hk hw fw) ha hs) fun Dn σ H ⟨G, ρ, δ, μ, z, s, p⟩ => ⟨G, ρ, δ, μ, z, s, SPost.bind p s fun d μ1 v H1 G1 ρ1 u z1 r1 p1 => p1 _ H1 G1 ρ1 Up.refl z1 ((((s.up u).set r1 i).set r1 j).set r1 k)⟩
def sPar3 (i j l : Nat) (e : EvA) : SEv := fun δ μ => bindS (e δ μ) δ fun ds μ1 => match ds with
  | [x, y, w] => some (.nx, ((δ.set i (some x)).set j (some y)).set l (some w), μ1)
  | _ => none
theorem rds3 {G : Hp} {ρ : List Addr} {vs : List V} {d e f : D} (r : RepDs α G ρ vs [d, e, f]) : ∃ u v w, vs = [u, v, w] ∧ RepD α G ρ u d ∧ RepD α G ρ v e ∧ RepD α G ρ w f := by
  cases r with
  | cons r t => obtain ⟨v, w, rfl, r2, r3⟩ := rds2 t; exact ⟨_, v, w, rfl, r, r2, r3⟩
theorem v_par3 {i j l : Nat} {x y w : Str} {a b c : Expr} {ea : EvA} {px py pz pt pos : Pos} {kt k2 pt2} (hc : X.calm = true) (hN : X.N.Nodup) (ha : PA X [a, b, c] (tVs α W ea)) (hi : X.N[i]? = some x := by rfl) (hj : X.N[j]? = some y := by rfl) (hl : X.N[l]? = some w := by rfl)
    (hij : i ≠ j := by decide) (hil : i ≠ l := by decide) (hjl : j ≠ l := by decide)
    (hx : X.env.scope.names.lookup x = some .local := by rfl) (hy : X.env.scope.names.lookup y = some .local := by rfl) (hz : X.env.scope.names.lookup w = some .local := by rfl)
    (hw : swappedStores [.Tuple [.Name x px, .Name y py, .Name w pz] kt pt] (.Tuple [a, b, c] k2 pt2) X.env = pure (some [x, y, w]) := by rfl)
    (hs : swapsWithSole [.Tuple [.Name x px, .Name y py, .Name w pz] kt pt] (.Tuple [a, b, c] k2 pt2) pos.line X.env = pure false := by rfl) :
    PS X (.Assign [.Tuple [.Name x px, .Name y py, .Name w pz] kt pt] (.Tuple [a, b, c] k2 pt2) pos) (tS α W (sPar3 i j l ea)) :=
  PS.imp (ps_par3 hc hN hi hj hl hij hil hjl hx hy hz ha hw hs) fun Dn σ H ⟨G, ρ, δ, μ, z, s, p⟩ => ⟨G, ρ, δ, μ, z, s, SPost.bind p s fun ds μ1 vs H1 G1 ρ1 u z1 r1 p1 => by
    split at p1
    · rename_i d1 d2 d3
      obtain ⟨v1, v2, v3, rfl, q1, q2, q3⟩ := rds3 r1
      exact ⟨v1, v2, v3, rfl, p1 _ H1 G1 ρ1 Up.refl z1 ((((s.up u).set q1 i).set q2 j).set q3 l)⟩
    · exact p1.elim⟩
/-- names from a list -/
def tgL (is : List Nat) : Tgt := fun x δ => match x with
  | .lst xs => setAll is xs δ
  | _ => none
theorem vg_lst {es : List Expr} {is : List Nat} {k : Nat} {pos : Pos} (hK : X.K = α.K) (hc : X.calm = true) (h : VGs α X es is) (hn : (assignEach es X.env).length = is.length := by rfl) (hst : (assignEach es X.env).findIdx? (·.1) = none := by rfl) : VG α X (.Tuple es k pos) (tgL is) := by
  obtain ⟨g, pg, hg⟩ := h
  refine ⟨gLst X.K is.length g, pg_lst hc pg hn hst, fun G ρ H μ σ δ v x δ' Q z s r e k => ?_⟩
  cases r <;> try (cases e; done)
  rename_i a vs xs hT hr
  have e : setAll is xs δ = some δ' := e
  exact ⟨a, vs, rfl, by rw [hK]; exact SqL.of (z.sub _ _ hT), by rw [hr.length]; exact setAll_len e, hg G ρ H μ _ _ _ _ _ Q z s hr e k⟩
/-! ### isinstance, also of a list that may change -/
def evIsiV (t : P → Option Bool) (a : Ev) : Ev := fun δ μ => bindG (a δ μ) fun d μ1 => match view μ1 d with
  | some x => match t x with
    | some b => some (.ok (.p (.bl b)), μ1)
    | none => none
  | none => none
theorem tyx_view {H G : Hp} {ρ : List Addr} {μ : Mu} {v : V} {d : D} {x : P} (z : Zn α H G ρ μ) (r : RepD α G ρ v d) (e : view μ d = some x) (O : ∀ c xs, x = .obj c xs → InsOwn α.K (α.cl c)) : TyX α.K H v (tyP α x) := by
  cases d with
  | p y => cases e; exact tyx_of z r O
  | loc l =>
    obtain ⟨xs, rfl, hx⟩ := view_loc e
    obtain ⟨a, rfl, ha⟩ := r
    obtain ⟨a', h1, h2, vs, h3, h4⟩ := z.cell l _ hx
    rw [ha] at h1; cases h1
    exact .base (.lst h3)
theorem v_isiV {t : P → Option Bool} {e ce : Expr} {ev : Ev} {cv : V} {cu : Value} {p pos : Pos} (hK : X.K = α.K) (hm : X.mg "isinstance" = none) (hv : bootBuiltins "isinstance" = some (.builtin "isinstance")) (ha : PE X e (tV α W ev)) (hc : PE X ce (tC cv)) (hcv : ClsV cv cu)
    (ht : ∀ x b, t x = some b → PySem.W.kitOne α.K (tyP α x) cu = some b ∧ ∀ c xs, x = .obj c xs → InsOwn α.K (α.cl c)) (hg : Gl X "isinstance" := by rfl)
    (hs : starEach [e, ce] X.env = (false, eval e X.env) :: starEach [ce] X.env := by rfl) (hs2 : starEach [ce] X.env = (false, eval ce X.env) :: starEach [] X.env := by rfl) (hpl : (backTo pos (starEach [ce] X.env)).any (·.1) = false := by rfl) :
    PE X (.Call (.Name "isinstance" p) [e, ce] [] pos) (tV α W (evIsiV t ev)) :=
  PE.imp (pe_callB call_isi hg hm hv (pa_cons ha (pa_cons hc pa_nil hs2) hs) (by decide) (by decide) hs hpl) fun σ H Q ⟨G, ρ, δ, μ, z, s, p⟩ => ⟨G, ρ, δ, μ, z, s, Post.bind p fun d μ1 v H1 G1 ρ1 u z1 r1 p1 => by
    cases q0 : view μ1 d with
    | none => rw [q0] at p1; exact p1.elim
    | some x =>
      cases q : t x with
      | none => rw [q0] at p1; dsimp only at p1; rw [q] at p1; exact p1.elim
      | some b =>
        rw [q0] at p1
        dsimp only at p1
        rw [q] at p1
        obtain ⟨h1, h2⟩ := ht x b q
        exact ⟨v, cv, tyP α x, cu, b, rfl, hcv, by rw [hK]; exact tyx_view z1 r1 q0 h2, by rw [hK]; exact h1, p1 _ H1 G1 ρ1 Up.refl z1 (.bl _)⟩⟩
/-! ### tests of comprehensions -/
theorem PTs.imp {ifs : List Expr} {t t' : TT} (h : PTs X ifs t) (i : ∀ σ H Q, t' σ H Q → t σ H Q) : PTs X ifs t' := ⟨fun pins s σ H Q I q => h.run pins s σ H Q I (i _ _ _ q)⟩
theorem vpts_nil : PTs X [] (tVt α W evTrue) := PTs.imp pts_nil fun σ H Q ⟨G, ρ, δ, μ, z, s, p⟩ => p true H G ρ Up.refl z rfl
theorem vpts_one {c : Expr} {ec : EvT} (h : PT X c (tVt α W ec)) : PTs X [c] (tVt α W ec) := pts_one h
end
/-! ### evaluation -/
section
variable {δ δ' : Sl} {μ μ' : Mu} {e : Ev} {args : EvA}
@[simp] theorem sAsg3_eq {i j k : Nat} : sAsg3 i j k e δ μ = bindS (e δ μ) δ fun d μ1 => some (.nx, ((δ.set i (some d)).set j (some d)).set k (some d), μ1) := rfl
def par3End (i j l : Nat) (δ : Sl) (μ : Mu) : List D → Option (Fl × Sl × Mu)
  | [x, y, w] => some (.nx, ((δ.set i (some x)).set j (some y)).set l (some w), μ)
  | _ => none
@[simp] theorem sPar3_eq {i j l : Nat} : sPar3 i j l args δ μ = bindS (args δ μ) δ fun ds μ1 => par3End i j l δ μ1 ds := rfl
@[simp] theorem par3End_3 {i j l : Nat} {x y w : D} : par3End i j l δ μ [x, y, w] = some (.nx, ((δ.set i (some x)).set j (some y)).set l (some w), μ) := rfl
def isiVEnd (t : P → Option Bool) (μ : Mu) : Option P → Option (Out D × Mu)
  | some x => match t x with
    | some b => some (.ok (.p (.bl b)), μ)
    | none => none
  | none => none
@[simp] theorem evIsiV_eq {t : P → Option Bool} : evIsiV t e δ μ = bindG (e δ μ) fun d μ1 => isiVEnd t μ1 (view μ1 d) := rfl
theorem isiVEnd_some {t : P → Option Bool} {x : P} {b : Bool} (h : t x = some b) : isiVEnd t μ (some x) = some (.ok (.p (.bl b)), μ) := by
  unfold isiVEnd; dsimp only; rw [h]
@[simp] theorem evTrue_eq : evTrue δ μ = some (.ok true, μ) := rfl
@[simp] theorem evLc_eq {it : EvG (List P)} {ts : Tgt} {t : EvT} {vs : List Nat} : evLc it ts t e vs δ μ = bindG (it δ μ) fun xs μ1 => lcEnd μ1.length (lcL ts t e (wipeS δ vs) μ1.length xs (μ1 ++ [some (.lst [])])) := rfl
@[simp] theorem tgN_eq {i : Nat} {x : P} : tgN i x δ = some (δ.set i (some (.p x))) := rfl
@[simp] theorem tgT_eq {is : List Nat} {xs : List P} : tgT is (.tup xs) δ = setAll is xs δ := rfl
@[simp] theorem tgL_eq {is : List Nat} {xs : List P} : tgL is (.lst xs) δ = setAll is xs δ := rfl
@[simp] theorem setAll_nil : setAll [] [] δ = some δ := rfl
@[simp] theorem setAll_cons {i : Nat} {is : List Nat} {x : P} {xs : List P} : setAll (i :: is) (x :: xs) δ = setAll is xs (δ.set i (some (.p x))) := rfl
@[simp] theorem wipeS_nil : wipeS δ [] = δ := rfl
@[simp] theorem wipeS_cons {v : Nat} {vs : List Nat} : wipeS δ (v :: vs) = (wipeS δ vs).set v none := rfl
theorem cellL_end {n : Nat} {xs : List P} (hn : n = μ.length) : cellL (μ ++ [some (.lst xs)]) n = some xs := by subst hn; unfold cellL; simp
theorem set_end {n : Nat} {o o' : Option MO} (hn : n = μ.length) : (μ ++ [o]).set n o' = μ ++ [o'] := by subst hn; rw [List.set_append_right _ _ (Nat.le_refl _)]; simp
/-- a comprehension whose items change nothing -/
theorem lcL_pure {ts : Tgt} {e : Ev} {δ0 : Sl} (f : P → P) : ∀ (xs acc : List P), (∀ x ∈ xs, ∃ δ1, ts x δ0 = some δ1 ∧ ∀ ν, e δ1 ν = some (.ok (.p (f x)), ν)) → acc.length + xs.length ≤ sizeLine →
    lcL ts evTrue e δ0 μ.length xs (μ ++ [some (.lst acc)]) = some (μ ++ [some (.lst (acc ++ xs.map f))])
  | [], acc, h, hl => by simp [lcL]
  | x :: xs, acc, h, hl => by
    obtain ⟨δ1, h1, h2⟩ := h x List.mem_cons_self
    have hl' : acc.length < sizeLine := by simp at hl; omega
    have ih := lcL_pure (e := e) f xs (acc ++ [f x]) (fun y hy => h y (List.mem_cons_of_mem _ hy)) (by simp at hl ⊢; omega)
    unfold lcL
    rw [h1]
    dsimp only
    rw [evTrue_eq]
    dsimp only
    rw [h2]
    dsimp only
    rw [toP_p]
    dsimp only
    rw [cellL_end rfl]
    dsimp only
    rw [if_pos hl', set_end rfl, ih, List.append_assoc]
    rfl
theorem lc_pure {it : EvG (List P)} {ts : Tgt} {vs : List Nat} {xs : List P} (f : P → P) (hi : it δ μ = some (.ok xs, μ)) (h : ∀ x ∈ xs, ∃ δ1, ts x (wipeS δ vs) = some δ1 ∧ ∀ ν, e δ1 ν = some (.ok (.p (f x)), ν)) (hl : xs.length ≤ sizeLine) :
    evLc it ts evTrue e vs δ μ = some (.ok (.p (.lst (xs.map f))), μ) := by
  rw [evLc_eq, hi, bindG_ok, lcL_pure f xs [] h (by simpa using hl)]
  unfold lcEnd
  dsimp only
  rw [cellL_end rfl]
  dsimp only
  rw [List.take_left, List.nil_append]
end
end Vs
/-! Fractions as the core's Rat. -/
namespace Vs
open PySem PySem.Spec PyProof.Rows L2
/-- an object of the class Ratio; a pair of the law -/
def rat (q : Rat) : P := .obj 0 [.int q.num, .int (q.den : Int)]
def pr (q : Rat) : P := .tup [.int q.num, .int (q.den : Int)]
/-- the lowest terms of n / d, as they are worked out -/
def qn (n d : Int) : Int × Int := if d < 0 then (n.fdiv (-(Nat.gcd n.natAbs d.natAbs : Int)), d.fdiv (-(Nat.gcd n.natAbs d.natAbs : Int))) else (n.fdiv (Nat.gcd n.natAbs d.natAbs : Int), d.fdiv (Nat.gcd n.natAbs d.natAbs : Int))
theorem gcd_ne {n d : Int} (h : d ≠ 0) : (Nat.gcd n.natAbs d.natAbs : Int) ≠ 0 := by
  have : 0 < Nat.gcd n.natAbs d.natAbs := Nat.gcd_pos_of_pos_right _ (Int.natAbs_pos.mpr h)
  omega
theorem fdiv_exact {a g k : Int} (hg : g ≠ 0) (h : a = g * k) : a.fdiv g = k := by
  subst h
  rw [Int.mul_comm]
  exact Int.mul_fdiv_cancel k hg
theorem qn_eq {n d : Int} (h : d ≠ 0) : qn n d = ((Rat.divInt n d).num, ((Rat.divInt n d).den : Int)) := by
  have g0 := gcd_ne (n := n) h
  obtain ⟨a, ha⟩ : (Nat.gcd n.natAbs d.natAbs : Int) ∣ n := Int.ofNat_dvd_left.mpr (Nat.gcd_dvd_left _ _)
  obtain ⟨b, hb⟩ : (Nat.gcd n.natAbs d.natAbs : Int) ∣ d := Int.ofNat_dvd_left.mpr (Nat.gcd_dvd_right _ _)
  have gg : d.gcd n = Nat.gcd n.natAbs d.natAbs := by
    show Nat.gcd d.natAbs n.natAbs = _
    exact Nat.gcd_comm _ _
  have gpos : (0 : Int) < (Nat.gcd n.natAbs d.natAbs : Int) := by omega
  generalize hg : (Nat.gcd n.natAbs d.natAbs : Int) = g at *
  have den : ((Rat.divInt n d).den : Int) = d.natAbs / g := by
    rw [Rat.den_divInt, if_neg h, gg, Int.natCast_ediv, hg]
  rw [Prod.ext_iff]
  unfold qn
  rw [hg]
  by_cases hd : d < 0
  · rw [if_pos hd]
    refine ⟨?_, ?_⟩
    · show n.fdiv (-g) = (Rat.divInt n d).num
      rw [fdiv_exact (g := -g) (k := -a) (by omega) (by rw [Int.neg_mul_neg]; exact ha), Rat.num_divInt, gg, hg, Int.sign_eq_neg_one_of_neg hd]
      have e : (-1 : Int) * n = g * (-a) := by rw [Int.mul_neg, ← ha]; omega
      rw [e, Int.mul_ediv_cancel_left _ g0]
    · show d.fdiv (-g) = ((Rat.divInt n d).den : Int)
      rw [fdiv_exact (g := -g) (k := -b) (by omega) (by rw [Int.neg_mul_neg]; exact hb), den]
      have e : (d.natAbs : Int) = g * (-b) := by rw [Int.mul_neg, ← hb]; omega
      rw [e, Int.mul_ediv_cancel_left _ g0]
  · rw [if_neg hd]
    refine ⟨?_, ?_⟩
    · show n.fdiv g = (Rat.divInt n d).num
      rw [fdiv_exact g0 ha, Rat.num_divInt, gg, hg, Int.sign_eq_one_of_pos (by omega)]
      have e : (1 : Int) * n = g * a := by rw [← ha]; omega
      rw [e, Int.mul_ediv_cancel_left _ g0]
    · show d.fdiv g = ((Rat.divInt n d).den : Int)
      rw [fdiv_exact g0 hb, den]
      have e : (d.natAbs : Int) = g * b := by rw [← hb]; omega
      rw [e, Int.mul_ediv_cancel_left _ g0]
/-! ### sizes -/
/-- less than 2 ^ k -/
def Sz (k : Nat) (n : Int) : Prop := n.natAbs < 2 ^ k
theorem Sz.mono {j k : Nat} {n : Int} (h : Sz j n) (e : j ≤ k) : Sz k n := Nat.lt_of_lt_of_le h (Nat.pow_le_pow_right (by decide) e)
theorem Sz.mul {j k : Nat} {a b : Int} (h : Sz j a) (h2 : Sz k b) : Sz (j + k) (a * b) := by
  unfold Sz at *
  rw [Int.natAbs_mul, Nat.pow_add]
  exact Nat.mul_lt_mul'' h h2
theorem Sz.add {j k : Nat} {a b : Int} (h : Sz j a) (h2 : Sz k b) : Sz (max j k + 1) (a + b) := by
  have h := h.mono (Nat.le_max_left j k)
  have h2 := h2.mono (Nat.le_max_right j k)
  unfold Sz at *
  rw [Nat.pow_succ]
  omega
theorem Sz.sub {j k : Nat} {a b : Int} (h : Sz j a) (h2 : Sz k b) : Sz (max j k + 1) (a - b) := by
  have h := h.mono (Nat.le_max_left j k)
  have h2 := h2.mono (Nat.le_max_right j k)
  unfold Sz at *
  rw [Nat.pow_succ]
  omega
theorem Sz.neg {j : Nat} {a : Int} (h : Sz j a) : Sz j (-a) := by unfold Sz at *; omega
theorem Sz.log {k : Nat} {n : Int} (h : Sz k n) (hk : 0 < k) : n.natAbs.log2 < k := PySem.Flt.log2_lt_of hk h
theorem mulOk_of {j k : Nat} {a b : Int} (h : Sz j a) (h2 : Sz k b) (hj : 0 < j) (hk : 0 < k) (e : j + k ≤ 1000000) : mulOk a b = true := by
  have := h.log hj
  have := h2.log hk
  exact decide_eq_true (by omega)
theorem divOk_of {i j : Int} (h : j ≠ 0) (h2 : j.natAbs.log2 < 9000) : divOk i j = true := by
  unfold divOk
  rw [Bool.and_eq_true]
  exact ⟨decide_eq_true h, decide_eq_true h2⟩
theorem gcd_sz {k : Nat} {n d : Int} (h : Sz k d) (h0 : d ≠ 0) : Nat.gcd n.natAbs d.natAbs < 2 ^ k :=
  Nat.lt_of_le_of_lt (Nat.le_of_dvd (Int.natAbs_pos.mpr h0) (Nat.gcd_dvd_right _ _)) h
theorem num_sz {k : Nat} {n d : Int} (h : Sz k n) : Sz k (Rat.divInt n d).num := by
  unfold Sz at *
  rw [Rat.num_divInt]
  refine Nat.lt_of_le_of_lt ?_ h
  refine Nat.le_trans (Int.natAbs_ediv_le_natAbs _ _) ?_
  rw [Int.natAbs_mul]
  have : d.sign.natAbs ≤ 1 := by
    rcases Int.lt_trichotomy d 0 with h | h | h
    · rw [Int.sign_eq_neg_one_of_neg h]; decide
    · subst h; decide
    · rw [Int.sign_eq_one_of_pos h]; decide
  calc d.sign.natAbs * n.natAbs ≤ 1 * n.natAbs := Nat.mul_le_mul_right _ this
    _ = n.natAbs := Nat.one_mul _
theorem den_sz {k : Nat} {n d : Int} (h : Sz k d) (h0 : d ≠ 0) : Sz k ((Rat.divInt n d).den : Int) := by
  unfold Sz at *
  rw [Rat.den_divInt, if_neg h0]
  refine Nat.lt_of_le_of_lt ?_ h
  exact Nat.div_le_self _ _
/-! ### Euclid's loop -/
def eu : Nat → Nat → Nat → Nat
  | 0, a, _ => a
  | k + 1, a, b => if b = 0 then a else eu k b (a % b)
theorem eu_gcd : ∀ (m k a b : Nat), b < 2 ^ m → 2 * m ≤ k → eu k a b = Nat.gcd a b
  | 0, k, a, b, h, _ => by
    have hb : b = 0 := by simpa using h
    subst hb
    cases k with
    | zero => simp [eu]
    | succ k => simp [eu]
  | m + 1, k, a, b, h, hk => by
    obtain ⟨k, rfl⟩ : ∃ j, k = j + 2 := ⟨k - 2, by omega⟩
    by_cases hb : b = 0
    · subst hb; simp [eu]
    · have e1 : eu (k + 2) a b = eu (k + 1) b (a % b) := by simp [eu, hb]
      rw [e1]
      by_cases hr : a % b = 0
      · have e2 : eu (k + 1) b (a % b) = b := by simp [eu, hr]
        rw [e2, Nat.gcd_comm, Nat.gcd_rec, hr]; simp
      · have e2 : eu (k + 1) b (a % b) = eu k (a % b) (b % (a % b)) := by simp [eu, hr]
        rw [e2]
        have h1 : a % b < b := Nat.mod_lt _ (by omega)
        have h2 : b % (a % b) < a % b := Nat.mod_lt _ (by omega)
        have h3 : b % (a % b) + (a % b) ≤ b := by
          have := Nat.mod_add_div b (a % b)
          have hq : 1 ≤ b / (a % b) := (Nat.le_div_iff_mul_le (by omega)).mpr (by omega)
          have : a % b * 1 ≤ a % b * (b / (a % b)) := Nat.mul_le_mul_left _ hq
          omega
        rw [eu_gcd m k _ _ (by rw [Nat.pow_succ] at h; omega) (by omega)]
        rw [Nat.gcd_comm (a % b) (b % (a % b)), ← Nat.gcd_rec (a % b) b, ← Nat.gcd_rec b a, Nat.gcd_comm b a]
end Vs
namespace Vs
open PySem PySem.Spec PyProof.Rows L2
/-- the classes by number: 0 Ratio, 1 ByZero -/
def amb (K : PySem.W.Frag) (cs : List Addr) : Amb := ⟨K, fun i => cs.getD i 0, fun i => if i = 0 then ["top", "bottom"] else []⟩
structure Tx (K : PySem.W.Frag) (mg : Str → Option Value) (cs : List Addr) : Prop where
  own0 : Own (amb K cs) 0
  c0 : mg "Ratio" = some (.ref ((amb K cs).cl 0))
  sf0 : PySem.W.selfFirst K ((amb K cs).cl 0) = true
  nf0 : ∀ T ∈ eqTys, PySem.W.notFirst K ((amb K cs).cl 0) (.type T) = true
  ne0 : NeOwn K ((amb K cs).cl 0)
  isi0 : IsiO K (amb K cs) 0
  isib_bool : ∀ c, c < 1 → PySem.W.kitOne K (.ref ((amb K cs).cl c)) (.type "bool") = some false ∧ InsOwn K ((amb K cs).cl c)
  isib_list : ∀ c, c < 1 → PySem.W.kitOne K (.ref ((amb K cs).cl c)) (.type "list") = some false ∧ InsOwn K ((amb K cs).cl c)
  isib_tuple : ∀ c, c < 1 → PySem.W.kitOne K (.ref ((amb K cs).cl c)) (.type "tuple") = some false ∧ InsOwn K ((amb K cs).cl c)
  isib_int : ∀ c, c < 1 → PySem.W.kitOne K (.ref ((amb K cs).cl c)) (.type "int") = some false ∧ InsOwn K ((amb K cs).cl c)
  x1 : PySem.W.excIn K ((amb K cs).cl 1) [.type "ValueError", .type "Exception", .type "BaseException", .type "object"] "ValueError.__new__" = true
  g1 : mg "ByZero" = some (.ref ((amb K cs).cl 1))
  k1 : PySem.W.keepIn K (.ref ((amb K cs).cl 1)) = true
  p1 : PySem.W.subIn K (.ref ((amb K cs).cl 1)) (.type "BaseException") = some true
  t1 : PySem.W.typeIn K (.ref ((amb K cs).cl 1)) = some (.type "type")
  b_gcd : mg "gcd" = some (.builtin "math.gcd")
  b_abs : mg "abs" = none
  b_len : mg "len" = none
  b_int : mg "int" = none
  b_list : mg "list" = none
  b_tuple : mg "tuple" = none
  b_bool : mg "bool" = none
  b_isinstance : mg "isinstance" = none
  b_range : mg "range" = none
/-! ### Ratio.__init__ -/
/-! ### Ratio.__init__ -/
noncomputable def sv_Ratiou_initu : SEv := (seqS (sIf (evB (evBin fEq (evV 2) (evC (.int 0)))) (sRaise 1) sNil) (seqS (sSet 3 (evBI fGcd (evCons (evV 1) (evCons (evV 2) evNil)))) (seqS (sIf (evB (evBin fLt (evV 2) (evC (.int 0)))) (sSet 3 (evUn fNeg (evV 3))) sNil) (seqS (sFldS 0 0 (evV 0) (evBin fDiv (evV 1) (evV 3))) (sFldS 0 1 (evV 0) (evBin fDiv (evV 2) (evV 3)))))))
noncomputable def m_Ratiou_initu : FSem := arF 3 (bodySem 4 sv_Ratiou_initu)
theorem ar_Ratiou_initu : Arity m_Ratiou_initu 3 := arF_ar
theorem le_Ratiou_initu : ∀ ds μ r, m_Ratiou_initu ds μ = some r → bodySem 4 sv_Ratiou_initu ds μ = some r := arF_le
/-! ### Ratio.__add__ -/
/-! ### Ratio.__add__ -/
noncomputable def sv_Ratiou_addu : SEv := (sRet (evMake 0 2 m_Ratiou_initu [] (evCons (evBin fAdd (evBin fMul (evUn (fFld 0 0) (evV 0)) (evUn (fFld 0 1) (evV 1))) (evBin fMul (evUn (fFld 0 0) (evV 1)) (evUn (fFld 0 1) (evV 0)))) (evCons (evBin fMul (evUn (fFld 0 1) (evV 0)) (evUn (fFld 0 1) (evV 1))) evNil))))
noncomputable def m_Ratiou_addu : FSem := arF 2 (bodySem 2 sv_Ratiou_addu)
theorem ar_Ratiou_addu : Arity m_Ratiou_addu 2 := arF_ar
theorem le_Ratiou_addu : ∀ ds μ r, m_Ratiou_addu ds μ = some r → bodySem 2 sv_Ratiou_addu ds μ = some r := arF_le
/-! ### Ratio.__sub__ -/
/-! ### Ratio.__sub__ -/
noncomputable def sv_Ratiou_subu : SEv := (sRet (evMake 0 2 m_Ratiou_initu [] (evCons (evBin fSub (evBin fMul (evUn (fFld 0 0) (evV 0)) (evUn (fFld 0 1) (evV 1))) (evBin fMul (evUn (fFld 0 0) (evV 1)) (evUn (fFld 0 1) (evV 0)))) (evCons (evBin fMul (evUn (fFld 0 1) (evV 0)) (evUn (fFld 0 1) (evV 1))) evNil))))
noncomputable def m_Ratiou_subu : FSem := arF 2 (bodySem 2 sv_Ratiou_subu)
theorem ar_Ratiou_subu : Arity m_Ratiou_subu 2 := arF_ar
theorem le_Ratiou_subu : ∀ ds μ r, m_Ratiou_subu ds μ = some r → bodySem 2 sv_Ratiou_subu ds μ = some r := arF_le
/-! ### Ratio.__mul__ -/
/-! ### Ratio.__mul__ -/
noncomputable def sv_Ratiou_mulu : SEv := (sRet (evMake 0 2 m_Ratiou_initu [] (evCons (evBin fMul (evUn (fFld 0 0) (evV 0)) (evUn (fFld 0 0) (evV 1))) (evCons (evBin fMul (evUn (fFld 0 1) (evV 0)) (evUn (fFld 0 1) (evV 1))) evNil))))
noncomputable def m_Ratiou_mulu : FSem := arF 2 (bodySem 2 sv_Ratiou_mulu)
theorem ar_Ratiou_mulu : Arity m_Ratiou_mulu 2 := arF_ar
theorem le_Ratiou_mulu : ∀ ds μ r, m_Ratiou_mulu ds μ = some r → bodySem 2 sv_Ratiou_mulu ds μ = some r := arF_le
/-! ### Ratio.__neg__ -/
/-! ### Ratio.__neg__ -/
noncomputable def sv_Ratiou_negu : SEv := (sRet (evMake 0 2 m_Ratiou_initu [] (evCons (evUn fNeg (evUn (fFld 0 0) (evV 0))) (evCons (evUn (fFld 0 1) (evV 0)) evNil))))
noncomputable def m_Ratiou_negu : FSem := arF 1 (bodySem 1 sv_Ratiou_negu)
theorem ar_Ratiou_negu : Arity m_Ratiou_negu 1 := arF_ar
theorem le_Ratiou_negu : ∀ ds μ r, m_Ratiou_negu ds μ = some r → bodySem 1 sv_Ratiou_negu ds μ = some r := arF_le
/-! ### Ratio.__eq__ -/
/-! ### Ratio.__eq__ -/
noncomputable def sv_Ratiou_equ : SEv := (sRet (evAnd (evIsiV (isiO 0) (evV 1)) (evAnd (evBin fEq (evUn (fFld 0 0) (evV 0)) (evUn (fFld 0 0) (evV 1))) (evBin fEq (evUn (fFld 0 1) (evV 0)) (evUn (fFld 0 1) (evV 1))))))
noncomputable def m_Ratiou_equ : FSem := arF 2 (bodySem 2 sv_Ratiou_equ)
theorem ar_Ratiou_equ : Arity m_Ratiou_equ 2 := arF_ar
theorem le_Ratiou_equ : ∀ ds μ r, m_Ratiou_equ ds μ = some r → bodySem 2 sv_Ratiou_equ ds μ = some r := arF_le
/-! ### _law_stream -/
noncomputable abbrev lb__law_stream_0 : SEv := (sSet 1 (evBin fMod (evBI fInt (evCons (evBin fAdd (evBin fAdd (evBin fMul (evV 1) (evC (.int 48271))) (evBin fMod (evBI fInt (evCons (evV 2) evNil)) (evC (.int 65521)))) (evC (.int 1))) evNil)) (evC (.int 2147483647))))
/-! ### _law_stream -/
noncomputable def sv__law_stream : SEv := (seqS (sSet 1 (evC (.int 17))) (seqS (sFor (evIt (evV 0)) (tgN 2) (sSet 1 (evBin fMod (evBI fInt (evCons (evBin fAdd (evBin fAdd (evBin fMul (evV 1) (evC (.int 48271))) (evBin fMod (evBI fInt (evCons (evV 2) evNil)) (evC (.int 65521)))) (evC (.int 1))) evNil)) (evC (.int 2147483647))))) (sRet (evLstC (evCons (evBI fList (evCons (evV 0) evNil)) (evCons (evC (.int 0)) (evCons (evC (.int 0)) (evCons (evV 1) evNil))))))))
noncomputable def m__law_stream : FSem := arF 1 (bodySemC 3 sv__law_stream)
theorem ar__law_stream : Arity m__law_stream 1 := arF_ar
theorem le__law_stream : ∀ ds μ r, m__law_stream ds μ = some r → bodySemC 3 sv__law_stream ds μ = some r := arF_le
/-! ### _law_size -/
/-! ### _law_size -/
noncomputable def sv__law_size : SEv := (sRet (evTup (evCons (evBI fAbs (evCons (evBin fIx (evV 0) (evC (.int 0))) evNil)) (evCons (evBin fIx (evV 0) (evC (.int 1))) evNil))))
noncomputable def m__law_size : FSem := arF 1 (bodySem 1 sv__law_size)
theorem ar__law_size : Arity m__law_size 1 := arF_ar
theorem le__law_size : ∀ ds μ r, m__law_size ds μ = some r → bodySem 1 sv__law_size ds μ = some r := arF_le
/-! ### _law_pair -/
noncomputable abbrev lb__law_pair_0 : SEv := (sPar 2 3 (evCons (evV 3) (evCons (evBin fMod (evBI fInt (evCons (evV 2) evNil)) (evBI fInt (evCons (evV 3) evNil))) evNil)))
/-! ### _law_pair -/
noncomputable def sv__law_pair : SEv := (seqS (sSet 2 (evBI fAbs (evCons (evV 0) evNil))) (seqS (sSet 3 (evBI fAbs (evCons (evV 1) evNil))) (seqS (sWhile 20000 (evB (evBin fGt (evV 3) (evC (.int 0)))) (sPar 2 3 (evCons (evV 3) (evCons (evBin fMod (evBI fInt (evCons (evV 2) evNil)) (evBI fInt (evCons (evV 3) evNil))) evNil)))) (seqS (sIf (evB (evBin fLt (evV 1) (evC (.int 0)))) (sSet 2 (evBin fSub (evC (.int 0)) (evV 2))) sNil) (sRet (evTup (evCons (evBin fDiv (evV 0) (evV 2)) (evCons (evBin fDiv (evV 1) (evV 2)) evNil))))))))
noncomputable def m__law_pair : FSem := arF 2 (bodySem 4 sv__law_pair)
theorem ar__law_pair : Arity m__law_pair 2 := arF_ar
theorem le__law_pair : ∀ ds μ r, m__law_pair ds μ = some r → bodySem 4 sv__law_pair ds μ = some r := arF_le
/-! ### _law_draw -/
/-! ### _law_draw -/
noncomputable def sv__law_draw : SEv := (seqS (sIf (tAndV' (evB (evBin fEq (evBin fIx (evV 0) (evC (.int 1))) (evC (.int 0)))) (evB (evBin fLt (evBin fIx (evV 0) (evC (.int 2))) (evBI fLen (evCons (evBin fIx (evV 0) (evC (.int 0))) evNil))))) (seqS (sSetIx (evV 0) (evC (.int 1)) (evBI fAbs (evCons (evBI fInt (evCons (evBin fIx (evBin fIx (evV 0) (evC (.int 0))) (evBin fIx (evV 0) (evC (.int 2)))) evNil)) evNil))) (sSetIx (evV 0) (evC (.int 2)) (evBin fAdd (evBin fIx (evV 0) (evC (.int 2))) (evC (.int 1))))) sNil) (seqS (sIf (evB (evBin fEq (evBin fIx (evV 0) (evC (.int 1))) (evC (.int 0)))) (seqS (sSetIx (evV 0) (evC (.int 3)) (evBin fMod (evBI fInt (evCons (evBin fAdd (evBin fMul (evBin fIx (evV 0) (evC (.int 3))) (evC (.int 48271))) (evC (.int 11))) evNil)) (evC (.int 2147483647)))) (sRet (evBin fMod (evBI fInt (evCons (evBin fDiv (evBin fIx (evV 0) (evC (.int 3))) (evC (.int 97))) evNil)) (evV 1)))) sNil) (seqS (sSet 2 (evBin fMod (evBI fInt (evCons (evBin fIx (evV 0) (evC (.int 1))) evNil)) (evV 1))) (seqS (sSetIx (evV 0) (evC (.int 1)) (evBin fDiv (evBin fIx (evV 0) (evC (.int 1))) (evV 1))) (sRet (evV 2))))))
noncomputable def m__law_draw : FSem := arF 2 (bodySem 3 sv__law_draw)
theorem ar__law_draw : Arity m__law_draw 2 := arF_ar
theorem le__law_draw : ∀ ds μ r, m__law_draw ds μ = some r → bodySem 3 sv__law_draw ds μ = some r := arF_le
/-! ### _law_number -/
/-! ### _law_number -/
noncomputable def sv__law_number : SEv := (seqS (sIf (evB (evBin fEq (evCall m__law_draw [] (evCons (evV 0) (evCons (evC (.int 12)) evNil))) (evC (.int 0)))) (sRet (evCall m__law_pair [] (evCons (evBin fSub (evCall m__law_draw [] (evCons (evV 0) (evCons (evBin fPow (evC (.int 10)) (evC (.int 9))) evNil))) (evBin fMul (evC (.int 5)) (evBin fPow (evC (.int 10)) (evC (.int 8))))) (evCons (evBin fAdd (evC (.int 1)) (evCall m__law_draw [] (evCons (evV 0) (evCons (evBin fPow (evC (.int 10)) (evC (.int 6))) evNil)))) evNil)))) sNil) (sRet (evCall m__law_pair [] (evCons (evBin fSub (evCall m__law_draw [] (evCons (evV 0) (evCons (evC (.int 25)) evNil))) (evC (.int 12))) (evCons (evBin fAdd (evC (.int 1)) (evCall m__law_draw [] (evCons (evV 0) (evCons (evBin fIx (evLst (evCons (evC (.int 1)) (evCons (evC (.int 6)) evNil))) (evCall m__law_draw [] (evCons (evV 0) (evCons (evC (.int 2)) evNil)))) evNil)))) evNil)))))
noncomputable def m__law_number : FSem := arF 1 (bodySem 1 sv__law_number)
theorem ar__law_number : Arity m__law_number 1 := arF_ar
theorem le__law_number : ∀ ds μ r, m__law_number ds μ = some r → bodySem 1 sv__law_number ds μ = some r := arF_le
/-! ### _law_some -/
/-! ### _law_some -/
noncomputable def sv__law_some : SEv := (seqS (sSet 1 (evCall m__law_size [] (evCons (evCall m__law_number [] (evCons (evV 0) evNil)) evNil))) (seqS (sIf (evB (evBin fEq (evBin fIx (evV 1) (evC (.int 0))) (evC (.int 0)))) (sRet (evTup (evCons (evC (.int 1)) (evCons (evBin fIx (evV 1) (evC (.int 1))) evNil)))) sNil) (sRet (evV 1))))
noncomputable def m__law_some : FSem := arF 1 (bodySem 2 sv__law_some)
theorem ar__law_some : Arity m__law_some 1 := arF_ar
theorem le__law_some : ∀ ds μ r, m__law_some ds μ = some r → bodySem 2 sv__law_some ds μ = some r := arF_le
/-! ### _law_sum -/
/-! ### _law_sum -/
noncomputable def sv__law_sum : SEv := (sRet (evCall m__law_pair [] (evCons (evBin fAdd (evBin fMul (evBin fIx (evV 0) (evC (.int 0))) (evBin fIx (evV 1) (evC (.int 1)))) (evBin fMul (evBin fIx (evV 1) (evC (.int 0))) (evBin fIx (evV 0) (evC (.int 1))))) (evCons (evBin fMul (evBin fIx (evV 0) (evC (.int 1))) (evBin fIx (evV 1) (evC (.int 1)))) evNil))))
noncomputable def m__law_sum : FSem := arF 2 (bodySem 2 sv__law_sum)
theorem ar__law_sum : Arity m__law_sum 2 := arF_ar
theorem le__law_sum : ∀ ds μ r, m__law_sum ds μ = some r → bodySem 2 sv__law_sum ds μ = some r := arF_le
/-! ### _law_times -/
/-! ### _law_times -/
noncomputable def sv__law_times : SEv := (sRet (evCall m__law_pair [] (evCons (evBin fMul (evBin fIx (evV 0) (evC (.int 0))) (evBin fIx (evV 1) (evC (.int 0)))) (evCons (evBin fMul (evBin fIx (evV 0) (evC (.int 1))) (evBin fIx (evV 1) (evC (.int 1)))) evNil))))
noncomputable def m__law_times : FSem := arF 2 (bodySem 2 sv__law_times)
theorem ar__law_times : Arity m__law_times 2 := arF_ar
theorem le__law_times : ∀ ds μ r, m__law_times ds μ = some r → bodySem 2 sv__law_times ds μ = some r := arF_le
/-! ### _law_minus -/
/-! ### _law_minus -/
noncomputable def sv__law_minus : SEv := (sRet (evTup (evCons (evBin fSub (evC (.int 0)) (evBin fIx (evV 0) (evC (.int 0)))) (evCons (evBin fIx (evV 0) (evC (.int 1))) evNil))))
noncomputable def m__law_minus : FSem := arF 1 (bodySem 1 sv__law_minus)
theorem ar__law_minus : Arity m__law_minus 1 := arF_ar
theorem le__law_minus : ∀ ds μ r, m__law_minus ds μ = some r → bodySem 1 sv__law_minus ds μ = some r := arF_le
/-! ### _law_over -/
/-! ### _law_over -/
noncomputable def sv__law_over : SEv := (sRet (evCall m__law_pair [] (evCons (evBin fMul (evBin fIx (evV 0) (evC (.int 0))) (evBin fIx (evV 1) (evC (.int 1)))) (evCons (evBin fMul (evBin fIx (evV 0) (evC (.int 1))) (evBin fIx (evV 1) (evC (.int 0)))) evNil))))
noncomputable def m__law_over : FSem := arF 2 (bodySem 2 sv__law_over)
theorem ar__law_over : Arity m__law_over 2 := arF_ar
theorem le__law_over : ∀ ds μ r, m__law_over ds μ = some r → bodySem 2 sv__law_over ds μ = some r := arF_le
/-! ### _law_move -/
noncomputable abbrev lb__law_move_0 : SEv := (seqS (sSet 4 (evTup (evCons (evCall m__law_some [] (evCons (evV 0) evNil)) (evCons (evCall m__law_number [] (evCons (evV 0) evNil)) evNil)))) (seqS (sSet 2 (evCall m__law_sum [] (evCons (evV 2) (evCons (evCall m__law_times [] (evCons (evBin fIx (evV 4) (evC (.int 0))) (evCons (evBin fIx (evV 4) (evC (.int 1))) evNil))) evNil)))) (sExpr (evBM isLst fApp (evV 1) (evCons (evV 4) evNil)))))
/-! ### _law_move -/
noncomputable def sv__law_move : SEv := (seqS (sSet 1 (evLstC evNil)) (seqS (sSet 2 (evTup (evCons (evC (.int 0)) (evCons (evC (.int 1)) evNil)))) (seqS (sFor (evRng1 (evCall m__law_draw [] (evCons (evV 0) (evCons (evC (.int 6)) evNil)))) (tgN 3) (seqS (sSet 4 (evTup (evCons (evCall m__law_some [] (evCons (evV 0) evNil)) (evCons (evCall m__law_number [] (evCons (evV 0) evNil)) evNil)))) (seqS (sSet 2 (evCall m__law_sum [] (evCons (evV 2) (evCons (evCall m__law_times [] (evCons (evBin fIx (evV 4) (evC (.int 0))) (evCons (evBin fIx (evV 4) (evC (.int 1))) evNil))) evNil)))) (sExpr (evBM isLst fApp (evV 1) (evCons (evV 4) evNil)))))) (seqS (sSet 5 (evCall m__law_some [] (evCons (evV 0) evNil))) (seqS (sExpr (evBM isLst fApp (evV 1) (evCons (evTup (evCons (evV 5) (evCons (evCall m__law_minus [] (evCons (evCall m__law_over [] (evCons (evV 2) (evCons (evV 5) evNil))) evNil)) evNil))) evNil))) (sRet (evV 1)))))))
noncomputable def m__law_move : FSem := arF 1 (bodySem 6 sv__law_move)
theorem ar__law_move : Arity m__law_move 1 := arF_ar
theorem le__law_move : ∀ ds μ r, m__law_move ds μ = some r → bodySem 6 sv__law_move ds μ = some r := arF_le
/-! ### _law_ratio -/
/-! ### _law_ratio -/
noncomputable def sv__law_ratio : SEv := (sRet (evMake 0 2 m_Ratiou_initu [] (evCons (evBin fIx (evV 0) (evC (.int 0))) (evCons (evBin fIx (evV 0) (evC (.int 1))) evNil))))
noncomputable def m__law_ratio : FSem := arF 1 (bodySem 1 sv__law_ratio)
theorem ar__law_ratio : Arity m__law_ratio 1 := arF_ar
theorem le__law_ratio : ∀ ds μ r, m__law_ratio ds μ = some r → bodySem 1 sv__law_ratio ds μ = some r := arF_le
/-! ### _law_made -/
/-! ### _law_made -/
noncomputable def sv__law_made : SEv := (sRet (evBI fTupOf (evCons (evLc (evIt (evV 0)) (tgN 1) evTrue (evTup (evCons (evCall m__law_ratio [] (evCons (evBin fIx (evV 1) (evC (.int 0))) evNil)) (evCons (evCall m__law_ratio [] (evCons (evBin fIx (evV 1) (evC (.int 1))) evNil)) evNil))) [1]) evNil)))
noncomputable def m__law_made : FSem := arF 1 (bodySem 2 sv__law_made)
theorem ar__law_made : Arity m__law_made 1 := arF_ar
theorem le__law_made : ∀ ds μ r, m__law_made ds μ = some r → bodySem 2 sv__law_made ds μ = some r := arF_le
/-! ### _law_after -/
/-! ### _law_after -/
noncomputable def sv__law_after : SEv := (seqS (sSet 4 (evCall m__law_times [] (evCons (evTup (evCons (evC (.int 1)) (evCons (evC (.int 2)) evNil))) (evCons (evCall m__law_times [] (evCons (evV 2) (evCons (evCall m__law_times [] (evCons (evV 3) (evCons (evV 3) evNil))) evNil))) evNil)))) (sRet (evLst (evCons (evCall m__law_sum [] (evCons (evV 0) (evCons (evCall m__law_sum [] (evCons (evCall m__law_times [] (evCons (evV 1) (evCons (evV 3) evNil))) (evCons (evV 4) evNil))) evNil))) (evCons (evCall m__law_sum [] (evCons (evV 1) (evCons (evCall m__law_times [] (evCons (evV 2) (evCons (evV 3) evNil))) evNil))) evNil)))))
noncomputable def m__law_after : FSem := arF 4 (bodySem 5 sv__law_after)
theorem ar__law_after : Arity m__law_after 4 := arF_ar
theorem le__law_after : ∀ ds μ r, m__law_after ds μ = some r → bodySem 5 sv__law_after ds μ = some r := arF_le
/-! ### _law_pieces -/
noncomputable abbrev lb__law_pieces_0 : SEv := (seqS (sSet 7 (evCall m__law_sum [] (evCons (evV 2) (evCons (evV 5) evNil)))) (seqS (sExpr (evBM isLst fApp (evV 1) (evCons (evTup (evCons (evV 2) (evCons (evV 7) (evCons (evV 3) (evCons (evV 4) (evCons (evV 6) evNil)))))) evNil))) (seqS (sAsgT (tgL [3, 4]) (evCall m__law_after [] (evCons (evV 3) (evCons (evV 4) (evCons (evV 6) (evCons (evV 5) evNil)))))) (sSet 2 (evV 7)))))
/-! ### _law_pieces -/
noncomputable def sv__law_pieces : SEv := (seqS (sSet 1 (evLstC evNil)) (seqS (sSet 2 (evTup (evCons (evC (.int 0)) (evCons (evC (.int 1)) evNil)))) (seqS (sSet 3 (evTup (evCons (evC (.int 0)) (evCons (evC (.int 1)) evNil)))) (seqS (sSet 4 (evTup (evCons (evC (.int 0)) (evCons (evC (.int 1)) evNil)))) (seqS (sFor (evIt (evV 0)) (tgT [5, 6]) (seqS (sSet 7 (evCall m__law_sum [] (evCons (evV 2) (evCons (evV 5) evNil)))) (seqS (sExpr (evBM isLst fApp (evV 1) (evCons (evTup (evCons (evV 2) (evCons (evV 7) (evCons (evV 3) (evCons (evV 4) (evCons (evV 6) evNil)))))) evNil))) (seqS (sAsgT (tgL [3, 4]) (evCall m__law_after [] (evCons (evV 3) (evCons (evV 4) (evCons (evV 6) (evCons (evV 5) evNil)))))) (sSet 2 (evV 7)))))) (seqS (sExpr (evBM isLst fApp (evV 1) (evCons (evTup (evCons (evV 2) (evCons (evV 2) (evCons (evV 3) (evCons (evTup (evCons (evC (.int 0)) (evCons (evC (.int 1)) evNil))) (evCons (evTup (evCons (evC (.int 0)) (evCons (evC (.int 1)) evNil))) evNil)))))) evNil))) (sRet (evV 1))))))))
noncomputable def m__law_pieces : FSem := arF 1 (bodySem 8 sv__law_pieces)
theorem ar__law_pieces : Arity m__law_pieces 1 := arF_ar
theorem le__law_pieces : ∀ ds μ r, m__law_pieces ds μ = some r → bodySem 8 sv__law_pieces ds μ = some r := arF_le
/-! ### _reached -/
/-! ### _reached -/
noncomputable def sv__reached : SEv := (sRet (evBin (fOwn 0 m_Ratiou_addu) (evV 0) (evBin (fOwn 0 m_Ratiou_mulu) (evBin (fOwn 0 m_Ratiou_addu) (evV 1) (evBin (fOwn 0 m_Ratiou_mulu) (evBin (fOwn 0 m_Ratiou_mulu) (evMake 0 2 m_Ratiou_initu [] (evCons (evC (.int 1)) (evCons (evC (.int 2)) evNil))) (evV 2)) (evV 3))) (evV 3))))
noncomputable def m__reached : FSem := arF 4 (bodySem 4 sv__reached)
theorem ar__reached : Arity m__reached 4 := arF_ar
theorem le__reached : ∀ ds μ r, m__reached ds μ = some r → bodySem 4 sv__reached ds μ = some r := arF_le
/-! ### pieces -/
noncomputable abbrev lb_pieces_0 : SEv := (seqS (sSet 7 (evBin (fOwn 0 m_Ratiou_addu) (evV 2) (evV 5))) (seqS (sExpr (evBM isLst fApp (evV 1) (evCons (evTup (evCons (evV 2) (evCons (evV 7) (evCons (evV 3) (evCons (evV 4) (evCons (evV 6) evNil)))))) evNil))) (sPar3 2 3 4 (evCons (evV 7) (evCons (evCall m__reached [] (evCons (evV 3) (evCons (evV 4) (evCons (evV 6) (evCons (evV 5) evNil))))) (evCons (evBin (fOwn 0 m_Ratiou_addu) (evV 4) (evBin (fOwn 0 m_Ratiou_mulu) (evV 6) (evV 5))) evNil))))))
/-! ### pieces -/
noncomputable def sv_pieces : SEv := (seqS (sSet 1 (evLstC evNil)) (seqS (sAsg3 2 3 4 (evMake 0 2 m_Ratiou_initu [.int 1] (evCons (evC (.int 0)) evNil))) (seqS (sFor (evIt (evV 0)) (tgT [5, 6]) (seqS (sSet 7 (evBin (fOwn 0 m_Ratiou_addu) (evV 2) (evV 5))) (seqS (sExpr (evBM isLst fApp (evV 1) (evCons (evTup (evCons (evV 2) (evCons (evV 7) (evCons (evV 3) (evCons (evV 4) (evCons (evV 6) evNil)))))) evNil))) (sPar3 2 3 4 (evCons (evV 7) (evCons (evCall m__reached [] (evCons (evV 3) (evCons (evV 4) (evCons (evV 6) (evCons (evV 5) evNil))))) (evCons (evBin (fOwn 0 m_Ratiou_addu) (evV 4) (evBin (fOwn 0 m_Ratiou_mulu) (evV 6) (evV 5))) evNil))))))) (sRet (evV 1)))))
noncomputable def m_pieces : FSem := arF 1 (bodySemC 8 sv_pieces)
theorem ar_pieces : Arity m_pieces 1 := arF_ar
theorem le_pieces : ∀ ds μ r, m_pieces ds μ = some r → bodySemC 8 sv_pieces ds μ = some r := arF_le
/-! ### _law_told -/
/-! ### _law_told -/
noncomputable def sv__law_told : SEv := (seqS (sIf (tNotV (evB (evIsiV (isiO 0) (evV 0)))) (sRet (evC .non)) sNil) (sRet (evTup (evCons (evUn (fFld 0 0) (evV 0)) (evCons (evUn (fFld 0 1) (evV 0)) evNil)))))
noncomputable def m__law_told : FSem := arF 1 (bodySem 1 sv__law_told)
theorem ar__law_told : Arity m__law_told 1 := arF_ar
theorem le__law_told : ∀ ds μ r, m__law_told ds μ = some r → bodySem 1 sv__law_told ds μ = some r := arF_le
/-! ### _law_length -/
noncomputable abbrev lb__law_length_0 : SEv := (sSet 1 (evCall m__law_sum [] (evCons (evV 1) (evCons (evBin fIx (evV 2) (evC (.int 0))) evNil))))
/-! ### _law_length -/
noncomputable def sv__law_length : SEv := (seqS (sSet 1 (evTup (evCons (evC (.int 0)) (evCons (evC (.int 1)) evNil)))) (seqS (sFor (evIt (evV 0)) (tgN 2) (sSet 1 (evCall m__law_sum [] (evCons (evV 1) (evCons (evBin fIx (evV 2) (evC (.int 0))) evNil))))) (sRet (evV 1))))
noncomputable def m__law_length : FSem := arF 1 (bodySem 3 sv__law_length)
theorem ar__law_length : Arity m__law_length 1 := arF_ar
theorem le__law_length : ∀ ds μ r, m__law_length ds μ = some r → bodySem 3 sv__law_length ds μ = some r := arF_le
/-! ### length -/
noncomputable abbrev lb_length_0 : SEv := (sSet 1 (evBin (fOwn 0 m_Ratiou_addu) (evV 1) (evV 2)))
/-! ### length -/
noncomputable def sv_length : SEv := (seqS (sSet 1 (evMake 0 2 m_Ratiou_initu [.int 1] (evCons (evC (.int 0)) evNil))) (seqS (sFor (evIt (evV 0)) (tgT [2, 3]) (sSet 1 (evBin (fOwn 0 m_Ratiou_addu) (evV 1) (evV 2)))) (sRet (evV 1))))
noncomputable def m_length : FSem := arF 1 (bodySem 4 sv_length)
theorem ar_length : Arity m_length 1 := arF_ar
theorem le_length : ∀ ds μ r, m_length ds μ = some r → bodySem 4 sv_length ds μ = some r := arF_le
/-! ### way -/
/-! ### way -/
noncomputable def sv_way : SEv := (seqS (sAsgT (tgT [1, 2, 3, 4, 5]) (evBin fIx (evCall m_pieces [] (evCons (evV 0) evNil)) (evUn fNeg (evC (.int 1))))) (sRet (evCall m__reached [] (evCons (evV 3) (evCons (evV 4) (evCons (evV 5) (evCons (evBin (fOwn 0 m_Ratiou_subu) (evV 2) (evV 1)) evNil)))))))
noncomputable def m_way : FSem := arF 1 (bodySem 6 sv_way)
theorem ar_way : Arity m_way 1 := arF_ar
theorem le_way : ∀ ds μ r, m_way ds μ = some r → bodySem 6 sv_way ds μ = some r := arF_le
/-! ### _law_time -/
/-! ### _law_time -/
noncomputable def sv__law_time : SEv := (seqS (sSet 2 (evCall m__law_draw [] (evCons (evV 0) (evCons (evC (.int 6)) evNil)))) (seqS (sSet 3 (evLc (evIt (evCall m__law_pieces [] (evCons (evV 1) evNil))) (tgN 4) evTrue (evBin fIx (evV 4) (evC (.int 0))) [4])) (seqS (sSet 5 (evBin fIx (evV 3) (evCall m__law_draw [] (evCons (evV 0) (evCons (evBI fLen (evCons (evV 3) evNil)) evNil))))) (seqS (sIf (evB (evBin fEq (evV 2) (evC (.int 0)))) (sRet (evCall m__law_number [] (evCons (evV 0) evNil))) sNil) (seqS (sIf (evB (evBin fEq (evV 2) (evC (.int 1)))) (sRet (evV 5)) sNil) (seqS (sIf (evB (evBin fEq (evV 2) (evC (.int 2)))) (sRet (evCall m__law_sum [] (evCons (evV 5) (evCons (evCall m__law_pair [] (evCons (evC (.int 1)) (evCons (evBin fAdd (evC (.int 1)) (evCall m__law_draw [] (evCons (evV 0) (evCons (evC (.int 1000)) evNil)))) evNil))) evNil)))) sNil) (seqS (sIf (evB (evBin fEq (evV 2) (evC (.int 3)))) (sRet (evCall m__law_sum [] (evCons (evV 5) (evCons (evCall m__law_pair [] (evCons (evUn fNeg (evC (.int 1))) (evCons (evBin fAdd (evC (.int 1)) (evCall m__law_draw [] (evCons (evV 0) (evCons (evC (.int 1000)) evNil)))) evNil))) evNil)))) sNil) (sRet (evCall m__law_over [] (evCons (evCall m__law_times [] (evCons (evCall m__law_length [] (evCons (evV 1) evNil)) (evCons (evTup (evCons (evCall m__law_draw [] (evCons (evV 0) (evCons (evC (.int 19)) evNil))) (evCons (evC (.int 1)) evNil))) evNil))) (evCons (evTup (evCons (evC (.int 16)) (evCons (evC (.int 1)) evNil))) evNil)))))))))))
noncomputable def m__law_time : FSem := arF 2 (bodySem 6 sv__law_time)
theorem ar__law_time : Arity m__law_time 2 := arF_ar
theorem le__law_time : ∀ ds μ r, m__law_time ds μ = some r → bodySem 6 sv__law_time ds μ = some r := arF_le
/-! ### _law_less -/
/-! ### _law_less -/
noncomputable def sv__law_less : SEv := (sRet (evBin fLt (evBin fMul (evBin fIx (evV 0) (evC (.int 0))) (evBin fIx (evV 1) (evC (.int 1)))) (evBin fMul (evBin fIx (evV 1) (evC (.int 0))) (evBin fIx (evV 0) (evC (.int 1))))))
noncomputable def m__law_less : FSem := arF 2 (bodySem 2 sv__law_less)
theorem ar__law_less : Arity m__law_less 2 := arF_ar
theorem le__law_less : ∀ ds μ r, m__law_less ds μ = some r → bodySem 2 sv__law_less ds μ = some r := arF_le
/-! ### _law_state -/
noncomputable abbrev lb__law_state_0 : SEv := (sIf (tNotV (evB (evCall m__law_less [] (evCons (evV 1) (evCons (evV 3) evNil))))) (seqS (sSet 8 (evCall m__law_sum [] (evCons (evV 1) (evCons (evCall m__law_minus [] (evCons (evV 3) evNil)) evNil)))) (sSet 2 (evCall m__law_after [] (evCons (evV 5) (evCons (evV 6) (evCons (evV 7) (evCons (evV 8) evNil))))))) sNil)
/-! ### _law_state -/
noncomputable def sv__law_state : SEv := (seqS (sSet 2 (evLst (evCons (evTup (evCons (evC (.int 0)) (evCons (evC (.int 1)) evNil))) (evCons (evTup (evCons (evC (.int 0)) (evCons (evC (.int 1)) evNil))) evNil)))) (seqS (sFor (evIt (evCall m__law_pieces [] (evCons (evV 0) evNil))) (tgT [3, 4, 5, 6, 7]) (sIf (tNotV (evB (evCall m__law_less [] (evCons (evV 1) (evCons (evV 3) evNil))))) (seqS (sSet 8 (evCall m__law_sum [] (evCons (evV 1) (evCons (evCall m__law_minus [] (evCons (evV 3) evNil)) evNil)))) (sSet 2 (evCall m__law_after [] (evCons (evV 5) (evCons (evV 6) (evCons (evV 7) (evCons (evV 8) evNil))))))) sNil)) (sRet (evV 2))))
noncomputable def m__law_state : FSem := arF 2 (bodySem 9 sv__law_state)
theorem ar__law_state : Arity m__law_state 2 := arF_ar
theorem le__law_state : ∀ ds μ r, m__law_state ds μ = some r → bodySem 9 sv__law_state ds μ = some r := arF_le
/-! ### is_less -/
/-! ### is_less -/
noncomputable def sv_is_less : SEv := (sRet (evBin fLt (evBin fMul (evUn (fFld 0 0) (evV 0)) (evUn (fFld 0 1) (evV 1))) (evBin fMul (evUn (fFld 0 0) (evV 1)) (evUn (fFld 0 1) (evV 0)))))
noncomputable def m_is_less : FSem := arF 2 (bodySem 2 sv_is_less)
theorem ar_is_less : Arity m_is_less 2 := arF_ar
theorem le_is_less : ∀ ds μ r, m_is_less ds μ = some r → bodySem 2 sv_is_less ds μ = some r := arF_le
/-! ### position -/
noncomputable abbrev lb_position_0 : SEv := (sIf (tNotV (evB (evCall m_is_less [] (evCons (evV 3) (evCons (evV 1) evNil))))) (sRet (evCall m__reached [] (evCons (evV 4) (evCons (evV 5) (evCons (evV 6) (evCons (evBin (fOwn 0 m_Ratiou_subu) (evV 1) (evV 2)) evNil)))))) sNil)
/-! ### position -/
noncomputable def sv_position : SEv := (seqS (sIf (evB (evCall m_is_less [] (evCons (evV 1) (evCons (evMake 0 2 m_Ratiou_initu [.int 1] (evCons (evC (.int 0)) evNil)) evNil)))) (sRet (evMake 0 2 m_Ratiou_initu [.int 1] (evCons (evC (.int 0)) evNil))) sNil) (seqS (sFor (evIt (evCall m_pieces [] (evCons (evV 0) evNil))) (tgT [2, 3, 4, 5, 6]) (sIf (tNotV (evB (evCall m_is_less [] (evCons (evV 3) (evCons (evV 1) evNil))))) (sRet (evCall m__reached [] (evCons (evV 4) (evCons (evV 5) (evCons (evV 6) (evCons (evBin (fOwn 0 m_Ratiou_subu) (evV 1) (evV 2)) evNil)))))) sNil)) (sRet (evCall m_way [] (evCons (evV 0) evNil)))))
noncomputable def m_position : FSem := arF 2 (bodySem 7 sv_position)
theorem ar_position : Arity m_position 2 := arF_ar
theorem le_position : ∀ ds μ r, m_position ds μ = some r → bodySem 7 sv_position ds μ = some r := arF_le
/-! ### speed -/
noncomputable abbrev lb_speed_0 : SEv := (sIf (tNotV (evB (evCall m_is_less [] (evCons (evV 3) (evCons (evV 1) evNil))))) (sRet (evBin (fOwn 0 m_Ratiou_addu) (evV 5) (evBin (fOwn 0 m_Ratiou_mulu) (evV 6) (evBin (fOwn 0 m_Ratiou_subu) (evV 1) (evV 2))))) sNil)
/-! ### speed -/
noncomputable def sv_speed : SEv := (seqS (sIf (evB (evCall m_is_less [] (evCons (evV 1) (evCons (evMake 0 2 m_Ratiou_initu [.int 1] (evCons (evC (.int 0)) evNil)) evNil)))) (sRet (evMake 0 2 m_Ratiou_initu [.int 1] (evCons (evC (.int 0)) evNil))) sNil) (seqS (sFor (evIt (evCall m_pieces [] (evCons (evV 0) evNil))) (tgT [2, 3, 4, 5, 6]) (sIf (tNotV (evB (evCall m_is_less [] (evCons (evV 3) (evCons (evV 1) evNil))))) (sRet (evBin (fOwn 0 m_Ratiou_addu) (evV 5) (evBin (fOwn 0 m_Ratiou_mulu) (evV 6) (evBin (fOwn 0 m_Ratiou_subu) (evV 1) (evV 2))))) sNil)) (sRet (evMake 0 2 m_Ratiou_initu [.int 1] (evCons (evC (.int 0)) evNil)))))
noncomputable def m_speed : FSem := arF 2 (bodySem 7 sv_speed)
theorem ar_speed : Arity m_speed 2 := arF_ar
theorem le_speed : ∀ ds μ r, m_speed ds μ = some r → bodySem 7 sv_speed ds μ = some r := arF_le
/-! ### _size -/
/-! ### _size -/
noncomputable def sv__size : SEv := (sRet (evIf (evB (evCall m_is_less [] (evCons (evV 0) (evCons (evMake 0 2 m_Ratiou_initu [.int 1] (evCons (evC (.int 0)) evNil)) evNil)))) (evUn (fOwn1 0 m_Ratiou_negu) (evV 0)) (evV 0)))
noncomputable def m__size : FSem := arF 1 (bodySem 1 sv__size)
theorem ar__size : Arity m__size 1 := arF_ar
theorem le__size : ∀ ds μ r, m__size ds μ = some r → bodySem 1 sv__size ds μ = some r := arF_le
/-! ### greatest_speed -/
noncomputable abbrev lb_greatest_speed_0 : SEv := (sIf (evB (evCall m_is_less [] (evCons (evV 1) (evCons (evCall m__size [] (evCons (evV 3) evNil)) evNil)))) (sSet 1 (evCall m__size [] (evCons (evV 3) evNil))) sNil)
/-! ### greatest_speed -/
noncomputable def sv_greatest_speed : SEv := (seqS (sSet 1 (evMake 0 2 m_Ratiou_initu [.int 1] (evCons (evC (.int 0)) evNil))) (seqS (sFor (evIt (evCall m_pieces [] (evCons (evV 0) evNil))) (tgT [2, 2, 2, 3, 2]) (sIf (evB (evCall m_is_less [] (evCons (evV 1) (evCons (evCall m__size [] (evCons (evV 3) evNil)) evNil)))) (sSet 1 (evCall m__size [] (evCons (evV 3) evNil))) sNil)) (sRet (evV 1))))
noncomputable def m_greatest_speed : FSem := arF 1 (bodySem 4 sv_greatest_speed)
theorem ar_greatest_speed : Arity m_greatest_speed 1 := arF_ar
theorem le_greatest_speed : ∀ ds μ r, m_greatest_speed ds μ = some r → bodySem 4 sv_greatest_speed ds μ = some r := arF_le
/-! ### _law_at -/
/-! ### _law_at -/
noncomputable def sv__law_at : SEv := (sRet (evCall m__law_told [] (evCons (evCall m_position [] (evCons (evV 0) (evCons (evCall m__law_ratio [] (evCons (evV 1) evNil)) evNil))) evNil)))
noncomputable def m__law_at : FSem := arF 2 (bodySem 2 sv__law_at)
theorem ar__law_at : Arity m__law_at 2 := arF_ar
theorem le__law_at : ∀ ds μ r, m__law_at ds μ = some r → bodySem 2 sv__law_at ds μ = some r := arF_le
/-! ### _law_changes -/
/-! ### _law_changes -/
noncomputable def sv__law_changes : SEv := (sRet (evCall m__law_sum [] (evCons (evCall m__law_at [] (evCons (evV 0) (evCons (evV 2) evNil))) (evCons (evCall m__law_minus [] (evCons (evCall m__law_at [] (evCons (evV 0) (evCons (evV 1) evNil))) evNil)) evNil))))
noncomputable def m__law_changes : FSem := arF 3 (bodySem 3 sv__law_changes)
theorem ar__law_changes : Arity m__law_changes 3 := arF_ar
theorem le__law_changes : ∀ ds μ r, m__law_changes ds μ = some r → bodySem 3 sv__law_changes ds μ = some r := arF_le
/-! ### quotient -/
/-! ### quotient -/
noncomputable def sv_quotient : SEv := (sRet (evMake 0 2 m_Ratiou_initu [] (evCons (evBin fMul (evUn (fFld 0 0) (evV 0)) (evUn (fFld 0 1) (evV 1))) (evCons (evBin fMul (evUn (fFld 0 1) (evV 0)) (evUn (fFld 0 0) (evV 1))) evNil))))
noncomputable def m_quotient : FSem := arF 2 (bodySem 2 sv_quotient)
theorem ar_quotient : Arity m_quotient 2 := arF_ar
theorem le_quotient : ∀ ds μ r, m_quotient ds μ = some r → bodySem 2 sv_quotient ds μ = some r := arF_le
/-! ### stopped -/
/-! ### stopped -/
noncomputable def sv_stopped : SEv := (seqS (sIf (tNotV (evB (evCall m_is_less [] (evCons (evV 2) (evCons (evV 3) evNil))))) (sRet (evCall m_position [] (evCons (evV 0) (evCons (evV 3) evNil)))) sNil) (seqS (sSet 4 (evCall m_speed [] (evCons (evV 0) (evCons (evV 2) evNil)))) (seqS (sSet 5 (evCall m_quotient [] (evCons (evCall m__size [] (evCons (evV 4) evNil)) (evCons (evV 1) evNil)))) (seqS (sSet 6 (evBin (fOwn 0 m_Ratiou_subu) (evV 3) (evV 2))) (seqS (sSet 7 (evIf (evB (evCall m_is_less [] (evCons (evV 4) (evCons (evMake 0 2 m_Ratiou_initu [.int 1] (evCons (evC (.int 0)) evNil)) evNil)))) (evV 1) (evUn (fOwn1 0 m_Ratiou_negu) (evV 1)))) (sRet (evCall m__reached [] (evCons (evCall m_position [] (evCons (evV 0) (evCons (evV 2) evNil))) (evCons (evV 4) (evCons (evV 7) (evCons (evIf (evB (evCall m_is_less [] (evCons (evV 6) (evCons (evV 5) evNil)))) (evV 6) (evV 5)) evNil)))))))))))
noncomputable def m_stopped : FSem := arF 4 (bodySem 8 sv_stopped)
theorem ar_stopped : Arity m_stopped 4 := arF_ar
theorem le_stopped : ∀ ds μ r, m_stopped ds μ = some r → bodySem 8 sv_stopped ds μ = some r := arF_le
/-! ### _law_stopped -/
/-! ### _law_stopped -/
noncomputable def sv__law_stopped : SEv := (seqS (sIf (tNotV (evB (evCall m__law_less [] (evCons (evV 2) (evCons (evV 3) evNil))))) (sRet (evBin fIx (evCall m__law_state [] (evCons (evV 0) (evCons (evV 3) evNil))) (evC (.int 0)))) sNil) (seqS (sAsgT (tgL [4, 5]) (evCall m__law_state [] (evCons (evV 0) (evCons (evV 2) evNil)))) (seqS (sSet 6 (evCall m__law_sum [] (evCons (evV 3) (evCons (evCall m__law_minus [] (evCons (evV 2) evNil)) evNil)))) (seqS (sSet 7 (evCall m__law_over [] (evCons (evCall m__law_size [] (evCons (evV 5) evNil)) (evCons (evV 1) evNil)))) (seqS (sIf (evB (evCall m__law_less [] (evCons (evV 7) (evCons (evV 6) evNil)))) (sSet 6 (evV 7)) sNil) (seqS (sSet 8 (evCall m__law_minus [] (evCons (evV 1) evNil))) (seqS (sIf (evB (evBin fLt (evBin fIx (evV 5) (evC (.int 0))) (evC (.int 0)))) (sSet 8 (evV 1)) sNil) (sRet (evBin fIx (evCall m__law_after [] (evCons (evV 4) (evCons (evV 5) (evCons (evV 8) (evCons (evV 6) evNil))))) (evC (.int 0)))))))))))
noncomputable def m__law_stopped : FSem := arF 4 (bodySem 9 sv__law_stopped)
theorem ar__law_stopped : Arity m__law_stopped 4 := arF_ar
theorem le__law_stopped : ∀ ds μ r, m__law_stopped ds μ = some r → bodySem 9 sv__law_stopped ds μ = some r := arF_le
end Vs
/-! What the defs are worth: Ratio, the law's fractions. -/
namespace Vs
open PySem PySem.Spec PyProof.Rows L2
theorem set_get {μ : Mu} {l : Nat} {o : Option MO} {m : Option MO} (h : μ[l]? = some m) : (μ.set l o)[l]? = some o := List.getElem?_set_self (List.getElem?_eq_some_iff.mp h).1
/-! ### Ratio -/
theorem ev_init {l : Nat} {n d : Int} {μ : Mu} (hd : d ≠ 0) (hg : (Nat.gcd n.natAbs d.natAbs).log2 < 9000) (hl : μ[l]? = some (some (.ins 0 []))) :
    m_Ratiou_initu [.loc l, .p (.int n), .p (.int d)] μ = some (.ok (.p .non), μ.set l (some (.ins 0 [.int (qn n d).1, .int (qn n d).2]))) := by
  have g0 : (Nat.gcd n.natAbs d.natAbs : Int) ≠ 0 := gcd_ne hd
  have hk : ∀ (i : Int), divOk i (Nat.gcd n.natAbs d.natAbs : Int) = true := fun i => divOk_of g0 (by simpa using hg)
  have hk' : ∀ (i : Int), divOk i (-(Nat.gcd n.natAbs d.natAbs : Int)) = true := fun i => divOk_of (by omega) (by simpa using hg)
  by_cases hn : d < 0
  · simp [m_Ratiou_initu, arF, bodySem_eq, sv_Ratiou_initu, hd, hn, hk', qn, fldEnd_new hl, fldEnd_new (set_get hl)]
  · simp [m_Ratiou_initu, arF, bodySem_eq, sv_Ratiou_initu, hd, hn, hk, qn, fldEnd_new hl, fldEnd_new (set_get hl)]
theorem ev_mk {n d : Int} {μ : Mu} (hd : d ≠ 0) (hg : (Nat.gcd n.natAbs d.natAbs).log2 < 9000) :
    mkEnd 0 2 μ.length (m_Ratiou_initu [.loc μ.length, .p (.int n), .p (.int d)] (μ ++ [some (.ins 0 [])])) = some (.ok (.p (rat (Rat.divInt n d))), μ) := by
  have hl : (μ ++ [some (MO.ins 0 [])])[μ.length]? = some (some (.ins 0 [])) := by simp
  rw [ev_init hd hg hl]
  have e : (μ ++ [some (MO.ins 0 [])]).set μ.length (some (.ins 0 [.int (qn n d).1, .int (qn n d).2])) = μ ++ [some (.ins 0 [.int (qn n d).1, .int (qn n d).2])] := by
    rw [List.set_append_right _ _ (Nat.le_refl _)]; simp
  rw [e]
  have q := qn_eq (n := n) hd
  simp [mkEnd, rat, q]
theorem ev_mk' {n d : Int} {μ : Mu} {k : Nat} (hd : d ≠ 0) (hs : Sz k d) (hk : k ≤ 9000) (h0 : 0 < k := by decide) :
    mkEnd 0 2 μ.length (m_Ratiou_initu [.loc μ.length, .p (.int n), .p (.int d)] (μ ++ [some (.ins 0 [])])) = some (.ok (.p (rat (Rat.divInt n d))), μ) :=
  ev_mk hd (Nat.lt_of_lt_of_le (PySem.Flt.log2_lt_of h0 (gcd_sz hs hd)) hk)
theorem ev_mk1 {n : Int} {μ : Mu} : mkEnd 0 2 μ.length (m_Ratiou_initu [.loc μ.length, .p (.int n), .p (.int 1)] (μ ++ [some (.ins 0 [])])) = some (.ok (.p (rat (n : Rat))), μ) := by
  have e := ev_mk' (n := n) (d := 1) (μ := μ) (k := 1) (by decide) (by unfold Sz; decide) (by decide)
  rwa [show Rat.divInt n 1 = (n : Rat) from Rat.num_divInt_den (n : Rat)] at e
theorem den_ne (q : Rat) : (q.den : Int) ≠ 0 := by have := q.den_nz; omega
theorem mul_ne {i j : Int} (h : i ≠ 0) (h2 : j ≠ 0) : i * j ≠ 0 := Int.mul_ne_zero h h2
/-! ### sizes: n bits of the denominator, 100 n of the numerator -/
def Bz (n : Nat) (q : Rat) : Prop := 1 ≤ n ∧ Sz (100 * n) q.num ∧ Sz n (q.den : Int)
section
variable {a b : Rat} {n m : Nat} {μ : Mu}
theorem Bz.mono (h : Bz n a) (e : n ≤ m) : Bz m a := ⟨Nat.le_trans h.1 e, h.2.1.mono (by omega), h.2.2.mono e⟩
theorem bz_of {x y : Int} {k : Nat} (h0 : y ≠ 0) (h1 : 1 ≤ n) (hx : Sz k x) (hk : k ≤ 100 * n) (hy : Sz n y) : Bz n (Rat.divInt x y) := ⟨h1, (num_sz hx).mono hk, den_sz hy h0⟩
theorem add_eq (a b : Rat) : Rat.divInt (a.num * (b.den : Int) + b.num * (a.den : Int)) ((a.den : Int) * (b.den : Int)) = a + b := by
  rw [← Rat.divInt_add_divInt _ _ (den_ne a) (den_ne b), Rat.num_divInt_den, Rat.num_divInt_den]
theorem sub_eq (a b : Rat) : Rat.divInt (a.num * (b.den : Int) - b.num * (a.den : Int)) ((a.den : Int) * (b.den : Int)) = a - b := by
  rw [← Rat.divInt_sub_divInt _ _ (den_ne a) (den_ne b), Rat.num_divInt_den, Rat.num_divInt_den]
theorem mul_eq (a b : Rat) : Rat.divInt (a.num * b.num) ((a.den : Int) * (b.den : Int)) = a * b := by
  rw [← Rat.divInt_mul_divInt, Rat.num_divInt_den, Rat.num_divInt_den]
theorem neg_eq (a : Rat) : Rat.divInt (-a.num) (a.den : Int) = -a := by rw [← Rat.neg_divInt, Rat.num_divInt_den]
theorem div_eq (a b : Rat) (hb : b ≠ 0) : Rat.divInt (a.num * (b.den : Int)) ((a.den : Int) * b.num) = a / b := by
  have hb' : b.num ≠ 0 := fun z => hb (Rat.num_eq_zero.mp z)
  have e : b⁻¹ = Rat.divInt (b.den : Int) b.num := by
    rw [← Rat.inv_divInt, Rat.num_divInt_den]
  rw [Rat.div_def, e, ← Rat.divInt_mul_divInt, Rat.num_divInt_den]
theorem Bz.add (ha : Bz n a) (hb : Bz m b) : Bz (n + m) (a + b) := by
  rw [← add_eq]
  have h1 := (ha.2.1.mul hb.2.2).add (hb.2.1.mul ha.2.2)
  have := ha.1
  have := hb.1
  exact bz_of (mul_ne (den_ne a) (den_ne b)) (by omega) h1 (by omega) (ha.2.2.mul hb.2.2)
theorem Bz.neg (ha : Bz n a) : Bz n (-a) := by
  rw [← neg_eq]
  exact bz_of (den_ne a) ha.1 ha.2.1.neg (Nat.le_refl _) ha.2.2
theorem Bz.sub (ha : Bz n a) (hb : Bz m b) : Bz (n + m) (a - b) := by
  rw [show a - b = a + -b from Rat.sub_eq_add_neg _ _]
  exact ha.add hb.neg
theorem Bz.mul (ha : Bz n a) (hb : Bz m b) : Bz (n + m) (a * b) := by
  rw [← mul_eq]
  have := ha.1
  have := hb.1
  exact bz_of (mul_ne (den_ne a) (den_ne b)) (by omega) (ha.2.1.mul hb.2.1) (by omega) (ha.2.2.mul hb.2.2)
theorem Bz.div {s : Nat} (ha : Bz n a) (hb : Bz m b) (hs : Sz s b.num) (h0 : b ≠ 0) (hm : m ≤ s) : Bz (n + s) (a / b) := by
  rw [← div_eq _ _ h0]
  have hb' : b.num ≠ 0 := fun z => h0 (Rat.num_eq_zero.mp z)
  have := ha.1
  have := hb.1
  exact bz_of (mul_ne (den_ne a) hb') (by omega) (ha.2.1.mul hb.2.2) (by omega) (ha.2.2.mul hs)
theorem mulOk_le {i j : Nat} {x y : Int} (h : Sz i x) (h2 : Sz j y) (e : i + j ≤ 900100) : mulOk x y = true := mulOk_of (h.mono (Nat.le_succ i)) (h2.mono (Nat.le_succ j)) (by omega) (by omega) (by omega)
theorem ok1 (ha : Bz n a) (hb : Bz m b) (h : n + m ≤ 9000) : mulOk a.num (b.den : Int) = true := mulOk_le ha.2.1 hb.2.2 (by omega)
theorem ok2 (ha : Bz n a) (hb : Bz m b) (h : n + m ≤ 9000) : mulOk (a.den : Int) (b.den : Int) = true := mulOk_le ha.2.2 hb.2.2 (by omega)
theorem ok3 (ha : Bz n a) (hb : Bz m b) (h : n + m ≤ 9000) : mulOk a.num b.num = true := mulOk_le ha.2.1 hb.2.1 (by omega)
theorem ok4 (ha : Bz n a) (hb : Bz m b) (h : n + m ≤ 9000) : mulOk (a.den : Int) b.num = true := mulOk_le ha.2.2 hb.2.1 (by omega)
/-! ### the class's methods -/
theorem ev_add (ha : Bz n a) (hb : Bz m b) (h : n + m ≤ 9000) : m_Ratiou_addu [.p (rat a), .p (rat b)] μ = some (.ok (.p (rat (a + b))), μ) := by
  have e := ev_mk' (n := a.num * (b.den : Int) + b.num * (a.den : Int)) (d := (a.den : Int) * (b.den : Int)) (μ := μ) (mul_ne (den_ne a) (den_ne b)) (ha.2.2.mul hb.2.2) h (by have := ha.1; omega)
  rw [add_eq] at e
  simp [m_Ratiou_addu, arF, bodySem_eq, sv_Ratiou_addu, ok1 ha hb h, ok1 hb ha (by omega), ok2 ha hb h, e, rat]
theorem ev_sub (ha : Bz n a) (hb : Bz m b) (h : n + m ≤ 9000) : m_Ratiou_subu [.p (rat a), .p (rat b)] μ = some (.ok (.p (rat (a - b))), μ) := by
  have e := ev_mk' (n := a.num * (b.den : Int) - b.num * (a.den : Int)) (d := (a.den : Int) * (b.den : Int)) (μ := μ) (mul_ne (den_ne a) (den_ne b)) (ha.2.2.mul hb.2.2) h (by have := ha.1; omega)
  rw [sub_eq] at e
  simp [m_Ratiou_subu, arF, bodySem_eq, sv_Ratiou_subu, ok1 ha hb h, ok1 hb ha (by omega), ok2 ha hb h, e, rat]
theorem ev_mul (ha : Bz n a) (hb : Bz m b) (h : n + m ≤ 9000) : m_Ratiou_mulu [.p (rat a), .p (rat b)] μ = some (.ok (.p (rat (a * b))), μ) := by
  have e := ev_mk' (n := a.num * b.num) (d := (a.den : Int) * (b.den : Int)) (μ := μ) (mul_ne (den_ne a) (den_ne b)) (ha.2.2.mul hb.2.2) h (by have := ha.1; omega)
  rw [mul_eq] at e
  simp [m_Ratiou_mulu, arF, bodySem_eq, sv_Ratiou_mulu, ok3 ha hb h, ok2 ha hb h, e, rat]
theorem ev_neg (ha : Bz n a) (h : n ≤ 9000) : m_Ratiou_negu [.p (rat a)] μ = some (.ok (.p (rat (-a))), μ) := by
  have e := ev_mk' (n := -a.num) (d := (a.den : Int)) (μ := μ) (den_ne a) ha.2.2 h ha.1
  rw [neg_eq] at e
  simp [m_Ratiou_negu, arF, bodySem_eq, sv_Ratiou_negu, e, rat]
@[simp] theorem isObj_rat : isObj 0 (.p (rat a)) = true := rfl
@[simp] theorem semD_ok {sem : FSem} {ds : List D} {d : D} {μ' : Mu} (h : sem ds μ = some (.ok d, μ')) : semD sem ds μ = some (d, μ') := by unfold semD; rw [h]
theorem own_ok {sem : FSem} {d : D} {μ' : Mu} (h : sem [.p (rat a), .p (rat b)] μ = some (.ok d, μ')) : fOwn 0 sem (.p (rat a)) (.p (rat b)) μ = some (d, μ') := by
  unfold fOwn; simp [semD_ok h]
theorem own1_ok {sem : FSem} {d : D} {μ' : Mu} (h : sem [.p (rat a)] μ = some (.ok d, μ')) : fOwn1 0 sem (.p (rat a)) μ = some (d, μ') := by
  unfold fOwn1; simp [semD_ok h]
theorem o_add' (ha : Bz n a) (hb : Bz m b) (h : n + m ≤ 9000) : fOwn 0 m_Ratiou_addu (.p (rat a)) (.p (rat b)) μ = some (.p (rat (a + b)), μ) := own_ok (ev_add ha hb h)
theorem o_sub' (ha : Bz n a) (hb : Bz m b) (h : n + m ≤ 9000) : fOwn 0 m_Ratiou_subu (.p (rat a)) (.p (rat b)) μ = some (.p (rat (a - b)), μ) := own_ok (ev_sub ha hb h)
theorem o_mul' (ha : Bz n a) (hb : Bz m b) (h : n + m ≤ 9000) : fOwn 0 m_Ratiou_mulu (.p (rat a)) (.p (rat b)) μ = some (.p (rat (a * b)), μ) := own_ok (ev_mul ha hb h)
theorem o_neg' (ha : Bz n a) (h : n ≤ 9000) : fOwn1 0 m_Ratiou_negu (.p (rat a)) μ = some (.p (rat (-a)), μ) := own1_ok (ev_neg ha h)
theorem lt_iff' : a.num * (b.den : Int) < b.num * (a.den : Int) ↔ a < b := (Rat.lt_iff a b).symm
theorem ev_is_less (ha : Bz n a) (hb : Bz m b) (h : n + m ≤ 9000) : m_is_less [.p (rat a), .p (rat b)] μ = some (.ok (.p (.bl (decide (a < b)))), μ) := by
  have e : decide (a.num * (b.den : Int) < b.num * (a.den : Int)) = decide (a < b) := by rw [decide_eq_decide]; exact lt_iff'
  simp only [← e]
  simp [m_is_less, arF, bodySem_eq, sv_is_less, ok1 ha hb h, ok1 hb ha (by omega), rat]
/-! ### the law's fractions -/
theorem pair_loop {x y : Option D} : ∀ (m k a b : Nat), b < 2 ^ m → 2 * m + 1 ≤ k →
    whL (evB (evBin fGt (evV 3) (evC (.int 0)))) (sPar 2 3 (evCons (evV 3) (evCons (evBin fMod (evBI fInt (evCons (evV 2) evNil)) (evBI fInt (evCons (evV 3) evNil))) evNil))) k [x, y, some (.p (.int (a : Int))), some (.p (.int (b : Int)))] μ
      = some (.nx, [x, y, some (.p (.int (Nat.gcd a b : Nat))), some (.p (.int 0))], μ) := by
  have stop : ∀ (k a : Nat), whL (evB (evBin fGt (evV 3) (evC (.int 0)))) (sPar 2 3 (evCons (evV 3) (evCons (evBin fMod (evBI fInt (evCons (evV 2) evNil)) (evBI fInt (evCons (evV 3) evNil))) evNil))) (k + 1) [x, y, some (.p (.int (a : Int))), some (.p (.int 0))] μ
      = some (.nx, [x, y, some (.p (.int (a : Int))), some (.p (.int 0))], μ) := fun k a => by simp [whL]
  have step : ∀ (k a b : Nat), b ≠ 0 → whL (evB (evBin fGt (evV 3) (evC (.int 0)))) (sPar 2 3 (evCons (evV 3) (evCons (evBin fMod (evBI fInt (evCons (evV 2) evNil)) (evBI fInt (evCons (evV 3) evNil))) evNil))) (k + 1) [x, y, some (.p (.int (a : Int))), some (.p (.int (b : Int)))] μ
      = whL (evB (evBin fGt (evV 3) (evC (.int 0)))) (sPar 2 3 (evCons (evV 3) (evCons (evBin fMod (evBI fInt (evCons (evV 2) evNil)) (evBI fInt (evCons (evV 3) evNil))) evNil))) k [x, y, some (.p (.int (b : Int))), some (.p (.int ((a % b : Nat) : Int)))] μ := fun k a b hb => by
    have em : (a : Int).fmod (b : Int) = ((a % b : Nat) : Int) := by rw [Int.fmod_eq_emod_of_nonneg _ (by omega)]; rfl
    have h0 : (0 : Int) < (b : Int) := by omega
    have h1 : ¬ ((b : Int) = 0) := by omega
    rw [whL]
    have hb2 : 0 < b := by omega
    simp [hb, hb2, em]
  intro m
  induction m with
  | zero =>
    intro k a b h hk
    obtain ⟨k, rfl⟩ : ∃ j, k = j + 1 := ⟨k - 1, by omega⟩
    have hb : b = 0 := by simpa using h
    subst hb
    rw [Nat.gcd_zero_right]
    exact stop k a
  | succ m ih =>
    intro k a b h hk
    obtain ⟨k, rfl⟩ : ∃ j, k = j + 2 := ⟨k - 2, by omega⟩
    by_cases hb : b = 0
    · subst hb
      rw [Nat.gcd_zero_right]
      exact stop (k + 1) a
    · rw [step (k + 1) a b hb]
      by_cases hr : a % b = 0
      · rw [hr]
        have e : Nat.gcd a b = b := by rw [Nat.gcd_comm, Nat.gcd_rec, hr]; simp
        rw [e]
        exact stop k b
      · rw [step k b (a % b) hr]
        have h1 : a % b < b := Nat.mod_lt _ (by omega)
        have h2 : b % (a % b) < a % b := Nat.mod_lt _ (by omega)
        have h3 : b % (a % b) + (a % b) ≤ b := by
          have := Nat.mod_add_div b (a % b)
          have hq : 1 ≤ b / (a % b) := (Nat.le_div_iff_mul_le (by omega)).mpr (by omega)
          have : a % b * 1 ≤ a % b * (b / (a % b)) := Nat.mul_le_mul_left _ hq
          omega
        rw [ih k _ _ (by rw [Nat.pow_succ] at h; omega) (by omega)]
        rw [Nat.gcd_comm (a % b) (b % (a % b)), ← Nat.gcd_rec (a % b) b, ← Nat.gcd_rec b a, Nat.gcd_comm b a]
theorem abs_nat (a : Int) : (if a < 0 then -a else a) = (a.natAbs : Int) := by split <;> omega
theorem ev_pair {n d : Int} (hd : d ≠ 0) (hs : Sz 9000 d) : m__law_pair [.p (.int n), .p (.int d)] μ = some (.ok (.p (pr (Rat.divInt n d))), μ) := by
  have e := pair_loop (x := some (.p (.int n))) (y := some (.p (.int d))) (μ := μ) 9000 20000 n.natAbs d.natAbs hs (by decide)
  have hg : (Nat.gcd n.natAbs d.natAbs).log2 < 9000 := PySem.Flt.log2_lt_of (by decide) (gcd_sz hs hd)
  have g0 : (Nat.gcd n.natAbs d.natAbs : Int) ≠ 0 := gcd_ne hd
  have hk : ∀ (i : Int), divOk i (Nat.gcd n.natAbs d.natAbs : Int) = true := fun i => divOk_of g0 (by simpa using hg)
  have hk' : ∀ (i : Int), divOk i (-(Nat.gcd n.natAbs d.natAbs : Int)) = true := fun i => divOk_of (by omega) (by simpa using hg)
  have q := qn_eq (n := n) hd
  unfold qn at q
  by_cases hn : d < 0
  · rw [if_pos hn] at q
    have q := Prod.ext_iff.mp q
    dsimp only at q
    rw [show (d.natAbs : Int) = -d by omega] at e
    simp [m__law_pair, arF, bodySem_eq, sv__law_pair, sWhile, abs_nat n, e, hn, hk', pr, q.1, q.2]
  · rw [if_neg hn] at q
    have q := Prod.ext_iff.mp q
    dsimp only at q
    rw [show (d.natAbs : Int) = d by omega] at e
    simp [m__law_pair, arF, bodySem_eq, sv__law_pair, sWhile, abs_nat n, e, hn, hk, pr, q.1, q.2]
end
end Vs
namespace Vs
open PySem PySem.Spec PyProof.Rows L2
section
variable {a b : Rat} {n m : Nat} {μ : Mu}
theorem ev_lsum (ha : Bz n a) (hb : Bz m b) (h : n + m ≤ 9000) : m__law_sum [.p (pr a), .p (pr b)] μ = some (.ok (.p (pr (a + b))), μ) := by
  have e := ev_pair (n := a.num * (b.den : Int) + b.num * (a.den : Int)) (d := (a.den : Int) * (b.den : Int)) (μ := μ) (mul_ne (den_ne a) (den_ne b)) ((ha.2.2.mul hb.2.2).mono h)
  rw [add_eq] at e
  unfold pr at e ⊢
  simp [m__law_sum, arF, bodySem_eq, sv__law_sum, ok1 ha hb h, ok1 hb ha (by omega), ok2 ha hb h, e]
theorem ev_ltimes (ha : Bz n a) (hb : Bz m b) (h : n + m ≤ 9000) : m__law_times [.p (pr a), .p (pr b)] μ = some (.ok (.p (pr (a * b))), μ) := by
  have e := ev_pair (n := a.num * b.num) (d := (a.den : Int) * (b.den : Int)) (μ := μ) (mul_ne (den_ne a) (den_ne b)) ((ha.2.2.mul hb.2.2).mono h)
  rw [mul_eq] at e
  unfold pr at e ⊢
  simp [m__law_times, arF, bodySem_eq, sv__law_times, ok3 ha hb h, ok2 ha hb h, e]
theorem ev_lover {s : Nat} (ha : Bz n a) (hb : Bz m b) (hs : Sz s b.num) (h0 : b ≠ 0) (h : n + m ≤ 9000) (h2 : n + s ≤ 9000) : m__law_over [.p (pr a), .p (pr b)] μ = some (.ok (.p (pr (a / b))), μ) := by
  have hb' : b.num ≠ 0 := fun z => h0 (Rat.num_eq_zero.mp z)
  have e := ev_pair (n := a.num * (b.den : Int)) (d := (a.den : Int) * b.num) (μ := μ) (mul_ne (den_ne a) hb') ((ha.2.2.mul hs).mono h2)
  rw [div_eq _ _ h0] at e
  unfold pr at e ⊢
  simp [m__law_over, arF, bodySem_eq, sv__law_over, ok1 ha hb h, ok4 ha hb h, e]
theorem ev_lminus : m__law_minus [.p (pr a)] μ = some (.ok (.p (pr (-a))), μ) := by
  unfold pr
  simp [m__law_minus, arF, bodySem_eq, sv__law_minus]
theorem ev_lless (ha : Bz n a) (hb : Bz m b) (h : n + m ≤ 9000) : m__law_less [.p (pr a), .p (pr b)] μ = some (.ok (.p (.bl (decide (a < b)))), μ) := by
  have e : decide (a.num * (b.den : Int) < b.num * (a.den : Int)) = decide (a < b) := by rw [decide_eq_decide]; exact lt_iff'
  simp only [← e]
  unfold pr
  simp [m__law_less, arF, bodySem_eq, sv__law_less, ok1 ha hb h, ok1 hb ha (by omega)]
/-- the absolute value -/
def ab (q : Rat) : Rat := if q < 0 then -q else q
theorem ab_num : (ab a).num = (if a.num < 0 then -a.num else a.num) := by
  unfold ab
  have h : a < 0 ↔ a.num < 0 := by
    rw [Rat.lt_iff]; simp
  by_cases q : a < 0
  · rw [if_pos q, if_pos (h.mp q)]; rfl
  · rw [if_neg q, if_neg (fun z => q (h.mpr z))]
theorem ab_den : (ab a).den = a.den := by
  unfold ab
  split <;> rfl
theorem Bz.ab (ha : Bz n a) : Bz n (ab a) := by
  unfold Vs.ab
  split
  · exact ha.neg
  · exact ha
theorem ab_nonneg : 0 ≤ ab a := by
  unfold ab
  split <;> grind
theorem ev_lsize : m__law_size [.p (pr a)] μ = some (.ok (.p (pr (ab a))), μ) := by
  unfold pr
  rw [ab_num, ab_den]
  simp [m__law_size, arF, bodySem_eq, sv__law_size]
theorem ev_lratio (ha : Bz n a) (h : n ≤ 9000) : m__law_ratio [.p (pr a)] μ = some (.ok (.p (rat a)), μ) := by
  have e := ev_mk' (n := a.num) (d := (a.den : Int)) (μ := μ) (den_ne a) ha.2.2 h ha.1
  rw [Rat.num_divInt_den] at e
  unfold pr
  simp [m__law_ratio, arF, bodySem_eq, sv__law_ratio, e]
theorem ev_ltold : m__law_told [.p (rat a)] μ = some (.ok (.p (pr a)), μ) := by
  have h : isiVEnd (isiO 0) μ (some (rat a)) = some (.ok (.p (.bl true)), μ) := isiVEnd_some rfl
  unfold rat at h ⊢
  simp [m__law_told, arF, bodySem_eq, sv__law_told, pr, h]
theorem ev_size (ha : Bz n a) (h : n ≤ 8000) : m__size [.p (rat a)] μ = some (.ok (.p (rat (ab a))), μ) := by
  have e0 : ∀ ν : Mu, mkEnd 0 2 ν.length (m_Ratiou_initu [.loc ν.length, .p (.int 0), .p (.int 1)] (ν ++ [some (.ins 0 [])])) = some (.ok (.p (rat 0)), ν) := fun ν => ev_mk1
  have e1 := fun ν : Mu => ev_is_less (μ := ν) (b := 0) ha (m := 1) ⟨Nat.le_refl _, by unfold Sz; decide, by unfold Sz; decide⟩ (by omega)
  by_cases q : a < 0
  · simp [m__size, arF, bodySem_eq, sv__size, e0, e1, q, o_neg' ha (by omega), ab]
  · simp [m__size, arF, bodySem_eq, sv__size, e0, e1, q, ab]
/-! ### the position after a time -/
/-- one half -/
def hf : Rat := Rat.divInt 1 2
theorem hf_bz : Bz 2 hf := by
  refine ⟨by decide, ?_, ?_⟩
  · unfold Sz; decide
  · unfold Sz; decide
theorem hf_two : hf + hf = 1 := by decide +kernel
def rch (p v a s : Rat) : Rat := p + (v + hf * a * s) * s
theorem rch_eq {p v a s : Rat} : p + (v * s + hf * (a * (s * s))) = rch p v a s := by unfold rch; grind
theorem bz0 : Bz 1 0 := ⟨Nat.le_refl _, by unfold Sz; decide, by unfold Sz; decide⟩
theorem rch_bz {p v a s : Rat} {np nv na ns : Nat} (hp : Bz np p) (hv : Bz nv v) (ha : Bz na a) (hs : Bz ns s) : Bz (np + nv + na + 2 * ns + 2) (rch p v a s) :=
  (hp.add ((hv.add ((hf_bz.mul ha).mul hs)).mul hs)).mono (by omega)
theorem e_mk {x y : Int} {μ : Mu} (hd : y ≠ 0) (hs : Sz 100 y) : mkEnd 0 2 μ.length (m_Ratiou_initu [.loc μ.length, .p (.int x), .p (.int y)] (μ ++ [some (.ins 0 [])])) = some (.ok (.p (rat (Rat.divInt x y))), μ) := ev_mk' hd hs (by decide) (by decide)
theorem e_hf {μ : Mu} : mkEnd 0 2 μ.length (m_Ratiou_initu [.loc μ.length, .p (.int 1), .p (.int 2)] (μ ++ [some (.ins 0 [])])) = some (.ok (.p (rat hf)), μ) := e_mk (by decide) (by unfold Sz; decide)
theorem e_0 {μ : Mu} : mkEnd 0 2 μ.length (m_Ratiou_initu [.loc μ.length, .p (.int 0), .p (.int 1)] (μ ++ [some (.ins 0 [])])) = some (.ok (.p (rat 0)), μ) := ev_mk1
theorem ev_reached {p v a s : Rat} {np nv na ns : Nat} (hp : Bz np p) (hv : Bz nv v) (ha : Bz na a) (hs : Bz ns s) (h : np + nv + na + 2 * ns + 2 ≤ 9000) :
    m__reached [.p (rat p), .p (rat v), .p (rat a), .p (rat s)] μ = some (.ok (.p (rat (rch p v a s))), μ) := by
  have e1 := fun ν : Mu => o_mul' (μ := ν) hf_bz ha (by omega)
  have e2 := fun ν : Mu => o_mul' (μ := ν) (hf_bz.mul ha) hs (by omega)
  have e3 := fun ν : Mu => o_add' (μ := ν) hv ((hf_bz.mul ha).mul hs) (by omega)
  have e4 := fun ν : Mu => o_mul' (μ := ν) (hv.add ((hf_bz.mul ha).mul hs)) hs (by omega)
  have e5 := fun ν : Mu => o_add' (μ := ν) hp ((hv.add ((hf_bz.mul ha).mul hs)).mul hs) (by omega)
  simp [m__reached, arF, bodySem_eq, sv__reached, e_hf, e1, e2, e3, e4, e5, rch]
theorem ev_lafter {p v a s : Rat} {np nv na ns : Nat} (hp : Bz np p) (hv : Bz nv v) (ha : Bz na a) (hs : Bz ns s) (h : np + nv + na + 3 * ns + 2 ≤ 9000) :
    m__law_after [.p (pr p), .p (pr v), .p (pr a), .p (pr s)] μ = some (.ok (.p (.lst [pr (rch p v a s), pr (v + a * s)])), μ) := by
  have e0 : ∀ x, ∀ ν : Mu, m__law_times [.p (.tup [.int 1, .int 2]), x] ν = m__law_times [.p (pr hf), x] ν := fun _ _ => rfl
  have e1 := fun ν : Mu => ev_ltimes (μ := ν) hs hs (by omega)
  have e2 := fun ν : Mu => ev_ltimes (μ := ν) ha (hs.mul hs) (by omega)
  have e3 := fun ν : Mu => ev_ltimes (μ := ν) hf_bz (ha.mul (hs.mul hs)) (by omega)
  have e4 := fun ν : Mu => ev_ltimes (μ := ν) hv hs (by omega)
  have e5 := fun ν : Mu => ev_lsum (μ := ν) (hv.mul hs) (hf_bz.mul (ha.mul (hs.mul hs))) (by omega)
  have e6 := fun ν : Mu => ev_lsum (μ := ν) hp ((hv.mul hs).add (hf_bz.mul (ha.mul (hs.mul hs)))) (by omega)
  have e7 := fun ν : Mu => ev_ltimes (μ := ν) ha hs (by omega)
  have e8 := fun ν : Mu => ev_lsum (μ := ν) hv (ha.mul hs) (by omega)
  simp only [rch_eq] at e6
  simp [m__law_after, arF, bodySem_eq, sv__law_after, e0, e1, e2, e3, e4, e5, e6, e7, e8]
end
end Vs
namespace Vs
open PySem PySem.Spec PyProof.Rows L2
section
variable {μ : Mu}
/-! ### the law's numbers -/
structure SS where
  cells : List Int
  cur : Int
  pos : Nat
  mix : Int
structure SS.Ok (s : SS) : Prop where
  c0 : 0 ≤ s.cur
  m0 : 0 ≤ s.mix
  m1 : s.mix < 2147483647
def SS.xs (s : SS) : List P := [.lst (s.cells.map .int), .int s.cur, .int (s.pos : Int), .int s.mix]
def mixOf : List Int → Int → Int
  | [], m => m
  | c :: cs, m => mixOf cs ((m * 48271 + c.fmod 65521 + 1).fmod 2147483647)
theorem mix_ok : ∀ (cs : List Int) (m : Int), 0 ≤ m → m < 2147483647 → 0 ≤ mixOf cs m ∧ mixOf cs m < 2147483647
  | [], m, h, h2 => ⟨h, h2⟩
  | c :: cs, m, h, h2 => mix_ok cs _ (Int.fmod_nonneg_of_pos _ (by decide)) (Int.fmod_lt_of_pos _ (by decide))
def start0 (ns : List Int) : SS := ⟨ns, 0, 0, mixOf ns 17⟩
theorem start0_ok (ns : List Int) : (start0 ns).Ok := ⟨Int.le_refl _, (mix_ok ns 17 (by decide) (by decide)).1, (mix_ok ns 17 (by decide) (by decide)).2⟩
theorem mulOk_mix {m : Int} (h : 0 ≤ m) (h2 : m < 2147483647) : mulOk m 48271 = true := mulOk_of (j := 31) (k := 16) (by unfold Sz; omega) (by unfold Sz; decide) (by decide) (by decide) (by decide)
theorem stream_loop {s0 : Option D} : ∀ (cs : List Int) (m : Int) (c : Option D) (μ : Mu), 0 ≤ m → m < 2147483647 →
    ∃ c', forL (tgN 2) (sSet 1 (evBin fMod (evBI fInt (evCons (evBin fAdd (evBin fAdd (evBin fMul (evV 1) (evC (.int 48271))) (evBin fMod (evBI fInt (evCons (evV 2) evNil)) (evC (.int 65521)))) (evC (.int 1))) evNil)) (evC (.int 2147483647)))) (cs.map .int) [s0, some (.p (.int m)), c] μ = some (.nx, [s0, some (.p (.int (mixOf cs m))), c'], μ)
  | [], m, c, μ, h, h2 => ⟨c, rfl⟩
  | x :: cs, m, c, μ, h, h2 => by
    obtain ⟨c', e⟩ := stream_loop (s0 := s0) cs ((m * 48271 + x.fmod 65521 + 1).fmod 2147483647) (some (.p (.int x))) μ (Int.fmod_nonneg_of_pos _ (by decide)) (Int.fmod_lt_of_pos _ (by decide))
    refine ⟨c', ?_⟩
    rw [List.map_cons, forL]
    simp [tgN, mulOk_mix h h2, e, mixOf]
theorem ev_stream {ns : List Int} {μ : Mu} : m__law_stream [.p (.wl (ns.map .int))] μ = some (.ok (.loc μ.length), μ ++ [some (.lst (start0 ns).xs)]) := by
  obtain ⟨c', e⟩ := stream_loop (s0 := some (.p (.wl (ns.map .int)))) ns 17 none μ (by decide) (by decide)
  have hit : evIt (evV 0) [some (D.p (.wl (ns.map .int))), some (.p (.int 17)), none] μ = some (.ok (ns.map .int), μ) := rfl
  have hl : fList [.p (.wl (ns.map .int))] μ = some (.p (.lst (ns.map .int)), μ) := rfl
  simp [m__law_stream, arF, bodySemC_eq, sv__law_stream, hit, e, hl, retC, retLC, cellL, start0, SS.xs]
def SS.load (s : SS) : SS := if s.cur = 0 then (match s.cells[s.pos]? with
  | some c => ⟨s.cells, if c < 0 then -c else c, s.pos + 1, s.mix⟩
  | none => s) else s
def SS.draw (s : SS) (many : Int) : Int × SS :=
  if s.load.cur = 0 then ((((s.mix * 48271 + 11).fmod 2147483647).fdiv 97).fmod many, ⟨s.load.cells, s.load.cur, s.load.pos, (s.mix * 48271 + 11).fmod 2147483647⟩)
  else (s.load.cur.fmod many, ⟨s.load.cells, s.load.cur.fdiv many, s.load.pos, s.mix⟩)
theorem SS.draw_ok {s : SS} (h : s.Ok) {many : Int} (hm : 0 < many) : (s.draw many).2.Ok ∧ 0 ≤ (s.draw many).1 ∧ (s.draw many).1 < many := by
  have hl : 0 ≤ s.load.cur := by
    unfold SS.load
    split
    · split
      · dsimp only; split <;> omega
      · exact h.c0
    · exact h.c0
  unfold SS.draw
  split
  · exact ⟨⟨hl, Int.fmod_nonneg_of_pos _ (by decide), Int.fmod_lt_of_pos _ (by decide)⟩, Int.fmod_nonneg_of_pos _ hm, Int.fmod_lt_of_pos _ hm⟩
  · exact ⟨⟨by rw [Int.fdiv_eq_ediv_of_nonneg _ (Int.le_of_lt hm)]; exact Int.ediv_nonneg hl (Int.le_of_lt hm), h.m0, h.m1⟩, Int.fmod_nonneg_of_pos _ hm, Int.fmod_lt_of_pos _ hm⟩
end
section
variable {μ : Mu} {l : Nat}
@[simp] theorem fLen_lst {xs : List P} : fLen [.p (.lst xs)] μ = some (.p (.int xs.length), μ) := rfl
theorem divOk97 {i : Int} : divOk i 97 = true := divOk_of (by decide) (by decide)
theorem ev_draw {s : SS} {many : Int} (hs : s.Ok) (hl : μ[l]? = some (some (.lst s.xs))) (hm : 0 < many) (hz : many.natAbs.log2 < 9000) :
    m__law_draw [.loc l, .p (.int many)] μ = some (.ok (.p (.int (s.draw many).1)), μ.set l (some (.lst (s.draw many).2.xs))) := by
  obtain ⟨cells, cur, pos, mix⟩ := s
  obtain ⟨c0, m0, m1⟩ := hs
  dsimp only at c0 m0 m1
  have hl : μ[l]? = some (some (.lst [.lst (cells.map .int), .int cur, .int (pos : Int), .int mix])) := hl
  have g : ∀ (ys : List P) (i : Int), fIx (.loc l) (.p (.int i)) (μ.set l (some (.lst ys))) = ixAns (μ.set l (some (.lst ys))) (atI ys i) := fun ys i => fIx_lst (view_l (set_get hl))
  have g0 : ∀ (i : Int), fIx (.loc l) (.p (.int i)) μ = ixAns μ (atI [P.lst (cells.map .int), .int cur, .int (pos : Int), .int mix] i) := fun i => fIx_lst (view_l hl)
  have st : ∀ (δ : Sl) (a b c d y : P) (k : Int) (n : Nat), ixN 4 k = some n → setIxEnd δ (μ.set l (some (.lst [a, b, c, d]))) (.loc l) (.p (.int k)) (.p y) = some (.nx, δ, (μ.set l (some (.lst [a, b, c, d]))).set l (some (.lst ([a, b, c, d].set n y)))) := fun δ a b c d y k n h => setIxEnd_l (set_get hl) h
  have st0 : ∀ (δ : Sl) (y : P) (k : Int) (n : Nat), ixN 4 k = some n → setIxEnd δ μ (.loc l) (.p (.int k)) (.p y) = some (.nx, δ, μ.set l (some (.lst ([P.lst (cells.map .int), .int cur, .int (pos : Int), .int mix].set n y)))) := fun δ y k n h => setIxEnd_l hl h
  have i1 : ixN 4 1 = some 1 := by decide
  have i2 : ixN 4 2 = some 2 := by decide
  have i3 : ixN 4 3 = some 3 := by decide
  have dm : ∀ (i : Int), divOk i many = true := fun i => divOk_of (by omega) hz
  have mm : mulOk mix 48271 = true := mulOk_mix m0 m1
  have hne : many ≠ 0 := by omega
  by_cases hc : cur = 0
  · subst hc
    by_cases hp : pos < cells.length
    · have hq : cells[pos]? = some cells[pos] := List.getElem?_eq_getElem hp
      have ha : atI (cells.map P.int) (pos : Int) = some (.int cells[pos]) := atI_nat (by rw [List.getElem?_map, hq]; rfl)
      by_cases h0 : cells[pos] = 0
      · simp [m__law_draw, arF, bodySem_eq, sv__law_draw, g0, g, hp, ha, st0 _ _ _ _ i1, st _ _ _ _ _ _ _ _ i1, st _ _ _ _ _ _ _ _ i2, st _ _ _ _ _ _ _ _ i3, mm, divOk97, dm, hne, SS.draw, SS.load, SS.xs, hq, h0]
      · have h1 : ¬ (if cells[pos] < 0 then -cells[pos] else cells[pos]) = 0 := by split <;> omega
        simp [m__law_draw, arF, bodySem_eq, sv__law_draw, g0, g, hp, ha, st0 _ _ _ _ i1, st _ _ _ _ _ _ _ _ i1, st _ _ _ _ _ _ _ _ i2, st _ _ _ _ _ _ _ _ i3, mm, divOk97, dm, hne, SS.draw, SS.load, SS.xs, hq, h1]
    · have hq : cells[pos]? = none := List.getElem?_eq_none (by omega)
      have hp' : ¬ ((pos : Int) < (cells.length : Int)) := by omega
      simp [m__law_draw, arF, bodySem_eq, sv__law_draw, g0, g, hp, hp', st0 _ _ _ _ i1, st0 _ _ _ _ i3, st _ _ _ _ _ _ _ _ i1, st _ _ _ _ _ _ _ _ i2, st _ _ _ _ _ _ _ _ i3, mm, divOk97, dm, hne, SS.draw, SS.load, SS.xs, hq]
  · simp [m__law_draw, arF, bodySem_eq, sv__law_draw, g0, g, hc, st0 _ _ _ _ i1, st0 _ _ _ _ i3, st _ _ _ _ _ _ _ _ i1, st _ _ _ _ _ _ _ _ i2, st _ _ _ _ _ _ _ _ i3, mm, divOk97, dm, hne, SS.draw, SS.load, SS.xs]
/-- the stream's place -/
def st (s : SS) : Option MO := some (.lst s.xs)
@[simp] theorem st_set {s s' : SS} : (μ.set l (st s)).set l (st s') = μ.set l (st s') := by unfold st; exact List.set_set ..
theorem st_get (h : l < μ.length) {s : SS} : (μ.set l (st s))[l]? = some (some (.lst s.xs)) := List.getElem?_set_self h
theorem draw_ex {s : SS} (many : Int) (hs : s.Ok) (hm : 0 < many := by decide) (hz : many.natAbs.log2 < 9000 := by decide) :
    ∃ v s', SS.Ok s' ∧ 0 ≤ v ∧ v < many ∧ ∀ {μ : Mu} {l : Nat}, l < μ.length → m__law_draw [.loc l, .p (.int many)] (μ.set l (st s)) = some (.ok (.p (.int v)), μ.set l (st s')) :=
  ⟨_, _, (SS.draw_ok hs hm).1, (SS.draw_ok hs hm).2.1, (SS.draw_ok hs hm).2.2, fun h => by
    have e := ev_draw hs (st_get h) hm hz
    unfold st at e ⊢
    rwa [List.set_set] at e⟩
/-- a drawn number -/
def Dr (q : Rat) : Prop := Sz 30 q.num ∧ Sz 20 (q.den : Int)
theorem Dr.bz {q : Rat} (h : Dr q) : Bz 20 q := ⟨by decide, h.1.mono (by decide), h.2⟩
theorem dr_of {x y : Int} (hx : Sz 30 x) (hy : Sz 20 y) (h0 : y ≠ 0) : Dr (Rat.divInt x y) := ⟨num_sz hx, den_sz hy h0⟩
theorem sz_lt {k : Nat} {x : Int} (c : Nat) (h : x.natAbs ≤ c) (hc : c < 2 ^ k := by decide) : Sz k x := Nat.lt_of_le_of_lt h hc
theorem number_ex {s : SS} (hs : s.Ok) : ∃ q s', SS.Ok s' ∧ Dr q ∧ ∀ {μ : Mu} {l : Nat}, l < μ.length → m__law_number [.loc l] (μ.set l (st s)) = some (.ok (.p (pr q)), μ.set l (st s')) := by
  obtain ⟨v, s1, o1, l1, u1, e1⟩ := draw_ex 12 hs
  by_cases h : v = 0
  · subst h
    obtain ⟨x, s2, o2, l2, u2, e2⟩ := draw_ex 1000000000 o1
    obtain ⟨y, s3, o3, l3, u3, e3⟩ := draw_ex 1000000 o2
    have h0 : 1 + y ≠ 0 := by omega
    have zy : Sz 20 (1 + y) := sz_lt 1000000 (by omega)
    refine ⟨Rat.divInt (x - 500000000) (1 + y), s3, o3, dr_of (sz_lt 500000000 (by omega)) zy h0, fun {μ l} hl => ?_⟩
    have p1 : powOk 10 9 = true := by decide
    have p2 : powOk 10 8 = true := by decide
    have p3 : powOk 10 6 = true := by decide
    have m1 : mulOk 5 100000000 = true := by decide
    have e4 := fun ν : Mu => ev_pair (n := x - 500000000) (μ := ν) h0 (zy.mono (by decide))
    simp [m__law_number, arF, bodySem_eq, sv__law_number, e1 hl, e2 hl, e3 hl, e4, p1, p2, p3, m1]
  · obtain ⟨x, s2, o2, l2, u2, e2⟩ := draw_ex 25 o1
    obtain ⟨w, s3, o3, l3, u3, e3⟩ := draw_ex 2 o2
    have hw : w = 0 ∨ w = 1 := by omega
    obtain ⟨k, hk, hk6, hk0⟩ : ∃ k : Int, atI [P.int 1, P.int 6] w = some (.int k) ∧ k ≤ 6 ∧ 0 < k := by
      rcases hw with rfl | rfl
      · exact ⟨1, at_0, by decide, by decide⟩
      · exact ⟨6, at_1, by decide, by decide⟩
    obtain ⟨y, s4, o4, l4, u4, e4⟩ := draw_ex k o3 hk0 (Nat.lt_of_lt_of_le (PySem.Flt.log2_lt_of (k := 10) (by decide) (by omega)) (by decide))
    have h0 : 1 + y ≠ 0 := by omega
    have zy : Sz 20 (1 + y) := sz_lt 7 (by omega)
    refine ⟨Rat.divInt (x - 12) (1 + y), s4, o4, dr_of (sz_lt 25 (by omega)) zy h0, fun {μ l} hl => ?_⟩
    have e5 := fun ν : Mu => ev_pair (n := x - 12) (μ := ν) h0 (zy.mono (by decide))
    simp [m__law_number, arF, bodySem_eq, sv__law_number, e1 hl, e2 hl, e3 hl, e4 hl, e5, h, hk]
theorem some_ex {s : SS} (hs : s.Ok) : ∃ q s', SS.Ok s' ∧ Dr q ∧ 0 < q ∧ ∀ {μ : Mu} {l : Nat}, l < μ.length → m__law_some [.loc l] (μ.set l (st s)) = some (.ok (.p (pr q)), μ.set l (st s')) := by
  obtain ⟨q, s1, o1, d1, e1⟩ := number_ex hs
  have e2 := fun ν : Mu => ev_lsize (μ := ν) (a := q)
  by_cases h : (ab q).num = 0
  · have hq : ab q = 0 := Rat.num_eq_zero.mp h
    refine ⟨1, s1, o1, ⟨sz_lt 1 (by decide), sz_lt 1 (by decide)⟩, by decide +kernel, fun {μ l} hl => ?_⟩
    rw [hq] at e2
    have e3 : pr 0 = .tup [.int 0, .int 1] := rfl
    have e4 : pr 1 = .tup [.int 1, .int 1] := rfl
    rw [e3] at e2
    rw [e4]
    simp [m__law_some, arF, bodySem_eq, sv__law_some, e1 hl, e2]
  · have d2 : Dr (ab q) := by
      refine ⟨?_, by rw [ab_den]; exact d1.2⟩
      rw [ab_num]
      split
      · exact d1.1.neg
      · exact d1.1
    have hp : 0 < ab q := by
      have h1 := ab_nonneg (a := q)
      have h2 : ab q ≠ 0 := fun z => h (by rw [z]; rfl)
      grind
    refine ⟨ab q, s1, o1, d2, hp, fun {μ l} hl => ?_⟩
    have e2 : ∀ ν : Mu, m__law_size [.p (pr q)] ν = some (.ok (.p (.tup [.int (ab q).num, .int ((ab q).den : Int)])), ν) := e2
    show _ = some (Out.ok (D.p (.tup [.int (ab q).num, .int ((ab q).den : Int)])), _)
    simp [m__law_some, arF, bodySem_eq, sv__law_some, e1 hl, e2, h]
end
end Vs
/-! Pieces, positions and speeds. -/
namespace Vs
open PySem PySem.Spec PyProof.Rows L2
section
variable {μ : Mu} {δ : Sl}
theorem evBM_eq {ty : Mu → D → Bool} {f : FM} {o : Ev} {a : EvA} : evBM ty f o a δ μ = bindG (o δ μ) fun x μ1 => if ty μ1 x = true then bindG (a δ μ1) fun ds μ2 => okm (f x ds μ2) else none := rfl
theorem isLst_l {l : Nat} {xs : List P} (h : μ[l]? = some (some (.lst xs))) : isLst μ (.loc l) = true := by
  unfold isLst
  rw [view_l h]
theorem fApp_l {l : Nat} {xs : List P} {y : P} (h : μ[l]? = some (some (.lst xs))) (hl : xs.length < sizeLine) : fApp (.loc l) [.p y] μ = some (.p .non, μ.set l (some (.lst (xs ++ [y])))) := by
  unfold fApp
  dsimp only
  rw [toP_p]
  dsimp only
  rw [cellL_l h]
  dsimp only
  rw [if_pos hl]
theorem get_end {o : Option MO} : (μ ++ [o])[μ.length]? = some o := by simp
theorem is1 {acc : List P} : isLst (μ ++ [some (.lst acc)]) (.loc μ.length) = true := isLst_l get_end
theorem ap1 {acc : List P} {y : P} (h : acc.length < sizeLine) : fApp (.loc μ.length) [.p y] (μ ++ [some (.lst acc)]) = some (.p .non, μ ++ [some (.lst (acc ++ [y]))]) := by
  rw [fApp_l get_end h, set_end rfl]
theorem get_end2 {o : Option MO} {l : Nat} {o2 : Option MO} (h : l < μ.length) : ((μ ++ [o]).set l o2)[μ.length]? = some o := by
  rw [List.getElem?_set_ne (by omega)]; exact get_end
theorem set_end2 {o o' : Option MO} {l : Nat} {o2 : Option MO} (h : l < μ.length) : ((μ ++ [o]).set l o2).set μ.length o' = (μ ++ [o']).set l o2 := by
  rw [List.set_comm _ _ (by omega), set_end rfl]
theorem is2 {acc : List P} {l : Nat} {o2 : Option MO} (h : l < μ.length) : isLst (List.set (μ ++ [some (MO.lst acc)]) l o2) (.loc μ.length) = true := isLst_l (get_end2 h)
theorem ap2 {acc : List P} {y : P} {l : Nat} {o2 : Option MO} (hl : l < μ.length) (h : acc.length < sizeLine) : fApp (.loc μ.length) [.p y] (List.set (μ ++ [some (MO.lst acc)]) l o2) = some (.p .non, List.set (μ ++ [some (MO.lst (acc ++ [y]))]) l o2) := by
  rw [fApp_l (get_end2 hl) h, set_end2 hl]
theorem lt_end {l : Nat} {o : Option MO} (h : l < μ.length) : l < (μ ++ [o]).length := by simp; omega
theorem take_end2 {o : Option MO} {l : Nat} {o2 : Option MO} (h : l < μ.length) : ((μ ++ [o]).set l o2).take μ.length = μ.set l o2 := by
  rw [List.set_append_left _ _ h, show μ.length = (μ.set l o2).length by rw [List.length_set], List.take_left]
theorem line_k {n : Nat} (h : n < 1000) : n < sizeLine := Nat.lt_of_lt_of_le h (by decide)
theorem forL_nx {ts : Tgt} {body : SEv} {x : P} {xs : List P} {δ δ1 δ2 : Sl} {μ μ2 : Mu} (h1 : ts x δ = some δ1) (h2 : body δ1 μ = some (.nx, δ2, μ2)) : forL ts body (x :: xs) δ μ = forL ts body xs δ2 μ2 := by
  rw [forL, h1]; dsimp only; rw [h2]
theorem forL_ret {ts : Tgt} {body : SEv} {x : P} {xs : List P} {δ δ1 δ2 : Sl} {μ μ2 : Mu} {d : D} (h1 : ts x δ = some δ1) (h2 : body δ1 μ = some (.ret d, δ2, μ2)) : forL ts body (x :: xs) δ μ = some (.ret d, δ2, μ2) := by
  rw [forL, h1]; dsimp only; rw [h2]
theorem mk0 {ν : Mu} : evMake 0 2 m_Ratiou_initu [.int 1] (evCons (evC (.int 0)) evNil) δ ν = some (.ok (.p (rat 0)), ν) := by
  have e := e_0 (μ := ν)
  simp [e]
/-! ### the moves -/
def rowR (r : Rat × Rat) : P := .tup [rat r.1, rat r.2]
def rowP (r : Rat × Rat) : P := .tup [pr r.1, pr r.2]
structure Pc where
  (t e p v a : Rat)
def Pc.r (c : Pc) : P := .tup [rat c.t, rat c.e, rat c.p, rat c.v, rat c.a]
def Pc.q (c : Pc) : P := .tup [pr c.t, pr c.e, pr c.p, pr c.v, pr c.a]
def pcs : Rat → Rat → Rat → List (Rat × Rat) → List Pc
  | _, _, _, [] => []
  | t, p, v, r :: rs => ⟨t, t + r.1, p, v, r.2⟩ :: pcs (t + r.1) (rch p v r.2 r.1) (v + r.2 * r.1) rs
def finT : Rat → List (Rat × Rat) → Rat
  | t, [] => t
  | t, r :: rs => finT (t + r.1) rs
def finV : Rat → List (Rat × Rat) → Rat
  | v, [] => v
  | v, r :: rs => finV (v + r.2 * r.1) rs
def finP : Rat → Rat → List (Rat × Rat) → Rat
  | p, _, [] => p
  | p, v, r :: rs => finP (rch p v r.2 r.1) (v + r.2 * r.1) rs
/-- a good run of rows: the sizes, and the last speed is 0 -/
def Good : Rat → List (Rat × Rat) → Prop
  | v, [] => v = 0
  | v, r :: rs => Bz 20 r.1 ∧ 0 < r.1 ∧ Bz 240 r.2 ∧ Bz 210 v ∧ Good (v + r.2 * r.1) rs
theorem Good.bz {v : Rat} {rs : List (Rat × Rat)} (h : Good v rs) : Bz 210 v := by
  cases rs with
  | nil => rw [show v = 0 from h]; exact bz0.mono (by decide)
  | cons r rs => exact h.2.2.2.1
theorem Good.fin : ∀ {rs : List (Rat × Rat)} {v : Rat}, Good v rs → finV v rs = 0
  | [], v, h => h
  | r :: rs, v, h => Good.fin (rs := rs) h.2.2.2.2
theorem pcs_len : ∀ (rs : List (Rat × Rat)) (t p v : Rat), (pcs t p v rs).length = rs.length
  | [], _, _, _ => rfl
  | r :: rs, _, _, _ => congrArg (· + 1) (pcs_len rs _ _ _)
theorem pieces_loop {c0 : Option D} : ∀ (rs : List (Rat × Rat)) (t p v : Rat) (nt np : Nat), Good v rs → Bz nt t → Bz np p → nt + 20 * rs.length ≤ 8000 → np + 512 * rs.length ≤ 8000 → ∀ (acc : List P) (c5 c6 c7 : Option D), acc.length + rs.length ≤ 900 → ∃ c5' c6' c7',
    forL (tgT [5, 6]) lb_pieces_0 (rs.map rowR) [c0, some (.loc μ.length), some (.p (rat t)), some (.p (rat p)), some (.p (rat v)), c5, c6, c7] (μ ++ [some (.lst acc)])
      = some (.nx, [c0, some (.loc μ.length), some (.p (rat (finT t rs))), some (.p (rat (finP p v rs))), some (.p (rat (finV v rs))), c5', c6', c7'], μ ++ [some (.lst (acc ++ (pcs t p v rs).map Pc.r))])
  | [], t, p, v, nt, np, g, ht, hp, h1, h2, acc, c5, c6, c7, hl => ⟨c5, c6, c7, by simp [forL, pcs, finT, finP, finV]⟩
  | r :: rs, t, p, v, nt, np, g, ht, hp, h1, h2, acc, c5, c6, c7, hl => by
    obtain ⟨g1, g2, g3, g4, g5⟩ := g
    simp only [List.length_cons] at h1 h2 hl
    obtain ⟨c5', c6', c7', ih⟩ := pieces_loop (c0 := c0) rs (t + r.1) (rch p v r.2 r.1) (v + r.2 * r.1) (nt + 20) (np + 512) g5 (ht.add g1) ((rch_bz hp g4 g3 g1).mono (by omega)) (by omega) (by omega)
      (acc ++ [Pc.r ⟨t, t + r.1, p, v, r.2⟩]) (some (.p (rat r.1))) (some (.p (rat r.2))) (some (.p (rat (t + r.1)))) (by simp; omega)
    refine ⟨c5', c6', c7', ?_⟩
    have e1 := fun ν : Mu => o_add' (μ := ν) ht g1 (by omega)
    have e2 := fun ν : Mu => o_mul' (μ := ν) g3 g1 (by omega)
    have e3 := fun ν : Mu => o_add' (μ := ν) g4 (g3.mul g1) (by omega)
    have e4 := fun ν : Mu => ev_reached (μ := ν) hp g4 g3 g1 (by omega)
    have e5 : ∀ y, fApp (.loc μ.length) [.p y] (μ ++ [some (.lst acc)]) = some (.p .non, μ ++ [some (.lst (acc ++ [y]))]) := fun y => ap1 (line_k (by omega))
    have e6 : lb_pieces_0 [c0, some (.loc μ.length), some (.p (rat t)), some (.p (rat p)), some (.p (rat v)), some (.p (rat r.1)), some (.p (rat r.2)), c7] (μ ++ [some (.lst acc)])
      = some (.nx, [c0, some (.loc μ.length), some (.p (rat (t + r.1))), some (.p (rat (rch p v r.2 r.1))), some (.p (rat (v + r.2 * r.1))), some (.p (rat r.1)), some (.p (rat r.2)), some (.p (rat (t + r.1)))], μ ++ [some (.lst (acc ++ [Pc.r ⟨t, t + r.1, p, v, r.2⟩]))]) := by
      simp [lb_pieces_0, evBM_eq, is1, e1, e2, e3, e4, e5, Pc.r]
    rw [List.map_cons, forL_nx rfl e6, ih]
    simp only [pcs, finT, finP, finV, List.map_cons, List.append_assoc, List.singleton_append]
/-- a good move -/
def GoodM (rs : List (Rat × Rat)) : Prop := Good 0 rs ∧ rs.length ≤ 6
def mvR (rs : List (Rat × Rat)) : P := .tup (rs.map rowR)
def mvP (rs : List (Rat × Rat)) : P := .lst (rs.map rowP)
theorem ev_pieces {rs : List (Rat × Rat)} (h : GoodM rs) : m_pieces [.p (mvR rs)] μ = some (.ok (.loc μ.length), μ ++ [some (.lst ((pcs 0 0 0 rs).map Pc.r))]) := by
  obtain ⟨g, hl⟩ := h
  obtain ⟨c5, c6, c7, e⟩ := pieces_loop (μ := μ) (c0 := some (.p (mvR rs))) rs 0 0 0 1 1 g bz0 bz0 (by omega) (by omega) [] none none none (by simp; omega)
  have e1 : evIt (evV 0) [some (.p (mvR rs)), some (.loc μ.length), some (.p (rat 0)), some (.p (rat 0)), some (.p (rat 0)), none, none, none] (μ ++ [some (MO.lst [])]) = some (.ok (rs.map rowR), μ ++ [some (MO.lst [])]) := rfl
  have e2 : cellL (μ ++ [some (.lst ((pcs 0 0 0 rs).map Pc.r))]) μ.length = some ((pcs 0 0 0 rs).map Pc.r) := cellL_end rfl
  simp only [List.nil_append] at e
  simp [-evMake_eq, m_pieces, arF, bodySemC_eq, sv_pieces, mk0, e1, e, retC, retLC, e2]
/-! ### the law's pieces -/
theorem lpieces_loop {c0 : Option D} : ∀ (rs : List (Rat × Rat)) (t p v : Rat) (nt np : Nat), Good v rs → Bz nt t → Bz np p → nt + 20 * rs.length ≤ 8000 → np + 512 * rs.length ≤ 8000 → ∀ (acc : List P) (c5 c6 c7 : Option D), acc.length + rs.length ≤ 900 → ∃ c5' c6' c7',
    forL (tgT [5, 6]) lb__law_pieces_0 (rs.map rowP) [c0, some (.loc μ.length), some (.p (pr t)), some (.p (pr p)), some (.p (pr v)), c5, c6, c7] (μ ++ [some (.lst acc)])
      = some (.nx, [c0, some (.loc μ.length), some (.p (pr (finT t rs))), some (.p (pr (finP p v rs))), some (.p (pr (finV v rs))), c5', c6', c7'], μ ++ [some (.lst (acc ++ (pcs t p v rs).map Pc.q))])
  | [], t, p, v, nt, np, g, ht, hp, h1, h2, acc, c5, c6, c7, hl => ⟨c5, c6, c7, by simp [forL, pcs, finT, finP, finV]⟩
  | r :: rs, t, p, v, nt, np, g, ht, hp, h1, h2, acc, c5, c6, c7, hl => by
    obtain ⟨g1, g2, g3, g4, g5⟩ := g
    simp only [List.length_cons] at h1 h2 hl
    obtain ⟨c5', c6', c7', ih⟩ := lpieces_loop (c0 := c0) rs (t + r.1) (rch p v r.2 r.1) (v + r.2 * r.1) (nt + 20) (np + 512) g5 (ht.add g1) ((rch_bz hp g4 g3 g1).mono (by omega)) (by omega) (by omega)
      (acc ++ [Pc.q ⟨t, t + r.1, p, v, r.2⟩]) (some (.p (pr r.1))) (some (.p (pr r.2))) (some (.p (pr (t + r.1)))) (by simp; omega)
    refine ⟨c5', c6', c7', ?_⟩
    have e1 := fun ν : Mu => ev_lsum (μ := ν) ht g1 (by omega)
    have e4 := fun ν : Mu => ev_lafter (μ := ν) hp g4 g3 g1 (by omega)
    have e5 : ∀ y, fApp (.loc μ.length) [.p y] (μ ++ [some (.lst acc)]) = some (.p .non, μ ++ [some (.lst (acc ++ [y]))]) := fun y => ap1 (line_k (by omega))
    have e6 : lb__law_pieces_0 [c0, some (.loc μ.length), some (.p (pr t)), some (.p (pr p)), some (.p (pr v)), some (.p (pr r.1)), some (.p (pr r.2)), c7] (μ ++ [some (.lst acc)])
      = some (.nx, [c0, some (.loc μ.length), some (.p (pr (t + r.1))), some (.p (pr (rch p v r.2 r.1))), some (.p (pr (v + r.2 * r.1))), some (.p (pr r.1)), some (.p (pr r.2)), some (.p (pr (t + r.1)))], μ ++ [some (.lst (acc ++ [Pc.q ⟨t, t + r.1, p, v, r.2⟩]))]) := by
      simp [lb__law_pieces_0, evBM_eq, is1, e1, e4, e5, Pc.q]
    rw [List.map_cons, forL_nx rfl e6, ih]
    simp only [pcs, finT, finP, finV, List.map_cons, List.append_assoc, List.singleton_append]
/-- the pieces and the rest behind them -/
def lpcs (rs : List (Rat × Rat)) : List Pc := pcs 0 0 0 rs ++ [⟨finT 0 rs, finT 0 rs, finP 0 0 rs, 0, 0⟩]
theorem ev_lpieces {rs : List (Rat × Rat)} (h : GoodM rs) : m__law_pieces [.p (mvP rs)] μ = some (.ok (.p (.lst ((lpcs rs).map Pc.q))), μ) := by
  obtain ⟨g, hl⟩ := h
  obtain ⟨c5, c6, c7, e⟩ := lpieces_loop (μ := μ) (c0 := some (.p (mvP rs))) rs 0 0 0 1 1 g bz0 bz0 (by omega) (by omega) [] none none none (by simp; omega)
  have e1 : evIt (evV 0) [some (.p (mvP rs)), some (.loc μ.length), some (.p (pr 0)), some (.p (pr 0)), some (.p (pr 0)), none, none, none] (μ ++ [some (MO.lst [])]) = some (.ok (rs.map rowP), μ ++ [some (MO.lst [])]) := rfl
  have e5 : ∀ y, fApp (.loc μ.length) [.p y] (μ ++ [some (.lst ((pcs 0 0 0 rs).map Pc.q))]) = some (.p .non, μ ++ [some (.lst ((pcs 0 0 0 rs).map Pc.q ++ [y]))]) := fun y => ap1 (line_k (by rw [List.length_map, pcs_len]; omega))
  have e2 : ∀ xs, cellL (μ ++ [some (.lst xs)]) μ.length = some xs := fun xs => cellL_end rfl
  have e0 : P.tup [.int 0, .int 1] = pr 0 := rfl
  simp only [List.nil_append] at e
  simp [m__law_pieces, arF, bodySem_eq, sv__law_pieces, e0, e1, e, evBM_eq, is1, e5, retF, retL, e2, lpcs, Pc.q]
end
end Vs
namespace Vs
open PySem PySem.Spec PyProof.Rows L2
section
variable {μ : Mu} {δ : Sl}
/-! ### sizes of pieces -/
structure PcB (c : Pc) : Prop where
  t : Bz 121 c.t
  e : Bz 121 c.e
  p : Bz 3073 c.p
  v : Bz 210 c.v
  a : Bz 240 c.a
structure PcOk (c : Pc) : Prop extends PcB c where
  d : Bz 20 (c.e - c.t)
  lt : c.t < c.e
theorem pcs_ok : ∀ (rs : List (Rat × Rat)) (t p v : Rat) (nt np : Nat), Good v rs → Bz nt t → Bz np p → nt + 20 * rs.length ≤ 121 → np + 512 * rs.length ≤ 3073 → ∀ c ∈ pcs t p v rs, PcOk c
  | [], _, _, _, _, _, _, _, _, _, _, c, hc => by cases hc
  | r :: rs, t, p, v, nt, np, g, ht, hp, h1, h2, c, hc => by
    obtain ⟨g1, g2, g3, g4, g5⟩ := g
    simp only [List.length_cons] at h1 h2
    rcases List.mem_cons.mp hc with rfl | hc
    · exact { t := ht.mono (by omega), e := (ht.add g1).mono (by omega), p := hp.mono (by omega), v := g4, a := g3, d := by show Bz 20 (t + r.1 - t); rw [show t + r.1 - t = r.1 by grind]; exact g1, lt := by show t < t + r.1; grind }
    · exact pcs_ok rs _ _ _ (nt + 20) (np + 512) g5 (ht.add g1) ((rch_bz hp g4 g3 g1).mono (by omega)) (by omega) (by omega) c hc
theorem fin_bz : ∀ (rs : List (Rat × Rat)) (t p v : Rat) (nt np : Nat), Good v rs → Bz nt t → Bz np p → nt + 20 * rs.length ≤ 121 → np + 512 * rs.length ≤ 3073 → Bz 121 (finT t rs) ∧ Bz 3073 (finP p v rs)
  | [], _, _, _, _, _, _, ht, hp, h1, h2 => ⟨ht.mono (by simp at h1; omega), hp.mono (by simp at h2; omega)⟩
  | r :: rs, t, p, v, nt, np, g, ht, hp, h1, h2 => by
    obtain ⟨g1, g2, g3, g4, g5⟩ := g
    simp only [List.length_cons] at h1 h2
    exact fin_bz rs _ _ _ (nt + 20) (np + 512) g5 (ht.add g1) ((rch_bz hp g4 g3 g1).mono (by omega)) (by omega) (by omega)
theorem GoodM.ok {rs : List (Rat × Rat)} (h : GoodM rs) : ∀ c ∈ pcs 0 0 0 rs, PcOk c := pcs_ok rs 0 0 0 1 1 h.1 bz0 bz0 (by have := h.2; omega) (by have := h.2; omega)
theorem GoodM.fin {rs : List (Rat × Rat)} (h : GoodM rs) : Bz 121 (finT 0 rs) ∧ Bz 3073 (finP 0 0 rs) := fin_bz rs 0 0 0 1 1 h.1 bz0 bz0 (by have := h.2; omega) (by have := h.2; omega)
theorem GoodM.lok {rs : List (Rat × Rat)} (h : GoodM rs) : ∀ c ∈ lpcs rs, PcB c := fun c hc => by
  rcases List.mem_append.mp hc with hc | hc
  · exact (h.ok c hc).toPcB
  · obtain rfl : c = _ := by simpa using hc
    exact ⟨h.fin.1, h.fin.1, h.fin.2, bz0.mono (by decide), bz0.mono (by decide)⟩
/-! ### the length -/
theorem llength_loop {c0 : Option D} : ∀ (rs : List (Rat × Rat)) (t : Rat) (nt : Nat), (∀ r ∈ rs, Bz 20 r.1) → Bz nt t → nt + 20 * rs.length ≤ 8000 → ∀ (c2 : Option D), ∃ c2',
    forL (tgN 2) lb__law_length_0 (rs.map rowP) [c0, some (.p (pr t)), c2] μ = some (.nx, [c0, some (.p (pr (finT t rs))), c2'], μ)
  | [], t, nt, g, ht, h1, c2 => ⟨c2, by simp [forL, finT]⟩
  | r :: rs, t, nt, g, ht, h1, c2 => by
    simp only [List.length_cons] at h1
    have g1 := g r List.mem_cons_self
    obtain ⟨c2', ih⟩ := llength_loop (c0 := c0) rs (t + r.1) (nt + 20) (fun x hx => g x (List.mem_cons_of_mem _ hx)) (ht.add g1) (by omega) (some (.p (rowP r)))
    refine ⟨c2', ?_⟩
    have e1 := fun ν : Mu => ev_lsum (μ := ν) ht g1 (by omega)
    have e6 : lb__law_length_0 [c0, some (.p (pr t)), some (.p (rowP r))] μ = some (.nx, [c0, some (.p (pr (t + r.1))), some (.p (rowP r))], μ) := by
      simp [lb__law_length_0, rowP, e1]
    rw [List.map_cons, forL_nx rfl e6, ih]
    rfl
theorem Good.d20 : ∀ {rs : List (Rat × Rat)} {v : Rat}, Good v rs → ∀ r ∈ rs, Bz 20 r.1
  | [], _, _, r, hr => by cases hr
  | s :: rs, v, g, r, hr => by
    rcases List.mem_cons.mp hr with rfl | hr
    · exact g.1
    · exact Good.d20 g.2.2.2.2 r hr
theorem ev_llength {rs : List (Rat × Rat)} (h : GoodM rs) : m__law_length [.p (mvP rs)] μ = some (.ok (.p (pr (finT 0 rs))), μ) := by
  obtain ⟨c2, e⟩ := llength_loop (μ := μ) (c0 := some (.p (mvP rs))) rs 0 1 h.1.d20 bz0 (by have := h.2; omega) none
  have e1 : evIt (evV 0) [some (.p (mvP rs)), some (.p (pr 0)), none] μ = some (.ok (rs.map rowP), μ) := rfl
  have e0 : P.tup [.int 0, .int 1] = pr 0 := rfl
  simp [m__law_length, arF, bodySem_eq, sv__law_length, e0, e1, e]
theorem length_loop {c0 : Option D} : ∀ (rs : List (Rat × Rat)) (t : Rat) (nt : Nat), (∀ r ∈ rs, Bz 20 r.1) → Bz nt t → nt + 20 * rs.length ≤ 8000 → ∀ (c2 c3 : Option D), ∃ c2' c3',
    forL (tgT [2, 3]) lb_length_0 (rs.map rowR) [c0, some (.p (rat t)), c2, c3] μ = some (.nx, [c0, some (.p (rat (finT t rs))), c2', c3'], μ)
  | [], t, nt, g, ht, h1, c2, c3 => ⟨c2, c3, by simp [forL, finT]⟩
  | r :: rs, t, nt, g, ht, h1, c2, c3 => by
    simp only [List.length_cons] at h1
    have g1 := g r List.mem_cons_self
    obtain ⟨c2', c3', ih⟩ := length_loop (c0 := c0) rs (t + r.1) (nt + 20) (fun x hx => g x (List.mem_cons_of_mem _ hx)) (ht.add g1) (by omega) (some (.p (rat r.1))) (some (.p (rat r.2)))
    refine ⟨c2', c3', ?_⟩
    have e1 := fun ν : Mu => o_add' (μ := ν) ht g1 (by omega)
    have e6 : lb_length_0 [c0, some (.p (rat t)), some (.p (rat r.1)), some (.p (rat r.2))] μ = some (.nx, [c0, some (.p (rat (t + r.1))), some (.p (rat r.1)), some (.p (rat r.2))], μ) := by
      simp [lb_length_0, e1]
    rw [List.map_cons, forL_nx rfl e6, ih]
    rfl
theorem ev_length {rs : List (Rat × Rat)} (h : GoodM rs) : m_length [.p (mvR rs)] μ = some (.ok (.p (rat (finT 0 rs))), μ) := by
  obtain ⟨c2, c3, e⟩ := length_loop (μ := μ) (c0 := some (.p (mvR rs))) rs 0 1 h.1.d20 bz0 (by have := h.2; omega) none none
  have e1 : evIt (evV 0) [some (.p (mvR rs)), some (.p (rat 0)), none, none] μ = some (.ok (rs.map rowR), μ) := rfl
  simp [-evMake_eq, m_length, arF, bodySem_eq, sv_length, mk0, e1, e]
/-! ### the way -/
theorem pcs_last : ∀ (rs : List (Rat × Rat)) (t p v : Rat), rs ≠ [] → ∃ i c, pcs t p v rs = i ++ [c] ∧ rch c.p c.v c.a (c.e - c.t) = finP p v rs
  | [r], t, p, v, _ => ⟨[], ⟨t, t + r.1, p, v, r.2⟩, rfl, by show rch p v r.2 (t + r.1 - t) = rch p v r.2 r.1; rw [show t + r.1 - t = r.1 by grind]⟩
  | r :: s :: rs, t, p, v, _ => by
    obtain ⟨i, c, e1, e2⟩ := pcs_last (s :: rs) (t + r.1) (rch p v r.2 r.1) (v + r.2 * r.1) (by simp)
    exact ⟨⟨t, t + r.1, p, v, r.2⟩ :: i, c, by rw [pcs, e1]; rfl, e2⟩
theorem at_last {xs : List P} {x : P} : atI (xs ++ [x]) (-1) = some x := by
  unfold atI
  have h : ixN (xs ++ [x]).length (-1) = some xs.length := by
    unfold ixN
    simp
    try omega
  rw [h]
  simp
theorem take_app {o : List (Option MO)} : (μ ++ o).take μ.length = μ := List.take_left
theorem ev_way {rs : List (Rat × Rat)} (h : GoodM rs) (h0 : rs ≠ []) : m_way [.p (mvR rs)] μ = some (.ok (.p (rat (finP 0 0 rs))), μ) := by
  obtain ⟨i, c, e1, e2⟩ := pcs_last rs 0 0 0 h0
  have hc : PcOk c := h.ok c (by rw [e1]; simp)
  have e3 := ev_pieces (μ := μ) h
  rw [e1, List.map_append, List.map_singleton] at e3
  have e4 : fIx (.loc μ.length) (.p (.int (-1))) (μ ++ [some (MO.lst (i.map Pc.r ++ [c.r]))]) = some (.p c.r, μ ++ [some (MO.lst (i.map Pc.r ++ [c.r]))]) := by
    rw [fIx_lst (view_l get_end), at_last]; rfl
  have e5 := fun ν : Mu => o_sub' (μ := ν) hc.e hc.t (by decide)
  have e6 := fun ν : Mu => ev_reached (μ := ν) hc.p hc.v hc.a hc.d (by decide)
  rw [e2] at e6
  unfold Pc.r at e3 e4
  simp [m_way, arF, bodySem_eq, sv_way, e3, e4, e5, e6]
end
end Vs
namespace Vs
open PySem PySem.Spec PyProof.Rows L2
section
variable {μ : Mu} {δ : Sl}
/-! ### position and speed, by the program -/
def posL : List Pc → Rat → Option Rat
  | [], _ => none
  | c :: cs, x => if c.e < x then posL cs x else some (rch c.p c.v c.a (x - c.t))
def spdL : List Pc → Rat → Option Rat
  | [], _ => none
  | c :: cs, x => if c.e < x then spdL cs x else some (c.v + c.a * (x - c.t))
def orR : Option Rat → Sl → Sl → Mu → Option (Fl × Sl × Mu)
  | some y, δ, _, μ => some (.ret (.p (rat y)), δ, μ)
  | none, _, δ, μ => some (.nx, δ, μ)
theorem pos_loop {c0 : Option D} {x : Rat} {nx : Nat} (hx : Bz nx x) (hn : nx ≤ 2500) : ∀ (ps : List Pc), (∀ c ∈ ps, PcB c) → ∀ (c2 c3 c4 c5 c6 : Option D), ∃ δ' c2' c3' c4' c5' c6',
    forL (tgT [2, 3, 4, 5, 6]) lb_position_0 (ps.map Pc.r) [c0, some (.p (rat x)), c2, c3, c4, c5, c6] μ = orR (posL ps x) δ' [c0, some (.p (rat x)), c2', c3', c4', c5', c6'] μ
  | [], h, c2, c3, c4, c5, c6 => ⟨[], c2, c3, c4, c5, c6, by simp [forL, posL, orR]⟩
  | c :: ps, h, c2, c3, c4, c5, c6 => by
    have hc := h c List.mem_cons_self
    have e1 := fun ν : Mu => ev_is_less (μ := ν) hc.e hx (by omega)
    have e2 := fun ν : Mu => o_sub' (μ := ν) hx hc.t (by omega)
    have e3 := fun ν : Mu => ev_reached (μ := ν) hc.p hc.v hc.a (hx.sub hc.t) (by omega)
    by_cases q : c.e < x
    · obtain ⟨δ', c2', c3', c4', c5', c6', ih⟩ := pos_loop (c0 := c0) hx hn ps (fun y hy => h y (List.mem_cons_of_mem _ hy)) (some (.p (rat c.t))) (some (.p (rat c.e))) (some (.p (rat c.p))) (some (.p (rat c.v))) (some (.p (rat c.a)))
      refine ⟨δ', c2', c3', c4', c5', c6', ?_⟩
      have e6 : lb_position_0 [c0, some (.p (rat x)), some (.p (rat c.t)), some (.p (rat c.e)), some (.p (rat c.p)), some (.p (rat c.v)), some (.p (rat c.a))] μ
          = some (.nx, [c0, some (.p (rat x)), some (.p (rat c.t)), some (.p (rat c.e)), some (.p (rat c.p)), some (.p (rat c.v)), some (.p (rat c.a))], μ) := by
        simp [lb_position_0, e1, q]
      rw [List.map_cons, forL_nx rfl e6, ih, posL, if_pos q]
    · refine ⟨[c0, some (.p (rat x)), some (.p (rat c.t)), some (.p (rat c.e)), some (.p (rat c.p)), some (.p (rat c.v)), some (.p (rat c.a))], c2, c3, c4, c5, c6, ?_⟩
      have e6 : lb_position_0 [c0, some (.p (rat x)), some (.p (rat c.t)), some (.p (rat c.e)), some (.p (rat c.p)), some (.p (rat c.v)), some (.p (rat c.a))] μ
          = some (.ret (.p (rat (rch c.p c.v c.a (x - c.t)))), [c0, some (.p (rat x)), some (.p (rat c.t)), some (.p (rat c.e)), some (.p (rat c.p)), some (.p (rat c.v)), some (.p (rat c.a))], μ) := by
        simp [lb_position_0, e1, e2, e3, q]
      rw [List.map_cons, forL_ret rfl e6, posL, if_neg q]
      rfl
theorem spd_loop {c0 : Option D} {x : Rat} {nx : Nat} (hx : Bz nx x) (hn : nx ≤ 500) : ∀ (ps : List Pc), (∀ c ∈ ps, PcB c) → ∀ (c2 c3 c4 c5 c6 : Option D), ∃ δ' c2' c3' c4' c5' c6',
    forL (tgT [2, 3, 4, 5, 6]) lb_speed_0 (ps.map Pc.r) [c0, some (.p (rat x)), c2, c3, c4, c5, c6] μ = orR (spdL ps x) δ' [c0, some (.p (rat x)), c2', c3', c4', c5', c6'] μ
  | [], h, c2, c3, c4, c5, c6 => ⟨[], c2, c3, c4, c5, c6, by simp [forL, spdL, orR]⟩
  | c :: ps, h, c2, c3, c4, c5, c6 => by
    have hc := h c List.mem_cons_self
    have e1 := fun ν : Mu => ev_is_less (μ := ν) hc.e hx (by omega)
    have e2 := fun ν : Mu => o_sub' (μ := ν) hx hc.t (by omega)
    have e3 := fun ν : Mu => o_mul' (μ := ν) hc.a (hx.sub hc.t) (by omega)
    have e4 := fun ν : Mu => o_add' (μ := ν) hc.v (hc.a.mul (hx.sub hc.t)) (by omega)
    by_cases q : c.e < x
    · obtain ⟨δ', c2', c3', c4', c5', c6', ih⟩ := spd_loop (c0 := c0) hx hn ps (fun y hy => h y (List.mem_cons_of_mem _ hy)) (some (.p (rat c.t))) (some (.p (rat c.e))) (some (.p (rat c.p))) (some (.p (rat c.v))) (some (.p (rat c.a)))
      refine ⟨δ', c2', c3', c4', c5', c6', ?_⟩
      have e6 : lb_speed_0 [c0, some (.p (rat x)), some (.p (rat c.t)), some (.p (rat c.e)), some (.p (rat c.p)), some (.p (rat c.v)), some (.p (rat c.a))] μ
          = some (.nx, [c0, some (.p (rat x)), some (.p (rat c.t)), some (.p (rat c.e)), some (.p (rat c.p)), some (.p (rat c.v)), some (.p (rat c.a))], μ) := by
        simp [lb_speed_0, e1, q]
      rw [List.map_cons, forL_nx rfl e6, ih, spdL, if_pos q]
    · refine ⟨[c0, some (.p (rat x)), some (.p (rat c.t)), some (.p (rat c.e)), some (.p (rat c.p)), some (.p (rat c.v)), some (.p (rat c.a))], c2, c3, c4, c5, c6, ?_⟩
      have e6 : lb_speed_0 [c0, some (.p (rat x)), some (.p (rat c.t)), some (.p (rat c.e)), some (.p (rat c.p)), some (.p (rat c.v)), some (.p (rat c.a))] μ
          = some (.ret (.p (rat (c.v + c.a * (x - c.t)))), [c0, some (.p (rat x)), some (.p (rat c.t)), some (.p (rat c.e)), some (.p (rat c.p)), some (.p (rat c.v)), some (.p (rat c.a))], μ) := by
        simp [lb_speed_0, e1, e2, e3, e4, q]
      rw [List.map_cons, forL_ret rfl e6, spdL, if_neg q]
      rfl
def posn (rs : List (Rat × Rat)) (x : Rat) : Rat := if x < 0 then 0 else (posL (pcs 0 0 0 rs) x).getD (finP 0 0 rs)
def spd (rs : List (Rat × Rat)) (x : Rat) : Rat := if x < 0 then 0 else (spdL (pcs 0 0 0 rs) x).getD 0
theorem it_pieces {rs : List (Rat × Rat)} {d1 d2 d3 d4 d5 d6 : Option D} (h : GoodM rs) : evIt (evCall m_pieces [] (evCons (evV 0) evNil)) [some (.p (mvR rs)), d1, d2, d3, d4, d5, d6] μ = some (.ok ((pcs 0 0 0 rs).map Pc.r), μ ++ [none]) := by
  have e := ev_pieces (μ := μ) h
  have e2 : cellL (μ ++ [some (MO.lst ((pcs 0 0 0 rs).map Pc.r))]) μ.length = some ((pcs 0 0 0 rs).map Pc.r) := cellL_end rfl
  simp [evIt, e, toP, e2, asList]
theorem ev_position {rs : List (Rat × Rat)} {x : Rat} {nx : Nat} (h : GoodM rs) (h0 : rs ≠ []) (hx : Bz nx x) (hn : nx ≤ 2500) : m_position [.p (mvR rs), .p (rat x)] μ = some (.ok (.p (rat (posn rs x))), μ) := by
  have e1 := fun ν : Mu => ev_is_less (μ := ν) hx bz0 (by omega)
  by_cases q : x < 0
  · simp [-evMake_eq, m_position, arF, bodySem_eq, sv_position, mk0, e1, q, posn]
  · have e2 := it_pieces (μ := μ) (d1 := some (.p (rat x))) (d2 := none) (d3 := none) (d4 := none) (d5 := none) (d6 := none) h
    obtain ⟨δ', c2, c3, c4, c5, c6, e3⟩ := pos_loop (μ := μ ++ [none]) (c0 := some (.p (mvR rs))) hx hn (pcs 0 0 0 rs) (fun c hc => (h.ok c hc).toPcB) none none none none none
    have e4 := fun ν : Mu => ev_way (μ := ν) h h0
    generalize hp : posL (pcs 0 0 0 rs) x = o at e3
    have e5 : posn rs x = o.getD (finP 0 0 rs) := by unfold posn; rw [if_neg q, hp]
    rw [e5]
    have e6 : List.take μ.length (μ ++ [none]) = μ := List.take_left
    cases o with
    | none => simp [-evMake_eq, m_position, arF, bodySem_eq, sv_position, mk0, e1, q, e2, e3, orR, e4, e6]
    | some y => simp [-evMake_eq, m_position, arF, bodySem_eq, sv_position, mk0, e1, q, e2, e3, orR, e6]
theorem ev_speed {rs : List (Rat × Rat)} {x : Rat} {nx : Nat} (h : GoodM rs) (hx : Bz nx x) (hn : nx ≤ 500) : m_speed [.p (mvR rs), .p (rat x)] μ = some (.ok (.p (rat (spd rs x))), μ) := by
  have e1 := fun ν : Mu => ev_is_less (μ := ν) hx bz0 (by omega)
  by_cases q : x < 0
  · simp [-evMake_eq, m_speed, arF, bodySem_eq, sv_speed, mk0, e1, q, spd]
  · have e2 := it_pieces (μ := μ) (d1 := some (.p (rat x))) (d2 := none) (d3 := none) (d4 := none) (d5 := none) (d6 := none) h
    obtain ⟨δ', c2, c3, c4, c5, c6, e3⟩ := spd_loop (μ := μ ++ [none]) (c0 := some (.p (mvR rs))) hx hn (pcs 0 0 0 rs) (fun c hc => (h.ok c hc).toPcB) none none none none none
    generalize hp : spdL (pcs 0 0 0 rs) x = o at e3
    have e5 : spd rs x = o.getD 0 := by unfold spd; rw [if_neg q, hp]
    rw [e5]
    have e6 : List.take μ.length (μ ++ [none]) = μ := List.take_left
    cases o with
    | none => simp [-evMake_eq, m_speed, arF, bodySem_eq, sv_speed, mk0, e1, q, e2, e3, orR, e6]
    | some y => simp [-evMake_eq, m_speed, arF, bodySem_eq, sv_speed, mk0, e1, q, e2, e3, orR, e6]
/-! ### the law's state -/
def stL : List Pc → Rat → Rat × Rat → Rat × Rat
  | [], _, w => w
  | c :: cs, x, w => stL cs x (if x < c.t then w else (rch c.p c.v c.a (x - c.t), c.v + c.a * (x - c.t)))
def wP (w : Rat × Rat) : P := .lst [pr w.1, pr w.2]
theorem st_loop {c0 : Option D} {x : Rat} {nx : Nat} (hx : Bz nx x) (hn : nx ≤ 500) : ∀ (ps : List Pc), (∀ c ∈ ps, PcB c) → ∀ (w : Rat × Rat) (c3 c4 c5 c6 c7 c8 : Option D), ∃ c3' c4' c5' c6' c7' c8',
    forL (tgT [3, 4, 5, 6, 7]) lb__law_state_0 (ps.map Pc.q) [c0, some (.p (pr x)), some (.p (wP w)), c3, c4, c5, c6, c7, c8] μ = some (.nx, [c0, some (.p (pr x)), some (.p (wP (stL ps x w))), c3', c4', c5', c6', c7', c8'], μ)
  | [], h, w, c3, c4, c5, c6, c7, c8 => ⟨c3, c4, c5, c6, c7, c8, by simp [forL, stL]⟩
  | c :: ps, h, w, c3, c4, c5, c6, c7, c8 => by
    have hc := h c List.mem_cons_self
    have e1 := fun ν : Mu => ev_lless (μ := ν) hx hc.t (by omega)
    have e2 := fun ν : Mu => ev_lsum (μ := ν) hx hc.t.neg (by omega)
    have e3 := fun ν : Mu => ev_lafter (μ := ν) hc.p hc.v hc.a (hx.sub hc.t) (by omega)
    have e4 := fun ν : Mu => ev_lminus (μ := ν) (a := c.t)
    rw [← Rat.sub_eq_add_neg] at e2
    by_cases q : x < c.t
    · obtain ⟨c3', c4', c5', c6', c7', c8', ih⟩ := st_loop (c0 := c0) hx hn ps (fun y hy => h y (List.mem_cons_of_mem _ hy)) w (some (.p (pr c.t))) (some (.p (pr c.e))) (some (.p (pr c.p))) (some (.p (pr c.v))) (some (.p (pr c.a))) c8
      refine ⟨c3', c4', c5', c6', c7', c8', ?_⟩
      have e6 : lb__law_state_0 [c0, some (.p (pr x)), some (.p (wP w)), some (.p (pr c.t)), some (.p (pr c.e)), some (.p (pr c.p)), some (.p (pr c.v)), some (.p (pr c.a)), c8] μ
          = some (.nx, [c0, some (.p (pr x)), some (.p (wP w)), some (.p (pr c.t)), some (.p (pr c.e)), some (.p (pr c.p)), some (.p (pr c.v)), some (.p (pr c.a)), c8], μ) := by
        simp [lb__law_state_0, e1, q]
      rw [List.map_cons, forL_nx rfl e6, ih, stL, if_pos q]
    · obtain ⟨c3', c4', c5', c6', c7', c8', ih⟩ := st_loop (c0 := c0) hx hn ps (fun y hy => h y (List.mem_cons_of_mem _ hy)) (rch c.p c.v c.a (x - c.t), c.v + c.a * (x - c.t)) (some (.p (pr c.t))) (some (.p (pr c.e))) (some (.p (pr c.p))) (some (.p (pr c.v))) (some (.p (pr c.a))) (some (.p (pr (x - c.t))))
      refine ⟨c3', c4', c5', c6', c7', c8', ?_⟩
      have e6 : lb__law_state_0 [c0, some (.p (pr x)), some (.p (wP w)), some (.p (pr c.t)), some (.p (pr c.e)), some (.p (pr c.p)), some (.p (pr c.v)), some (.p (pr c.a)), c8] μ
          = some (.nx, [c0, some (.p (pr x)), some (.p (wP (rch c.p c.v c.a (x - c.t), c.v + c.a * (x - c.t)))), some (.p (pr c.t)), some (.p (pr c.e)), some (.p (pr c.p)), some (.p (pr c.v)), some (.p (pr c.a)), some (.p (pr (x - c.t)))], μ) := by
        simp [lb__law_state_0, e1, e2, e3, e4, q, wP]
      rw [List.map_cons, forL_nx rfl e6, ih, stL, if_neg q]
theorem ev_lstate0 {rs : List (Rat × Rat)} {x : Rat} {nx : Nat} (h : GoodM rs) (hx : Bz nx x) (hn : nx ≤ 500) : m__law_state [.p (mvP rs), .p (pr x)] μ = some (.ok (.p (wP (stL (lpcs rs) x (0, 0)))), μ) := by
  obtain ⟨c3, c4, c5, c6, c7, c8, e⟩ := st_loop (μ := μ) (c0 := some (.p (mvP rs))) hx hn (lpcs rs) h.lok (0, 0) none none none none none none
  have e0 : P.lst [.tup [.int 0, .int 1], .tup [.int 0, .int 1]] = wP (0, 0) := rfl
  have e1 := ev_lpieces (μ := μ) h
  have e2 : evIt (evCall m__law_pieces [] (evCons (evV 0) evNil)) [some (.p (mvP rs)), some (.p (pr x)), some (.p (wP (0, 0))), none, none, none, none, none, none] μ = some (.ok ((lpcs rs).map Pc.q), μ) := by
    simp [evIt, e1, asList]
  simp [m__law_state, arF, bodySem_eq, sv__law_state, e0, e2, e]
/-- both are the same -/
theorem stL_less : ∀ (rs : List (Rat × Rat)) (t p v x : Rat) (w : Rat × Rat) (P' : Rat), Good v rs → x < t → stL (pcs t p v rs ++ [⟨finT t rs, finT t rs, P', 0, 0⟩]) x w = w
  | [], t, p, v, x, w, P', g, h => by
    show (if x < t then w else _) = w
    rw [if_pos h]
  | r :: rs, t, p, v, x, w, P', g, h => by
    have h2 : x < t + r.1 := by have := g.2.1; grind
    show stL (pcs (t + r.1) _ _ rs ++ [⟨finT (t + r.1) rs, finT (t + r.1) rs, P', 0, 0⟩]) x (if x < t then w else _) = w
    rw [if_pos h, stL_less rs _ _ _ x w P' g.2.2.2.2 h2]
theorem pos_at : ∀ (rs : List (Rat × Rat)) (t p v : Rat), Good v rs → (posL (pcs t p v rs) t).getD (finP p v rs) = p ∧ (spdL (pcs t p v rs) t).getD 0 = v
  | [], t, p, v, g => ⟨rfl, (show v = 0 from g).symm⟩
  | r :: rs, t, p, v, g => by
    have h : ¬ (t + r.1 < t) := by have := g.2.1; grind
    refine ⟨?_, ?_⟩
    · show (if t + r.1 < t then _ else some (rch p v r.2 (t - t))).getD _ = p
      rw [if_neg h]
      show rch p v r.2 (t - t) = p
      unfold rch
      grind
    · show (if t + r.1 < t then _ else some (v + r.2 * (t - t))).getD _ = v
      rw [if_neg h]
      show v + r.2 * (t - t) = v
      grind
theorem stL_eq : ∀ (rs : List (Rat × Rat)) (t p v x : Rat) (w : Rat × Rat), Good v rs → t ≤ x → stL (pcs t p v rs ++ [⟨finT t rs, finT t rs, finP p v rs, 0, 0⟩]) x w = ((posL (pcs t p v rs) x).getD (finP p v rs), (spdL (pcs t p v rs) x).getD 0)
  | [], t, p, v, x, w, g, h => by
    show (if x < t then w else (rch p 0 0 (x - t), 0 + 0 * (x - t))) = (p, 0)
    rw [if_neg (by grind)]
    have e1 : rch p 0 0 (x - t) = p := by unfold rch; grind
    have e2 : (0 : Rat) + 0 * (x - t) = 0 := by grind
    rw [e1, e2]
  | r :: rs, t, p, v, x, w, g, h => by
    have hd := g.2.1
    show stL (pcs (t + r.1) (rch p v r.2 r.1) (v + r.2 * r.1) rs ++ [⟨finT (t + r.1) rs, finT (t + r.1) rs, finP (rch p v r.2 r.1) (v + r.2 * r.1) rs, 0, 0⟩]) x (if x < t then w else (rch p v r.2 (x - t), v + r.2 * (x - t)))
      = ((if t + r.1 < x then posL (pcs (t + r.1) (rch p v r.2 r.1) (v + r.2 * r.1) rs) x else some (rch p v r.2 (x - t))).getD (finP (rch p v r.2 r.1) (v + r.2 * r.1) rs), (if t + r.1 < x then spdL (pcs (t + r.1) (rch p v r.2 r.1) (v + r.2 * r.1) rs) x else some (v + r.2 * (x - t))).getD 0)
    rw [if_neg (show ¬ x < t by grind)]
    by_cases q : t + r.1 < x
    · rw [if_pos q, if_pos q]
      exact stL_eq rs _ _ _ x _ g.2.2.2.2 (by grind)
    · rw [if_neg q, if_neg q]
      by_cases q2 : x < t + r.1
      · rw [stL_less rs _ _ _ x _ _ g.2.2.2.2 q2]
        rfl
      · obtain rfl : x = t + r.1 := by grind
        rw [stL_eq rs _ _ _ _ _ g.2.2.2.2 (by grind), (pos_at rs _ _ _ g.2.2.2.2).1, (pos_at rs _ _ _ g.2.2.2.2).2]
        show (rch p v r.2 r.1, v + r.2 * r.1) = (rch p v r.2 (t + r.1 - t), v + r.2 * (t + r.1 - t))
        rw [show t + r.1 - t = r.1 by grind]
theorem stL_all {rs : List (Rat × Rat)} (h : GoodM rs) (x : Rat) : stL (lpcs rs) x (0, 0) = (posn rs x, spd rs x) := by
  by_cases q : x < 0
  · unfold posn spd lpcs
    rw [if_pos q, if_pos q]
    exact stL_less rs 0 0 0 x _ _ h.1 q
  · unfold posn spd lpcs
    rw [if_neg q, if_neg q]
    exact stL_eq rs 0 0 0 x _ h.1 (by grind)
theorem ev_lstate {rs : List (Rat × Rat)} {x : Rat} {nx : Nat} (h : GoodM rs) (hx : Bz nx x) (hn : nx ≤ 500) : m__law_state [.p (mvP rs), .p (pr x)] μ = some (.ok (.p (.lst [pr (posn rs x), pr (spd rs x)])), μ) := by
  rw [ev_lstate0 h hx hn, stL_all h]
  rfl
/-! ### sizes of positions and speeds -/
theorem posL_bz {x : Rat} {nx : Nat} (hx : Bz nx x) : ∀ (ps : List Pc), (∀ c ∈ ps, PcB c) → ∀ y, posL ps x = some y → Bz (3767 + 2 * nx) y
  | [], _, _, e => by cases e
  | c :: ps, h, y, e => by
    have hc := h c List.mem_cons_self
    unfold posL at e
    split at e
    · exact posL_bz hx ps (fun z hz => h z (List.mem_cons_of_mem _ hz)) y e
    · cases e
      exact (rch_bz hc.p hc.v hc.a (hx.sub hc.t)).mono (by omega)
theorem spdL_bz {x : Rat} {nx : Nat} (hx : Bz nx x) : ∀ (ps : List Pc), (∀ c ∈ ps, PcB c) → ∀ y, spdL ps x = some y → Bz (571 + nx) y
  | [], _, _, e => by cases e
  | c :: ps, h, y, e => by
    have hc := h c List.mem_cons_self
    unfold spdL at e
    split at e
    · exact spdL_bz hx ps (fun z hz => h z (List.mem_cons_of_mem _ hz)) y e
    · cases e
      exact (hc.v.add (hc.a.mul (hx.sub hc.t))).mono (by omega)
theorem posn_bz {rs : List (Rat × Rat)} {x : Rat} {nx : Nat} (h : GoodM rs) (hx : Bz nx x) : Bz (3767 + 2 * nx) (posn rs x) := by
  unfold posn
  split
  · exact bz0.mono (by omega)
  · cases q : posL (pcs 0 0 0 rs) x with
    | none => exact h.fin.2.mono (by omega)
    | some y => exact posL_bz hx _ (fun c hc => (h.ok c hc).toPcB) y q
theorem spd_bz {rs : List (Rat × Rat)} {x : Rat} {nx : Nat} (h : GoodM rs) (hx : Bz nx x) : Bz (571 + nx) (spd rs x) := by
  unfold spd
  split
  · exact bz0.mono (by omega)
  · cases q : spdL (pcs 0 0 0 rs) x with
    | none => exact bz0.mono (by omega)
    | some y => exact spdL_bz hx _ (fun c hc => (h.ok c hc).toPcB) y q
end
end Vs
/-! The drawn moves and times. -/
namespace Vs
open PySem PySem.Spec PyProof.Rows L2
section
variable {δ : Sl}
theorem lcL_map {A : Type} {ts : Tgt} {e : Ev} {δ0 : Sl} {μ : Mu} (g f : A → P) : ∀ (as : List A) (acc : List P), (∀ a ∈ as, ∃ δ1, ts (g a) δ0 = some δ1 ∧ ∀ ν, e δ1 ν = some (.ok (.p (f a)), ν)) → acc.length + as.length ≤ sizeLine →
    lcL ts evTrue e δ0 μ.length (as.map g) (μ ++ [some (.lst acc)]) = some (μ ++ [some (.lst (acc ++ as.map f))])
  | [], acc, h, hl => by simp [lcL]
  | x :: xs, acc, h, hl => by
    obtain ⟨δ1, h1, h2⟩ := h x List.mem_cons_self
    have hl' : acc.length < sizeLine := by simp at hl; omega
    have ih := lcL_map (e := e) (μ := μ) g f xs (acc ++ [f x]) (fun y hy => h y (List.mem_cons_of_mem _ hy)) (by simp at hl ⊢; omega)
    rw [List.map_cons]
    unfold lcL
    rw [h1]
    dsimp only
    rw [evTrue_eq]
    dsimp only
    rw [h2]
    dsimp only
    rw [toP_p]
    dsimp only
    rw [cellL_end rfl]
    dsimp only
    rw [if_pos hl', set_end rfl, ih, List.append_assoc]
    rfl
theorem lc_map {A : Type} {it : EvG (List P)} {ts : Tgt} {e : Ev} {vs : List Nat} {μ ν : Mu} {as : List A} (g f : A → P) (hi : it δ μ = some (.ok (as.map g), ν)) (h : ∀ a ∈ as, ∃ δ1, ts (g a) (wipeS δ vs) = some δ1 ∧ ∀ ν, e δ1 ν = some (.ok (.p (f a)), ν)) (hl : as.length ≤ sizeLine) :
    evLc it ts evTrue e vs δ μ = some (.ok (.p (.lst (as.map f))), ν) := by
  rw [evLc_eq, hi, bindG_ok, lcL_map g f as [] h (by simpa using hl)]
  unfold lcEnd
  dsimp only
  rw [cellL_end rfl]
  dsimp only
  rw [List.take_left, List.nil_append]
theorem rng_small {v : Int} (h : 0 ≤ v) (h2 : v < 1000) : rngOk v = true := by
  unfold rngOk
  rw [Bool.and_eq_true]
  exact ⟨decide_eq_true (by omega), decide_eq_true (by omega)⟩
theorem set_app {μ : Mu} {l : Nat} {o c : Option MO} (h : l < μ.length) : μ.set l o ++ [c] = (μ ++ [c]).set l o := (List.set_append_left _ _ h).symm
theorem cell_end2 {μ : Mu} {l : Nat} {o : Option MO} {xs : List P} (h : l < μ.length) : cellL (List.set (μ ++ [some (MO.lst xs)]) l o) μ.length = some xs := cellL_l (get_end2 h)
/-! ### moves -/
structure RowD (r : Rat × Rat) : Prop where
  d : Dr r.1
  pos : 0 < r.1
  a : Dr r.2
theorem move_loop : ∀ (xs : List P) (s : SS) (w : Rat) (n : Nat), s.Ok → Bz n w → n + 40 * xs.length ≤ 8000 → ∃ (new : List (Rat × Rat)) (s' : SS), s'.Ok ∧ (∀ r ∈ new, RowD r) ∧ new.length = xs.length ∧
    ∀ {μ : Mu} {l : Nat}, l < μ.length → ∀ (acc : List P) (c3 c4 c5 : Option D), acc.length + xs.length ≤ 900 → ∃ c3' c4',
      forL (tgN 3) lb__law_move_0 xs [some (.loc l), some (.loc μ.length), some (.p (pr w)), c3, c4, c5] (List.set (μ ++ [some (MO.lst acc)]) l (st s))
        = some (.nx, [some (.loc l), some (.loc μ.length), some (.p (pr (finV w new))), c3', c4', c5], List.set (μ ++ [some (MO.lst (acc ++ new.map rowP))]) l (st s'))
  | [], s, w, n, hs, hw, hn => ⟨[], s, hs, (by intro r hr; cases hr), rfl, fun hl acc c3 c4 c5 ha => ⟨c3, c4, by simp [forL, finV]⟩⟩
  | x :: xs, s, w, n, hs, hw, hn => by
    simp only [List.length_cons] at hn
    obtain ⟨d, s1, o1, d1, p1, e1⟩ := some_ex hs
    obtain ⟨a, s2, o2, d2, e2⟩ := number_ex o1
    obtain ⟨new, s', o', r', l', ih⟩ := move_loop xs s2 (w + a * d) (n + 40) o2 ((hw.add (d2.bz.mul d1.bz)).mono (by omega)) (by omega)
    refine ⟨(d, a) :: new, s', o', fun r hr => ?_, by simp [l'], fun {μ l} hl acc c3 c4 c5 ha => ?_⟩
    · rcases List.mem_cons.mp hr with rfl | hr
      · exact ⟨d1, p1, d2⟩
      · exact r' r hr
    · simp only [List.length_cons] at ha
      obtain ⟨c3', c4', ih⟩ := ih hl (acc ++ [rowP (d, a)]) (some (.p x)) (some (.p (rowP (d, a)))) c5 (by simp; omega)
      refine ⟨c3', c4', ?_⟩
      have f1 := e1 (lt_end (o := some (MO.lst acc)) hl)
      have f2 := e2 (lt_end (o := some (MO.lst acc)) hl)
      have e3 := fun ν : Mu => ev_ltimes (μ := ν) d1.bz d2.bz (by decide)
      have e4 := fun ν : Mu => ev_lsum (μ := ν) hw (d1.bz.mul d2.bz) (by omega)
      have e5 : ∀ y, fApp (.loc μ.length) [.p y] (List.set (μ ++ [some (MO.lst acc)]) l (st s2)) = some (.p .non, List.set (μ ++ [some (MO.lst (acc ++ [y]))]) l (st s2)) := fun y => ap2 hl (line_k (by omega))
      have e7 : isLst (List.set (μ ++ [some (MO.lst acc)]) l (st s2)) (.loc μ.length) = true := is2 hl
      rw [show d * a = a * d from Rat.mul_comm _ _] at e3 e4
      have e6 : lb__law_move_0 [some (.loc l), some (.loc μ.length), some (.p (pr w)), some (.p x), c4, c5] (List.set (μ ++ [some (MO.lst acc)]) l (st s))
          = some (.nx, [some (.loc l), some (.loc μ.length), some (.p (pr (w + a * d))), some (.p x), some (.p (rowP (d, a))), c5], List.set (μ ++ [some (MO.lst (acc ++ [rowP (d, a)]))]) l (st s2)) := by
        simp only [rowP] at *
        simp [lb__law_move_0, evBM_eq, f1, f2, e3, e4, e5, e7]
      rw [forL_nx rfl e6, ih]
      simp only [finV, List.map_cons, List.append_assoc, List.singleton_append]
theorem good_of {d : Rat} (hd : Dr d) (hp : 0 < d) : ∀ (new : List (Rat × Rat)) (w : Rat) (n : Nat), (∀ r ∈ new, RowD r) → Bz n w → n + 40 * new.length ≤ 201 → Good w (new ++ [(d, -(finV w new / d))])
  | [], w, n, h, hw, hn => by
    have h0 : d ≠ 0 := by grind
    refine ⟨hd.bz, hp, ?_, hw.mono (by simp at hn; omega), ?_⟩
    · exact ((hw.div hd.bz hd.1 h0 (by decide)).neg).mono (by simp at hn; omega)
    · show w + -(w / d) * d = 0
      have e : w / d * d = w := Rat.div_mul_cancel h0
      grind
  | r :: new, w, n, h, hw, hn => by
    simp only [List.length_cons] at hn
    have hr := h r List.mem_cons_self
    exact ⟨hr.d.bz, hr.pos, hr.a.bz.mono (by decide), hw.mono (by omega), good_of hd hp new (w + r.2 * r.1) (n + 40) (fun x hx => h x (List.mem_cons_of_mem _ hx)) ((hw.add (hr.a.bz.mul hr.d.bz)).mono (by omega)) (by omega)⟩
theorem finV_bz : ∀ (new : List (Rat × Rat)) (w : Rat) (n : Nat), (∀ r ∈ new, RowD r) → Bz n w → Bz (n + 40 * new.length) (finV w new)
  | [], w, n, h, hw => hw.mono (by simp)
  | r :: new, w, n, h, hw => by
    have hr := h r List.mem_cons_self
    exact (finV_bz new (w + r.2 * r.1) (n + 40) (fun x hx => h x (List.mem_cons_of_mem _ hx)) ((hw.add (hr.a.bz.mul hr.d.bz)).mono (by omega))).mono (by simp; omega)
theorem move_ex {s : SS} (hs : s.Ok) : ∃ rs s', SS.Ok s' ∧ GoodM rs ∧ rs ≠ [] ∧ ∀ {μ : Mu} {l : Nat}, l < μ.length → m__law_move [.loc l] (μ.set l (st s)) = some (.ok (.p (mvP rs)), μ.set l (st s')) := by
  obtain ⟨v, s1, o1, l1, u1, e1⟩ := draw_ex 6 hs
  have hlen : (rangeP 0 v.toNat).length ≤ 5 := by simp [rangeP]; omega
  obtain ⟨new, s2, o2, r2, n2, e2⟩ := move_loop (rangeP 0 v.toNat) s1 0 1 o1 bz0 (by omega)
  obtain ⟨d, s3, o3, d3, p3, e3⟩ := some_ex o2
  have h0 : d ≠ 0 := by grind
  refine ⟨new ++ [(d, -(finV 0 new / d))], s3, o3, ⟨good_of d3 p3 new 0 1 r2 bz0 (by omega), by simp; omega⟩, by simp, fun {μ l} hl => ?_⟩
  have hr := rng_small l1 (by omega)
  have hv := (finV_bz new 0 1 r2 bz0).mono (m := 201) (by omega)
  have f1 := e1 (lt_end (o := some (MO.lst [])) hl)
  obtain ⟨c3, c4, f2⟩ := e2 hl [] none none none (by simp; omega)
  rw [List.nil_append] at f2
  have f3 := e3 (lt_end (o := some (MO.lst (new.map rowP))) hl)
  have e4 := fun ν : Mu => ev_lover (μ := ν) hv d3.bz d3.1 h0 (by decide) (by decide)
  have e5 := fun ν : Mu => ev_lminus (μ := ν) (a := finV 0 new / d)
  have e6 : ∀ y, fApp (.loc μ.length) [.p y] (List.set (μ ++ [some (MO.lst (new.map rowP))]) l (st s3)) = some (.p .non, List.set (μ ++ [some (MO.lst (new.map rowP ++ [y]))]) l (st s3)) := fun y => ap2 hl (line_k (by rw [List.length_map]; omega))
  have e7 : isLst (List.set (μ ++ [some (MO.lst (new.map rowP))]) l (st s3)) (.loc μ.length) = true := is2 hl
  have e8 : ∀ xs, cellL (List.set (μ ++ [some (MO.lst xs)]) l (st s3)) μ.length = some xs := fun xs => cell_end2 hl
  have e9 : ∀ xs, List.take μ.length (List.set (μ ++ [some (MO.lst xs)]) l (st s3)) = μ.set l (st s3) := fun xs => take_end2 hl
  have e0 : P.tup [.int 0, .int 1] = pr 0 := rfl
  simp [m__law_move, arF, bodySem_eq, sv__law_move, evBM_eq, set_app hl, e0, f1, hr, f2, f3, e4, e5, e6, e7, retF, retL, e8, e9, mvP, rowP]
theorem ev_lmade {rs : List (Rat × Rat)} {μ : Mu} (h : GoodM rs) : m__law_made [.p (mvP rs)] μ = some (.ok (.p (mvR rs)), μ) := by
  have hb : ∀ (rs : List (Rat × Rat)) (v : Rat), Good v rs → ∀ r ∈ rs, Bz 20 r.1 ∧ Bz 240 r.2 := by
    intro rs
    induction rs with
    | nil => intro v g r hr; cases hr
    | cons x xs ih =>
      intro v g r hr
      rcases List.mem_cons.mp hr with rfl | hr
      · exact ⟨g.1, g.2.2.1⟩
      · exact ih _ g.2.2.2.2 r hr
  have e := lc_map (δ := [some (.p (mvP rs)), none]) (ts := tgN 1) (vs := [1]) (μ := μ) (ν := μ) (as := rs) (it := evIt (evV 0))
    (e := (evTup (evCons (evCall m__law_ratio [] (evCons (evBin fIx (evV 1) (evC (.int 0))) evNil)) (evCons (evCall m__law_ratio [] (evCons (evBin fIx (evV 1) (evC (.int 1))) evNil)) evNil))))
    rowP rowR rfl (fun r hr => by
      obtain ⟨h1, h2⟩ := hb rs 0 h.1 r hr
      refine ⟨_, rfl, fun ν => ?_⟩
      have e1 := fun ν : Mu => ev_lratio (μ := ν) h1 (by decide)
      have e2 := fun ν : Mu => ev_lratio (μ := ν) h2 (by decide)
      simp [rowP, rowR, e1, e2]) (Nat.le_trans h.2 (by decide))
  have e2 : ∀ xs, fTupOf [.p (.lst xs)] μ = some (.p (.tup xs), μ) := fun xs => rfl
  simp [-evLc_eq, m__law_made, arF, bodySem_eq, sv__law_made, e, e2, mvR]
/-! ### times -/
theorem e_sum1 {a b : Rat} {n m : Nat} (ha : Bz n a) (hb : Bz m b) (h : n + m ≤ 9000) (ν : Mu) : m__law_sum [.p (pr a), .p (pr b)] ν = some (.ok (.p (pr (a + b))), ν) := ev_lsum ha hb h
theorem time_ex {rs : List (Rat × Rat)} (h : GoodM rs) {s : SS} (hs : s.Ok) : ∃ q s', SS.Ok s' ∧ Bz 260 q ∧ ∀ {μ : Mu} {l : Nat}, l < μ.length → m__law_time [.loc l, .p (mvP rs)] (μ.set l (st s)) = some (.ok (.p (pr q)), μ.set l (st s')) := by
  obtain ⟨v, s1, o1, l1, u1, e1⟩ := draw_ex 6 hs
  have hlen : (lpcs rs).length ≤ 7 := by unfold lpcs; rw [List.length_append, pcs_len]; have := h.2; simp; omega
  have hlen0 : 0 < (lpcs rs).length := by unfold lpcs; simp
  obtain ⟨i, s2, o2, l2, u2, e2⟩ := draw_ex ((lpcs rs).length : Int) o1 (by omega) (Nat.lt_of_lt_of_le (PySem.Flt.log2_lt_of (k := 10) (by decide) (by omega)) (by decide))
  obtain ⟨j, rfl⟩ : ∃ j : Nat, i = (j : Int) := ⟨i.toNat, by omega⟩
  have hj : j < (lpcs rs).length := by omega
  have hc := h.lok (lpcs rs)[j] (List.getElem_mem hj)
  generalize hcc : (lpcs rs)[j] = c at hc
  have hat : atI ((lpcs rs).map fun c => pr c.t) (j : Int) = some (pr c.t) := atI_nat (by rw [List.getElem?_map, List.getElem?_eq_getElem hj, hcc]; rfl)
  have hm : ∀ {μ : Mu} {d0 d2 d3 d4 d5 : Option D}, evLc (evIt (evCall m__law_pieces [] (evCons (evV 1) evNil))) (tgN 4) evTrue (evBin fIx (evV 4) (evC (.int 0))) [4] [d0, some (.p (mvP rs)), d2, d3, d4, d5] μ = some (.ok (.p (.lst ((lpcs rs).map fun c => pr c.t))), μ) := fun {μ d0 d2 d3 d4 d5} => by
    have e := ev_lpieces (μ := μ) h
    refine lc_map Pc.q (fun c => pr c.t) (by simp [evIt, e, asList]) (fun c hc => ⟨_, rfl, fun ν => ?_⟩) (Nat.le_trans hlen (by decide))
    simp [Pc.q]
  have hnat : v = 0 ∨ v = 1 ∨ v = 2 ∨ v = 3 ∨ (v ≠ 0 ∧ v ≠ 1 ∧ v ≠ 2 ∧ v ≠ 3) := by omega
  rcases hnat with rfl | rfl | rfl | rfl | ⟨v0, v1, v2, v3⟩
  · obtain ⟨q, s3, o3, d3, e3⟩ := number_ex o2
    refine ⟨q, s3, o3, d3.bz.mono (by decide), fun {μ l} hl => ?_⟩
    simp [-evLc_eq, m__law_time, arF, bodySem_eq, sv__law_time, e1 hl, hm, e2 hl, e3 hl, hat]
  · refine ⟨c.t, s2, o2, hc.t.mono (by decide), fun {μ l} hl => ?_⟩
    simp [-evLc_eq, m__law_time, arF, bodySem_eq, sv__law_time, e1 hl, hm, e2 hl, hat]
  · obtain ⟨y, s3, o3, l3, u3, e3⟩ := draw_ex 1000 o2
    have h0 : 1 + y ≠ 0 := by omega
    have zy : Sz 10 (1 + y) := sz_lt 1000 (by omega)
    have hb : Bz 10 (Rat.divInt 1 (1 + y)) := bz_of h0 (by decide) (sz_lt (k := 1) 1 (by decide)) (by decide) zy
    refine ⟨c.t + Rat.divInt 1 (1 + y), s3, o3, (hc.t.add hb).mono (by decide), fun {μ l} hl => ?_⟩
    have e4 := fun ν : Mu => ev_pair (n := 1) (μ := ν) h0 (zy.mono (by decide))
    have e5 := e_sum1 hc.t hb (by decide)
    generalize Rat.divInt 1 (1 + y) = z at *
    simp [-evLc_eq, m__law_time, arF, bodySem_eq, sv__law_time, e1 hl, hm, e2 hl, e3 hl, hat, e4, e5]
  · obtain ⟨y, s3, o3, l3, u3, e3⟩ := draw_ex 1000 o2
    have h0 : 1 + y ≠ 0 := by omega
    have zy : Sz 10 (1 + y) := sz_lt 1000 (by omega)
    have hb : Bz 10 (Rat.divInt (-1) (1 + y)) := bz_of h0 (by decide) (sz_lt (k := 1) 1 (by decide)) (by decide) zy
    refine ⟨c.t + Rat.divInt (-1) (1 + y), s3, o3, (hc.t.add hb).mono (by decide), fun {μ l} hl => ?_⟩
    have e4 := fun ν : Mu => ev_pair (n := -1) (μ := ν) h0 (zy.mono (by decide))
    have e5 := e_sum1 hc.t hb (by decide)
    generalize Rat.divInt (-1) (1 + y) = z at *
    simp [-evLc_eq, m__law_time, arF, bodySem_eq, sv__law_time, e1 hl, hm, e2 hl, e3 hl, hat, e4, e5]
  · obtain ⟨y, s3, o3, l3, u3, e3⟩ := draw_ex 19 o2
    have hb : Bz 1 (y : Rat) := ⟨Nat.le_refl _, sz_lt 19 (by show y.natAbs ≤ 19; omega), sz_lt 1 (by show (1 : Int).natAbs ≤ 1; decide)⟩
    have h16 : Bz 1 ((16 : Int) : Rat) := ⟨Nat.le_refl _, sz_lt 16 (by show (16 : Int).natAbs ≤ 16; decide), sz_lt 1 (by show (1 : Int).natAbs ≤ 1; decide)⟩
    have h160 : ((16 : Int) : Rat) ≠ 0 := by decide +kernel
    have e4 := fun ν : Mu => ev_llength (μ := ν) h
    have ey : P.tup [.int y, .int 1] = pr (y : Rat) := rfl
    generalize (y : Rat) = yr at *
    have e5 := fun ν : Mu => ev_ltimes (μ := ν) h.fin.1 hb (by decide)
    have e16 : P.tup [.int 16, .int 1] = pr ((16 : Int) : Rat) := rfl
    have s16 : Sz 5 ((16 : Int) : Rat).num := sz_lt 16 (by show (16 : Int).natAbs ≤ 16; decide)
    generalize ((16 : Int) : Rat) = b16 at *
    have e6 := fun ν : Mu => ev_lover (μ := ν) (h.fin.1.mul hb) h16 s16 h160 (by decide) (by decide)
    refine ⟨finT 0 rs * yr / b16, s3, o3, ((h.fin.1.mul hb).div h16 s16 h160 (by decide)).mono (by decide), fun {μ l} hl => ?_⟩
    generalize finT 0 rs * yr = w at *
    simp [-evLc_eq, m__law_time, arF, bodySem_eq, sv__law_time, e1 hl, hm, e2 hl, e3 hl, hat, e4, ey, e5, e16, e6, v0, v1, v2, v3]
end
end Vs
/-! Brakes, and the greatest speed. -/
namespace Vs
open PySem PySem.Spec PyProof.Rows L2
section
variable {μ : Mu} {a b : Rat} {n m : Nat}
theorem ev_quotient {s : Nat} (ha : Bz n a) (hb : Bz m b) (hs : Sz s b.num) (h0 : b ≠ 0) (h : n + m ≤ 9000) (h2 : n + s ≤ 9000) : m_quotient [.p (rat a), .p (rat b)] μ = some (.ok (.p (rat (a / b))), μ) := by
  have hb' : b.num ≠ 0 := fun z => h0 (Rat.num_eq_zero.mp z)
  have e := ev_mk' (n := a.num * (b.den : Int)) (d := (a.den : Int) * b.num) (μ := μ) (mul_ne (den_ne a) hb') (ha.2.2.mul hs) h2 (by have := ha.1; omega)
  rw [div_eq _ _ h0] at e
  simp [m_quotient, arF, bodySem_eq, sv_quotient, ok1 ha hb h, ok4 ha hb h, e, rat]
/-- a stopped move's position -/
def stp (rs : List (Rat × Rat)) (b f x : Rat) : Rat :=
  if f < x then rch (posn rs f) (spd rs f) (if spd rs f < 0 then b else -b) (if x - f < ab (spd rs f) / b then x - f else ab (spd rs f) / b) else posn rs x
theorem ev_stopped {rs : List (Rat × Rat)} {b f x : Rat} (h : GoodM rs) (h0 : rs ≠ []) (hb : Dr b) (hp : 0 < b) (hf : Bz 260 f) (hx : Bz 300 x) :
    m_stopped [.p (mvR rs), .p (rat b), .p (rat f), .p (rat x)] μ = some (.ok (.p (rat (stp rs b f x))), μ) := by
  have e1 := fun ν : Mu => ev_is_less (μ := ν) hf hx (by decide)
  have e2 := fun ν : Mu => ev_position (μ := ν) h h0 hx (by decide)
  by_cases q : f < x
  · have hb0 : b ≠ 0 := by grind
    have hv := spd_bz h hf
    have hpp := posn_bz h hf
    have e3 := fun ν : Mu => ev_speed (μ := ν) h hf (by decide)
    have e4 := fun ν : Mu => ev_size (μ := ν) hv (by decide)
    have e5 := fun ν : Mu => ev_quotient (μ := ν) hv.ab hb.bz hb.1 hb0 (by decide) (by decide)
    have hr := hv.ab.div hb.bz hb.1 hb0 (by decide)
    have e6 := fun ν : Mu => o_sub' (μ := ν) hx hf (by decide)
    have hs := hx.sub hf
    have e7 := fun ν : Mu => ev_is_less (μ := ν) hv bz0 (by decide)
    have e8 := fun ν : Mu => o_neg' (μ := ν) hb.bz (by decide)
    have e9 := fun ν : Mu => ev_is_less (μ := ν) hs hr (by decide)
    have e10 := fun ν : Mu => ev_position (μ := ν) h h0 hf (by decide)
    have e11 := fun (ν : Mu) (u : Rat) (s : Rat) (hu : Bz 20 u) (hs : Bz 901 s) => ev_reached (μ := ν) hpp hv hu hs (by decide)
    have hr' := hr.mono (m := 901) (by decide)
    have hs' := hs.mono (m := 901) (by decide)
    have e12 : stp rs b f x = rch (posn rs f) (spd rs f) (if spd rs f < 0 then b else -b) (if x - f < ab (spd rs f) / b then x - f else ab (spd rs f) / b) := by unfold stp; rw [if_pos q]
    rw [e12]
    generalize ab (spd rs f) / b = L at *
    generalize x - f = S at *
    generalize spd rs f = v at *
    generalize posn rs f = p at *
    by_cases q2 : v < 0
    · by_cases q3 : S < L
      · simp [-evMake_eq, m_stopped, arF, bodySem_eq, sv_stopped, mk0, e1, q, e3, e4, e5, e6, e7, q2, e9, q3, e10, e11 _ _ _ hb.bz hs']
      · simp [-evMake_eq, m_stopped, arF, bodySem_eq, sv_stopped, mk0, e1, q, e3, e4, e5, e6, e7, q2, e9, q3, e10, e11 _ _ _ hb.bz hr']
    · by_cases q3 : S < L
      · simp [-evMake_eq, m_stopped, arF, bodySem_eq, sv_stopped, mk0, e1, q, e3, e4, e5, e6, e7, e8, q2, e9, q3, e10, e11 _ _ _ hb.bz.neg hs']
      · simp [-evMake_eq, m_stopped, arF, bodySem_eq, sv_stopped, mk0, e1, q, e3, e4, e5, e6, e7, e8, q2, e9, q3, e10, e11 _ _ _ hb.bz.neg hr']
  · have e12 : stp rs b f x = posn rs x := by unfold stp; rw [if_neg q]
    rw [e12]
    simp [m_stopped, arF, bodySem_eq, sv_stopped, e1, q, e2]
theorem pr_t (a : Rat) : pr a = .tup [.int a.num, .int (a.den : Int)] := rfl
theorem ev_lstopped {rs : List (Rat × Rat)} {b f x : Rat} (h : GoodM rs) (hb : Dr b) (hp : 0 < b) (hf : Bz 260 f) (hx : Bz 300 x) :
    m__law_stopped [.p (mvP rs), .p (pr b), .p (pr f), .p (pr x)] μ = some (.ok (.p (pr (stp rs b f x))), μ) := by
  have e1 := fun ν : Mu => ev_lless (μ := ν) hf hx (by decide)
  have e2 := fun ν : Mu => ev_lstate (μ := ν) h hx (by decide)
  by_cases q : f < x
  · have hb0 : b ≠ 0 := by grind
    have hv := spd_bz h hf
    have hpp := posn_bz h hf
    have e3 := fun ν : Mu => ev_lstate (μ := ν) h hf (by decide)
    have e4 := fun ν : Mu => ev_lsize (μ := ν) (a := spd rs f)
    have e5 := fun ν : Mu => ev_lover (μ := ν) hv.ab hb.bz hb.1 hb0 (by decide) (by decide)
    have hr := hv.ab.div hb.bz hb.1 hb0 (by decide)
    have e6 := fun ν : Mu => ev_lsum (μ := ν) hx hf.neg (by decide)
    have e66 := fun ν : Mu => ev_lminus (μ := ν) (a := f)
    rw [← Rat.sub_eq_add_neg] at e6
    have hs := hx.sub hf
    have e8 := fun ν : Mu => ev_lminus (μ := ν) (a := b)
    have e9 := fun ν : Mu => ev_lless (μ := ν) hr hs (by decide)
    have e11 := fun (ν : Mu) (u : Rat) (s : Rat) (hu : Bz 20 u) (hs : Bz 901 s) => ev_lafter (μ := ν) hpp hv hu hs (by decide)
    have hr' := hr.mono (m := 901) (by decide)
    have hs' := hs.mono (m := 901) (by decide)
    have e12 : stp rs b f x = rch (posn rs f) (spd rs f) (if spd rs f < 0 then b else -b) (if x - f < ab (spd rs f) / b then x - f else ab (spd rs f) / b) := by unfold stp; rw [if_pos q]
    have e13 : ∀ ν : Mu, fIx (.p (pr (spd rs f))) (.p (.int 0)) ν = some (.p (.int (spd rs f).num), ν) := fun ν => by rw [pr_t]; simp
    have e14 : (spd rs f).num < 0 ↔ spd rs f < 0 := by rw [Rat.lt_iff (spd rs f) 0]; simp
    rw [e12]
    generalize ab (spd rs f) / b = L at *
    generalize x - f = S at *
    generalize ab (spd rs f) = w at *
    generalize spd rs f = v at *
    generalize posn rs f = p at *
    have e15 : (if S < L then S else L) = if L < S then L else S := by
      by_cases z : S < L
      · rw [if_pos z, if_neg (by grind)]
      · by_cases z2 : L < S
        · rw [if_neg z, if_pos z2]
        · rw [if_neg z, if_neg z2]; grind
    rw [e15]
    by_cases q2 : v < 0
    · have q4 := e14.mpr q2
      by_cases q3 : L < S
      · simp [m__law_stopped, arF, bodySem_eq, sv__law_stopped, e1, q, e3, e4, e5, e6, e66, q2, q4, e8, e9, q3, e13, e11 _ _ _ hb.bz hr']
      · simp [m__law_stopped, arF, bodySem_eq, sv__law_stopped, e1, q, e3, e4, e5, e6, e66, q2, q4, e8, e9, q3, e13, e11 _ _ _ hb.bz hs']
    · have q4 : ¬ v.num < 0 := fun z => q2 (e14.mp z)
      by_cases q3 : L < S
      · simp [m__law_stopped, arF, bodySem_eq, sv__law_stopped, e1, q, e3, e4, e5, e6, e66, q2, q4, e8, e9, q3, e13, e11 _ _ _ hb.bz.neg hr']
      · simp [m__law_stopped, arF, bodySem_eq, sv__law_stopped, e1, q, e3, e4, e5, e6, e66, q2, q4, e8, e9, q3, e13, e11 _ _ _ hb.bz.neg hs']
  · have e12 : stp rs b f x = posn rs x := by unfold stp; rw [if_neg q]
    rw [e12]
    simp [m__law_stopped, arF, bodySem_eq, sv__law_stopped, e1, q, e2]
/-! ### the greatest speed -/
def gsp : List Pc → Rat → Rat
  | [], g => g
  | c :: cs, g => gsp cs (if g < ab c.v then ab c.v else g)
theorem gsp_loop {c0 : Option D} : ∀ (ps : List Pc), (∀ c ∈ ps, PcB c) → ∀ (g : Rat) (c2 c3 : Option D), Bz 210 g → ∃ c2' c3',
    forL (tgT [2, 2, 2, 3, 2]) lb_greatest_speed_0 (ps.map Pc.r) [c0, some (.p (rat g)), c2, c3] μ = some (.nx, [c0, some (.p (rat (gsp ps g))), c2', c3'], μ)
  | [], h, g, c2, c3, hg => ⟨c2, c3, rfl⟩
  | c :: ps, h, g, c2, c3, hg => by
    have hc := h c List.mem_cons_self
    have e1 := fun ν : Mu => ev_size (μ := ν) hc.v (by decide)
    have e2 := fun ν : Mu => ev_is_less (μ := ν) hg hc.v.ab (by decide)
    by_cases q : g < ab c.v
    · obtain ⟨c2', c3', ih⟩ := gsp_loop (c0 := c0) ps (fun y hy => h y (List.mem_cons_of_mem _ hy)) (ab c.v) (some (.p (rat c.a))) (some (.p (rat c.v))) hc.v.ab
      refine ⟨c2', c3', ?_⟩
      have e6 : lb_greatest_speed_0 [c0, some (.p (rat g)), some (.p (rat c.a)), some (.p (rat c.v))] μ = some (.nx, [c0, some (.p (rat (ab c.v))), some (.p (rat c.a)), some (.p (rat c.v))], μ) := by
        simp [lb_greatest_speed_0, e1, e2, q]
      rw [List.map_cons, forL_nx rfl e6, ih, gsp, if_pos q]
    · obtain ⟨c2', c3', ih⟩ := gsp_loop (c0 := c0) ps (fun y hy => h y (List.mem_cons_of_mem _ hy)) g (some (.p (rat c.a))) (some (.p (rat c.v))) hg
      refine ⟨c2', c3', ?_⟩
      have e6 : lb_greatest_speed_0 [c0, some (.p (rat g)), some (.p (rat c.a)), some (.p (rat c.v))] μ = some (.nx, [c0, some (.p (rat g)), some (.p (rat c.a)), some (.p (rat c.v))], μ) := by
        simp [lb_greatest_speed_0, e1, e2, q]
      rw [List.map_cons, forL_nx rfl e6, ih, gsp, if_neg q]
def gsm (rs : List (Rat × Rat)) : Rat := gsp (pcs 0 0 0 rs) 0
theorem ev_greatest {rs : List (Rat × Rat)} (h : GoodM rs) : m_greatest_speed [.p (mvR rs)] μ = some (.ok (.p (rat (gsm rs))), μ) := by
  obtain ⟨c2, c3, e⟩ := gsp_loop (μ := μ ++ [none]) (c0 := some (.p (mvR rs))) (pcs 0 0 0 rs) (fun c hc => (h.ok c hc).toPcB) 0 none none (bz0.mono (by decide))
  have e1 := ev_pieces (μ := μ) h
  have e2 : cellL (μ ++ [some (MO.lst ((pcs 0 0 0 rs).map Pc.r))]) μ.length = some ((pcs 0 0 0 rs).map Pc.r) := cellL_end rfl
  have e3 : evIt (evCall m_pieces [] (evCons (evV 0) evNil)) [some (.p (mvR rs)), some (.p (rat 0)), none, none] μ = some (.ok ((pcs 0 0 0 rs).map Pc.r), μ ++ [none]) := by
    simp [evIt, e1, toP, e2, asList]
  simp [-evMake_eq, m_greatest_speed, arF, bodySem_eq, sv_greatest_speed, mk0, e3, e, gsm]
theorem gsp_bz : ∀ (ps : List Pc), (∀ c ∈ ps, PcB c) → ∀ g, Bz 210 g → Bz 210 (gsp ps g)
  | [], h, g, hg => hg
  | c :: ps, h, g, hg => gsp_bz ps (fun y hy => h y (List.mem_cons_of_mem _ hy)) _ (by
    split
    · exact (h c List.mem_cons_self).v.ab
    · exact hg)
theorem gsm_bz {rs : List (Rat × Rat)} (h : GoodM rs) : Bz 210 (gsm rs) := gsp_bz _ (fun c hc => (h.ok c hc).toPcB) 0 (bz0.mono (by decide))
theorem gsp_ge : ∀ (ps : List Pc) (g : Rat), g ≤ gsp ps g ∧ ∀ c ∈ ps, ab c.v ≤ gsp ps g
  | [], g => ⟨Rat.le_refl, by intro c hc; cases hc⟩
  | c :: ps, g => by
    obtain ⟨h1, h2⟩ := gsp_ge ps (if g < ab c.v then ab c.v else g)
    refine ⟨?_, fun x hx => ?_⟩
    · show g ≤ gsp ps _
      by_cases q : g < ab c.v
      · rw [if_pos q] at h1 ⊢; grind
      · rw [if_neg q] at h1 ⊢; exact h1
    · show ab x.v ≤ gsp ps _
      rcases List.mem_cons.mp hx with rfl | hx
      · by_cases q : g < ab x.v
        · rw [if_pos q] at h1 ⊢; exact h1
        · rw [if_neg q] at h1 ⊢; grind
      · exact h2 x hx
theorem gsm_nonneg {rs : List (Rat × Rat)} : 0 ≤ gsm rs := (gsp_ge _ 0).1
/-- a speed between two others -/
theorem ab_le {x g : Rat} (h1 : x ≤ g) (h2 : -g ≤ x) : ab x ≤ g := by
  unfold ab
  split <;> grind
theorem of_ab_le {x g : Rat} (h : ab x ≤ g) : x ≤ g ∧ -g ≤ x := by
  unfold ab at h
  split at h
  · constructor <;> grind
  · constructor <;> grind
theorem between {v a s d g : Rat} (h0 : 0 ≤ s) (h1 : s ≤ d) (g1 : ab v ≤ g) (g2 : ab (v + a * d) ≤ g) : ab (v + a * s) ≤ g := by
  obtain ⟨p1, p2⟩ := of_ab_le g1
  obtain ⟨q1, q2⟩ := of_ab_le g2
  by_cases ha : 0 ≤ a
  · have e1 : 0 ≤ a * s := Rat.mul_nonneg ha h0
    have e2 : a * s ≤ a * d := Rat.mul_le_mul_of_nonneg_left h1 ha
    exact ab_le (by grind) (by grind)
  · have ha' : 0 ≤ -a := by grind
    have e1 : 0 ≤ -a * s := Rat.mul_nonneg ha' h0
    have e2 : -a * s ≤ -a * d := Rat.mul_le_mul_of_nonneg_left h1 ha'
    exact ab_le (by grind) (by grind)
theorem spdL_le : ∀ (rs : List (Rat × Rat)) (t p v x g : Rat), Good v rs → t ≤ x → 0 ≤ g → (∀ c ∈ pcs t p v rs, ab c.v ≤ g) → ∀ y, spdL (pcs t p v rs) x = some y → ab y ≤ g
  | [], t, p, v, x, g, hg, ht, g0, h, y, e => by cases e
  | r :: rs, t, p, v, x, g, hg, ht, g0, h, y, e => by
    have hd := hg.2.1
    have e : (if t + r.1 < x then spdL (pcs (t + r.1) (rch p v r.2 r.1) (v + r.2 * r.1) rs) x else some (v + r.2 * (x - t))) = some y := e
    have hv : ab v ≤ g := h ⟨t, t + r.1, p, v, r.2⟩ List.mem_cons_self
    have hn : ab (v + r.2 * r.1) ≤ g := by
      cases rs with
      | nil =>
        have z : v + r.2 * r.1 = 0 := hg.2.2.2.2
        rw [z]
        unfold ab
        split <;> grind
      | cons r' rs => exact h ⟨t + r.1, t + r.1 + r'.1, rch p v r.2 r.1, v + r.2 * r.1, r'.2⟩ (List.mem_cons_of_mem _ List.mem_cons_self)
    split at e
    · exact spdL_le rs _ _ _ x g hg.2.2.2.2 (by grind) g0 (fun c hc => h c (List.mem_cons_of_mem _ hc)) y e
    · cases e
      exact between (d := r.1) (by grind) (by grind) hv hn
theorem spd_le {rs : List (Rat × Rat)} (h : GoodM rs) (x : Rat) : ab (spd rs x) ≤ gsm rs := by
  have z : ab 0 ≤ gsm rs := ab_le gsm_nonneg (by have := gsm_nonneg (rs := rs); grind)
  unfold spd
  split
  · exact z
  · cases q : spdL (pcs 0 0 0 rs) x with
    | none => exact z
    | some y => exact spdL_le rs 0 0 0 x _ h.1 (by grind) gsm_nonneg (gsp_ge _ 0).2 y q
end
end Vs
/-! Tighter sizes; the whole motion. -/
namespace Vs
open PySem PySem.Spec PyProof.Rows L2
section
@[simp] theorem evV_11 {a0 a1 a2 a3 a4 a5 a6 a7 a8 a9 a10 : Option D} {d : D} {δ : Sl} {μ : Mu} : evV 11 (a0 :: a1 :: a2 :: a3 :: a4 :: a5 :: a6 :: a7 :: a8 :: a9 :: a10 :: some d :: δ) μ = some (.ok d, μ) := rfl
@[simp] theorem evV_12 {a0 a1 a2 a3 a4 a5 a6 a7 a8 a9 a10 a11 : Option D} {d : D} {δ : Sl} {μ : Mu} : evV 12 (a0 :: a1 :: a2 :: a3 :: a4 :: a5 :: a6 :: a7 :: a8 :: a9 :: a10 :: a11 :: some d :: δ) μ = some (.ok d, μ) := rfl
@[simp] theorem evV_13 {a0 a1 a2 a3 a4 a5 a6 a7 a8 a9 a10 a11 a12 : Option D} {d : D} {δ : Sl} {μ : Mu} : evV 13 (a0 :: a1 :: a2 :: a3 :: a4 :: a5 :: a6 :: a7 :: a8 :: a9 :: a10 :: a11 :: a12 :: some d :: δ) μ = some (.ok d, μ) := rfl
@[simp] theorem evV_14 {a0 a1 a2 a3 a4 a5 a6 a7 a8 a9 a10 a11 a12 a13 : Option D} {d : D} {δ : Sl} {μ : Mu} : evV 14 (a0 :: a1 :: a2 :: a3 :: a4 :: a5 :: a6 :: a7 :: a8 :: a9 :: a10 :: a11 :: a12 :: a13 :: some d :: δ) μ = some (.ok d, μ) := rfl
@[simp] theorem evV_15 {a0 a1 a2 a3 a4 a5 a6 a7 a8 a9 a10 a11 a12 a13 a14 : Option D} {d : D} {δ : Sl} {μ : Mu} : evV 15 (a0 :: a1 :: a2 :: a3 :: a4 :: a5 :: a6 :: a7 :: a8 :: a9 :: a10 :: a11 :: a12 :: a13 :: a14 :: some d :: δ) μ = some (.ok d, μ) := rfl
@[simp] theorem evV_16 {a0 a1 a2 a3 a4 a5 a6 a7 a8 a9 a10 a11 a12 a13 a14 a15 : Option D} {d : D} {δ : Sl} {μ : Mu} : evV 16 (a0 :: a1 :: a2 :: a3 :: a4 :: a5 :: a6 :: a7 :: a8 :: a9 :: a10 :: a11 :: a12 :: a13 :: a14 :: a15 :: some d :: δ) μ = some (.ok d, μ) := rfl
@[simp] theorem evV_17 {a0 a1 a2 a3 a4 a5 a6 a7 a8 a9 a10 a11 a12 a13 a14 a15 a16 : Option D} {d : D} {δ : Sl} {μ : Mu} : evV 17 (a0 :: a1 :: a2 :: a3 :: a4 :: a5 :: a6 :: a7 :: a8 :: a9 :: a10 :: a11 :: a12 :: a13 :: a14 :: a15 :: a16 :: some d :: δ) μ = some (.ok d, μ) := rfl
@[simp] theorem evV_18 {a0 a1 a2 a3 a4 a5 a6 a7 a8 a9 a10 a11 a12 a13 a14 a15 a16 a17 : Option D} {d : D} {δ : Sl} {μ : Mu} : evV 18 (a0 :: a1 :: a2 :: a3 :: a4 :: a5 :: a6 :: a7 :: a8 :: a9 :: a10 :: a11 :: a12 :: a13 :: a14 :: a15 :: a16 :: a17 :: some d :: δ) μ = some (.ok d, μ) := rfl
@[simp] theorem evV_19 {a0 a1 a2 a3 a4 a5 a6 a7 a8 a9 a10 a11 a12 a13 a14 a15 a16 a17 a18 : Option D} {d : D} {δ : Sl} {μ : Mu} : evV 19 (a0 :: a1 :: a2 :: a3 :: a4 :: a5 :: a6 :: a7 :: a8 :: a9 :: a10 :: a11 :: a12 :: a13 :: a14 :: a15 :: a16 :: a17 :: a18 :: some d :: δ) μ = some (.ok d, μ) := rfl
@[simp] theorem evV_20 {a0 a1 a2 a3 a4 a5 a6 a7 a8 a9 a10 a11 a12 a13 a14 a15 a16 a17 a18 a19 : Option D} {d : D} {δ : Sl} {μ : Mu} : evV 20 (a0 :: a1 :: a2 :: a3 :: a4 :: a5 :: a6 :: a7 :: a8 :: a9 :: a10 :: a11 :: a12 :: a13 :: a14 :: a15 :: a16 :: a17 :: a18 :: a19 :: some d :: δ) μ = some (.ok d, μ) := rfl
end
section
variable {μ : Mu} {a b : Rat} {n m : Nat}
/-- a move with tight sizes -/
structure Tight (rs : List (Rat × Rat)) : Prop where
  good : GoodM rs
  ne : rs ≠ []
  pc : ∀ c ∈ pcs 0 0 0 rs, Bz 1216 c.p ∧ Bz 201 c.v ∧ Bz 231 c.a
  fp : Bz 1710 (finP 0 0 rs)
theorem tight_of {d : Rat} (hd : Dr d) (hp : 0 < d) : ∀ (new : List (Rat × Rat)) (t p w : Rat) (n np : Nat), (∀ r ∈ new, RowD r) → Bz n w → n + 40 * new.length ≤ 201 → Bz np p → np + 243 * new.length ≤ 1216 →
    (∀ c ∈ pcs t p w (new ++ [(d, -(finV w new / d))]), Bz 1216 c.p ∧ Bz 201 c.v ∧ Bz 231 c.a) ∧ Bz 1710 (finP p w (new ++ [(d, -(finV w new / d))]))
  | [], t, p, w, n, np, h, hw, hn, hpp, hnp => by
    have h0 : d ≠ 0 := by grind
    have ha : Bz 231 (-(w / d)) := ((hw.div hd.bz hd.1 h0 (by decide)).neg).mono (by simp at hn; omega)
    refine ⟨fun c hc => ?_, ?_⟩
    · obtain rfl : c = ⟨t, t + d, p, w, -(w / d)⟩ := by simpa [pcs, finV] using hc
      exact ⟨hpp.mono (by simp at hnp; omega), hw.mono (by simp at hn; omega), ha⟩
    · exact (rch_bz hpp hw ha hd.bz).mono (by simp at hn hnp; omega)
  | r :: new, t, p, w, n, np, h, hw, hn, hpp, hnp => by
    simp only [List.length_cons] at hn hnp
    have hr := h r List.mem_cons_self
    obtain ⟨i1, i2⟩ := tight_of hd hp new (t + r.1) (rch p w r.2 r.1) (w + r.2 * r.1) (n + 40) (np + 243) (fun x hx => h x (List.mem_cons_of_mem _ hx)) ((hw.add (hr.a.bz.mul hr.d.bz)).mono (by omega)) (by omega)
      ((rch_bz hpp hw hr.a.bz hr.d.bz).mono (by omega)) (by omega)
    refine ⟨fun c hc => ?_, i2⟩
    rcases List.mem_cons.mp hc with rfl | hc
    · exact ⟨hpp.mono (by omega), hw.mono (by omega), hr.a.bz.mono (by decide)⟩
    · exact i1 c hc
theorem move_ex2 {s : SS} (hs : s.Ok) : ∃ rs s', SS.Ok s' ∧ Tight rs ∧ ∀ {μ : Mu} {l : Nat}, l < μ.length → m__law_move [.loc l] (μ.set l (st s)) = some (.ok (.p (mvP rs)), μ.set l (st s')) := by
  obtain ⟨v, s1, o1, l1, u1, e1⟩ := draw_ex 6 hs
  have hlen : (rangeP 0 v.toNat).length ≤ 5 := by simp [rangeP]; omega
  obtain ⟨new, s2, o2, r2, n2, e2⟩ := move_loop (rangeP 0 v.toNat) s1 0 1 o1 bz0 (by omega)
  obtain ⟨d, s3, o3, d3, p3, e3⟩ := some_ex o2
  have h0 : d ≠ 0 := by grind
  obtain ⟨t1, t2⟩ := tight_of d3 p3 new 0 0 0 1 1 r2 bz0 (by omega) bz0 (by omega)
  refine ⟨new ++ [(d, -(finV 0 new / d))], s3, o3, ⟨⟨good_of d3 p3 new 0 1 r2 bz0 (by omega), by simp; omega⟩, by simp, t1, t2⟩, fun {μ l} hl => ?_⟩
  have hr := rng_small l1 (by omega)
  have hv := (finV_bz new 0 1 r2 bz0).mono (m := 201) (by omega)
  have f1 := e1 (lt_end (o := some (MO.lst [])) hl)
  obtain ⟨c3, c4, f2⟩ := e2 hl [] none none none (by simp; omega)
  rw [List.nil_append] at f2
  have f3 := e3 (lt_end (o := some (MO.lst (new.map rowP))) hl)
  have e4 := fun ν : Mu => ev_lover (μ := ν) hv d3.bz d3.1 h0 (by decide) (by decide)
  have e5 := fun ν : Mu => ev_lminus (μ := ν) (a := finV 0 new / d)
  have e6 : ∀ y, fApp (.loc μ.length) [.p y] (List.set (μ ++ [some (MO.lst (new.map rowP))]) l (st s3)) = some (.p .non, List.set (μ ++ [some (MO.lst (new.map rowP ++ [y]))]) l (st s3)) := fun y => ap2 hl (line_k (by rw [List.length_map]; omega))
  have e7 : isLst (List.set (μ ++ [some (MO.lst (new.map rowP))]) l (st s3)) (.loc μ.length) = true := is2 hl
  have e8 : ∀ xs, cellL (List.set (μ ++ [some (MO.lst xs)]) l (st s3)) μ.length = some xs := fun xs => cell_end2 hl
  have e9 : ∀ xs, List.take μ.length (List.set (μ ++ [some (MO.lst xs)]) l (st s3)) = μ.set l (st s3) := fun xs => take_end2 hl
  have e0 : P.tup [.int 0, .int 1] = pr 0 := rfl
  simp [m__law_move, arF, bodySem_eq, sv__law_move, evBM_eq, set_app hl, e0, f1, hr, f2, f3, e4, e5, e6, e7, retF, retL, e8, e9, mvP, rowP]
theorem posL_bz2 {x : Rat} {nx : Nat} (hx : Bz nx x) : ∀ (ps : List Pc), (∀ c ∈ ps, PcB c ∧ Bz 1216 c.p ∧ Bz 201 c.v ∧ Bz 231 c.a) → ∀ y, posL ps x = some y → Bz (1892 + 2 * nx) y
  | [], _, _, e => by cases e
  | c :: ps, h, y, e => by
    obtain ⟨hc, h1, h2, h3⟩ := h c List.mem_cons_self
    unfold posL at e
    split at e
    · exact posL_bz2 hx ps (fun z hz => h z (List.mem_cons_of_mem _ hz)) y e
    · cases e
      exact (rch_bz h1 h2 h3 (hx.sub hc.t)).mono (by omega)
theorem posn_bz2 {rs : List (Rat × Rat)} {x : Rat} {nx : Nat} (h : Tight rs) (hx : Bz nx x) : Bz (1892 + 2 * nx) (posn rs x) := by
  unfold posn
  split
  · exact bz0.mono (by omega)
  · cases q : posL (pcs 0 0 0 rs) x with
    | none => exact h.fp.mono (by omega)
    | some y => exact posL_bz2 hx _ (fun c hc => ⟨(h.good.ok c hc).toPcB, h.pc c hc⟩) y q
/-! ### positions change by at most the greatest speed times the time -/
theorem mul_le_of {d m g : Rat} (hd : 0 ≤ d) (h1 : m ≤ g) (h2 : -g ≤ m) : d * m ≤ g * d ∧ -(g * d) ≤ d * m := by
  have e1 : d * m ≤ d * g := Rat.mul_le_mul_of_nonneg_left h1 hd
  have e2 : d * (-g) ≤ d * m := Rat.mul_le_mul_of_nonneg_left h2 hd
  constructor <;> grind
/-- within a stretch -/
theorem rch_lip {p v a x y d g : Rat} (h0 : 0 ≤ x) (h1 : x ≤ y) (h2 : y ≤ d) (g1 : ab v ≤ g) (g2 : ab (v + a * d) ≤ g) :
    rch p v a y - rch p v a x ≤ g * (y - x) ∧ -(g * (y - x)) ≤ rch p v a y - rch p v a x := by
  obtain ⟨p1, p2⟩ := of_ab_le (between (s := x) h0 (by grind) g1 g2)
  obtain ⟨q1, q2⟩ := of_ab_le (between (s := y) (by grind) h2 g1 g2)
  have hh := hf_two
  have e : rch p v a y - rch p v a x = (y - x) * (hf * (v + a * x) + hf * (v + a * y)) := by
    unfold rch
    have : v = hf * v + hf * v := by grind
    grind
  rw [e]
  have hp : 0 ≤ hf := by decide +kernel
  have r1 := (mul_le_of hp p1 p2)
  have r2 := (mul_le_of hp q1 q2)
  have hg : g * hf + g * hf = g := by rw [← Rat.mul_add, hh, Rat.mul_one]
  obtain ⟨r1, r1'⟩ := r1
  obtain ⟨r2, r2'⟩ := r2
  generalize hf * (v + a * x) = A at *
  generalize hf * (v + a * y) = B at *
  generalize g * hf = C at *
  exact mul_le_of (by grind) (by grind) (by grind)
def posG (t p v : Rat) (rs : List (Rat × Rat)) (x : Rat) : Rat := (posL (pcs t p v rs) x).getD (finP p v rs)
theorem posG_cons {t p v x : Rat} {r : Rat × Rat} {rs : List (Rat × Rat)} : posG t p v (r :: rs) x = if t + r.1 < x then posG (t + r.1) (rch p v r.2 r.1) (v + r.2 * r.1) rs x else rch p v r.2 (x - t) := by
  unfold posG
  show (if t + r.1 < x then posL (pcs (t + r.1) (rch p v r.2 r.1) (v + r.2 * r.1) rs) x else some (rch p v r.2 (x - t))).getD (finP (rch p v r.2 r.1) (v + r.2 * r.1) rs) = _
  split <;> rfl
theorem posG_at {t p v : Rat} {rs : List (Rat × Rat)} (g : Good v rs) : posG t p v rs t = p := (pos_at rs t p v g).1
theorem posG_lip : ∀ (rs : List (Rat × Rat)) (t p v x y g : Rat), Good v rs → t ≤ x → x ≤ y → 0 ≤ g → (∀ c ∈ pcs t p v rs, ab c.v ≤ g) →
    posG t p v rs y - posG t p v rs x ≤ g * (y - x) ∧ -(g * (y - x)) ≤ posG t p v rs y - posG t p v rs x
  | [], t, p, v, x, y, g, hg, h1, h2, g0, h => by
    have e : posG t p v [] y - posG t p v [] x = 0 := by
      show p - p = 0
      grind
    rw [e]
    have : 0 ≤ g * (y - x) := Rat.mul_nonneg g0 (by grind)
    constructor <;> grind
  | r :: rs, t, p, v, x, y, g, hg, h1, h2, g0, h => by
    have hd := hg.2.1
    have hv : ab v ≤ g := h ⟨t, t + r.1, p, v, r.2⟩ List.mem_cons_self
    have hn : ab (v + r.2 * r.1) ≤ g := by
      cases rs with
      | nil =>
        have z : v + r.2 * r.1 = 0 := hg.2.2.2.2
        rw [z]
        unfold ab
        split <;> grind
      | cons r' rs => exact h ⟨t + r.1, t + r.1 + r'.1, rch p v r.2 r.1, v + r.2 * r.1, r'.2⟩ (List.mem_cons_of_mem _ List.mem_cons_self)
    have ht : ∀ c ∈ pcs (t + r.1) (rch p v r.2 r.1) (v + r.2 * r.1) rs, ab c.v ≤ g := fun c hc => h c (List.mem_cons_of_mem _ hc)
    rw [posG_cons, posG_cons]
    by_cases q1 : t + r.1 < x
    · rw [if_pos q1, if_pos (show t + r.1 < y by grind)]
      exact posG_lip rs _ _ _ x y g hg.2.2.2.2 (by grind) h2 g0 ht
    · rw [if_neg q1]
      by_cases q2 : t + r.1 < y
      · rw [if_pos q2]
        have i1 := posG_lip rs (t + r.1) (rch p v r.2 r.1) (v + r.2 * r.1) (t + r.1) y g hg.2.2.2.2 (by grind) (by grind) g0 ht
        rw [posG_at hg.2.2.2.2] at i1
        have i2 := rch_lip (p := p) (x := x - t) (y := r.1) (d := r.1) (g := g) (by grind) (by grind) (by grind) hv hn
        have e : g * (y - x) = g * (y - (t + r.1)) + g * (r.1 - (x - t)) := by grind
        constructor <;> grind
      · rw [if_neg q2]
        have i2 := rch_lip (p := p) (x := x - t) (y := y - t) (d := r.1) (g := g) (by grind) (by grind) (by grind) hv hn
        rw [show y - t - (x - t) = y - x by grind] at i2
        exact i2
theorem posn_G {rs : List (Rat × Rat)} {x : Rat} : posn rs x = if x < 0 then 0 else posG 0 0 0 rs x := rfl
theorem posn_lip1 {rs : List (Rat × Rat)} {x y : Rat} (h : GoodM rs) (hxy : x ≤ y) : posn rs y - posn rs x ≤ gsm rs * (y - x) ∧ -(gsm rs * (y - x)) ≤ posn rs y - posn rs x := by
  have g0 := gsm_nonneg (rs := rs)
  have hg := (gsp_ge (pcs 0 0 0 rs) 0).2
  rw [posn_G, posn_G]
  by_cases q1 : x < 0
  · rw [if_pos q1]
    by_cases q2 : y < 0
    · rw [if_pos q2]
      have : 0 ≤ gsm rs * (y - x) := Rat.mul_nonneg g0 (by grind)
      constructor <;> grind
    · rw [if_neg q2]
      have i := posG_lip rs 0 0 0 0 y (gsm rs) h.1 (by grind) (by grind) g0 hg
      rw [posG_at h.1] at i
      have e1 : 0 ≤ gsm rs * (0 - x) := Rat.mul_nonneg g0 (by grind)
      have e : gsm rs * (y - x) = gsm rs * (y - 0) + gsm rs * (0 - x) := by grind
      constructor <;> grind
  · rw [if_neg q1, if_neg (show ¬ y < 0 by grind)]
    exact posG_lip rs 0 0 0 x y (gsm rs) h.1 (by grind) hxy g0 hg
theorem ab_neg {x : Rat} : ab (-x) = ab x := by
  unfold ab
  by_cases h : x < 0
  · rw [if_pos h, if_neg (by grind)]
  · rw [if_neg h]
    by_cases h2 : -x < 0
    · rw [if_pos h2]; grind
    · rw [if_neg h2]; grind
theorem ab_pos {x : Rat} (h : 0 ≤ x) : ab x = x := by
  unfold ab
  rw [if_neg (by grind)]
theorem posn_lip {rs : List (Rat × Rat)} (h : GoodM rs) (x y : Rat) : ab (posn rs y - posn rs x) ≤ gsm rs * ab (y - x) := by
  by_cases q : x ≤ y
  · obtain ⟨h1, h2⟩ := posn_lip1 h q
    rw [ab_pos (x := y - x) (by grind)]
    exact ab_le h1 h2
  · obtain ⟨h1, h2⟩ := posn_lip1 h (x := y) (y := x) (by grind)
    rw [show posn rs y - posn rs x = -(posn rs x - posn rs y) by grind, show y - x = -(x - y) by grind, ab_neg, ab_neg, ab_pos (x := x - y) (by grind)]
    exact ab_le h1 h2
/-! ### within a stretch -/
theorem pcs_t_le : ∀ (rs : List (Rat × Rat)) (t p v : Rat), Good v rs → ∀ c ∈ pcs t p v rs, t ≤ c.t ∧ c.t < c.e
  | [], t, p, v, g, c, hc => by cases hc
  | r :: rs, t, p, v, g, c, hc => by
    rcases List.mem_cons.mp hc with rfl | hc
    · exact ⟨Rat.le_refl, by have := g.2.1; show t < t + r.1; grind⟩
    · obtain ⟨h1, h2⟩ := pcs_t_le rs _ _ _ g.2.2.2.2 c hc
      exact ⟨by have := g.2.1; grind, h2⟩
theorem in_stretch : ∀ (rs : List (Rat × Rat)) (t p v x : Rat), Good v rs → ∀ c ∈ pcs t p v rs, c.t ≤ x → x ≤ c.e → posG t p v rs x = rch c.p c.v c.a (x - c.t) ∧ (spdL (pcs t p v rs) x).getD 0 = c.v + c.a * (x - c.t)
  | [], t, p, v, x, g, c, hc, _, _ => by cases hc
  | r :: rs, t, p, v, x, g, c, hc, h1, h2 => by
    have hs : (spdL (pcs t p v (r :: rs)) x).getD 0 = if t + r.1 < x then (spdL (pcs (t + r.1) (rch p v r.2 r.1) (v + r.2 * r.1) rs) x).getD 0 else v + r.2 * (x - t) := by
      show (if t + r.1 < x then spdL (pcs (t + r.1) (rch p v r.2 r.1) (v + r.2 * r.1) rs) x else some (v + r.2 * (x - t))).getD 0 = _
      split <;> rfl
    rw [posG_cons, hs]
    rcases List.mem_cons.mp hc with rfl | hc
    · have h2 : x ≤ t + r.1 := h2
      rw [if_neg (by grind), if_neg (by grind)]
      exact ⟨rfl, rfl⟩
    · have ht := (pcs_t_le rs _ _ _ g.2.2.2.2 c hc).1
      by_cases q : t + r.1 < x
      · rw [if_pos q, if_pos q]
        exact in_stretch rs _ _ _ x g.2.2.2.2 c hc h1 h2
      · obtain rfl : x = t + r.1 := by grind
        have i := in_stretch rs _ _ _ _ g.2.2.2.2 c hc h1 h2
        rw [posG_at g.2.2.2.2] at i
        have j := (pos_at rs (t + r.1) (rch p v r.2 r.1) (v + r.2 * r.1) g.2.2.2.2).2
        rw [if_neg q, if_neg q, ← i.1, ← i.2, j]
        rw [show t + r.1 - t = r.1 by grind]
        exact ⟨rfl, rfl⟩
theorem posn_in {rs : List (Rat × Rat)} (h : GoodM rs) {c : Pc} (hc : c ∈ pcs 0 0 0 rs) {x : Rat} (h1 : c.t ≤ x) (h2 : x ≤ c.e) : posn rs x = rch c.p c.v c.a (x - c.t) ∧ spd rs x = c.v + c.a * (x - c.t) := by
  have h0 := (pcs_t_le rs 0 0 0 h.1 c hc).1
  have i := in_stretch rs 0 0 0 x h.1 c hc h1 h2
  unfold spd
  rw [posn_G, if_neg (by grind), if_neg (by grind)]
  exact i
end
end Vs
/-! Brakes of any size; where a move stops. -/
namespace Vs
open PySem PySem.Spec PyProof.Rows L2
section
variable {μ : Mu} {a b : Rat} {n m : Nat}
theorem ev_stoppedW {rs : List (Rat × Rat)} {b f x : Rat} {nx : Nat} (h : Tight rs) (hb : Bz 40 b) (hbs : Sz 52 b.num) (hp : 0 < b) (hf : Bz 260 f) (hx : Bz nx x) (hn : nx ≤ 1200) :
    m_stopped [.p (mvR rs), .p (rat b), .p (rat f), .p (rat x)] μ = some (.ok (.p (rat (stp rs b f x))), μ) := by
  have e1 := fun ν : Mu => ev_is_less (μ := ν) hf hx (by omega)
  have e2 := fun ν : Mu => ev_position (μ := ν) h.good h.ne hx (by omega)
  by_cases q : f < x
  · have hb0 : b ≠ 0 := by grind
    have hv := spd_bz h.good hf
    have hpp := posn_bz2 h hf
    have e3 := fun ν : Mu => ev_speed (μ := ν) h.good hf (by decide)
    have e4 := fun ν : Mu => ev_size (μ := ν) hv (by decide)
    have e5 := fun ν : Mu => ev_quotient (μ := ν) hv.ab hb hbs hb0 (by decide) (by decide)
    have hr := hv.ab.div hb hbs hb0 (by decide)
    have e6 := fun ν : Mu => o_sub' (μ := ν) hx hf (by omega)
    have hs := hx.sub hf
    have e7 := fun ν : Mu => ev_is_less (μ := ν) hv bz0 (by decide)
    have e8 := fun ν : Mu => o_neg' (μ := ν) hb (by decide)
    have e9 := fun ν : Mu => ev_is_less (μ := ν) hs hr (by omega)
    have e10 := fun ν : Mu => ev_position (μ := ν) h.good h.ne hf (by decide)
    have e11 := fun (ν : Mu) (u : Rat) (s : Rat) (hu : Bz 40 u) (hs : Bz 1460 s) => ev_reached (μ := ν) hpp hv hu hs (by decide)
    have hr' := hr.mono (m := 1460) (by decide)
    have hs' := hs.mono (m := 1460) (by omega)
    have e12 : stp rs b f x = rch (posn rs f) (spd rs f) (if spd rs f < 0 then b else -b) (if x - f < ab (spd rs f) / b then x - f else ab (spd rs f) / b) := by unfold stp; rw [if_pos q]
    rw [e12]
    generalize ab (spd rs f) / b = L at *
    generalize x - f = S at *
    generalize spd rs f = v at *
    generalize posn rs f = p at *
    by_cases q2 : v < 0
    · by_cases q3 : S < L
      · simp [-evMake_eq, m_stopped, arF, bodySem_eq, sv_stopped, mk0, e1, q, e3, e4, e5, e6, e7, q2, e9, q3, e10, e11 _ _ _ hb hs']
      · simp [-evMake_eq, m_stopped, arF, bodySem_eq, sv_stopped, mk0, e1, q, e3, e4, e5, e6, e7, q2, e9, q3, e10, e11 _ _ _ hb hr']
    · by_cases q3 : S < L
      · simp [-evMake_eq, m_stopped, arF, bodySem_eq, sv_stopped, mk0, e1, q, e3, e4, e5, e6, e7, e8, q2, e9, q3, e10, e11 _ _ _ hb.neg hs']
      · simp [-evMake_eq, m_stopped, arF, bodySem_eq, sv_stopped, mk0, e1, q, e3, e4, e5, e6, e7, e8, q2, e9, q3, e10, e11 _ _ _ hb.neg hr']
  · have e12 : stp rs b f x = posn rs x := by unfold stp; rw [if_neg q]
    rw [e12]
    simp [m_stopped, arF, bodySem_eq, sv_stopped, e1, q, e2]
/-! ### the stop -/
theorem ab0 {x : Rat} (h : ab x = 0) : x = 0 := by
  unfold ab at h
  split at h <;> grind
/-- the way to the stop, and half of the time to it -/
theorem rch_stop {p v b L : Rat} (hb : 0 < b) (hL : L * b = ab v) : rch p v (if v < 0 then b else -b) L = p + hf * (v * L) := by
  have hh := hf_two
  unfold rch ab at *
  split at hL
  · rename_i q
    rw [if_pos q]
    have e1 : hf * b * L = hf * -v := by grind
    have e2 : (v + hf * b * L) * L = hf * (v * L) := by
      rw [e1]
      have e3 : v = hf * v + hf * v := by rw [← Rat.add_mul, hh, Rat.one_mul]
      grind
    rw [e2]
  · rename_i q
    rw [if_neg q]
    have e1 : hf * -b * L = hf * -v := by grind
    have e2 : (v + hf * -b * L) * L = hf * (v * L) := by
      rw [e1]
      have e3 : v = hf * v + hf * v := by rw [← Rat.add_mul, hh, Rat.one_mul]
      grind
    rw [e2]
theorem rch_half {p v b L : Rat} (hb : 0 < b) (hL : L * b = ab v) : rch p v (if v < 0 then b else -b) (hf * L) = p + (1 - hf * hf) * (hf * (v * L)) := by
  have hh := hf_two
  unfold rch ab at *
  split at hL
  · rename_i q
    rw [if_pos q]
    have e1 : hf * b * (hf * L) = hf * hf * -v := by grind
    rw [e1]
    grind
  · rename_i q
    rw [if_neg q]
    have e1 : hf * -b * (hf * L) = hf * hf * -v := by grind
    rw [e1]
    grind
theorem stp_end {rs : List (Rat × Rat)} {b f L r : Rat} (hb : 0 < b) (hL : L * b = ab (spd rs f)) (hr : 0 ≤ r) (h0 : GoodM rs) : stp rs b f (f + L + r) = posn rs f + hf * (spd rs f * L) := by
  have hL0 : 0 ≤ L := by
    have h := ab_nonneg (a := spd rs f)
    by_cases q : 0 ≤ L
    · exact q
    · have : 0 < -L * b := Rat.mul_pos (by grind) hb
      grind
  have hq : L = ab (spd rs f) / b := by
    have hb0 : b ≠ 0 := by grind
    rw [← hL, Rat.mul_div_cancel hb0]
  unfold stp
  rw [← hq, show f + L + r - f = L + r by grind]
  by_cases q : f < f + L + r
  · rw [if_pos q, if_neg (show ¬ L + r < L by grind)]
    exact rch_stop hb hL
  · rw [if_neg q]
    have e1 : L = 0 := by grind
    have e2 : r = 0 := by grind
    rw [e1, e2]
    grind
theorem stp_half {rs : List (Rat × Rat)} {b f L : Rat} (hb : 0 < b) (hL : L * b = ab (spd rs f)) : stp rs b f (f + hf * L) = posn rs f + (1 - hf * hf) * (hf * (spd rs f * L)) := by
  have hh := hf_two
  have hh0 : 0 < hf := by decide +kernel
  have hL0 : 0 ≤ L := by
    have h := ab_nonneg (a := spd rs f)
    by_cases q : 0 ≤ L
    · exact q
    · have : 0 < -L * b := Rat.mul_pos (by grind) hb
      grind
  have hq : L = ab (spd rs f) / b := by
    have hb0 : b ≠ 0 := by grind
    rw [← hL, Rat.mul_div_cancel hb0]
  have hh2 : hf * L + hf * L = L := by rw [← Rat.add_mul, hh, Rat.one_mul]
  unfold stp
  rw [← hq, show f + hf * L - f = hf * L by grind]
  by_cases z : L = 0
  · subst z
    rw [if_neg (by grind)]
    grind
  · have hp : 0 < hf * L := Rat.mul_pos hh0 (by grind)
    rw [if_pos (show f < f + hf * L by grind), if_pos (show hf * L < L by grind)]
    exact rch_half hb hL
theorem num_mul {x y : Rat} {i j : Nat} (hx : Sz i x.num) (hy : Sz j y.num) : Sz (i + j) (x * y).num := by
  rw [← mul_eq]
  exact num_sz (hx.mul hy)
/-- a greater brake stops nearer -/
theorem far_le {v b c x y : Rat} (hb : 0 < b) (hbc : b ≤ c) (hx : x * (2 * b) = v * ab v) (hy : y * (2 * c) = v * ab v) : ab y ≤ ab x := by
  have key : ∀ {w b x : Rat}, 0 < b → x * (2 * b) = w → ab x * (2 * b) = ab w := fun {w b x} hb h => by
    unfold ab
    by_cases q : x < 0
    · have : 0 < -x * (2 * b) := Rat.mul_pos (by grind) (by grind)
      rw [if_pos q, if_pos (by grind)]
      grind
    · have : 0 ≤ x * (2 * b) := Rat.mul_nonneg (by grind) (by grind)
      rw [if_neg q, if_neg (by grind)]
      exact h
  have k1 := key hb hx
  have k2 := key (show 0 < c by grind) hy
  by_cases q : ab y ≤ ab x
  · exact q
  · have q : ab x < ab y := by grind
    have h1 : ab x * (2 * b) < ab y * (2 * b) := Rat.mul_lt_mul_of_pos_right q (by grind)
    have h2 : ab y * (2 * b) ≤ ab y * (2 * c) := Rat.mul_le_mul_of_nonneg_left (by grind) ab_nonneg
    grind
end
end Vs
set_option maxHeartbeats 1000000
/-! zip of two or three sequences of which each is a list or a tuple. -/
namespace Vs
open PySem PySem.Spec PyProof.Rows L2
open PySem.Sem (wp)
abbrev TupAt (h : Heap) (t : Addr) (arr : Array Value) : Prop := h.get? t = some { cls := .type "tuple", data := .seq arr }
/-- what stands outside of cs stays -/
def Kp (cs : List Addr) (h h' : Heap) : Prop := ∀ c o, c ∉ cs → h.get? c = some o → h'.get? c = some o
theorem Kp.trans {cs : List Addr} {h h1 h2 : Heap} (a : Kp cs h h1) (b : Kp cs h1 h2) : Kp cs h h2 := fun c o n e => b c o n (a c o n e)
theorem Kp.ext {cs : List Addr} {t : Addr} {h h' : Heap} (x : Heap.ExtBut t h h') (m : t ∈ cs) : Kp cs h h' := fun c o n e => x c o (fun q => n (by rw [q]; exact m)) e
theorem Kp.same {cs : List Addr} {t : Addr} {h h' : Heap} (x : Heap.SameBut t h h') (m : t ∈ cs) : Kp cs h h' := Kp.ext x.extBut m
theorem Kp.push {cs : List Addr} {h : Heap} (o : Obj) : Kp cs h (h.push o) := fun _ _ _ e => Heap.get?_push_of_some o e
def SIt : Bool → Heap → Addr → Addr → Nat → Prop
  | true, h, i, l, k => h.IsTupleIter i l k
  | false, h, i, l, k => h.IsListIter i l k
def SAt : Bool → Heap → Addr → Array Value → Prop
  | true, h, l, xs => h.IsTuple l xs
  | false, h, l, xs => h.IsList l xs
theorem SIt.get {b : Bool} {h : Heap} {i l : Addr} {k : Nat} (x : SIt b h i l k) : ∃ o, h.get? i = some o ∧ ∀ v, o.data ≠ .cell v := by
  cases b
  · obtain ⟨o, e, _, d⟩ := x; exact ⟨o, e, fun v q => by rw [d] at q; cases q⟩
  · obtain ⟨o, e, _, d⟩ := x; exact ⟨o, e, fun v q => by rw [d] at q; cases q⟩
theorem SIt.to {b : Bool} {h h' : Heap} {i l : Addr} {k : Nat} (x : SIt b h i l k) (e : ∀ o, h.get? i = some o → h'.get? i = some o) : SIt b h' i l k := by
  cases b
  · obtain ⟨o, e1, r⟩ := x; exact ⟨o, e _ e1, r⟩
  · obtain ⟨o, e1, r⟩ := x; exact ⟨o, e _ e1, r⟩
theorem SAt.to {b : Bool} {h h' : Heap} {l : Addr} {xs : Array Value} (x : SAt b h l xs) (e : ∀ o, h.get? l = some o → h'.get? l = some o) : SAt b h' l xs := by
  cases b
  · obtain ⟨o, e1, r⟩ := x; exact ⟨o, e _ e1, r⟩
  · obtain ⟨o, e1, r⟩ := x; exact ⟨o, e _ e1, r⟩
section
variable {prog : Program} {w : World} {A : Around} {E : Value → Shared → Prop} {s : Shared}
theorem src_item {b : Bool} {i l : Addr} {k : Nat} {xs : Array Value} {x : Value} {Q : Value → Shared → Prop} (hi : SIt b s.heap i l k) (hl : SAt b s.heap l xs) (hx : xs[k]? = some x)
    (hQ : ∀ h', SIt b h' i l (k + 1) → Heap.SameBut i s.heap h' → Q x { s with heap := h' }) : wpAny (model prog w) A (Builtin.SmallTypes.nextOf (.ref i)) Q E s := by
  cases b
  · exact wpAny_nextOf_list_item hi hl hx hQ
  · exact RZ.nextOf_tuple_item hi hl hx hQ
theorem src_end {b : Bool} {i l : Addr} {k : Nat} {xs : Array Value} {Q : Value → Shared → Prop} (hh : A.handled = none) (hi : SIt b s.heap i l k) (hl : SAt b s.heap l xs) (hx : xs[k]? = none)
    (hE : ∀ h' e, Heap.ExtBut i s.heap h' → (∃ o, h'.get? e = some o ∧ o.cls = .type "StopIteration") → E (.ref e) { s with heap := h' }) : wpAny (model prog w) A (Builtin.SmallTypes.nextOf (.ref i)) Q E s := by
  cases b
  · exact wpAny_nextOf_list_end hh hi hl hx hE
  · exact RZ.nextOf_tuple_end hh hi hl hx hE
theorem upd_tup2 {t : Addr} {o1 o2 x : Value} {k : Nat} {Q : Unit → Shared → Prop} (hT : TupAt s.heap t #[o1, o2]) (h : ∀ h', TupAt h' t ((#[o1, o2] : Array Value).setIfInBounds k x) → Heap.SameBut t s.heap h' → Q () { s with heap := h' }) :
    wpAny (model prog w) A (updateSeq t (·.setIfInBounds k x)) Q E s := by
  refine wpAny_updateSeq hT rfl (h _ ?_ (Heap.SameBut.update ..))
  show Heap.get? _ _ = _
  rw [Heap.get?_update_self _ hT rfl]; simp [Obj.mapSeq]
theorem upd_tup3 {t : Addr} {o1 o2 o3 x : Value} {k : Nat} {Q : Unit → Shared → Prop} (hT : TupAt s.heap t #[o1, o2, o3]) (h : ∀ h', TupAt h' t ((#[o1, o2, o3] : Array Value).setIfInBounds k x) → Heap.SameBut t s.heap h' → Q () { s with heap := h' }) :
    wpAny (model prog w) A (updateSeq t (·.setIfInBounds k x)) Q E s := by
  refine wpAny_updateSeq hT rfl (h _ ?_ (Heap.SameBut.update ..))
  show Heap.get? _ _ = _
  rw [Heap.get?_update_self _ hT rfl]; simp [Obj.mapSeq]
theorem znext2 {zp ti ou i1 i2 l1 l2 : Addr} {b1 b2 : Bool} {k : Nat} {xs1 xs2 : Array Value} {o1 o2 : Value} {x1 x2 : Value} {Q : Value → Shared → Prop} (D : ([zp, ti, ou, i1, i2] : List Addr).Nodup) (M : ∀ l ∈ ([l1, l2] : List Addr), l ∉ ([zp, ou, i1, i2] : List Addr)) (hz : IsZip s.heap zp ti ou .none) (hTI : TupAt s.heap ti #[.ref i1, .ref i2]) (hTO : TupAt s.heap ou #[o1, o2]) (h1 : SIt b1 s.heap i1 l1 k) (h2 : SIt b2 s.heap i2 l2 k) (q1 : SAt b1 s.heap l1 xs1) (q2 : SAt b2 s.heap l2 xs2) (e1 : xs1[k]? = some x1) (e2 : xs2[k]? = some x2)
    (hQ : ∀ h', IsZip h' zp ti ou (rawInt s.heap.objs.size) → TupAt h' ou #[x1, x2] → SIt b1 h' i1 l1 (k + 1) → SIt b2 h' i2 l2 (k + 1) → TupAt h' s.heap.objs.size #[x1, x2] → h'.objs.size = s.heap.objs.size + 1 → Kp [zp, ou, i1, i2] s.heap h' → Q (.ref s.heap.objs.size) { s with heap := h' }) :
    wpAny (model prog w) A (Builtin.«zip.__next__» ⟨[.ref zp], []⟩) (fun fin s' => ∃ v, fin = .done (.ret v) ∧ Q v s') E s := by
  have N := D
  simp only [List.nodup_cons, List.mem_cons, not_or, List.not_mem_nil, not_false_eq_true, and_true, List.nodup_nil, true_and] at N
  obtain ⟨⟨nzp_ti, nzp_ou, nzp_i1, nzp_i2⟩, ⟨⟨nti_ou, nti_i1, nti_i2⟩, ⟨⟨nou_i1, nou_i2⟩, ni1_i2⟩⟩⟩ := N
  have M1 := M l1 (by simp)
  simp only [List.mem_cons, not_or, List.not_mem_nil, not_false_eq_true, and_true] at M1
  obtain ⟨m1_zp, m1_ou, m1_i1, m1_i2⟩ := M1
  have M2 := M l2 (by simp)
  simp only [List.mem_cons, not_or, List.not_mem_nil, not_false_eq_true, and_true] at M2
  obtain ⟨m2_zp, m2_ou, m2_i1, m2_i2⟩ := M2
  refine (show wpAny _ _ (field (.ref zp) 2 >>= _) _ _ s from wpAny_bind (wpAny_field hz rfl (x := .bool false) rfl ?_))
  refine (show wpAny _ _ (field (.ref zp) 3 >>= _) _ _ s from wpAny_bind (wpAny_field hz rfl (x := .ref ti) rfl ?_))
  refine (wpAny_bind (wpAny_seqItems hTI rfl ?_))
  refine (show wpAny _ _ (Builtin.SmallTypes.ownedTupleIsFree (.ref zp) >>= _) _ _ s from wpAny_bind ?_)
  unfold Builtin.SmallTypes.ownedTupleIsFree
  refine wpAny_bind (wpAny_field hz rfl (x := .none) rfl (wpAny_pure ?_))
  simp only [if_true]
  refine wpAny_bind (wpAny_rule (wpAny_bind (wpAny_field hz rfl (x := .ref ou) rfl (wpAny_bind (wpAny_setField_rec hz (by simp) fun g0 z0 s0 => ?_)))))
  replace z0 : IsZip g0 zp ti ou .ellipsis := z0
  have t0 : TupAt g0 ou #[o1, o2] := s0.extBut _ _ (Ne.symm nzp_ou) hTO
  have k0 : Kp [zp, ou, i1, i2] s.heap g0 := Kp.same s0 (by simp)
  have h1_0 : SIt b1 g0 i1 l1 k := h1.to fun o e => s0.extBut _ o (Ne.symm nzp_i1) e
  have q1_0 : SAt b1 g0 l1 xs1 := q1.to fun o e => s0.extBut _ o m1_zp e
  have h2_0 : SIt b2 g0 i2 l2 k := h2.to fun o e => s0.extBut _ o (Ne.symm nzp_i2) e
  have q2_0 : SAt b2 g0 l2 xs2 := q2.to fun o e => s0.extBut _ o m2_zp e
  refine wpAny_bind ?_
  simp only [List.zipIdx_cons, List.zipIdx_nil, List.forIn_cons, List.forIn_nil]
  have y0 : g0.objs.size = s.heap.objs.size := s0.1
  refine wpAny_bind (wpAny_bind (wpAny_onRaise (show wpAny _ _ (Builtin.SmallTypes.nextOf (.ref i1) >>= _) _ _ _ from ?_)))
  refine wpAny_bind (src_item h1_0 q1_0 e1 fun u1 j1 c1 => wpAny_pure ?_)
  have v1 : TupAt u1 ou #[o1, o2] := c1.extBut _ _ nou_i1 t0
  refine wpAny_bind (wpAny_seqItems v1 rfl (wpAny_bind (upd_tup2 v1 fun g1 t1 s1 => wpAny_bind (wpAny_letGo (wpAny_pure ?_)))))
  replace t1 : TupAt g1 ou #[x1, o2] := t1
  have z1 : IsZip g1 zp ti ou .ellipsis := s1.extBut _ _ nzp_ou (c1.extBut _ _ nzp_i1 z0)
  have k1 : Kp [zp, ou, i1, i2] s.heap g1 := k0.trans ((Kp.same c1 (by simp)).trans (Kp.same s1 (by simp)))
  have y1 : g1.objs.size = s.heap.objs.size := by rw [s1.1, c1.1]; exact y0
  have h1_1 : SIt b1 g1 i1 l1 (k + 1) := j1.to fun o e => s1.extBut _ o (Ne.symm nou_i1) e
  have q1_1 : SAt b1 g1 l1 xs1 := q1_0.to fun o e => s1.extBut _ o m1_ou (c1.extBut _ o m1_i1 e)
  have h2_1 : SIt b2 g1 i2 l2 k := h2_0.to fun o e => s1.extBut _ o (Ne.symm nou_i2) (c1.extBut _ o (Ne.symm ni1_i2) e)
  have q2_1 : SAt b2 g1 l2 xs2 := q2_0.to fun o e => s1.extBut _ o m2_ou (c1.extBut _ o m2_i1 e)
  refine wpAny_bind (wpAny_bind (wpAny_onRaise (show wpAny _ _ (Builtin.SmallTypes.nextOf (.ref i2) >>= _) _ _ _ from ?_)))
  refine wpAny_bind (src_item h2_1 q2_1 e2 fun u2 j2 c2 => wpAny_pure ?_)
  have v2 : TupAt u2 ou #[x1, o2] := c2.extBut _ _ nou_i2 t1
  refine wpAny_bind (wpAny_seqItems v2 rfl (wpAny_bind (upd_tup2 v2 fun g2 t2 s2 => wpAny_bind (wpAny_letGo (wpAny_pure ?_)))))
  replace t2 : TupAt g2 ou #[x1, x2] := t2
  have z2 : IsZip g2 zp ti ou .ellipsis := s2.extBut _ _ nzp_ou (c2.extBut _ _ nzp_i2 z1)
  have k2 : Kp [zp, ou, i1, i2] s.heap g2 := k1.trans ((Kp.same c2 (by simp)).trans (Kp.same s2 (by simp)))
  have y2 : g2.objs.size = s.heap.objs.size := by rw [s2.1, c2.1]; exact y1
  have h1_2 : SIt b1 g2 i1 l1 (k + 1) := h1_1.to fun o e => s2.extBut _ o (Ne.symm nou_i1) (c2.extBut _ o ni1_i2 e)
  have q1_2 : SAt b1 g2 l1 xs1 := q1_1.to fun o e => s2.extBut _ o m1_ou (c2.extBut _ o m1_i2 e)
  have h2_2 : SIt b2 g2 i2 l2 (k + 1) := j2.to fun o e => s2.extBut _ o (Ne.symm nou_i2) e
  have q2_2 : SAt b2 g2 l2 xs2 := q2_1.to fun o e => s2.extBut _ o m2_ou (c2.extBut _ o m2_i2 e)
  refine wpAny_pure (wpAny_bind (wpAny_seqItems t2 rfl (wpAny_bind (wpAny_newTuple ?_))))
  refine (show wpAny _ _ (Builtin.SmallTypes.ownedTupleHandOut (.ref zp) (.ref g2.objs.size) >>= _) _ _ _ from wpAny_bind ?_)
  unfold Builtin.SmallTypes.ownedTupleHandOut
  have zlt : zp < g2.objs.size := Heap.lt_size z2
  have zf : IsZip (g2.push { cls := .type "tuple", data := .seq #[x1, x2] }) zp ti ou .ellipsis := Heap.get?_push_of_some _ z2
  refine wpAny_bind (wpAny_setField_rec zf (by simp) fun ga za sa => ?_)
  replace za : IsZip ga zp ti ou (rawInt g2.objs.size) := za
  refine wpAny_setField_rec za (by simp) fun gb zb sb => ?_
  replace zb : IsZip gb zp ti ou (rawInt g2.objs.size) := zb
  have up : ∀ c o, c ≠ zp → g2.get? c = some o → gb.get? c = some o := fun c o cn e => sb.extBut _ _ cn (sa.extBut _ _ cn (Heap.get?_push_of_some _ e))
  have nt : TupAt gb g2.objs.size #[x1, x2] := sb.extBut _ _ (Nat.ne_of_gt zlt) (sa.extBut _ _ (Nat.ne_of_gt zlt) (Heap.get?_push_size _ rfl))
  have sz : gb.objs.size = g2.objs.size + 1 := by rw [sb.1, sa.1, Heap.size_push]
  rw [y2] at zb nt sz
  refine wpAny_pure ⟨_, rfl, (show Q (.ref g2.objs.size) _ from ?_)⟩
  rw [y2]
  exact hQ gb zb (up _ _ (Ne.symm nzp_ou) t2) (h1_2.to fun o e => up _ o (Ne.symm nzp_i1) e) (h2_2.to fun o e => up _ o (Ne.symm nzp_i2) e) nt sz (k2.trans fun c o cn e => up c o (fun z => cn (by rw [z]; simp)) e)
theorem zend2 {zp ti ou i1 i2 l1 l2 : Addr} {b1 b2 : Bool} {k : Nat} {xs1 xs2 : Array Value} {o1 o2 : Value} {Q : Fin → Shared → Prop} (hh : A.handled = none) (D : ([zp, ti, ou, i1, i2] : List Addr).Nodup) (M : ∀ l ∈ ([l1, l2] : List Addr), l ∉ ([zp, ou, i1, i2] : List Addr)) (hz : IsZip s.heap zp ti ou .none) (hTI : TupAt s.heap ti #[.ref i1, .ref i2]) (hTO : TupAt s.heap ou #[o1, o2]) (h1 : SIt b1 s.heap i1 l1 k) (h2 : SIt b2 s.heap i2 l2 k) (q1 : SAt b1 s.heap l1 xs1) (q2 : SAt b2 s.heap l2 xs2) (hend : xs1[k]? = none ∨ xs2[k]? = none)
    (hE : ∀ h' e, Kp [zp, ou, i1, i2] s.heap h' → (∃ o, h'.get? e = some o ∧ o.cls = .type "StopIteration") → E (.ref e) { s with heap := h' }) :
    wpAny (model prog w) A (Builtin.«zip.__next__» ⟨[.ref zp], []⟩) Q E s := by
  have N := D
  simp only [List.nodup_cons, List.mem_cons, not_or, List.not_mem_nil, not_false_eq_true, and_true, List.nodup_nil, true_and] at N
  obtain ⟨⟨nzp_ti, nzp_ou, nzp_i1, nzp_i2⟩, ⟨⟨nti_ou, nti_i1, nti_i2⟩, ⟨⟨nou_i1, nou_i2⟩, ni1_i2⟩⟩⟩ := N
  have M1 := M l1 (by simp)
  simp only [List.mem_cons, not_or, List.not_mem_nil, not_false_eq_true, and_true] at M1
  obtain ⟨m1_zp, m1_ou, m1_i1, m1_i2⟩ := M1
  have M2 := M l2 (by simp)
  simp only [List.mem_cons, not_or, List.not_mem_nil, not_false_eq_true, and_true] at M2
  obtain ⟨m2_zp, m2_ou, m2_i1, m2_i2⟩ := M2
  refine (show wpAny _ _ (field (.ref zp) 2 >>= _) _ _ s from wpAny_bind (wpAny_field hz rfl (x := .bool false) rfl ?_))
  refine (show wpAny _ _ (field (.ref zp) 3 >>= _) _ _ s from wpAny_bind (wpAny_field hz rfl (x := .ref ti) rfl ?_))
  refine (wpAny_bind (wpAny_seqItems hTI rfl ?_))
  refine (show wpAny _ _ (Builtin.SmallTypes.ownedTupleIsFree (.ref zp) >>= _) _ _ s from wpAny_bind ?_)
  unfold Builtin.SmallTypes.ownedTupleIsFree
  refine wpAny_bind (wpAny_field hz rfl (x := .none) rfl (wpAny_pure ?_))
  simp only [if_true]
  refine wpAny_bind (wpAny_rule (wpAny_bind (wpAny_field hz rfl (x := .ref ou) rfl (wpAny_bind (wpAny_setField_rec hz (by simp) fun g0 z0 s0 => ?_)))))
  replace z0 : IsZip g0 zp ti ou .ellipsis := z0
  have t0 : TupAt g0 ou #[o1, o2] := s0.extBut _ _ (Ne.symm nzp_ou) hTO
  have k0 : Kp [zp, ou, i1, i2] s.heap g0 := Kp.same s0 (by simp)
  have h1_0 : SIt b1 g0 i1 l1 k := h1.to fun o e => s0.extBut _ o (Ne.symm nzp_i1) e
  have q1_0 : SAt b1 g0 l1 xs1 := q1.to fun o e => s0.extBut _ o m1_zp e
  have h2_0 : SIt b2 g0 i2 l2 k := h2.to fun o e => s0.extBut _ o (Ne.symm nzp_i2) e
  have q2_0 : SAt b2 g0 l2 xs2 := q2.to fun o e => s0.extBut _ o m2_zp e
  refine wpAny_bind ?_
  simp only [List.zipIdx_cons, List.zipIdx_nil, List.forIn_cons, List.forIn_nil]
  have y0 : g0.objs.size = s.heap.objs.size := s0.1
  refine wpAny_bind (wpAny_bind (wpAny_onRaise (show wpAny _ _ (Builtin.SmallTypes.nextOf (.ref i1) >>= _) _ _ _ from ?_)))
  rcases e1 : xs1[k]? with _ | x1
  · refine wpAny_bind (src_end hh h1_0 q1_0 e1 fun u1 e c1 he => ?_)
    obtain ⟨oe, hoe, hce⟩ := he
    have zz : IsZip u1 zp ti ou .ellipsis := c1 _ _ nzp_i1 z0
    have ez : e ≠ zp := fun q => by subst q; rw [zz] at hoe; cases hoe; simp at hce
    exact wpAny_setField_rec zz (by simp) fun ge _ se => hE ge e (k0.trans ((Kp.ext c1 (by simp)).trans (Kp.same se (by simp)))) ⟨oe, se.extBut _ _ ez hoe, hce⟩
  refine wpAny_bind (src_item h1_0 q1_0 e1 fun u1 j1 c1 => wpAny_pure ?_)
  have v1 : TupAt u1 ou #[o1, o2] := c1.extBut _ _ nou_i1 t0
  refine wpAny_bind (wpAny_seqItems v1 rfl (wpAny_bind (upd_tup2 v1 fun g1 t1 s1 => wpAny_bind (wpAny_letGo (wpAny_pure ?_)))))
  replace t1 : TupAt g1 ou #[x1, o2] := t1
  have z1 : IsZip g1 zp ti ou .ellipsis := s1.extBut _ _ nzp_ou (c1.extBut _ _ nzp_i1 z0)
  have k1 : Kp [zp, ou, i1, i2] s.heap g1 := k0.trans ((Kp.same c1 (by simp)).trans (Kp.same s1 (by simp)))
  have y1 : g1.objs.size = s.heap.objs.size := by rw [s1.1, c1.1]; exact y0
  have h1_1 : SIt b1 g1 i1 l1 (k + 1) := j1.to fun o e => s1.extBut _ o (Ne.symm nou_i1) e
  have q1_1 : SAt b1 g1 l1 xs1 := q1_0.to fun o e => s1.extBut _ o m1_ou (c1.extBut _ o m1_i1 e)
  have h2_1 : SIt b2 g1 i2 l2 k := h2_0.to fun o e => s1.extBut _ o (Ne.symm nou_i2) (c1.extBut _ o (Ne.symm ni1_i2) e)
  have q2_1 : SAt b2 g1 l2 xs2 := q2_0.to fun o e => s1.extBut _ o m2_ou (c1.extBut _ o m2_i1 e)
  refine wpAny_bind (wpAny_bind (wpAny_onRaise (show wpAny _ _ (Builtin.SmallTypes.nextOf (.ref i2) >>= _) _ _ _ from ?_)))
  rcases e2 : xs2[k]? with _ | x2
  · refine wpAny_bind (src_end hh h2_1 q2_1 e2 fun u2 e c2 he => ?_)
    obtain ⟨oe, hoe, hce⟩ := he
    have zz : IsZip u2 zp ti ou .ellipsis := c2 _ _ nzp_i2 z1
    have ez : e ≠ zp := fun q => by subst q; rw [zz] at hoe; cases hoe; simp at hce
    exact wpAny_setField_rec zz (by simp) fun ge _ se => hE ge e (k1.trans ((Kp.ext c2 (by simp)).trans (Kp.same se (by simp)))) ⟨oe, se.extBut _ _ ez hoe, hce⟩
  · exfalso; simp [e1, e2] at hend
theorem zpy2 {zp ti ou i1 i2 l1 l2 : Addr} {b1 b2 : Bool} {k : Nat} {xs1 xs2 : Array Value} {o1 o2 : Value} {x1 x2 : Value} {Q : Option Value → Shared → Prop} (D : ([zp, ti, ou, i1, i2] : List Addr).Nodup) (M : ∀ l ∈ ([l1, l2] : List Addr), l ∉ ([zp, ou, i1, i2] : List Addr)) (hz : IsZip s.heap zp ti ou .none) (hTI : TupAt s.heap ti #[.ref i1, .ref i2]) (hTO : TupAt s.heap ou #[o1, o2]) (h1 : SIt b1 s.heap i1 l1 k) (h2 : SIt b2 s.heap i2 l2 k) (q1 : SAt b1 s.heap l1 xs1) (q2 : SAt b2 s.heap l2 xs2) (e1 : xs1[k]? = some x1) (e2 : xs2[k]? = some x2)
    (hQ : ∀ h', IsZip h' zp ti ou (rawInt s.heap.objs.size) → TupAt h' ou #[x1, x2] → SIt b1 h' i1 l1 (k + 1) → SIt b2 h' i2 l2 (k + 1) → TupAt h' s.heap.objs.size #[x1, x2] → h'.objs.size = s.heap.objs.size + 1 → Kp [zp, ou, i1, i2] s.heap h' → Q (some (.ref s.heap.objs.size)) { s with heap := h' }) : wpAny (model prog w) A (pyNext (.ref zp)) Q E s := by
  have tz : s.TypeIs (.ref zp) "zip" := ⟨_, hz, rfl⟩
  unfold pyNext
  refine wpAny_bind (wpAny_attempt (wpAny_callSpecial?_slot (name := Str.ofString "__next__") tz F.slot_zip_next (wpAny_call_entry F.slot_zip_next tz F.entry_zip_next ?_ (F.args_zip_next_1 _))))
  exact znext2 D M hz hTI hTO h1 h2 q1 q2 e1 e2 fun g a0 a1 a2 a3 a4 a5 a6 => wpAny_pure (hQ g a0 a1 a2 a3 a4 a5 a6)
theorem zpyE2 {zp ti ou i1 i2 l1 l2 : Addr} {b1 b2 : Bool} {k : Nat} {xs1 xs2 : Array Value} {o1 o2 : Value} {Q : Option Value → Shared → Prop} (hh : A.handled = none) (D : ([zp, ti, ou, i1, i2] : List Addr).Nodup) (M : ∀ l ∈ ([l1, l2] : List Addr), l ∉ ([zp, ou, i1, i2] : List Addr)) (hz : IsZip s.heap zp ti ou .none) (hTI : TupAt s.heap ti #[.ref i1, .ref i2]) (hTO : TupAt s.heap ou #[o1, o2]) (h1 : SIt b1 s.heap i1 l1 k) (h2 : SIt b2 s.heap i2 l2 k) (q1 : SAt b1 s.heap l1 xs1) (q2 : SAt b2 s.heap l2 xs2) (hend : xs1[k]? = none ∨ xs2[k]? = none)
    (hQ : ∀ h', Kp [zp, ou, i1, i2] s.heap h' → Q none { s with heap := h' }) : wpAny (model prog w) A (pyNext (.ref zp)) Q E s := by
  have tz : s.TypeIs (.ref zp) "zip" := ⟨_, hz, rfl⟩
  unfold pyNext
  refine wpAny_bind (wpAny_attempt (wpAny_callSpecial?_slot (name := Str.ofString "__next__") tz F.slot_zip_next (wpAny_call_entry F.slot_zip_next tz F.entry_zip_next ?_ (F.args_zip_next_1 _))))
  refine zend2 hh D M hz hTI hTO h1 h2 q1 q2 hend fun g e kp ⟨oe, g1, g2⟩ => ?_
  exact wpAny_bind (wpAny_isInstance (T := "StopIteration") (b := true) ⟨oe, g1, g2⟩ isSubtype_stop (wpAny_pure (hQ _ kp)))
theorem znext3 {zp ti ou i1 i2 i3 l1 l2 l3 : Addr} {b1 b2 b3 : Bool} {k : Nat} {xs1 xs2 xs3 : Array Value} {o1 o2 o3 : Value} {x1 x2 x3 : Value} {Q : Value → Shared → Prop} (D : ([zp, ti, ou, i1, i2, i3] : List Addr).Nodup) (M : ∀ l ∈ ([l1, l2, l3] : List Addr), l ∉ ([zp, ou, i1, i2, i3] : List Addr)) (hz : IsZip s.heap zp ti ou .none) (hTI : TupAt s.heap ti #[.ref i1, .ref i2, .ref i3]) (hTO : TupAt s.heap ou #[o1, o2, o3]) (h1 : SIt b1 s.heap i1 l1 k) (h2 : SIt b2 s.heap i2 l2 k) (h3 : SIt b3 s.heap i3 l3 k) (q1 : SAt b1 s.heap l1 xs1) (q2 : SAt b2 s.heap l2 xs2) (q3 : SAt b3 s.heap l3 xs3) (e1 : xs1[k]? = some x1) (e2 : xs2[k]? = some x2) (e3 : xs3[k]? = some x3)
    (hQ : ∀ h', IsZip h' zp ti ou (rawInt s.heap.objs.size) → TupAt h' ou #[x1, x2, x3] → SIt b1 h' i1 l1 (k + 1) → SIt b2 h' i2 l2 (k + 1) → SIt b3 h' i3 l3 (k + 1) → TupAt h' s.heap.objs.size #[x1, x2, x3] → h'.objs.size = s.heap.objs.size + 1 → Kp [zp, ou, i1, i2, i3] s.heap h' → Q (.ref s.heap.objs.size) { s with heap := h' }) :
    wpAny (model prog w) A (Builtin.«zip.__next__» ⟨[.ref zp], []⟩) (fun fin s' => ∃ v, fin = .done (.ret v) ∧ Q v s') E s := by
  have N := D
  simp only [List.nodup_cons, List.mem_cons, not_or, List.not_mem_nil, not_false_eq_true, and_true, List.nodup_nil, true_and] at N
  obtain ⟨⟨nzp_ti, nzp_ou, nzp_i1, nzp_i2, nzp_i3⟩, ⟨⟨nti_ou, nti_i1, nti_i2, nti_i3⟩, ⟨⟨nou_i1, nou_i2, nou_i3⟩, ⟨⟨ni1_i2, ni1_i3⟩, ni2_i3⟩⟩⟩⟩ := N
  have M1 := M l1 (by simp)
  simp only [List.mem_cons, not_or, List.not_mem_nil, not_false_eq_true, and_true] at M1
  obtain ⟨m1_zp, m1_ou, m1_i1, m1_i2, m1_i3⟩ := M1
  have M2 := M l2 (by simp)
  simp only [List.mem_cons, not_or, List.not_mem_nil, not_false_eq_true, and_true] at M2
  obtain ⟨m2_zp, m2_ou, m2_i1, m2_i2, m2_i3⟩ := M2
  have M3 := M l3 (by simp)
  simp only [List.mem_cons, not_or, List.not_mem_nil, not_false_eq_true, and_true] at M3
  obtain ⟨m3_zp, m3_ou, m3_i1, m3_i2, m3_i3⟩ := M3
  refine (show wpAny _ _ (field (.ref zp) 2 >>= _) _ _ s from wpAny_bind (wpAny_field hz rfl (x := .bool false) rfl ?_))
  refine (show wpAny _ _ (field (.ref zp) 3 >>= _) _ _ s from wpAny_bind (wpAny_field hz rfl (x := .ref ti) rfl ?_))
  refine (wpAny_bind (wpAny_seqItems hTI rfl ?_))
  refine (show wpAny _ _ (Builtin.SmallTypes.ownedTupleIsFree (.ref zp) >>= _) _ _ s from wpAny_bind ?_)
  unfold Builtin.SmallTypes.ownedTupleIsFree
  refine wpAny_bind (wpAny_field hz rfl (x := .none) rfl (wpAny_pure ?_))
  simp only [if_true]
  refine wpAny_bind (wpAny_rule (wpAny_bind (wpAny_field hz rfl (x := .ref ou) rfl (wpAny_bind (wpAny_setField_rec hz (by simp) fun g0 z0 s0 => ?_)))))
  replace z0 : IsZip g0 zp ti ou .ellipsis := z0
  have t0 : TupAt g0 ou #[o1, o2, o3] := s0.extBut _ _ (Ne.symm nzp_ou) hTO
  have k0 : Kp [zp, ou, i1, i2, i3] s.heap g0 := Kp.same s0 (by simp)
  have h1_0 : SIt b1 g0 i1 l1 k := h1.to fun o e => s0.extBut _ o (Ne.symm nzp_i1) e
  have q1_0 : SAt b1 g0 l1 xs1 := q1.to fun o e => s0.extBut _ o m1_zp e
  have h2_0 : SIt b2 g0 i2 l2 k := h2.to fun o e => s0.extBut _ o (Ne.symm nzp_i2) e
  have q2_0 : SAt b2 g0 l2 xs2 := q2.to fun o e => s0.extBut _ o m2_zp e
  have h3_0 : SIt b3 g0 i3 l3 k := h3.to fun o e => s0.extBut _ o (Ne.symm nzp_i3) e
  have q3_0 : SAt b3 g0 l3 xs3 := q3.to fun o e => s0.extBut _ o m3_zp e
  refine wpAny_bind ?_
  simp only [List.zipIdx_cons, List.zipIdx_nil, List.forIn_cons, List.forIn_nil]
  have y0 : g0.objs.size = s.heap.objs.size := s0.1
  refine wpAny_bind (wpAny_bind (wpAny_onRaise (show wpAny _ _ (Builtin.SmallTypes.nextOf (.ref i1) >>= _) _ _ _ from ?_)))
  refine wpAny_bind (src_item h1_0 q1_0 e1 fun u1 j1 c1 => wpAny_pure ?_)
  have v1 : TupAt u1 ou #[o1, o2, o3] := c1.extBut _ _ nou_i1 t0
  refine wpAny_bind (wpAny_seqItems v1 rfl (wpAny_bind (upd_tup3 v1 fun g1 t1 s1 => wpAny_bind (wpAny_letGo (wpAny_pure ?_)))))
  replace t1 : TupAt g1 ou #[x1, o2, o3] := t1
  have z1 : IsZip g1 zp ti ou .ellipsis := s1.extBut _ _ nzp_ou (c1.extBut _ _ nzp_i1 z0)
  have k1 : Kp [zp, ou, i1, i2, i3] s.heap g1 := k0.trans ((Kp.same c1 (by simp)).trans (Kp.same s1 (by simp)))
  have y1 : g1.objs.size = s.heap.objs.size := by rw [s1.1, c1.1]; exact y0
  have h1_1 : SIt b1 g1 i1 l1 (k + 1) := j1.to fun o e => s1.extBut _ o (Ne.symm nou_i1) e
  have q1_1 : SAt b1 g1 l1 xs1 := q1_0.to fun o e => s1.extBut _ o m1_ou (c1.extBut _ o m1_i1 e)
  have h2_1 : SIt b2 g1 i2 l2 k := h2_0.to fun o e => s1.extBut _ o (Ne.symm nou_i2) (c1.extBut _ o (Ne.symm ni1_i2) e)
  have q2_1 : SAt b2 g1 l2 xs2 := q2_0.to fun o e => s1.extBut _ o m2_ou (c1.extBut _ o m2_i1 e)
  have h3_1 : SIt b3 g1 i3 l3 k := h3_0.to fun o e => s1.extBut _ o (Ne.symm nou_i3) (c1.extBut _ o (Ne.symm ni1_i3) e)
  have q3_1 : SAt b3 g1 l3 xs3 := q3_0.to fun o e => s1.extBut _ o m3_ou (c1.extBut _ o m3_i1 e)
  refine wpAny_bind (wpAny_bind (wpAny_onRaise (show wpAny _ _ (Builtin.SmallTypes.nextOf (.ref i2) >>= _) _ _ _ from ?_)))
  refine wpAny_bind (src_item h2_1 q2_1 e2 fun u2 j2 c2 => wpAny_pure ?_)
  have v2 : TupAt u2 ou #[x1, o2, o3] := c2.extBut _ _ nou_i2 t1
  refine wpAny_bind (wpAny_seqItems v2 rfl (wpAny_bind (upd_tup3 v2 fun g2 t2 s2 => wpAny_bind (wpAny_letGo (wpAny_pure ?_)))))
  replace t2 : TupAt g2 ou #[x1, x2, o3] := t2
  have z2 : IsZip g2 zp ti ou .ellipsis := s2.extBut _ _ nzp_ou (c2.extBut _ _ nzp_i2 z1)
  have k2 : Kp [zp, ou, i1, i2, i3] s.heap g2 := k1.trans ((Kp.same c2 (by simp)).trans (Kp.same s2 (by simp)))
  have y2 : g2.objs.size = s.heap.objs.size := by rw [s2.1, c2.1]; exact y1
  have h1_2 : SIt b1 g2 i1 l1 (k + 1) := h1_1.to fun o e => s2.extBut _ o (Ne.symm nou_i1) (c2.extBut _ o ni1_i2 e)
  have q1_2 : SAt b1 g2 l1 xs1 := q1_1.to fun o e => s2.extBut _ o m1_ou (c2.extBut _ o m1_i2 e)
  have h2_2 : SIt b2 g2 i2 l2 (k + 1) := j2.to fun o e => s2.extBut _ o (Ne.symm nou_i2) e
  have q2_2 : SAt b2 g2 l2 xs2 := q2_1.to fun o e => s2.extBut _ o m2_ou (c2.extBut _ o m2_i2 e)
  have h3_2 : SIt b3 g2 i3 l3 k := h3_1.to fun o e => s2.extBut _ o (Ne.symm nou_i3) (c2.extBut _ o (Ne.symm ni2_i3) e)
  have q3_2 : SAt b3 g2 l3 xs3 := q3_1.to fun o e => s2.extBut _ o m3_ou (c2.extBut _ o m3_i2 e)
  refine wpAny_bind (wpAny_bind (wpAny_onRaise (show wpAny _ _ (Builtin.SmallTypes.nextOf (.ref i3) >>= _) _ _ _ from ?_)))
  refine wpAny_bind (src_item h3_2 q3_2 e3 fun u3 j3 c3 => wpAny_pure ?_)
  have v3 : TupAt u3 ou #[x1, x2, o3] := c3.extBut _ _ nou_i3 t2
  refine wpAny_bind (wpAny_seqItems v3 rfl (wpAny_bind (upd_tup3 v3 fun g3 t3 s3 => wpAny_bind (wpAny_letGo (wpAny_pure ?_)))))
  replace t3 : TupAt g3 ou #[x1, x2, x3] := t3
  have z3 : IsZip g3 zp ti ou .ellipsis := s3.extBut _ _ nzp_ou (c3.extBut _ _ nzp_i3 z2)
  have k3 : Kp [zp, ou, i1, i2, i3] s.heap g3 := k2.trans ((Kp.same c3 (by simp)).trans (Kp.same s3 (by simp)))
  have y3 : g3.objs.size = s.heap.objs.size := by rw [s3.1, c3.1]; exact y2
  have h1_3 : SIt b1 g3 i1 l1 (k + 1) := h1_2.to fun o e => s3.extBut _ o (Ne.symm nou_i1) (c3.extBut _ o ni1_i3 e)
  have q1_3 : SAt b1 g3 l1 xs1 := q1_2.to fun o e => s3.extBut _ o m1_ou (c3.extBut _ o m1_i3 e)
  have h2_3 : SIt b2 g3 i2 l2 (k + 1) := h2_2.to fun o e => s3.extBut _ o (Ne.symm nou_i2) (c3.extBut _ o ni2_i3 e)
  have q2_3 : SAt b2 g3 l2 xs2 := q2_2.to fun o e => s3.extBut _ o m2_ou (c3.extBut _ o m2_i3 e)
  have h3_3 : SIt b3 g3 i3 l3 (k + 1) := j3.to fun o e => s3.extBut _ o (Ne.symm nou_i3) e
  have q3_3 : SAt b3 g3 l3 xs3 := q3_2.to fun o e => s3.extBut _ o m3_ou (c3.extBut _ o m3_i3 e)
  refine wpAny_pure (wpAny_bind (wpAny_seqItems t3 rfl (wpAny_bind (wpAny_newTuple ?_))))
  refine (show wpAny _ _ (Builtin.SmallTypes.ownedTupleHandOut (.ref zp) (.ref g3.objs.size) >>= _) _ _ _ from wpAny_bind ?_)
  unfold Builtin.SmallTypes.ownedTupleHandOut
  have zlt : zp < g3.objs.size := Heap.lt_size z3
  have zf : IsZip (g3.push { cls := .type "tuple", data := .seq #[x1, x2, x3] }) zp ti ou .ellipsis := Heap.get?_push_of_some _ z3
  refine wpAny_bind (wpAny_setField_rec zf (by simp) fun ga za sa => ?_)
  replace za : IsZip ga zp ti ou (rawInt g3.objs.size) := za
  refine wpAny_setField_rec za (by simp) fun gb zb sb => ?_
  replace zb : IsZip gb zp ti ou (rawInt g3.objs.size) := zb
  have up : ∀ c o, c ≠ zp → g3.get? c = some o → gb.get? c = some o := fun c o cn e => sb.extBut _ _ cn (sa.extBut _ _ cn (Heap.get?_push_of_some _ e))
  have nt : TupAt gb g3.objs.size #[x1, x2, x3] := sb.extBut _ _ (Nat.ne_of_gt zlt) (sa.extBut _ _ (Nat.ne_of_gt zlt) (Heap.get?_push_size _ rfl))
  have sz : gb.objs.size = g3.objs.size + 1 := by rw [sb.1, sa.1, Heap.size_push]
  rw [y3] at zb nt sz
  refine wpAny_pure ⟨_, rfl, (show Q (.ref g3.objs.size) _ from ?_)⟩
  rw [y3]
  exact hQ gb zb (up _ _ (Ne.symm nzp_ou) t3) (h1_3.to fun o e => up _ o (Ne.symm nzp_i1) e) (h2_3.to fun o e => up _ o (Ne.symm nzp_i2) e) (h3_3.to fun o e => up _ o (Ne.symm nzp_i3) e) nt sz (k3.trans fun c o cn e => up c o (fun z => cn (by rw [z]; simp)) e)
theorem zend3 {zp ti ou i1 i2 i3 l1 l2 l3 : Addr} {b1 b2 b3 : Bool} {k : Nat} {xs1 xs2 xs3 : Array Value} {o1 o2 o3 : Value} {Q : Fin → Shared → Prop} (hh : A.handled = none) (D : ([zp, ti, ou, i1, i2, i3] : List Addr).Nodup) (M : ∀ l ∈ ([l1, l2, l3] : List Addr), l ∉ ([zp, ou, i1, i2, i3] : List Addr)) (hz : IsZip s.heap zp ti ou .none) (hTI : TupAt s.heap ti #[.ref i1, .ref i2, .ref i3]) (hTO : TupAt s.heap ou #[o1, o2, o3]) (h1 : SIt b1 s.heap i1 l1 k) (h2 : SIt b2 s.heap i2 l2 k) (h3 : SIt b3 s.heap i3 l3 k) (q1 : SAt b1 s.heap l1 xs1) (q2 : SAt b2 s.heap l2 xs2) (q3 : SAt b3 s.heap l3 xs3) (hend : xs1[k]? = none ∨ xs2[k]? = none ∨ xs3[k]? = none)
    (hE : ∀ h' e, Kp [zp, ou, i1, i2, i3] s.heap h' → (∃ o, h'.get? e = some o ∧ o.cls = .type "StopIteration") → E (.ref e) { s with heap := h' }) :
    wpAny (model prog w) A (Builtin.«zip.__next__» ⟨[.ref zp], []⟩) Q E s := by
  have N := D
  simp only [List.nodup_cons, List.mem_cons, not_or, List.not_mem_nil, not_false_eq_true, and_true, List.nodup_nil, true_and] at N
  obtain ⟨⟨nzp_ti, nzp_ou, nzp_i1, nzp_i2, nzp_i3⟩, ⟨⟨nti_ou, nti_i1, nti_i2, nti_i3⟩, ⟨⟨nou_i1, nou_i2, nou_i3⟩, ⟨⟨ni1_i2, ni1_i3⟩, ni2_i3⟩⟩⟩⟩ := N
  have M1 := M l1 (by simp)
  simp only [List.mem_cons, not_or, List.not_mem_nil, not_false_eq_true, and_true] at M1
  obtain ⟨m1_zp, m1_ou, m1_i1, m1_i2, m1_i3⟩ := M1
  have M2 := M l2 (by simp)
  simp only [List.mem_cons, not_or, List.not_mem_nil, not_false_eq_true, and_true] at M2
  obtain ⟨m2_zp, m2_ou, m2_i1, m2_i2, m2_i3⟩ := M2
  have M3 := M l3 (by simp)
  simp only [List.mem_cons, not_or, List.not_mem_nil, not_false_eq_true, and_true] at M3
  obtain ⟨m3_zp, m3_ou, m3_i1, m3_i2, m3_i3⟩ := M3
  refine (show wpAny _ _ (field (.ref zp) 2 >>= _) _ _ s from wpAny_bind (wpAny_field hz rfl (x := .bool false) rfl ?_))
  refine (show wpAny _ _ (field (.ref zp) 3 >>= _) _ _ s from wpAny_bind (wpAny_field hz rfl (x := .ref ti) rfl ?_))
  refine (wpAny_bind (wpAny_seqItems hTI rfl ?_))
  refine (show wpAny _ _ (Builtin.SmallTypes.ownedTupleIsFree (.ref zp) >>= _) _ _ s from wpAny_bind ?_)
  unfold Builtin.SmallTypes.ownedTupleIsFree
  refine wpAny_bind (wpAny_field hz rfl (x := .none) rfl (wpAny_pure ?_))
  simp only [if_true]
  refine wpAny_bind (wpAny_rule (wpAny_bind (wpAny_field hz rfl (x := .ref ou) rfl (wpAny_bind (wpAny_setField_rec hz (by simp) fun g0 z0 s0 => ?_)))))
  replace z0 : IsZip g0 zp ti ou .ellipsis := z0
  have t0 : TupAt g0 ou #[o1, o2, o3] := s0.extBut _ _ (Ne.symm nzp_ou) hTO
  have k0 : Kp [zp, ou, i1, i2, i3] s.heap g0 := Kp.same s0 (by simp)
  have h1_0 : SIt b1 g0 i1 l1 k := h1.to fun o e => s0.extBut _ o (Ne.symm nzp_i1) e
  have q1_0 : SAt b1 g0 l1 xs1 := q1.to fun o e => s0.extBut _ o m1_zp e
  have h2_0 : SIt b2 g0 i2 l2 k := h2.to fun o e => s0.extBut _ o (Ne.symm nzp_i2) e
  have q2_0 : SAt b2 g0 l2 xs2 := q2.to fun o e => s0.extBut _ o m2_zp e
  have h3_0 : SIt b3 g0 i3 l3 k := h3.to fun o e => s0.extBut _ o (Ne.symm nzp_i3) e
  have q3_0 : SAt b3 g0 l3 xs3 := q3.to fun o e => s0.extBut _ o m3_zp e
  refine wpAny_bind ?_
  simp only [List.zipIdx_cons, List.zipIdx_nil, List.forIn_cons, List.forIn_nil]
  have y0 : g0.objs.size = s.heap.objs.size := s0.1
  refine wpAny_bind (wpAny_bind (wpAny_onRaise (show wpAny _ _ (Builtin.SmallTypes.nextOf (.ref i1) >>= _) _ _ _ from ?_)))
  rcases e1 : xs1[k]? with _ | x1
  · refine wpAny_bind (src_end hh h1_0 q1_0 e1 fun u1 e c1 he => ?_)
    obtain ⟨oe, hoe, hce⟩ := he
    have zz : IsZip u1 zp ti ou .ellipsis := c1 _ _ nzp_i1 z0
    have ez : e ≠ zp := fun q => by subst q; rw [zz] at hoe; cases hoe; simp at hce
    exact wpAny_setField_rec zz (by simp) fun ge _ se => hE ge e (k0.trans ((Kp.ext c1 (by simp)).trans (Kp.same se (by simp)))) ⟨oe, se.extBut _ _ ez hoe, hce⟩
  refine wpAny_bind (src_item h1_0 q1_0 e1 fun u1 j1 c1 => wpAny_pure ?_)
  have v1 : TupAt u1 ou #[o1, o2, o3] := c1.extBut _ _ nou_i1 t0
  refine wpAny_bind (wpAny_seqItems v1 rfl (wpAny_bind (upd_tup3 v1 fun g1 t1 s1 => wpAny_bind (wpAny_letGo (wpAny_pure ?_)))))
  replace t1 : TupAt g1 ou #[x1, o2, o3] := t1
  have z1 : IsZip g1 zp ti ou .ellipsis := s1.extBut _ _ nzp_ou (c1.extBut _ _ nzp_i1 z0)
  have k1 : Kp [zp, ou, i1, i2, i3] s.heap g1 := k0.trans ((Kp.same c1 (by simp)).trans (Kp.same s1 (by simp)))
  have y1 : g1.objs.size = s.heap.objs.size := by rw [s1.1, c1.1]; exact y0
  have h1_1 : SIt b1 g1 i1 l1 (k + 1) := j1.to fun o e => s1.extBut _ o (Ne.symm nou_i1) e
  have q1_1 : SAt b1 g1 l1 xs1 := q1_0.to fun o e => s1.extBut _ o m1_ou (c1.extBut _ o m1_i1 e)
  have h2_1 : SIt b2 g1 i2 l2 k := h2_0.to fun o e => s1.extBut _ o (Ne.symm nou_i2) (c1.extBut _ o (Ne.symm ni1_i2) e)
  have q2_1 : SAt b2 g1 l2 xs2 := q2_0.to fun o e => s1.extBut _ o m2_ou (c1.extBut _ o m2_i1 e)
  have h3_1 : SIt b3 g1 i3 l3 k := h3_0.to fun o e => s1.extBut _ o (Ne.symm nou_i3) (c1.extBut _ o (Ne.symm ni1_i3) e)
  have q3_1 : SAt b3 g1 l3 xs3 := q3_0.to fun o e => s1.extBut _ o m3_ou (c1.extBut _ o m3_i1 e)
  refine wpAny_bind (wpAny_bind (wpAny_onRaise (show wpAny _ _ (Builtin.SmallTypes.nextOf (.ref i2) >>= _) _ _ _ from ?_)))
  rcases e2 : xs2[k]? with _ | x2
  · refine wpAny_bind (src_end hh h2_1 q2_1 e2 fun u2 e c2 he => ?_)
    obtain ⟨oe, hoe, hce⟩ := he
    have zz : IsZip u2 zp ti ou .ellipsis := c2 _ _ nzp_i2 z1
    have ez : e ≠ zp := fun q => by subst q; rw [zz] at hoe; cases hoe; simp at hce
    exact wpAny_setField_rec zz (by simp) fun ge _ se => hE ge e (k1.trans ((Kp.ext c2 (by simp)).trans (Kp.same se (by simp)))) ⟨oe, se.extBut _ _ ez hoe, hce⟩
  refine wpAny_bind (src_item h2_1 q2_1 e2 fun u2 j2 c2 => wpAny_pure ?_)
  have v2 : TupAt u2 ou #[x1, o2, o3] := c2.extBut _ _ nou_i2 t1
  refine wpAny_bind (wpAny_seqItems v2 rfl (wpAny_bind (upd_tup3 v2 fun g2 t2 s2 => wpAny_bind (wpAny_letGo (wpAny_pure ?_)))))
  replace t2 : TupAt g2 ou #[x1, x2, o3] := t2
  have z2 : IsZip g2 zp ti ou .ellipsis := s2.extBut _ _ nzp_ou (c2.extBut _ _ nzp_i2 z1)
  have k2 : Kp [zp, ou, i1, i2, i3] s.heap g2 := k1.trans ((Kp.same c2 (by simp)).trans (Kp.same s2 (by simp)))
  have y2 : g2.objs.size = s.heap.objs.size := by rw [s2.1, c2.1]; exact y1
  have h1_2 : SIt b1 g2 i1 l1 (k + 1) := h1_1.to fun o e => s2.extBut _ o (Ne.symm nou_i1) (c2.extBut _ o ni1_i2 e)
  have q1_2 : SAt b1 g2 l1 xs1 := q1_1.to fun o e => s2.extBut _ o m1_ou (c2.extBut _ o m1_i2 e)
  have h2_2 : SIt b2 g2 i2 l2 (k + 1) := j2.to fun o e => s2.extBut _ o (Ne.symm nou_i2) e
  have q2_2 : SAt b2 g2 l2 xs2 := q2_1.to fun o e => s2.extBut _ o m2_ou (c2.extBut _ o m2_i2 e)
  have h3_2 : SIt b3 g2 i3 l3 k := h3_1.to fun o e => s2.extBut _ o (Ne.symm nou_i3) (c2.extBut _ o (Ne.symm ni2_i3) e)
  have q3_2 : SAt b3 g2 l3 xs3 := q3_1.to fun o e => s2.extBut _ o m3_ou (c2.extBut _ o m3_i2 e)
  refine wpAny_bind (wpAny_bind (wpAny_onRaise (show wpAny _ _ (Builtin.SmallTypes.nextOf (.ref i3) >>= _) _ _ _ from ?_)))
  rcases e3 : xs3[k]? with _ | x3
  · refine wpAny_bind (src_end hh h3_2 q3_2 e3 fun u3 e c3 he => ?_)
    obtain ⟨oe, hoe, hce⟩ := he
    have zz : IsZip u3 zp ti ou .ellipsis := c3 _ _ nzp_i3 z2
    have ez : e ≠ zp := fun q => by subst q; rw [zz] at hoe; cases hoe; simp at hce
    exact wpAny_setField_rec zz (by simp) fun ge _ se => hE ge e (k2.trans ((Kp.ext c3 (by simp)).trans (Kp.same se (by simp)))) ⟨oe, se.extBut _ _ ez hoe, hce⟩
  · exfalso; simp [e1, e2, e3] at hend
theorem zpy3 {zp ti ou i1 i2 i3 l1 l2 l3 : Addr} {b1 b2 b3 : Bool} {k : Nat} {xs1 xs2 xs3 : Array Value} {o1 o2 o3 : Value} {x1 x2 x3 : Value} {Q : Option Value → Shared → Prop} (D : ([zp, ti, ou, i1, i2, i3] : List Addr).Nodup) (M : ∀ l ∈ ([l1, l2, l3] : List Addr), l ∉ ([zp, ou, i1, i2, i3] : List Addr)) (hz : IsZip s.heap zp ti ou .none) (hTI : TupAt s.heap ti #[.ref i1, .ref i2, .ref i3]) (hTO : TupAt s.heap ou #[o1, o2, o3]) (h1 : SIt b1 s.heap i1 l1 k) (h2 : SIt b2 s.heap i2 l2 k) (h3 : SIt b3 s.heap i3 l3 k) (q1 : SAt b1 s.heap l1 xs1) (q2 : SAt b2 s.heap l2 xs2) (q3 : SAt b3 s.heap l3 xs3) (e1 : xs1[k]? = some x1) (e2 : xs2[k]? = some x2) (e3 : xs3[k]? = some x3)
    (hQ : ∀ h', IsZip h' zp ti ou (rawInt s.heap.objs.size) → TupAt h' ou #[x1, x2, x3] → SIt b1 h' i1 l1 (k + 1) → SIt b2 h' i2 l2 (k + 1) → SIt b3 h' i3 l3 (k + 1) → TupAt h' s.heap.objs.size #[x1, x2, x3] → h'.objs.size = s.heap.objs.size + 1 → Kp [zp, ou, i1, i2, i3] s.heap h' → Q (some (.ref s.heap.objs.size)) { s with heap := h' }) : wpAny (model prog w) A (pyNext (.ref zp)) Q E s := by
  have tz : s.TypeIs (.ref zp) "zip" := ⟨_, hz, rfl⟩
  unfold pyNext
  refine wpAny_bind (wpAny_attempt (wpAny_callSpecial?_slot (name := Str.ofString "__next__") tz F.slot_zip_next (wpAny_call_entry F.slot_zip_next tz F.entry_zip_next ?_ (F.args_zip_next_1 _))))
  exact znext3 D M hz hTI hTO h1 h2 h3 q1 q2 q3 e1 e2 e3 fun g a0 a1 a2 a3 a4 a5 a6 a7 => wpAny_pure (hQ g a0 a1 a2 a3 a4 a5 a6 a7)
theorem zpyE3 {zp ti ou i1 i2 i3 l1 l2 l3 : Addr} {b1 b2 b3 : Bool} {k : Nat} {xs1 xs2 xs3 : Array Value} {o1 o2 o3 : Value} {Q : Option Value → Shared → Prop} (hh : A.handled = none) (D : ([zp, ti, ou, i1, i2, i3] : List Addr).Nodup) (M : ∀ l ∈ ([l1, l2, l3] : List Addr), l ∉ ([zp, ou, i1, i2, i3] : List Addr)) (hz : IsZip s.heap zp ti ou .none) (hTI : TupAt s.heap ti #[.ref i1, .ref i2, .ref i3]) (hTO : TupAt s.heap ou #[o1, o2, o3]) (h1 : SIt b1 s.heap i1 l1 k) (h2 : SIt b2 s.heap i2 l2 k) (h3 : SIt b3 s.heap i3 l3 k) (q1 : SAt b1 s.heap l1 xs1) (q2 : SAt b2 s.heap l2 xs2) (q3 : SAt b3 s.heap l3 xs3) (hend : xs1[k]? = none ∨ xs2[k]? = none ∨ xs3[k]? = none)
    (hQ : ∀ h', Kp [zp, ou, i1, i2, i3] s.heap h' → Q none { s with heap := h' }) : wpAny (model prog w) A (pyNext (.ref zp)) Q E s := by
  have tz : s.TypeIs (.ref zp) "zip" := ⟨_, hz, rfl⟩
  unfold pyNext
  refine wpAny_bind (wpAny_attempt (wpAny_callSpecial?_slot (name := Str.ofString "__next__") tz F.slot_zip_next (wpAny_call_entry F.slot_zip_next tz F.entry_zip_next ?_ (F.args_zip_next_1 _))))
  refine zend3 hh D M hz hTI hTO h1 h2 h3 q1 q2 q3 hend fun g e kp ⟨oe, g1, g2⟩ => ?_
  exact wpAny_bind (wpAny_isInstance (T := "StopIteration") (b := true) ⟨oe, g1, g2⟩ isSubtype_stop (wpAny_pure (hQ _ kp)))
abbrev zHTL1 (h : Heap) (l1 l2 : Addr) : Heap := Heap.push (h) { cls := .type "tuple_iterator", data := .fields #[.ref l1, .int 0 0] }
abbrev zHTL2 (h : Heap) (l1 l2 : Addr) : Heap := Heap.push (zHTL1 h l1 l2) { cls := .type "list_iterator", data := .fields #[.ref l2, .int 0 0] }
abbrev zHTL3 (h : Heap) (l1 l2 : Addr) : Heap := Heap.push (zHTL2 h l1 l2) { cls := .type "tuple", data := .seq #[.ref (Heap.objs (h)).size, .ref (Heap.objs (zHTL1 h l1 l2)).size] }
abbrev zHTL4 (h : Heap) (l1 l2 : Addr) : Heap := Heap.push (zHTL3 h l1 l2) { cls := .type "tuple", data := .seq #[.none, .none] }
abbrev zHTL5 (h : Heap) (l1 l2 : Addr) : Heap := Heap.push (zHTL4 h l1 l2) { cls := .type "zip", data := .fields #[.none, .bool false, .bool false, .ref (Heap.objs (zHTL2 h l1 l2)).size, .ref (Heap.objs (zHTL3 h l1 l2)).size] }
theorem zmeetsTL (l1 l2 : Addr) (xs1 xs2 : Array Value) : Meets (Builtin.«zip.__new__» ⟨[.type "zip", .ref l1, .ref l2], []⟩) (fun _ R s => s.heap.IsTuple l1 xs1 ∧ s.heap.IsList l2 xs2 ∧ R (.ok (.ret (.ref (zHTL4 s.heap l1 l2).objs.size))) { s with heap := zHTL5 s.heap l1 l2 }) :=
  .of_wp fun prog w A R s h => by
    obtain ⟨hp, g, d, tk, os⟩ := s
    obtain ⟨q1, q2, h⟩ := h
    have hsub := sub_zip
    have w1 : Heap.IsTuple (Shared.heap ⟨hp, g, d, tk, os⟩) l1 xs1 := q1
    have w2 : Heap.IsList (Shared.heap ⟨Heap.push (hp) { cls := .type "tuple_iterator", data := .fields #[.ref l1, .int 0 0] }, g, d, tk, os⟩) l2 xs2 := Heap.IsList.push (q2) _
    wp_walk using wpAny_pyIter_tuple w1, wpAny_pyIter_list w2
    exact ⟨_, rfl, h⟩
theorem ztcTL (a1 a2 : Value) : checkTypeCall "zip" ⟨[a1, a2], []⟩ = pure () := by kernel_rfl
theorem zncTL (a1 a2 : Value) : checkBuiltinCall "zip.__new__" ⟨[.type "zip", a1, a2], []⟩ = pure () := by kernel_rfl
theorem zoiTL (a0 a1 a2 : Value) : argsOk "object.__init__" ⟨[a0, a1, a2], []⟩ := by
  unfold argsOk; rw [signature?_of (id := "object.__init__") (n := ['_', '_', 't', 'i', 'n', 'i', '_', '_']) (o := ['t', 'c', 'e', 'j', 'b', 'o']) (by kernel_rfl) F.owner_object]; exact (by kernel_rfl)
theorem zcallTL {l1 l2 : Addr} {xs1 xs2 : Array Value} {Q : Value → Shared → Prop} (q1 : s.heap.IsTuple l1 xs1) (q2 : s.heap.IsList l2 xs2)
    (h : ∀ h', IsZip h' (s.heap.objs.size + 4) (s.heap.objs.size + 2) (s.heap.objs.size + 3) .none → TupAt h' (s.heap.objs.size + 2) #[.ref s.heap.objs.size, .ref (s.heap.objs.size + 1)] → TupAt h' (s.heap.objs.size + 3) #[.none, .none] → SIt true h' s.heap.objs.size l1 0 → SIt false h' (s.heap.objs.size + 1) l2 0 → (∀ c o, s.heap.get? c = some o → h'.get? c = some o) → Q (.ref (s.heap.objs.size + 4)) { s with heap := h' }) :
    wpAny (model prog w) A (call (.type "zip") [.ref l1, .ref l2]) Q E s := by
  refine callType_new F.called_zip (by decide) (ztcTL _ _) (zncTL _ _) (fun obj => zoiTL obj _ _) F.entry_zip_new (zmeetsTL l1 l2 xs1 xs2) ⟨q1, q2, ?_⟩
  have c1 : (zHTL1 s.heap l1 l2).objs.size = s.heap.objs.size + 1 := by rw [Heap.size_push]
  have c2 : (zHTL2 s.heap l1 l2).objs.size = s.heap.objs.size + 2 := by rw [Heap.size_push, c1]
  have c3 : (zHTL3 s.heap l1 l2).objs.size = s.heap.objs.size + 3 := by rw [Heap.size_push, c2]
  have c4 : (zHTL4 s.heap l1 l2).objs.size = s.heap.objs.size + 4 := by rw [Heap.size_push, c3]
  have c5 : (zHTL5 s.heap l1 l2).objs.size = s.heap.objs.size + 5 := by rw [Heap.size_push, c4]
  have g1 : (zHTL5 s.heap l1 l2).get? s.heap.objs.size = some _ := Heap.get?_push_of_some _ (Heap.get?_push_of_some _ (Heap.get?_push_of_some _ (Heap.get?_push_of_some _ (Heap.get?_push_size _ rfl))))
  have g2 : (zHTL5 s.heap l1 l2).get? (zHTL1 s.heap l1 l2).objs.size = some _ := Heap.get?_push_of_some _ (Heap.get?_push_of_some _ (Heap.get?_push_of_some _ (Heap.get?_push_size _ rfl)))
  have g3 : (zHTL5 s.heap l1 l2).get? (zHTL2 s.heap l1 l2).objs.size = some _ := Heap.get?_push_of_some _ (Heap.get?_push_of_some _ (Heap.get?_push_size _ rfl))
  have g4 : (zHTL5 s.heap l1 l2).get? (zHTL3 s.heap l1 l2).objs.size = some _ := Heap.get?_push_of_some _ (Heap.get?_push_size _ rfl)
  have g5 : (zHTL5 s.heap l1 l2).get? (zHTL4 s.heap l1 l2).objs.size = some _ := Heap.get?_push_size _ rfl
  simp only [c1, c2, c3, c4] at g2
  simp only [c1, c2, c3, c4] at g3
  simp only [c1, c2, c3, c4] at g4
  simp only [c1, c2, c3, c4] at g5
  refine (show _ ∧ _ from ?_)
  rw [c4]
  exact ⟨⟨_, g5, rfl⟩, h _ g5 g3 g4 ⟨_, g1, rfl, rfl⟩ ⟨_, g2, rfl, rfl⟩ fun c o x => Heap.get?_push_of_some _ (Heap.get?_push_of_some _ (Heap.get?_push_of_some _ (Heap.get?_push_of_some _ (Heap.get?_push_of_some _ (x)))))⟩
abbrev zHTTL1 (h : Heap) (l1 l2 l3 : Addr) : Heap := Heap.push (h) { cls := .type "tuple_iterator", data := .fields #[.ref l1, .int 0 0] }
abbrev zHTTL2 (h : Heap) (l1 l2 l3 : Addr) : Heap := Heap.push (zHTTL1 h l1 l2 l3) { cls := .type "tuple_iterator", data := .fields #[.ref l2, .int 0 0] }
abbrev zHTTL3 (h : Heap) (l1 l2 l3 : Addr) : Heap := Heap.push (zHTTL2 h l1 l2 l3) { cls := .type "list_iterator", data := .fields #[.ref l3, .int 0 0] }
abbrev zHTTL4 (h : Heap) (l1 l2 l3 : Addr) : Heap := Heap.push (zHTTL3 h l1 l2 l3) { cls := .type "tuple", data := .seq #[.ref (Heap.objs (h)).size, .ref (Heap.objs (zHTTL1 h l1 l2 l3)).size, .ref (Heap.objs (zHTTL2 h l1 l2 l3)).size] }
abbrev zHTTL5 (h : Heap) (l1 l2 l3 : Addr) : Heap := Heap.push (zHTTL4 h l1 l2 l3) { cls := .type "tuple", data := .seq #[.none, .none, .none] }
abbrev zHTTL6 (h : Heap) (l1 l2 l3 : Addr) : Heap := Heap.push (zHTTL5 h l1 l2 l3) { cls := .type "zip", data := .fields #[.none, .bool false, .bool false, .ref (Heap.objs (zHTTL3 h l1 l2 l3)).size, .ref (Heap.objs (zHTTL4 h l1 l2 l3)).size] }
theorem zmeetsTTL (l1 l2 l3 : Addr) (xs1 xs2 xs3 : Array Value) : Meets (Builtin.«zip.__new__» ⟨[.type "zip", .ref l1, .ref l2, .ref l3], []⟩) (fun _ R s => s.heap.IsTuple l1 xs1 ∧ s.heap.IsTuple l2 xs2 ∧ s.heap.IsList l3 xs3 ∧ R (.ok (.ret (.ref (zHTTL5 s.heap l1 l2 l3).objs.size))) { s with heap := zHTTL6 s.heap l1 l2 l3 }) :=
  .of_wp fun prog w A R s h => by
    obtain ⟨hp, g, d, tk, os⟩ := s
    obtain ⟨q1, q2, q3, h⟩ := h
    have hsub := sub_zip
    have w1 : Heap.IsTuple (Shared.heap ⟨hp, g, d, tk, os⟩) l1 xs1 := q1
    have w2 : Heap.IsTuple (Shared.heap ⟨Heap.push (hp) { cls := .type "tuple_iterator", data := .fields #[.ref l1, .int 0 0] }, g, d, tk, os⟩) l2 xs2 := Heap.IsTuple.push (q2) _
    have w3 : Heap.IsList (Shared.heap ⟨Heap.push (Heap.push (hp) { cls := .type "tuple_iterator", data := .fields #[.ref l1, .int 0 0] }) { cls := .type "tuple_iterator", data := .fields #[.ref l2, .int 0 0] }, g, d, tk, os⟩) l3 xs3 := Heap.IsList.push (Heap.IsList.push (q3) _) _
    wp_walk using wpAny_pyIter_tuple w1, wpAny_pyIter_tuple w2, wpAny_pyIter_list w3
    exact ⟨_, rfl, h⟩
theorem ztcTTL (a1 a2 a3 : Value) : checkTypeCall "zip" ⟨[a1, a2, a3], []⟩ = pure () := by kernel_rfl
theorem zncTTL (a1 a2 a3 : Value) : checkBuiltinCall "zip.__new__" ⟨[.type "zip", a1, a2, a3], []⟩ = pure () := by kernel_rfl
theorem zoiTTL (a0 a1 a2 a3 : Value) : argsOk "object.__init__" ⟨[a0, a1, a2, a3], []⟩ := by
  unfold argsOk; rw [signature?_of (id := "object.__init__") (n := ['_', '_', 't', 'i', 'n', 'i', '_', '_']) (o := ['t', 'c', 'e', 'j', 'b', 'o']) (by kernel_rfl) F.owner_object]; exact (by kernel_rfl)
theorem zcallTTL {l1 l2 l3 : Addr} {xs1 xs2 xs3 : Array Value} {Q : Value → Shared → Prop} (q1 : s.heap.IsTuple l1 xs1) (q2 : s.heap.IsTuple l2 xs2) (q3 : s.heap.IsList l3 xs3)
    (h : ∀ h', IsZip h' (s.heap.objs.size + 5) (s.heap.objs.size + 3) (s.heap.objs.size + 4) .none → TupAt h' (s.heap.objs.size + 3) #[.ref s.heap.objs.size, .ref (s.heap.objs.size + 1), .ref (s.heap.objs.size + 2)] → TupAt h' (s.heap.objs.size + 4) #[.none, .none, .none] → SIt true h' s.heap.objs.size l1 0 → SIt true h' (s.heap.objs.size + 1) l2 0 → SIt false h' (s.heap.objs.size + 2) l3 0 → (∀ c o, s.heap.get? c = some o → h'.get? c = some o) → Q (.ref (s.heap.objs.size + 5)) { s with heap := h' }) :
    wpAny (model prog w) A (call (.type "zip") [.ref l1, .ref l2, .ref l3]) Q E s := by
  refine callType_new F.called_zip (by decide) (ztcTTL _ _ _) (zncTTL _ _ _) (fun obj => zoiTTL obj _ _ _) F.entry_zip_new (zmeetsTTL l1 l2 l3 xs1 xs2 xs3) ⟨q1, q2, q3, ?_⟩
  have c1 : (zHTTL1 s.heap l1 l2 l3).objs.size = s.heap.objs.size + 1 := by rw [Heap.size_push]
  have c2 : (zHTTL2 s.heap l1 l2 l3).objs.size = s.heap.objs.size + 2 := by rw [Heap.size_push, c1]
  have c3 : (zHTTL3 s.heap l1 l2 l3).objs.size = s.heap.objs.size + 3 := by rw [Heap.size_push, c2]
  have c4 : (zHTTL4 s.heap l1 l2 l3).objs.size = s.heap.objs.size + 4 := by rw [Heap.size_push, c3]
  have c5 : (zHTTL5 s.heap l1 l2 l3).objs.size = s.heap.objs.size + 5 := by rw [Heap.size_push, c4]
  have c6 : (zHTTL6 s.heap l1 l2 l3).objs.size = s.heap.objs.size + 6 := by rw [Heap.size_push, c5]
  have g1 : (zHTTL6 s.heap l1 l2 l3).get? s.heap.objs.size = some _ := Heap.get?_push_of_some _ (Heap.get?_push_of_some _ (Heap.get?_push_of_some _ (Heap.get?_push_of_some _ (Heap.get?_push_of_some _ (Heap.get?_push_size _ rfl)))))
  have g2 : (zHTTL6 s.heap l1 l2 l3).get? (zHTTL1 s.heap l1 l2 l3).objs.size = some _ := Heap.get?_push_of_some _ (Heap.get?_push_of_some _ (Heap.get?_push_of_some _ (Heap.get?_push_of_some _ (Heap.get?_push_size _ rfl))))
  have g3 : (zHTTL6 s.heap l1 l2 l3).get? (zHTTL2 s.heap l1 l2 l3).objs.size = some _ := Heap.get?_push_of_some _ (Heap.get?_push_of_some _ (Heap.get?_push_of_some _ (Heap.get?_push_size _ rfl)))
  have g4 : (zHTTL6 s.heap l1 l2 l3).get? (zHTTL3 s.heap l1 l2 l3).objs.size = some _ := Heap.get?_push_of_some _ (Heap.get?_push_of_some _ (Heap.get?_push_size _ rfl))
  have g5 : (zHTTL6 s.heap l1 l2 l3).get? (zHTTL4 s.heap l1 l2 l3).objs.size = some _ := Heap.get?_push_of_some _ (Heap.get?_push_size _ rfl)
  have g6 : (zHTTL6 s.heap l1 l2 l3).get? (zHTTL5 s.heap l1 l2 l3).objs.size = some _ := Heap.get?_push_size _ rfl
  simp only [c1, c2, c3, c4, c5] at g2
  simp only [c1, c2, c3, c4, c5] at g3
  simp only [c1, c2, c3, c4, c5] at g4
  simp only [c1, c2, c3, c4, c5] at g5
  simp only [c1, c2, c3, c4, c5] at g6
  refine (show _ ∧ _ from ?_)
  rw [c5]
  exact ⟨⟨_, g6, rfl⟩, h _ g6 g4 g5 ⟨_, g1, rfl, rfl⟩ ⟨_, g2, rfl, rfl⟩ ⟨_, g3, rfl, rfl⟩ fun c o x => Heap.get?_push_of_some _ (Heap.get?_push_of_some _ (Heap.get?_push_of_some _ (Heap.get?_push_of_some _ (Heap.get?_push_of_some _ (Heap.get?_push_of_some _ (x))))))⟩
end
/-- the items of TL in new tuples -/
def IzTL (K : PySem.W.Frag) (a1 a2 : Addr) : It :=
  ⟨fun i H => ∃ (xs1 xs2 : List V) (x1 x2 : V), SqT K H a1 xs1 ∧ SqL K H a2 xs2 ∧ xs1[i]? = some x1 ∧ xs2[i]? = some x2,
    fun i H v H' => ∃ T x1 x2, v = .ref T ∧ H T = none ∧ H' = upd H T (.tup [x1, x2]) ∧ (∀ xs, SqT K H a1 xs → xs[i]? = some x1) ∧ (∀ xs, SqL K H a2 xs → xs[i]? = some x2),
    fun i H => ∃ (xs1 xs2 : List V), SqT K H a1 xs1 ∧ SqL K H a2 xs2 ∧ (xs1.length ≤ i ∨ xs2.length ≤ i)⟩
theorem turnTL {P : Program} {w : World} {K : PySem.W.Frag} {elts : List Expr} {kk : Nat} {tpos : Pos} {zp ti ou i1 i2 a1 a2 : Addr} (D : ([zp, ti, ou, i1, i2] : List Addr).Nodup) (M : ∀ l ∈ ([a1, a2] : List Addr), l ∉ ([zp, ou, i1, i2] : List Addr)) :
    Turn P w K (.Tuple elts kk tpos) (IzTL K a1 a2) [zp, ti, ou, i1, i2] zp (fun i h => IsZip h zp ti ou .none ∧ TupAt h ti #[.ref i1, .ref i2] ∧ (∃ o1 o2, TupAt h ou #[o1, o2]) ∧ SIt true h i1 a1 i ∧ SIt false h i2 a2 i) where
  mem := by simp
  obj := fun i h st c hc => by
    obtain ⟨hz, hTI, ⟨o1, o2, hTO⟩, h1, h2⟩ := st
    simp only [List.mem_cons, List.not_mem_nil, or_false] at hc
    rcases hc with rfl | rfl | rfl | rfl | rfl
    · exact ⟨_, hz, fun v q => by cases q⟩
    · exact ⟨_, hTI, fun v q => by cases q⟩
    · exact ⟨_, hTO, fun v q => by cases q⟩
    · exact h1.get
    · exact h2.get
  keep := fun i h h' st k => by
    obtain ⟨hz, hTI, ⟨o1, o2, hTO⟩, h1, h2⟩ := st
    exact ⟨k zp (by simp) _ hz, k ti (by simp) _ hTI, ⟨o1, o2, k ou (by simp) _ hTO⟩, h1.to fun o e => k i1 (by simp) o e, h2.to fun o e => k i2 (by simp) o e⟩
  item := by
    intro X hP hw hK hc i pins s σ H E I hf st hg
    subst hP hw hK
    obtain ⟨hz, hTI, ⟨o1, o2, hTO⟩, h1, h2⟩ := st
    obtain ⟨xs1, xs2, x1, x2, hq1, hq2, hx1, hx2⟩ := hg
    obtain ⟨its1, rv1, p1, _⟩ := I.tuple hq1
    obtain ⟨u1, hu1, ru1⟩ := rv1.get hx1
    have at1 : SAt true s.heap a1 its1.toArray := p1
    obtain ⟨its2, rv2, p2, _⟩ := I.list hq2
    obtain ⟨u2, hu2, ru2⟩ := rv2.get hx2
    have at2 : SAt false s.heap a2 its2.toArray := p2.isList
    have hzl : zp < s.heap.objs.size := Heap.lt_size hz
    refine zpy2 D M hz hTI hTO h1 h2 at1 at2 (show its1.toArray[i]? = some u1 by simpa using hu1) (show its2.toArray[i]? = some u2 by simpa using hu2) fun g z1 t1 k1 k2 nt sz kp => ?_
    refine ⟨_, rfl, wpAny_letOwnedTupleGo_zip (s := { s with heap := g }) z1 fun g2 z2 sb => ?_⟩
    have nt2 : TupAt g2 s.heap.objs.size #[u1, u2] := (sb.2 _ (Nat.ne_of_gt hzl)).trans nt
    have new : ObjOk X.prog X.w (upd H s.heap.objs.size (.tup [x1, x2])) g2 s.heap.objs.size (.tup [x1, x2]) := ⟨by show 2 ≤ sizeLine; decide, [u1, u2], .cons ru1 (.cons ru2 (.nil)), ⟨_, nt2, rfl, _, rfl⟩⟩
    have kp2 : Kp [zp, ti, ou, i1, i2] s.heap g2 := fun c o cn e => (sb.2 c (fun q => cn (by simp [q]))).trans (kp c o (fun q => cn (by simp only [List.mem_cons, List.not_mem_nil, or_false] at q ⊢; rcases q with q | q | q | q <;> simp [q])) e)
    have I1 : Inv X pins σ (upd H s.heap.objs.size (.tup [x1, x2])) { s with heap := g2 } := I.turnedNew (t' := s.toks) (ch := [zp, ti, ou, i1, i2]) (fun c o hb q => kp2 c o hb q) hf (Nat.le_refl _) new
    have N := D
    simp only [List.nodup_cons, List.mem_cons, not_or, List.not_mem_nil, not_false_eq_true, and_true, List.nodup_nil, true_and] at N
    refine ⟨.ref s.heap.objs.size, _, I1, rfl, ⟨_, x1, x2, rfl, I.hok.fresh (Nat.le_refl _), rfl, fun l hl => by rw [I.tuple_inj hl hq1]; exact hx1, fun l hl => by rw [I.list_inj hl hq2]; exact hx2⟩, ⟨z2, (sb.2 ti (Ne.symm N.1.1)).trans (kp ti _ (by simp only [List.mem_cons, List.not_mem_nil, or_false, not_or]; exact ⟨Ne.symm N.1.1, N.2.1⟩) hTI), ⟨u1, u2, (sb.2 ou (Ne.symm N.1.2.1)).trans t1⟩, k1.to fun o e => (sb.2 _ (Ne.symm N.1.2.2.1)).trans e, k2.to fun o e => (sb.2 _ (Ne.symm N.1.2.2.2)).trans e⟩, fun c hcm => ?_⟩
    have hlt : c < s.heap.objs.size := by
      simp only [List.mem_cons, List.not_mem_nil, or_false] at hcm
      rcases hcm with rfl | rfl | rfl | rfl | rfl
      · exact hzl
      · exact Heap.lt_size hTI
      · exact Heap.lt_size hTO
      · obtain ⟨_, e1, _⟩ := h1.get; exact Heap.lt_size e1
      · obtain ⟨_, e1, _⟩ := h2.get; exact Heap.lt_size e1
    rw [upd_ne (Nat.ne_of_lt hlt)]; exact (hf c hcm).1
  done := by
    intro X hP hw hK hc i pins s σ H E I hf st hg
    subst hP hw hK
    obtain ⟨hz, hTI, ⟨o1, o2, hTO⟩, h1, h2⟩ := st
    obtain ⟨xs1, xs2, hq1, hq2, hend⟩ := hg
    obtain ⟨its1, rv1, p1, _⟩ := I.tuple hq1
    have at1 : SAt true s.heap a1 its1.toArray := p1
    have m1 := rv1.length
    obtain ⟨its2, rv2, p2, _⟩ := I.list hq2
    have at2 : SAt false s.heap a2 its2.toArray := p2.isList
    have m2 := rv2.length
    have he : its1.toArray[i]? = none ∨ its2.toArray[i]? = none := by
      rcases hend with q | q
      · exact .inl (by simp; omega)
      · exact .inr (by simp; omega)
    refine zpyE2 (I.ok.hd hc) D M hz hTI hTO h1 h2 at1 at2 he fun g kp => ⟨rfl, I.turnedL (t' := s.toks) (ch := [zp, ti, ou, i1, i2]) (fun c o hb q => kp c o (fun z => hb (by simp only [List.mem_cons, List.not_mem_nil, or_false] at z ⊢; rcases z with z | z | z | z <;> simp [z])) q) hf⟩
  self := fun A i s Q E st h => wpAny_pyIter_zip st.1 h
theorem pi_zTL {X : Cx} {e1 e2 : Expr} {ta : TA} {p pos tpos : Pos} {elts : List Expr} {kk : Nat} (hg : Gl X "zip") (hm : X.mg "zip" = none) (ha : PA X [e1, e2] ta)
    (hs : starEach [e1, e2] X.env = (false, eval e1 X.env) :: starEach [e2] X.env := by rfl) (hpl : (backTo pos (starEach [e2] X.env)).any (·.1) = false := by rfl) :
    PI X (.Tuple elts kk tpos) (.Call (.Name "zip" p) [e1, e2] [] pos) (fun σ H R => ta σ H fun vs H1 => ∃ a1 a2, ∃ (xs1 xs2 : List V), vs = [.ref a1, .ref a2] ∧ SqT X.K H1 a1 xs1 ∧ SqL X.K H1 a2 xs2 ∧ R (IzTL X.K a1 a2) H1) := by
  refine ⟨fun pins s σ H R I h => ?_⟩
  refine Call_ (ld_blt I hg hm PyProof.Rows.boot_zip (PyProof.Rows.callWith_type1 (thn (ha.run pos pins s σ H _ I h) fun us s1 ⟨vs, H1, I1, r1, q1⟩ => ?_) hs hpl))
  obtain ⟨a1, a2, xs1, xs2, ex, hq1, hq2, q⟩ := q1
  subst ex
  obtain ⟨us, rfl⟩ : ∃ x, x = us := ⟨us, rfl⟩
  rcases r1 with _ | ⟨r, rr⟩
  cases r
  rcases rr with _ | ⟨r, rr⟩
  cases r
  cases rr
  obtain ⟨its1, rv1, p1, _⟩ := I1.tuple hq1
  have at1 : s1.heap.IsTuple a1 its1.toArray := p1
  have lt1 : a1 < s1.heap.objs.size := by obtain ⟨_, e1, _⟩ := at1; exact Heap.lt_size e1
  obtain ⟨its2, rv2, p2, _⟩ := I1.list hq2
  have at2 : s1.heap.IsList a2 its2.toArray := p2.isList
  have lt2 : a2 < s1.heap.objs.size := by obtain ⟨_, e1, _⟩ := at2; exact Heap.lt_size e1
  refine zcallTL at1 at2 fun g z0 t0 o0 k1 k2 kp => wpAny_pyIter_zip z0 ?_
  have I2 : Inv X pins σ H1 { s1 with heap := g } := I1.kept (t' := s1.toks) kp
  refine ⟨s1.heap.objs.size + 4, [s1.heap.objs.size + 4, s1.heap.objs.size + 2, s1.heap.objs.size + 3, s1.heap.objs.size, s1.heap.objs.size + 1], _, _, H1, rfl, I2, turnTL (by simp) (by intro l hl; simp only [List.mem_cons, List.not_mem_nil, or_false, not_or] at hl ⊢; rcases hl with rfl | rfl; exact ⟨Nat.ne_of_lt (Nat.lt_of_lt_of_le lt1 (Nat.le_add_right _ _)), Nat.ne_of_lt (Nat.lt_of_lt_of_le lt1 (Nat.le_add_right _ _)), Nat.ne_of_lt lt1, Nat.ne_of_lt (Nat.lt_of_lt_of_le lt1 (Nat.le_add_right _ _))⟩; exact ⟨Nat.ne_of_lt (Nat.lt_of_lt_of_le lt2 (Nat.le_add_right _ _)), Nat.ne_of_lt (Nat.lt_of_lt_of_le lt2 (Nat.le_add_right _ _)), Nat.ne_of_lt lt2, Nat.ne_of_lt (Nat.lt_of_lt_of_le lt2 (Nat.le_add_right _ _))⟩), ⟨z0, t0, ⟨_, _, o0⟩, k1, k2⟩, fun c hcm => ?_, q⟩
  have hle : s1.heap.objs.size ≤ c := by
    simp only [List.mem_cons, List.not_mem_nil, or_false] at hcm
    rcases hcm with rfl | rfl | rfl | rfl | rfl <;> omega
  exact I1.fpOk hle (I1.hok.fresh hle)
/-- the items of TTL in new tuples -/
def IzTTL (K : PySem.W.Frag) (a1 a2 a3 : Addr) : It :=
  ⟨fun i H => ∃ (xs1 xs2 xs3 : List V) (x1 x2 x3 : V), SqT K H a1 xs1 ∧ SqT K H a2 xs2 ∧ SqL K H a3 xs3 ∧ xs1[i]? = some x1 ∧ xs2[i]? = some x2 ∧ xs3[i]? = some x3,
    fun i H v H' => ∃ T x1 x2 x3, v = .ref T ∧ H T = none ∧ H' = upd H T (.tup [x1, x2, x3]) ∧ (∀ xs, SqT K H a1 xs → xs[i]? = some x1) ∧ (∀ xs, SqT K H a2 xs → xs[i]? = some x2) ∧ (∀ xs, SqL K H a3 xs → xs[i]? = some x3),
    fun i H => ∃ (xs1 xs2 xs3 : List V), SqT K H a1 xs1 ∧ SqT K H a2 xs2 ∧ SqL K H a3 xs3 ∧ (xs1.length ≤ i ∨ xs2.length ≤ i ∨ xs3.length ≤ i)⟩
theorem turnTTL {P : Program} {w : World} {K : PySem.W.Frag} {elts : List Expr} {kk : Nat} {tpos : Pos} {zp ti ou i1 i2 i3 a1 a2 a3 : Addr} (D : ([zp, ti, ou, i1, i2, i3] : List Addr).Nodup) (M : ∀ l ∈ ([a1, a2, a3] : List Addr), l ∉ ([zp, ou, i1, i2, i3] : List Addr)) :
    Turn P w K (.Tuple elts kk tpos) (IzTTL K a1 a2 a3) [zp, ti, ou, i1, i2, i3] zp (fun i h => IsZip h zp ti ou .none ∧ TupAt h ti #[.ref i1, .ref i2, .ref i3] ∧ (∃ o1 o2 o3, TupAt h ou #[o1, o2, o3]) ∧ SIt true h i1 a1 i ∧ SIt true h i2 a2 i ∧ SIt false h i3 a3 i) where
  mem := by simp
  obj := fun i h st c hc => by
    obtain ⟨hz, hTI, ⟨o1, o2, o3, hTO⟩, h1, h2, h3⟩ := st
    simp only [List.mem_cons, List.not_mem_nil, or_false] at hc
    rcases hc with rfl | rfl | rfl | rfl | rfl | rfl
    · exact ⟨_, hz, fun v q => by cases q⟩
    · exact ⟨_, hTI, fun v q => by cases q⟩
    · exact ⟨_, hTO, fun v q => by cases q⟩
    · exact h1.get
    · exact h2.get
    · exact h3.get
  keep := fun i h h' st k => by
    obtain ⟨hz, hTI, ⟨o1, o2, o3, hTO⟩, h1, h2, h3⟩ := st
    exact ⟨k zp (by simp) _ hz, k ti (by simp) _ hTI, ⟨o1, o2, o3, k ou (by simp) _ hTO⟩, h1.to fun o e => k i1 (by simp) o e, h2.to fun o e => k i2 (by simp) o e, h3.to fun o e => k i3 (by simp) o e⟩
  item := by
    intro X hP hw hK hc i pins s σ H E I hf st hg
    subst hP hw hK
    obtain ⟨hz, hTI, ⟨o1, o2, o3, hTO⟩, h1, h2, h3⟩ := st
    obtain ⟨xs1, xs2, xs3, x1, x2, x3, hq1, hq2, hq3, hx1, hx2, hx3⟩ := hg
    obtain ⟨its1, rv1, p1, _⟩ := I.tuple hq1
    obtain ⟨u1, hu1, ru1⟩ := rv1.get hx1
    have at1 : SAt true s.heap a1 its1.toArray := p1
    obtain ⟨its2, rv2, p2, _⟩ := I.tuple hq2
    obtain ⟨u2, hu2, ru2⟩ := rv2.get hx2
    have at2 : SAt true s.heap a2 its2.toArray := p2
    obtain ⟨its3, rv3, p3, _⟩ := I.list hq3
    obtain ⟨u3, hu3, ru3⟩ := rv3.get hx3
    have at3 : SAt false s.heap a3 its3.toArray := p3.isList
    have hzl : zp < s.heap.objs.size := Heap.lt_size hz
    refine zpy3 D M hz hTI hTO h1 h2 h3 at1 at2 at3 (show its1.toArray[i]? = some u1 by simpa using hu1) (show its2.toArray[i]? = some u2 by simpa using hu2) (show its3.toArray[i]? = some u3 by simpa using hu3) fun g z1 t1 k1 k2 k3 nt sz kp => ?_
    refine ⟨_, rfl, wpAny_letOwnedTupleGo_zip (s := { s with heap := g }) z1 fun g2 z2 sb => ?_⟩
    have nt2 : TupAt g2 s.heap.objs.size #[u1, u2, u3] := (sb.2 _ (Nat.ne_of_gt hzl)).trans nt
    have new : ObjOk X.prog X.w (upd H s.heap.objs.size (.tup [x1, x2, x3])) g2 s.heap.objs.size (.tup [x1, x2, x3]) := ⟨by show 3 ≤ sizeLine; decide, [u1, u2, u3], .cons ru1 (.cons ru2 (.cons ru3 (.nil))), ⟨_, nt2, rfl, _, rfl⟩⟩
    have kp2 : Kp [zp, ti, ou, i1, i2, i3] s.heap g2 := fun c o cn e => (sb.2 c (fun q => cn (by simp [q]))).trans (kp c o (fun q => cn (by simp only [List.mem_cons, List.not_mem_nil, or_false] at q ⊢; rcases q with q | q | q | q | q <;> simp [q])) e)
    have I1 : Inv X pins σ (upd H s.heap.objs.size (.tup [x1, x2, x3])) { s with heap := g2 } := I.turnedNew (t' := s.toks) (ch := [zp, ti, ou, i1, i2, i3]) (fun c o hb q => kp2 c o hb q) hf (Nat.le_refl _) new
    have N := D
    simp only [List.nodup_cons, List.mem_cons, not_or, List.not_mem_nil, not_false_eq_true, and_true, List.nodup_nil, true_and] at N
    refine ⟨.ref s.heap.objs.size, _, I1, rfl, ⟨_, x1, x2, x3, rfl, I.hok.fresh (Nat.le_refl _), rfl, fun l hl => by rw [I.tuple_inj hl hq1]; exact hx1, fun l hl => by rw [I.tuple_inj hl hq2]; exact hx2, fun l hl => by rw [I.list_inj hl hq3]; exact hx3⟩, ⟨z2, (sb.2 ti (Ne.symm N.1.1)).trans (kp ti _ (by simp only [List.mem_cons, List.not_mem_nil, or_false, not_or]; exact ⟨Ne.symm N.1.1, N.2.1⟩) hTI), ⟨u1, u2, u3, (sb.2 ou (Ne.symm N.1.2.1)).trans t1⟩, k1.to fun o e => (sb.2 _ (Ne.symm N.1.2.2.1)).trans e, k2.to fun o e => (sb.2 _ (Ne.symm N.1.2.2.2.1)).trans e, k3.to fun o e => (sb.2 _ (Ne.symm N.1.2.2.2.2)).trans e⟩, fun c hcm => ?_⟩
    have hlt : c < s.heap.objs.size := by
      simp only [List.mem_cons, List.not_mem_nil, or_false] at hcm
      rcases hcm with rfl | rfl | rfl | rfl | rfl | rfl
      · exact hzl
      · exact Heap.lt_size hTI
      · exact Heap.lt_size hTO
      · obtain ⟨_, e1, _⟩ := h1.get; exact Heap.lt_size e1
      · obtain ⟨_, e1, _⟩ := h2.get; exact Heap.lt_size e1
      · obtain ⟨_, e1, _⟩ := h3.get; exact Heap.lt_size e1
    rw [upd_ne (Nat.ne_of_lt hlt)]; exact (hf c hcm).1
  done := by
    intro X hP hw hK hc i pins s σ H E I hf st hg
    subst hP hw hK
    obtain ⟨hz, hTI, ⟨o1, o2, o3, hTO⟩, h1, h2, h3⟩ := st
    obtain ⟨xs1, xs2, xs3, hq1, hq2, hq3, hend⟩ := hg
    obtain ⟨its1, rv1, p1, _⟩ := I.tuple hq1
    have at1 : SAt true s.heap a1 its1.toArray := p1
    have m1 := rv1.length
    obtain ⟨its2, rv2, p2, _⟩ := I.tuple hq2
    have at2 : SAt true s.heap a2 its2.toArray := p2
    have m2 := rv2.length
    obtain ⟨its3, rv3, p3, _⟩ := I.list hq3
    have at3 : SAt false s.heap a3 its3.toArray := p3.isList
    have m3 := rv3.length
    have he : its1.toArray[i]? = none ∨ its2.toArray[i]? = none ∨ its3.toArray[i]? = none := by
      rcases hend with q | q | q
      · exact .inl (by simp; omega)
      · exact .inr (.inl (by simp; omega))
      · exact .inr (.inr (by simp; omega))
    refine zpyE3 (I.ok.hd hc) D M hz hTI hTO h1 h2 h3 at1 at2 at3 he fun g kp => ⟨rfl, I.turnedL (t' := s.toks) (ch := [zp, ti, ou, i1, i2, i3]) (fun c o hb q => kp c o (fun z => hb (by simp only [List.mem_cons, List.not_mem_nil, or_false] at z ⊢; rcases z with z | z | z | z | z <;> simp [z])) q) hf⟩
  self := fun A i s Q E st h => wpAny_pyIter_zip st.1 h
theorem pi_zTTL {X : Cx} {e1 e2 e3 : Expr} {ta : TA} {p pos tpos : Pos} {elts : List Expr} {kk : Nat} (hg : Gl X "zip") (hm : X.mg "zip" = none) (ha : PA X [e1, e2, e3] ta)
    (hs : starEach [e1, e2, e3] X.env = (false, eval e1 X.env) :: starEach [e2, e3] X.env := by rfl) (hpl : (backTo pos (starEach [e2, e3] X.env)).any (·.1) = false := by rfl) :
    PI X (.Tuple elts kk tpos) (.Call (.Name "zip" p) [e1, e2, e3] [] pos) (fun σ H R => ta σ H fun vs H1 => ∃ a1 a2 a3, ∃ (xs1 xs2 xs3 : List V), vs = [.ref a1, .ref a2, .ref a3] ∧ SqT X.K H1 a1 xs1 ∧ SqT X.K H1 a2 xs2 ∧ SqL X.K H1 a3 xs3 ∧ R (IzTTL X.K a1 a2 a3) H1) := by
  refine ⟨fun pins s σ H R I h => ?_⟩
  refine Call_ (ld_blt I hg hm PyProof.Rows.boot_zip (PyProof.Rows.callWith_type1 (thn (ha.run pos pins s σ H _ I h) fun us s1 ⟨vs, H1, I1, r1, q1⟩ => ?_) hs hpl))
  obtain ⟨a1, a2, a3, xs1, xs2, xs3, ex, hq1, hq2, hq3, q⟩ := q1
  subst ex
  obtain ⟨us, rfl⟩ : ∃ x, x = us := ⟨us, rfl⟩
  rcases r1 with _ | ⟨r, rr⟩
  cases r
  rcases rr with _ | ⟨r, rr⟩
  cases r
  rcases rr with _ | ⟨r, rr⟩
  cases r
  cases rr
  obtain ⟨its1, rv1, p1, _⟩ := I1.tuple hq1
  have at1 : s1.heap.IsTuple a1 its1.toArray := p1
  have lt1 : a1 < s1.heap.objs.size := by obtain ⟨_, e1, _⟩ := at1; exact Heap.lt_size e1
  obtain ⟨its2, rv2, p2, _⟩ := I1.tuple hq2
  have at2 : s1.heap.IsTuple a2 its2.toArray := p2
  have lt2 : a2 < s1.heap.objs.size := by obtain ⟨_, e1, _⟩ := at2; exact Heap.lt_size e1
  obtain ⟨its3, rv3, p3, _⟩ := I1.list hq3
  have at3 : s1.heap.IsList a3 its3.toArray := p3.isList
  have lt3 : a3 < s1.heap.objs.size := by obtain ⟨_, e1, _⟩ := at3; exact Heap.lt_size e1
  refine zcallTTL at1 at2 at3 fun g z0 t0 o0 k1 k2 k3 kp => wpAny_pyIter_zip z0 ?_
  have I2 : Inv X pins σ H1 { s1 with heap := g } := I1.kept (t' := s1.toks) kp
  refine ⟨s1.heap.objs.size + 5, [s1.heap.objs.size + 5, s1.heap.objs.size + 3, s1.heap.objs.size + 4, s1.heap.objs.size, s1.heap.objs.size + 1, s1.heap.objs.size + 2], _, _, H1, rfl, I2, turnTTL (by simp) (by intro l hl; simp only [List.mem_cons, List.not_mem_nil, or_false, not_or] at hl ⊢; rcases hl with rfl | rfl | rfl; exact ⟨Nat.ne_of_lt (Nat.lt_of_lt_of_le lt1 (Nat.le_add_right _ _)), Nat.ne_of_lt (Nat.lt_of_lt_of_le lt1 (Nat.le_add_right _ _)), Nat.ne_of_lt lt1, Nat.ne_of_lt (Nat.lt_of_lt_of_le lt1 (Nat.le_add_right _ _)), Nat.ne_of_lt (Nat.lt_of_lt_of_le lt1 (Nat.le_add_right _ _))⟩; exact ⟨Nat.ne_of_lt (Nat.lt_of_lt_of_le lt2 (Nat.le_add_right _ _)), Nat.ne_of_lt (Nat.lt_of_lt_of_le lt2 (Nat.le_add_right _ _)), Nat.ne_of_lt lt2, Nat.ne_of_lt (Nat.lt_of_lt_of_le lt2 (Nat.le_add_right _ _)), Nat.ne_of_lt (Nat.lt_of_lt_of_le lt2 (Nat.le_add_right _ _))⟩; exact ⟨Nat.ne_of_lt (Nat.lt_of_lt_of_le lt3 (Nat.le_add_right _ _)), Nat.ne_of_lt (Nat.lt_of_lt_of_le lt3 (Nat.le_add_right _ _)), Nat.ne_of_lt lt3, Nat.ne_of_lt (Nat.lt_of_lt_of_le lt3 (Nat.le_add_right _ _)), Nat.ne_of_lt (Nat.lt_of_lt_of_le lt3 (Nat.le_add_right _ _))⟩), ⟨z0, t0, ⟨_, _, _, o0⟩, k1, k2, k3⟩, fun c hcm => ?_, q⟩
  have hle : s1.heap.objs.size ≤ c := by
    simp only [List.mem_cons, List.not_mem_nil, or_false] at hcm
    rcases hcm with rfl | rfl | rfl | rfl | rfl | rfl <;> omega
  exact I1.fpOk hle (I1.hok.fresh hle)
end Vs
/-! Zips of mixed sequences, names in names, == of two lists with the same objects. -/
namespace Vs
open PySem PySem.Spec PyProof.Rows L2
section
variable {α : Amb} {W : WX} {X : Cx}
def asTup : P → Option (List P)
  | .tup xs => some xs
  | _ => none
theorem sq_asTup {G : Hp} {v : V} {x : P} {xs : List P} (r : Rep α G v x) (h : asTup x = some xs) : ∃ a vs, v = .ref a ∧ SqT α.K G a vs ∧ Reps α G vs xs := by
  cases r with
  | tup h1 r1 => cases h; exact ⟨_, _, rfl, h1, r1⟩
  | _ => cases h
theorem jok_zTL {K : PySem.W.Frag} {G1 : Hp} {a b : Addr} {vs ws : List V} {xs ys : List P} (h : SqT K G1 a vs) (h2 : SqL K G1 b ws) (r : Reps α G1 vs xs) (r2 : Reps α G1 ws ys) (hK : K = α.K) : JOk α (IzTL K a b) (zipP xs ys) G1 := fun i H G ρ μ s z => by
  have hH : SqT K H a vs := seqT z.sub (seqT s h)
  have hH2 : SqL K H b ws := seqL z.sub (seqL s h2)
  have r := r.mono s
  have r2 := r2.mono s
  refine ⟨fun w hw => ?_, fun hi => ⟨vs, ws, hH, hH2, by rw [r.length, r2.length]; rw [zipP_len] at hi; omega⟩⟩
  obtain ⟨x, y, e1, e2, rfl⟩ := zipP_get _ _ _ _ hw
  obtain ⟨v, h3, h4⟩ := r.get e1
  obtain ⟨u, h5, h6⟩ := r2.get e2
  refine ⟨⟨vs, ws, v, u, hH, hH2, h3, h5⟩, fun q H' yl => ?_⟩
  obtain ⟨T, x', y', rfl, hT, rfl, f1, f2⟩ := yl
  have g1 := f1 vs hH
  have g2 := f2 ws hH2
  rw [h3] at g1
  rw [h5] at g2
  cases g1
  cases g2
  exact ⟨_, up_new (z.free hT), z.new hT _, .tup (SqT.of upd_same) (.cons (h4.mono (same_upd (z.free hT))) (.cons (h6.mono (same_upd (z.free hT))) .nil))⟩
def zipTLEnd (μ : Mu) : List D → Option (Out (List P) × Mu)
  | [d, e] => match toP μ d with
    | some (x, μ1) => match toP μ1 e with
      | some (y, μ2) => match asTup x, asLst y with
        | some xs, some ys => some (.ok (zipP xs ys), μ2)
        | _, _ => none
      | none => none
    | none => none
  | _ => none
def evZipTL (a : EvA) : EvG (List P) := fun δ μ => bindG (a δ μ) fun ds μ1 => zipTLEnd μ1 ds
theorem vi_zipTL {e e2 : Expr} {a : EvA} {p pos tpos : Pos} {elts : List Expr} {kk : Nat} (hK : X.K = α.K) (hm : X.mg "zip" = none) (ha : PA X [e, e2] (tVs α W a)) (hg : Gl X "zip" := by rfl)
    (hs : starEach [e, e2] X.env = (false, eval e X.env) :: starEach [e2] X.env := by rfl) (hpl : (backTo pos (starEach [e2] X.env)).any (·.1) = false := by rfl) :
    VI α W X (.Tuple elts kk tpos) (.Call (.Name "zip" p) [e, e2] [] pos) (evZipTL a) := by
  refine ⟨_, pi_zTL hg hm ha hs hpl, fun σ H G ρ δ μ R z s pq => ⟨G, ρ, δ, μ, z, s, Post.bind pq fun ds μ1 vs H1 G1 ρ1 u z1 r1 p1 => ?_⟩⟩
  unfold zipTLEnd at p1
  split at p1
  · rename_i d d'
    obtain ⟨v, w, rfl, ra, rb⟩ := rds2 r1
    split at p1
    · rename_i x μ2 q1
      obtain ⟨G2, u2, z2, r2⟩ := toP_ok z1 ra q1
      split at p1
      · rename_i y μ3 q2
        obtain ⟨G3, u3, z3, r3⟩ := toP_ok z2 (rb.up u2) q2
        split at p1
        · rename_i xs ys h1 h2
          have r2 := r2.mono u3.1
          obtain ⟨b1, vs1, rfl, s1, t1⟩ := sq_asTup r2 h1
          obtain ⟨b2, vs2, rfl, s2, t2⟩ := sq_asLst r3 h2
          refine ⟨b1, b2, vs1, vs2, rfl, ?_, ?_, ?_⟩
          · rw [hK]; exact seqT z3.sub s1
          · rw [hK]; exact seqL z3.sub s2
          · rw [hK]; exact p1 (IzTL α.K b1 b2) H1 G3 ρ1 (u2.trans u3) z3 (jok_zTL s1 s2 t1 t2 rfl)
        · exact p1.elim
      · exact p1.elim
    · exact p1.elim
  · exact p1.elim
/-! three of them -/
def zip3P : List P → List P → List P → List P
  | x :: xs, y :: ys, w :: ws => .tup [x, y, w] :: zip3P xs ys ws
  | _, _, _ => []
theorem zip3P_get : ∀ (xs ys ws : List P) (i : Nat) (q : P), (zip3P xs ys ws)[i]? = some q → ∃ x y w, xs[i]? = some x ∧ ys[i]? = some y ∧ ws[i]? = some w ∧ q = .tup [x, y, w]
  | x :: xs, y :: ys, w :: ws, 0, q, h => by
    cases h
    exact ⟨x, y, w, rfl, rfl, rfl, rfl⟩
  | x :: xs, y :: ys, w :: ws, i + 1, q, h => zip3P_get xs ys ws i q h
  | [], _, _, i, q, h => by simp [zip3P] at h
  | _ :: _, [], _, i, q, h => by simp [zip3P] at h
  | _ :: _, _ :: _, [], i, q, h => by simp [zip3P] at h
theorem zip3P_len : ∀ (xs ys ws : List P), (zip3P xs ys ws).length = min xs.length (min ys.length ws.length)
  | x :: xs, y :: ys, w :: ws => by simp [zip3P, zip3P_len xs ys ws]
  | [], _, _ => by simp [zip3P]
  | _ :: _, [], _ => by simp [zip3P]
  | _ :: _, _ :: _, [] => by simp [zip3P]
theorem jok_zTTL {K : PySem.W.Frag} {G1 : Hp} {a b c : Addr} {vs ws us : List V} {xs ys zs : List P} (h : SqT K G1 a vs) (h2 : SqT K G1 b ws) (h3 : SqL K G1 c us) (r : Reps α G1 vs xs) (r2 : Reps α G1 ws ys) (r3 : Reps α G1 us zs) (hK : K = α.K) : JOk α (IzTTL K a b c) (zip3P xs ys zs) G1 := fun i H G ρ μ s z => by
  have hH : SqT K H a vs := seqT z.sub (seqT s h)
  have hH2 : SqT K H b ws := seqT z.sub (seqT s h2)
  have hH3 : SqL K H c us := seqL z.sub (seqL s h3)
  have r := r.mono s
  have r2 := r2.mono s
  have r3 := r3.mono s
  refine ⟨fun w hw => ?_, fun hi => ⟨vs, ws, us, hH, hH2, hH3, by rw [r.length, r2.length, r3.length]; rw [zip3P_len] at hi; omega⟩⟩
  obtain ⟨x, y, w', e1, e2, e3, rfl⟩ := zip3P_get _ _ _ _ _ hw
  obtain ⟨v1, q1, q2⟩ := r.get e1
  obtain ⟨v2, q3, q4⟩ := r2.get e2
  obtain ⟨v3, q5, q6⟩ := r3.get e3
  refine ⟨⟨vs, ws, us, v1, v2, v3, hH, hH2, hH3, q1, q3, q5⟩, fun q H' yl => ?_⟩
  obtain ⟨T, x', y', w'', rfl, hT, rfl, f1, f2, f3⟩ := yl
  have g1 := f1 vs hH
  have g2 := f2 ws hH2
  have g3 := f3 us hH3
  rw [q1] at g1
  rw [q3] at g2
  rw [q5] at g3
  cases g1
  cases g2
  cases g3
  exact ⟨_, up_new (z.free hT), z.new hT _, .tup (SqT.of upd_same) (.cons (q2.mono (same_upd (z.free hT))) (.cons (q4.mono (same_upd (z.free hT))) (.cons (q6.mono (same_upd (z.free hT))) .nil)))⟩
def zipTTLEnd (μ : Mu) : List D → Option (Out (List P) × Mu)
  | [d, e, f] => match toP μ d with
    | some (x, μ1) => match toP μ1 e with
      | some (y, μ2) => match toP μ2 f with
        | some (w, μ3) => match asTup x, asTup y, asLst w with
          | some xs, some ys, some ws => some (.ok (zip3P xs ys ws), μ3)
          | _, _, _ => none
        | none => none
      | none => none
    | none => none
  | _ => none
def evZipTTL (a : EvA) : EvG (List P) := fun δ μ => bindG (a δ μ) fun ds μ1 => zipTTLEnd μ1 ds
theorem vi_zipTTL {e e2 e3 : Expr} {a : EvA} {p pos tpos : Pos} {elts : List Expr} {kk : Nat} (hK : X.K = α.K) (hm : X.mg "zip" = none) (ha : PA X [e, e2, e3] (tVs α W a)) (hg : Gl X "zip" := by rfl)
    (hs : starEach [e, e2, e3] X.env = (false, eval e X.env) :: starEach [e2, e3] X.env := by rfl) (hpl : (backTo pos (starEach [e2, e3] X.env)).any (·.1) = false := by rfl) :
    VI α W X (.Tuple elts kk tpos) (.Call (.Name "zip" p) [e, e2, e3] [] pos) (evZipTTL a) := by
  refine ⟨_, pi_zTTL hg hm ha hs hpl, fun σ H G ρ δ μ R z s pq => ⟨G, ρ, δ, μ, z, s, Post.bind pq fun ds μ1 vs H1 G1 ρ1 u z1 r1 p1 => ?_⟩⟩
  unfold zipTTLEnd at p1
  split at p1
  · rename_i d d' d''
    obtain ⟨v, w, y', rfl, ra, rb, rc⟩ := rds3 r1
    split at p1
    · rename_i x μ2 q1
      obtain ⟨G2, u2, z2, r2⟩ := toP_ok z1 ra q1
      split at p1
      · rename_i y μ3 q2
        obtain ⟨G3, u3, z3, r3⟩ := toP_ok z2 (rb.up u2) q2
        split at p1
        · rename_i y2 μ4 q3
          obtain ⟨G4, u4, z4, r4⟩ := toP_ok z3 (rc.up (u2.trans u3)) q3
          split at p1
          · rename_i xs ys ws h1 h2 h3
            have r2 := r2.mono (u3.trans u4).1
            have r3 := r3.mono u4.1
            obtain ⟨b1, vs1, rfl, s1, t1⟩ := sq_asTup r2 h1
            obtain ⟨b2, vs2, rfl, s2, t2⟩ := sq_asTup r3 h2
            obtain ⟨b3, vs3, rfl, s3, t3⟩ := sq_asLst r4 h3
            refine ⟨b1, b2, b3, vs1, vs2, vs3, rfl, ?_, ?_, ?_, ?_⟩
            · rw [hK]; exact seqT z4.sub s1
            · rw [hK]; exact seqT z4.sub s2
            · rw [hK]; exact seqL z4.sub s3
            · rw [hK]; exact p1 (IzTTL α.K b1 b2 b3) H1 G4 ρ1 ((u2.trans u3).trans u4) z4 (jok_zTTL s1 s2 s3 t1 t2 t3 rfl)
          · exact p1.elim
        · exact p1.elim
      · exact p1.elim
    · exact p1.elim
  · exact p1.elim
/-! ### names in names -/
def setAllT : List Tgt → List P → Sl → Option Sl
  | [], [], δ => some δ
  | t :: ts, x :: xs, δ => (t x δ).bind (setAllT ts xs)
  | _, _, _ => none
def tgM (ts : List Tgt) : Tgt := fun x δ => match x with
  | .tup xs => setAllT ts xs δ
  | _ => none
def VGm (α : Amb) (X : Cx) (tgs : List Expr) (ts : List Tgt) : Prop := ∃ g : TGs, PGs X tgs g ∧ ∀ G ρ H μ σ δ vs xs δ' (Q : L2.St → Hp → Prop), Zn α H G ρ μ → Sq α G ρ σ δ → Reps α G vs xs → setAllT ts xs δ = some δ' → (∀ σ', Sq α G ρ σ' δ' → Q σ' H) → g vs σ H Q
theorem vgm_nil : VGm α X [] [] := ⟨gNil, pgs_nil, fun G ρ H μ σ δ vs xs δ' Q z s r e k => by
  cases r with
  | nil => cases e; exact ⟨rfl, k _ s⟩
  | cons _ _ => cases e⟩
theorem vgm_cons {e : Expr} {es : List Expr} {t : Tgt} {ts : List Tgt} (h1 : VG α X e t) (h : VGm α X es ts) (hs : (assignEach (e :: es) X.env).map (·.2) = assign e X.env :: (assignEach es X.env).map (·.2) := by rfl) : VGm α X (e :: es) (t :: ts) := by
  obtain ⟨g1, pg1, hg1⟩ := h1
  obtain ⟨g, pg, hg⟩ := h
  refine ⟨gCons g1 g, pgs_cons pg1 pg hs, fun G ρ H μ σ δ vs xs δ' Q z s r e k => ?_⟩
  cases r with
  | nil => cases e
  | cons r t' =>
    rename_i v vs' x xs'
    have e : (t x δ).bind (setAllT ts xs') = some δ' := e
    obtain ⟨δ1, e1, e2⟩ := Option.bind_eq_some_iff.mp e
    exact ⟨_, _, rfl, hg1 G ρ H μ σ δ v x δ1 _ z s r e1 fun σ' s' => hg G ρ H μ σ' δ1 vs' xs' δ' Q z s' t' e2 k⟩
theorem setAllT_len : ∀ {ts : List Tgt} {xs : List P} {δ δ' : Sl}, setAllT ts xs δ = some δ' → xs.length = ts.length
  | [], [], _, _, _ => rfl
  | t :: ts, x :: xs, δ, δ', e => by
    have e : (t x δ).bind (setAllT ts xs) = some δ' := e
    obtain ⟨δ1, _, e2⟩ := Option.bind_eq_some_iff.mp e
    exact congrArg (· + 1) (setAllT_len e2)
  | [], _ :: _, _, _, e => by cases e
  | _ :: _, [], _, _, e => by cases e
theorem vg_tupM {es : List Expr} {ts : List Tgt} {k : Nat} {pos : Pos} (hK : X.K = α.K) (hc : X.calm = true) (h : VGm α X es ts) (hn : (assignEach es X.env).length = ts.length := by rfl) (hst : (assignEach es X.env).findIdx? (·.1) = none := by rfl) : VG α X (.Tuple es k pos) (tgM ts) := by
  obtain ⟨g, pg, hg⟩ := h
  refine ⟨gTup X.K ts.length g, pg_tup hc pg hn hst, fun G ρ H μ σ δ v x δ' Q z s r e k => ?_⟩
  cases r <;> try (cases e; done)
  rename_i a vs xs hT hr
  have e : setAllT ts xs δ = some δ' := e
  exact ⟨a, vs, rfl, by rw [hK]; exact seqT z.sub hT, by rw [hr.length]; exact setAllT_len e, hg G ρ H μ _ _ _ _ _ Q z s hr e k⟩
@[simp] theorem tgM_eq {ts : List Tgt} {xs : List P} {δ : Sl} : tgM ts (.tup xs) δ = setAllT ts xs δ := rfl
@[simp] theorem setAllT_nil {δ : Sl} : setAllT [] [] δ = some δ := rfl
@[simp] theorem setAllT_cons {t : Tgt} {ts : List Tgt} {x : P} {xs : List P} {δ : Sl} : setAllT (t :: ts) (x :: xs) δ = (t x δ).bind (setAllT ts xs) := rfl
/-! ### == of two lists of the same fractions -/
def ratsP (c : Nat) : List P → Bool
  | [] => true
  | .obj c' [.int _, .int _] :: xs => c' == c && ratsP c xs
  | _ => false
open Classical in
noncomputable def fEqSame (c : Nat) : F2 := fun x y μ => match x, y with
  | .p (.lst xs), .p (.lst ys) => if ratsP c xs = true ∧ xs = ys then some (.p (.bl true), μ) else none
  | _, _ => none
def RatR (α : Amb) (c : Nat) (a b : Addr) (H : Hp) : Prop := ∃ (i j : Int) (dx dy : Addr), H a = some (.ins (α.cl c) dx ((α.fl c).zip [.int i, .int j])) ∧ H b = some (.ins (α.cl c) dy ((α.fl c).zip [.int i, .int j]))
theorem rat_prs {c : Nat} {G H : Hp} (s : Same G H) : ∀ {xs : List P} {vs ws : List V}, ratsP c xs = true → Reps α G vs xs → Reps α G ws xs → Prs (DIns (α.cl c) (RatR α c)) vs ws H
  | [], _, _, h, .nil, .nil => ⟨rfl, fun i x y h _ => by simp at h⟩
  | x :: xs, _, _, h, .cons r1 t1, .cons r2 t2 => by
    unfold ratsP at h
    split at h
    · rename_i e; cases e
    · rename_i c' i j ys e
      cases e
      rw [Bool.and_eq_true, beq_iff_eq] at h
      obtain ⟨rfl, h⟩ := h
      have p := rat_prs s h t1 t2
      refine ⟨by simp [p.1], fun n u w h1 h2 => ?_⟩
      cases n with
      | succ n => exact p.2 n u w (by simpa using h1) (by simpa using h2)
      | zero =>
        simp at h1 h2
        subst h1
        subst h2
        cases r1 with
        | obj g1 l1 q1 =>
          cases r2 with
          | obj g2 l2 q2 =>
            cases q1 with
            | cons a1 q1 =>
              cases q1 with
              | cons a2 q1 =>
                cases q1
                cases q2 with
                | cons b1 q2 =>
                  cases q2 with
                  | cons b2 q2 =>
                    cases q2
                    cases a1
                    cases a2
                    cases b1
                    cases b2
                    exact ⟨_, _, _, _, _, _, rfl, rfl, s _ _ g1, s _ _ g2, i, j, _, _, s _ _ g1, s _ _ g2⟩
    · cases h
theorem o_eqSame {c k : Nat} {sem : FSem} (hr : Room (k + 1) X.A) (F : Mt X.prog X.w X.K X.mg X.base α k (α.cl c) "__eq__" 2 sem) (hl : (α.fl c).length = 2)
    (he : ∀ i j : Int, sem [.p (.obj c [.int i, .int j]), .p (.obj c [.int i, .int j])] [] = some (.ok (.p (.bl true)), [])) : OpR X (compareOp .Eq) (r2V α (fEqSame c)) := by
  obtain ⟨⟨f, fd, ps, h1, h2, h3, hb, F⟩, ar⟩ := F
  have F2 : FnOk X.prog X.w X.K X.mg X.base (L2.CX X.prog X.w) k f fd ps (spEq (RatR α c)) := F.imp fun vs H Q E ⟨a, b, e, r, q⟩ => by
    subst e
    obtain ⟨i, j, dx, dy, g1, g2⟩ := r
    have rp : ∀ (a dx : Addr), H a = some (.ins (α.cl c) dx ((α.fl c).zip [.int i, .int j])) → Rep α H (.ref a) (.obj c [.int i, .int j]) := fun a dx g => .obj g (by rw [hl]; rfl) (.cons (.int i) (.cons (.int j) .nil))
    refine ⟨rfl, H, [], [], _, ⟨Same.refl H, rfl, fun l m e => by simp at e, fun l l' m m' a e => by simp at e⟩, .cons (x := .p (.obj c [.int i, .int j])) (rp a dx g1) (.cons (x := .p (.obj c [.int i, .int j])) (rp b dy g2) .nil), ?_⟩
    rw [he i j]
    intro v H' G' ρ' u z r
    cases r
    exact q H' (u.same.trans z.sub)
  have hm : Mon (DIns (α.cl c) (RatR α c)) := mon_ins fun a b H H' e r => by
    obtain ⟨i, j, dx, dy, g1, g2⟩ := r
    exact ⟨i, j, dx, dy, e _ _ g1, e _ _ g2⟩
  have hp : Passes (L2.CX X.prog X.w) X (fun _ _ _ => False) := passes_call takes0 fun _ _ _ _ h => h
  exact OpR.imp (op_eqG (rcG_list hm (eqG_ins (E := fun _ _ _ => False) F2 h1 h2 hb hp)) hr) fun x y H Q ⟨G, ρ, μ, dx, dy, z, rx, ry, q⟩ => by
    unfold fEqSame at q
    split at q
    · rename_i xs ys
      split at q
      · rename_i hc
        obtain ⟨hc, rfl⟩ := hc
        cases rx with
        | lst g1 r1 =>
          cases ry with
          | lst g2 r2 =>
            refine ⟨⟨_, _, _, _, rfl, rfl, z.sub _ _ g1, z.sub _ _ g2, rat_prs z.sub hc r1 r2⟩, fun H' e => ?_⟩
            exact q _ H' G ρ Up.refl (z.grow e) (.bl true)
      · exact q.elim
    · exact q.elim
theorem fEqSame_ok {c : Nat} {xs : List P} {μ : Mu} (h : ratsP c xs = true) : fEqSame c (.p (.lst xs)) (.p (.lst xs)) μ = some (.p (.bl true), μ) := by
  unfold fEqSame
  dsimp only
  rw [if_pos ⟨h, rfl⟩]
end
end Vs
set_option maxHeartbeats 4000000
/-! a op b op c; slices, sums and multiples of tuples; == of lists of rows of fractions. -/
namespace L2
open PySem PySem.Spec PyProof.Rows
theorem tuple_mul1 (l : Addr) (items : Array Value) (n : Nat) (dd : Option Addr) (sl : Array (Option Value)) (u : Tok) :
    Meets (Builtin.«tuple.__mul__» ⟨[.ref l, .int 1 u], []⟩) (fun _ R s => s.heap.get? l = some { cls := .type "tuple", dict := dd, data := .seq items n, slots := sl } ∧
      R (.ok (.ret (Value.ref l))) s) :=
  .of_wp fun prog w A R s h => by
    obtain ⟨hp, g, d, tk, os⟩ := s
    obtain ⟨hl, h⟩ := h
    have f1 := AutoSeq1.idx_int
    wp_walk using wpAny_loadPart' hl
    exact ⟨_, rfl, h⟩
section
variable {X : Cx}
/-- t * 1 is t -/
def rRep1 (K : PySem.W.Frag) : R2 := fun x y H Q => ∃ l xs, x = .ref l ∧ y = .int 1 ∧ SqT K H l xs ∧ Q (.ref l) H
theorem op_rep1 : OpR X (binaryOp .Mult) (rRep1 X.K) := by
  intro pins s σ H x y v u Q I rx ry h
  obtain ⟨l, xs, rfl, rfl, hT, q⟩ := h
  cases rx
  obtain ⟨t, rfl⟩ := ry
  obtain ⟨its, r, ⟨⟨cls, dd, data, sl⟩, ho, hc, n, hd⟩, hs⟩ := I.tuple hT
  simp only at hc hd
  subst hc hd
  refine wpAny_binaryOp_repeat_ref (T := "tuple") (U := "int") (by decide) ⟨_, ho, rfl⟩ (fun s' => typeIs_int s' 1 t) noFill_tuple_mul F.fills_int_mul F.slot_int_rmul repeat_tuple F.slot_int_index.lookup
    (call_meets F.slot_int_rmul (typeIs_int s 1 t) F.entry_int_rmul (F.args_int_rmul_2 _ _) (int_rmul_tuple 1 t l its.toArray n dd sl)
      ⟨ho, rfl, ⟨_, ho, rfl⟩, call_meets F.slot_tuple_mul ⟨_, ho, rfl⟩ F.entry_tuple_mul (F.args_tuple_mul_2 _ _) (tuple_mul1 l its.toArray n dd sl t) ⟨ho, ?_⟩⟩)
  exact ⟨.ref l, H, I, rfl, q⟩
end
end L2
namespace Vs
open PySem PySem.Spec PyProof.Rows L2
section
variable {α : Amb} {W : WX} {X : Cx}
theorem Post.upG {β γ : Type} {rep : Hp → List Addr → γ → β → Prop} {G G' : Hp} {ρ ρ' : List Addr} {σ : L2.St} {Q : γ → Hp → Prop} {m : Option (Out β × Mu)} (h : Post α W rep G ρ σ Q m) (u : Up G ρ G' ρ') : Post α W rep G' ρ' σ Q m := by
  match m, h with
  | some (.ok x, μ'), h => exact fun v H2 G2 ρ2 u2 z r => h v H2 G2 ρ2 (u.trans u2) z r
  | some (.exc c, μ'), h => exact fun H2 G2 ρ2 u2 z => h H2 G2 ρ2 (u.trans u2) z
def evChain (f g : F2) (a b c : Ev) : Ev := fun δ μ => bindG (a δ μ) fun x μ1 => bindG (b δ μ1) fun y μ2 => match f x y μ2 with
  | some (.p (.bl true), μ3) => bindG (c δ μ3) fun w μ4 => okm (g y w μ4)
  | some (.p (.bl false), μ3) => some (.ok (.p (.bl false)), μ3)
  | _ => none
theorem chain_imp {ea eb ec : Ev} {f g : F2} {σ : L2.St} {H : Hp} {Q : VK} (h : tV α W (evChain f g ea eb ec) σ H Q) : tChain (r2V α f) (r2V α g) (tV α W ea) (tV α W eb) (tV α W ec) σ H Q := by
  obtain ⟨G, ρ, δ, μ, z, s, p⟩ := h
  exact ⟨G, ρ, δ, μ, z, s, Post.bind p fun x μ1 v H1 G1 ρ1 u z1 r1 p1 =>
    ⟨G1, ρ1, δ, μ1, z1, s.up u, Post.bind p1 fun y μ2 w H2 G2 ρ2 u2 z2 r2 p2 => by
      refine ⟨G2, ρ2, μ2, x, y, z2, r1.up u2, r2, ?_⟩
      cases q : f x y μ2 with
      | none => rw [q] at p2; exact p2.elim
      | some r =>
        obtain ⟨d, μ3⟩ := r
        rw [q] at p2
        intro v3 H3 G3 ρ3 u3 z3 r3
        cases d with
        | loc l => exact p2.elim
        | p x3 =>
          cases x3 with
          | bl k =>
            cases r3
            refine ⟨k, rfl, ?_⟩
            cases k with
            | false => exact p2 _ H3 G3 ρ3 u3 z3 (.bl false)
            | true =>
              have p2 : Post α W (RepD α) G2 ρ2 σ Q (bindG (ec δ μ3) fun w μ4 => okm (g y w μ4)) := p2
              refine ⟨G3, ρ3, δ, μ3, z3, s.up (u.trans (u2.trans u3)), Post.bind (p2.upG u3) fun w' μ4 v4 H4 G4 ρ4 u4 z4 r4 p4 => ?_⟩
              exact ⟨G4, ρ4, μ4, y, w', z4, r2.up (u3.trans u4), r4, p4.fin⟩
          | _ => exact p2.elim⟩⟩
theorem v_chain {op op' : CmpOp} {a b c : Expr} {ea eb ec : Ev} {f g : F2} {pos : Pos} (ho : OpR X (compareOp op) (r2V α f)) (ho' : OpR X (compareOp op') (r2V α g)) (ha : PE X a (tV α W ea)) (hb : PE X b (tV α W eb)) (hc : PE X c (tV α W ec))
    (hm : lastMarks [op, op'] [b, c] = false := by with_unfolding_all rfl) : PE X (.Compare a [op, op'] [b, c] pos) (tV α W (evChain f g ea eb ec)) :=
  PE.imp (pe_chain ho ho' ha hb hc hm) fun σ H Q h => chain_imp h
theorem v_tchain {op op' : CmpOp} {a b c : Expr} {ea eb ec : Ev} {f g : F2} {pos : Pos} (ho : OpR X (compareOp op) (r2V α f)) (ho' : OpR X (compareOp op') (r2V α g)) (ha : PE X a (tV α W ea)) (hb : PE X b (tV α W eb)) (hc : PE X c (tV α W ec))
    (hm : lastMarks [op, op'] [b, c] = false := by with_unfolding_all rfl) : PT X (.Compare a [op, op'] [b, c] pos) (tVt α W (evB (evChain f g ea eb ec))) :=
  PT.imp (pt_chain ho ho' ha hb hc hm) fun σ H Q ⟨G, ρ, δ, μ, z, s, p⟩ => chain_imp (Q := fun x H' => ∃ k, x = .bl k ∧ Q k H') ⟨G, ρ, δ, μ, z, s, Post.bind p fun x μ1 v H1 G1 ρ1 u z1 r1 p1 => by
    split at p1
    · rename_i b
      exact ⟨b, repBl r1, p1 b H1 G1 ρ1 Up.refl z1 rfl⟩
    · exact p1.elim⟩
@[simp] theorem evChain_eq {f g : F2} {a b c : Ev} {δ : Sl} {μ : Mu} : evChain f g a b c δ μ = bindG (a δ μ) fun x μ1 => bindG (b δ μ1) fun y μ2 => match f x y μ2 with
  | some (.p (.bl true), μ3) => bindG (c δ μ3) fun w μ4 => okm (g y w μ4)
  | some (.p (.bl false), μ3) => some (.ok (.p (.bl false)), μ3)
  | _ => none := rfl
/-! ### tuples -/
def evSlT (e : Ev) (lo hi : EvO) : Ev := fun δ μ => bindG (e δ μ) fun x μ1 => bindG (lo δ μ1) fun l μ2 => bindG (hi δ μ2) fun h μ3 => match x with
  | .p (.tup xs) => some (.ok (.p (.tup (cutP xs l h))), μ3)
  | _ => none
theorem cutP_whole {xs : List P} {l h : Option Int} (e : HT.sIx xs.length 0 l = 0 ∧ HT.sIx xs.length xs.length h = xs.length) : cutP xs l h = xs := by
  unfold cutP
  rw [e.1, e.2, List.drop_zero, Nat.sub_zero, List.take_length]
theorem v_sliceT {e : Expr} {lo hi : Option Expr} {p2 pos : Pos} {ev : Ev} {el eh : EvO} (hK : X.K = α.K) (he : PE X e (tV α W ev)) (hl : PO X lo (tVo α W el)) (hh : PO X hi (tVo α W eh)) : PE X (.Subscript e (.Slice lo hi none p2) pos) (tV α W (evSlT ev el eh)) :=
  PE.imp (pe_slice sl_tupA he hl hh) fun σ H Q ⟨G, ρ, δ, μ, z, s, p⟩ => ⟨G, ρ, δ, μ, z, s, Post.bind p fun x μ1 v H1 G1 ρ1 u z1 r1 p1 =>
    ⟨G1, ρ1, δ, μ1, z1, s.up u, Post.bind p1 fun l μ2 l' H2 G2 ρ2 u2 z2 r2 p2 => ⟨G2, ρ2, δ, μ2, z2, s.up (u.trans u2), Post.bind p2 fun h μ3 h' H3 G3 ρ3 u3 z3 r3 p3 => by
      cases r2
      cases r3
      split at p3
      · rename_i xs
        have r1' := r1.up (u2.trans u3)
        obtain ⟨a, vs, rfl, h1, h2⟩ := view_tup z3 r1' rfl
        refine ⟨a, vs, rfl, by rw [hK]; exact h1, fun hw => ?_, fun hw q hq => ?_⟩
        · rw [h2.length] at hw
          rw [cutP_whole hw] at p3
          exact p3 _ H3 G3 ρ3 Up.refl z3 r1'
        · refine p3 _ _ _ _ (up_new (z3.free hq)) (z3.new hq _) (.tup (SqT.of upd_same) (Reps.mono (same_upd (z3.free hq)) ?_))
          unfold cutV cutP
          rw [h2.length]
          exact (h2.drop _).take _
      · exact p3.elim⟩⟩⟩
def fCatT : F2 := fun x y μ => match x, y with
  | .p (.tup xs), .p (.tup ys) => if xs.length + ys.length ≤ sizeLine then some (.p (.tup (xs ++ ys)), μ) else none
  | _, _ => none
theorem reps_nil {G : Hp} {xs : List P} (r : Reps α G [] xs) : xs = [] := by cases r; rfl
theorem o_catT (hK : X.K = α.K) : OpR X (binaryOp .Add) (r2V α fCatT) := OpR.imp op_catA fun x y H Q h => by
  obtain ⟨G, ρ, μ, dx, dy, z, rx, ry, q⟩ := h
  unfold fCatT at q
  split at q
  · rename_i xs ys
    split at q
    · rename_i hl
      obtain ⟨a, vs, rfl, e1, t1⟩ := view_tup z rx rfl
      obtain ⟨b, ws, rfl, e2, t2⟩ := view_tup z ry rfl
      refine ⟨a, b, vs, ws, rfl, rfl, by rw [hK]; exact e1, by rw [hK]; exact e2, by rw [t1.length, t2.length]; exact hl, fun h0 => ?_, fun _ h0 => ?_, fun _ _ p hp => ?_⟩
      · subst h0
        obtain rfl := reps_nil t1
        exact q _ _ _ _ Up.refl z ry
      · subst h0
        obtain rfl := reps_nil t2
        rw [List.append_nil] at q
        exact q _ _ _ _ Up.refl z rx
      · exact q _ _ _ _ (up_new (z.free hp)) (z.new hp _) (.tup (SqT.of upd_same) ((t1.append t2).mono (same_upd (z.free hp))))
    · exact q.elim
  · exact q.elim
def fRepT : F2 := fun x y μ => match x, y with
  | .p (.tup xs), .p (.int k) => if 1 ≤ k ∧ k ≤ 1000 ∧ xs ≠ [] ∧ xs.length ≤ 1000 then some (.p (.tup (List.replicate k.toNat xs).flatten), μ) else none
  | _, _ => none
theorem reps_flat {G : Hp} {vs : List V} {xs : List P} (r : Reps α G vs xs) : ∀ k : Nat, Reps α G (List.replicate k vs).flatten (List.replicate k xs).flatten
  | 0 => .nil
  | k + 1 => by
    rw [List.replicate_succ, List.replicate_succ, List.flatten_cons, List.flatten_cons]
    exact r.append (reps_flat r k)
theorem o_repT (hK : X.K = α.K) : OpR X (binaryOp .Mult) (r2V α fRepT) := OpR.imp (L2.OpR.or op_rep1 op_repT) fun x y H Q h => by
  obtain ⟨G, ρ, μ, dx, dy, z, rx, ry, q⟩ := h
  unfold fRepT at q
  split at q
  · rename_i xs k
    split at q
    · rename_i hc
      obtain ⟨h1, h2, h3, h4⟩ := hc
      obtain ⟨a, vs, rfl, e1, t1⟩ := view_tup z rx rfl
      cases ry
      by_cases hk : k = 1
      · subst hk
        refine .inl ⟨a, vs, rfl, rfl, by rw [hK]; exact e1, ?_⟩
        have e : (List.replicate (1 : Int).toNat xs).flatten = xs := by
          show (List.replicate 1 xs).flatten = xs
          simp
        rw [e] at q
        exact q _ _ _ _ Up.refl z rx
      · refine .inr ⟨a, k, vs, rfl, rfl, by rw [hK]; exact e1, fun h0 => h3 ?_, by omega, h2, by rw [t1.length]; exact h4, fun p hp => ?_⟩
        · subst h0
          exact reps_nil t1
        · exact q _ _ _ _ (up_new (z.free hp)) (z.new hp _) (.tup (SqT.of upd_same) ((reps_flat t1 k.toNat).mono (same_upd (z.free hp))))
    · exact q.elim
  · exact q.elim
/-! ### == of two lists of the same rows -/
def cellsP (c : Nat) : List P → Bool
  | [] => true
  | .int _ :: xs => cellsP c xs
  | .obj c' [.int _, .int _] :: xs => c' == c && cellsP c xs
  | _ => false
def rowsP (c : Nat) : List P → Bool
  | [] => true
  | .tup xs :: ys => cellsP c xs && rowsP c ys
  | _ => false
open Classical in
noncomputable def fEqRows (c : Nat) : F2 := fun x y μ => match x, y with
  | .p (.lst xs), .p (.lst ys) => if rowsP c xs = true ∧ xs = ys then some (.p (.bl true), μ) else none
  | _, _ => none
def DCell (α : Amb) (c : Nat) : Eqv := fun x y H => DFlat x y H ∨ DIns (α.cl c) (RatR α c) x y H
theorem cell_prs {c : Nat} {G H : Hp} (s : Same G H) : ∀ {xs : List P} {vs ws : List V}, cellsP c xs = true → Reps α G vs xs → Reps α G ws xs → Prs (DCell α c) vs ws H
  | [], _, _, h, .nil, .nil => Prs.nil
  | x :: xs, _, _, h, .cons r1 t1, .cons r2 t2 => by
    unfold cellsP at h
    split at h
    · rename_i e; cases e
    · rename_i i ys e
      cases e
      refine Prs.cons (.inl ?_) (cell_prs s h t1 t2)
      cases r1
      cases r2
      exact ⟨rfl, rfl, by simp [eqV]⟩
    · rename_i c' i j ys e
      cases e
      rw [Bool.and_eq_true, beq_iff_eq] at h
      obtain ⟨rfl, h⟩ := h
      refine Prs.cons (.inr ?_) (cell_prs s h t1 t2)
      have p := rat_prs (c := c') (xs := [.obj c' [.int i, .int j]]) s (by simp [ratsP]) (.cons r1 .nil) (.cons r2 .nil)
      exact p.2 0 _ _ rfl rfl
    · cases h
theorem row_prs {c : Nat} {G H : Hp} (s : Same G H) : ∀ {xs : List P} {vs ws : List V}, rowsP c xs = true → Reps α G vs xs → Reps α G ws xs → Prs (DTup α.K (DCell α c)) vs ws H
  | [], _, _, h, .nil, .nil => Prs.nil
  | x :: xs, _, _, h, .cons r1 t1, .cons r2 t2 => by
    unfold rowsP at h
    split at h
    · rename_i e; cases e
    · rename_i zs ys e
      cases e
      rw [Bool.and_eq_true] at h
      refine Prs.cons ?_ (row_prs s h.2 t1 t2)
      cases r1 with
      | tup g1 q1 =>
        cases r2 with
        | tup g2 q2 => exact ⟨_, _, _, _, rfl, rfl, seqT s g1, seqT s g2, cell_prs s h.1 q1 q2⟩
    · cases h
theorem o_eqRows {c k : Nat} {sem : FSem} (hK : X.K = α.K) (hr : Room (k + 2) X.A) (F : Mt X.prog X.w X.K X.mg X.base α k (α.cl c) "__eq__" 2 sem) (hl : (α.fl c).length = 2)
    (he : ∀ i j : Int, sem [.p (.obj c [.int i, .int j]), .p (.obj c [.int i, .int j])] [] = some (.ok (.p (.bl true)), [])) : OpR X (compareOp .Eq) (r2V α (fEqRows c)) := by
  obtain ⟨⟨f, fd, ps, h1, h2, h3, hb, F⟩, ar⟩ := F
  have F2 : FnOk X.prog X.w X.K X.mg X.base (L2.CX X.prog X.w) k f fd ps (spEq (RatR α c)) := F.imp fun vs H Q E ⟨a, b, e, r, q⟩ => by
    subst e
    obtain ⟨i, j, dx, dy, g1, g2⟩ := r
    have rp : ∀ (a dx : Addr), H a = some (.ins (α.cl c) dx ((α.fl c).zip [.int i, .int j])) → Rep α H (.ref a) (.obj c [.int i, .int j]) := fun a dx g => .obj g (by rw [hl]; rfl) (.cons (.int i) (.cons (.int j) .nil))
    refine ⟨rfl, H, [], [], _, ⟨Same.refl H, rfl, fun l m e => by simp at e, fun l l' m m' a e => by simp at e⟩, .cons (x := .p (.obj c [.int i, .int j])) (rp a dx g1) (.cons (x := .p (.obj c [.int i, .int j])) (rp b dy g2) .nil), ?_⟩
    rw [he i j]
    intro v H' G' ρ' u z r
    cases r
    exact q H' (u.same.trans z.sub)
  have hm : Mon (DIns (α.cl c) (RatR α c)) := mon_ins fun a b H H' e r => by
    obtain ⟨i, j, dx, dy, g1, g2⟩ := r
    exact ⟨i, j, dx, dy, e _ _ g1, e _ _ g2⟩
  have hp : Passes (L2.CX X.prog X.w) X (fun _ _ _ => False) := passes_call takes0 fun _ _ _ _ h => h
  have hc : EqG X k (DCell α c) := EqG.or (eqG_flat.mono (Nat.zero_le _)) (eqG_ins (E := fun _ _ _ => False) F2 h1 h2 hb hp)
  have hmc : Mon (DCell α c) := Mon.or mon_flat hm
  exact OpR.imp (op_eqG (rcG_list (mon_tup (K := X.K) hmc) (eqG_tup hmc hc)) hr) fun x y H Q ⟨G, ρ, μ, dx, dy, z, rx, ry, q⟩ => by
    unfold fEqRows at q
    split at q
    · rename_i xs ys
      split at q
      · rename_i hc
        obtain ⟨hc, rfl⟩ := hc
        cases rx with
        | lst g1 r1 =>
          cases ry with
          | lst g2 r2 =>
            refine ⟨⟨_, _, _, _, rfl, rfl, z.sub _ _ g1, z.sub _ _ g2, by rw [hK]; exact row_prs z.sub hc r1 r2⟩, fun H' e => ?_⟩
            exact q _ H' G ρ Up.refl (z.grow e) (.bl true)
      · exact q.elim
    · exact q.elim
theorem fEqRows_ok {c : Nat} {xs : List P} {μ : Mu} (h : rowsP c xs = true) : fEqRows c (.p (.lst xs)) (.p (.lst xs)) μ = some (.p (.bl true), μ) := by
  unfold fEqRows
  dsimp only
  rw [if_pos ⟨h, rfl⟩]
end
end Vs
/-! try: .. except C as e: .. where one class of the program's own is raised. -/
namespace Vs
open PySem PySem.Spec PyProof.Rows L2
section
variable {α : Amb} {W : WX} {X : Cx}
def sTryB (b i : Nat) (sb sh : SEv) : SEv := fun δ μ => match sb δ μ with
  | some (.exc c, δ1, μ1) => if c = b ∧ i < δ1.length then (match sh (δ1.set i none) μ1 with
    | some (.ret d, δ2, μ2) => some (.ret d, δ2, μ2)
    | _ => none) else none
  | r => r
theorem Sq.wipe {G : Hp} {ρ : List Addr} {σ : L2.St} {δ : Sl} (s : Sq α G ρ σ δ) (i : Nat) (v : Option V) : Sq α G ρ (σ.set i v) (δ.set i none) := by
  refine ⟨by rw [List.length_set, List.length_set]; exact s.len, fun j x e => ?_⟩
  by_cases h : i = j
  · subst h
    rw [List.getElem?_set] at e
    simp only [if_true] at e
    split at e <;> cases e
  · rw [List.getElem?_set_ne h] at e ⊢
    exact s.get j x e
theorem v_tryB {b i t : Nat} {x n : Str} {body suite : List Stmt} {b₀ : Stmt} {np pos pos' : Pos} {sb sh : SEv} {ts : Addr → TS} (hK : X.K = α.K) (hs : X.stack = X.env :: X.outer) (hf : X.env.frame = some X.env.locals) (hN : X.N.Nodup) (hi : X.N[i]? = some n) (hln : X.env.kindOf n = some .local) (hc : Names X x (.ref (α.cl t)))
    (hex : PySem.W.exmOne α.K (.ref (α.cl b)) (.ref (α.cl t)) = some true) (tk : Takes X W)
    (hb : ∀ (W : WX) (pn : List (Addr × Obj)) (xe : Value → Shared → Prop), Takes (X.tr pn xe) W → PassesOwn (model X.prog X.w) X.A X.env xe → PSs (X.tr pn xe) body (tS α W sb))
    (hsu : ∀ (a : Addr) (oe : Obj) (pn : List (Addr × Obj)), Zc (.ref (α.cl b)) none oe → (∃ vs, oe.data = .fields vs) → PSs (X.suite a ((a, oe) :: pn)) (b₀ :: suite) (ts a))
    (hts : ∀ (a : Addr) (Dn : Ends) (σ : L2.St) (H : Hp), σ[i]? = some (some (.ref a)) → tS α (fun _ _ _ _ => False) sh Dn σ H → ts a Dn σ H) :
    PS X (.Try body [.ExceptHandler (some (.Name x np)) (some n) (b₀ :: suite) pos'] [] [] pos) (tS α W (sTryB b i sb sh)) := by
  classical
  refine PS.imp (ps_try_as (tb := fun W => tS α W sb) (ts := fun a cls d => if cls = .ref (α.cl b) ∧ d = none then ts a else tNever) hs hf hN hi hln hc tk hb fun a oe cls d pn hz hfl => ?_) fun Dn σ H ⟨G, ρ, δ, μ, z, s, p⟩ => ⟨G, ρ, δ, μ, z, s, ?_⟩
  · by_cases hcd : cls = .ref (α.cl b) ∧ d = none
    · rw [if_pos hcd]
      obtain ⟨rfl, rfl⟩ := hcd
      exact hsu a oe pn hz hfl
    · rw [if_neg hcd]
      exact pss_never
  · unfold sTryB at p
    cases q : sb δ μ with
    | none => rw [q] at p; exact p
    | some r =>
      obtain ⟨f, δ', μ'⟩ := r
      rw [q] at p
      cases f with
      | nx => exact p
      | brk => exact p
      | cont => exact p
      | ret d => exact p
      | exc c =>
        dsimp only at p
        by_cases hcb : c = b ∧ i < δ'.length
        · rw [if_pos hcb] at p
          obtain ⟨rfl, hl⟩ := hcb
          intro σ' H' G' ρ' u' z' s'
          rw [hK]
          refine ⟨true, hex, fun _ a ha => ?_, fun h => by cases h⟩
          dsimp only
          rw [if_pos ⟨rfl, rfl⟩]
          have hl : i < σ'.length := by rw [s'.len]; exact hl
          refine hts a _ _ _ (List.getElem?_set_self hl) ⟨G', ρ', _, μ', z', s'.wipe i _, ?_⟩
          cases q2 : sh (δ'.set i none) μ' with
          | none => rw [q2] at p; exact p.elim
          | some r2 =>
            obtain ⟨f2, δ2, μ2⟩ := r2
            rw [q2] at p
            cases f2 with
            | ret d => exact fun v H2 G2 ρ2 u2 z2 r2 => p v H2 G2 ρ2 (u'.trans u2) z2 r2
            | _ => exact p.elim
        · rw [if_neg hcb] at p
          exact p.elim
theorem isE_read {K : PySem.W.Frag} {D a : Addr} {i : Nat} {v : V} {cv : Value} {b : Bool} {σ : L2.St} {H : Hp} {Q : Bool → Hp → Prop} (h : σ[i]? = some (some (.ref a))) (hcv : ∀ u, RelV v u → u = cv) (hk : PySem.W.kitOne K (.ref D) cv = some b) (q : Q b H) :
    tB (tCB (rIsE K D a) (tCons (tVar i) (tCons (tC v) tNil))) σ H Q := ⟨.ref a, h, v, cv, b, rfl, hcv, hk, b, rfl, q⟩
end
end Vs
/-! == of two lists of the same objects: no call is made, so that it may stand in an except suite. -/
namespace L2
open PySem PySem.Spec PyProof.Rows
theorem eqBool_same {prog : Program} {w : World} {A : Around} {E : Value → Shared → Prop} {s : Shared} {a : Addr} {Q : Bool → Shared → Prop} (h : Q true s) : wpAny (model prog w) A (eqBool (.ref a) (.ref a)) Q E s := by
  unfold eqBool
  refine wpAny_holding ?_
  have e : ((Value.ref a == Value.ref a) = true) := by simp
  rw [if_pos e]
  wp_walk
  exact h
section
variable {X : Cx}
def rEqRefs : R2 := fun x y H Q => ∃ a b xs, x = .ref a ∧ y = .ref b ∧ H a = some (.lst xs) ∧ H b = some (.lst xs) ∧ (∀ v ∈ xs, ∃ c, v = V.ref c) ∧ Q (.bl true) H
theorem op_eqRefs (hu : X.A.units < cLine) : OpR X (compareOp .Eq) rEqRefs := by
  intro pins s σ H x y v u Q I rx ry hq
  obtain ⟨a, b, xs, rfl, rfl, ha, hb, hxs, q⟩ := hq
  cases rx
  cases ry
  show wpAny (model X.prog X.w) X.A (richCompare .Eq _ _) (EP X pins σ Q) X.xe s
  refine GQ.rc_listG (N := xs.length) hu (fun _ s' => Inv X pins σ H s') (fun i s' I1 => ?_) (fun s' I1 => ⟨.bl true, H, I1, rfl, q⟩) I
  obtain ⟨z, its, k, r, e⟩ := I1.hok a _ ha
  obtain ⟨z2, its2, k2, r2, e2⟩ := I1.hok b _ hb
  refine ⟨its.toArray, its2.toArray, k, k2, e, e2, by rw [List.size_toArray, ← r.length], by rw [List.size_toArray, ← r2.length], fun h1 h2 => ?_⟩
  have k1 : i < xs.length := by rw [r.length]; simpa using h1
  obtain ⟨u1, hu1, ru1⟩ := r.get (List.getElem?_eq_getElem k1)
  obtain ⟨u2, hu2, ru2⟩ := r2.get (List.getElem?_eq_getElem k1)
  obtain ⟨c, hc⟩ := hxs _ (List.getElem_mem k1)
  rw [hc] at ru1 ru2
  cases ru1
  cases ru2
  have g1 : its.toArray[i] = .ref c := by
    have h1' : i < its.length := by simpa using h1
    have := (List.getElem?_eq_some_iff.mp hu1).2
    simpa using this
  have g2 : its2.toArray[i] = .ref c := by
    have h2' : i < its2.length := by simpa using h2
    have := (List.getElem?_eq_some_iff.mp hu2).2
    simpa using this
  rw [g1, g2]
  exact eqBool_same ⟨rfl, I1⟩
end
end L2
namespace Vs
open PySem PySem.Spec PyProof.Rows L2
section
variable {α : Amb} {W : WX} {X : Cx}
def rowsTup : List P → Bool
  | [] => true
  | .tup _ :: xs => rowsTup xs
  | _ => false
theorem tup_refs {G : Hp} : ∀ {vs : List V} {xs : List P}, rowsTup xs = true → Reps α G vs xs → ∀ v ∈ vs, ∃ c, v = V.ref c
  | _, [], h, .nil, v, hv => by cases hv
  | _, .tup ys :: xs, h, .cons r t, v, hv => by
    rcases List.mem_cons.mp hv with rfl | hv
    · cases r; exact ⟨_, rfl⟩
    · exact tup_refs (xs := xs) h t v hv
  | _, .non :: _, h, _, _, _ => by cases h
  | _, .bl _ :: _, h, _, _, _ => by cases h
  | _, .int _ :: _, h, _, _, _ => by cases h
  | _, .str _ :: _, h, _, _, _ => by cases h
  | _, .lst _ :: _, h, _, _, _ => by cases h
  | _, .wl _ :: _, h, _, _, _ => by cases h
  | _, .obj _ _ :: _, h, _, _, _ => by cases h
/-- if isinstance(value, list): kept = list(value) / try: found = check(value) / except Base as e: ..; return not due and (kept is None or kept == value) -/
def ktEnd (b ifd : Nat) (due : Bool) (δ : Sl) : Option (Out D × Mu) → Option (Fl × Sl × Mu)
  | some (.ok d, μ1) => some (.nx, δ.set ifd (some d), μ1)
  | some (.exc c, μ1) => if c = b then some (.ret (.p (.bl (!due))), δ, μ1) else none
  | none => none
def sKeepTry (b iv id ik ifd ie : Nat) (chk : FSem) : SEv := fun δ μ => match δ[iv]?, δ[id]?, δ[ik]? with
  | some (some (.p x)), some (some (.p (.bl due))), some (some (.p .non)) => if ¬ ie < δ.length then none else match isiT 1 "list" x, x with
    | some true, .lst xs => if rowsTup xs = true then (match chk [.p x] μ with
        | some (.exc c, μ1) => ktEnd b ifd due δ (some (.exc c, μ1))
        | _ => none) else none
    | some false, x => ktEnd b ifd due δ (chk [.p x] μ)
    | _, _ => none
  | _, _, _ => none
/-- what the handler wants -/
def HndOk (ik iv id : Nat) (ts : TS) (a : Addr) (ie : Nat) : Prop := ∀ (Dn : Ends) (σ : L2.St) (H : Hp) (due : Bool), σ[ie]? = some (some (.ref a)) → σ[id]? = some (some (.bl due)) →
  (σ[ik]? = some (some .non) ∨ ∃ p q vs, σ[ik]? = some (some (.ref p)) ∧ σ[iv]? = some (some (.ref q)) ∧ H p = some (.lst vs) ∧ H q = some (.lst vs) ∧ ∀ v ∈ vs, ∃ c, v = V.ref c) → Dn.rt (.bl (!due)) H → ts Dn σ H
theorem kt_inv {b iv id ik ifd ie : Nat} {chk : FSem} {δ : Sl} {μ : Mu} {r : Fl × Sl × Mu} (q : sKeepTry b iv id ik ifd ie chk δ μ = some r) : ∃ x due, δ[iv]? = some (some (.p x)) ∧ δ[id]? = some (some (.p (.bl due))) ∧ δ[ik]? = some (some (.p .non)) ∧ ie < δ.length ∧
    ((∃ xs μ1, x = .lst xs ∧ rowsTup xs = true ∧ chk [.p x] μ = some (.exc b, μ1) ∧ r = (.ret (.p (.bl (!due))), δ, μ1)) ∨
     (isiT 1 "list" x = some false ∧ ((∃ d μ1, chk [.p x] μ = some (.ok d, μ1) ∧ r = (.nx, δ.set ifd (some d), μ1)) ∨ ∃ μ1, chk [.p x] μ = some (.exc b, μ1) ∧ r = (.ret (.p (.bl (!due))), δ, μ1)))) := by
  unfold sKeepTry at q
  split at q
  · rename_i x due e1 e2 e3
    split at q
    · cases q
    · rename_i hl
      refine ⟨x, due, e1, e2, e3, by omega, ?_⟩
      cases hk : isiT 1 "list" x with
      | none => rw [hk] at q; cases q
      | some k =>
        rw [hk] at q
        cases k with
        | false =>
          refine .inr ⟨rfl, ?_⟩
          dsimp only at q
          cases hc : chk [.p x] μ with
          | none => rw [hc] at q; cases q
          | some o =>
            obtain ⟨o, μ1⟩ := o
            rw [hc] at q
            cases o with
            | ok d => cases q; exact .inl ⟨d, μ1, rfl, rfl⟩
            | exc c =>
              unfold ktEnd at q
              dsimp only at q
              split at q
              · rename_i hcb
                subst hcb
                cases q
                exact .inr ⟨μ1, rfl, rfl⟩
              · cases q
        | true =>
          cases x with
          | lst xs =>
            dsimp only at q
            split at q
            · rename_i hrows
              split at q
              · rename_i c μ1 hchk
                unfold ktEnd at q
                dsimp only at q
                split at q
                · rename_i hcb
                  subst hcb
                  cases q
                  exact .inl ⟨xs, μ1, rfl, hrows, hchk, rfl⟩
                · cases q
              · cases q
            · cases q
          | _ => cases q
  · cases q
theorem ev_chk {iv : Nat} {chk : FSem} {δ : Sl} {μ : Mu} {x : P} (h : δ[iv]? = some (some (.p x))) : evCall chk [] (evCons (evV iv) evNil) δ μ = chk [.p x] μ := by
  rw [evCall_eq, evCons_eq, evV_at h, bindG_ok, evNil_eq, bindG_ok, bindG_ok]
  rfl
open Classical in
theorem kt_exc {b iv id ik ifd ie : Nat} {K : PySem.W.Frag} {c : Value} {chk : FSem} {ts : Addr → TS} {Dn : Ends} {G : Hp} {ρ : List Addr} {δ : Sl} {μ μ1 : Mu} {σ : L2.St} {H : Hp} {x : P} {due : Bool}
    (hex : PySem.W.exmOne K (.ref (α.cl b)) c = some true) (d3 : ie ≠ ik) (d4 : ie ≠ iv) (d5 : ie ≠ id) (hts : ∀ (a : Addr), HndOk ik iv id (ts a) a ie)
    (z : Zn α H G ρ μ) (s : Sq α G ρ σ δ) (hx : δ[iv]? = some (some (.p x))) (hd : σ[id]? = some (some (.bl due))) (he : ie < σ.length) (hchk : chk [.p x] μ = some (.exc b, μ1))
    (hk : σ[ik]? = some (some .non) ∨ ∃ p q vs, σ[ik]? = some (some (.ref p)) ∧ σ[iv]? = some (some (.ref q)) ∧ G p = some (.lst vs) ∧ G q = some (.lst vs) ∧ ∀ v ∈ vs, ∃ c, v = V.ref c)
    (fin : ∀ H' G' ρ', Up G ρ G' ρ' → Zn α H' G' ρ' μ1 → Dn.rt (.bl (!due)) H') :
    tAsg (tV α (wAs K c ie (fun a cls d => if cls = .ref (α.cl b) ∧ d = none then ts a else tNever) W Dn) (evCall chk [] (evCons (evV iv) evNil))) (gName ifd) Dn σ H := by
  refine ⟨G, ρ, δ, μ, z, s, ?_⟩
  rw [ev_chk hx, hchk]
  intro H' G' ρ' u z'
  refine ⟨true, hex, fun _ a ha => ?_, fun h => by cases h⟩
  dsimp only
  rw [if_pos ⟨rfl, rfl⟩]
  refine hts a _ _ _ due (List.getElem?_set_self he) (by rw [List.getElem?_set_ne d5]; exact hd) ?_ (fin H' G' ρ' u z')
  rcases hk with hk | ⟨p, q, vs, k1, k2, k3, k4, k5⟩
  · exact .inl (by rw [List.getElem?_set_ne d3]; exact hk)
  · exact .inr ⟨p, q, vs, by rw [List.getElem?_set_ne d3]; exact k1, by rw [List.getElem?_set_ne d4]; exact k2, z'.sub _ _ (u.same _ _ k3), z'.sub _ _ (u.same _ _ k4), k5⟩
theorem v_keepTry {b iv id ik ifd ie t : Nat} {x n : Str} {test : Expr} {kst : Stmt} {body suite rest : List Stmt} {b₀ : Stmt} {np pos pos' pos2 : Pos} {chk : FSem} {ts : Addr → TS} {sr : SEv}
    (hK : X.K = α.K) (hs : X.stack = X.env :: X.outer) (hf : X.env.frame = some X.env.locals) (hN : X.N.Nodup) (hi : X.N[ie]? = some n) (hln : X.env.kindOf n = some .local) (hc : Names X x (.ref (α.cl t)))
    (hex : PySem.W.exmOne α.K (.ref (α.cl b)) (.ref (α.cl t)) = some true) (tk : Takes X W) (d1 : ik ≠ iv) (d2 : ik ≠ id) (d3 : ie ≠ ik) (d4 : ie ≠ iv) (d5 : ie ≠ id)
    (h0 : PT X test (tVt α W (evB (evIsiV (isiT 1 "list") (evV iv)))))
    (hk : PS X kst (tAsg (tCB (fun xs H Q => ∃ p ys, xs = [.ref p] ∧ (SqL X.K H p ys ∨ SqT X.K H p ys) ∧ ∀ l, H l = none → Q (.ref l) (upd H l (.lst ys))) (tCons (tVar iv) tNil)) (gName ik)))
    (hb : ∀ (W : WX) (pn : List (Addr × Obj)) (xe : Value → Shared → Prop), Takes (X.tr pn xe) W → PassesOwn (model X.prog X.w) X.A X.env xe → PSs (X.tr pn xe) body (tAsg (tV α W (evCall chk [] (evCons (evV iv) evNil))) (gName ifd)))
    (hsu : ∀ (a : Addr) (oe : Obj) (pn : List (Addr × Obj)), Zc (.ref (α.cl b)) none oe → (∃ vs, oe.data = .fields vs) → PSs (X.suite a ((a, oe) :: pn)) (b₀ :: suite) (ts a))
    (hts : ∀ (a : Addr), HndOk ik iv id (ts a) a ie)
    (hr : PSs X rest (tS α W sr)) :
    PSs X (.If test [kst] [] pos2 :: .Try body [.ExceptHandler (some (.Name x np)) (some n) (b₀ :: suite) pos'] [] [] pos :: rest) (tS α W (seqS (sKeepTry b iv id ik ifd ie chk) sr)) := by
  classical
  refine PSs.imp (pss_cons (ps_if h0 (pss_one hk) pss_nil) (pss_cons (ps_try_as (tb := fun W => tAsg (tV α W (evCall chk [] (evCons (evV iv) evNil))) (gName ifd)) (ts := fun a cls d => if cls = .ref (α.cl b) ∧ d = none then ts a else tNever) hs hf hN hi hln hc tk hb fun a oe cls d pn hz hfl => ?_) hr)) fun Dn σ H ⟨G, ρ, δ, μ, z, s, p⟩ => ?_
  · by_cases hcd : cls = .ref (α.cl b) ∧ d = none
    · rw [if_pos hcd]
      obtain ⟨rfl, rfl⟩ := hcd
      exact hsu a oe pn hz hfl
    · rw [if_neg hcd]
      exact pss_never
  · rw [seqS_eq] at p
    cases q0 : sKeepTry b iv id ik ifd ie chk δ μ with
    | none => rw [q0] at p; exact p.elim
    | some r =>
      obtain ⟨x, due, e1, e2, e3, hl, q⟩ := kt_inv q0
      rw [q0] at p
      have hls : ie < σ.length := by rw [s.len]; exact hl
      obtain ⟨vx, hvx, rx⟩ := s.get _ _ e1
      obtain ⟨vd, hvd, rd⟩ := s.get _ _ e2
      obtain ⟨vk, hvk, rk⟩ := s.get _ _ e3
      cases rd
      cases rk
      have ei : ∀ k, isiT 1 "list" x = some k → evB (evIsiV (isiT 1 "list") (evV iv)) δ μ = some (.ok k, μ) := fun k hk => by
        unfold evB evIsiV
        rw [evV_at e1, bindG_ok, show view μ (D.p x) = some x from rfl]
        dsimp only
        rw [hk]
        rfl
      rcases q with ⟨xs, μ1, rfl, hrows, hchk, rfl⟩ | ⟨hi1, q⟩
      · refine ⟨G, ρ, δ, μ, z, s, ?_⟩
        rw [ei true rfl]
        rintro k H1 G1 ρ1 u1 z1 rfl
        refine iteT ?_
        have rx1 := rx.up u1
        cases rx1 with
        | lst g1 t1 =>
          rename_i a vs
          refine ⟨_, hvx, _, _, rfl, .inl (SqL.of (z1.sub _ _ g1)), fun l nl => ?_⟩
          have hg := z1.free nl
          have z2 := z1.new nl (.lst vs)
          have u2 : Up G1 ρ1 (upd G1 l (.lst vs)) ρ1 := up_new hg
          have rk2 : RepD α (upd G1 l (.lst vs)) ρ1 (.ref l) (.p (.lst xs)) := .lst upd_same (t1.mono (same_upd hg))
          have s2 := ((s.up u1).up u2).set rk2 ik
          refine kt_exc (x := .lst xs) (due := due) (μ1 := μ1) (by rw [hK]; exact hex) d3 d4 d5 hts z2 s2 (by rw [List.getElem?_set_ne d1]; exact e1) (by rw [List.getElem?_set_ne d2]; exact hvd) (by rw [List.length_set]; exact hls) hchk ?_ fun H' G' ρ' u z' => ?_
          · refine .inr ⟨l, _, _, List.getElem?_set_self ?_, by rw [List.getElem?_set_ne d1]; exact hvx, upd_same, (same_upd hg) _ _ g1, tup_refs hrows t1⟩
            exact (List.getElem?_eq_some_iff.mp hvk).1
          · exact p _ H' G' ρ' ((u1.trans u2).trans u) z' (.bl _)
      · refine ⟨G, ρ, δ, μ, z, s, ?_⟩
        rw [ei false hi1]
        rintro k H1 G1 ρ1 u1 z1 rfl
        refine iteF ?_
        have s1 := s.up u1
        rcases q with ⟨d, μ1, hchk, rfl⟩ | ⟨μ1, hchk, rfl⟩
        · refine ⟨G1, ρ1, δ, μ, z1, s1, ?_⟩
          rw [ev_chk e1, hchk]
          intro v H2 G2 ρ2 u2 z2 r2
          exact ⟨G2, ρ2, _, μ1, z2, (s1.up u2).set r2 ifd, SPost.up p (u1.trans u2)⟩
        · refine kt_exc (x := x) (due := due) (μ1 := μ1) (by rw [hK]; exact hex) d3 d4 d5 hts z1 s1 e1 hvd hls hchk (.inl hvk) fun H' G' ρ' u z' => ?_
          exact p _ H' G' ρ' (u1.trans u) z' (.bl _)
theorem hnd_ret {ik iv id : Nat} {Dn : Ends} {σ : L2.St} {H : Hp} {due : Bool} (hd : σ[id]? = some (some (.bl due)))
    (hk : σ[ik]? = some (some .non) ∨ ∃ p q vs, σ[ik]? = some (some (.ref p)) ∧ σ[iv]? = some (some (.ref q)) ∧ H p = some (.lst vs) ∧ H q = some (.lst vs) ∧ ∀ v ∈ vs, ∃ c, v = V.ref c) (q : Dn.rt (.bl (!due)) H) :
    tRet (tAndV (L2.tNotV (tVar id)) (tOrV (tOp (fun x y H Q => y = .non ∧ Q (.bl (decide (x = .non))) H) (tVar ik) (tC .non)) (tOp rEqRefs (tVar ik) (tVar iv)))) Dn σ H := by
  refine ⟨_, hd, due, rfl, !due, rfl, ?_⟩
  cases due with
  | true => exact iteF q
  | false =>
    refine iteT ?_
    rcases hk with hk | ⟨p, r, vs, k1, k2, k3, k4, k5⟩
    · exact ⟨_, hk, rfl, true, rfl, iteT q⟩
    · exact ⟨_, k1, rfl, false, rfl, iteF ⟨_, k1, _, k2, p, r, vs, rfl, rfl, k3, k4, k5, q⟩⟩
end
end Vs
set_option maxHeartbeats 1000000
/-! enumerate of a tuple. -/
namespace Vs
open PySem PySem.Spec PyProof.Rows L2
open AutoSeq1 (wpAny_loadPart')
/-- the new iterator and the enumeration over it -/
abbrev enIt (t : Addr) : Obj := { cls := .type "tuple_iterator", data := .fields #[.ref t, .int 0 0] }
abbrev enOb (i : Addr) : Obj := { cls := .type "enumerate", data := .fields #[.none, .bool false, .ref i, rawInt 0, .none, .none] }
theorem en_new (t : Addr) (items : Array Value) :
    Meets (Builtin.«enumerate.__new__» ⟨[.type "enumerate", .ref t], []⟩) (fun _ R s => s.heap.IsTuple t items ∧ R (.ok (.ret (.ref (s.heap.push (enIt t)).objs.size))) { s with heap := (s.heap.push (enIt t)).push (enOb s.heap.objs.size) }) :=
  .of_wp fun prog w A R s h => by
    obtain ⟨hp, g, d, tk, os⟩ := s
    obtain ⟨ht, h⟩ := h
    have sb := sub_enumerate
    wp_walk using wpAny_pyIter_tuple ht
    refine wpAny_stack_any fun st => wpAny_pure ?_
    split
    · rename_i c _ _ _ _ _
      cases (c == Value.type "enumerate") <;> (wp_walk using wpAny_pyIter_tuple ht; exact ⟨_, rfl, h⟩)
    · wp_walk using wpAny_pyIter_tuple ht
      exact ⟨_, rfl, h⟩
section
variable {prog : Program} {w : World} {A : Around} {E : Value → Shared → Prop} {s : Shared}
theorem en_call {t : Addr} {items : Array Value} {Q : Value → Shared → Prop} (ht : s.heap.IsTuple t items)
    (h : ∀ g, IsEnum g (s.heap.objs.size + 1) s.heap.objs.size 0 .none → g.IsTupleIter s.heap.objs.size t 0 → (∀ b o, s.heap.get? b = some o → g.get? b = some o) → Q (.ref (s.heap.objs.size + 1)) { s with heap := g }) :
    wpAny (model prog w) A (call (.type "enumerate") [.ref t]) Q E s := by
  refine callType_new F.called_enumerate (by decide) (F.typeCall_enumerate_1 _) (F.newCall_enumerate_1 _) (fun obj => F.args_object_init_2 obj _) F.entry_enumerate_new (en_new t items) ⟨ht, ?_⟩
  have hz : (s.heap.push (enIt t)).objs.size = s.heap.objs.size + 1 := Heap.size_push ..
  show _ ∧ _
  rw [hz]
  have he : IsEnum ((s.heap.push (enIt t)).push (enOb s.heap.objs.size)) (s.heap.objs.size + 1) s.heap.objs.size 0 .none := by
    have q := Heap.get?_push_size (s.heap.push (enIt t)) (o := enOb s.heap.objs.size) rfl
    rwa [hz] at q
  exact ⟨⟨_, he, rfl⟩, h _ he ⟨_, Heap.get?_push_of_some _ (Heap.get?_push_size _ rfl), rfl, rfl⟩ fun b o x => Heap.get?_push_of_some _ (Heap.get?_push_of_some _ x)⟩
end
/-- the tuple at a, each of its parts in a new pair -/
def Ien (K : PySem.W.Frag) (a : Addr) : It :=
  ⟨fun i H => ∃ (ys : List V) (y : V), SqT K H a ys ∧ ys[i]? = some y, fun i H v H' => ∃ t y, v = .ref t ∧ H t = none ∧ H' = upd H t (.tup [.int (i : Nat), y]) ∧ ∀ ys, SqT K H a ys → ys[i]? = some y, fun i H => ∃ ys : List V, SqT K H a ys ∧ ys.length ≤ i⟩
theorem en_apart {h : Heap} {a e it : Addr} {i : Nat} {c : Int} {old : Value} {items : Array Value} (he : IsEnum h e it c old) (hi : h.IsTupleIter it a i) (ht : h.IsTuple a items) : a ≠ it ∧ a ≠ e := by
  obtain ⟨o, ho, hc, _⟩ := hi
  obtain ⟨p, hp, hq, _⟩ := ht
  refine ⟨fun z => ?_, fun z => ?_⟩
  · subst z
    rw [hp] at ho
    cases ho
    rw [hq] at hc
    exact absurd hc (by decide)
  · subst z
    unfold IsEnum at he
    rw [hp] at he
    cases he
    exact absurd hq (show ¬ Value.type "enumerate" = .type "tuple" by decide)
/-- nothing is left to draw -/
theorem en_last {prog : Program} {w : World} {A : Around} (hh : A.handled = none) (it a : Addr) (i : Nat) (items : Array Value) (hx : items[i]? = none) (d : a ≠ it) :
    Draws prog w A it [it, a] i (fun _ _ => True) (fun j h => j = i ∧ h.IsTupleIter it a i ∧ h.IsTuple a items) where
  live := fun _ _ ⟨_, ⟨o, ho, _⟩, _⟩ => ⟨o, ho⟩
  frame := fun _ _ _ ⟨e, h1, h2⟩ k => ⟨e, h1.at fun o q => k it (by simp) o q, h2.at fun o q => k a (by simp) o q⟩
  item := fun j s Q E hj ⟨e, _⟩ _ => absurd e (by omega)
  done := fun s Q E ⟨_, h1, h2⟩ hE => wpAny_nextOf_tuple_end hh h1 h2 hx hE
theorem en_turn {P : Program} {w : World} {K : PySem.W.Frag} {elts : List Expr} {kk : Nat} {tpos : Pos} (a e it : Addr) :
    Turn P w K (.Tuple elts kk tpos) (Ien K a) [e, it] e (fun i h => (∃ old, IsEnum h e it ((i : Nat) : Int) old) ∧ h.IsTupleIter it a i ∧ e ≠ it) where
  mem := by simp
  obj := fun i h ⟨⟨old, he⟩, ⟨o, ho, hc, hd⟩, _⟩ b hb => by
    rcases List.mem_cons.mp hb with rfl | hb
    · exact ⟨_, he, fun v q => nomatch q⟩
    · rw [List.mem_singleton.mp hb]
      exact ⟨o, ho, fun v q => by rw [hd] at q; cases q⟩
  keep := fun i h h' ⟨⟨old, he⟩, hi, hne⟩ k => ⟨⟨old, k e (by simp) _ he⟩, hi.at fun o q => k it (by simp) o q, hne⟩
  item := by
    intro X hP hw hK hc i pins s σ H E I hf st hg
    subst hP hw hK
    obtain ⟨⟨old, he⟩, hit, hne⟩ := st
    obtain ⟨ys, y, hq, hy⟩ := hg
    obtain ⟨its, rv, p, hz⟩ := I.tuple hq
    obtain ⟨u, hu, ru⟩ := rv.get hy
    have hT : s.heap.IsTuple a its.toArray := p
    obtain ⟨d1, d2⟩ := en_apart he hit hT
    have hlt : i < its.toArray.size := by
      have := (List.getElem?_eq_some_iff.mp hu).1
      simpa using this
    have hel : e < s.heap.objs.size := Heap.lt_size he
    have hil : it < s.heap.objs.size := by obtain ⟨_, q, _⟩ := hit; exact Heap.lt_size q
    have hh : X.A.in1.handled = none := I.ok.hd hc
    refine wpAny_pyNext_enum_itemD (Draws.tuple hh it a d1 its.toArray) he ⟨hit, hT⟩ hlt hne (by simp [hne, Ne.symm d2]) fun x h' tk hx ho hit' hn hsz hk => ?_
    have ex : x = u := by
      have q : its.toArray[i]? = some u := by simpa using hu
      rw [q] at hx
      exact (Option.some.inj hx).symm
    subst ex
    refine ⟨_, rfl, wpAny_letOwnedTupleGo_enum (s := { s with heap := h', toks := tk + 1 }) ho fun h'' he' sb => ?_⟩
    have hT2 : h''.get? s.heap.objs.size = some { cls := .type "tuple", data := .seq #[.int i tk, x] } := (sb.2 _ (Nat.ne_of_gt hel)).trans hn
    have new : ObjOk X.prog X.w (upd H s.heap.objs.size (.tup [.int (i : Nat), y])) h'' s.heap.objs.size (.tup [.int (i : Nat), y]) :=
      ⟨by show 2 ≤ sizeLine; decide, [.int i tk, x], .cons ⟨_, rfl⟩ (.cons ru .nil), ⟨_, hT2, rfl, _, rfl⟩⟩
    have I1 : Inv X pins σ (upd H s.heap.objs.size (.tup [.int (i : Nat), y])) { s with heap := h'', toks := tk + 1 } :=
      I.turnedNew (ch := [e, it]) (fun b ob hb q => (sb.2 b (fun z => hb (by simp [z]))).trans (hk b ob (fun z => hb (by simp [z])) (fun z => hb (by simp [z])) q)) hf (Nat.le_refl _) new
    refine ⟨.ref s.heap.objs.size, _, I1, rfl, ⟨_, y, rfl, I.hok.fresh (Nat.le_refl _), rfl, fun zs hzs => by rw [I.tuple_inj hzs hq]; exact hy⟩, ⟨⟨x, ?_⟩, hit'.1.at fun o q => (sb.2 it (Ne.symm hne)).trans q, hne⟩, fun b hb => ?_⟩
    · rw [show ((i + 1 : Nat) : Int) = (i : Int) + 1 by omega]
      exact he'
    · have hb' : b < s.heap.objs.size := by
        rcases List.mem_cons.mp hb with rfl | hb
        · exact hel
        · rw [List.mem_singleton.mp hb]; exact hil
      rw [upd_ne (Nat.ne_of_lt hb')]
      exact (hf b hb).1
  done := by
    intro X hP hw hK hc i pins s σ H E I hf st hg
    subst hP hw hK
    obtain ⟨⟨old, he⟩, hit, hne⟩ := st
    obtain ⟨ys, hq, hy⟩ := hg
    obtain ⟨its, rv, p, hz⟩ := I.tuple hq
    have hT : s.heap.IsTuple a its.toArray := p
    have hl := rv.length
    obtain ⟨d1, d2⟩ := en_apart he hit hT
    obtain ⟨f0, f1, f2, f3, f4, f5⟩ := hf it (by simp)
    have hh : X.A.in1.handled = none := I.ok.hd hc
    have hx : its.toArray[i]? = none := by simp; omega
    refine wpAny_pyNext_enum_endD (en_last hh it a i its.toArray hx d1) he ⟨rfl, hit, hT⟩ fun h' eb => ⟨rfl, I.turned (t' := s.toks) (fun b o hb q => eb b o hb q) f0 f1 f3 f4 f5⟩
  self := fun A i s Q E st h => let ⟨⟨_, he⟩, _⟩ := st; wpAny_pyIter_enum he h
section
variable {X : Cx} {α : Amb} {W : WX}
def iEnT (K : PySem.W.Frag) (ta : TA) : TI := fun σ H R => ta σ H fun vs H1 => ∃ a xs, vs = [.ref a] ∧ SqT K H1 a xs ∧ R (Ien K a) H1
theorem pi_enT {e : Expr} {ta : TA} {p pos tpos : Pos} {elts : List Expr} {kk : Nat} (hg : Gl X "enumerate") (hm : X.mg "enumerate" = none) (ha : PA X [e] ta) (hs : starEach [e] X.env = [(false, eval e X.env)] := by rfl) :
    PI X (.Tuple elts kk tpos) (.Call (.Name "enumerate" p) [e] [] pos) (iEnT X.K ta) := by
  refine ⟨fun pins s σ H R I h => Call_ (ld_blt I hg hm boot_enumerate (PyProof.Rows.callWith_type1 (thn (ha.run pos pins s σ H _ I h) fun us s1 ⟨vs, H1, I1, r1, q1⟩ => ?_) hs rfl))⟩
  obtain ⟨a, xs, rfl, hq, q⟩ := q1
  cases r1 with
  | cons r rr =>
    cases rr
    cases r
    obtain ⟨its, rv, p', hz⟩ := I1.tuple hq
    have hT : s1.heap.IsTuple a its.toArray := p'
    refine en_call hT fun g he hit hk => wpAny_pyIter_enum he ?_
    have I2 : Inv X pins σ H1 { s1 with heap := g } := I1.kept (t' := s1.toks) hk
    refine ⟨_, [s1.heap.objs.size + 1, s1.heap.objs.size], _, _, H1, rfl, I2, en_turn a (s1.heap.objs.size + 1) s1.heap.objs.size, ⟨⟨.none, he⟩, hit, Nat.succ_ne_self _⟩, fun b hb => ?_, q⟩
    have hle : s1.heap.objs.size ≤ b := by
      rcases List.mem_cons.mp hb with rfl | hb
      · omega
      · rw [List.mem_singleton.mp hb]; exact Nat.le_refl _
    exact I1.fpOk hle (I1.hok.fresh hle)
theorem jok_enT {K : PySem.W.Frag} {G1 : Hp} {a : Addr} {vs : List V} {xs : List P} (h : SqT K G1 a vs) (r : Reps α G1 vs xs) : JOk α (Ien K a) (enumP 0 xs) G1 := fun i H G ρ μ s z => by
  have hH : SqT K H a vs := seqT z.sub (seqT s h)
  have r := r.mono s
  refine ⟨fun w hw => ?_, fun hi => ⟨vs, hH, by rw [r.length]; rw [enumP_len] at hi; exact hi⟩⟩
  obtain ⟨x, e1, rfl⟩ := enumP_get _ _ _ _ hw
  obtain ⟨v, h3, h4⟩ := r.get e1
  refine ⟨⟨vs, v, hH, h3⟩, fun q H' yl => ?_⟩
  obtain ⟨t, y, rfl, hT, rfl, f⟩ := yl
  have g := f vs hH
  rw [h3] at g
  cases g
  have e0 : ((0 + i : Nat) : Int) = (i : Int) := by omega
  rw [e0]
  exact ⟨_, up_new (z.free hT), z.new hT _, .tup (SqT.of upd_same) (.cons (.int _) (.cons (h4.mono (same_upd (z.free hT))) .nil))⟩
def enTEnd (μ : Mu) : List D → Option (Out (List P) × Mu)
  | [d] => match toP μ d with
    | some (x, μ1) => match asTup x with
      | some xs => some (.ok (enumP 0 xs), μ1)
      | none => none
    | none => none
  | _ => none
def evEnumT (a : EvA) : EvG (List P) := fun δ μ => bindG (a δ μ) fun ds μ1 => enTEnd μ1 ds
theorem vi_enumT {e : Expr} {a : EvA} {p pos tpos : Pos} {elts : List Expr} {kk : Nat} (hK : X.K = α.K) (hm : X.mg "enumerate" = none) (ha : PA X [e] (tVs α W a)) (hg : Gl X "enumerate" := by rfl)
    (hs : starEach [e] X.env = [(false, eval e X.env)] := by rfl) : VI α W X (.Tuple elts kk tpos) (.Call (.Name "enumerate" p) [e] [] pos) (evEnumT a) := by
  refine ⟨_, pi_enT hg hm ha hs, fun σ H G ρ δ μ R z s pq => ⟨G, ρ, δ, μ, z, s, Post.bind pq fun ds μ1 vs H1 G1 ρ1 u z1 r1 p1 => ?_⟩⟩
  unfold enTEnd at p1
  split at p1
  · rename_i d
    obtain ⟨v, rfl, ra⟩ := rds1 r1
    split at p1
    · rename_i x μ2 q1
      obtain ⟨G2, u2, z2, r2⟩ := toP_ok z1 ra q1
      split at p1
      · rename_i xs h1
        obtain ⟨b1, vs1, rfl, s1, t1⟩ := sq_asTup r2 h1
        refine ⟨b1, vs1, rfl, ?_, ?_⟩
        · rw [hK]; exact seqT z2.sub s1
        · rw [hK]; exact p1 (Ien α.K b1) H1 G2 ρ1 u2 z2 (jok_enT s1 t1)
      · exact p1.elim
    · exact p1.elim
  · exact p1.elim
end
end Vs
namespace Vs
open PySem PySem.Spec PyProof.Rows L2
/-! ### _law_sheet -/
noncomputable abbrev lb__law_sheet_0 : SEv := (seqS (sSet 3 (evCall m__law_size [] (evCons (evCall m__law_number [] (evCons (evV 0) evNil)) evNil))) (seqS (sSet 4 (evCall m__law_sum [] (evCons (evV 3) (evCons (evCall m__law_size [] (evCons (evCall m__law_number [] (evCons (evV 0) evNil)) evNil)) evNil)))) (seqS (sIf (evB (evBin fEq (evCall m__law_draw [] (evCons (evV 0) (evCons (evC (.int 5)) evNil))) (evC (.int 0)))) (sSet 4 (evV 3)) sNil) (sExpr (evBM isLst fApp (evV 1) (evCons (evTup (evCons (evBin fSub (evCall m__law_draw [] (evCons (evV 0) (evCons (evBin fAdd (evV 2) (evC (.int 1))) evNil))) (evC (.int 1))) (evCons (evV 3) (evCons (evV 4) evNil)))) evNil))))))
/-! ### _law_sheet -/
noncomputable def sv__law_sheet : SEv := (seqS (sSet 1 (evLstC evNil)) (seqS (sFor (evRng1 (evBin fAdd (evC (.int 1)) (evCall m__law_draw [] (evCons (evV 0) (evCons (evBin fIx (evLst (evCons (evC (.int 4)) (evCons (evC (.int 8)) evNil))) (evCall m__law_draw [] (evCons (evV 0) (evCons (evC (.int 2)) evNil)))) evNil))))) (tgN 2) (seqS (sSet 3 (evCall m__law_size [] (evCons (evCall m__law_number [] (evCons (evV 0) evNil)) evNil))) (seqS (sSet 4 (evCall m__law_sum [] (evCons (evV 3) (evCons (evCall m__law_size [] (evCons (evCall m__law_number [] (evCons (evV 0) evNil)) evNil)) evNil)))) (seqS (sIf (evB (evBin fEq (evCall m__law_draw [] (evCons (evV 0) (evCons (evC (.int 5)) evNil))) (evC (.int 0)))) (sSet 4 (evV 3)) sNil) (sExpr (evBM isLst fApp (evV 1) (evCons (evTup (evCons (evBin fSub (evCall m__law_draw [] (evCons (evV 0) (evCons (evBin fAdd (evV 2) (evC (.int 1))) evNil))) (evC (.int 1))) (evCons (evV 3) (evCons (evV 4) evNil)))) evNil))))))) (sRet (evV 1))))
noncomputable def m__law_sheet : FSem := arF 1 (bodySem 5 sv__law_sheet)
theorem ar__law_sheet : Arity m__law_sheet 1 := arF_ar
theorem le__law_sheet : ∀ ds μ r, m__law_sheet ds μ = some r → bodySem 5 sv__law_sheet ds μ = some r := arF_le
/-! ### _law_cues -/
/-! ### _law_cues -/
noncomputable def sv__law_cues : SEv := (sRet (evBI fTupOf (evCons (evLc (evIt (evV 0)) (tgN 1) evTrue (evTup (evCons (evBin fIx (evV 1) (evC (.int 0))) (evCons (evCall m__law_ratio [] (evCons (evBin fIx (evV 1) (evC (.int 1))) evNil)) (evCons (evCall m__law_ratio [] (evCons (evBin fIx (evV 1) (evC (.int 2))) evNil)) evNil)))) [1]) evNil)))
noncomputable def m__law_cues : FSem := arF 1 (bodySem 2 sv__law_cues)
theorem ar__law_cues : Arity m__law_cues 1 := arF_ar
theorem le__law_cues : ∀ ds μ r, m__law_cues ds μ = some r → bodySem 2 sv__law_cues ds μ = some r := arF_le
/-! ### is_timing -/
noncomputable abbrev lb_is_timing_0 : SEv := (seqS (sSet 6 (evIf (evB (evBin fEq (evV 2) (evUn fNeg (evC (.int 1))))) (evV 5) (evBin (fOwn 0 m_Ratiou_subu) (evV 5) (evBin fIx (evV 1) (evV 2))))) (sIf (tOrV' (evB (evCall m_is_less [] (evCons (evV 6) (evCons (evV 3) evNil)))) (evB (evCall m_is_less [] (evCons (evV 4) (evCons (evV 6) evNil))))) (sRet (evC (.bl false))) sNil))
/-! ### is_timing -/
noncomputable def sv_is_timing : SEv := (seqS (sIf (evB (evBin fNe (evBI fLen (evCons (evV 1) evNil)) (evBI fLen (evCons (evV 0) evNil)))) (sRet (evC (.bl false))) sNil) (seqS (sFor (evZipTL (evCons (evV 0) (evCons (evV 1) evNil))) (tgM [(tgT [2, 3, 4]), (tgN 5)]) (seqS (sSet 6 (evIf (evB (evBin fEq (evV 2) (evUn fNeg (evC (.int 1))))) (evV 5) (evBin (fOwn 0 m_Ratiou_subu) (evV 5) (evBin fIx (evV 1) (evV 2))))) (sIf (tOrV' (evB (evCall m_is_less [] (evCons (evV 6) (evCons (evV 3) evNil)))) (evB (evCall m_is_less [] (evCons (evV 4) (evCons (evV 6) evNil))))) (sRet (evC (.bl false))) sNil))) (sRet (evC (.bl true)))))
noncomputable def m_is_timing : FSem := arF 2 (bodySem 7 sv_is_timing)
theorem ar_is_timing : Arity m_is_timing 2 := arF_ar
theorem le_is_timing : ∀ ds μ r, m_is_timing ds μ = some r → bodySem 7 sv_is_timing ds μ = some r := arF_le
end Vs
/-! Sheets and timings. -/
namespace Vs
open PySem PySem.Spec PyProof.Rows L2
structure TxZ (K : PySem.W.Frag) (mg : Str → Option Value) (cs : List Addr) : Prop extends Tx K mg cs where
  b_zip : mg "zip" = none
theorem eq_self (i j : Int) : m_Ratiou_equ [.p (.obj 0 [.int i, .int j]), .p (.obj 0 [.int i, .int j])] [] = some (.ok (.p (.bl true)), []) := by
  have h : isiVEnd (isiO 0) [] (some (.obj 0 [.int i, .int j])) = some (.ok (.p (.bl true)), []) := isiVEnd_some rfl
  simp [m_Ratiou_equ, arF, bodySem_eq, sv_Ratiou_equ, h]
section
variable {μ : Mu} {δ : Sl}
structure Cue where
  (p : Int) (lo hi : Rat)
def Cue.q (c : Cue) : P := .tup [.int c.p, pr c.lo, pr c.hi]
def Cue.r (c : Cue) : P := .tup [.int c.p, rat c.lo, rat c.hi]
structure CueOk (i : Nat) (c : Cue) : Prop where
  p1 : -1 ≤ c.p
  p2 : c.p < i
  lo : Bz 20 c.lo
  hi : Bz 40 c.hi
  lo0 : 0 ≤ c.lo
  le : c.lo ≤ c.hi
def shP (cs : List Cue) : P := .lst (cs.map Cue.q)
def shR (cs : List Cue) : P := .tup (cs.map Cue.r)
def intsP (a n : Nat) : List P := (List.range' a n).map fun (i : Nat) => P.int (i : Int)
theorem range_ints (n : Nat) : rangeP 0 n = intsP 0 n := by
  unfold rangeP intsP
  rw [List.range_eq_range']
  simp
theorem intsP_succ (a n : Nat) : intsP a (n + 1) = .int (a : Int) :: intsP (a + 1) n := by
  unfold intsP
  rw [List.range'_succ, List.map_cons]
theorem rng_n (n : Nat) {e : Ev} {ν : Mu} (he : e δ μ = some (.ok (.p (.int (n : Int))), ν)) (h : n < 1000) : evRng1 e δ μ = some (.ok (intsP 0 n), ν) := by
  have hr := rng_small (v := (n : Int)) (by omega) (by omega)
  rw [evRng1_eq, he, bindG_ok]
  dsimp only
  rw [if_pos hr, Int.toNat_natCast, range_ints]
theorem sheet_loop : ∀ (n a : Nat) (s : SS), s.Ok → a + n ≤ 100 → ∃ (new : List Cue) (s' : SS), s'.Ok ∧ new.length = n ∧ (∀ i c, new[i]? = some c → CueOk (a + i) c) ∧
    ∀ {μ : Mu} {l : Nat}, l < μ.length → ∀ (acc : List P) (c2 c3 c4 : Option D), acc.length + n ≤ 900 → ∃ c2' c3' c4',
      forL (tgN 2) lb__law_sheet_0 (intsP a n) [some (.loc l), some (.loc μ.length), c2, c3, c4] (List.set (μ ++ [some (MO.lst acc)]) l (st s))
        = some (.nx, [some (.loc l), some (.loc μ.length), c2', c3', c4'], List.set (μ ++ [some (MO.lst (acc ++ new.map Cue.q))]) l (st s'))
  | 0, a, s, hs, ha => ⟨[], s, hs, rfl, (by intro i c h; simp at h), fun hl acc c2 c3 c4 h => ⟨c2, c3, c4, by simp [intsP, forL]⟩⟩
  | n + 1, a, s, hs, ha => by
    obtain ⟨q1, s1, o1, d1, e1⟩ := number_ex hs
    obtain ⟨q2, s2, o2, d2, e2⟩ := number_ex o1
    obtain ⟨v, s3, o3, l3, u3, e3⟩ := draw_ex 5 o2
    obtain ⟨w, s4, o4, l4, u4, e4⟩ := draw_ex ((a : Int) + 1) o3 (by omega) (Nat.lt_of_lt_of_le (PySem.Flt.log2_lt_of (k := 10) (by decide) (by omega)) (by decide))
    obtain ⟨new, s', o', n', k', ih⟩ := sheet_loop n (a + 1) s4 o4 (by omega)
    have b1 := d1.bz.ab
    have b2 := d2.bz.ab
    have hq1 := ab_nonneg (a := q1)
    have hq2 := ab_nonneg (a := q2)
    obtain ⟨hi, hhi, hle, hev⟩ : ∃ hi : Rat, Bz 40 hi ∧ ab q1 ≤ hi ∧ ((v = 0 ∧ hi = ab q1) ∨ (v ≠ 0 ∧ hi = ab q1 + ab q2)) := by
      by_cases h : v = 0
      · exact ⟨ab q1, b1.mono (by decide), by grind, .inl ⟨h, rfl⟩⟩
      · exact ⟨ab q1 + ab q2, b1.add b2, by grind, .inr ⟨h, rfl⟩⟩
    refine ⟨⟨w - 1, ab q1, hi⟩ :: new, s', o', by simp [n'], fun i c h => ?_, fun {μ l} hl acc c2 c3 c4 hacc => ?_⟩
    · cases i with
      | zero =>
        simp at h
        subst h
        exact ⟨by show -1 ≤ w - 1; omega, by show w - 1 < ((a + 0 : Nat) : Int); omega, b1, hhi, hq1, hle⟩
      | succ i =>
        have := k' i c (by simpa using h)
        rwa [show a + 1 + i = a + (i + 1) by omega] at this
    · obtain ⟨c2', c3', c4', ih⟩ := ih hl (acc ++ [Cue.q ⟨w - 1, ab q1, hi⟩]) (some (.p (.int (a : Int)))) (some (.p (pr (ab q1)))) (some (.p (pr hi))) (by simp; omega)
      refine ⟨c2', c3', c4', ?_⟩
      have f1 := e1 (lt_end (o := some (MO.lst acc)) hl)
      have f2 := e2 (lt_end (o := some (MO.lst acc)) hl)
      have f3 := e3 (lt_end (o := some (MO.lst acc)) hl)
      have f4 := e4 (lt_end (o := some (MO.lst acc)) hl)
      have g1 := fun (ν : Mu) (a : Rat) => ev_lsize (μ := ν) (a := a)
      have g2 := fun ν : Mu => ev_lsum (μ := ν) b1 b2 (by decide)
      have e5 : ∀ y, fApp (.loc μ.length) [.p y] (List.set (μ ++ [some (MO.lst acc)]) l (st s4)) = some (.p .non, List.set (μ ++ [some (MO.lst (acc ++ [y]))]) l (st s4)) := fun y => ap2 hl (line_k (by omega))
      have e7 : isLst (List.set (μ ++ [some (MO.lst acc)]) l (st s3)) (.loc μ.length) = true := is2 hl
      have e6 : lb__law_sheet_0 [some (.loc l), some (.loc μ.length), some (.p (.int (a : Int))), c3, c4] (List.set (μ ++ [some (MO.lst acc)]) l (st s))
          = some (.nx, [some (.loc l), some (.loc μ.length), some (.p (.int (a : Int))), some (.p (pr (ab q1))), some (.p (pr hi))], List.set (μ ++ [some (MO.lst (acc ++ [Cue.q ⟨w - 1, ab q1, hi⟩]))]) l (st s4)) := by
        generalize (a : Int) = ai at *
        rcases hev with ⟨hv, rfl⟩ | ⟨hv, rfl⟩
        · subst hv
          simp [lb__law_sheet_0, evBM_eq, f1, f2, f3, f4, g1, g2, e5, e7, Cue.q]
        · simp [lb__law_sheet_0, evBM_eq, f1, f2, f3, f4, g1, g2, e5, e7, hv, Cue.q]
      rw [intsP_succ, forL_nx rfl e6, ih]
      simp only [List.map_cons, List.append_assoc, List.singleton_append]
structure Sheet (cs : List Cue) : Prop where
  ok : ∀ i c, cs[i]? = some c → CueOk i c
  len : cs.length ≤ 8
  pos : 0 < cs.length
theorem sheet_ex {s : SS} (hs : s.Ok) : ∃ cs s', SS.Ok s' ∧ Sheet cs ∧ ∀ {μ : Mu} {l : Nat}, l < μ.length → m__law_sheet [.loc l] (μ.set l (st s)) = some (.ok (.p (shP cs)), μ.set l (st s')) := by
  obtain ⟨w, s1, o1, l1, u1, e1⟩ := draw_ex 2 hs
  have hw : w = 0 ∨ w = 1 := by omega
  obtain ⟨k, hk, hk8, hk0⟩ : ∃ k : Int, atI [P.int 4, P.int 8] w = some (.int k) ∧ k ≤ 8 ∧ 0 < k := by
    rcases hw with rfl | rfl
    · exact ⟨4, at_0, by decide, by decide⟩
    · exact ⟨8, at_1, by decide, by decide⟩
  obtain ⟨v, s2, o2, l2, u2, e2⟩ := draw_ex k o1 hk0 (Nat.lt_of_lt_of_le (PySem.Flt.log2_lt_of (k := 10) (by decide) (by omega)) (by decide))
  obtain ⟨m, hm⟩ : ∃ m : Nat, 1 + v = (m : Int) := ⟨(1 + v).toNat, by omega⟩
  obtain ⟨cs, s3, o3, n3, k3, e3⟩ := sheet_loop m 0 s2 o2 (by omega)
  refine ⟨cs, s3, o3, ⟨fun i c h => by have := k3 i c h; rwa [Nat.zero_add] at this, by omega, by omega⟩, fun {μ l} hl => ?_⟩
  have f1 := e1 (lt_end (o := some (MO.lst [])) hl)
  have f2 := e2 (lt_end (o := some (MO.lst [])) hl)
  obtain ⟨c2, c3, c4, f3⟩ := e3 hl [] none none none (by simp; omega)
  rw [List.nil_append] at f3
  have hr : evRng1 (evBin fAdd (evC (.int 1)) (evCall m__law_draw [] (evCons (evV 0) (evCons (evBin fIx (evLst (evCons (evC (.int 4)) (evCons (evC (.int 8)) evNil))) (evCall m__law_draw [] (evCons (evV 0) (evCons (evC (.int 2)) evNil)))) evNil))))
      [some (.loc l), some (.loc μ.length), none, none, none] (List.set (μ ++ [some (MO.lst [])]) l (st s)) = some (.ok (intsP 0 m), List.set (μ ++ [some (MO.lst [])]) l (st s2)) := by
    refine rng_n m ?_ (by omega)
    rw [← hm]
    simp [f1, hk, f2]
  have e8 : ∀ xs, cellL (List.set (μ ++ [some (MO.lst xs)]) l (st s3)) μ.length = some xs := fun xs => cell_end2 hl
  have e9 : ∀ xs, List.take μ.length (List.set (μ ++ [some (MO.lst xs)]) l (st s3)) = μ.set l (st s3) := fun xs => take_end2 hl
  simp [-evRng1_eq, m__law_sheet, arF, bodySem_eq, sv__law_sheet, set_app hl, hr, f3, retF, retL, e8, e9, shP]
theorem ev_lcues {cs : List Cue} (h : Sheet cs) : m__law_cues [.p (shP cs)] μ = some (.ok (.p (shR cs)), μ) := by
  have e := lc_map (δ := [some (.p (shP cs)), none]) (ts := tgN 1) (vs := [1]) (μ := μ) (ν := μ) (as := cs) (it := evIt (evV 0))
    (e := (evTup (evCons (evBin fIx (evV 1) (evC (.int 0))) (evCons (evCall m__law_ratio [] (evCons (evBin fIx (evV 1) (evC (.int 1))) evNil)) (evCons (evCall m__law_ratio [] (evCons (evBin fIx (evV 1) (evC (.int 2))) evNil)) evNil)))))
    Cue.q Cue.r rfl (fun c hc => by
      obtain ⟨i, hi⟩ := List.getElem?_of_mem hc
      have k := h.ok i c hi
      refine ⟨_, rfl, fun ν => ?_⟩
      have e1 := fun ν : Mu => ev_lratio (μ := ν) k.lo (by decide)
      have e2 := fun ν : Mu => ev_lratio (μ := ν) k.hi (by decide)
      simp [Cue.q, Cue.r, e1, e2]) (Nat.le_trans h.len (by decide))
  have e2 : ∀ xs, fTupOf [.p (.lst xs)] μ = some (.p (.tup xs), μ) := fun xs => rfl
  simp [-evLc_eq, m__law_cues, arF, bodySem_eq, sv__law_cues, e, e2, shR]
/-! ### is_timing -/
def bf (all : List Rat) (p : Int) : Rat := all.getD p.toNat 0
theorem bf_at {all : List Rat} {p : Int} (h0 : 0 ≤ p) (h : p < all.length) : atI (all.map rat) p = some (rat (bf all p)) ∧ atI (all.map pr) p = some (pr (bf all p)) ∧ bf all p ∈ all := by
  have hlt : p.toNat < all.length := by omega
  have e : all[p.toNat]? = some (bf all p) := by
    unfold bf
    rw [List.getD_eq_getElem?_getD, List.getElem?_eq_getElem hlt]
    rfl
  have hp : p = ((p.toNat : Nat) : Int) := by omega
  refine ⟨?_, ?_, List.mem_of_getElem? e⟩
  · rw [hp]
    refine atI_nat ?_
    rw [List.getElem?_map, e, ← hp]
    rfl
  · rw [hp]
    refine atI_nat ?_
    rw [List.getElem?_map, e, ← hp]
    rfl
def wt (all : List Rat) (p : Int) (t : Rat) : Rat := if p = -1 then t else t - bf all p
def okc (all : List Rat) (c : Cue) (t : Rat) : Bool := !(decide (wt all c.p t < c.lo)) && !(decide (c.hi < wt all c.p t))
def allR : Bool → Sl → Sl → Mu → Option (Fl × Sl × Mu)
  | true, _, δ, μ => some (.nx, δ, μ)
  | false, δ, _, μ => some (.ret (.p (.bl false)), δ, μ)
def pairP (x : Cue × Rat) : P := .tup [x.1.r, rat x.2]
theorem zip_pairs : ∀ (cs : List Cue) (ts : List Rat), zipP (cs.map Cue.r) (ts.map rat) = (cs.zip ts).map pairP
  | [], _ => rfl
  | _ :: _, [] => rfl
  | c :: cs, t :: ts => by
    show P.tup [c.r, rat t] :: zipP (cs.map Cue.r) (ts.map rat) = _
    rw [zip_pairs cs ts]
    rfl
theorem timing_loop {all : List Rat} (hall : ∀ t ∈ all, Bz 700 t) {c0 : Option D} : ∀ (xs : List (Cue × Rat)), (∀ x ∈ xs, Bz 20 x.1.lo ∧ Bz 40 x.1.hi ∧ -1 ≤ x.1.p ∧ x.1.p < all.length ∧ Bz 700 x.2) → ∀ (c2 c3 c4 c5 c6 : Option D), ∃ δ' c2' c3' c4' c5' c6',
    forL (tgM [tgT [2, 3, 4], tgN 5]) lb_is_timing_0 (xs.map pairP) [c0, some (.p (.lst (all.map rat))), c2, c3, c4, c5, c6] μ = allR (xs.all fun x => okc all x.1 x.2) δ' [c0, some (.p (.lst (all.map rat))), c2', c3', c4', c5', c6'] μ
  | [], h, c2, c3, c4, c5, c6 => ⟨[], c2, c3, c4, c5, c6, rfl⟩
  | (c, t) :: xs, h, c2, c3, c4, c5, c6 => by
    obtain ⟨b1, b2, p1, p2, b3⟩ := h (c, t) List.mem_cons_self
    dsimp only at b1 b2 p1 p2 b3
    have hw : Bz 1400 (wt all c.p t) := by
      unfold wt
      split
      · exact b3.mono (by decide)
      · rename_i hp
        exact b3.sub (hall _ (bf_at (by omega) p2).2.2)
    have ew : ∀ ν : Mu, evIf (evB (evBin fEq (evV 2) (evUn fNeg (evC (.int 1))))) (evV 5) (evBin (fOwn 0 m_Ratiou_subu) (evV 5) (evBin fIx (evV 1) (evV 2))) [c0, some (.p (.lst (all.map rat))), some (.p (.int c.p)), some (.p (rat c.lo)), some (.p (rat c.hi)), some (.p (rat t)), c6] ν = some (.ok (.p (rat (wt all c.p t))), ν) := fun ν => by
      by_cases hp : c.p = -1
      · simp [hp, wt]
      · obtain ⟨hx, _, hm⟩ := bf_at (all := all) (p := c.p) (by omega) p2
        have e1 := o_sub' (μ := ν) b3 (hall _ hm) (by decide)
        simp [hp, hx, e1, wt]
    have e1 := fun ν : Mu => ev_is_less (μ := ν) hw b1 (by decide)
    have e2 := fun ν : Mu => ev_is_less (μ := ν) b2 hw (by decide)
    obtain ⟨δ', c2', c3', c4', c5', c6', ih⟩ := timing_loop hall (c0 := c0) xs (fun x hx => h x (List.mem_cons_of_mem _ hx)) (some (.p (.int c.p))) (some (.p (rat c.lo))) (some (.p (rat c.hi))) (some (.p (rat t))) (some (.p (rat (wt all c.p t))))
    have ht : tgM [tgT [2, 3, 4], tgN 5] (pairP (c, t)) [c0, some (.p (.lst (all.map rat))), c2, c3, c4, c5, c6] = some [c0, some (.p (.lst (all.map rat))), some (.p (.int c.p)), some (.p (rat c.lo)), some (.p (rat c.hi)), some (.p (rat t)), c6] := rfl
    by_cases q1 : wt all c.p t < c.lo
    · refine ⟨[c0, some (.p (.lst (all.map rat))), some (.p (.int c.p)), some (.p (rat c.lo)), some (.p (rat c.hi)), some (.p (rat t)), some (.p (rat (wt all c.p t)))], c2, c3, c4, c5, c6, ?_⟩
      have e6 : lb_is_timing_0 [c0, some (.p (.lst (all.map rat))), some (.p (.int c.p)), some (.p (rat c.lo)), some (.p (rat c.hi)), some (.p (rat t)), c6] μ
          = some (.ret (.p (.bl false)), [c0, some (.p (.lst (all.map rat))), some (.p (.int c.p)), some (.p (rat c.lo)), some (.p (rat c.hi)), some (.p (rat t)), some (.p (rat (wt all c.p t)))], μ) := by
        unfold lb_is_timing_0
        rw [seqS_eq, sSet_eq, ew]
        simp [e1, q1]
      rw [List.map_cons, forL_ret ht e6]
      simp [okc, q1, allR]
    · by_cases q2 : c.hi < wt all c.p t
      · refine ⟨[c0, some (.p (.lst (all.map rat))), some (.p (.int c.p)), some (.p (rat c.lo)), some (.p (rat c.hi)), some (.p (rat t)), some (.p (rat (wt all c.p t)))], c2, c3, c4, c5, c6, ?_⟩
        have e6 : lb_is_timing_0 [c0, some (.p (.lst (all.map rat))), some (.p (.int c.p)), some (.p (rat c.lo)), some (.p (rat c.hi)), some (.p (rat t)), c6] μ
            = some (.ret (.p (.bl false)), [c0, some (.p (.lst (all.map rat))), some (.p (.int c.p)), some (.p (rat c.lo)), some (.p (rat c.hi)), some (.p (rat t)), some (.p (rat (wt all c.p t)))], μ) := by
          unfold lb_is_timing_0
          rw [seqS_eq, sSet_eq, ew]
          simp [e1, e2, q1, q2]
        rw [List.map_cons, forL_ret ht e6]
        simp [okc, q1, q2, allR]
      · refine ⟨δ', c2', c3', c4', c5', c6', ?_⟩
        have e6 : lb_is_timing_0 [c0, some (.p (.lst (all.map rat))), some (.p (.int c.p)), some (.p (rat c.lo)), some (.p (rat c.hi)), some (.p (rat t)), c6] μ
            = some (.nx, [c0, some (.p (.lst (all.map rat))), some (.p (.int c.p)), some (.p (rat c.lo)), some (.p (rat c.hi)), some (.p (rat t)), some (.p (rat (wt all c.p t)))], μ) := by
          unfold lb_is_timing_0
          rw [seqS_eq, sSet_eq, ew]
          simp [e1, e2, q1, q2]
        rw [List.map_cons, forL_nx ht e6, ih]
        simp [okc, q1, q2]
theorem ev_timing {cs : List Cue} {ts : List Rat} (h : Sheet cs) (ht : ∀ t ∈ ts, Bz 700 t) : m_is_timing [.p (shR cs), .p (.lst (ts.map rat))] μ = some (.ok (.p (.bl (decide (ts.length = cs.length) && (cs.zip ts).all fun x => okc ts x.1 x.2))), μ) := by
  have l1 : fLen [.p (.lst (ts.map rat))] μ = some (.p (.int (ts.length : Int)), μ) := by
    show some (D.p (.int ((ts.map rat).length : Int)), μ) = _
    rw [List.length_map]
  have l2 : fLen [.p (shR cs)] μ = some (.p (.int (cs.length : Int)), μ) := by
    show some (D.p (.int ((cs.map Cue.r).length : Int)), μ) = _
    rw [List.length_map]
  by_cases q : ts.length = cs.length
  · have hx : ∀ x ∈ cs.zip ts, Bz 20 x.1.lo ∧ Bz 40 x.1.hi ∧ -1 ≤ x.1.p ∧ x.1.p < ts.length ∧ Bz 700 x.2 := fun x hx => by
      obtain ⟨i, hi⟩ := List.getElem?_of_mem hx
      rw [List.getElem?_zip_eq_some] at hi
      have k := h.ok i x.1 hi.1
      have hl := (List.getElem?_eq_some_iff.mp hi.1).1
      exact ⟨k.lo, k.hi, k.p1, by have := k.p2; omega, ht _ (List.mem_of_getElem? hi.2)⟩
    obtain ⟨δ', c2, c3, c4, c5, c6, e⟩ := timing_loop (μ := μ) ht (c0 := some (.p (shR cs))) (cs.zip ts) hx none none none none none
    have ez : evZipTL (evCons (evV 0) (evCons (evV 1) evNil)) [some (.p (shR cs)), some (.p (.lst (ts.map rat))), none, none, none, none, none] μ = some (.ok ((cs.zip ts).map pairP), μ) := by
      rw [← zip_pairs]
      rfl
    have hq : (ts.length : Int) = (cs.length : Int) := by omega
    generalize (cs.zip ts).all (fun x => okc ts x.1 x.2) = b at *
    cases b with
    | true => simp [m_is_timing, arF, bodySem_eq, sv_is_timing, l1, l2, q, hq, ez, e, allR]
    | false => simp [m_is_timing, arF, bodySem_eq, sv_is_timing, l1, l2, q, hq, ez, e, allR]
  · have hq : ¬ (ts.length : Int) = (cs.length : Int) := by omega
    simp [m_is_timing, arF, bodySem_eq, sv_is_timing, l1, l2, q, hq]
end
end Vs
/-! Lists of places: walks over what may change, comprehensions that make places, items, append. -/
namespace Vs
open PySem PySem.Spec PyProof.Rows L2
/-- a new place at an address that no live place has -/
theorem Zn.adopt {α : Amb} {H G : Hp} {ρ : List Addr} {μ : Mu} (z : Zn α H G ρ μ) {p : Addr} (g : G p = none) (hn : ∀ (l : Nat) (m : MO), μ[l]? = some (some m) → ρ[l]? ≠ some p) {o : HO} {m : MO} (r : MRep α G ρ μ.length (some o) m) : Zn α (upd H p o) G (ρ ++ [p]) (μ ++ [some m]) := by
  have old : ∀ {l : Nat} {m' : MO}, (μ ++ [some m])[l]? = some (some m') → (l < μ.length ∧ μ[l]? = some (some m')) ∨ (l = μ.length ∧ m' = m) := fun {l m'} e => by
    by_cases hl : l < μ.length
    · rw [List.getElem?_append_left hl] at e; exact .inl ⟨hl, e⟩
    · rw [List.getElem?_append_right (by omega)] at e
      by_cases h0 : l - μ.length = 0
      · rw [h0] at e
        simp at e
        exact .inr ⟨by omega, e.symm⟩
      · rw [List.getElem?_eq_none (by simp; omega)] at e; cases e
  have at_old : ∀ {l : Nat}, l < μ.length → (ρ ++ [p])[l]? = ρ[l]? := fun {l} hl => List.getElem?_append_left (by rw [z.len]; exact hl)
  have at_new : (ρ ++ [p])[μ.length]? = some p := by rw [← z.len]; simp
  refine ⟨fun b x e => ?_, by simp [z.len], fun l m' e => ?_, fun l l' m1 m2 a e1 e2 h1 h2 => ?_⟩
  · rw [upd_ne (ne_of_none e g)]; exact z.sub _ _ e
  · rcases old e with ⟨hl, e⟩ | ⟨rfl, rfl⟩
    · obtain ⟨a, h1, h2, h3⟩ := z.cell l m' e
      have hap : a ≠ p := fun q => by subst q; exact hn _ _ e h1
      exact ⟨a, by rw [at_old hl]; exact h1, h2, by rw [upd_ne hap]; exact h3.up up_place⟩
    · exact ⟨p, at_new, g, by rw [upd_same]; exact r.up up_place⟩
  · rcases old e1 with ⟨k1, f1⟩ | ⟨q1, _⟩ <;> rcases old e2 with ⟨k2, f2⟩ | ⟨q2, _⟩
    · rw [at_old k1] at h1; rw [at_old k2] at h2
      exact z.inj _ _ _ _ _ f1 f2 h1 h2
    · subst q2
      rw [at_old k1] at h1; rw [at_new] at h2; cases h2
      exact absurd h1 (hn _ _ f1)
    · subst q1
      rw [at_old k2] at h2; rw [at_new] at h1; cases h1
      exact absurd h2 (hn _ _ f2)
    · rw [q1, q2]
/-- a place is told no more -/
theorem Zn.drop {α : Amb} {H G : Hp} {ρ : List Addr} {μ : Mu} (z : Zn α H G ρ μ) (l : Nat) : Zn α H G ρ (μ.set l none) := by
  have live : ∀ {k : Nat} {mk : MO}, (μ.set l Option.none)[k]? = some (some mk) → l ≠ k ∧ μ[k]? = some (some mk) := fun {k mk} e => by
    by_cases hk : l = k
    · subst hk
      by_cases hl : l < μ.length
      · rw [List.getElem?_set_self hl] at e; cases e
      · rw [List.getElem?_eq_none (by rw [List.length_set]; omega)] at e; cases e
    · rw [List.getElem?_set_ne hk] at e; exact ⟨hk, e⟩
  exact ⟨z.sub, by rw [List.length_set]; exact z.len, fun k mk e => z.cell k mk (live e).2, fun k k' m1 m2 b e1 e2 => z.inj _ _ _ _ _ (live e1).2 (live e2).2⟩
/-- a place is written, and goes to the end -/
theorem Zn.move {α : Amb} {H G : Hp} {ρ : List Addr} {μ : Mu} (z : Zn α H G ρ μ) {l : Nat} {a : Addr} {m m' : MO} (hm : μ[l]? = some (some m)) (ha : ρ[l]? = some a) {o : HO} (r : MRep α G ρ μ.length (some o) m') : Zn α (upd H a o) G (ρ ++ [a]) (μ.set l none ++ [some m']) := by
  obtain ⟨a', h1, h2, h3⟩ := z.cell l m hm
  rw [ha] at h1; cases h1
  refine (z.drop l).adopt h2 (fun k mk e q => ?_) (by rw [List.length_set]; exact r)
  by_cases hk : l = k
  · subst hk
    rw [List.getElem?_set_self (List.getElem?_eq_some_iff.mp hm).1] at e; cases e
  · rw [List.getElem?_set_ne hk] at e
    exact hk (z.inj _ _ _ _ _ hm e ha q)
theorem RepD.blw {α : Amb} {H G : Hp} {ρ : List Addr} {μ : Mu} (z : Zn α H G ρ μ) {v : V} {d : D} (r : RepD α G ρ v d) : Blw μ.length [d] := fun k hk => by
  simp at hk
  subst hk
  obtain ⟨a, _, h⟩ := r
  rw [← z.len]
  exact (List.getElem?_eq_some_iff.mp h).1
theorem Blw.app {l : Nat} {ds es : List D} (h : Blw l ds) (h2 : Blw l es) : Blw l (ds ++ es) := fun k hk => by
  rcases List.mem_append.mp hk with q | q
  · exact h k q
  · exact h2 k q
/-! ### what a walk hands out -/
inductive It2 where
  | one (d : D) | two (d e : D)
def RepI (α : Amb) (G : Hp) (ρ : List Addr) (v : V) : It2 → Prop
  | .one d => RepD α G ρ v d
  | .two d e => ∃ a u w, v = .ref a ∧ SqT α.K G a [u, w] ∧ RepD α G ρ u d ∧ RepD α G ρ w e
/-- the place whose content must stay while a walk goes on -/
abbrev Gd := Option (Nat × MO)
def okG (μ : Mu) : Gd → Prop
  | none => True
  | some (l, m) => μ[l]? = some (some m)
noncomputable def gIf {β : Type} (μ : Mu) (g : Gd) (r : Option β) : Option β := @ite _ (okG μ g) (Classical.propDecidable _) r none
theorem gIf_pos {β : Type} {μ : Mu} {g : Gd} {r : Option β} (h : okG μ g) : gIf μ g r = r := if_pos h
theorem gIf_some {β : Type} {μ : Mu} {g : Gd} {r : Option β} {x : β} (h : gIf μ g r = some x) : okG μ g ∧ r = some x := by
  unfold gIf at h
  split at h
  · exact ⟨‹_›, h⟩
  · cases h
@[simp] theorem gIf_none {β : Type} {μ : Mu} {r : Option β} : gIf μ none r = r := gIf_pos trivial
/-- the items that a value shows: is it a tuple?, the items, the place -/
def items (μ : Mu) : D → Option (Bool × List D × Gd)
  | .p (.tup xs) => some (true, xs.map .p, none)
  | .p (.lst xs) => some (false, xs.map .p, none)
  | .p (.wl xs) => some (false, xs.map .p, none)
  | .p _ => none
  | .loc l => match μ[l]? with
    | some (some (.lst xs)) => some (false, xs.map .p, some (l, .lst xs))
    | some (some (.dl ds)) => some (false, ds, some (l, .dl ds))
    | _ => none
theorem items_ok {α : Amb} {H G : Hp} {ρ : List Addr} {μ : Mu} (z : Zn α H G ρ μ) {v : V} {d : D} {b : Bool} {ds : List D} {g : Gd} (r : RepD α G ρ v d) (e : items μ d = some (b, ds, g)) :
    ∃ a, v = .ref a ∧ okG μ g ∧ ∀ H' G' ρ' μ', Up G ρ G' ρ' → Zn α H' G' ρ' μ' → okG μ' g → ∃ vs, (if b then SqT α.K H' a vs else SqL α.K H' a vs) ∧ RepDs α G' ρ' vs ds := by
  cases d with
  | p x =>
    cases x with
    | tup xs =>
      cases e
      cases r with
      | tup h r => exact ⟨_, rfl, trivial, fun H' G' ρ' μ' u z' _ => ⟨_, seqT z'.sub (seqT u.same h), reps_ds (r.mono u.same)⟩⟩
    | lst xs =>
      cases e
      cases r with
      | lst h r => exact ⟨_, rfl, trivial, fun H' G' ρ' μ' u z' _ => ⟨_, SqL.of (z'.sub _ _ (u.same _ _ h)), reps_ds (r.mono u.same)⟩⟩
    | wl xs =>
      cases e
      cases r with
      | wl h r => exact ⟨_, rfl, trivial, fun H' G' ρ' μ' u z' _ => ⟨_, seqL z'.sub (seqL u.same h), reps_ds (r.mono u.same)⟩⟩
    | _ => cases e
  | loc l =>
    obtain ⟨a, rfl, ha⟩ := r
    unfold items at e
    dsimp only at e
    split at e
    · rename_i xs hm
      cases e
      refine ⟨a, rfl, hm, fun H' G' ρ' μ' u z' ok => ?_⟩
      obtain ⟨a', h1, h2, vs, h3, h4⟩ := z'.cell l _ ok
      rw [u.get ha] at h1; cases h1
      exact ⟨vs, SqL.of h3, reps_ds h4⟩
    · rename_i xs hm
      cases e
      refine ⟨a, rfl, hm, fun H' G' ρ' μ' u z' ok => ?_⟩
      obtain ⟨a', h1, h2, vs, h3, h4, _⟩ := z'.cell l _ ok
      rw [u.get ha] at h1; cases h1
      exact ⟨vs, SqL.of h3, h4⟩
    · cases e
def JOkI (α : Amb) (J : It) (xs : List It2) (g : Gd) (G1 : Hp) (ρ1 : List Addr) : Prop := ∀ i H G ρ μ, Up G1 ρ1 G ρ → Zn α H G ρ μ → okG μ g →
  (∀ x, xs[i]? = some x → J.go i H ∧ ∀ v H', J.yld i H v H' → ∃ G', Up G ρ G' ρ ∧ Zn α H' G' ρ μ ∧ RepI α G' ρ v x) ∧ (xs.length ≤ i → J.stop i H)
abbrev EvI := EvG (List It2 × Gd)
def VII (α : Amb) (W : WX) (X : Cx) (tg iter : Expr) (ev : EvI) : Prop := ∃ wi : TI, PI X tg iter wi ∧ ∀ σ H G ρ δ μ (R : It → Hp → Prop), Zn α H G ρ μ → Sq α G ρ σ δ →
  Post α W (fun G' ρ' (J : It) xg => JOkI α J xg.1 xg.2 G' ρ') G ρ σ R (ev δ μ) → wi σ H R
def evUpI (ev : EvG (List P)) : EvI := fun δ μ => bindG (ev δ μ) fun xs μ1 => some (.ok (xs.map fun x => .one (.p x), none), μ1)
def evItL (e : Ev) : EvI := fun δ μ => bindG (e δ μ) fun d μ1 => match items μ1 d with
  | some (_, ds, g) => some (.ok (ds.map .one, g), μ1)
  | none => none
def enumI : Nat → List D → List It2
  | _, [] => []
  | n, x :: xs => .two (.p (.int (n : Int))) x :: enumI (n + 1) xs
theorem enumI_get : ∀ (n : Nat) (xs : List D) (i : Nat) (w : It2), (enumI n xs)[i]? = some w → ∃ x, xs[i]? = some x ∧ w = .two (.p (.int ((n + i : Nat) : Int))) x
  | n, x :: xs, 0, w, h => by cases h; exact ⟨x, rfl, rfl⟩
  | n, x :: xs, i + 1, w, h => by
    obtain ⟨y, h1, h2⟩ := enumI_get (n + 1) xs i w h
    exact ⟨y, h1, by rw [h2, show n + 1 + i = n + (i + 1) by omega]⟩
  | n, [], i, w, h => by simp [enumI] at h
theorem enumI_len : ∀ (n : Nat) (xs : List D), (enumI n xs).length = xs.length
  | _, [] => rfl
  | n, x :: xs => by simp [enumI, enumI_len (n + 1) xs]
def enumLEnd (μ : Mu) : List D → Option (Out (List It2 × Gd) × Mu)
  | [d] => match items μ d with
    | some (false, ds, g) => some (.ok (enumI 0 ds, g), μ)
    | _ => none
  | _ => none
def evEnumL (a : EvA) : EvI := fun δ μ => bindG (a δ μ) fun ds μ1 => enumLEnd μ1 ds
section
variable {α : Amb} {W : WX} {X : Cx}
theorem vii_of {tg iter : Expr} {ev : EvG (List P)} (h : VI α W X tg iter ev) : VII α W X tg iter (evUpI ev) := by
  obtain ⟨wi, pi, hi⟩ := h
  refine ⟨wi, pi, fun σ H G ρ δ μ R z s p => hi σ H G ρ δ μ R z s (Post.bind p fun xs μ1 J H1 G1 ρ1 u z1 j p1 => p1 J H1 G1 ρ1 Up.refl z1 ?_)⟩
  intro i H2 G2 ρ2 μ2 u2 z2 _
  obtain ⟨j1, j2⟩ := j i H2 G2 ρ2 μ2 u2.same z2
  refine ⟨fun x hx => ?_, fun hl => j2 (by simpa using hl)⟩
  have hx : (xs.map fun x => It2.one (.p x))[i]? = some x := hx
  rw [List.getElem?_map] at hx
  cases q : xs[i]? with
  | none => rw [q] at hx; cases hx
  | some y =>
    rw [q] at hx; cases hx
    exact j1 y q
theorem reds_get {G : Hp} {ρ : List Addr} : ∀ {vs : List V} {ds : List D} {i : Nat} {d : D}, RepDs α G ρ vs ds → ds[i]? = some d → ∃ v, vs[i]? = some v ∧ RepD α G ρ v d := fun r e => r.get e
theorem jok_items {b : Bool} {a : Addr} {ds : List D} {g : Gd} {G1 : Hp} {ρ1 : List Addr}
    (h : ∀ H' G' ρ' μ', Up G1 ρ1 G' ρ' → Zn α H' G' ρ' μ' → okG μ' g → ∃ vs, (if b then SqT α.K H' a vs else SqL α.K H' a vs) ∧ RepDs α G' ρ' vs ds) :
    JOkI α (if b then Itt α.K a else Itl α.K a) (ds.map .one) g G1 ρ1 := fun i H G ρ μ u z ok => by
  obtain ⟨vs, hv, r⟩ := h H G ρ μ u z ok
  cases b with
  | true =>
    refine ⟨fun x hx => ?_, fun hi => ⟨vs, hv, by rw [r.length]; simpa using hi⟩⟩
    rw [List.getElem?_map] at hx
    cases q : ds[i]? with
    | none => rw [q] at hx; cases hx
    | some d =>
      rw [q] at hx; cases hx
      obtain ⟨v, h1, h2⟩ := r.get q
      refine ⟨⟨vs, v, hv, h1⟩, fun w H' y => ?_⟩
      obtain ⟨rfl, y⟩ := y
      have e := y vs hv
      rw [h1] at e; cases e
      exact ⟨G, Up.refl, z, h2⟩
  | false =>
    refine ⟨fun x hx => ?_, fun hi => ⟨vs, hv, by rw [r.length]; simpa using hi⟩⟩
    rw [List.getElem?_map] at hx
    cases q : ds[i]? with
    | none => rw [q] at hx; cases hx
    | some d =>
      rw [q] at hx; cases hx
      obtain ⟨v, h1, h2⟩ := r.get q
      refine ⟨⟨vs, v, hv, h1⟩, fun w H' y => ?_⟩
      obtain ⟨rfl, y⟩ := y
      have e := y vs hv
      rw [h1] at e; cases e
      exact ⟨G, Up.refl, z, h2⟩
theorem vii_live {tg iter : Expr} {ev : Ev} (hK : X.K = α.K) (h : PE X iter (tV α W ev)) : VII α W X tg iter (evItL ev) := by
  refine ⟨_, pi_seq h, fun σ H G ρ δ μ R z s p => ⟨G, ρ, δ, μ, z, s, Post.bind p fun d μ1 v H1 G1 ρ1 u z1 r1 p1 => ?_⟩⟩
  cases q : items μ1 d with
  | none => rw [q] at p1; exact p1.elim
  | some y =>
    obtain ⟨b, ds, g⟩ := y
    rw [q] at p1
    obtain ⟨a, rfl, ok, hs⟩ := items_ok z1 r1 q
    obtain ⟨vs, hv, _⟩ := hs H1 G1 ρ1 μ1 Up.refl z1 ok
    have j := jok_items hs
    rw [hK]
    cases b with
    | true => exact ⟨a, rfl, .inr ⟨⟨vs, hv⟩, p1 (Itt α.K a) H1 G1 ρ1 Up.refl z1 j⟩⟩
    | false => exact ⟨a, rfl, .inl ⟨⟨vs, hv⟩, p1 (Itl α.K a) H1 G1 ρ1 Up.refl z1 j⟩⟩
theorem vii_enumL {e : Expr} {a : EvA} {p pos tpos : Pos} {elts : List Expr} {kk : Nat} (hK : X.K = α.K) (hm : X.mg "enumerate" = none) (ha : PA X [e] (tVs α W a)) (hg : Gl X "enumerate" := by rfl)
    (hs : starEach [e] X.env = [(false, eval e X.env)] := by rfl) : VII α W X (.Tuple elts kk tpos) (.Call (.Name "enumerate" p) [e] [] pos) (evEnumL a) := by
  refine ⟨_, pi_enum hg hm ha hs, fun σ H G ρ δ μ R z s pq => ⟨G, ρ, δ, μ, z, s, Post.bind pq fun ds μ1 vs H1 G1 ρ1 u z1 r1 p1 => ?_⟩⟩
  unfold enumLEnd at p1
  split at p1
  · rename_i d
    obtain ⟨v, rfl, ra⟩ := rds1 r1
    split at p1
    · rename_i ds g q
      obtain ⟨b, rfl, ok, hs⟩ := items_ok z1 ra q
      obtain ⟨vs, hv, _⟩ := hs H1 G1 ρ1 μ1 Up.refl z1 ok
      refine ⟨b, vs, rfl, by rw [hK]; exact hv, ?_⟩
      rw [hK]
      refine p1 (Ite α.K b) H1 G1 ρ1 Up.refl z1 fun i H G ρ μ u z ok => ?_
      obtain ⟨vs, hv, r⟩ := hs H G ρ μ u z ok
      refine ⟨fun w hw => ?_, fun hi => ⟨vs, hv, by rw [r.length]; rw [enumI_len] at hi; exact hi⟩⟩
      obtain ⟨x, e1, rfl⟩ := enumI_get _ _ _ _ hw
      obtain ⟨v, h3, h4⟩ := r.get e1
      refine ⟨⟨vs, v, hv, h3⟩, fun q H' yl => ?_⟩
      obtain ⟨T, x', rfl, hT, rfl, f1⟩ := yl
      have g1 := f1 vs hv
      rw [h3] at g1
      cases g1
      rw [Nat.zero_add]
      exact ⟨_, up_new (z.free hT), z.new hT _, T, _, _, rfl, SqT.of upd_same, .int _, h4.up (up_new (z.free hT))⟩
    · exact p1.elim
  · exact p1.elim
/-! ### targets -/
abbrev TgtI := It2 → Sl → Option Sl
def VGI (α : Amb) (X : Cx) (tg : Expr) (ts : TgtI) : Prop := ∃ g : TG, PG X tg g ∧ ∀ G ρ H μ σ δ v x δ' (Q : L2.St → Hp → Prop), Zn α H G ρ μ → Sq α G ρ σ δ → RepI α G ρ v x → ts x δ = some δ' → (∀ σ', Sq α G ρ σ' δ' → Q σ' H) → g v σ H Q
def tgNI (i : Nat) : TgtI := fun x δ => match x with
  | .one d => some (δ.set i (some d))
  | _ => none
def tgTI (i j : Nat) : TgtI := fun x δ => match x with
  | .two d e => some ((δ.set i (some d)).set j (some e))
  | _ => none
def tgUp (ts : Tgt) : TgtI := fun x δ => match x with
  | .one (.p x) => ts x δ
  | _ => none
theorem tgUp_some {ts : Tgt} {x : It2} {δ δ' : Sl} (e : tgUp ts x δ = some δ') : ∃ y, x = .one (.p y) ∧ ts y δ = some δ' := by
  unfold tgUp at e
  split at e
  · exact ⟨_, rfl, e⟩
  · cases e
theorem tgNI_some {i : Nat} {x : It2} {δ δ' : Sl} (e : tgNI i x δ = some δ') : ∃ d, x = .one d ∧ δ' = δ.set i (some d) := by
  unfold tgNI at e
  split at e
  · exact ⟨_, rfl, (Option.some.inj e).symm⟩
  · cases e
theorem tgTI_some {i j : Nat} {x : It2} {δ δ' : Sl} (e : tgTI i j x δ = some δ') : ∃ d f, x = .two d f ∧ δ' = (δ.set i (some d)).set j (some f) := by
  unfold tgTI at e
  split at e
  · exact ⟨_, _, rfl, (Option.some.inj e).symm⟩
  · cases e
theorem vgi_of {tg : Expr} {ts : Tgt} (h : VG α X tg ts) : VGI α X tg (tgUp ts) := by
  obtain ⟨g, pg, hg⟩ := h
  refine ⟨g, pg, fun G ρ H μ σ δ v x δ' Q z s r e k => ?_⟩
  obtain ⟨y, rfl, e⟩ := tgUp_some e
  exact hg G ρ H μ σ δ v y δ' Q z s r e k
theorem vgi_name (i : Nat) {x : Str} {pos : Pos} (hN : X.N.Nodup) (hi : X.N[i]? = some x := by rfl) (hx : Loc X.env.scope x := by first | exact Or.inl rfl | exact Or.inr rfl) (hf : X.fn x = true ∨ X.env.scope.names.lookup x = some .local := by first | exact .inl rfl | exact .inr rfl | assumption) :
    VGI α X (.Name x pos) (tgNI i) :=
  ⟨gName i, pg_name hN hi hx hf, fun G ρ H μ σ δ v x δ' Q z s r e k => by
    obtain ⟨d, rfl, rfl⟩ := tgNI_some e
    exact k _ (s.set r i)⟩
theorem vgi_two (i j : Nat) {x y : Str} {px py pos : Pos} {kk : Nat} (hK : X.K = α.K) (hc : X.calm = true) (hN : X.N.Nodup) (hi : X.N[i]? = some x := by rfl) (hj : X.N[j]? = some y := by rfl) (hx : Loc X.env.scope x := by first | exact Or.inl rfl | exact Or.inr rfl) (hy : Loc X.env.scope y := by first | exact Or.inl rfl | exact Or.inr rfl)
    (hf : X.fn x = true ∨ X.env.scope.names.lookup x = some .local := by first | exact .inl rfl | exact .inr rfl | assumption) (hf2 : X.fn y = true ∨ X.env.scope.names.lookup y = some .local := by first | exact .inl rfl | exact .inr rfl | assumption)
    (hs : (assignEach [.Name x px, .Name y py] X.env).map (·.2) = assign (.Name x px) X.env :: (assignEach [.Name y py] X.env).map (·.2) := by rfl) (hs2 : (assignEach [.Name y py] X.env).map (·.2) = assign (.Name y py) X.env :: (assignEach [] X.env).map (·.2) := by rfl)
    (hn : (assignEach [.Name x px, .Name y py] X.env).length = 2 := by rfl) (hst : (assignEach [.Name x px, .Name y py] X.env).findIdx? (·.1) = none := by rfl) : VGI α X (.Tuple [.Name x px, .Name y py] kk pos) (tgTI i j) := by
  refine ⟨gTup X.K 2 (gCons (gName i) (gCons (gName j) gNil)), pg_tup hc (pgs_cons (pg_name hN hi hx hf) (pgs_cons (pg_name hN hj hy hf2) pgs_nil hs2) hs) hn hst, fun G ρ H μ σ δ v x δ' Q z s r e k => ?_⟩
  obtain ⟨d, e', rfl, rfl⟩ := tgTI_some e
  obtain ⟨a, u, w, rfl, hT, r1, r2⟩ := r
  exact ⟨a, [u, w], rfl, by rw [hK]; exact seqT z.sub hT, rfl, ⟨_, _, rfl, _, _, rfl, rfl, k _ ((s.set r1 i).set r2 j)⟩⟩
/-- a target's store, that touches the slots vs alone -/
def GSemI (α : Amb) (g : TG) (ts : TgtI) (vs : List Nat) : Prop := ∀ G ρ H μ σ δ v x δ' (Q : L2.St → Hp → Prop), Zn α H G ρ μ → Sq α G ρ σ δ → RepI α G ρ v x → ts x δ = some δ' → (∀ σ', Sq α G ρ σ' δ' → wipe σ' vs = wipe σ vs → Q σ' H) → g v σ H Q
theorem gsi_of {g : TG} {ts : Tgt} {vs : List Nat} (h : GSem α g ts vs) : GSemI α g (tgUp ts) vs := fun G ρ H μ σ δ v x δ' Q z s r e k => by
  obtain ⟨y, rfl, e⟩ := tgUp_some e
  exact h G ρ H μ σ δ v y δ' Q z s r e k
theorem gsi_name {i : Nat} {vs : List Nat} (h : i ∈ vs) : GSemI α (gName i) (tgNI i) vs := fun G ρ H μ σ δ v x δ' Q z s r e k => by
  obtain ⟨d, rfl, rfl⟩ := tgNI_some e
  exact k _ (s.set r i) (wipe_set h)
theorem gsi_two {i j : Nat} {vs : List Nat} (h : i ∈ vs) (h2 : j ∈ vs) : GSemI α (gTup α.K 2 (gsOf [i, j])) (tgTI i j) vs := fun G ρ H μ σ δ v x δ' Q z s r e k => by
  obtain ⟨d, e', rfl, rfl⟩ := tgTI_some e
  obtain ⟨a, u, w, rfl, hT, r1, r2⟩ := r
  exact ⟨a, [u, w], rfl, seqT z.sub hT, rfl, ⟨_, _, rfl, _, _, rfl, rfl, k _ ((s.set r1 i).set r2 j) (by rw [wipe_set h2, wipe_set h])⟩⟩
/-! ### for -/
noncomputable def forI (ts : TgtI) (body : SEv) (g : Gd) : List It2 → SEv
  | [], δ, μ => gIf μ g (some (.nx, δ, μ))
  | x :: xs, δ, μ => gIf μ g (match ts x δ with
    | none => none
    | some δ1 => match body δ1 μ with
      | some (.nx, δ2, μ2) => forI ts body g xs δ2 μ2
      | some (.cont, δ2, μ2) => forI ts body g xs δ2 μ2
      | some (.brk, δ2, μ2) => some (.nx, δ2, μ2)
      | r => r)
noncomputable def sForI (it : EvI) (ts : TgtI) (body : SEv) : SEv := fun δ μ => bindS (it δ μ) δ fun xg μ1 => forI ts body xg.2 xg.1 δ μ1
theorem gIf_post {Dn : Ends} {G : Hp} {ρ : List Addr} {μ : Mu} {g : Gd} {r : Option (Fl × Sl × Mu)} (p : SPost α W Dn G ρ (gIf μ g r)) : okG μ g ∧ SPost α W Dn G ρ r := by
  unfold gIf at p
  split at p
  · exact ⟨‹_›, p⟩
  · exact p.elim
theorem v_forI {tg iter : Expr} {body : List Stmt} {ev : EvI} {ts : TgtI} {sb : SEv} {pos : Pos} (hc : X.calm = true) (hp : PassesOwn (model X.prog X.w) X.A X.env X.xe) (hi : VII α W X tg iter ev) (hg : VGI α X tg ts) (hb : PSs X body (tS α W sb))
    (hs : ∀ x, foldedSetIterable iter X.env x = pure x := by intro _; rfl) : PS X (.For tg iter body [] pos) (tS α W (sForI ev ts sb)) := by
  obtain ⟨wi, pi, hi⟩ := hi
  obtain ⟨g, pg, hg⟩ := hg
  refine PS.imp (ps_for hp hc pi pg hb hs) fun Dn σ H ⟨G, ρ, δ, μ, z, s, p⟩ => ?_
  refine hi σ H G ρ δ μ _ z s (SPost.bind p s fun xg μ1 J H1 G1 ρ1 u z1 j1 p1 => ?_)
  obtain ⟨xs, gd⟩ := xg
  dsimp only at p1 j1
  refine ⟨fun i m σ H => m + i = xs.length ∧ ∃ G' ρ' δ' μ', Up G1 ρ1 G' ρ' ∧ Zn α H G' ρ' μ' ∧ Sq α G' ρ' σ δ' ∧ SPost α W Dn G' ρ' (forI ts sb gd (xs.drop i) δ' μ'), ⟨xs.length, by omega, G1, ρ1, δ, μ1, Up.refl, z1, s.up u, by simpa using p1⟩, ?_⟩
  rintro i m σ2 H2 ⟨hm, G2, ρ2, δ2, μ2, u2, z2, s2, p2⟩
  by_cases h : i < xs.length
  · obtain ⟨x, hx⟩ : ∃ x, xs[i]? = some x := ⟨xs[i], List.getElem?_eq_getElem h⟩
    have hd : xs.drop i = x :: xs.drop (i + 1) := by
      rw [List.drop_eq_getElem_cons h]
      rw [List.getElem?_eq_getElem h] at hx
      cases hx; rfl
    rw [hd] at p2
    unfold forI at p2
    obtain ⟨ok, p2⟩ := gIf_post p2
    obtain ⟨jgo, jstop⟩ := j1 i H2 G2 ρ2 μ2 u2 z2 ok
    obtain ⟨go, yl⟩ := jgo x hx
    refine .inr ⟨go, fun σ' H' => ∃ G' ρ' δ' μ', Up G1 ρ1 G' ρ' ∧ Zn α H' G' ρ' μ' ∧ Sq α G' ρ' σ' δ' ∧ SPost α W Dn G' ρ' (forI ts sb gd (xs.drop (i + 1)) δ' μ'), fun σ' H' hN => ⟨m - 1, by omega, by omega, hN⟩, fun v H' y => ?_⟩
    obtain ⟨G3, u3, z3, r3⟩ := yl v H' y
    cases q : ts x δ2 with
    | none => rw [q] at p2; exact p2.elim
    | some δ3 =>
      rw [q] at p2
      refine hg G3 ρ2 H' μ2 σ2 δ2 v x δ3 _ z3 (s2.up u3) r3 q fun σ3 s3 => ⟨G3, ρ2, δ3, μ2, z3, s3, ?_⟩
      have p2 := SPost.up p2 u3
      have u23 := u2.trans u3
      dsimp only at p2
      match q2 : sb δ3 μ2, p2 with
      | some (.nx, δ4, μ4), p2 => exact fun σ' H' G' ρ' u' z' s' => ⟨G', ρ', δ4, μ4, u23.trans u', z', s', SPost.up (r := forI ts sb gd (xs.drop (i + 1)) δ4 μ4) p2 u'⟩
      | some (.cont, δ4, μ4), p2 => exact fun σ' H' G' ρ' u' z' s' => ⟨G', ρ', δ4, μ4, u23.trans u', z', s', SPost.up (r := forI ts sb gd (xs.drop (i + 1)) δ4 μ4) p2 u'⟩
      | some (.brk, δ4, μ4), p2 => exact p2
      | some (.ret d, δ4, μ4), p2 => exact p2
      | some (.exc c, δ4, μ4), p2 => exact p2
  · have hd : xs.drop i = [] := List.drop_eq_nil_of_le (by omega)
    rw [hd] at p2
    unfold forI at p2
    obtain ⟨ok, p2⟩ := gIf_post p2
    obtain ⟨jgo, jstop⟩ := j1 i H2 G2 ρ2 μ2 u2 z2 ok
    exact .inl ⟨jstop (by omega), p2 σ2 H2 G2 ρ2 Up.refl z2 s2⟩
end
end Vs
/-! Comprehensions over what may change, and ones that make lists of places; items, len, append, freezing. -/
namespace Vs
open PySem PySem.Spec PyProof.Rows L2
/-- the kept ones come to the list at l, as data -/
noncomputable def lcI (ts : TgtI) (t : EvT) (e : Ev) (g : Gd) (δ0 : Sl) (l : Nat) : List It2 → Mu → Option Mu
  | [], μ => gIf μ g (some μ)
  | x :: xs, μ => gIf μ g (match ts x δ0 with
    | none => none
    | some δ1 => match t δ1 μ with
      | some (.ok true, μ1) => match e δ1 μ1 with
        | some (.ok d, μ2) => match toP μ2 d with
          | some (y, μ3) => match cellL μ3 l with
            | some acc => if acc.length < sizeLine then lcI ts t e g δ0 l xs (μ3.set l (some (.lst (acc ++ [y])))) else none
            | none => none
          | none => none
        | _ => none
      | some (.ok false, μ1) => lcI ts t e g δ0 l xs μ1
      | _ => none)
noncomputable def evLcI (it : EvI) (ts : TgtI) (t : EvT) (e : Ev) (vs : List Nat) : Ev := fun δ μ => bindG (it δ μ) fun xg μ1 => lcEnd μ1.length (lcI ts t e xg.2 (wipeS δ vs) μ1.length xg.1 (μ1 ++ [some (.lst [])]))
/-- the kept ones come to a list of places, which goes to the end of the store each time -/
noncomputable def lcD (ts : TgtI) (t : EvT) (e : Ev) (g : Gd) (δ0 : Sl) : Nat → List It2 → Mu → Option (Nat × Mu)
  | l, [], μ => gIf μ g (some (l, μ))
  | l, x :: xs, μ => gIf μ g (match ts x δ0 with
    | none => none
    | some δ1 => match t δ1 μ with
      | some (.ok true, μ1) => match e δ1 μ1 with
        | some (.ok d, μ2) => match μ2[l]? with
          | some (some (.dl acc)) => if acc.length < sizeLine then lcD ts t e g δ0 μ2.length xs (μ2.set l none ++ [some (.dl (acc ++ [d]))]) else none
          | _ => none
        | _ => none
      | some (.ok false, μ1) => lcD ts t e g δ0 l xs μ1
      | _ => none)
def finD : Option (Nat × Mu) → Option (Out D × Mu)
  | some (l, μ) => some (.ok (.loc l), μ)
  | none => none
noncomputable def evLcD (it : EvI) (ts : TgtI) (t : EvT) (e : Ev) (vs : List Nat) : Ev := fun δ μ => bindG (it δ μ) fun xg μ1 => finD (lcD ts t e xg.2 (wipeS δ vs) μ1.length xg.1 (μ1 ++ [some (.dl [])]))
section
variable {α : Amb} {W : WX} {X : Cx}
theorem gIf_fin {β : Type} {rep : Hp → List Addr → V → D → Prop} {G : Hp} {ρ : List Addr} {σ : L2.St} {Q : VK} {μ : Mu} {g : Gd} {r : Option β} {fin : Option β → Option (Out D × Mu)} (hnone : fin none = none) (p : Post α W rep G ρ σ Q (fin (gIf μ g r))) : okG μ g ∧ Post α W rep G ρ σ Q (fin r) := by
  unfold gIf at p
  split at p
  · exact ⟨‹_›, p⟩
  · rw [hnone] at p; exact p.elim
theorem lcI_imp {wi : TI} {g : TG} {tt : TT} {te : TE} {vs : List Nat} {it : EvI} {ts : TgtI} {t : EvT} {e : Ev}
    (hi : ∀ σ H G ρ δ μ (R : It → Hp → Prop), Zn α H G ρ μ → Sq α G ρ σ δ → Post α W (fun G' ρ' (J : It) xg => JOkI α J xg.1 xg.2 G' ρ') G ρ σ R (it δ μ) → wi σ H R)
    (hgs : GSemI α g ts vs) (htt : ∀ σ H Q, tVt α W0 t σ H Q → tt σ H Q) (hte : ∀ σ H Q, tV α W0 e σ H Q → te σ H Q)
    {σ : L2.St} {H : Hp} {Q : VK} {G : Hp} {ρ : List Addr} {δ : Sl} {μ : Mu} (z : Zn α H G ρ μ) (s : Sq α G ρ σ δ)
    (p : Post α W (RepD α) G ρ σ Q (evLcI it ts t e vs δ μ)) : tLc wi g tt te vs σ H Q := by
  refine hi σ H G ρ δ μ _ z s (Post.bind p fun xg μ1 J H1 G1 ρ1 u z1 j1 p1 => ?_)
  obtain ⟨xs, gd⟩ := xg
  dsimp only at p1 j1
  intro Dd hD
  have zp := z1.place (m := .lst []) hD ⟨[], rfl, .nil⟩
  refine ⟨fun i m H => m + i = xs.length ∧ ∃ G' ρ' μ', Up G1 (ρ1 ++ [Dd]) G' ρ' ∧ Zn α H G' ρ' μ' ∧ Post α W (RepD α) G1 ρ1 σ Q (lcEnd μ1.length (lcI ts t e gd (wipeS δ vs) μ1.length (xs.drop i) μ')),
    ⟨xs.length, by omega, G1, ρ1 ++ [Dd], _, Up.refl, zp, by simpa using p1⟩, ?_⟩
  rintro i m H2 ⟨hm, G2, ρ2, μ2, u2, z2, p2⟩
  have hDat : (ρ1 ++ [Dd])[μ1.length]? = some Dd := by rw [← z1.len]; simp
  have u12 : Up G1 ρ1 G2 ρ2 := Up.trans up_place u2
  by_cases h : i < xs.length
  · obtain ⟨x, hx⟩ : ∃ x, xs[i]? = some x := ⟨xs[i], List.getElem?_eq_getElem h⟩
    have hd : xs.drop i = x :: xs.drop (i + 1) := by
      rw [List.drop_eq_getElem_cons h]
      rw [List.getElem?_eq_getElem h] at hx
      cases hx; rfl
    rw [hd] at p2
    unfold lcI at p2
    obtain ⟨ok, p2⟩ := gIf_fin (fin := lcEnd μ1.length) rfl p2
    obtain ⟨jgo, jstop⟩ := j1 i H2 G2 ρ2 μ2 u12 z2 ok
    obtain ⟨go, yl⟩ := jgo x hx
    refine .inr ⟨go, fun H' => ∃ G' ρ' μ', Up G1 (ρ1 ++ [Dd]) G' ρ' ∧ Zn α H' G' ρ' μ' ∧ Post α W (RepD α) G1 ρ1 σ Q (lcEnd μ1.length (lcI ts t e gd (wipeS δ vs) μ1.length (xs.drop (i + 1)) μ')), fun H' hN => ⟨m - 1, by omega, by omega, hN⟩, fun v H' y => ?_⟩
    obtain ⟨G3, u3, z3, r3⟩ := yl v H' y
    have s3 : Sq α G3 ρ2 (wipe σ vs) (wipeS δ vs) := sq_wipe (((s.up u).up u12).up u3) vs
    cases q : ts x (wipeS δ vs) with
    | none => rw [q] at p2; exact p2.elim
    | some δ3 =>
      rw [q] at p2
      dsimp only at p2
      refine hgs G3 ρ2 H' μ2 _ _ v x δ3 _ z3 s3 r3 q fun σ3 s4 hw => ⟨hw.trans wipe_idem, htt _ _ _ ⟨G3, ρ2, δ3, μ2, z3, s4, ?_⟩⟩
      have u23 : Up G1 (ρ1 ++ [Dd]) G3 ρ2 := u2.trans u3
      match q2 : t δ3 μ2, p2 with
      | none, p2 => exact p2.elim
      | some (.exc c, μ4), p2 => exact p2.elim
      | some (.ok false, μ4), p2 =>
        intro b H4 G4 ρ4 u4 z4 hb
        subst hb
        exact iteF ⟨G4, ρ4, μ4, u23.trans u4, z4, p2⟩
      | some (.ok true, μ4), p2 =>
        intro b H4 G4 ρ4 u4 z4 hb
        subst hb
        refine iteT (hte _ _ _ ⟨G4, ρ4, δ3, μ4, z4, s4.up u4, ?_⟩)
        dsimp only at p2
        match q3 : e δ3 μ4, p2 with
        | none, p2 => exact p2.elim
        | some (.exc c, μ5), p2 => exact p2.elim
        | some (.ok d, μ5), p2 =>
          intro w H5 G5 ρ5 u5 z5 r5
          dsimp only at p2
          cases q5 : toP μ5 d with
          | none => rw [q5] at p2; exact p2.elim
          | some ym =>
            obtain ⟨y', μ6⟩ := ym
            rw [q5] at p2
            dsimp only at p2
            obtain ⟨G6, u6, z6, r6⟩ := toP_ok z5 r5 q5
            have uu : Up G1 (ρ1 ++ [Dd]) G6 ρ5 := ((u23.trans u4).trans u5).trans u6
            cases q6 : cellL μ6 μ1.length with
            | none => rw [q6] at p2; exact p2.elim
            | some acc =>
              rw [q6] at p2
              dsimp only at p2
              split at p2
              · rename_i hl
                have hDD := uu.get hDat
                obtain ⟨vacc, h1, h2⟩ := cell_at z6 q6 hDD
                exact ⟨vacc, h1, by rw [h2.length]; exact hl, G6, ρ5, _, uu, z6.write (cellL_some q6) hDD (m' := .lst (acc ++ [y'])) ⟨_, rfl, h2.append (.cons r6 .nil)⟩, p2⟩
              · exact p2.elim
  · have hd : xs.drop i = [] := List.drop_eq_nil_of_le (by omega)
    rw [hd] at p2
    unfold lcI at p2
    obtain ⟨ok, p2⟩ := gIf_fin (fin := lcEnd μ1.length) rfl p2
    obtain ⟨jgo, jstop⟩ := j1 i H2 G2 ρ2 μ2 u12 z2 ok
    exact .inl ⟨jstop (by omega), fin_lc u2 z2 z1.len.symm p2⟩
theorem lcD_imp {wi : TI} {g : TG} {tt : TT} {te : TE} {vs : List Nat} {it : EvI} {ts : TgtI} {t : EvT} {e : Ev}
    (hi : ∀ σ H G ρ δ μ (R : It → Hp → Prop), Zn α H G ρ μ → Sq α G ρ σ δ → Post α W (fun G' ρ' (J : It) xg => JOkI α J xg.1 xg.2 G' ρ') G ρ σ R (it δ μ) → wi σ H R)
    (hgs : GSemI α g ts vs) (htt : ∀ σ H Q, tVt α W0 t σ H Q → tt σ H Q) (hte : ∀ σ H Q, tV α W0 e σ H Q → te σ H Q)
    {σ : L2.St} {H : Hp} {Q : VK} {G : Hp} {ρ : List Addr} {δ : Sl} {μ : Mu} (z : Zn α H G ρ μ) (s : Sq α G ρ σ δ)
    (p : Post α W (RepD α) G ρ σ Q (evLcD it ts t e vs δ μ)) : tLc wi g tt te vs σ H Q := by
  refine hi σ H G ρ δ μ _ z s (Post.bind p fun xg μ1 J H1 G1 ρ1 u z1 j1 p1 => ?_)
  obtain ⟨xs, gd⟩ := xg
  dsimp only at p1 j1
  intro Dd hD
  have zp := z1.place (m := .dl []) hD ⟨[], rfl, .nil, fun k hk => by simp at hk⟩
  have hDat : (ρ1 ++ [Dd])[μ1.length]? = some Dd := by rw [← z1.len]; simp
  refine ⟨fun i m H => m + i = xs.length ∧ ∃ G' ρ' μ' l, Up G1 (ρ1 ++ [Dd]) G' ρ' ∧ Zn α H G' ρ' μ' ∧ ρ'[l]? = some Dd ∧ Post α W (RepD α) G1 ρ1 σ Q (finD (lcD ts t e gd (wipeS δ vs) l (xs.drop i) μ')),
    ⟨xs.length, by omega, G1, ρ1 ++ [Dd], _, μ1.length, Up.refl, zp, hDat, by simpa using p1⟩, ?_⟩
  rintro i m H2 ⟨hm, G2, ρ2, μ2, l, u2, z2, hat, p2⟩
  have u12 : Up G1 ρ1 G2 ρ2 := Up.trans up_place u2
  by_cases h : i < xs.length
  · obtain ⟨x, hx⟩ : ∃ x, xs[i]? = some x := ⟨xs[i], List.getElem?_eq_getElem h⟩
    have hd : xs.drop i = x :: xs.drop (i + 1) := by
      rw [List.drop_eq_getElem_cons h]
      rw [List.getElem?_eq_getElem h] at hx
      cases hx; rfl
    rw [hd] at p2
    unfold lcD at p2
    obtain ⟨ok, p2⟩ := gIf_fin (fin := finD) rfl p2
    obtain ⟨jgo, jstop⟩ := j1 i H2 G2 ρ2 μ2 u12 z2 ok
    obtain ⟨go, yl⟩ := jgo x hx
    refine .inr ⟨go, fun H' => ∃ G' ρ' μ' l, Up G1 (ρ1 ++ [Dd]) G' ρ' ∧ Zn α H' G' ρ' μ' ∧ ρ'[l]? = some Dd ∧ Post α W (RepD α) G1 ρ1 σ Q (finD (lcD ts t e gd (wipeS δ vs) l (xs.drop (i + 1)) μ')), fun H' hN => ⟨m - 1, by omega, by omega, hN⟩, fun v H' y => ?_⟩
    obtain ⟨G3, u3, z3, r3⟩ := yl v H' y
    have s3 : Sq α G3 ρ2 (wipe σ vs) (wipeS δ vs) := sq_wipe (((s.up u).up u12).up u3) vs
    cases q : ts x (wipeS δ vs) with
    | none => rw [q] at p2; exact p2.elim
    | some δ3 =>
      rw [q] at p2
      dsimp only at p2
      refine hgs G3 ρ2 H' μ2 _ _ v x δ3 _ z3 s3 r3 q fun σ3 s4 hw => ⟨hw.trans wipe_idem, htt _ _ _ ⟨G3, ρ2, δ3, μ2, z3, s4, ?_⟩⟩
      have u23 : Up G1 (ρ1 ++ [Dd]) G3 ρ2 := u2.trans u3
      match q2 : t δ3 μ2, p2 with
      | none, p2 => exact p2.elim
      | some (.exc c, μ4), p2 => exact p2.elim
      | some (.ok false, μ4), p2 =>
        intro b H4 G4 ρ4 u4 z4 hb
        subst hb
        exact iteF ⟨G4, ρ4, μ4, l, u23.trans u4, z4, u4.get hat, p2⟩
      | some (.ok true, μ4), p2 =>
        intro b H4 G4 ρ4 u4 z4 hb
        subst hb
        refine iteT (hte _ _ _ ⟨G4, ρ4, δ3, μ4, z4, s4.up u4, ?_⟩)
        dsimp only at p2
        match q3 : e δ3 μ4, p2 with
        | none, p2 => exact p2.elim
        | some (.exc c, μ5), p2 => exact p2.elim
        | some (.ok d, μ5), p2 =>
          intro w H5 G5 ρ5 u5 z5 r5
          dsimp only at p2
          have uu : Up G1 (ρ1 ++ [Dd]) G5 ρ5 := (u23.trans u4).trans u5
          have hat5 : ρ5[l]? = some Dd := u5.get (u4.get hat)
          match q6 : μ5[l]?, p2 with
          | some (some (.dl acc)), p2 =>
            dsimp only at p2
            split at p2
            · rename_i hl
              obtain ⟨a', h1, h2, vacc, h3, h4, h5⟩ := z5.cell l _ q6
              rw [hat5] at h1; cases h1
              have hlt : l < μ5.length := (List.getElem?_eq_some_iff.mp q6).1
              have z6 := z5.move (o := .lst (vacc ++ [w])) (m' := .dl (acc ++ [d])) q6 hat5 ⟨_, rfl, h4.append (.cons r5 .nil), (h5.le (Nat.le_of_lt hlt)).app (RepD.blw z5 r5)⟩
              exact ⟨vacc, h3, by rw [h4.length]; exact hl, G5, ρ5 ++ [Dd], _, μ5.length, uu.trans up_place, z6, by rw [← z5.len]; simp, p2⟩
            · exact p2.elim
          | none, p2 => exact p2.elim
          | some none, p2 => exact p2.elim
          | some (some (.lst _)), p2 => exact p2.elim
          | some (some (.ins _ _)), p2 => exact p2.elim
  · have hd : xs.drop i = [] := List.drop_eq_nil_of_le (by omega)
    rw [hd] at p2
    unfold lcD at p2
    obtain ⟨ok, p2⟩ := gIf_fin (fin := finD) rfl p2
    obtain ⟨jgo, jstop⟩ := j1 i H2 G2 ρ2 μ2 u12 z2 ok
    exact .inl ⟨jstop (by omega), p2 _ H2 G2 ρ2 u12 z2 ⟨Dd, rfl, hat⟩⟩
section
variable {elt tg iter : Expr} {ifs : List Expr} {scope : Scope} {own : List (Str × Nat)} {pos : Pos} {g : TG} {it : EvI} {ts : TgtI} {t : EvT} {e : Ev}
theorem v_lcI (hc : X.calm = true) (hN : X.N.Nodup) (hi : VII α W X tg iter it) (ok : BlkOk X.N X.env.scope scope own) (hgs : GSemI α g ts (own.map (·.2)))
    (hg : ∀ (s : Shared) (H : Hp) (C : Addr) (cl : List (Str × Addr)) (fp : List Addr), PG (X.blk s H scope (compEnvC scope cl C X.env) fp) tg g) (ht : ∀ (s : Shared) (H : Hp) (C : Addr) (cl : List (Str × Addr)) (fp : List Addr), PTs (X.blk s H scope (compEnvC scope cl C X.env) fp) ifs (tVt α W0 t))
    (he : ∀ (s : Shared) (H : Hp) (C : Addr) (cl : List (Str × Addr)) (fp : List Addr), PE (X.blk s H scope (compEnvC scope cl C X.env) fp) elt (tV α W0 e)) (hs : ∀ x, foldedSetIterable iter X.env x = pure x := by intro _; rfl) :
    PE X (.ListComp elt [⟨tg, iter, ifs, 0⟩] scope pos) (tV α W (evLcI it ts t e (own.map (·.2)))) := by
  obtain ⟨wi, pi, hi⟩ := hi
  exact PE.imp (pe_lc hc hN pi ok hg ht he hs) fun σ H Q ⟨G, ρ, δ, μ, z, s, p⟩ => lcI_imp hi hgs (fun _ _ _ h => h) (fun _ _ _ h => h) z s p
theorem v_lcD (hc : X.calm = true) (hN : X.N.Nodup) (hi : VII α W X tg iter it) (ok : BlkOk X.N X.env.scope scope own) (hgs : GSemI α g ts (own.map (·.2)))
    (hg : ∀ (s : Shared) (H : Hp) (C : Addr) (cl : List (Str × Addr)) (fp : List Addr), PG (X.blk s H scope (compEnvC scope cl C X.env) fp) tg g) (ht : ∀ (s : Shared) (H : Hp) (C : Addr) (cl : List (Str × Addr)) (fp : List Addr), PTs (X.blk s H scope (compEnvC scope cl C X.env) fp) ifs (tVt α W0 t))
    (he : ∀ (s : Shared) (H : Hp) (C : Addr) (cl : List (Str × Addr)) (fp : List Addr), PE (X.blk s H scope (compEnvC scope cl C X.env) fp) elt (tV α W0 e)) (hs : ∀ x, foldedSetIterable iter X.env x = pure x := by intro _; rfl) :
    PE X (.ListComp elt [⟨tg, iter, ifs, 0⟩] scope pos) (tV α W (evLcD it ts t e (own.map (·.2)))) := by
  obtain ⟨wi, pi, hi⟩ := hi
  exact PE.imp (pe_lc hc hN pi ok hg ht he hs) fun σ H Q ⟨G, ρ, δ, μ, z, s, p⟩ => lcD_imp hi hgs (fun _ _ _ h => h) (fun _ _ _ h => h) z s p
theorem v_setLcI {i : Nat} {y : Str} {py : Pos} {spos : Pos} (hc : X.calm = true) (hN : X.N.Nodup) (hy : X.N[i]? = some y) (hyl : X.env.scope.names.lookup y = some .local)
    (hsw : swapsWith (.ListComp elt [⟨tg, iter, ifs, 0⟩] scope pos) (some (.Name y py)) spos.line X.env = pure true) (hi : VII α W X tg iter it) (ok : BlkOk X.N X.env.scope scope own) (hgs : GSemI α g ts (own.map (·.2)))
    (hg : ∀ (s : Shared) (H : Hp) (C : Addr) (cl : List (Str × Addr)) (fp : List Addr), PG (X.blk s H scope (compEnvC scope cl C X.env) fp) tg g) (ht : ∀ (s : Shared) (H : Hp) (C : Addr) (cl : List (Str × Addr)) (fp : List Addr), PTs (X.blk s H scope (compEnvC scope cl C X.env) fp) ifs (tVt α W0 t))
    (he : ∀ (s : Shared) (H : Hp) (C : Addr) (cl : List (Str × Addr)) (fp : List Addr), PE (X.blk s H scope (compEnvC scope cl C X.env) fp) elt (tV α W0 e)) (hs : ∀ x, foldedSetIterable iter X.env x = pure x := by intro _; rfl) :
    PS X (.Assign [.Name y py] (.ListComp elt [⟨tg, iter, ifs, 0⟩] scope pos) spos) (tS α W (sSet i (evLcI it ts t e (own.map (·.2))))) := by
  obtain ⟨wi, pi, hi⟩ := hi
  refine PS.imp (ps_setLc (i := i) hc hN hy hyl hsw pi ok hg ht he hs) fun Dn σ H ⟨G, ρ, δ, μ, z, s, p⟩ => ?_
  refine lcI_imp hi hgs (fun _ _ _ h => h) (fun _ _ _ h => h) z s (SPost.bind (m := evLcI it ts t e (own.map (·.2)) δ μ) p s fun d μ1 v H1 G1 ρ1 u z1 r1 p1 => ?_)
  exact p1 _ H1 G1 ρ1 Up.refl z1 ((s.up u).set r1 i)
theorem v_setLcD {i : Nat} {y : Str} {py : Pos} {spos : Pos} (hc : X.calm = true) (hN : X.N.Nodup) (hy : X.N[i]? = some y) (hyl : X.env.scope.names.lookup y = some .local)
    (hsw : swapsWith (.ListComp elt [⟨tg, iter, ifs, 0⟩] scope pos) (some (.Name y py)) spos.line X.env = pure true) (hi : VII α W X tg iter it) (ok : BlkOk X.N X.env.scope scope own) (hgs : GSemI α g ts (own.map (·.2)))
    (hg : ∀ (s : Shared) (H : Hp) (C : Addr) (cl : List (Str × Addr)) (fp : List Addr), PG (X.blk s H scope (compEnvC scope cl C X.env) fp) tg g) (ht : ∀ (s : Shared) (H : Hp) (C : Addr) (cl : List (Str × Addr)) (fp : List Addr), PTs (X.blk s H scope (compEnvC scope cl C X.env) fp) ifs (tVt α W0 t))
    (he : ∀ (s : Shared) (H : Hp) (C : Addr) (cl : List (Str × Addr)) (fp : List Addr), PE (X.blk s H scope (compEnvC scope cl C X.env) fp) elt (tV α W0 e)) (hs : ∀ x, foldedSetIterable iter X.env x = pure x := by intro _; rfl) :
    PS X (.Assign [.Name y py] (.ListComp elt [⟨tg, iter, ifs, 0⟩] scope pos) spos) (tS α W (sSet i (evLcD it ts t e (own.map (·.2))))) := by
  obtain ⟨wi, pi, hi⟩ := hi
  refine PS.imp (ps_setLc (i := i) hc hN hy hyl hsw pi ok hg ht he hs) fun Dn σ H ⟨G, ρ, δ, μ, z, s, p⟩ => ?_
  refine lcD_imp hi hgs (fun _ _ _ h => h) (fun _ _ _ h => h) z s (SPost.bind (m := evLcD it ts t e (own.map (·.2)) δ μ) p s fun d μ1 v H1 G1 ρ1 u z1 r1 p1 => ?_)
  exact p1 _ H1 G1 ρ1 Up.refl z1 ((s.up u).set r1 i)
end
/-! ### items, len, isinstance of what may change -/
theorem reds_at {G : Hp} {ρ : List Addr} {vs : List V} {ds : List D} {i : Int} {d : D} (r : RepDs α G ρ vs ds) (h : atI ds i = some d) : ∃ v, atI vs i = some v ∧ RepD α G ρ v d := by
  unfold atI at h ⊢
  rw [r.length]
  cases q : ixN ds.length i with
  | none => rw [q] at h; cases h
  | some j =>
    rw [q] at h
    obtain ⟨v, h1, h2⟩ := r.get (show ds[j]? = some d from h)
    exact ⟨v, h1, h2⟩
def fIxD : F2 := fun x y μ => match items μ x, y with
  | some (_, ds, _), .p (.int i) => (atI ds i).map fun d => (d, μ)
  | _, _ => none
theorem o_ixD (hK : X.K = α.K) : IxR X (r2V α fIxD) := IxR.imp ix_seq fun x y H Q h => by
  obtain ⟨G, ρ, μ, dx, dy, z, rx, ry, q⟩ := h
  unfold fIxD at q
  rw [hK]
  split at q
  · rename_i b ds g i hv
    cases hi : atI ds i with
    | none => rw [hi] at q; exact q.elim
    | some d =>
      rw [hi] at q
      obtain ⟨a, rfl, ok, hs⟩ := items_ok z rx hv
      obtain ⟨vs, hv2, r⟩ := hs H G ρ μ Up.refl z ok
      obtain ⟨u, h3, h4⟩ := reds_at r hi
      cases b with
      | true => exact .inr (.inl ⟨a, vs, i, u, rfl, repInt ry, hv2, h3, q u H G ρ Up.refl z h4⟩)
      | false => exact .inl ⟨a, vs, i, u, rfl, repInt ry, hv2, h3, q u H G ρ Up.refl z h4⟩
  · exact q.elim
def fLenD : FA := fun ds μ => match ds with
  | [d] => match items μ d with
    | some (_, es, _) => some (.p (.int es.length), μ)
    | none => none
  | _ => none
theorem c_lenD (hK : X.K = α.K) : CallR X (.builtin "len") (rCV α fLenD) := CallR.imp (call_len_seq.or call_len_str) fun vs H Q ⟨G, ρ, μ, ds, z, r, q⟩ => by
  unfold fLenD at q
  rw [hK]
  split at q
  · rename_i d
    obtain ⟨v, rfl, r1⟩ := rds1 r
    split at q
    · rename_i b es g hv
      obtain ⟨a, rfl, ok, hs⟩ := items_ok z r1 hv
      obtain ⟨ws, h1, h2⟩ := hs H G ρ μ Up.refl z ok
      cases b with
      | true => exact .inl ⟨a, ws, rfl, .inr h1, by rw [h2.length]; exact q _ H G ρ Up.refl z (.int _)⟩
      | false => exact .inl ⟨a, ws, rfl, .inl h1, by rw [h2.length]; exact q _ H G ρ Up.refl z (.int _)⟩
    · exact q.elim
  · exact q.elim
/-- the kind that isinstance sees: a place with a list is one -/
def kindD (μ : Mu) : D → Option P
  | .p x => some x
  | .loc l => match μ[l]? with
    | some (some (.lst _)) => some (.lst [])
    | some (some (.dl _)) => some (.lst [])
    | _ => none
def evIsiD (t : P → Option Bool) (a : Ev) : Ev := fun δ μ => bindG (a δ μ) fun d μ1 => isiVEnd t μ1 (kindD μ1 d)
theorem tyx_kind {H G : Hp} {ρ : List Addr} {μ : Mu} {v : V} {d : D} {x : P} (z : Zn α H G ρ μ) (r : RepD α G ρ v d) (e : kindD μ d = some x) (O : ∀ c xs, x = .obj c xs → InsOwn α.K (α.cl c)) : TyX α.K H v (tyP α x) := by
  cases d with
  | p y => cases e; exact tyx_of z r O
  | loc l =>
    obtain ⟨a, rfl, ha⟩ := r
    unfold kindD at e
    dsimp only at e
    split at e
    · rename_i xs hx
      cases e
      obtain ⟨a', h1, h2, vs, h3, h4⟩ := z.cell l _ hx
      rw [ha] at h1; cases h1
      exact .base (.lst h3)
    · rename_i xs hx
      cases e
      obtain ⟨a', h1, h2, vs, h3, h4⟩ := z.cell l _ hx
      rw [ha] at h1; cases h1
      exact .base (.lst h3)
    · cases e
theorem v_isiD {t : P → Option Bool} {e ce : Expr} {ev : Ev} {cv : V} {cu : Value} {p pos : Pos} (hK : X.K = α.K) (hm : X.mg "isinstance" = none) (hv : bootBuiltins "isinstance" = some (.builtin "isinstance")) (ha : PE X e (tV α W ev)) (hc : PE X ce (tC cv)) (hcv : ClsV cv cu)
    (ht : ∀ x b, t x = some b → PySem.W.kitOne α.K (tyP α x) cu = some b ∧ ∀ c xs, x = .obj c xs → InsOwn α.K (α.cl c)) (hg : Gl X "isinstance" := by rfl)
    (hs : starEach [e, ce] X.env = (false, eval e X.env) :: starEach [ce] X.env := by rfl) (hs2 : starEach [ce] X.env = (false, eval ce X.env) :: starEach [] X.env := by rfl) (hpl : (backTo pos (starEach [ce] X.env)).any (·.1) = false := by rfl) :
    PE X (.Call (.Name "isinstance" p) [e, ce] [] pos) (tV α W (evIsiD t ev)) :=
  PE.imp (pe_callB call_isi hg hm hv (pa_cons ha (pa_cons hc pa_nil hs2) hs) (by decide) (by decide) hs hpl) fun σ H Q ⟨G, ρ, δ, μ, z, s, p⟩ => ⟨G, ρ, δ, μ, z, s, Post.bind p fun d μ1 v H1 G1 ρ1 u z1 r1 p1 => by
    cases q0 : kindD μ1 d with
    | none => rw [q0] at p1; exact p1.elim
    | some x =>
      cases q : t x with
      | none => rw [q0] at p1; unfold isiVEnd at p1; dsimp only at p1; rw [q] at p1; exact p1.elim
      | some b =>
        rw [q0] at p1
        unfold isiVEnd at p1
        dsimp only at p1
        rw [q] at p1
        obtain ⟨h1, h2⟩ := ht x b q
        exact ⟨v, cv, tyP α x, cu, b, rfl, hcv, by rw [hK]; exact tyx_kind z1 r1 q0 h2, by rw [hK]; exact h1, p1 _ H1 G1 ρ1 Up.refl z1 (.bl _)⟩⟩
/-! ### append to a list of places -/
def isDl (μ : Mu) : D → Bool
  | .loc l => match μ[l]? with
    | some (some (.dl _)) => true
    | _ => false
  | _ => false
theorem ty_dl {H G : Hp} {ρ : List Addr} {μ : Mu} {v : V} {d : D} (z : Zn α H G ρ μ) (r : RepD α G ρ v d) (h : isDl μ d = true) : tyV X.K "list" v H := by
  unfold isDl at h
  split at h
  · rename_i l
    split at h
    · rename_i ds hm
      obtain ⟨a, rfl, ha⟩ := r
      obtain ⟨a', h1, h2, vs, h3, h4⟩ := z.cell l _ hm
      rw [ha] at h1; cases h1
      exact .inl ⟨rfl, vs, SqL.of h3⟩
    · cases h
  · cases h
/-- data, to the end of a list of places -/
def fAppD : FM := fun x ds μ => match x, ds with
  | .loc l, [d] => match toP μ d with
    | some (y, μ1) => match μ1[l]? with
      | some (some (.dl es)) => if es.length < sizeLine then some (.p .non, μ1.set l (some (.dl (es ++ [.p y])))) else none
      | _ => none
    | none => none
  | _, _ => none
theorem m_appendD : MtR X "list.append" (rMV α fAppD) := MtR.imp mt_append fun x vs H Q ⟨G, ρ, μ, d, ds, z, r, rs, q⟩ => by
  unfold fAppD at q
  split at q
  · rename_i l d'
    obtain ⟨v, rfl, rs1⟩ := rds1 rs
    cases h1 : toP μ d' with
    | none => rw [h1] at q; exact q.elim
    | some ym =>
      obtain ⟨y, μ1⟩ := ym
      rw [h1] at q
      dsimp only at q
      obtain ⟨G1, u1, z1, r1⟩ := toP_ok z rs1 h1
      split at q
      · rename_i es h2
        split at q
        · rename_i hl
          obtain ⟨a, rfl, ha⟩ := r
          obtain ⟨a', g0, g1, ws, g2, g3, g4⟩ := z1.cell l _ h2
          rw [ha] at g0; cases g0
          exact ⟨a, ws, v, rfl, rfl, g2, by rw [g3.length]; exact hl, q _ _ G1 ρ u1 (z1.write h2 ha (m' := .dl (es ++ [.p y])) ⟨_, rfl, g3.append (.cons (show RepD α G1 ρ v (.p y) from r1) .nil), g4.app fun k hk => by simp at hk⟩) .non⟩
        · exact q.elim
      · exact q.elim
  · exact q.elim
/-! ### a list of places as data -/
noncomputable def frzD (μ : Mu) : D → Option (P × Mu)
  | .p x => some (x, μ)
  | .loc l => match μ[l]? with
    | some (some (.lst xs)) => some (.lst xs, μ.set l none)
    | some (some (.dl ds)) => match toPs μ ds with
      | some (xs, μ1) => gIf μ1 (some (l, .dl ds)) (some (.lst xs, μ1.set l none))
      | none => none
    | _ => none
theorem frzD_ok {H G : Hp} {ρ : List Addr} {μ μ' : Mu} (z : Zn α H G ρ μ) {v : V} {d : D} {x : P} (r : RepD α G ρ v d) (e : frzD μ d = some (x, μ')) : ∃ G', Up G ρ G' ρ ∧ Zn α H G' ρ μ' ∧ Rep α G' v x := by
  cases d with
  | p y => cases e; exact ⟨G, Up.refl, z, r⟩
  | loc l =>
    obtain ⟨a, rfl, ha⟩ := r
    unfold frzD at e
    dsimp only at e
    split at e
    · rename_i xs hx
      cases e
      obtain ⟨a', h1, h2, vs, h3, h4⟩ := z.cell l _ hx
      rw [ha] at h1; cases h1
      obtain ⟨z', g⟩ := z.freeze hx ha h3
      exact ⟨upd G a (.lst vs), up_new g, z', .lst upd_same (h4.mono (same_upd g))⟩
    · rename_i ds hx
      split at e
      · rename_i xs μ1 h1
        obtain ⟨ok, e⟩ := gIf_some e
        cases e
        obtain ⟨a1, g1, g2, vs, g3, g4, g5⟩ := z.cell l _ hx
        rw [ha] at g1; cases g1
        obtain ⟨G1, u1, z1, r1⟩ := toPs_ok z g4 h1
        obtain ⟨z2, g⟩ := z1.freeze (show μ1[l]? = some (some (.dl ds)) from ok) ha g3
        exact ⟨upd G1 _ (.lst vs), u1.trans (up_new g), z2, .lst upd_same (r1.mono (same_upd g))⟩
      · cases e
    · cases e
noncomputable def frzEnd : Option (P × Mu) → Option (Out D × Mu)
  | some (x, μ) => some (.ok (.p x), μ)
  | none => none
noncomputable def evFrz (e : Ev) : Ev := fun δ μ => bindG (e δ μ) fun d μ1 => frzEnd (frzD μ1 d)
theorem v_frz {e : Expr} {ev : Ev} (h : PE X e (tV α W ev)) : PE X e (tV α W (evFrz ev)) :=
  PE.imp h fun σ H Q ⟨G, ρ, δ, μ, z, s, p⟩ => ⟨G, ρ, δ, μ, z, s, Post.bind p fun d μ1 v H1 G1 ρ1 u z1 r1 p1 => by
    cases q : frzD μ1 d with
    | none => rw [q] at p1; exact p1.elim
    | some y =>
      obtain ⟨x, μ2⟩ := y
      rw [q] at p1
      obtain ⟨G2, u2, z2, r2⟩ := frzD_ok z1 r1 q
      exact p1 v H1 G2 ρ1 u2 z2 r2⟩
/-! ### [x] * n, a new list -/
def fRepC : F2 := fun x y μ => match x, y with
  | .p (.lst xs), .p (.int k) => if 0 ≤ k ∧ k < 2 ^ 63 ∧ xs.length * k.toNat ≤ sizeLine then some (.loc μ.length, μ ++ [some (.lst (List.replicate k.toNat xs).flatten)]) else none
  | _, _ => none
theorem reps_flatD {G : Hp} {vs : List V} {xs : List P} (r : Reps α G vs xs) : ∀ n : Nat, Reps α G (List.replicate n vs).flatten (List.replicate n xs).flatten
  | 0 => .nil
  | n + 1 => by
    rw [List.replicate_succ, List.replicate_succ, List.flatten_cons, List.flatten_cons]
    exact r.append (reps_flatD r n)
theorem o_repC : OpR X (binaryOp .Mult) (r2V α fRepC) := OpR.imp op_rep fun x y H Q h => by
  obtain ⟨G, ρ, μ, dx, dy, z, rx, ry, q⟩ := h
  unfold fRepC at q
  split at q
  · rename_i xs k
    split at q
    · rename_i hk
      have ry := repInt ry
      cases rx with
      | lst h r =>
        refine ⟨_, k, _, rfl, ry, z.sub _ _ h, by omega, hk.2.1, by rw [r.length]; exact hk.2.2, fun p hp => ?_⟩
        exact q _ _ _ _ up_place (z.place hp ⟨_, rfl, reps_flatD r _⟩) ⟨p, rfl, by rw [← z.len]; simp⟩
    · exact q.elim
  · exact q.elim
/-! ### a def whose places stay -/
def retK : Option (Fl × Sl × Mu) → Option (Out D × Mu)
  | some (.ret d, _, μ) => some (.ok d, μ)
  | some (.nx, _, μ) => some (.ok (.p .non), μ)
  | some (.exc c, _, μ) => some (.exc c, μ)
  | _ => none
def bodySemK (N : Nat) (sv : SEv) : FSem := fun ds μ => retK (bodyS N sv ds μ)
theorem retK_ok {E : XK} {Q : VK} {G : Hp} {ρ : List Addr} {r : Option (Fl × Sl × Mu)} (h : Post α (WF E) (RepD α) G ρ [] Q (retK r)) : SPost α (WF E) { nx := fun _ H' => Q .non H', rt := Q } G ρ r := by
  match r, h with
  | some (.ret d, δ, μ), h => exact h
  | some (.nx, δ, μ), h => exact fun σ' H' G' ρ' u z s => h .non H' G' ρ' u z .non
  | some (.exc c, δ, μ), h => exact fun σ' H' G' ρ' u z s => h H' G' ρ' u z
section
variable {P : Program} {w : World} {K : PySem.W.Frag} {mg : Str → Option Value} {base : Heap}
theorem fnVK {x qual : Str} {st : Stmt} {f : Addr} {fd : FuncData} {N ps : List Str} {k : Nat} {sv : SEv} (F : Fun K x qual st f fd) (S : FnScope N ps (defScope st))
    (hb : ∀ (cdv : Value) (A : Around) (outer : List Env) (s : Shared) (H : Hp) (E : XK), Room k (A.deeper (envOfC qual (defScope st) s.heap.objs.size f cdv)) →
      Takes (cxF P w K mg base N qual st f cdv A outer s H E) (WF E) → PassesOwn (model P w) (cxF P w K mg base N qual st f cdv A outer s H E).A (cxF P w K mg base N qual st f cdv A outer s H E).env (cxF P w K mg base N qual st f cdv A outer s H E).xe →
      PSs (cxF P w K mg base N qual st f cdv A outer s H E) (defBody st) (tS α (WF E) sv)) :
    FnOk P w K mg base (L2.CX P w) (k + 1) f fd ps (spF α ps.length (bodySemK N.length sv)) :=
  fnG F S (fun E Q G ρ H ds μ z p => retK_ok p) hb
end
end
end Vs
namespace Vs
open PySem PySem.Spec PyProof.Rows L2
structure TxT (K : PySem.W.Frag) (mg : Str → Option Value) (cs : List Addr) : Prop extends Tx K mg cs where
  b_zip : mg "zip" = none
  b_enumerate : mg "enumerate" = none
  b_any : mg "any" = none
end Vs
/-! Stores that grow; tables at places; comprehensions that make places. -/
namespace Vs
open PySem PySem.Spec PyProof.Rows L2
/-! ### stores that grow -/
structure Ext (μ ν : Mu) : Prop where
  len : μ.length ≤ ν.length
  get : ∀ j, j < μ.length → ν[j]? = μ[j]?
theorem Ext.refl {μ : Mu} : Ext μ μ := ⟨Nat.le_refl _, fun _ _ => rfl⟩
theorem Ext.trans {μ ν ξ : Mu} (a : Ext μ ν) (b : Ext ν ξ) : Ext μ ξ := ⟨Nat.le_trans a.len b.len, fun j h => (b.get j (Nat.lt_of_lt_of_le h a.len)).trans (a.get j h)⟩
theorem Ext.app {μ : Mu} (r : Mu) : Ext μ (μ ++ r) := ⟨by simp, fun j h => List.getElem?_append_left h⟩
theorem Ext.set {μ ν : Mu} (e : Ext μ ν) {l : Nat} (h : μ.length ≤ l) (o : Option MO) : Ext μ (ν.set l o) := ⟨by rw [List.length_set]; exact e.len, fun j hj => by rw [List.getElem?_set_ne (by omega)]; exact e.get j hj⟩
theorem Ext.take {μ ν : Mu} (e : Ext μ ν) : ν.take μ.length = μ := by
  apply List.ext_getElem?
  intro j
  by_cases h : j < μ.length
  · rw [List.getElem?_take_of_lt h, e.get j h]
  · rw [List.getElem?_eq_none (by rw [List.length_take]; have := e.len; omega), List.getElem?_eq_none (by omega)]
theorem Ext.at {μ ν : Mu} (e : Ext μ ν) {l : Nat} {m : Option MO} (h : μ[l]? = some m) : ν[l]? = some m := by
  rw [e.get l (List.getElem?_eq_some_iff.mp h).1]; exact h
theorem Ext.ok {μ ν : Mu} (e : Ext μ ν) {g : Gd} (h : okG μ g) : okG ν g := by
  cases g with
  | none => trivial
  | some x => exact e.at h
theorem Ext.of {μ ν : Mu} (h : μ.length ≤ ν.length) (g : ∀ j, j < μ.length → ν[j]? = μ[j]?) : Ext μ ν := ⟨h, g⟩
theorem Ext.eq {μ ν : Mu} (e : Ext μ ν) (h : ν.length = μ.length) : ν = μ := by
  have := e.take
  rwa [← h, List.take_length] at this
/-! ### a list of places, each with a list of data -/
structure Live (n0 : Nat) (μ : Mu) (l : Nat) (Rs : List (List P)) (ks : List Nat) : Prop where
  len : ks.length = Rs.length
  pw : ks.Pairwise (· < ·)
  lo : ∀ k ∈ ks, n0 ≤ k
  hi : ∀ k ∈ ks, k < l
  l0 : n0 ≤ l
  at' : μ[l]? = some (some (.dl (ks.map .loc)))
  row : ∀ (i k : Nat) (R : List P), ks[i]? = some k → Rs[i]? = some R → μ[k]? = some (some (.lst R))
theorem Live.ext {n0 : Nat} {μ ν : Mu} {l : Nat} {Rs : List (List P)} {ks : List Nat} (L : Live n0 μ l Rs ks) (e : Ext μ ν) : Live n0 ν l Rs ks :=
  ⟨L.len, L.pw, L.lo, L.hi, L.l0, e.at L.at', fun i k R h h2 => e.at (L.row i k R h h2)⟩
theorem Live.le {n0 n1 : Nat} {μ : Mu} {l : Nat} {Rs : List (List P)} {ks : List Nat} (L : Live n0 μ l Rs ks) (h : n1 ≤ n0) : Live n1 μ l Rs ks :=
  ⟨L.len, L.pw, fun k hk => Nat.le_trans h (L.lo k hk), L.hi, Nat.le_trans h L.l0, L.at', L.row⟩
theorem Live.get {n0 : Nat} {μ : Mu} {l : Nat} {Rs : List (List P)} {ks : List Nat} (L : Live n0 μ l Rs ks) {i : Nat} {R : List P} (h : Rs[i]? = some R) : ∃ k, ks[i]? = some k ∧ μ[k]? = some (some (.lst R)) := by
  have hi : i < ks.length := by rw [L.len]; exact (List.getElem?_eq_some_iff.mp h).1
  exact ⟨ks[i], List.getElem?_eq_getElem hi, L.row i _ R (List.getElem?_eq_getElem hi) h⟩
theorem Live.lt {n0 : Nat} {μ : Mu} {l : Nat} {Rs : List (List P)} {ks : List Nat} (L : Live n0 μ l Rs ks) : l < μ.length := (List.getElem?_eq_some_iff.mp L.at').1
theorem pw_ne {ks : List Nat} (h : ks.Pairwise (· < ·)) {i j k : Nat} (h1 : ks[i]? = some k) (h2 : ks[j]? = some k) : i = j := by
  have a := List.getElem?_eq_some_iff.mp h1
  have b := List.getElem?_eq_some_iff.mp h2
  obtain ⟨a1, a2⟩ := a
  obtain ⟨b1, b2⟩ := b
  rw [List.pairwise_iff_getElem] at h
  rcases Nat.lt_trichotomy i j with q | q | q
  · have := h i j a1 b1 q; omega
  · exact q
  · have := h j i b1 a1 q; omega
/-- a row is written -/
theorem Live.set {n0 : Nat} {μ : Mu} {l : Nat} {Rs : List (List P)} {ks : List Nat} (L : Live n0 μ l Rs ks) {i k : Nat} (h : ks[i]? = some k) (R : List P) : Live n0 (μ.set k (some (.lst R))) l (Rs.set i R) ks := by
  have hk := List.mem_of_getElem? h
  have hlt := L.hi k hk
  refine ⟨by rw [List.length_set]; exact L.len, L.pw, L.lo, L.hi, L.l0, by rw [List.getElem?_set_ne (by omega)]; exact L.at', fun j k' R' h1 h2 => ?_⟩
  by_cases q : i = j
  · subst q
    rw [h] at h1; cases h1
    rw [List.getElem?_set_self (by have := (List.getElem?_eq_some_iff.mp h).1; have := L.len; omega)] at h2
    cases h2
    exact List.getElem?_set_self (Nat.lt_trans hlt L.lt)
  · rw [List.getElem?_set_ne q] at h2
    have hne : k ≠ k' := fun z => by subst z; exact q (pw_ne L.pw h h1)
    rw [List.getElem?_set_ne hne]
    exact L.row j k' R' h1 h2
theorem items_live {n0 : Nat} {μ : Mu} {l : Nat} {Rs : List (List P)} {ks : List Nat} (L : Live n0 μ l Rs ks) : items μ (.loc l) = some (false, ks.map .loc, some (l, .dl (ks.map .loc))) := by
  unfold items; dsimp only; rw [L.at']
theorem items_lst {μ : Mu} {k : Nat} {R : List P} (h : μ[k]? = some (some (.lst R))) : items μ (.loc k) = some (false, R.map .p, some (k, .lst R)) := by
  unfold items; dsimp only; rw [h]
@[simp] theorem items_plst {μ : Mu} {R : List P} : items μ (.p (.lst R)) = some (false, R.map .p, none) := rfl
/-- frozen -/
theorem toPs_live : ∀ {ks : List Nat} {Rs : List (List P)} {μ : Mu}, ks.length = Rs.length → ks.Pairwise (· < ·) → (∀ (i k : Nat) (R : List P), ks[i]? = some k → Rs[i]? = some R → μ[k]? = some (some (.lst R))) →
    ∃ ν, toPs μ (ks.map .loc) = some (Rs.map .lst, ν) ∧ ν.length = μ.length ∧ ∀ j, j ∉ ks → ν[j]? = μ[j]?
  | [], [], μ, _, _, _ => ⟨μ, rfl, rfl, fun _ _ => rfl⟩
  | k :: ks, R :: Rs, μ, hl, pw, h => by
    have h0 := h 0 k R rfl rfl
    rw [List.pairwise_cons] at pw
    obtain ⟨ν, e, l, g⟩ := toPs_live (μ := μ.set k none) (by simpa using hl) pw.2 (fun i k' R' h1 h2 => by
      have := pw.1 k' (List.mem_of_getElem? h1)
      rw [List.getElem?_set_ne (by omega)]
      exact h (i + 1) k' R' (by simpa using h1) (by simpa using h2))
    refine ⟨ν, ?_, by rw [l, List.length_set], fun j hj => ?_⟩
    · show (match toP μ (.loc k) with
        | some (x, μ1) => match toPs μ1 (ks.map .loc) with
          | some (xs, μ2) => some (x :: xs, μ2)
          | none => none
        | none => none) = _
      have e0 : toP μ (.loc k) = some (.lst R, μ.set k none) := by
        show (cellL μ k).map _ = _
        rw [cellL_l h0]; rfl
      rw [e0]; dsimp only; rw [e]; rfl
    · rw [g j (fun z => hj (List.mem_cons_of_mem _ z)), List.getElem?_set_ne (fun z => hj (by rw [z]; exact List.mem_cons_self))]
theorem frz_live {n0 : Nat} {μ : Mu} {l : Nat} {Rs : List (List P)} {ks : List Nat} (L : Live n0 μ l Rs ks) : ∃ ν, frzD μ (.loc l) = some (.lst (Rs.map .lst), ν) ∧ ν.length = μ.length ∧ ∀ j, j < n0 → ν[j]? = μ[j]? := by
  obtain ⟨ν, e, hl, g⟩ := toPs_live L.len L.pw L.row
  refine ⟨ν.set l none, ?_, by rw [List.length_set]; exact hl, fun j hj => ?_⟩
  · unfold frzD
    dsimp only
    rw [L.at']
    dsimp only
    rw [e]
    dsimp only
    rw [gIf_pos (show okG ν (some (l, .dl (ks.map .loc))) from (g l (fun z => Nat.lt_irrefl _ (L.hi l z))).trans L.at')]
  · have := L.l0
    rw [List.getElem?_set_ne (by omega), g j (fun z => by have := L.lo j z; omega)]
section
variable {δ : Sl} {μ ν : Mu} {e : Ev}
@[simp] theorem evFrz_eq : evFrz e δ μ = bindG (e δ μ) fun d μ1 => frzEnd (frzD μ1 d) := rfl
@[simp] theorem frzEnd_some {x : P} : frzEnd (some (x, μ)) = some (.ok (.p x), μ) := rfl
@[simp] theorem frzD_p {x : P} : frzD μ (.p x) = some (x, μ) := rfl
@[simp] theorem evIsiD_eq {t : P → Option Bool} : evIsiD t e δ μ = bindG (e δ μ) fun d μ1 => isiVEnd t μ1 (kindD μ1 d) := rfl
@[simp] theorem evItL_eq : evItL e δ μ = bindG (e δ μ) fun d μ1 => match items μ1 d with
  | some (_, ds, g) => some (.ok (ds.map .one, g), μ1)
  | none => none := rfl
@[simp] theorem evUpI_eq {it : EvG (List P)} : evUpI it δ μ = bindG (it δ μ) fun xs μ1 => some (.ok (xs.map fun x => .one (.p x), none), μ1) := rfl
theorem bodySemK_eq {N : Nat} {a : SEv} {ds : List D} : bodySemK N a ds μ = retK (a (ds.map some ++ List.replicate (N - ds.length) none) μ) := rfl
@[simp] theorem retK_ret {d : D} : retK (some (.ret d, δ, μ)) = some (.ok d, μ) := rfl
@[simp] theorem retK_nx : retK (some (.nx, δ, μ)) = some (.ok (.p .non), μ) := rfl
@[simp] theorem retK_exc {c : Nat} : retK (some (.exc c, δ, μ)) = some (.exc c, μ) := rfl
/-- a comprehension that makes one list that may change -/
theorem lcC_map {A : Type} {it : EvG (List P)} {ts : Tgt} {vs : List Nat} {as : List A} (g f : A → P) (hi : it δ μ = some (.ok (as.map g), ν)) (h : ∀ a ∈ as, ∃ δ1, ts (g a) (wipeS δ vs) = some δ1 ∧ ∀ ξ, e δ1 ξ = some (.ok (.p (f a)), ξ)) (hl : as.length ≤ sizeLine) :
    evLcC it ts evTrue e vs δ μ = some (.ok (.loc ν.length), ν ++ [some (.lst (as.map f))]) := by
  show bindG (it δ μ) (fun xs μ1 => lcEndC μ1.length (lcL ts evTrue e (wipeS δ vs) μ1.length xs (μ1 ++ [some (.lst [])]))) = _
  rw [hi, bindG_ok, lcL_map g f as [] h (by simpa using hl)]
  unfold lcEndC
  dsimp only
  rw [cellL_end rfl, List.nil_append]
  dsimp only
  rw [show ν.length + 1 = (ν ++ [some (MO.lst (as.map f))]).length by simp, List.take_length]
/-- a comprehension that makes a list of places, each a new list -/
theorem lcD_loop {A : Type} {ts : TgtI} {δ0 : Sl} (g : A → It2) (F : A → List P) {n0 : Nat} {gd : Gd} : ∀ (as : List A) (acc : List (List P)) (ks : List Nat) (μ : Mu) (l : Nat), (∀ a ∈ as, ∃ δ1, ts (g a) δ0 = some δ1 ∧ ∀ ξ, Ext ν ξ → e δ1 ξ = some (.ok (.loc ξ.length), ξ ++ [some (.lst (F a))])) → Ext ν μ → okG ν gd → n0 ≤ ν.length → ν.length ≤ l → Live n0 μ l acc ks → acc.length + as.length ≤ sizeLine →
    ∃ μ' l' ks', lcD ts evTrue e gd δ0 l (as.map g) μ = some (l', μ') ∧ Ext ν μ' ∧ Live n0 μ' l' (acc ++ as.map F) ks' ∧ ν.length ≤ l'
  | [], acc, ks, μ, l, h, ex, ok, h0, hl, L, hs => by
    refine ⟨μ, l, ks, ?_, ex, by simpa using L, hl⟩
    simp only [List.map_nil]
    unfold lcD
    exact gIf_pos (ex.ok ok)
  | a :: as, acc, ks, μ, l, h, ex, ok, h0, hl, L, hs => by
    obtain ⟨δ1, h1, h2⟩ := h a List.mem_cons_self
    have h3 := h2 μ ex
    have hL := L.lt
    have exA : Ext μ (μ ++ [some (MO.lst (F a))]) := Ext.app _
    have L2 := L.ext exA
    have ex2 : Ext ν ((μ ++ [some (MO.lst (F a))]).set l none ++ [some (.dl (ks.map .loc ++ [.loc μ.length]))]) := ((ex.trans exA).set hl none).trans (Ext.app _)
    have hlen : ((μ ++ [some (MO.lst (F a))]).set l none).length = μ.length + 1 := by simp
    have L3 : Live n0 ((μ ++ [some (MO.lst (F a))]).set l none ++ [some (.dl (ks.map .loc ++ [.loc μ.length]))]) (μ ++ [some (MO.lst (F a))]).length (acc ++ [F a]) (ks ++ [μ.length]) := by
      have hm : ∀ k ∈ ks, k < μ.length := fun k hk => Nat.lt_trans (L.hi k hk) hL
      refine ⟨by simp [L.len], ?_, fun k hk => ?_, fun k hk => ?_, by simp; have := L.l0; omega, ?_, fun i k R e1 e2 => ?_⟩
      · rw [List.pairwise_append]
        exact ⟨L.pw, by simp, fun x hx y hy => by simp at hy; subst hy; exact hm x hx⟩
      · rcases List.mem_append.mp hk with q | q
        · exact L.lo k q
        · simp at q; have := L.l0; omega
      · rcases List.mem_append.mp hk with q | q
        · have := hm k q; simp; omega
        · simp at q; simp; omega
      · rw [List.getElem?_append_right (by simp)]
        simp
      · by_cases hi : i < ks.length
        · rw [List.getElem?_append_left hi] at e1
          rw [List.getElem?_append_left (by rw [← L.len]; exact hi)] at e2
          have hk := List.mem_of_getElem? e1
          have := L.hi k hk
          have := hm k hk
          rw [List.getElem?_append_left (by rw [hlen]; omega), List.getElem?_set_ne (by omega)]
          exact L2.row i k R e1 e2
        · rw [List.getElem?_append_right (by omega)] at e1
          rw [List.getElem?_append_right (by rw [← L.len]; omega)] at e2
          by_cases h0 : i - ks.length = 0
          · rw [h0] at e1
            rw [show i - acc.length = 0 by rw [← L.len]; exact h0] at e2
            simp at e1 e2
            subst e1; subst e2
            rw [List.getElem?_append_left (by rw [hlen]; omega), List.getElem?_set_ne (by omega)]
            simp
          · rw [List.getElem?_eq_none (by simp; omega)] at e1; cases e1
    obtain ⟨μ', l', ks', r1, r2, r3, r4⟩ := lcD_loop g F as (acc ++ [F a]) (ks ++ [μ.length]) _ _ (fun b hb => h b (List.mem_cons_of_mem _ hb)) ex2 ok h0 (by simp; have := ex.len; omega) L3 (by simp at hs ⊢; omega)
    refine ⟨μ', l', ks', ?_, r2, by simpa using r3, r4⟩
    rw [List.map_cons]
    unfold lcD
    rw [gIf_pos (ex.ok ok), h1]
    dsimp only
    rw [evTrue_eq]
    dsimp only
    rw [h3]
    dsimp only
    rw [L2.at']
    dsimp only
    rw [if_pos (by have := L.len; simp at hs ⊢; omega)]
    exact r1
theorem lcD_map {A : Type} {it : EvI} {ts : TgtI} {vs : List Nat} {as : List A} {gd : Gd} (g : A → It2) (F : A → List P) (hi : it δ μ = some (.ok (as.map g, gd), ν)) (hg : okG ν gd) (h : ∀ a ∈ as, ∃ δ1, ts (g a) (wipeS δ vs) = some δ1 ∧ ∀ ξ, Ext ν ξ → e δ1 ξ = some (.ok (.loc ξ.length), ξ ++ [some (.lst (F a))])) (hl : as.length ≤ sizeLine) :
    ∃ μ' l ks, evLcD it ts evTrue e vs δ μ = some (.ok (.loc l), μ') ∧ Ext ν μ' ∧ Live ν.length μ' l (as.map F) ks := by
  have L0 : Live ν.length (ν ++ [some (MO.dl [])]) ν.length [] [] := ⟨rfl, .nil, fun k hk => by simp at hk, fun k hk => by simp at hk, Nat.le_refl _, by simp, fun i k R h => by simp at h⟩
  obtain ⟨μ', l, ks, r1, r2, r3, r4⟩ := lcD_loop (e := e) (δ0 := wipeS δ vs) g F as [] [] (ν ++ [some (MO.dl [])]) ν.length h (Ext.app _) hg (Nat.le_refl _) (Nat.le_refl _) L0 (by simpa using hl)
  refine ⟨μ', l, ks, ?_, r2, by simpa using r3⟩
  show bindG (it δ μ) (fun xg μ1 => finD (lcD ts evTrue e xg.2 (wipeS δ vs) μ1.length xg.1 (μ1 ++ [some (.dl [])]))) = _
  rw [hi, bindG_ok]
  dsimp only
  rw [r1]
  rfl
/-- a comprehension over what may change, whose items change nothing -/
theorem lcI_loop {A : Type} {ts : TgtI} {δ0 : Sl} (g : A → It2) (f : A → P) {gd : Gd} (hg : okG ν gd) : ∀ (as : List A) (acc : List P), (∀ a ∈ as, ∃ δ1, ts (g a) δ0 = some δ1 ∧ ∀ ξ, Ext ν ξ → e δ1 ξ = some (.ok (.p (f a)), ξ)) → acc.length + as.length ≤ sizeLine →
    lcI ts evTrue e gd δ0 ν.length (as.map g) (ν ++ [some (.lst acc)]) = some (ν ++ [some (.lst (acc ++ as.map f))])
  | [], acc, h, hl => by
    simp only [List.map_nil, List.append_nil]
    unfold lcI
    exact gIf_pos ((Ext.app _).ok hg)
  | a :: as, acc, h, hl => by
    obtain ⟨δ1, h1, h2⟩ := h a List.mem_cons_self
    have hl' : acc.length < sizeLine := by simp at hl; omega
    have ih := lcI_loop g f hg as (acc ++ [f a]) (fun y hy => h y (List.mem_cons_of_mem _ hy)) (by simp at hl ⊢; omega)
    rw [List.map_cons]
    unfold lcI
    rw [gIf_pos ((Ext.app _).ok hg), h1]
    dsimp only
    rw [evTrue_eq]
    dsimp only
    rw [h2 _ (Ext.app _)]
    dsimp only
    rw [toP_p]
    dsimp only
    rw [cellL_end rfl]
    dsimp only
    rw [if_pos hl', set_end rfl, ih, List.append_assoc]
    rfl
theorem lcI_map {A : Type} {it : EvI} {ts : TgtI} {vs : List Nat} {as : List A} {gd : Gd} (g : A → It2) (f : A → P) (hi : it δ μ = some (.ok (as.map g, gd), ν)) (hg : okG ν gd) (h : ∀ a ∈ as, ∃ δ1, ts (g a) (wipeS δ vs) = some δ1 ∧ ∀ ξ, Ext ν ξ → e δ1 ξ = some (.ok (.p (f a)), ξ)) (hl : as.length ≤ sizeLine) :
    evLcI it ts evTrue e vs δ μ = some (.ok (.p (.lst (as.map f))), ν) := by
  show bindG (it δ μ) (fun xg μ1 => lcEnd μ1.length (lcI ts evTrue e xg.2 (wipeS δ vs) μ1.length xg.1 (μ1 ++ [some (.lst [])]))) = _
  rw [hi, bindG_ok]
  dsimp only
  rw [lcI_loop g f hg as [] h (by simpa using hl)]
  unfold lcEnd
  dsimp only
  rw [cellL_end rfl]
  dsimp only
  rw [List.take_left, List.nil_append]
theorem forI_nx {ts : TgtI} {body : SEv} {gd : Gd} {x : It2} {xs : List It2} {δ δ1 δ2 : Sl} {μ μ2 : Mu} (hg : okG μ gd) (h1 : ts x δ = some δ1) (h2 : body δ1 μ = some (.nx, δ2, μ2)) : forI ts body gd (x :: xs) δ μ = forI ts body gd xs δ2 μ2 := by
  rw [forI]
  rw [gIf_pos hg, h1]; dsimp only; rw [h2]
theorem forI_end {ts : TgtI} {body : SEv} {gd : Gd} {δ : Sl} {μ : Mu} (hg : okG μ gd) : forI ts body gd [] δ μ = some (.nx, δ, μ) := gIf_pos hg
@[simp] theorem sForI_eq {it : EvI} {ts : TgtI} {a : SEv} : sForI it ts a δ μ = bindS (it δ μ) δ fun xg μ1 => forI ts a xg.2 xg.1 δ μ1 := rfl
@[simp] theorem tgNI_one {i : Nat} {d : D} : tgNI i (.one d) δ = some (δ.set i (some d)) := rfl
@[simp] theorem tgTI_two {i j : Nat} {d f : D} : tgTI i j (.two d f) δ = some ((δ.set i (some d)).set j (some f)) := rfl
@[simp] theorem tgUp_one {ts : Tgt} {x : P} : tgUp ts (.one (.p x)) δ = ts x δ := rfl
end
end Vs
namespace Vs
open PySem PySem.Spec PyProof.Rows L2
/-! ### _law_lower -/
/-! ### _law_lower -/
noncomputable def sv__law_lower : SEv := (seqS (sIf (evB (evBin (fIs false) (evV 0) (evC .non))) (sRet (evV 1)) sNil) (seqS (sIf (tOrV' (evB (evBin (fIs false) (evV 1) (evC .non))) (evB (evCall m__law_less [] (evCons (evV 0) (evCons (evV 1) evNil))))) (sRet (evV 0)) sNil) (sRet (evV 1))))
noncomputable def m__law_lower : FSem := arF 2 (bodySem 2 sv__law_lower)
theorem ar__law_lower : Arity m__law_lower 2 := arF_ar
theorem le__law_lower : ∀ ds μ r, m__law_lower ds μ = some r → bodySem 2 sv__law_lower ds μ = some r := arF_le
/-! ### _law_closed -/
noncomputable abbrev lb__law_closed_0 : SEv := (sIf (tAndV' (evB (evBin (fIs true) (evBin fIx (evBin fIx (evV 5) (evV 4)) (evV 9)) (evC .non))) (evB (evBin (fIs true) (evBin fIx (evBin fIx (evV 2) (evV 9)) (evV 3)) (evC .non)))) (sSetIx (evV 8) (evV 3) (evCall m__law_lower [] (evCons (evBin fIx (evV 8) (evV 3)) (evCons (evCall m__law_sum [] (evCons (evBin fIx (evBin fIx (evV 5) (evV 4)) (evV 9)) (evCons (evBin fIx (evBin fIx (evV 2) (evV 9)) (evV 3)) evNil))) evNil)))) sNil)
noncomputable abbrev lb__law_closed_1 : SEv := (sFor (evRng1 (evV 1)) (tgN 3) (sIf (tAndV' (evB (evBin (fIs true) (evBin fIx (evBin fIx (evV 5) (evV 4)) (evV 9)) (evC .non))) (evB (evBin (fIs true) (evBin fIx (evBin fIx (evV 2) (evV 9)) (evV 3)) (evC .non)))) (sSetIx (evV 8) (evV 3) (evCall m__law_lower [] (evCons (evBin fIx (evV 8) (evV 3)) (evCons (evCall m__law_sum [] (evCons (evBin fIx (evBin fIx (evV 5) (evV 4)) (evV 9)) (evCons (evBin fIx (evBin fIx (evV 2) (evV 9)) (evV 3)) evNil))) evNil)))) sNil))
noncomputable abbrev lb__law_closed_2 : SEv := (seqS (sSet 8 (evBI fListC (evCons (evBin fIx (evV 5) (evV 4)) evNil))) (seqS (sFor (evRng1 (evV 1)) (tgN 9) (sFor (evRng1 (evV 1)) (tgN 3) (sIf (tAndV' (evB (evBin (fIs true) (evBin fIx (evBin fIx (evV 5) (evV 4)) (evV 9)) (evC .non))) (evB (evBin (fIs true) (evBin fIx (evBin fIx (evV 2) (evV 9)) (evV 3)) (evC .non)))) (sSetIx (evV 8) (evV 3) (evCall m__law_lower [] (evCons (evBin fIx (evV 8) (evV 3)) (evCons (evCall m__law_sum [] (evCons (evBin fIx (evBin fIx (evV 5) (evV 4)) (evV 9)) (evCons (evBin fIx (evBin fIx (evV 2) (evV 9)) (evV 3)) evNil))) evNil)))) sNil))) (sExpr (evBM isLst fApp (evV 7) (evCons (evV 8) evNil)))))
noncomputable abbrev lb__law_closed_3 : SEv := (seqS (sSet 7 (evLstC evNil)) (seqS (sFor (evRng1 (evV 1)) (tgN 4) (seqS (sSet 8 (evBI fListC (evCons (evBin fIx (evV 5) (evV 4)) evNil))) (seqS (sFor (evRng1 (evV 1)) (tgN 9) (sFor (evRng1 (evV 1)) (tgN 3) (sIf (tAndV' (evB (evBin (fIs true) (evBin fIx (evBin fIx (evV 5) (evV 4)) (evV 9)) (evC .non))) (evB (evBin (fIs true) (evBin fIx (evBin fIx (evV 2) (evV 9)) (evV 3)) (evC .non)))) (sSetIx (evV 8) (evV 3) (evCall m__law_lower [] (evCons (evBin fIx (evV 8) (evV 3)) (evCons (evCall m__law_sum [] (evCons (evBin fIx (evBin fIx (evV 5) (evV 4)) (evV 9)) (evCons (evBin fIx (evBin fIx (evV 2) (evV 9)) (evV 3)) evNil))) evNil)))) sNil))) (sExpr (evBM isLst fApp (evV 7) (evCons (evV 8) evNil)))))) (sSet 5 (evV 7))))
/-! ### _law_closed -/
noncomputable def sv__law_closed : SEv := (seqS (sSet 1 (evBI fLen (evCons (evV 0) evNil))) (seqS (sSet 2 (evLc (evRng1 (evV 1)) (tgN 4) evTrue (evLc (evRng1 (evV 1)) (tgN 3) evTrue (evCall m__law_lower [] (evCons (evBin fIx (evBin fIx (evV 0) (evV 4)) (evV 3)) (evCons (evBin fIx (evLst (evCons (evC .non) (evCons (evTup (evCons (evC (.int 0)) (evCons (evC (.int 1)) evNil))) evNil))) (evBI fInt (evCons (evBin fEq (evV 4) (evV 3)) evNil))) evNil))) [3]) [4])) (seqS (sSet 5 (evV 2)) (seqS (sFor (evRng1 (evV 1)) (tgN 6) (seqS (sSet 7 (evLstC evNil)) (seqS (sFor (evRng1 (evV 1)) (tgN 4) (seqS (sSet 8 (evBI fListC (evCons (evBin fIx (evV 5) (evV 4)) evNil))) (seqS (sFor (evRng1 (evV 1)) (tgN 9) (sFor (evRng1 (evV 1)) (tgN 3) (sIf (tAndV' (evB (evBin (fIs true) (evBin fIx (evBin fIx (evV 5) (evV 4)) (evV 9)) (evC .non))) (evB (evBin (fIs true) (evBin fIx (evBin fIx (evV 2) (evV 9)) (evV 3)) (evC .non)))) (sSetIx (evV 8) (evV 3) (evCall m__law_lower [] (evCons (evBin fIx (evV 8) (evV 3)) (evCons (evCall m__law_sum [] (evCons (evBin fIx (evBin fIx (evV 5) (evV 4)) (evV 9)) (evCons (evBin fIx (evBin fIx (evV 2) (evV 9)) (evV 3)) evNil))) evNil)))) sNil))) (sExpr (evBM isLst fApp (evV 7) (evCons (evV 8) evNil)))))) (sSet 5 (evV 7))))) (seqS (sIf (evB (evBin fGt (evBI fLen (evCons (evLc (evRng1 (evV 1)) (tgN 4) (evB (evCall m__law_less [] (evCons (evBin fIx (evBin fIx (evV 5) (evV 4)) (evV 4)) (evCons (evTup (evCons (evC (.int 0)) (evCons (evC (.int 1)) evNil))) evNil)))) (evV 4) [4]) evNil)) (evC (.int 0)))) (sRet (evC .non)) sNil) (sRet (evV 5)))))))
noncomputable def m__law_closed : FSem := arF 1 (bodySem 10 sv__law_closed)
theorem ar__law_closed : Arity m__law_closed 1 := arF_ar
theorem le__law_closed : ∀ ds μ r, m__law_closed ds μ = some r → bodySem 10 sv__law_closed ds μ = some r := arF_le
/-! ### _law_table -/
noncomputable abbrev lb__law_table_0 : SEv := (sIf (evB (evBin (fIs false) (evV 4) (evC .non))) (sExpr (evBM isLst fApp (evV 3) (evCons (evC .non) evNil))) (sExpr (evBM isLst fApp (evV 3) (evCons (evCall m__law_ratio [] (evCons (evV 4) evNil)) evNil))))
noncomputable abbrev lb__law_table_1 : SEv := (seqS (sSet 3 (evLstC evNil)) (seqS (sFor (evIt (evV 2)) (tgN 4) (sIf (evB (evBin (fIs false) (evV 4) (evC .non))) (sExpr (evBM isLst fApp (evV 3) (evCons (evC .non) evNil))) (sExpr (evBM isLst fApp (evV 3) (evCons (evCall m__law_ratio [] (evCons (evV 4) evNil)) evNil))))) (sExpr (evBM isLst fApp (evV 1) (evCons (evV 3) evNil)))))
/-! ### _law_table -/
noncomputable def sv__law_table : SEv := (seqS (sSet 1 (evLstC evNil)) (seqS (sForI (evItL (evV 0)) (tgNI 2) (seqS (sSet 3 (evLstC evNil)) (seqS (sFor (evIt (evV 2)) (tgN 4) (sIf (evB (evBin (fIs false) (evV 4) (evC .non))) (sExpr (evBM isLst fApp (evV 3) (evCons (evC .non) evNil))) (sExpr (evBM isLst fApp (evV 3) (evCons (evCall m__law_ratio [] (evCons (evV 4) evNil)) evNil))))) (sExpr (evBM isLst fApp (evV 1) (evCons (evV 3) evNil)))))) (sRet (evV 1))))
noncomputable def m__law_table : FSem := arF 1 (bodySem 5 sv__law_table)
theorem ar__law_table : Arity m__law_table 1 := arF_ar
theorem le__law_table : ∀ ds μ r, m__law_table ds μ = some r → bodySem 5 sv__law_table ds μ = some r := arF_le
/-! ### _lesser -/
/-! ### _lesser -/
noncomputable def sv__lesser : SEv := (seqS (sIf (evB (evBin (fIs false) (evV 0) (evC .non))) (sRet (evV 1)) sNil) (seqS (sIf (tOrV' (evB (evBin (fIs false) (evV 1) (evC .non))) (tNotV (evB (evCall m_is_less [] (evCons (evV 1) (evCons (evV 0) evNil)))))) (sRet (evV 0)) sNil) (sRet (evV 1))))
noncomputable def m__lesser : FSem := arF 2 (bodySem 2 sv__lesser)
theorem ar__lesser : Arity m__lesser 2 := arF_ar
theorem le__lesser : ∀ ds μ r, m__lesser ds μ = some r → bodySem 2 sv__lesser ds μ = some r := arF_le
/-! ### _sum -/
/-! ### _sum -/
noncomputable def sv__sum : SEv := (seqS (sIf (tOrV' (evB (evBin (fIs false) (evV 0) (evC .non))) (evB (evBin (fIs false) (evV 1) (evC .non)))) (sRet (evC .non)) sNil) (sRet (evBin (fOwn 0 m_Ratiou_addu) (evV 0) (evV 1))))
noncomputable def m__sum : FSem := arF 2 (bodySem 2 sv__sum)
theorem ar__sum : Arity m__sum 2 := arF_ar
theorem le__sum : ∀ ds μ r, m__sum ds μ = some r → bodySem 2 sv__sum ds μ = some r := arF_le
/-! ### _by_way_of -/
/-! ### _by_way_of -/
noncomputable def sv__by_way_of : SEv := (seqS (sSet 4 (evLc (evIt (evBin fIx (evV 0) (evV 2))) (tgN 5) evTrue (evCall m__sum [] (evCons (evV 3) (evCons (evV 5) evNil))) [5])) (sRet (evLcD (evUpI (evIt (evV 0))) (tgUp (tgN 7)) evTrue (evLcC (evZip (evCons (evV 7) (evCons (evV 4) evNil))) (tgT [5, 6]) evTrue (evCall m__lesser [] (evCons (evV 5) (evCons (evCall m__sum [] (evCons (evBin fIx (evV 7) (evV 1)) (evCons (evV 6) evNil))) evNil))) [5, 6]) [7])))
noncomputable def m__by_way_of : FSem := arF 4 (bodySemK 8 sv__by_way_of)
theorem ar__by_way_of : Arity m__by_way_of 4 := arF_ar
theorem le__by_way_of : ∀ ds μ r, m__by_way_of ds μ = some r → bodySemK 8 sv__by_way_of ds μ = some r := arF_le
/-! ### closed -/
noncomputable abbrev lb_closed_0 : SEv := (sSetIx (evBin fIxD (evV 1) (evV 3)) (evV 3) (evCall m__lesser [] (evCons (evBin fIx (evV 2) (evV 3)) (evCons (evMake 0 2 m_Ratiou_initu [.int 1] (evCons (evC (.int 0)) evNil)) evNil))))
noncomputable abbrev lb_closed_1 : SEv := (seqS (sSet 1 (evCall m__by_way_of [] (evCons (evFrz (evV 1)) (evCons (evV 4) (evCons (evV 4) (evCons (evMake 0 2 m_Ratiou_initu [.int 1] (evCons (evC (.int 0)) evNil)) evNil)))))) (sIf (evB (evBI fAny (evCons (evLcI (evEnumL (evCons (evV 1) evNil)) (tgTI 3 2) evTrue (evCall m_is_less [] (evCons (evBin fIx (evV 2) (evV 3)) (evCons (evMake 0 2 m_Ratiou_initu [.int 1] (evCons (evC (.int 0)) evNil)) evNil))) [3, 2]) evNil))) (sRet (evC .non)) sNil))
/-! ### closed -/
noncomputable def sv_closed : SEv := (seqS (sSet 1 (evLcD (evUpI (evIt (evV 0))) (tgUp (tgN 2)) evTrue (evBI fListC (evCons (evV 2) evNil)) [2])) (seqS (sFor (evEnum (evCons (evV 0) evNil)) (tgT [3, 2]) (sSetIx (evBin fIxD (evV 1) (evV 3)) (evV 3) (evCall m__lesser [] (evCons (evBin fIx (evV 2) (evV 3)) (evCons (evMake 0 2 m_Ratiou_initu [.int 1] (evCons (evC (.int 0)) evNil)) evNil))))) (seqS (sFor (evRng1 (evBI fLenD (evCons (evV 1) evNil))) (tgN 4) (seqS (sSet 1 (evCall m__by_way_of [] (evCons (evFrz (evV 1)) (evCons (evV 4) (evCons (evV 4) (evCons (evMake 0 2 m_Ratiou_initu [.int 1] (evCons (evC (.int 0)) evNil)) evNil)))))) (sIf (evB (evBI fAny (evCons (evLcI (evEnumL (evCons (evV 1) evNil)) (tgTI 3 2) evTrue (evCall m_is_less [] (evCons (evBin fIx (evV 2) (evV 3)) (evCons (evMake 0 2 m_Ratiou_initu [.int 1] (evCons (evC (.int 0)) evNil)) evNil))) [3, 2]) evNil))) (sRet (evC .non)) sNil))) (sRet (evV 1)))))
noncomputable def m_closed : FSem := arF 1 (bodySemK 5 sv_closed)
theorem ar_closed : Arity m_closed 1 := arF_ar
theorem le_closed : ∀ ds μ r, m_closed ds μ = some r → bodySemK 5 sv_closed ds μ = some r := arF_le
/-! ### _law_shown -/
noncomputable abbrev lb__law_shown_0 : SEv := (sIf (evB (evBin (fIs false) (evV 4) (evC .non))) (sExpr (evBM isLst fApp (evV 3) (evCons (evC .non) evNil))) (sExpr (evBM isLst fApp (evV 3) (evCons (evCall m__law_told [] (evCons (evV 4) evNil)) evNil))))
noncomputable abbrev lb__law_shown_1 : SEv := (seqS (sIf (tNotV (evB (evIsiD (isiT 1 "list") (evV 2)))) (sRet (evC .non)) sNil) (seqS (sSet 3 (evLstC evNil)) (seqS (sForI (evItL (evV 2)) (tgNI 4) (sIf (evB (evBin (fIs false) (evV 4) (evC .non))) (sExpr (evBM isLst fApp (evV 3) (evCons (evC .non) evNil))) (sExpr (evBM isLst fApp (evV 3) (evCons (evCall m__law_told [] (evCons (evV 4) evNil)) evNil))))) (sExpr (evBM isLst fApp (evV 1) (evCons (evV 3) evNil))))))
/-! ### _law_shown -/
noncomputable def sv__law_shown : SEv := (seqS (sIf (tNotV (evB (evIsiD (isiT 1 "list") (evV 0)))) (sRet (evV 0)) sNil) (seqS (sSet 1 (evLstC evNil)) (seqS (sForI (evItL (evV 0)) (tgNI 2) (seqS (sIf (tNotV (evB (evIsiD (isiT 1 "list") (evV 2)))) (sRet (evC .non)) sNil) (seqS (sSet 3 (evLstC evNil)) (seqS (sForI (evItL (evV 2)) (tgNI 4) (sIf (evB (evBin (fIs false) (evV 4) (evC .non))) (sExpr (evBM isLst fApp (evV 3) (evCons (evC .non) evNil))) (sExpr (evBM isLst fApp (evV 3) (evCons (evCall m__law_told [] (evCons (evV 4) evNil)) evNil))))) (sExpr (evBM isLst fApp (evV 1) (evCons (evV 3) evNil))))))) (sRet (evV 1)))))
noncomputable def m__law_shown : FSem := arF 1 (bodySem 5 sv__law_shown)
theorem ar__law_shown : Arity m__law_shown 1 := arF_ar
theorem le__law_shown : ∀ ds μ r, m__law_shown ds μ = some r → bodySem 5 sv__law_shown ds μ = some r := arF_le
end Vs
/-! Tables of fractions, with None for no bound: by_way_of, closed. -/
namespace Vs
open PySem PySem.Spec PyProof.Rows L2
/-! ### fractions over one denominator -/
structure Nok (N : Nat) : Prop where
  pos : 0 < N
  lt : N < 2 ^ 3000
def Cz (N m : Nat) (q : Rat) : Prop := ∃ t : Int, q = Rat.divInt t (N : Int) ∧ Sz m t
section
variable {N m k : Nat} {a b : Rat}
theorem Cz.bz (hN : Nok N) (h : Cz N m a) (hm : m ≤ 200000 := by omega) : Bz 3000 a := by
  obtain ⟨t, rfl, ht⟩ := h
  have h0 : (N : Int) ≠ 0 := by have := hN.pos; omega
  exact ⟨by decide, (num_sz ht).mono (by omega), den_sz (show Sz 3000 (N : Int) by unfold Sz; rw [Int.natAbs_natCast]; exact hN.lt) h0⟩
theorem Cz.mono (h : Cz N m a) (e : m ≤ k) : Cz N k a := by
  obtain ⟨t, e1, ht⟩ := h
  exact ⟨t, e1, ht.mono e⟩
theorem Cz.add (hN : Nok N) (ha : Cz N m a) (hb : Cz N m b) : Cz N (m + 1) (a + b) := by
  obtain ⟨t, rfl, ht⟩ := ha
  obtain ⟨u, rfl, hu⟩ := hb
  have h0 : (N : Int) ≠ 0 := by have := hN.pos; omega
  refine ⟨t + u, ?_, by simpa using ht.add hu⟩
  rw [Rat.divInt_add_divInt _ _ h0 h0, ← Int.add_mul]
  exact Rat.divInt_mul_right h0
theorem Cz.neg (hN : Nok N) (ha : Cz N m a) : Cz N m (-a) := by
  obtain ⟨t, rfl, ht⟩ := ha
  exact ⟨-t, by rw [Rat.neg_divInt], ht.neg⟩
theorem cz0 : Cz N m 0 := ⟨0, by rw [Rat.zero_divInt], by unfold Sz; simpa using Nat.two_pow_pos m⟩
end
/-! ### with None -/
def opR : Option Rat → P
  | none => .non
  | some q => rat q
def opQ : Option Rat → P
  | none => .non
  | some q => pr q
@[simp] theorem opR_some {q : Rat} : opR (some q) = rat q := rfl
@[simp] theorem opQ_some {q : Rat} : opQ (some q) = pr q := rfl
@[simp] theorem opR_none : opR none = .non := rfl
@[simp] theorem opQ_none : opQ none = .non := rfl
def omin : Option Rat → Option Rat → Option Rat
  | none, b => b
  | a, none => a
  | some x, some y => some (if y < x then y else x)
def osum : Option Rat → Option Rat → Option Rat
  | some x, some y => some (x + y)
  | _, _ => none
def CzO (N m : Nat) (o : Option Rat) : Prop := ∀ q, o = some q → Cz N m q
section
variable {N m k : Nat} {a b : Option Rat} {μ : Mu}
theorem CzO.mono (h : CzO N m a) (e : m ≤ k) : CzO N k a := fun q hq => (h q hq).mono e
theorem czo_none : CzO N m none := fun q h => by cases h
theorem czo_some {q : Rat} (h : Cz N m q) : CzO N m (some q) := fun r e => by cases e; exact h
theorem CzO.min (ha : CzO N m a) (hb : CzO N m b) : CzO N m (omin a b) := fun q h => by
  unfold omin at h
  split at h
  · exact hb q h
  · exact ha q h
  · rename_i x y
    cases h
    split
    · exact hb _ rfl
    · exact ha _ rfl
theorem CzO.sum (hN : Nok N) (ha : CzO N m a) (hb : CzO N m b) : CzO N (m + 1) (osum a b) := fun q h => by
  unfold osum at h
  split at h
  · cases h
    exact (ha _ rfl).add hN (hb _ rfl)
  · cases h
@[simp] theorem isNon_rat {q : Rat} : isNon (.p (rat q)) = false := rfl
@[simp] theorem isNon_pr {q : Rat} : isNon (.p (pr q)) = false := rfl
theorem ev_sumO (hN : Nok N) (ha : CzO N m a) (hb : CzO N m b) (hm : m ≤ 200000 := by omega) : m__sum [.p (opR a), .p (opR b)] μ = some (.ok (.p (opR (osum a b))), μ) := by
  cases a with
  | none => simp [m__sum, arF, bodySem_eq, sv__sum, osum]
  | some x =>
    cases b with
    | none => simp [m__sum, arF, bodySem_eq, sv__sum, osum]
    | some y =>
      have e := fun ν : Mu => o_add' (μ := ν) ((ha x rfl).bz hN) ((hb y rfl).bz hN) (by decide)
      simp [m__sum, arF, bodySem_eq, sv__sum, osum, e]
theorem ev_lesser (hN : Nok N) (ha : CzO N m a) (hb : CzO N m b) (hm : m ≤ 200000 := by omega) : m__lesser [.p (opR a), .p (opR b)] μ = some (.ok (.p (opR (omin a b))), μ) := by
  cases a with
  | none => simp [m__lesser, arF, bodySem_eq, sv__lesser, omin]
  | some x =>
    cases b with
    | none => simp [m__lesser, arF, bodySem_eq, sv__lesser, omin]
    | some y =>
      have e := fun ν : Mu => ev_is_less (μ := ν) ((hb y rfl).bz hN) ((ha x rfl).bz hN) (by decide)
      by_cases h : y < x
      · simp [m__lesser, arF, bodySem_eq, sv__lesser, omin, e, h]
      · simp [m__lesser, arF, bodySem_eq, sv__lesser, omin, e, h]
end
/-! ### tables -/
abbrev Tf := Nat → Nat → Option Rat
def rwL (n : Nat) (F : Nat → P) : List P := (List.range n).map F
def rwP (n : Nat) (f : Tf) (i : Nat) : List P := rwL n fun j => opR (f i j)
def tbR (n : Nat) (f : Tf) : List (List P) := (List.range n).map (rwP n f)
def tbP (n : Nat) (f : Tf) : P := .lst ((tbR n f).map .lst)
theorem rwL_get {n i : Nat} {F : Nat → P} (h : i < n) : (rwL n F)[i]? = some (F i) := by
  unfold rwL; rw [List.getElem?_map, List.getElem?_range h]; rfl
theorem rwL_len {n : Nat} {F : Nat → P} : (rwL n F).length = n := by simp [rwL]
theorem rwP_get {n i j : Nat} {f : Tf} (h : j < n) : (rwP n f i)[j]? = some (opR (f i j)) := rwL_get h
theorem rwP_len {n i : Nat} {f : Tf} : (rwP n f i).length = n := rwL_len
theorem tbR_get {n i : Nat} {f : Tf} (h : i < n) : (tbR n f)[i]? = some (rwP n f i) := by
  unfold tbR; rw [List.getElem?_map, List.getElem?_range h]; rfl
theorem tbR_len {n : Nat} {f : Tf} : (tbR n f).length = n := by simp [tbR]
theorem tbR_congr {n : Nat} {f g : Tf} (h : ∀ i j, i < n → j < n → f i j = g i j) : tbR n f = tbR n g := by
  apply List.ext_getElem?
  intro i
  by_cases hi : i < n
  · rw [tbR_get hi, tbR_get hi]
    congr 1
    apply List.ext_getElem?
    intro j
    by_cases hj : j < n
    · rw [rwP_get hj, rwP_get hj, h i j hi hj]
    · rw [List.getElem?_eq_none (by rw [rwP_len]; omega), List.getElem?_eq_none (by rw [rwP_len]; omega)]
  · rw [List.getElem?_eq_none (by rw [tbR_len]; omega), List.getElem?_eq_none (by rw [tbR_len]; omega)]
def CzT (N m n : Nat) (f : Tf) : Prop := ∀ i j, i < n → j < n → CzO N m (f i j)
theorem CzT.mono {N m k n : Nat} {f : Tf} (h : CzT N m n f) (e : m ≤ k) : CzT N k n f := fun i j hi hj => (h i j hi hj).mono e
/-- each way may also go to i, on to j for c, and on from there -/
def bw (f : Tf) (i j : Nat) (c : Option Rat) : Tf := fun a b => omin (f a b) (osum (f a i) (osum c (f j b)))
theorem CzT.bw {N m n : Nat} {f : Tf} {i j : Nat} {c : Option Rat} (hN : Nok N) (h : CzT N m n f) (hc : CzO N m c) (hi : i < n) (hj : j < n) : CzT N (m + 2) n (bw f i j c) := fun a b ha hb =>
  ((h a b ha hb).mono (by omega)).min (((h a i ha hi).mono (by omega)).sum hN (hc.sum hN (h j b hj hb)))
section
variable {μ : Mu} {N m n : Nat} {f : Tf}
theorem tbP_row {i : Nat} (h : i < n) : fIx (.p (tbP n f)) (.p (.int (i : Int))) μ = some (.p (.lst (rwP n f i)), μ) := by
  unfold tbP
  rw [fIx_lstp, atI_nat (j := i) (by rw [List.getElem?_map, tbR_get h]; rfl)]
  rfl
theorem row_at {i j : Nat} (h : j < n) : fIx (.p (.lst (rwP n f i))) (.p (.int (j : Int))) μ = some (.p (opR (f i j)), μ) := by
  rw [fIx_lstp, atI_nat (rwP_get h)]
  rfl
theorem zipP_map {A : Type} {F G : A → P} : ∀ as : List A, zipP (as.map F) (as.map G) = as.map fun a => .tup [F a, G a]
  | [] => rfl
  | a :: as => by simp [zipP, zipP_map as]
theorem line_n {k : Nat} (h : k ≤ 1000) : k ≤ sizeLine := le_line h
theorem ev_by {i j : Nat} {c : Rat} (hN : Nok N) (hn : n ≤ 100) (hf : CzT N m n f) (hc : Cz N m c) (hm : m ≤ 199990) (hi : i < n) (hj : j < n) :
    ∃ μ' l ks, m__by_way_of [.p (tbP n f), .p (.int (i : Int)), .p (.int (j : Int)), .p (rat c)] μ = some (.ok (.loc l), μ') ∧ Ext μ μ' ∧ Live μ.length μ' l (tbR n (bw f i j (some c))) ks := by
  have hcO : CzO N m (some c) := czo_some hc
  -- onward
  have hr : n = (List.range n).length := by simp
  have e1 : evLc (evIt (evBin fIx (evV 0) (evV 2))) (tgN 5) evTrue (evCall m__sum [] (evCons (evV 3) (evCons (evV 5) evNil))) [5] [some (.p (tbP n f)), some (.p (.int (i : Int))), some (.p (.int (j : Int))), some (.p (rat c)), none, none, none, none] μ
      = some (.ok (.p (.lst (rwL n fun b => opR (osum (some c) (f j b))))), μ) := by
    unfold rwL
    refine lc_map (as := List.range n) (fun b => opR (f j b)) _ ?_ (fun b hb => ?_) (by rw [← hr]; exact line_n (by omega))
    · have := tbP_row (μ := μ) (f := f) hj
      simp only [evBin_eq, evV_0, evV_2, bindG_ok, this, okm_some, evIt]
      rfl
    · have hb : b < n := by simpa using hb
      refine ⟨_, rfl, fun ξ => ?_⟩
      have e := ev_sumO (μ := ξ) hN hcO (hf j b hj hb)
      rw [opR_some] at e
      simp [e]
  obtain ⟨μ', l, ks, e2, x2, L2⟩ := lcD_map (it := evUpI (evIt (evV 0))) (ts := tgUp (tgN 7)) (vs := [7]) (gd := none) (ν := μ) (μ := μ)
    (δ := [some (.p (tbP n f)), some (.p (.int (i : Int))), some (.p (.int (j : Int))), some (.p (rat c)), some (.p (.lst (rwL n fun b => opR (osum (some c) (f j b))))), none, none, none])
    (e := evLcC (evZip (evCons (evV 7) (evCons (evV 4) evNil))) (tgT [5, 6]) evTrue (evCall m__lesser [] (evCons (evV 5) (evCons (evCall m__sum [] (evCons (evBin fIx (evV 7) (evV 1)) (evCons (evV 6) evNil))) evNil))) [5, 6])
    (as := List.range n) (fun a => .one (.p (.lst (rwP n f a)))) (fun a => rwP n (bw f i j (some c)) a) (by
      have : evIt (evV 0) [some (.p (tbP n f)), some (.p (.int (i : Int))), some (.p (.int (j : Int))), some (.p (rat c)), some (.p (.lst (rwL n fun b => opR (osum (some c) (f j b))))), none, none, none] μ = some (.ok ((List.range n).map fun a => .lst (rwP n f a)), μ) := by
        show some (Out.ok ((tbR n f).map P.lst), μ) = _
        unfold tbR
        rw [List.map_map]
        rfl
      rw [evUpI_eq, this, bindG_ok, List.map_map]
      rfl) trivial (fun a ha => by
      have ha : a < n := by simpa using ha
      refine ⟨_, rfl, fun ξ _ => ?_⟩
      refine lcC_map (as := List.range n) (fun b => .tup [opR (f a b), opR (osum (some c) (f j b))]) (fun b => opR (bw f i j (some c) a b)) ?_ (fun b hb => ?_) (by rw [← hr]; exact line_n (by omega))
      · show some (Out.ok (zipP (rwP n f a) (rwL n fun b => opR (osum (some c) (f j b)))), ξ) = _
        unfold rwP rwL
        rw [zipP_map]
      · have hb : b < n := by simpa using hb
        refine ⟨_, rfl, fun ζ => ?_⟩
        have g1 := row_at (μ := ζ) (f := f) (i := a) hi
        have h2 := (hcO.sum hN (hf j b hj hb))
        have g2 := ev_sumO (μ := ζ) hN ((hf a i ha hi).mono (k := m + 1) (by omega)) h2
        have g3 := ev_lesser (μ := ζ) hN ((hf a b ha hb).mono (k := m + 2) (by omega)) (((hf a i ha hi).mono (k := m + 1) (by omega)).sum hN h2)
        simp [-fIx_lstp, g1, g2, g3, bw]) (by rw [← hr]; exact line_n (by omega))
  refine ⟨μ', l, ks, ?_, x2, L2⟩
  show m__by_way_of _ μ = _
  simp only [m__by_way_of, arF, bodySemK_eq, sv__by_way_of]
  simp [-evLc_eq, e1, e2]
end
end Vs
/-! closed, the program's. -/
namespace Vs
open PySem PySem.Spec PyProof.Rows L2
def f0 (f : Tf) : Tf := fun i j => if i = j then omin (f i i) (some 0) else f i j
def f0t (t : Nat) (f : Tf) : Tf := fun i j => if i = j ∧ i < t then omin (f i i) (some 0) else f i j
def ng (o : Option Rat) : Bool := match o with
  | some q => decide (q < 0)
  | none => false
def neg (n : Nat) (g : Tf) : Bool := (List.range n).any fun i => ng (g i i)
def fwL (n : Nat) : Nat → Nat → Tf → Option Tf
  | 0, _, g => some g
  | m + 1, a, g => if neg n (bw g a a (some 0)) = true then none else fwL n m (a + 1) (bw g a a (some 0))
def fw (n : Nat) (f : Tf) : Option Tf := fwL n n 0 (f0 f)
def Dg (n : Nat) (g : Tf) : Prop := ∀ i, i < n → ∃ q, g i i = some q
theorem omin_some {a : Option Rat} {q : Rat} (b : Option Rat) (h : a = some q) : ∃ r, omin a b = some r := by
  subst h
  cases b with
  | none => exact ⟨q, rfl⟩
  | some r => exact ⟨_, rfl⟩
theorem omin_some' {b : Option Rat} {q : Rat} (a : Option Rat) (h : b = some q) : ∃ r, omin a b = some r := by
  subst h
  cases a with
  | none => exact ⟨q, rfl⟩
  | some r => exact ⟨_, rfl⟩
theorem Dg.bw {n : Nat} {g : Tf} (h : Dg n g) (i j : Nat) (c : Option Rat) : Dg n (bw g i j c) := fun a ha => by
  obtain ⟨q, e⟩ := h a ha
  exact omin_some _ e
theorem dg_f0 {n : Nat} {f : Tf} : Dg n (f0 f) := fun a _ => by
  unfold f0
  rw [if_pos rfl]
  exact omin_some' _ rfl
section
variable {μ : Mu} {N m n : Nat} {f : Tf}
theorem CzT.f0 (h : CzT N m n f) : CzT N m n (f0 f) := fun i j hi hj => by
  unfold Vs.f0
  split
  · exact (h i i hi hi).min (czo_some cz0)
  · exact h i j hi hj
theorem ixN_nat {k j : Nat} (h : j < k) : ixN k (j : Int) = some j := by
  unfold ixN
  rw [if_pos (by omega)]
  simp [h]
theorem range_cons {n t : Nat} (h : t < n) : (List.range n).drop t = t :: (List.range n).drop (t + 1) := by
  rw [List.drop_eq_getElem_cons (by simpa using h)]
  simp
/-- the first walk: its own diagonal -/
theorem diag_loop {tbl c4 : Option D} (hN : Nok N) (hf : CzT N m n f) (hm : m ≤ 199990) {n0 l : Nat} {ks : List Nat} : ∀ (r t : Nat) (μ : Mu) (c2 c3 : Option D), t + r = n → Live n0 μ l (tbR n (f0t t f)) ks →
    ∃ ν c2' c3', forL (tgT [3, 2]) lb_closed_0 (enumP t ((List.range' t r).map fun i => P.lst (rwP n f i))) [tbl, some (.loc l), c2, c3, c4] μ = some (.nx, [tbl, some (.loc l), c2', c3', c4], ν) ∧ Live n0 ν l (tbR n (f0t n f)) ks ∧ ν.length = μ.length ∧ ∀ j, j < n0 → ν[j]? = μ[j]?
  | 0, t, μ, c2, c3, ht, L => by
    obtain rfl : t = n := by omega
    exact ⟨μ, c2, c3, rfl, L, rfl, fun _ _ => rfl⟩
  | r + 1, t, μ, c2, c3, ht, L => by
    have htn : t < n := by omega
    obtain ⟨k, hk, hc⟩ := L.get (tbR_get htn)
    have g1 := row_at (μ := μ) (f := f) (i := t) htn
    have g2 := ev_lesser (μ := μ) hN (hf t t htn htn) (czo_some (cz0 (N := N) (m := m)))
    have g3 : fIxD (.loc l) (.p (.int (t : Int))) μ = some (.loc k, μ) := by
      unfold fIxD
      rw [items_live L]
      dsimp only
      rw [atI_nat (j := t) (by rw [List.getElem?_map, hk]; rfl)]
      rfl
    have g4 : ∀ (δ : Sl) (y : P), setIxEnd δ μ (.loc k) (.p (.int (t : Int))) (.p y) = some (.nx, δ, μ.set k (some (.lst ((rwP n (f0t t f) t).set t y)))) := fun δ y => setIxEnd_l hc (by rw [rwP_len]; exact ixN_nat htn)
    have L2 := L.set hk ((rwP n (f0t t f) t).set t (opR (omin (f t t) (some 0))))
    have hR : (tbR n (f0t t f)).set t ((rwP n (f0t t f) t).set t (opR (omin (f t t) (some 0)))) = tbR n (f0t (t + 1) f) := by
      apply List.ext_getElem?
      intro i
      by_cases hi : i < n
      · rw [tbR_get hi]
        by_cases q : t = i
        · subst q
          rw [List.getElem?_set_self (by rw [tbR_len]; exact hi)]
          congr 1
          apply List.ext_getElem?
          intro j
          by_cases hj : j < n
          · rw [rwP_get hj]
            by_cases q2 : t = j
            · subst q2
              rw [List.getElem?_set_self (by rw [rwP_len]; exact hj)]
              simp [f0t]
            · rw [List.getElem?_set_ne q2, rwP_get hj]
              simp [f0t, q2]
          · rw [List.getElem?_eq_none (by rw [List.length_set, rwP_len]; omega), List.getElem?_eq_none (by rw [rwP_len]; omega)]
        · rw [List.getElem?_set_ne q, tbR_get hi]
          congr 1
          apply List.ext_getElem?
          intro j
          by_cases hj : j < n
          · rw [rwP_get hj, rwP_get hj]
            unfold f0t
            have e : (i = j ∧ i < t) ↔ (i = j ∧ i < t + 1) := by omega
            simp only [e]
          · rw [List.getElem?_eq_none (by rw [rwP_len]; omega), List.getElem?_eq_none (by rw [rwP_len]; omega)]
      · rw [List.getElem?_eq_none (by rw [List.length_set, tbR_len]; omega), List.getElem?_eq_none (by rw [tbR_len]; omega)]
    rw [hR] at L2
    obtain ⟨ν, c2', c3', e, L3, hl, hg⟩ := diag_loop hN hf hm r (t + 1) (μ.set k (some (.lst ((rwP n (f0t t f) t).set t (opR (omin (f t t) (some 0))))))) (some (.p (.lst (rwP n f t)))) (some (.p (.int (t : Int)))) (by omega) L2
    refine ⟨ν, c2', c3', ?_, L3, by rw [hl, List.length_set], fun j hj => ?_⟩
    · rw [List.range'_succ, List.map_cons, enumP]
      refine (forL_nx (δ1 := [tbl, some (.loc l), some (.p (.lst (rwP n f t))), some (.p (.int (t : Int))), c4]) rfl ?_).trans e
      rw [opR_some] at g2
      generalize (t : Int) = ti at *
      simp [-fIx_lstp, lb_closed_0, g1, e_0, g2, g3, g4]
    · have := L.lo k (List.mem_of_getElem? hk)
      rw [hg j hj, List.getElem?_set_ne (by omega)]
theorem fAny_bls {as : List Nat} {F : Nat → Bool} : fAny [.p (.lst (as.map fun i => P.bl (F i)))] μ = some (.p (.bl (as.any F)), μ) := by
  have h : blsOf (as.map fun i => P.bl (F i)) = some (as.map F) := by
    induction as with
    | nil => rfl
    | cons a as ih =>
      show (blsOf (as.map fun i => P.bl (F i))).map (F a :: ·) = _
      rw [ih]; rfl
  unfold fAny
  dsimp only
  rw [show lstOf μ (.p (.lst (as.map fun i => P.bl (F i)))) = some (as.map fun i => P.bl (F i)) from rfl, Option.bind_some, h]
  dsimp only
  rw [List.any_map]
  rfl
/-- the walk over the table in the test: is some row[i] below 0? -/
theorem enumI_map {ks : List Nat} : ∀ a, enumI a (ks.map .loc) = (List.range' a ks.length).map fun i => .two (.p (.int (i : Int))) (.loc (ks.getD (i - a) 0)) := by
  induction ks with
  | nil => intro a; rfl
  | cons k ks ih =>
    intro a
    rw [List.map_cons, enumI, ih (a + 1), List.length_cons, List.range'_succ, List.map_cons]
    congr 1
    · simp
    · apply List.map_congr_left
      intro i hi
      rw [List.mem_range'_1] at hi
      rw [show i - a = (i - (a + 1)) + 1 by omega]
      rfl
theorem ev_anyneg {g : Tf} {n0 l : Nat} {ks : List Nat} {c0 c2 c3 c4 : Option D} (hN : Nok N) (hn : n ≤ 100) (hg : CzT N m n g) (hd : Dg n g) (hm : m ≤ 199990) (L : Live n0 μ l (tbR n g) ks) :
    evLcI (evEnumL (evCons (evV 1) evNil)) (tgTI 3 2) evTrue (evCall m_is_less [] (evCons (evBin fIx (evV 2) (evV 3)) (evCons (evMake 0 2 m_Ratiou_initu [.int 1] (evCons (evC (.int 0)) evNil)) evNil))) [3, 2] [c0, some (.loc l), c2, c3, c4] μ
      = some (.ok (.p (.lst ((List.range n).map fun i => .bl (ng (g i i))))), μ) := by
  have hks : ks.length = n := by rw [L.len, tbR_len]
  refine lcI_map (as := List.range n) (gd := some (l, .dl (ks.map .loc))) (fun i => .two (.p (.int (i : Int))) (.loc (ks.getD i 0))) _ ?_ L.at' (fun i hi => ?_) (by simpa using line_n (by omega))
  · show bindG (evCons (evV 1) evNil _ μ) (fun ds μ1 => enumLEnd μ1 ds) = _
    rw [evCons_eq, evV_1, bindG_ok, evNil_eq, bindG_ok, bindG_ok]
    unfold enumLEnd
    dsimp only
    rw [items_live L]
    dsimp only
    rw [enumI_map, hks, List.range_eq_range']
    simp
  · have hi : i < n := by simpa using hi
    obtain ⟨k, hk, hc⟩ := L.get (tbR_get hi)
    refine ⟨_, rfl, fun ξ ex => ?_⟩
    obtain ⟨q, hq⟩ := hd i hi
    have e1 : ks[i]?.getD 0 = k := by rw [hk]; rfl
    have e2 : fIx (.loc k) (.p (.int (i : Int))) ξ = some (.p (rat q), ξ) := by
      rw [fIx_lst (view_l (ex.at hc)), atI_nat (rwP_get hi), hq]; rfl
    have e3 := fun ν : Mu => ev_is_less (μ := ν) ((hg i i hi hi q hq).bz hN) bz0 (by decide)
    simp [e1, e2, e_0, e3, hq, ng]
theorem closed_loop {tbl : Option D} (hN : Nok N) (hn : n ≤ 100) {μ0 : Mu} : ∀ (r a m : Nat) (g : Tf) (μ : Mu) (l : Nat) (ks : List Nat) (c2 c3 c4 : Option D), a + r = n → m + 2 * r ≤ 199000 → CzT N m n g → Dg n g → Ext μ0 μ → Live μ0.length μ l (tbR n g) ks →
    match fwL n r a g with
    | none => ∃ δ' ν, forL (tgN 4) lb_closed_1 (intsP a r) [tbl, some (.loc l), c2, c3, c4] μ = some (.ret (.p .non), δ', ν) ∧ Ext μ0 ν
    | some g' => ∃ ν l' ks' c2' c3' c4', forL (tgN 4) lb_closed_1 (intsP a r) [tbl, some (.loc l), c2, c3, c4] μ = some (.nx, [tbl, some (.loc l'), c2', c3', c4'], ν) ∧ Ext μ0 ν ∧ Live μ0.length ν l' (tbR n g') ks'
  | 0, a, m, g, μ, l, ks, c2, c3, c4, ha, hm, hg, hd, ex, L => ⟨μ, l, ks, c2, c3, c4, rfl, ex, L⟩
  | r + 1, a, m, g, μ, l, ks, c2, c3, c4, ha, hm, hg, hd, ex, L => by
    have han : a < n := by omega
    obtain ⟨ν, e1, l1, g1⟩ := frz_live L
    have ex1 : Ext μ0 ν := ⟨by rw [l1]; exact ex.len, fun j hj => (g1 j hj).trans (ex.get j hj)⟩
    obtain ⟨μ2, l2, ks2, e2, x2, L2⟩ := ev_by (μ := ν) hN hn hg (cz0 (N := N) (m := m)) (by omega) han han
    have ex2 := ex1.trans x2
    have L3 := L2.le ex1.len
    have hg2 := hg.bw hN (czo_some (cz0 (N := N) (m := m))) han han
    have hd2 := hd.bw a a (some 0)
    have e3 := ev_anyneg (c0 := tbl) (c2 := c2) (c3 := c3) (c4 := some (.p (.int (a : Int)))) hN hn hg2 hd2 (by omega) L3
    have e4 := fAny_bls (μ := μ2) (as := List.range n) (F := fun i => ng (bw g a a (some 0) i i))
    have e1' : frzD μ (.loc l) = some (tbP n g, ν) := e1
    have body : lb_closed_1 [tbl, some (.loc l), c2, c3, some (.p (.int (a : Int)))] μ = if neg n (bw g a a (some 0)) = true then some (.ret (.p .non), [tbl, some (.loc l2), c2, c3, some (.p (.int (a : Int)))], μ2) else some (.nx, [tbl, some (.loc l2), c2, c3, some (.p (.int (a : Int)))], μ2) := by
      unfold neg
      generalize (a : Int) = ai at *
      simp [lb_closed_1, e1', e_0, e2, e3, e4, andThen_ite, -List.any_eq_true]
    unfold fwL
    rw [intsP_succ]
    by_cases hneg : neg n (bw g a a (some 0)) = true
    · rw [if_pos hneg] at body ⊢
      dsimp only
      refine ⟨[tbl, some (.loc l2), c2, c3, some (.p (.int (a : Int)))], μ2, ?_, ex2⟩
      rw [forL]
      show (match lb_closed_1 [tbl, some (.loc l), c2, c3, some (.p (.int (a : Int)))] μ with
        | some (.nx, δ2, μ2) => forL (tgN 4) lb_closed_1 (intsP (a + 1) r) δ2 μ2
        | some (.cont, δ2, μ2) => forL (tgN 4) lb_closed_1 (intsP (a + 1) r) δ2 μ2
        | some (.brk, δ2, μ2) => some (.nx, δ2, μ2)
        | r => r) = _
      rw [body]
    · rw [if_neg hneg] at body ⊢
      have ih := closed_loop (tbl := tbl) hN hn r (a + 1) (m + 2) (bw g a a (some 0)) μ2 l2 ks2 c2 c3 (some (.p (.int (a : Int)))) (by omega) (by omega) hg2 hd2 ex2 L3
      rw [forL_nx (δ1 := [tbl, some (.loc l), c2, c3, some (.p (.int (a : Int)))]) rfl body]
      exact ih
theorem ev_closed (hN : Nok N) (hn : n ≤ 100) (hf : CzT N m n f) (hm : m ≤ 190000) :
    match fw n f with
    | none => ∃ μ', m_closed [.p (tbP n f)] μ = some (.ok (.p .non), μ') ∧ Ext μ μ'
    | some g => ∃ μ' l ks, m_closed [.p (tbP n f)] μ = some (.ok (.loc l), μ') ∧ Ext μ μ' ∧ Live μ.length μ' l (tbR n g) ks := by
  obtain ⟨μ1, l1, ks1, e1, x1, L1⟩ := lcD_map (it := evUpI (evIt (evV 0))) (ts := tgUp (tgN 2)) (vs := [2]) (gd := none) (ν := μ) (μ := μ) (δ := [some (.p (tbP n f)), none, none, none, none]) (e := evBI fListC (evCons (evV 2) evNil))
    (as := List.range n) (fun a => .one (.p (.lst (rwP n f a)))) (fun a => rwP n f a) (by
      have : evIt (evV 0) [some (.p (tbP n f)), none, none, none, none] μ = some (.ok ((List.range n).map fun a => .lst (rwP n f a)), μ) := by
        show some (Out.ok ((tbR n f).map P.lst), μ) = _
        unfold tbR
        rw [List.map_map]
        rfl
      rw [evUpI_eq, this, bindG_ok, List.map_map]
      rfl) trivial (fun a ha => ⟨_, rfl, fun ξ _ => rfl⟩) (by simpa using line_n (by omega))
  have L1 : Live μ.length μ1 l1 (tbR n (f0t 0 f)) ks1 := by
    rw [tbR_congr (g := f) fun i j hi hj => by simp [f0t]]
    exact L1
  obtain ⟨μ2, c2, c3, e2, L2, hl2, hg2⟩ := diag_loop (tbl := some (.p (tbP n f))) (c4 := none) hN hf (by omega) n 0 μ1 none none (by omega) L1
  have x2 : Ext μ μ2 := ⟨by rw [hl2]; exact x1.len, fun j hj => (hg2 j hj).trans (x1.get j hj)⟩
  have L2 : Live μ.length μ2 l1 (tbR n (f0 f)) ks1 := by
    rw [tbR_congr (g := f0t n f) fun i j hi hj => by simp [f0, f0t, hi]]
    exact L2
  have e3 := closed_loop (tbl := some (.p (tbP n f))) hN hn n 0 m (f0 f) μ2 l1 ks1 c2 c3 none (by omega) (by omega) hf.f0 dg_f0 x2 L2
  have hen : evEnum (evCons (evV 0) evNil) [some (.p (tbP n f)), some (.loc l1), none, none, none] μ1 = some (.ok (enumP 0 ((List.range' 0 n).map fun i => P.lst (rwP n f i))), μ1) := by
    show some (Out.ok (enumP 0 ((tbR n f).map P.lst)), μ1) = _
    unfold tbR
    rw [List.map_map, List.range_eq_range']
    rfl
  have hrng : evRng1 (evBI fLenD (evCons (evV 1) evNil)) [some (.p (tbP n f)), some (.loc l1), c2, c3, none] μ2 = some (.ok (intsP 0 n), μ2) := by
    refine rng_n n ?_ (by omega)
    have hks : ks1.length = n := by rw [L2.len, tbR_len]
    have : fLenD [.loc l1] μ2 = some (.p (.int (n : Int)), μ2) := by
      unfold fLenD
      dsimp only
      rw [items_live L2]
      dsimp only
      rw [List.length_map, hks]
    simp [this]
  unfold fw
  cases hfw : fwL n n 0 (f0 f) with
  | none =>
    rw [hfw] at e3
    obtain ⟨δ', ν, e3, x3⟩ := e3
    refine ⟨ν, ?_, x3⟩
    simp only [m_closed, arF, bodySemK_eq, sv_closed]
    simp [-evRng1_eq, e1, hen, e2, hrng, e3]
  | some g =>
    rw [hfw] at e3
    obtain ⟨ν, l', ks', c2', c3', c4', e3, x3, L3⟩ := e3
    refine ⟨ν, l', ks', ?_, x3, L3⟩
    simp only [m_closed, arF, bodySemK_eq, sv_closed]
    simp [-evRng1_eq, e1, hen, e2, hrng, e3]
end
end Vs
/-! The law's own closing of a table; tables shown. -/
namespace Vs
open PySem PySem.Spec PyProof.Rows L2
def rwQ (n : Nat) (h : Nat → Option Rat) : List P := rwL n fun j => opQ (h j)
def tbQ (n : Nat) (f : Tf) : List (List P) := (List.range n).map fun i => rwQ n (f i)
def tqP (n : Nat) (f : Tf) : P := .lst ((tbQ n f).map .lst)
theorem tbQ_len {n : Nat} {f : Tf} : (tbQ n f).length = n := by simp [tbQ]
theorem rwQ_len {n : Nat} {h : Nat → Option Rat} : (rwQ n h).length = n := rwL_len
theorem tbQ_get {n i : Nat} {f : Tf} (h : i < n) : (tbQ n f)[i]? = some (rwQ n (f i)) := by
  unfold tbQ; rw [List.getElem?_map, List.getElem?_range h]; rfl
theorem rwQ_congr {n : Nat} {g h : Nat → Option Rat} (e : ∀ j, j < n → g j = h j) : rwQ n g = rwQ n h := by
  unfold rwQ rwL
  apply List.map_congr_left
  intro j hj
  rw [e j (by simpa using hj)]
theorem tbQ_congr {n : Nat} {f g : Tf} (h : ∀ i j, i < n → j < n → f i j = g i j) : tbQ n f = tbQ n g := by
  unfold tbQ
  apply List.map_congr_left
  intro i hi
  exact rwQ_congr fun j hj => h i j (by simpa using hi) hj
def upr (h : Nat → Option Rat) (j : Nat) (o : Option Rat) : Nat → Option Rat := fun x => if x = j then o else h x
theorem rwQ_set {n j : Nat} {h : Nat → Option Rat} {o : Option Rat} (hj : j < n) : (rwQ n h).set j (opQ o) = rwQ n (upr h j o) := by
  apply List.ext_getElem?
  intro x
  by_cases hx : x < n
  · unfold rwQ
    rw [rwL_get hx]
    by_cases q : j = x
    · subst q
      rw [List.getElem?_set_self (by rw [rwL_len]; exact hj)]
      simp [upr]
    · rw [List.getElem?_set_ne q, rwL_get hx]
      have q' : ¬ x = j := fun z => q z.symm
      simp [upr, q']
  · rw [List.getElem?_eq_none (by rw [List.length_set, rwQ_len]; omega), List.getElem?_eq_none (by rw [rwQ_len]; omega)]
section
variable {μ ν : Mu} {N m n : Nat} {f : Tf} {a b : Option Rat}
theorem ev_lower (hN : Nok N) (ha : CzO N m a) (hb : CzO N m b) (hm : m ≤ 200000 := by omega) : m__law_lower [.p (opQ a), .p (opQ b)] μ = some (.ok (.p (opQ (omin a b))), μ) := by
  cases a with
  | none => simp [m__law_lower, arF, bodySem_eq, sv__law_lower, omin]
  | some x =>
    cases b with
    | none => simp [m__law_lower, arF, bodySem_eq, sv__law_lower, omin]
    | some y =>
      have e := fun ν : Mu => ev_lless (μ := ν) ((ha x rfl).bz hN) ((hb y rfl).bz hN) (by decide)
      by_cases h : x < y
      · have h2 : ¬ y < x := by grind
        simp [m__law_lower, arF, bodySem_eq, sv__law_lower, omin, e, h, h2]
      · by_cases h2 : y < x
        · simp [m__law_lower, arF, bodySem_eq, sv__law_lower, omin, e, h, h2]
        · have h3 : y = x := by grind
          subst h3
          simp [m__law_lower, arF, bodySem_eq, sv__law_lower, omin, e, h]
theorem qrow_at {i : Nat} {h : Nat → Option Rat} (hi : i < n) : fIx (.p (.lst (rwQ n h))) (.p (.int (i : Int))) μ = some (.p (opQ (h i)), μ) := by
  rw [fIx_lstp, atI_nat (show (rwQ n h)[i]? = some (opQ (h i)) from rwL_get hi)]
  rfl
/-- a value that shows the table -/
def FAt (μ : Mu) (n : Nat) (d : D) (f : Tf) : Prop := view μ d = some (tqP n f)
theorem FAt.ext {d : D} (h : FAt μ n d f) (e : Ext μ ν) : FAt ν n d f := by
  cases d with
  | p x => exact h
  | loc l =>
    obtain ⟨xs, e1, e2⟩ := view_loc h
    exact (view_l (e.at e2)).trans (by rw [← e1])
theorem FAt.row {d : D} (h : FAt μ n d f) {i : Nat} (hi : i < n) : fIx d (.p (.int (i : Int))) μ = some (.p (.lst (rwQ n (f i))), μ) := by
  rw [fIx_lst h, atI_nat (j := i) (by rw [List.getElem?_map, tbQ_get hi]; rfl)]
  rfl
theorem fat_p : FAt μ n (.p (tqP n f)) f := rfl
@[simp] theorem isNon_opQ {o : Option Rat} : isNon (.p (opQ o)) = !o.isSome := by cases o <;> rfl
/-- one entry -/
def rel1 (fd fs : Tf) (i k : Nat) (h : Nat → Option Rat) (j : Nat) : Nat → Option Rat := upr h j (omin (h j) (osum (fd i k) (fs k j)))
def relJ (fd fs : Tf) (i k : Nat) : Nat → Nat → (Nat → Option Rat) → Nat → Option Rat
  | 0, _, h => h
  | r + 1, j, h => relJ fd fs i k r (j + 1) (rel1 fd fs i k h j)
theorem relJ_eq {fd fs : Tf} {i k : Nat} : ∀ (r j : Nat) (h : Nat → Option Rat) (x : Nat), relJ fd fs i k r j h x = if j ≤ x ∧ x < j + r then omin (h x) (osum (fd i k) (fs k x)) else h x
  | 0, j, h, x => by rw [relJ, if_neg (by omega)]
  | r + 1, j, h, x => by
    rw [relJ, relJ_eq r (j + 1)]
    by_cases q : x = j
    · subst q
      rw [if_neg (by omega), if_pos (by omega)]
      simp [rel1, upr]
    · have e : rel1 fd fs i k h j x = h x := if_neg q
      rw [e]
      by_cases q2 : j + 1 ≤ x ∧ x < j + 1 + r
      · rw [if_pos q2, if_pos (by omega)]
      · rw [if_neg q2, if_neg (by omega)]
theorem omin_none' {a : Option Rat} : omin a none = a := by cases a <;> rfl
theorem j_loop {fd fs : Tf} {i k p : Nat} {dF dS c0 c1 c6 c7 : Option D} {F S : D} (hN : Nok N) (hm : m ≤ 199000) (hF : CzT N m n fd) (hS : CzT N m n fs) (hi : i < n) (hk : k < n) (AF : FAt μ n F fd) (AS : FAt μ n S fs) (hp : μ.length ≤ p) :
    ∀ (r j : Nat) (h : Nat → Option Rat) (ν : Mu) (c3 : Option D), j + r = n → (∀ x, x < n → CzO N (m + 1) (h x)) → Ext μ ν → ν[p]? = some (some (.lst (rwQ n h))) →
    ∃ c3', forL (tgN 3) lb__law_closed_0 (intsP j r) [c0, c1, some S, c3, some (.p (.int (i : Int))), some F, c6, c7, some (.loc p), some (.p (.int (k : Int)))] ν
      = some (.nx, [c0, c1, some S, c3', some (.p (.int (i : Int))), some F, c6, c7, some (.loc p), some (.p (.int (k : Int)))], ν.set p (some (.lst (rwQ n (relJ fd fs i k r j h)))))
  | 0, j, h, ν, c3, hj, hh, ex, hc => ⟨c3, by
      show some (Fl.nx, _, ν) = _
      have e : ν.set p (some (.lst (rwQ n h))) = ν := by
        apply List.ext_getElem?
        intro x
        by_cases q : p = x
        · subst q; rw [set_get hc]; exact hc.symm
        · rw [List.getElem?_set_ne q]
      show _ = some (Fl.nx, _, ν.set p (some (.lst (rwQ n h))))
      rw [e]⟩
  | r + 1, j, h, ν, c3, hj, hh, ex, hc => by
    have hjn : j < n := by omega
    have hs := (hF i k hi hk).sum hN (hS k j hk hjn)
    have hstep : rel1 fd fs i k h j = upr h j (omin (h j) (osum (fd i k) (fs k j))) := rfl
    have body : lb__law_closed_0 [c0, c1, some S, some (.p (.int (j : Int))), some (.p (.int (i : Int))), some F, c6, c7, some (.loc p), some (.p (.int (k : Int)))] ν
        = some (.nx, [c0, c1, some S, some (.p (.int (j : Int))), some (.p (.int (i : Int))), some F, c6, c7, some (.loc p), some (.p (.int (k : Int)))], ν.set p (some (.lst (rwQ n (rel1 fd fs i k h j))))) := by
      have g1 := (AF.ext ex).row hi
      have g2 := qrow_at (μ := ν) (h := fd i) hk
      have g3 := (AS.ext ex).row hk
      have g4 := qrow_at (μ := ν) (h := fs k) hjn
      have same : ∀ o, h j = o → ν.set p (some (.lst (rwQ n (upr h j o)))) = ν := fun o ho => by
        have e : rwQ n (upr h j o) = rwQ n h := rwQ_congr fun x _ => by
          unfold upr
          split
          · rename_i q; rw [q, ho]
          · rfl
        rw [e]
        apply List.ext_getElem?
        intro x
        by_cases q : p = x
        · subst q; rw [set_get hc]; exact hc.symm
        · rw [List.getElem?_set_ne q]
      rw [hstep]
      cases q1 : fd i k with
      | none =>
        rw [q1] at g2
        have e := same (omin (h j) (osum none (fs k j))) (by show _ = omin (h j) none; rw [omin_none'])
        rw [e]
        generalize (i : Int) = ii at *
        generalize (j : Int) = ji at *
        generalize (k : Int) = ki at *
        simp [-fIx_lstp, lb__law_closed_0, g1, g2]
      | some x =>
        cases q2 : fs k j with
        | none =>
          rw [q1] at g2
          rw [q2] at g4
          have e := same (omin (h j) (osum (some x) none)) (by show _ = omin (h j) none; rw [omin_none'])
          rw [e]
          generalize (i : Int) = ii at *
          generalize (j : Int) = ji at *
          generalize (k : Int) = ki at *
          simp [-fIx_lstp, lb__law_closed_0, g1, g2, g3, g4]
        | some y =>
          rw [q1, q2] at hs
          rw [q1] at g2
          rw [q2] at g4
          have g5 := fun ν : Mu => ev_lsum (μ := ν) (((hF i k hi hk) x q1).bz hN) (((hS k j hk hjn) y q2).bz hN) (by decide)
          have g6 := fun ν : Mu => ev_lower (μ := ν) hN (hh j hjn) hs
          have g7 : fIx (.loc p) (.p (.int (j : Int))) ν = some (.p (opQ (h j)), ν) := by
            rw [fIx_lst (view_l hc), atI_nat (show (rwQ n h)[j]? = some (opQ (h j)) from rwL_get hjn)]
            rfl
          have g8 : ∀ (δ : Sl) (o : Option Rat), setIxEnd δ ν (.loc p) (.p (.int (j : Int))) (.p (opQ o)) = some (.nx, δ, ν.set p (some (.lst (rwQ n (upr h j o))))) := fun δ o => by
            rw [setIxEnd_l hc (by rw [rwQ_len]; exact ixN_nat hjn), rwQ_set hjn]
          have e : osum (some x) (some y) = some (x + y) := rfl
          rw [e] at hs g6 ⊢
          simp only [opQ_some] at g6 g2 g4
          generalize (i : Int) = ii at *
          generalize (j : Int) = ji at *
          generalize (k : Int) = ki at *
          simp [-fIx_lstp, lb__law_closed_0, g1, g2, g3, g4, g5, g6, g7, g8]
    have hh2 : ∀ x, x < n → CzO N (m + 1) (rel1 fd fs i k h j x) := fun x hx => by
      unfold rel1 upr
      split
      · exact (hh j hjn).min hs
      · exact hh x hx
    have hc2 : (ν.set p (some (.lst (rwQ n (rel1 fd fs i k h j)))))[p]? = some (some (.lst (rwQ n (rel1 fd fs i k h j)))) := set_get hc
    obtain ⟨c3', ih⟩ := j_loop (c0 := c0) (c1 := c1) (c6 := c6) (c7 := c7) hN hm hF hS hi hk AF AS hp (dF := dF) (dS := dS) r (j + 1) (rel1 fd fs i k h j) (ν.set p (some (.lst (rwQ n (rel1 fd fs i k h j))))) (some (.p (.int (j : Int)))) (by omega) hh2 (ex.set hp _) hc2
    refine ⟨c3', ?_⟩
    rw [intsP_succ, forL_nx rfl body, ih, List.set_set]
    rfl
end
end Vs
/-! The law's own closing of a table, whole. -/
namespace Vs
open PySem PySem.Spec PyProof.Rows L2
def relK (n : Nat) (fd fs : Tf) (i : Nat) : Nat → Nat → (Nat → Option Rat) → Nat → Option Rat
  | 0, _, h => h
  | r + 1, k, h => relK n fd fs i r (k + 1) (relJ fd fs i k n 0 h)
def nxt (n : Nat) (fs fd : Tf) : Tf := fun i => relK n fd fs i n 0 (fd i)
def bfI (n : Nat) (fs : Tf) : Nat → Tf → Tf
  | 0, fd => fd
  | r + 1, fd => bfI n fs r (nxt n fs fd)
section
variable {μ ν : Mu} {N m n : Nat} {f fd fs : Tf} {δ : Sl}
theorem relJ_cz (hN : Nok N) (hF : CzT N m n fd) (hS : CzT N m n fs) {i k : Nat} {h : Nat → Option Rat} (hi : i < n) (hk : k < n) (hh : ∀ x, x < n → CzO N (m + 1) (h x)) : ∀ x, x < n → CzO N (m + 1) (relJ fd fs i k n 0 h x) := fun x hx => by
  rw [relJ_eq, if_pos (by omega)]
  exact (hh x hx).min ((hF i k hi hk).sum hN (hS k x hk hx))
theorem k_loop {i p : Nat} {c0 c6 c7 : Option D} {F S : D} (hN : Nok N) (hn : n ≤ 100) (hm : m ≤ 199000) (hF : CzT N m n fd) (hS : CzT N m n fs) (hi : i < n) (AF : FAt μ n F fd) (AS : FAt μ n S fs) (hp : μ.length ≤ p) :
    ∀ (r k : Nat) (h : Nat → Option Rat) (ν : Mu) (c3 c9 : Option D), k + r = n → (∀ x, x < n → CzO N (m + 1) (h x)) → Ext μ ν → ν[p]? = some (some (.lst (rwQ n h))) →
    ∃ c3' c9', forL (tgN 9) lb__law_closed_1 (intsP k r) [c0, some (.p (.int (n : Int))), some S, c3, some (.p (.int (i : Int))), some F, c6, c7, some (.loc p), c9] ν
      = some (.nx, [c0, some (.p (.int (n : Int))), some S, c3', some (.p (.int (i : Int))), some F, c6, c7, some (.loc p), c9'], ν.set p (some (.lst (rwQ n (relK n fd fs i r k h)))))
  | 0, k, h, ν, c3, c9, hk, hh, ex, hc => ⟨c3, c9, by
      have e : ν.set p (some (.lst (rwQ n h))) = ν := by
        apply List.ext_getElem?
        intro x
        by_cases q : p = x
        · subst q; rw [set_get hc]; exact hc.symm
        · rw [List.getElem?_set_ne q]
      show some (Fl.nx, _, ν) = some (Fl.nx, _, ν.set p (some (.lst (rwQ n h))))
      rw [e]⟩
  | r + 1, k, h, ν, c3, c9, hk, hh, ex, hc => by
    have hkn : k < n := by omega
    obtain ⟨c3a, e1⟩ := j_loop (c0 := c0) (c1 := some (.p (.int (n : Int)))) (c6 := c6) (c7 := c7) (dF := none) (dS := none) hN hm hF hS hi hkn AF AS hp n 0 h ν c3 (by omega) hh ex hc
    have hr := rng_n (δ := [c0, some (.p (.int (n : Int))), some S, c3, some (.p (.int (i : Int))), some F, c6, c7, some (.loc p), some (.p (.int (k : Int)))]) (μ := ν) (ν := ν) n (e := evV 1) rfl (by omega)
    have body : lb__law_closed_1 [c0, some (.p (.int (n : Int))), some S, c3, some (.p (.int (i : Int))), some F, c6, c7, some (.loc p), some (.p (.int (k : Int)))] ν
        = some (.nx, [c0, some (.p (.int (n : Int))), some S, c3a, some (.p (.int (i : Int))), some F, c6, c7, some (.loc p), some (.p (.int (k : Int)))], ν.set p (some (.lst (rwQ n (relJ fd fs i k n 0 h))))) := by
      show sFor (evRng1 (evV 1)) (tgN 3) lb__law_closed_0 _ ν = _
      rw [sFor_eq, hr, bindS_ok]
      exact e1
    obtain ⟨c3', c9', ih⟩ := k_loop (c0 := c0) (c6 := c6) (c7 := c7) hN hn hm hF hS hi AF AS hp r (k + 1) (relJ fd fs i k n 0 h) (ν.set p (some (.lst (rwQ n (relJ fd fs i k n 0 h))))) c3a (some (.p (.int (k : Int)))) (by omega) (relJ_cz hN hF hS hi hkn hh) (ex.set hp _) (set_get hc)
    refine ⟨c3', c9', ?_⟩
    rw [intsP_succ, forL_nx rfl body, ih, List.set_set]
    rfl
theorem i_loop {q0 : Nat} {c0 c6 : Option D} {F S : D} (hN : Nok N) (hn : n ≤ 100) (hm : m ≤ 199000) (hF : CzT N m n fd) (hS : CzT N m n fs) (AF : FAt μ n F fd) (AS : FAt μ n S fs) (hq : μ.length ≤ q0) :
    ∀ (r i : Nat) (acc : List P) (ν : Mu) (c3 c4 c8 c9 : Option D), i + r = n → acc.length = i → Ext μ ν → ν[q0]? = some (some (.lst acc)) →
    ∃ c3' c4' c8' c9' ν', forL (tgN 4) lb__law_closed_2 (intsP i r) [c0, some (.p (.int (n : Int))), some S, c3, c4, some F, c6, some (.loc q0), c8, c9] ν
      = some (.nx, [c0, some (.p (.int (n : Int))), some S, c3', c4', some F, c6, some (.loc q0), c8', c9'], ν') ∧ Ext μ ν' ∧ ν'[q0]? = some (some (.lst (acc ++ (List.range' i r).map fun i => P.lst (rwQ n (nxt n fs fd i)))))
  | 0, i, acc, ν, c3, c4, c8, c9, hi, ha, ex, hc => ⟨c3, c4, c8, c9, ν, rfl, ex, by simpa using hc⟩
  | r + 1, i, acc, ν, c3, c4, c8, c9, hi, ha, ex, hc => by
    have hin : i < n := by omega
    have hq0 : q0 < ν.length := (List.getElem?_eq_some_iff.mp hc).1
    have hle := ex.len
    have exA : Ext ν (ν ++ [some (MO.lst (rwQ n (fd i)))]) := Ext.app _
    obtain ⟨c3', c9', e1⟩ := k_loop (c0 := c0) (c6 := c6) (c7 := some (.loc q0)) (p := ν.length) hN hn hm hF hS hin AF AS hle n 0 (fd i) (ν ++ [some (MO.lst (rwQ n (fd i)))]) c3 c9 (by omega) (fun x hx => (hF i x hin hx).mono (by omega)) (ex.trans exA) (by simp)
    have hset : (ν ++ [some (MO.lst (rwQ n (fd i)))]).set ν.length (some (.lst (rwQ n (relK n fd fs i n 0 (fd i))))) = ν ++ [some (.lst (rwQ n (nxt n fs fd i)))] := set_end rfl
    rw [hset] at e1
    have exB : Ext ν (ν ++ [some (MO.lst (rwQ n (nxt n fs fd i)))]) := Ext.app _
    have g1 := (AF.ext ex).row hin
    have g2 : fListC [.p (.lst (rwQ n (fd i)))] ν = some (.loc ν.length, ν ++ [some (.lst (rwQ n (fd i)))]) := rfl
    have hr := rng_n (δ := [c0, some (.p (.int (n : Int))), some S, c3, some (.p (.int (i : Int))), some F, c6, some (.loc q0), some (.loc ν.length), c9]) (μ := ν ++ [some (MO.lst (rwQ n (fd i)))]) (ν := ν ++ [some (MO.lst (rwQ n (fd i)))]) n (e := evV 1) rfl (by omega)
    have g3 : isLst (ν ++ [some (MO.lst (rwQ n (nxt n fs fd i)))]) (.loc q0) = true := isLst_l (exB.at hc)
    have g4 : fApp (.loc q0) [.loc ν.length] (ν ++ [some (MO.lst (rwQ n (nxt n fs fd i)))]) = some (.p .non, (ν ++ [none]).set q0 (some (.lst (acc ++ [P.lst (rwQ n (nxt n fs fd i))])))) := by
      unfold fApp
      dsimp only
      have e0 : toP (ν ++ [some (MO.lst (rwQ n (nxt n fs fd i)))]) (.loc ν.length) = some (.lst (rwQ n (nxt n fs fd i)), ν ++ [none]) := by
        show (cellL (ν ++ [some (MO.lst (rwQ n (nxt n fs fd i)))]) ν.length).map _ = _
        rw [cellL_end rfl]
        show some (_, (ν ++ [some (MO.lst (rwQ n (nxt n fs fd i)))]).set ν.length none) = _
        rw [set_end rfl]
      rw [e0]
      dsimp only
      rw [cellL_l ((Ext.app [none]).at hc)]
      dsimp only
      rw [if_pos (line_k (by omega))]
    have body : lb__law_closed_2 [c0, some (.p (.int (n : Int))), some S, c3, some (.p (.int (i : Int))), some F, c6, some (.loc q0), c8, c9] ν
        = some (.nx, [c0, some (.p (.int (n : Int))), some S, c3', some (.p (.int (i : Int))), some F, c6, some (.loc q0), some (.loc ν.length), c9'], (ν ++ [none]).set q0 (some (.lst (acc ++ [P.lst (rwQ n (nxt n fs fd i))])))) := by
      show seqS (sSet 8 (evBI fListC (evCons (evBin fIx (evV 5) (evV 4)) evNil))) (seqS (sFor (evRng1 (evV 1)) (tgN 9) lb__law_closed_1) (sExpr (evBM isLst fApp (evV 7) (evCons (evV 8) evNil)))) _ ν = _
      rw [seqS_eq]
      have s1 : sSet 8 (evBI fListC (evCons (evBin fIx (evV 5) (evV 4)) evNil)) [c0, some (.p (.int (n : Int))), some S, c3, some (.p (.int (i : Int))), some F, c6, some (.loc q0), c8, c9] ν
          = some (.nx, [c0, some (.p (.int (n : Int))), some S, c3, some (.p (.int (i : Int))), some F, c6, some (.loc q0), some (.loc ν.length), c9], ν ++ [some (MO.lst (rwQ n (fd i)))]) := by
        generalize (i : Int) = ii at *
        simp [-fIx_lstp, g1, g2]
      rw [s1, andThen_nx, seqS_eq, sFor_eq, hr, bindS_ok, e1, andThen_nx]
      simp [evBM_eq, g3, g4]
    have hc2 : ((ν ++ [none]).set q0 (some (.lst (acc ++ [P.lst (rwQ n (nxt n fs fd i))]))))[q0]? = some (some (.lst (acc ++ [P.lst (rwQ n (nxt n fs fd i))]))) := set_get ((Ext.app [none]).at hc)
    obtain ⟨d3, d4, d8, d9, ν', r1, r2, r3⟩ := i_loop (c0 := c0) (c6 := c6) hN hn hm hF hS AF AS hq r (i + 1) (acc ++ [P.lst (rwQ n (nxt n fs fd i))]) ((ν ++ [none]).set q0 (some (.lst (acc ++ [P.lst (rwQ n (nxt n fs fd i))])))) c3' (some (.p (.int (i : Int)))) (some (.loc ν.length)) c9' (by omega) (by simp [ha]) ((ex.trans (Ext.app _)).set hq _) hc2
    refine ⟨d3, d4, d8, d9, ν', ?_, r2, ?_⟩
    · rw [intsP_succ, forL_nx rfl body, r1]
    · rw [r3, List.range'_succ, List.map_cons, List.append_assoc]
      rfl
theorem nxt_cz (hN : Nok N) (hF : CzT N m n fd) (hS : CzT N m n fs) : CzT N (m + 1) n (nxt n fs fd) := fun i x hi hx => by
  have go : ∀ (r k : Nat) (h : Nat → Option Rat), k + r ≤ n → (∀ x, x < n → CzO N (m + 1) (h x)) → ∀ x, x < n → CzO N (m + 1) (relK n fd fs i r k h x) := by
    intro r
    induction r with
    | zero => intro k h _ hh; exact hh
    | succ r ih =>
      intro k h hk hh
      exact ih (k + 1) _ (by omega) (relJ_cz hN hF hS hi (by omega) hh)
  exact go n 0 (fd i) (by omega) (fun x hx => (hF i x hi hx).mono (by omega)) x hx
/-- the table itself, or a place of one's own that has it -/
def OwnT (n0 : Nat) (ν : Mu) (n : Nat) (d : D) (f : Tf) : Prop := d = .p (tqP n f) ∨ ∃ q, d = .loc q ∧ n0 ≤ q ∧ ν[q]? = some (some (.lst ((tbQ n f).map .lst)))
theorem OwnT.fat {n0 : Nat} {d : D} (h : OwnT n0 ν n d f) : FAt ν n d f := by
  rcases h with rfl | ⟨q, rfl, _, h⟩
  · rfl
  · exact view_l h
theorem turn_loop {c0 : Option D} (hN : Nok N) (hn : n ≤ 100) (hS : CzT N m n fs) {μ0 : Mu} : ∀ (r t k : Nat) (fd : Tf) (F : D) (ν : Mu) (c3 c4 c6 c7 c8 c9 : Option D), m ≤ k → k + r ≤ 199000 → t + r ≤ 900 → CzT N k n fd → Ext μ0 ν → OwnT μ0.length ν n F fd →
    ∃ c3' c4' F' c6' c7' c8' c9' ν', forL (tgN 6) lb__law_closed_3 (intsP t r) [c0, some (.p (.int (n : Int))), some (.p (tqP n fs)), c3, c4, some F, c6, c7, c8, c9] ν
      = some (.nx, [c0, some (.p (.int (n : Int))), some (.p (tqP n fs)), c3', c4', some F', c6', c7', c8', c9'], ν') ∧ Ext μ0 ν' ∧ OwnT μ0.length ν' n F' (bfI n fs r fd) ∧ CzT N (k + r) n (bfI n fs r fd)
  | 0, t, k, fd, F, ν, c3, c4, c6, c7, c8, c9, hk, hm, ht, hF, ex, O => ⟨c3, c4, F, c6, c7, c8, c9, ν, rfl, ex, O, hF⟩
  | r + 1, t, k, fd, F, ν, c3, c4, c6, c7, c8, c9, hk, hm, ht, hF, ex, O => by
    have hle := ex.len
    have exA : Ext ν (ν ++ [some (MO.lst [])]) := Ext.app _
    obtain ⟨d3, d4, d8, d9, ν1, e1, x1, h1⟩ := i_loop (c0 := c0) (c6 := some (.p (.int (t : Int)))) (q0 := ν.length) hN hn (by omega) hF (hS.mono hk) O.fat (fat_p (μ := ν) (f := fs)) (Nat.le_refl _) n 0 [] (ν ++ [some (MO.lst [])]) c3 c4 c8 c9 (by omega) rfl exA (by simp)
    have hr := rng_n (δ := [c0, some (.p (.int (n : Int))), some (.p (tqP n fs)), c3, c4, some F, some (.p (.int (t : Int))), some (.loc ν.length), c8, c9]) (μ := ν ++ [some (MO.lst [])]) (ν := ν ++ [some (MO.lst [])]) n (e := evV 1) rfl (by omega)
    have h2 : ν1[ν.length]? = some (some (.lst ((tbQ n (nxt n fs fd)).map .lst))) := by
      rw [h1, List.nil_append, tbQ, List.map_map, ← List.range_eq_range']
      rfl
    have body : lb__law_closed_3 [c0, some (.p (.int (n : Int))), some (.p (tqP n fs)), c3, c4, some F, some (.p (.int (t : Int))), c7, c8, c9] ν
        = some (.nx, [c0, some (.p (.int (n : Int))), some (.p (tqP n fs)), d3, d4, some (.loc ν.length), some (.p (.int (t : Int))), some (.loc ν.length), d8, d9], ν1) := by
      show seqS (sSet 7 (evLstC evNil)) (seqS (sFor (evRng1 (evV 1)) (tgN 4) lb__law_closed_2) (sSet 5 (evV 7))) _ ν = _
      rw [seqS_eq]
      have s1 : sSet 7 (evLstC evNil) [c0, some (.p (.int (n : Int))), some (.p (tqP n fs)), c3, c4, some F, some (.p (.int (t : Int))), c7, c8, c9] ν
          = some (.nx, [c0, some (.p (.int (n : Int))), some (.p (tqP n fs)), c3, c4, some F, some (.p (.int (t : Int))), some (.loc ν.length), c8, c9], ν ++ [some (MO.lst [])]) := by
        generalize (t : Int) = ti at *
        simp
      rw [s1, andThen_nx, seqS_eq, sFor_eq, hr, bindS_ok, e1, andThen_nx]
      generalize (t : Int) = ti at *
      simp
    obtain ⟨c3', c4', F', c6', c7', c8', c9', ν', r1, r2, r3, r4⟩ := turn_loop (c0 := c0) hN hn hS r (t + 1) (k + 1) (nxt n fs fd) (.loc ν.length) ν1 d3 d4 (some (.p (.int (t : Int)))) (some (.loc ν.length)) d8 d9 (by omega) (by omega) (by omega) (nxt_cz hN hF (hS.mono hk)) (ex.trans x1) (.inr ⟨_, rfl, hle, h2⟩)
    refine ⟨c3', c4', F', c6', c7', c8', c9', ν', ?_, r2, r3, ?_⟩
    · rw [intsP_succ, forL_nx rfl body, r1]
    · exact r4.mono (by omega)
/-- a comprehension with a test -/
theorem lcL_filt {A : Type} {ts : Tgt} {t : EvT} {e : Ev} {δ0 : Sl} (g f : A → P) (tst : A → Bool) : ∀ (as : List A) (acc : List P), (∀ a ∈ as, ∃ δ1, ts (g a) δ0 = some δ1 ∧ ∀ ξ, Ext ν ξ → t δ1 ξ = some (.ok (tst a), ξ) ∧ e δ1 ξ = some (.ok (.p (f a)), ξ)) → acc.length + as.length ≤ sizeLine →
    lcL ts t e δ0 ν.length (as.map g) (ν ++ [some (.lst acc)]) = some (ν ++ [some (.lst (acc ++ (as.filter tst).map f))])
  | [], acc, h, hl => by simp [lcL]
  | a :: as, acc, h, hl => by
    obtain ⟨δ1, h1, h2⟩ := h a List.mem_cons_self
    obtain ⟨h3, h4⟩ := h2 (ν ++ [some (.lst acc)]) (Ext.app _)
    have hl' : acc.length < sizeLine := by simp at hl; omega
    rw [List.map_cons]
    unfold lcL
    rw [h1]
    dsimp only
    rw [h3]
    cases q : tst a with
    | false =>
      dsimp only
      rw [lcL_filt g f tst as acc (fun y hy => h y (List.mem_cons_of_mem _ hy)) (by simp at hl ⊢; omega)]
      simp [q]
    | true =>
      dsimp only
      rw [h4]
      dsimp only
      rw [toP_p]
      dsimp only
      rw [cellL_end rfl]
      dsimp only
      rw [if_pos hl', set_end rfl, lcL_filt g f tst as (acc ++ [f a]) (fun y hy => h y (List.mem_cons_of_mem _ hy)) (by simp at hl ⊢; omega)]
      simp [q]
theorem lc_filt {A : Type} {it : EvG (List P)} {ts : Tgt} {t : EvT} {e : Ev} {vs : List Nat} {as : List A} (g f : A → P) (tst : A → Bool) (hi : it δ μ = some (.ok (as.map g), ν)) (h : ∀ a ∈ as, ∃ δ1, ts (g a) (wipeS δ vs) = some δ1 ∧ ∀ ξ, Ext ν ξ → t δ1 ξ = some (.ok (tst a), ξ) ∧ e δ1 ξ = some (.ok (.p (f a)), ξ)) (hl : as.length ≤ sizeLine) :
    evLc it ts t e vs δ μ = some (.ok (.p (.lst ((as.filter tst).map f))), ν) := by
  rw [evLc_eq, hi, bindG_ok, lcL_filt g f tst as [] h (by simpa using hl)]
  unfold lcEnd
  dsimp only
  rw [cellL_end rfl]
  dsimp only
  rw [List.take_left, List.nil_append]
/-- a comprehension whose items read what may change -/
theorem lc_mapE {A : Type} {it : EvG (List P)} {ts : Tgt} {e : Ev} {vs : List Nat} {as : List A} (g f : A → P) (hi : it δ μ = some (.ok (as.map g), ν)) (h : ∀ a ∈ as, ∃ δ1, ts (g a) (wipeS δ vs) = some δ1 ∧ ∀ ξ, Ext ν ξ → e δ1 ξ = some (.ok (.p (f a)), ξ)) (hl : as.length ≤ sizeLine) :
    evLc it ts evTrue e vs δ μ = some (.ok (.p (.lst (as.map f))), ν) := by
  have := lc_filt (t := evTrue) (e := e) g f (fun _ => true) hi (fun a ha => by
    obtain ⟨δ1, h1, h2⟩ := h a ha
    exact ⟨δ1, h1, fun ξ ex => ⟨rfl, h2 ξ ex⟩⟩) hl
  rwa [List.filter_eq_self.mpr (fun _ _ => rfl)] at this
def bfT (n : Nat) (f : Tf) : Option Tf := if neg n (bfI n (f0 f) n (f0 f)) = true then none else some (bfI n (f0 f) n (f0 f))
def oT (n : Nat) : Option Tf → P
  | none => .non
  | some g => tqP n g
theorem relJ_some {i k : Nat} {h : Nat → Option Rat} {x : Nat} (hh : ∃ q, h x = some q) : ∃ q, relJ fd fs i k n 0 h x = some q := by
  rw [relJ_eq]
  split
  · obtain ⟨q, e⟩ := hh; exact omin_some _ e
  · exact hh
theorem relK_some {i : Nat} {x : Nat} : ∀ (r k : Nat) (h : Nat → Option Rat), (∃ q, h x = some q) → ∃ q, relK n fd fs i r k h x = some q
  | 0, k, h, hh => hh
  | r + 1, k, h, hh => relK_some r (k + 1) _ (relJ_some hh)
theorem bfI_dg : ∀ (r : Nat) (fd : Tf), Dg n fd → Dg n (bfI n fs r fd)
  | 0, fd, h => h
  | r + 1, fd, h => bfI_dg r _ fun i hi => relK_some n 0 _ (h i hi)
theorem ints_eq {n : Nat} : intsP 0 n = (List.range n).map fun (i : Nat) => P.int (i : Int) := by unfold intsP; rw [List.range_eq_range']
theorem lcl_rng {d : D} {n : Nat} (hn : n ≤ 100) (c3 c4 : Option D) (ξ : Mu) : evRng1 (evV 1) [some d, some (.p (.int (n : Int))), none, c3, c4, none, none, none, none, none] ξ = some (.ok (intsP 0 n), ξ) := rng_n n rfl (by omega)
theorem lcl_first {d : D} (hN : Nok N) (hn : n ≤ 100) (hf : CzT N m n f) (hm : m ≤ 190000) (A : FAt μ n d f) : evLc (evRng1 (evV 1)) (tgN 4) evTrue (evLc (evRng1 (evV 1)) (tgN 3) evTrue (evCall m__law_lower [] (evCons (evBin fIx (evBin fIx (evV 0) (evV 4)) (evV 3)) (evCons (evBin fIx (evLst (evCons (evC .non) (evCons (evTup (evCons (evC (.int 0)) (evCons (evC (.int 1)) evNil))) evNil))) (evBI fInt (evCons (evBin fEq (evV 4) (evV 3)) evNil))) evNil))) [3]) [4]
    [some d, some (.p (.int (n : Int))), none, none, none, none, none, none, none, none] μ = some (.ok (.p (tqP n (f0 f))), μ) := by
  have e := lc_mapE (δ := [some d, some (.p (.int (n : Int))), none, none, none, none, none, none, none, none]) (μ := μ) (ν := μ) (ts := tgN 4) (vs := [4]) (it := evRng1 (evV 1)) (as := List.range n)
    (e := evLc (evRng1 (evV 1)) (tgN 3) evTrue (evCall m__law_lower [] (evCons (evBin fIx (evBin fIx (evV 0) (evV 4)) (evV 3)) (evCons (evBin fIx (evLst (evCons (evC .non) (evCons (evTup (evCons (evC (.int 0)) (evCons (evC (.int 1)) evNil))) evNil))) (evBI fInt (evCons (evBin fEq (evV 4) (evV 3)) evNil))) evNil))) [3])
    (fun i => .int (i : Int)) (fun i => P.lst (rwQ n (f0 f i))) (by rw [lcl_rng hn, ints_eq]) (fun i hi => by
      have hi : i < n := by simpa using hi
      refine ⟨_, rfl, fun ξ ex => ?_⟩
      have e := lc_mapE (δ := [some d, some (.p (.int (n : Int))), none, none, some (.p (.int (i : Int))), none, none, none, none, none]) (μ := ξ) (ν := ξ) (ts := tgN 3) (vs := [3]) (it := evRng1 (evV 1)) (as := List.range n)
        (e := evCall m__law_lower [] (evCons (evBin fIx (evBin fIx (evV 0) (evV 4)) (evV 3)) (evCons (evBin fIx (evLst (evCons (evC .non) (evCons (evTup (evCons (evC (.int 0)) (evCons (evC (.int 1)) evNil))) evNil))) (evBI fInt (evCons (evBin fEq (evV 4) (evV 3)) evNil))) evNil)))
        (fun j => .int (j : Int)) (fun j => opQ (f0 f i j)) (by rw [lcl_rng hn, ints_eq]) (fun j hj => by
          have hj : j < n := by simpa using hj
          refine ⟨_, rfl, fun ζ ex2 => ?_⟩
          have g1 := (A.ext (ex.trans ex2)).row hi
          have g2 := qrow_at (μ := ζ) (h := f i) hj
          by_cases q : i = j
          · subst q
            have g3 := ev_lower (μ := ζ) hN (hf i i hi hi) (czo_some (cz0 (N := N) (m := m)))
            have g3' : m__law_lower [.p (opQ (f i i)), .p (.tup [.int 0, .int 1])] ζ = some (.ok (.p (opQ (omin (f i i) (some 0)))), ζ) := g3
            have g4 : f0 f i i = omin (f i i) (some 0) := by simp [f0]
            rw [g4]
            generalize (i : Int) = ii at *
            simp [-fIx_lstp, g1, g2]
            rw [fIx_lstp, at_1]
            simp [g3']
          · have g3 := ev_lower (μ := ζ) hN (hf i j hi hj) (czo_none (N := N) (m := m))
            rw [omin_none'] at g3
            have g3' : m__law_lower [.p (opQ (f i j)), .p .non] ζ = some (.ok (.p (opQ (f i j))), ζ) := g3
            have g4 : f0 f i j = f i j := by simp [f0, q]
            have hne : ¬ ((i : Int) = (j : Int)) := by omega
            rw [g4]
            generalize (i : Int) = ii at *
            generalize (j : Int) = ji at *
            simp [-fIx_lstp, g1, g2, hne]
            rw [fIx_lstp, at_0]
            simp [g3']) (by simpa using line_n (by omega))
      exact e) (by simpa using line_n (by omega))
  rw [e]
  show some (Out.ok (D.p (P.lst ((List.range n).map fun i => P.lst (rwQ n (f0 f i))))), μ) = _
  unfold tqP tbQ
  rw [List.map_map]
  rfl
theorem lcl_test {d F : D} {g : Tf} {n0 : Nat} {c3 c4 c6 c7 c8 c9 : Option D} {S : D} (hN : Nok N) (hn : n ≤ 100) (hdg : Dg n g) (O2 : OwnT n0 ν n F g) (hz : CzT N m n g) (hm : m ≤ 199000) : evLc (evRng1 (evV 1)) (tgN 4) (evB (evCall m__law_less [] (evCons (evBin fIx (evBin fIx (evV 5) (evV 4)) (evV 4)) (evCons (evTup (evCons (evC (.int 0)) (evCons (evC (.int 1)) evNil))) evNil)))) (evV 4) [4]
    [some d, some (.p (.int (n : Int))), some S, c3, c4, some F, c6, c7, c8, c9] ν = some (.ok (.p (.lst (((List.range n).filter fun i => ng (g i i)).map fun (i : Nat) => .int (i : Int)))), ν) := by
  refine lc_filt (as := List.range n) (fun (i : Nat) => P.int (i : Int)) _ _ ?_ (fun i hi => ?_) (by simpa using line_n (by omega))
  · have := rng_n (δ := [some d, some (.p (.int (n : Int))), some S, c3, c4, some F, c6, c7, c8, c9]) (μ := ν) (ν := ν) n (e := evV 1) rfl (by omega)
    rw [this, ints_eq]
  · have hi : i < n := by simpa using hi
    refine ⟨_, rfl, fun ξ ex => ⟨?_, by simp⟩⟩
    obtain ⟨q, hq⟩ := hdg i hi
    have g1 := (O2.fat.ext ex).row hi
    have g2 := qrow_at (μ := ξ) (h := g i) hi
    rw [hq, opQ_some] at g2
    have g3 := fun ν : Mu => ev_lless (μ := ν) (b := 0) ((hz i i hi hi q hq).bz hN) bz0 (by decide)
    have g3' : ∀ ν : Mu, m__law_less [.p (pr q), .p (.tup [.int 0, .int 1])] ν = some (.ok (.p (.bl (decide (q < 0)))), ν) := g3
    rw [hq]
    generalize (i : Int) = ii at *
    simp [-fIx_lstp, g1, g2, g3', ng]
theorem lcl_pos {g : Tf} : (((((List.range n).filter fun i => ng (g i i)).map fun (i : Nat) => P.int (i : Int)).length : Int) > 0) ↔ neg n (g) = true := by
  unfold neg
  rw [List.length_map, List.any_eq_true]
  constructor
  · intro h
    have h : 0 < ((List.range n).filter fun i => ng (g i i)).length := by omega
    obtain ⟨i, hi⟩ := List.exists_mem_of_length_pos h
    rw [List.mem_filter] at hi
    exact ⟨i, hi.1, hi.2⟩
  · rintro ⟨i, h1, h2⟩
    have := List.length_pos_of_mem (List.mem_filter (p := fun i => ng (g i i)) |>.mpr ⟨h1, h2⟩)
    omega
theorem lcl_ret {F : D} {g : Tf} {δ : Sl} (x2 : Ext μ ν) (O2 : OwnT μ.length ν n F g) : retF μ.length (some (.ret F, δ, ν)) = some (.ok (.p (tqP n (g))), μ) := by
  rcases O2 with rfl | ⟨q, rfl, hq, hc⟩
  · rw [retF_p, x2.take]
  · show retL μ.length q ν = _
    unfold retL
    rw [if_neg (by omega), cellL_l hc]
    dsimp only
    rw [x2.take]
    rfl
theorem lcl_tail {e : Ev} {L : List P} {F : D} {δ : Sl} (h : e δ ν = some (.ok (.p (.lst L)), ν)) (hF : δ[5]? = some (some F)) :
    seqS (sIf (evB (evBin fGt (evBI fLen (evCons e evNil)) (evC (.int 0)))) (sRet (evC .non)) sNil) (sRet (evV 5)) δ ν = if 0 < L.length then some (.ret (.p .non), δ, ν) else some (.ret F, δ, ν) := by
  have h5 := evV_at (μ := ν) hF
  by_cases q : 0 < L.length
  · simp [h, h5, q, andThen_ite]
  · simp [h, h5, q, andThen_ite]
theorem ev_lclosed {d : D} (hN : Nok N) (hn : n ≤ 100) (hf : CzT N m n f) (hm : m ≤ 190000) (A : FAt μ n d f) : m__law_closed [d] μ = some (.ok (.p (oT n (bfT n f))), μ) := by
  have hlen : fLen [d] μ = some (.p (.int (n : Int)), μ) := by
    unfold fLen
    dsimp only
    rw [A]
    show some (D.p (.int ((tbQ n f).map P.lst).length), μ) = _
    rw [List.length_map, tbQ_len]
  -- first
  have e1 := lcl_first hN hn hf hm A
  obtain ⟨c3, c4, F, c6, c7, c8, c9, ν, e2, x2, O2, hz⟩ := turn_loop (c0 := some d) (μ0 := μ) hN hn hf.f0 n 0 m (f0 f) (.p (tqP n (f0 f))) μ none none none none none none (Nat.le_refl _) (by omega) (by omega) hf.f0 Ext.refl (.inl rfl)
  have hr2 := rng_n (δ := [some d, some (.p (.int (n : Int))), some (.p (tqP n (f0 f))), none, none, some (.p (tqP n (f0 f))), none, none, none, none]) (μ := μ) (ν := μ) n (e := evV 1) rfl (by omega)
  have hdg : Dg n (bfI n (f0 f) n (f0 f)) := bfI_dg n _ dg_f0
  have e3 := lcl_test (d := d) (S := .p (tqP n (f0 f))) (c3 := c3) (c4 := c4) (c6 := c6) (c7 := c7) (c8 := c8) (c9 := c9) hN hn hdg O2 hz (by omega)
  have e4 := lcl_pos (n := n) (g := bfI n (f0 f) n (f0 f))
  have hret := lcl_ret (δ := [some d, some (.p (.int (n : Int))), some (.p (tqP n (f0 f))), c3, c4, some F, c6, c7, c8, c9]) x2 O2
  have s1 : sSet 1 (evBI fLen (evCons (evV 0) evNil)) [some d, none, none, none, none, none, none, none, none, none] μ = some (.nx, [some d, some (.p (.int (n : Int))), none, none, none, none, none, none, none, none], μ) := by
    rw [sSet_eq, evBI_eq, evCons_eq, evV_0, bindG_ok, evNil_eq, bindG_ok, bindG_ok, hlen, okm_some, bindS_ok]
    rfl
  have s3 : sSet 5 (evV 2) [some d, some (.p (.int (n : Int))), some (.p (tqP n (f0 f))), none, none, none, none, none, none, none] μ = some (.nx, [some d, some (.p (.int (n : Int))), some (.p (tqP n (f0 f))), none, none, some (.p (tqP n (f0 f))), none, none, none, none], μ) := rfl
  have s5 := lcl_tail (F := F) (δ := [some d, some (.p (.int (n : Int))), some (.p (tqP n (f0 f))), c3, c4, some F, c6, c7, c8, c9]) e3 rfl
  have s6 : sv__law_closed [some d, none, none, none, none, none, none, none, none, none] μ = if 0 < (((List.range n).filter fun i => ng (bfI n (f0 f) n (f0 f) i i)).map fun (i : Nat) => P.int (i : Int)).length then some (.ret (.p .non), [some d, some (.p (.int (n : Int))), some (.p (tqP n (f0 f))), c3, c4, some F, c6, c7, c8, c9], ν) else some (.ret F, [some d, some (.p (.int (n : Int))), some (.p (tqP n (f0 f))), c3, c4, some F, c6, c7, c8, c9], ν) := by
    unfold sv__law_closed
    rw [seqS_eq, s1, andThen_nx, seqS_eq, sSet_eq, e1, bindS_ok, andThen_nx]
    show seqS (sSet 5 (evV 2)) _ [some d, some (.p (.int (n : Int))), some (.p (tqP n (f0 f))), none, none, none, none, none, none, none] μ = _
    rw [seqS_eq, s3, andThen_nx, seqS_eq, sFor_eq, hr2, bindS_ok, e2, andThen_nx]
    exact s5
  show (if [d].length = 1 then bodySem 10 sv__law_closed [d] μ else none) = _
  rw [if_pos (show [d].length = 1 from rfl), bodySem_eq]
  show retF μ.length (sv__law_closed [some d, none, none, none, none, none, none, none, none, none] μ) = _
  rw [s6]
  unfold bfT
  by_cases hneg : neg n (bfI n (f0 f) n (f0 f)) = true
  · have h4 := e4.mpr hneg
    rw [if_pos hneg, if_pos (Int.ofNat_lt.mp h4), retF_p, x2.take]
    rfl
  · rw [if_neg hneg, if_neg (fun z => hneg (e4.mp (Int.ofNat_lt.mpr z)))]
    exact hret
end
end Vs
/-! Closing a table: the least sums along all ways. -/
namespace Vs
inductive Wk (n : Nat) (f : Tf) : Nat → Nat → Nat → Rat → Prop
  | nil {i : Nat} : i < n → Wk n f 0 i i 0
  | cons {m i k j : Nat} {x w : Rat} : i < n → f i k = some x → Wk n f m k j w → Wk n f (m + 1) i j (x + w)
/-- a is at most w -/
def ole (a : Option Rat) (w : Rat) : Prop := ∃ x, a = some x ∧ x ≤ w
section
variable {n : Nat} {f g h : Tf}
theorem ole.le {a : Option Rat} {v w : Rat} (h : ole a v) (e : v ≤ w) : ole a w := let ⟨x, h1, h2⟩ := h; ⟨x, h1, by grind⟩
theorem ole_omin_l {a b : Option Rat} {w : Rat} (h : ole a w) : ole (omin a b) w := by
  obtain ⟨x, rfl, h⟩ := h
  cases b with
  | none => exact ⟨x, rfl, h⟩
  | some y =>
    refine ⟨_, rfl, ?_⟩
    split <;> grind
theorem ole_omin_r {a b : Option Rat} {w : Rat} (h : ole b w) : ole (omin a b) w := by
  obtain ⟨x, rfl, h⟩ := h
  cases a with
  | none => exact ⟨x, rfl, h⟩
  | some y =>
    refine ⟨_, rfl, ?_⟩
    split <;> grind
theorem omin_or {a b : Option Rat} {z : Rat} (h : omin a b = some z) : a = some z ∨ b = some z := by
  unfold omin at h
  split at h
  · exact .inr h
  · exact .inl h
  · rename_i x y
    split at h
    · exact .inr h
    · exact .inl h
theorem osum_some {a b : Option Rat} {z : Rat} (h : osum a b = some z) : ∃ x y, a = some x ∧ b = some y ∧ z = x + y := by
  unfold osum at h
  split at h
  · cases h; exact ⟨_, _, rfl, rfl, rfl⟩
  · cases h
theorem ole_osum {a b : Option Rat} {v w : Rat} (h : ole a v) (h2 : ole b w) : ole (osum a b) (v + w) := by
  obtain ⟨x, rfl, h⟩ := h
  obtain ⟨y, rfl, h2⟩ := h2
  exact ⟨x + y, rfl, by grind⟩
theorem Wk.lt {m i j : Nat} {w : Rat} (h : Wk n f m i j w) : i < n := by cases h <;> assumption
theorem Wk.lt2 {m i j : Nat} {w : Rat} (h : Wk n f m i j w) : j < n := by
  induction h with
  | nil h => exact h
  | cons _ _ _ ih => exact ih
theorem Wk.app {m m' i k j : Nat} {w w' : Rat} (h : Wk n f m i k w) (h2 : Wk n f m' k j w') : Wk n f (m + m') i j (w + w') := by
  induction h with
  | nil h => rw [Nat.zero_add, Rat.zero_add]; exact h2
  | cons h1 h3 h4 ih =>
    rename_i m i k' j x w
    have := Wk.cons h1 h3 (ih h2)
    rw [show m + 1 + m' = m + m' + 1 by omega, Rat.add_assoc]
    exact this
theorem Wk.one {i j : Nat} {x : Rat} (hi : i < n) (hj : j < n) (h : f i j = some x) : Wk n f 1 i j x := by
  have := Wk.cons hi h (Wk.nil hj)
  rwa [Rat.add_zero] at this
/-- the stations of a way, and the sums up to them -/
structure Pth (n : Nat) (f : Tf) (m i j : Nat) (w : Rat) (p : Nat → Nat) (c : Nat → Rat) : Prop where
  p0 : p 0 = i
  pm : p m = j
  c0 : c 0 = 0
  cm : c m = w
  lt : ∀ t, t ≤ m → p t < n
  st : ∀ t, t < m → f (p t) (p (t + 1)) = some (c (t + 1) - c t)
theorem Wk.pth {m i j : Nat} {w : Rat} (h : Wk n f m i j w) : ∃ p c, Pth n f m i j w p c := by
  induction h with
  | @nil i h => exact ⟨fun _ => i, fun _ => 0, rfl, rfl, rfl, rfl, fun _ _ => h, fun t ht => by omega⟩
  | @cons m i k j x w h1 h2 h3 ih =>
    obtain ⟨p, c, P⟩ := ih
    refine ⟨fun t => match t with | 0 => i | t + 1 => p t, fun t => match t with | 0 => 0 | t + 1 => x + c t, rfl, P.pm, rfl, by show x + c m = x + w; rw [P.cm], fun t ht => ?_, fun t ht => ?_⟩
    · cases t with
      | zero => exact h1
      | succ t => exact P.lt t (by omega)
    · cases t with
      | zero =>
        show f i (p 0) = some (x + c 0 - 0)
        rw [P.p0, P.c0, h2]
        congr 1
        grind
      | succ t =>
        show f (p t) (p (t + 1)) = some (x + c (t + 1) - (x + c t))
        rw [P.st t (by omega)]
        congr 1
        grind
theorem Pth.seg {m i j : Nat} {w : Rat} {p : Nat → Nat} {c : Nat → Rat} (P : Pth n f m i j w p c) : ∀ (r s : Nat), s + r ≤ m → Wk n f r (p s) (p (s + r)) (c (s + r) - c s)
  | 0, s, h => by
    have := Wk.nil (f := f) (P.lt s (by omega))
    rw [Nat.add_zero, show c s - c s = 0 by grind]
    exact this
  | r + 1, s, h => by
    have h1 := P.seg r (s + 1) (by omega)
    have h2 := Wk.cons (P.lt s (by omega)) (P.st s (by omega)) h1
    rw [show s + 1 + r = s + (r + 1) by omega] at h2
    rw [show c (s + (r + 1)) - c s = c (s + 1) - c s + (c (s + (r + 1)) - c (s + 1)) by grind]
    exact h2
theorem pigeon : ∀ (n : Nat) (p : Nat → Nat), (∀ t, t ≤ n → p t < n) → ∃ s t, s < t ∧ t ≤ n ∧ p s = p t
  | 0, p, h => absurd (h 0 (Nat.le_refl _)) (by omega)
  | n + 1, p, h => by
    by_cases q : ∃ t, t < n + 1 ∧ p t = p (n + 1)
    · obtain ⟨t, h1, h2⟩ := q
      exact ⟨t, n + 1, h1, Nat.le_refl _, h2⟩
    · have q' : ∀ t, t < n + 1 → p t ≠ p (n + 1) := fun t h1 h2 => q ⟨t, h1, h2⟩
      obtain ⟨s, t, h1, h2, h3⟩ := pigeon n (fun t => if p t = n then p (n + 1) else p t) (fun t ht => by
        have a := h t (by omega)
        have b := h (n + 1) (Nat.le_refl _)
        have c := q' t (by omega)
        split <;> omega)
      refine ⟨s, t, h1, by omega, ?_⟩
      have a := q' s (by omega)
      have b := q' t (by omega)
      split at h3 <;> split at h3 <;> omega
/-- no way from a time to itself has a sum less than 0 -/
def NN (n : Nat) (f : Tf) : Prop := ∀ m i w, Wk n f m i i w → 0 ≤ w
theorem Wk.split {m i j : Nat} {w : Rat} (h : Wk n f m i j w) (hm : n < m) : ∃ v a b c wa wb wc, Wk n f a i v wa ∧ Wk n f b v v wb ∧ Wk n f c v j wc ∧ b ≤ n ∧ a + c < m ∧ w = wa + wb + wc := by
  obtain ⟨p, c, P⟩ := h.pth
  obtain ⟨s, t, h1, h2, h3⟩ := pigeon n p fun t ht => P.lt t (by omega)
  have a1 := P.seg s 0 (by omega)
  have a2 := P.seg (t - s) s (by omega)
  have a3 := P.seg (m - t) t (by omega)
  rw [Nat.zero_add, P.p0, P.c0] at a1
  rw [show s + (t - s) = t by omega, ← h3] at a2
  rw [show t + (m - t) = m by omega, ← h3, P.pm, P.cm] at a3
  exact ⟨p s, s, t - s, m - t, _, _, _, a1, a2, a3, by omega, by omega, by grind⟩
theorem Wk.short (nn : NN n f) : ∀ (N m i j : Nat) (w : Rat), m ≤ N → Wk n f m i j w → ∃ m' w', m' ≤ n ∧ Wk n f m' i j w' ∧ w' ≤ w
  | 0, m, i, j, w, hm, h => ⟨m, w, by omega, h, by grind⟩
  | N + 1, m, i, j, w, hm, h => by
    by_cases q : m ≤ n
    · exact ⟨m, w, q, h, by grind⟩
    · obtain ⟨v, a, b, c, wa, wb, wc, h1, h2, h3, h4, h5, h6⟩ := h.split (by omega)
      obtain ⟨m', w', r1, r2, r3⟩ := Wk.short nn N (a + c) i j _ (by omega) (h1.app h3)
      have := nn _ _ _ h2
      exact ⟨m', w', r1, r2, by grind⟩
theorem Wk.negShort : ∀ (N m i : Nat) (w : Rat), m ≤ N → Wk n f m i i w → w < 0 → ∃ m' i' w', m' ≤ n ∧ Wk n f m' i' i' w' ∧ w' < 0
  | 0, m, i, w, hm, h, hw => ⟨m, i, w, by omega, h, hw⟩
  | N + 1, m, i, w, hm, h, hw => by
    by_cases q : m ≤ n
    · exact ⟨m, i, w, q, h, hw⟩
    · obtain ⟨v, a, b, c, wa, wb, wc, h1, h2, h3, h4, h5, h6⟩ := h.split (by omega)
      by_cases q2 : wb < 0
      · exact ⟨b, v, wb, h4, h2, q2⟩
      · exact Wk.negShort N (a + c) i (wa + wc) (by omega) (h1.app h3) (by grind)
/-- each entry is the sum of a way -/
def Snd (n : Nat) (f g : Tf) : Prop := ∀ i j x, i < n → j < n → g i j = some x → ∃ m, Wk n f m i j x
theorem snd_f0 : Snd n f (f0 f) := fun i j x hi hj h => by
  unfold f0 at h
  split at h
  · rename_i q
    subst q
    rcases omin_or h with h | h
    · exact ⟨1, Wk.one hi hi h⟩
    · cases h; exact ⟨0, Wk.nil hi⟩
  · exact ⟨1, Wk.one hi hj h⟩
theorem Snd.bw {a : Nat} (S : Snd n f g) (ha : a < n) : Snd n f (bw g a a (some 0)) := fun i j x hi hj h => by
  rcases omin_or h with h | h
  · exact S i j x hi hj h
  · obtain ⟨y, z, h1, h2, rfl⟩ := osum_some h
    obtain ⟨u, v, h3, h4, rfl⟩ := osum_some h2
    cases h3
    obtain ⟨m, w1⟩ := S i a y hi ha h1
    obtain ⟨m', w2⟩ := S a j v ha hj h4
    refine ⟨m + m', ?_⟩
    rw [Rat.zero_add]
    exact w1.app w2
/-- no entry is greater than the sum by way of a k before K -/
def Tri (n K : Nat) (g : Tf) : Prop := ∀ i j k x y, i < n → j < n → k < K → g i k = some x → g k j = some y → ole (g i j) (x + y)
def LeT (n : Nat) (f g : Tf) : Prop := ∀ i j x, i < n → j < n → f i j = some x → ole (g i j) x
theorem bw_le {a : Nat} {c : Option Rat} {b : Nat} : LeT n g (bw g a b c) := fun i j x hi hj h => ole_omin_l ⟨x, h, by grind⟩
theorem LeT.trans (h1 : LeT n f g) (h2 : LeT n g h) : LeT n f h := fun i j x hi hj e => by
  obtain ⟨y, e1, l1⟩ := h1 i j x hi hj e
  exact (h2 i j y hi hj e1).le l1
theorem bw_via {a i j : Nat} {x y : Rat} (h1 : g i a = some x) (h2 : g a j = some y) : ole (bw g a a (some 0) i j) (x + y) := by
  refine ole_omin_r ⟨x + (0 + y), ?_, by grind⟩
  rw [h1, h2]; rfl
theorem bw_or {a i j : Nat} {z : Rat} (h : bw g a a (some 0) i j = some z) : g i j = some z ∨ ∃ x y, g i a = some x ∧ g a j = some y ∧ z = x + y := by
  rcases omin_or h with h | h
  · exact .inl h
  · obtain ⟨x, y, h1, h2, rfl⟩ := osum_some h
    obtain ⟨u, v, h3, h4, rfl⟩ := osum_some h2
    cases h3
    exact .inr ⟨x, v, h1, h4, by grind⟩
theorem Tri.bw {a : Nat} (T : Tri n a g) (ha : a < n) {q : Rat} (hq : g a a = some q) (h0 : 0 ≤ q) : Tri n (a + 1) (bw g a a (some 0)) := fun i j k x y hi hj hk h1 h2 => by
  have lift : ∀ {w : Rat} {i' j' : Nat}, i' < n → j' < n → ole (g i' j') w → ole (Vs.bw g a a (some 0) i' j') w := fun hi' hj' ⟨u, e, l⟩ => (bw_le (n := n) _ _ u hi' hj' e).le l
  by_cases hka : k = a
  · subst hka
    -- by way of a itself
    have e1 : ∃ u, g i k = some u ∧ u ≤ x := by
      rcases bw_or h1 with h | ⟨u, v, h3, h4, rfl⟩
      · exact ⟨x, h, by grind⟩
      · rw [hq] at h4; cases h4; exact ⟨u, h3, by grind⟩
    have e2 : ∃ u, g k j = some u ∧ u ≤ y := by
      rcases bw_or h2 with h | ⟨u, v, h3, h4, rfl⟩
      · exact ⟨y, h, by grind⟩
      · rw [hq] at h3; cases h3; exact ⟨v, h4, by grind⟩
    obtain ⟨u, a1, a2⟩ := e1
    obtain ⟨v, b1, b2⟩ := e2
    exact (bw_via a1 b1).le (by grind)
  · have hk : k < a := by omega
    have hkn : k < n := by omega
    rcases bw_or h1 with h1 | ⟨x1, x2, h3, h4, rfl⟩ <;> rcases bw_or h2 with h2 | ⟨y1, y2, h5, h6, rfl⟩
    · exact lift hi hj (T i j k x y hi hj hk h1 h2)
    · obtain ⟨u, a1, a2⟩ := T i a k x y1 hi ha hk h1 h5
      exact (bw_via a1 h6).le (by grind)
    · obtain ⟨u, a1, a2⟩ := T a j k x2 y ha hj hk h4 h2
      exact (bw_via h3 a1).le (by grind)
    · obtain ⟨u, a1, a2⟩ := T a a k x2 y1 ha ha hk h4 h5
      rw [hq] at a1; cases a1
      exact (bw_via h3 h6).le (by grind)
structure Cl (n : Nat) (f g : Tf) : Prop where
  snd : Snd n f g
  low : ∀ m i j w, Wk n f m i j w → ole (g i j) w
theorem Cl.unique (a : Cl n f g) (b : Cl n f h) {i j : Nat} (hi : i < n) (hj : j < n) : g i j = h i j := by
  cases e : g i j with
  | none =>
    cases e2 : h i j with
    | none => rfl
    | some y =>
      obtain ⟨m, w⟩ := b.snd i j y hi hj e2
      obtain ⟨x, h1, _⟩ := a.low _ _ _ _ w
      rw [e] at h1; cases h1
  | some x =>
    obtain ⟨m, w⟩ := a.snd i j x hi hj e
    obtain ⟨y, h1, h2⟩ := b.low _ _ _ _ w
    obtain ⟨m', w'⟩ := b.snd i j y hi hj h1
    obtain ⟨x', h3, h4⟩ := a.low _ _ _ _ w'
    rw [e] at h3; cases h3
    rw [h1]
    congr 1
    grind
theorem f0_le : LeT n f (f0 f) := fun i j x hi hj h => by
  unfold f0
  split
  · rename_i q; subst q; exact ole_omin_l ⟨x, h, by grind⟩
  · exact ⟨x, h, by grind⟩
theorem f0_diag {i : Nat} : ole (f0 f i i) 0 := by
  unfold f0
  rw [if_pos rfl]
  exact ole_omin_r ⟨0, rfl, by grind⟩
/-- what the program's closing gives -/
structure Fin (n : Nat) (f g : Tf) : Prop where
  snd : Snd n f g
  tri : Tri n n g
  le : LeT n (f0 f) g
  nn : ∀ i, i < n → ∃ q, g i i = some q ∧ 0 ≤ q
theorem neg_false {g : Tf} (h : ¬ neg n g = true) {i : Nat} {q : Rat} (hi : i < n) (e : g i i = some q) : 0 ≤ q := by
  unfold neg at h
  rw [List.any_eq_true] at h
  by_cases q0 : q < 0
  · exact absurd ⟨i, by simpa using hi, by rw [e]; simpa [ng] using q0⟩ h
  · grind
theorem neg_true {g : Tf} (h : neg n g = true) : ∃ i q, i < n ∧ g i i = some q ∧ q < 0 := by
  unfold neg at h
  rw [List.any_eq_true] at h
  obtain ⟨i, h1, h2⟩ := h
  cases e : g i i with
  | none => rw [e] at h2; cases h2
  | some q => rw [e] at h2; exact ⟨i, q, by simpa using h1, e, by simpa [ng] using h2⟩
theorem fwL_ok : ∀ (r a : Nat) (g : Tf), a + r = n → Snd n f g → Tri n a g → LeT n (f0 f) g → Dg n g → (r = 0 → ∀ i, i < n → ∃ q, g i i = some q ∧ 0 ≤ q) →
    match fwL n r a g with
    | none => ∃ m i w, Wk n f m i i w ∧ w < 0
    | some g' => Fin n f g'
  | 0, a, g, ha, S, T, L, D, N => by
    obtain rfl : a = n := by omega
    exact ⟨S, T, L, N rfl⟩
  | r + 1, a, g, ha, S, T, L, D, N => by
    have han : a < n := by omega
    have S2 := S.bw han
    have D2 := D.bw a a (some 0)
    unfold fwL
    by_cases hneg : neg n (bw g a a (some 0)) = true
    · rw [if_pos hneg]
      obtain ⟨i, q, h1, h2, h3⟩ := neg_true hneg
      obtain ⟨m, w⟩ := S2 i i q h1 h1 h2
      exact ⟨m, i, q, w, h3⟩
    · rw [if_neg hneg]
      obtain ⟨q, hq⟩ := D a han
      have h0 : 0 ≤ q := by
        obtain ⟨z, e, l⟩ := bw_via (g := g) hq hq
        have := neg_false hneg han e
        grind
      exact fwL_ok r (a + 1) _ (by omega) S2 (T.bw han hq h0) (L.trans bw_le) D2 fun _ i hi => by
        obtain ⟨q, e⟩ := D2 i hi
        exact ⟨q, e, neg_false hneg hi e⟩
theorem fw_ok : match fw n f with
    | none => ∃ m i w, Wk n f m i i w ∧ w < 0
    | some g => Fin n f g := fwL_ok n 0 (f0 f) (by omega) snd_f0 (fun i j k x y hi hj hk => by omega) (fun i j x hi hj h => ⟨x, h, by grind⟩) dg_f0 (fun h i hi => by omega)
theorem Fin.cl (F : Fin n f g) : Cl n f g := ⟨F.snd, fun m i j w h => by
  induction h with
  | nil h =>
    obtain ⟨x, e, l⟩ := f0_diag (f := f)
    exact (F.le _ _ x h h e).le l
  | cons h1 h2 h3 ih =>
    obtain ⟨x, e, l⟩ := f0_le _ _ _ h1 h3.lt h2
    obtain ⟨y, e1, l1⟩ := F.le _ _ x h1 h3.lt e
    obtain ⟨z, e2, l2⟩ := ih
    exact (F.tri _ _ _ y z h1 h3.lt2 h3.lt e1 e2).le (by grind)⟩
theorem Fin.nn' (F : Fin n f g) : NN n f := fun m i w h => by
  obtain ⟨x, e, l⟩ := F.cl.low _ _ _ _ h
  obtain ⟨q, e2, l2⟩ := F.nn i h.lt
  rw [e] at e2; cases e2
  grind
/-! ### the law's way -/
theorem relK_le {fd fs : Tf} {i x : Nat} {w : Rat} : ∀ (r k : Nat) (h : Nat → Option Rat), ole (h x) w → ole (relK n fd fs i r k h x) w
  | 0, k, h, e => e
  | r + 1, k, h, e => relK_le r (k + 1) _ (by
      rw [relJ_eq]
      split
      · exact ole_omin_l e
      · exact e)
theorem relK_via {fd fs : Tf} {i x k' : Nat} {v w : Rat} (hx : x < n) (h1 : ole (fd i k') v) (h2 : ole (fs k' x) w) : ∀ (r k : Nat) (h : Nat → Option Rat), k ≤ k' → k' < k + r → ole (relK n fd fs i r k h x) (v + w)
  | 0, k, h, a, b => by omega
  | r + 1, k, h, a, b => by
    by_cases q : k = k'
    · subst q
      refine relK_le r (k + 1) _ ?_
      rw [relJ_eq, if_pos (by omega)]
      exact ole_omin_r (ole_osum h1 h2)
    · exact relK_via hx h1 h2 r (k + 1) _ (by omega) (by omega)
theorem relK_or {fd fs : Tf} {i x : Nat} {z : Rat} : ∀ (r k : Nat) (h : Nat → Option Rat), k + r ≤ n → relK n fd fs i r k h x = some z → h x = some z ∨ ∃ k' u v, k' < n ∧ fd i k' = some u ∧ fs k' x = some v ∧ z = u + v
  | 0, k, h, a, e => .inl e
  | r + 1, k, h, a, e => by
    rcases relK_or r (k + 1) _ (by omega) e with e | e
    · rw [relJ_eq] at e
      split at e
      · rcases omin_or e with e | e
        · exact .inl e
        · obtain ⟨u, v, h1, h2, rfl⟩ := osum_some e
          exact .inr ⟨k, u, v, by omega, h1, h2, rfl⟩
      · exact .inl e
    · exact .inr e
theorem snd_nxt {fd : Tf} (S : Snd n f fd) : Snd n f (nxt n (f0 f) fd) := fun i j x hi hj h => by
  rcases relK_or n 0 (fd i) (by omega) h with h | ⟨k, u, v, hk, h1, h2, rfl⟩
  · exact S i j x hi hj h
  · obtain ⟨m, w1⟩ := S i k u hi hk h1
    obtain ⟨m', w2⟩ := snd_f0 k j v hk hj h2
    exact ⟨m + m', w1.app w2⟩
theorem Wk.snoc {m i j : Nat} {w : Rat} (h : Wk n f (m + 1) i j w) : ∃ k w' x, Wk n f m i k w' ∧ f k j = some x ∧ w = w' + x := by
  obtain ⟨p, c, P⟩ := h.pth
  have a1 := P.seg m 0 (by omega)
  rw [Nat.zero_add, P.p0, P.c0] at a1
  have a2 := P.st m (by omega)
  rw [P.pm] at a2
  have := P.cm
  exact ⟨p m, _, _, a1, a2, by grind⟩
def LowT (n : Nat) (f g : Tf) (t : Nat) : Prop := ∀ m i j w, m ≤ t → Wk n f m i j w → ole (g i j) w
theorem low_f0 : LowT n f (f0 f) 1 := fun m i j w hm h => by
  cases h with
  | nil h => exact f0_diag
  | cons h1 h2 h3 =>
    cases h3 with
    | nil h4 =>
      rw [Rat.add_zero]
      exact f0_le _ _ _ h1 h4 h2
    | cons _ _ _ => omega
theorem low_nxt {fd : Tf} {t : Nat} (L : LowT n f fd t) : LowT n f (nxt n (f0 f) fd) (t + 1) := fun m i j w hm h => by
  by_cases q : m ≤ t
  · exact relK_le n 0 (fd i) (L m i j w q h)
  · obtain ⟨m, rfl⟩ : ∃ m', m = m' + 1 := ⟨m - 1, by omega⟩
    obtain ⟨k, w', x, h1, h2, rfl⟩ := h.snoc
    exact relK_via h.lt2 (L m i k w' (by omega) h1) (f0_le _ _ _ h1.lt2 h.lt2 h2) n 0 (fd i) (by omega) (by have := h1.lt2; omega)
theorem bfI_ok : ∀ (r t : Nat) (fd : Tf), Snd n f fd → LowT n f fd t → Snd n f (bfI n (f0 f) r fd) ∧ LowT n f (bfI n (f0 f) r fd) (t + r)
  | 0, t, fd, S, L => ⟨S, L⟩
  | r + 1, t, fd, S, L => by
    have := bfI_ok r (t + 1) _ (snd_nxt S) (low_nxt L)
    rwa [show t + 1 + r = t + (r + 1) by omega] at this
theorem bf_nn (nn : NN n f) : ∃ h, bfT n f = some h ∧ Cl n f h := by
  obtain ⟨S, L⟩ := bfI_ok n 1 (f0 f) snd_f0 (low_f0 (n := n))
  refine ⟨_, if_neg fun q => ?_, S, fun m i j w h => ?_⟩
  · obtain ⟨i, x, h1, h2, h3⟩ := neg_true q
    obtain ⟨m, w⟩ := S i i x h1 h1 h2
    have := nn _ _ _ w
    grind
  · obtain ⟨m', w', h1, h2, h3⟩ := Wk.short nn m m i j w (Nat.le_refl _) h
    exact (L m' i j w' (by omega) h2).le h3
theorem bf_neg {m i : Nat} {w : Rat} (h : Wk n f m i i w) (hw : w < 0) : bfT n f = none := by
  obtain ⟨S, L⟩ := bfI_ok n 1 (f0 f) snd_f0 (low_f0 (n := n))
  obtain ⟨m', i', w', h1, h2, h3⟩ := Wk.negShort m m i w (Nat.le_refl _) h hw
  refine if_pos ?_
  unfold neg
  rw [List.any_eq_true]
  obtain ⟨x, e, l⟩ := L m' i' i' w' (by omega) h2
  refine ⟨i', by simpa using h2.lt, ?_⟩
  rw [e]
  have : x < 0 := by grind
  simpa [ng] using this
theorem fw_bf : (fw n f = none ∧ bfT n f = none) ∨ ∃ g h, fw n f = some g ∧ bfT n f = some h ∧ Fin n f g ∧ ∀ i j, i < n → j < n → g i j = h i j := by
  have h := fw_ok (n := n) (f := f)
  cases e : fw n f with
  | none =>
    rw [e] at h
    obtain ⟨m, i, w, h1, h2⟩ := h
    exact .inl ⟨rfl, bf_neg h1 h2⟩
  | some g =>
    rw [e] at h
    obtain ⟨k, h1, h2⟩ := bf_nn h.nn'
    exact .inr ⟨g, k, rfl, h1, h, fun i j hi hj => h.cl.unique h2 hi hj⟩
end
end Vs
/-! Tables shown, tables made. -/
namespace Vs
open PySem PySem.Spec PyProof.Rows L2
def RowAt (μ : Mu) (d : D) (R : List P) : Prop := d = .p (.lst R) ∨ ∃ k, d = .loc k ∧ μ[k]? = some (some (.lst R))
def TabAt (μ : Mu) (d : D) (Rs : List (List P)) : Prop := d = .p (.lst (Rs.map .lst)) ∨ (∃ k, d = .loc k ∧ μ[k]? = some (some (.lst (Rs.map .lst)))) ∨ ∃ n0 l ks, d = .loc l ∧ Live n0 μ l Rs ks
section
variable {μ ν : Mu} {d : D} {R : List P} {Rs : List (List P)}
theorem RowAt.ext (h : RowAt μ d R) (e : Ext μ ν) : RowAt ν d R := h.elim .inl fun ⟨k, h1, h2⟩ => .inr ⟨k, h1, e.at h2⟩
theorem TabAt.ext (h : TabAt μ d Rs) (e : Ext μ ν) : TabAt ν d Rs := h.elim .inl fun h => .inr (h.elim (fun ⟨k, h1, h2⟩ => .inl ⟨k, h1, e.at h2⟩) fun ⟨n0, l, ks, h1, h2⟩ => .inr ⟨n0, l, ks, h1, h2.ext e⟩)
theorem RowAt.items (h : RowAt μ d R) : ∃ g, okG μ g ∧ ∀ ν, Ext μ ν → items ν d = some (false, R.map .p, g) ∧ isiVEnd (isiT 1 "list") ν (kindD ν d) = some (.ok (.p (.bl true)), ν) := by
  rcases h with rfl | ⟨k, rfl, h⟩
  · exact ⟨none, trivial, fun ν _ => ⟨rfl, isiVEnd_some rfl⟩⟩
  · refine ⟨_, show okG μ (some (k, .lst R)) from h, fun ν ex => ⟨items_lst (ex.at h), ?_⟩⟩
    have : kindD ν (.loc k) = some (.lst []) := by unfold kindD; dsimp only; rw [ex.at h]
    rw [this]
    exact isiVEnd_some rfl
theorem TabAt.items (h : TabAt μ d Rs) : ∃ ds g, okG μ g ∧ (∀ ν, Ext μ ν → items ν d = some (false, ds, g) ∧ isiVEnd (isiT 1 "list") ν (kindD ν d) = some (.ok (.p (.bl true)), ν)) ∧ ds.length = Rs.length ∧ ∀ (i : Nat) (R : List P), Rs[i]? = some R → ∃ e, ds[i]? = some e ∧ RowAt μ e R := by
  rcases h with rfl | ⟨k, rfl, h⟩ | ⟨n0, l, ks, rfl, L⟩
  · exact ⟨_, none, trivial, fun ν _ => ⟨rfl, isiVEnd_some rfl⟩, by simp, fun i R hi => ⟨.p (.lst R), by simp [hi], .inl rfl⟩⟩
  · refine ⟨_, _, show okG μ (some (k, .lst (Rs.map .lst))) from h, fun ν ex => ⟨items_lst (ex.at h), ?_⟩, by simp, fun i R hi => ⟨.p (.lst R), by simp [hi], .inl rfl⟩⟩
    have : kindD ν (.loc k) = some (.lst []) := by unfold kindD; dsimp only; rw [ex.at h]
    rw [this]
    exact isiVEnd_some rfl
  · refine ⟨_, _, show okG μ (some (l, .dl (ks.map .loc))) from L.at', fun ν ex => ⟨items_live (L.ext ex), ?_⟩, by rw [List.length_map, L.len], fun i R hi => ?_⟩
    · have : kindD ν (.loc l) = some (.lst []) := by unfold kindD; dsimp only; rw [ex.at L.at']
      rw [this]
      exact isiVEnd_some rfl
    · obtain ⟨k, h1, h2⟩ := L.get hi
      exact ⟨.loc k, by rw [List.getElem?_map, h1]; rfl, .inr ⟨k, rfl, h2⟩⟩
theorem ev_told {o : Option Rat} : m__law_told [.p (opR o)] μ = some (.ok (.p (opQ o)), μ) := by
  cases o with
  | some q => exact ev_ltold
  | none =>
    have h : isiVEnd (isiO 0) μ (some .non) = some (.ok (.p (.bl false)), μ) := isiVEnd_some rfl
    simp [m__law_told, arF, bodySem_eq, sv__law_told, h]
@[simp] theorem isNon_opR {o : Option Rat} : isNon (.p (opR o)) = !o.isSome := by cases o <;> rfl
theorem fApp_at {l : Nat} {xs : List P} {y : P} (h : μ[l]? = some (some (.lst xs))) (hl : xs.length < 1000) : fApp (.loc l) [.p y] μ = some (.p .non, μ.set l (some (.lst (xs ++ [y])))) := by
  unfold fApp
  dsimp only
  rw [toP_p]
  dsimp only
  rw [cellL_l h]
  dsimp only
  rw [if_pos (line_k hl)]
theorem ap_new {l p : Nat} {xs ys : List P} (h : μ[l]? = some (some (.lst xs))) (h2 : μ[p]? = some (some (.lst ys))) (hne : p ≠ l) (hl : xs.length < 1000) : fApp (.loc l) [.loc p] μ = some (.p .non, (μ.set p none).set l (some (.lst (xs ++ [.lst ys])))) := by
  unfold fApp
  dsimp only
  have e0 : toP μ (.loc p) = some (.lst ys, μ.set p none) := by
    show (cellL μ p).map _ = _
    rw [cellL_l h2]
    rfl
  rw [e0]
  dsimp only
  rw [cellL_l (show (μ.set p none)[l]? = some (some (.lst xs)) by rw [List.getElem?_set_ne hne]; exact h)]
  dsimp only
  rw [if_pos (line_k hl)]
theorem one_p {xs : List P} : (xs.map D.p).map It2.one = xs.map fun x => .one (.p x) := by rw [List.map_map]; rfl
theorem shown_row {c0 c1 c2 : Option D} {p : Nat} {g : Gd} (hg : okG μ g) (hp : μ.length ≤ p) : ∀ (os : List (Option Rat)) (acc : List P) (ν : Mu) (c4 : Option D), acc.length + os.length < 900 → Ext μ ν → ν[p]? = some (some (.lst acc)) →
    ∃ c4', forI (tgNI 4) lb__law_shown_0 g ((os.map opR).map fun x => .one (.p x)) [c0, c1, c2, some (.loc p), c4] ν = some (.nx, [c0, c1, c2, some (.loc p), c4'], ν.set p (some (.lst (acc ++ os.map opQ))))
  | [], acc, ν, c4, hl, ex, hc => ⟨c4, by
      simp only [List.map_nil, List.append_nil]
      rw [forI_end (ex.ok hg)]
      have e : ν.set p (some (.lst acc)) = ν := by
        apply List.ext_getElem?
        intro x
        by_cases q : p = x
        · subst q; rw [set_get hc]; exact hc.symm
        · rw [List.getElem?_set_ne q]
      rw [e]⟩
  | o :: os, acc, ν, c4, hl, ex, hc => by
    simp only [List.length_cons] at hl
    have g1 := isLst_l hc
    have g2 : ∀ y, fApp (.loc p) [.p y] ν = some (.p .non, ν.set p (some (.lst (acc ++ [y])))) := fun y => fApp_at hc (by omega)
    have g3 := ev_told (μ := ν) (o := o)
    have body : lb__law_shown_0 [c0, c1, c2, some (.loc p), some (.p (opR o))] ν = some (.nx, [c0, c1, c2, some (.loc p), some (.p (opR o))], ν.set p (some (.lst (acc ++ [opQ o])))) := by
      cases o with
      | none => simp [lb__law_shown_0, evBM_eq, g1, g2]
      | some q =>
        simp only [opR_some, opQ_some] at g3 ⊢
        simp [lb__law_shown_0, evBM_eq, g1, g2, g3]
    obtain ⟨c4', ih⟩ := shown_row (c0 := c0) (c1 := c1) (c2 := c2) hg hp os (acc ++ [opQ o]) (ν.set p (some (.lst (acc ++ [opQ o])))) (some (.p (opR o))) (by simp; omega) (ex.set hp _) (set_get hc)
    refine ⟨c4', ?_⟩
    rw [List.map_cons, List.map_cons, forI_nx (ex.ok hg) (tgNI_one) (show lb__law_shown_0 [c0, c1, c2, some (.loc p), some (.p (opR o))] ν = _ from body)]
    show forI (tgNI 4) lb__law_shown_0 g ((os.map opR).map fun x => .one (.p x)) _ _ = _
    rw [ih, List.set_set, List.map_cons, List.append_assoc]
    rfl
theorem set_same {l : Nat} {o : Option MO} (h : μ[l]? = some o) : μ.set l o = μ := by
  apply List.ext_getElem?
  intro x
  by_cases q : l = x
  · subst q; rw [List.getElem?_set_self (List.getElem?_eq_some_iff.mp h).1]; exact h.symm
  · rw [List.getElem?_set_ne q]
theorem shown_loop {c0 : Option D} {g : Gd} {l : Nat} (hg : okG μ g) (hl : μ.length ≤ l) : ∀ (oss : List (List (Option Rat))) (ds : List D) (acc : List P) (ν : Mu) (c2 c3 c4 : Option D), (∀ o ∈ oss, o.length < 800) → acc.length + oss.length < 900 → ds.length = oss.length → (∀ (i : Nat) o, oss[i]? = some o → ∃ e, ds[i]? = some e ∧ RowAt μ e (o.map opR)) → Ext μ ν → ν[l]? = some (some (.lst acc)) →
    ∃ c2' c3' c4' ν', forI (tgNI 2) lb__law_shown_1 g (ds.map .one) [c0, some (.loc l), c2, c3, c4] ν = some (.nx, [c0, some (.loc l), c2', c3', c4'], ν') ∧ Ext μ ν' ∧ ν'[l]? = some (some (.lst (acc ++ oss.map fun o => P.lst (o.map opQ))))
  | [], ds, acc, ν, c2, c3, c4, ho, ha, hd, hr, ex, hc => by
    have : ds = [] := List.length_eq_zero_iff.mp hd
    subst this
    exact ⟨c2, c3, c4, ν, forI_end (ex.ok hg), ex, by simpa using hc⟩
  | o :: oss, ds, acc, ν, c2, c3, c4, ho, ha, hd, hr, ex, hc => by
    obtain ⟨e, h1, hR⟩ := hr 0 o rfl
    obtain ⟨ds, rfl⟩ : ∃ ds', ds = e :: ds' := by
      cases ds with
      | nil => simp at h1
      | cons x xs => simp at h1; subst h1; exact ⟨xs, rfl⟩
    simp only [List.length_cons] at ha hd
    have hlv : l < ν.length := (List.getElem?_eq_some_iff.mp hc).1
    have exA : Ext ν (ν ++ [some (MO.lst [])]) := Ext.app _
    obtain ⟨gR, ok1, it1⟩ := (hR.ext ex).items
    have ho0 := ho o List.mem_cons_self
    have i0 := (it1 ν Ext.refl).2
    have i1 := (it1 _ exA).1
    obtain ⟨c4', e1⟩ := shown_row (μ := ν) (c0 := c0) (c1 := some (.loc l)) (c2 := some e) (p := ν.length) (g := gR) ok1 (Nat.le_refl _) o [] (ν ++ [some (MO.lst [])]) c4 (by simp; omega) exA (by simp)
    rw [set_end rfl, List.nil_append] at e1
    have g3 : isLst (ν ++ [some (MO.lst (o.map opQ))]) (.loc l) = true := isLst_l ((Ext.app _).at hc)
    have g4 : fApp (.loc l) [.loc ν.length] (ν ++ [some (MO.lst (o.map opQ))]) = some (.p .non, (ν ++ [none]).set l (some (.lst (acc ++ [P.lst (o.map opQ)])))) := by
      rw [ap_new (xs := acc) (ys := o.map opQ) ((Ext.app _).at hc) (by simp) (by omega) (by omega), set_end rfl]
    have body : lb__law_shown_1 [c0, some (.loc l), some e, c3, c4] ν = some (.nx, [c0, some (.loc l), some e, some (.loc ν.length), c4'], (ν ++ [none]).set l (some (.lst (acc ++ [P.lst (o.map opQ)])))) := by
      have s1 : sIf (tNotV (evB (evIsiD (isiT 1 "list") (evV 2)))) (sRet (evC .non)) sNil [c0, some (.loc l), some e, c3, c4] ν = some (.nx, [c0, some (.loc l), some e, c3, c4], ν) := by
        simp [i0]
      have s2 : sSet 3 (evLstC evNil) [c0, some (.loc l), some e, c3, c4] ν = some (.nx, [c0, some (.loc l), some e, some (.loc ν.length), c4], ν ++ [some (MO.lst [])]) := by simp
      show seqS (sIf (tNotV (evB (evIsiD (isiT 1 "list") (evV 2)))) (sRet (evC .non)) sNil) (seqS (sSet 3 (evLstC evNil)) (seqS (sForI (evItL (evV 2)) (tgNI 4) lb__law_shown_0) (sExpr (evBM isLst fApp (evV 1) (evCons (evV 3) evNil))))) _ ν = _
      rw [seqS_eq, s1, andThen_nx, seqS_eq, s2, andThen_nx, seqS_eq, sForI_eq, evItL_eq, evV_2, bindG_ok]
      rw [i1]
      dsimp only
      rw [bindS_ok]
      dsimp only
      rw [one_p, e1, andThen_nx]
      simp [evBM_eq, g3, g4]
    obtain ⟨c2', c3', c4'', ν', r1, r2, r3⟩ := shown_loop (c0 := c0) hg hl oss ds (acc ++ [P.lst (o.map opQ)]) ((ν ++ [none]).set l (some (.lst (acc ++ [P.lst (o.map opQ)])))) (some e) (some (.loc ν.length)) c4' (fun x hx => ho x (List.mem_cons_of_mem _ hx)) (by simp; omega) (by omega) (fun i x hx => by simpa using hr (i + 1) x (by simpa using hx)) ((ex.trans (Ext.app _)).set hl _) (set_get ((Ext.app [none]).at hc))
    refine ⟨c2', c3', c4'', ν', ?_, r2, ?_⟩
    · rw [List.map_cons, forI_nx (ex.ok hg) tgNI_one (show lb__law_shown_1 [c0, some (.loc l), some e, c3, c4] ν = _ from body), r1]
    · rw [r3, List.append_assoc]
      rfl
theorem ev_shown {oss : List (List (Option Rat))} (ho : ∀ o ∈ oss, o.length < 800) (hl : oss.length < 800) (T : TabAt μ d (oss.map fun o => o.map opR)) : m__law_shown [d] μ = some (.ok (.p (.lst (oss.map fun o => P.lst (o.map opQ)))), μ) := by
  obtain ⟨ds, g, ok, it, hd, hr⟩ := T.items
  have exA : Ext μ (μ ++ [some (MO.lst [])]) := Ext.app _
  have i0 := (it μ Ext.refl).2
  have i1 := (it _ exA).1
  obtain ⟨c2, c3, c4, ν, e1, x1, h1⟩ := shown_loop (c0 := some d) ok (Nat.le_refl _) oss ds [] (μ ++ [some (MO.lst [])]) none none none ho (by simp; omega) (by simpa using hd) (fun i o h => hr i _ (by rw [List.getElem?_map, h]; rfl)) exA (by simp)
  have s1 : sIf (tNotV (evB (evIsiD (isiT 1 "list") (evV 0)))) (sRet (evV 0)) sNil [some d, none, none, none, none] μ = some (.nx, [some d, none, none, none, none], μ) := by simp [i0]
  have s2 : sSet 1 (evLstC evNil) [some d, none, none, none, none] μ = some (.nx, [some d, some (.loc μ.length), none, none, none], μ ++ [some (MO.lst [])]) := by simp
  have s3 : sv__law_shown [some d, none, none, none, none] μ = some (.ret (.loc μ.length), [some d, some (.loc μ.length), c2, c3, c4], ν) := by
    show seqS (sIf (tNotV (evB (evIsiD (isiT 1 "list") (evV 0)))) (sRet (evV 0)) sNil) (seqS (sSet 1 (evLstC evNil)) (seqS (sForI (evItL (evV 0)) (tgNI 2) lb__law_shown_1) (sRet (evV 1)))) _ μ = _
    rw [seqS_eq, s1, andThen_nx, seqS_eq, s2, andThen_nx, seqS_eq, sForI_eq, evItL_eq, evV_0, bindG_ok]
    rw [i1]
    dsimp only
    rw [bindS_ok]
    dsimp only
    rw [e1, andThen_nx]
    rfl
  show (if [d].length = 1 then bodySem 5 sv__law_shown [d] μ else none) = _
  rw [if_pos (show [d].length = 1 from rfl), bodySem_eq]
  show retF μ.length (sv__law_shown [some d, none, none, none, none] μ) = _
  rw [s3]
  show retL μ.length μ.length ν = _
  unfold retL
  rw [if_neg (Nat.lt_irrefl _), cellL_l h1]
  dsimp only
  rw [x1.take]
  rfl
theorem ev_shown_non : m__law_shown [.p .non] μ = some (.ok (.p .non), μ) := by
  have i0 : isiVEnd (isiT 1 "list") μ (kindD μ (.p .non)) = some (.ok (.p (.bl false)), μ) := isiVEnd_some rfl
  simp [m__law_shown, arF, bodySem_eq, sv__law_shown, i0]
theorem tbR_os {n : Nat} {f : Tf} : tbR n f = (((List.range n).map fun i => (List.range n).map (f i)).map fun o => o.map opR) := by
  unfold tbR rwP rwL
  rw [List.map_map]
  apply List.map_congr_left
  intro i _
  rw [Function.comp, List.map_map]
  rfl
theorem tbQ_os {n : Nat} {f : Tf} : (tbQ n f).map P.lst = (((List.range n).map fun i => (List.range n).map (f i)).map fun o => P.lst (o.map opQ)) := by
  unfold tbQ rwQ rwL
  rw [List.map_map, List.map_map]
  apply List.map_congr_left
  intro i _
  rw [Function.comp, Function.comp, List.map_map]
  rfl
theorem ev_shownT {n : Nat} {f : Tf} (hn : n ≤ 100) (T : TabAt μ d (tbR n f)) : m__law_shown [d] μ = some (.ok (.p (tqP n f)), μ) := by
  rw [tbR_os] at T
  have e := ev_shown (fun o ho => by
    simp only [List.mem_map] at ho
    obtain ⟨i, _, rfl⟩ := ho
    simp; omega) (by simp; omega) T
  rw [← tbQ_os] at e
  exact e
/-! ### tables made -/
theorem ev_ratioO {N m : Nat} {o : Option Rat} (hN : Nok N) (h : CzO N m o) (hm : m ≤ 200000) (q : Rat) (e : o = some q) : m__law_ratio [.p (opQ o)] μ = some (.ok (.p (opR o)), μ) := by
  subst e
  exact ev_lratio ((h q rfl).bz hN) (by decide)
theorem made_row {c0 c1 c2 : Option D} {N m : Nat} (hN : Nok N) (hm : m ≤ 200000) {p : Nat} : ∀ (os : List (Option Rat)) (acc : List P) (ν : Mu) (c4 : Option D), (∀ o ∈ os, CzO N m o) → acc.length + os.length < 900 → ν[p]? = some (some (.lst acc)) →
    ∃ c4', forL (tgN 4) lb__law_table_0 (os.map opQ) [c0, c1, c2, some (.loc p), c4] ν = some (.nx, [c0, c1, c2, some (.loc p), c4'], ν.set p (some (.lst (acc ++ os.map opR))))
  | [], acc, ν, c4, hz, hl, hc => ⟨c4, by simp only [List.map_nil, List.append_nil, forL]; rw [set_same hc]⟩
  | o :: os, acc, ν, c4, hz, hl, hc => by
    simp only [List.length_cons] at hl
    have g1 := isLst_l hc
    have g2 : ∀ y, fApp (.loc p) [.p y] ν = some (.p .non, ν.set p (some (.lst (acc ++ [y])))) := fun y => fApp_at hc (by omega)
    have body : lb__law_table_0 [c0, c1, c2, some (.loc p), some (.p (opQ o))] ν = some (.nx, [c0, c1, c2, some (.loc p), some (.p (opQ o))], ν.set p (some (.lst (acc ++ [opR o])))) := by
      cases o with
      | none => simp [lb__law_table_0, evBM_eq, g1, g2]
      | some q =>
        have g3 := ev_lratio (μ := ν) ((hz _ List.mem_cons_self q rfl).bz hN) (by decide)
        simp only [opR_some, opQ_some] at g3 ⊢
        simp [lb__law_table_0, evBM_eq, g1, g2, g3]
    obtain ⟨c4', ih⟩ := made_row (c0 := c0) (c1 := c1) (c2 := c2) hN hm os (acc ++ [opR o]) (ν.set p (some (.lst (acc ++ [opR o])))) (some (.p (opQ o))) (fun x hx => hz x (List.mem_cons_of_mem _ hx)) (by simp; omega) (set_get hc)
    refine ⟨c4', ?_⟩
    rw [List.map_cons, forL_nx rfl (show lb__law_table_0 [c0, c1, c2, some (.loc p), some (.p (opQ o))] ν = _ from body), ih, List.set_set, List.map_cons, List.append_assoc]
    rfl
theorem made_loop {c0 : Option D} {N m : Nat} (hN : Nok N) (hm : m ≤ 200000) {g : Gd} {l : Nat} (hg : okG μ g) (hl : μ.length ≤ l) : ∀ (oss : List (List (Option Rat))) (acc : List P) (ν : Mu) (c2 c3 c4 : Option D), (∀ o ∈ oss, o.length < 800 ∧ ∀ x ∈ o, CzO N m x) → acc.length + oss.length < 900 → Ext μ ν → ν[l]? = some (some (.lst acc)) →
    ∃ c2' c3' c4' ν', forI (tgNI 2) lb__law_table_1 g (oss.map fun o => .one (.p (.lst (o.map opQ)))) [c0, some (.loc l), c2, c3, c4] ν = some (.nx, [c0, some (.loc l), c2', c3', c4'], ν') ∧ Ext μ ν' ∧ ν'[l]? = some (some (.lst (acc ++ oss.map fun o => P.lst (o.map opR))))
  | [], acc, ν, c2, c3, c4, ho, ha, ex, hc => ⟨c2, c3, c4, ν, forI_end (ex.ok hg), ex, by simpa using hc⟩
  | o :: oss, acc, ν, c2, c3, c4, ho, ha, ex, hc => by
    simp only [List.length_cons] at ha
    have hlv : l < ν.length := (List.getElem?_eq_some_iff.mp hc).1
    obtain ⟨ho0, hz0⟩ := ho o List.mem_cons_self
    obtain ⟨c4', e1⟩ := made_row (c0 := c0) (c1 := some (.loc l)) (c2 := some (.p (.lst (o.map opQ)))) hN hm (p := ν.length) o [] (ν ++ [some (MO.lst [])]) c4 hz0 (by simp; omega) (by simp)
    rw [set_end rfl, List.nil_append] at e1
    have g3 : isLst (ν ++ [some (MO.lst (o.map opR))]) (.loc l) = true := isLst_l ((Ext.app _).at hc)
    have g4 : fApp (.loc l) [.loc ν.length] (ν ++ [some (MO.lst (o.map opR))]) = some (.p .non, (ν ++ [none]).set l (some (.lst (acc ++ [P.lst (o.map opR)])))) := by
      rw [ap_new (xs := acc) (ys := o.map opR) ((Ext.app _).at hc) (by simp) (by omega) (by omega), set_end rfl]
    have body : lb__law_table_1 [c0, some (.loc l), some (.p (.lst (o.map opQ))), c3, c4] ν = some (.nx, [c0, some (.loc l), some (.p (.lst (o.map opQ))), some (.loc ν.length), c4'], (ν ++ [none]).set l (some (.lst (acc ++ [P.lst (o.map opR)])))) := by
      have s2 : sSet 3 (evLstC evNil) [c0, some (.loc l), some (.p (.lst (o.map opQ))), c3, c4] ν = some (.nx, [c0, some (.loc l), some (.p (.lst (o.map opQ))), some (.loc ν.length), c4], ν ++ [some (MO.lst [])]) := by simp
      show seqS (sSet 3 (evLstC evNil)) (seqS (sFor (evIt (evV 2)) (tgN 4) lb__law_table_0) (sExpr (evBM isLst fApp (evV 1) (evCons (evV 3) evNil)))) _ ν = _
      rw [seqS_eq, s2, andThen_nx, seqS_eq, sFor_eq]
      show andThen _ (forL (tgN 4) lb__law_table_0 (o.map opQ) _ _) = _
      rw [e1, andThen_nx]
      simp [evBM_eq, g3, g4]
    obtain ⟨c2', c3', c4'', ν', r1, r2, r3⟩ := made_loop (c0 := c0) hN hm hg hl oss (acc ++ [P.lst (o.map opR)]) ((ν ++ [none]).set l (some (.lst (acc ++ [P.lst (o.map opR)])))) (some (.p (.lst (o.map opQ)))) (some (.loc ν.length)) c4' (fun x hx => ho x (List.mem_cons_of_mem _ hx)) (by simp; omega) ((ex.trans (Ext.app _)).set hl _) (set_get ((Ext.app [none]).at hc))
    refine ⟨c2', c3', c4'', ν', ?_, r2, ?_⟩
    · rw [List.map_cons, forI_nx (ex.ok hg) tgNI_one (show lb__law_table_1 [c0, some (.loc l), some (.p (.lst (o.map opQ))), c3, c4] ν = _ from body), r1]
    · rw [r3, List.append_assoc]
      rfl
theorem ev_table {N m n : Nat} {f : Tf} (hN : Nok N) (hn : n ≤ 100) (hf : CzT N m n f) (hm : m ≤ 200000) (O : d = .p (tqP n f) ∨ ∃ q, d = .loc q ∧ μ[q]? = some (some (.lst ((tbQ n f).map .lst)))) : m__law_table [d] μ = some (.ok (.p (tbP n f)), μ) := by
  have exA : Ext μ (μ ++ [some (MO.lst [])]) := Ext.app _
  obtain ⟨g, ok, it⟩ : ∃ g, okG μ g ∧ ∀ ν, Ext μ ν → items ν d = some (false, ((tbQ n f).map P.lst).map .p, g) := by
    rcases O with rfl | ⟨q, rfl, h⟩
    · exact ⟨none, trivial, fun _ _ => rfl⟩
    · exact ⟨_, show okG μ (some (q, .lst ((tbQ n f).map .lst))) from h, fun ν ex => items_lst (ex.at h)⟩
  have i1 := it _ exA
  obtain ⟨c2, c3, c4, ν, e1, x1, h1⟩ := made_loop (c0 := some d) hN hm ok (Nat.le_refl _) ((List.range n).map fun i => (List.range n).map (f i)) [] (μ ++ [some (MO.lst [])]) none none none (fun o ho => by
    simp only [List.mem_map, List.mem_range] at ho
    obtain ⟨i, hi, rfl⟩ := ho
    refine ⟨by simp; omega, fun x hx => ?_⟩
    simp only [List.mem_map, List.mem_range] at hx
    obtain ⟨j, hj, rfl⟩ := hx
    exact hf i j hi hj) (by simp; omega) exA (by simp)
  have s2 : sSet 1 (evLstC evNil) [some d, none, none, none, none] μ = some (.nx, [some d, some (.loc μ.length), none, none, none], μ ++ [some (MO.lst [])]) := by simp
  have hx : (((tbQ n f).map P.lst).map D.p).map It2.one = (((List.range n).map fun i => (List.range n).map (f i)).map fun o => It2.one (.p (.lst (o.map opQ)))) := by
    rw [tbQ_os, List.map_map, List.map_map, List.map_map, List.map_map]
    rfl
  have s3 : sv__law_table [some d, none, none, none, none] μ = some (.ret (.loc μ.length), [some d, some (.loc μ.length), c2, c3, c4], ν) := by
    show seqS (sSet 1 (evLstC evNil)) (seqS (sForI (evItL (evV 0)) (tgNI 2) lb__law_table_1) (sRet (evV 1))) _ μ = _
    rw [seqS_eq, s2, andThen_nx, seqS_eq, sForI_eq, evItL_eq, evV_0, bindG_ok]
    rw [i1]
    dsimp only
    rw [bindS_ok]
    dsimp only
    rw [hx, e1, andThen_nx]
    rfl
  show (if [d].length = 1 then bodySem 5 sv__law_table [d] μ else none) = _
  rw [if_pos (show [d].length = 1 from rfl), bodySem_eq]
  show retF μ.length (sv__law_table [some d, none, none, none, none] μ) = _
  rw [s3]
  show retL μ.length μ.length ν = _
  unfold retL
  rw [if_neg (Nat.lt_irrefl _), cellL_l h1]
  dsimp only
  rw [x1.take, List.nil_append]
  show some (Out.ok (D.p (P.lst _)), μ) = some (Out.ok (D.p (P.lst ((tbR n f).map P.lst))), μ)
  rw [tbR_os, List.map_map, List.map_map, List.map_map]
  rfl
end
end Vs
/-! Equal data; the denominators' product; draws at the place 0. -/
namespace Vs
open PySem PySem.Spec PyProof.Rows L2
/-- plain data that is equal to itself -/
def Pln (k : Nat) (x : P) : Prop := ∃ d, toPD x = some d ∧ PyData.canLay0 d = true ∧ d.depth ≤ k ∧ PyData.eqv d d = true
def PlnL (k : Nat) (xs : List P) : Prop := ∃ ds, toPDs xs = some ds ∧ PyData.canLayAll0 ds = true ∧ PyData.depthAll ds ≤ k ∧ PyData.eqvAll ds ds = true
theorem plnL {k : Nat} : ∀ {xs : List P}, (∀ x ∈ xs, Pln k x) → PlnL k xs
  | [], _ => ⟨[], rfl, by simp [PyData.canLayAll0], by simp [PyData.depthAll], by simp [PyData.eqvAll]⟩
  | x :: xs, h => by
    obtain ⟨d, h1, h2, h3, h4⟩ := h x List.mem_cons_self
    obtain ⟨ds, g1, g2, g3, g4⟩ := plnL fun y hy => h y (List.mem_cons_of_mem _ hy)
    refine ⟨d :: ds, by simp [toPDs, h1, g1], by simp [PyData.canLayAll0, h2, g2], by simp only [PyData.depthAll]; omega, by simp [PyData.eqvAll, h4, g4]⟩
theorem pln_int {k : Nat} {i : Int} : Pln k (.int i) := ⟨.int i, rfl, by simp [PyData.canLay0], by simp [PyData.depth], by simp [PyData.eqv]⟩
theorem pln_non {k : Nat} : Pln k .non := ⟨.none, rfl, by simp [PyData.canLay0], by simp [PyData.depth], by simp [PyData.eqv]⟩
theorem pln_tup {k : Nat} {xs : List P} (h : ∀ x ∈ xs, Pln k x) : Pln (k + 1) (.tup xs) := by
  obtain ⟨ds, g1, g2, g3, g4⟩ := plnL h
  exact ⟨.tuple ds, by simp [toPD, g1], by simp [PyData.canLay0, g2], by simp only [PyData.depth]; omega, by simp [PyData.eqv, g4]⟩
theorem pln_lst {k : Nat} {xs : List P} (h : ∀ x ∈ xs, Pln k x) : Pln (k + 1) (.lst xs) := by
  obtain ⟨ds, g1, g2, g3, g4⟩ := plnL h
  exact ⟨.list ds, by simp [toPD, g1], by simp [PyData.canLay0, g2], by simp only [PyData.depth]; omega, by simp [PyData.eqv, g4]⟩
theorem pln_opQ {o : Option Rat} : Pln 1 (opQ o) := by
  cases o with
  | none => exact pln_non
  | some q =>
    refine pln_tup (k := 0) fun x hx => ?_
    simp at hx
    rcases hx with rfl | rfl <;> exact pln_int
theorem eqP_self {x : P} (h : Pln 64 x) : eqP x x = some true := by
  obtain ⟨d, h1, h2, h3, h4⟩ := h
  have hd : eqDeep x x = some true := by
    unfold eqDeep
    rw [h1]
    dsimp only
    have hs : SeqAt.shaped d = true := by unfold SeqAt.shaped; rw [h2]; simpa using h3
    rw [hs, h4]
    rfl
  unfold eqP
  cases x <;> first | exact hd | (simp [eqAt])
theorem Pln.mono {k m : Nat} {x : P} (h : Pln k x) (e : k ≤ m) : Pln m x := let ⟨d, a, b, c, f⟩ := h; ⟨d, a, b, Nat.le_trans c e, f⟩
theorem pln_tq {n : Nat} {f : Tf} : Pln 64 (tqP n f) := by
  refine Pln.mono (k := 3) (pln_lst (k := 2) fun x hx => ?_) (by decide)
  simp only [tbQ, rwQ, rwL, List.mem_map] at hx
  obtain ⟨r, ⟨i, _, rfl⟩, rfl⟩ := hx
  refine pln_lst (k := 1) fun y hy => ?_
  simp only [List.mem_map] at hy
  obtain ⟨j, _, rfl⟩ := hy
  exact pln_opQ
theorem tqP_congr {n : Nat} {f g : Tf} (h : ∀ i j, i < n → j < n → f i j = g i j) : tqP n f = tqP n g := by
  unfold tqP; rw [tbQ_congr h]
/-! ### all denominators' product -/
def dn : Option Rat → Nat
  | none => 1
  | some q => q.den
def dnP : List (Option Rat) → Nat
  | [] => 1
  | o :: os => dn o * dnP os
theorem dnP_pos : ∀ os : List (Option Rat), 0 < dnP os
  | [] => by decide
  | o :: os => Nat.mul_pos (by cases o with | none => decide | some q => exact q.den_pos) (dnP_pos os)
theorem dnP_dvd {q : Rat} : ∀ {os : List (Option Rat)}, some q ∈ os → q.den ∣ dnP os
  | o :: os, h => by
    rcases List.mem_cons.mp h with h | h
    · subst h; exact Nat.dvd_mul_right _ _
    · exact Nat.dvd_trans (dnP_dvd h) (Nat.dvd_mul_left _ _)
theorem dnP_lt : ∀ {os : List (Option Rat)}, (∀ q, some q ∈ os → Sz 20 (q.den : Int)) → dnP os < 2 ^ (20 * os.length + 1)
  | [], _ => by decide
  | o :: os, h => by
    have ih := dnP_lt fun q hq => h q (List.mem_cons_of_mem _ hq)
    have h1 : dn o ≤ 2 ^ 20 := by
      cases o with
      | none => decide
      | some q =>
        have := h q List.mem_cons_self
        unfold Sz at this
        rw [Int.natAbs_natCast] at this
        exact Nat.le_of_lt this
    rw [List.length_cons, show 20 * (os.length + 1) + 1 = 20 + (20 * os.length + 1) by omega, Nat.pow_add]
    exact Nat.lt_of_le_of_lt (Nat.mul_le_mul_right _ h1) (Nat.mul_lt_mul_of_pos_left ih (Nat.two_pow_pos 20))
theorem cz_of {N a b : Nat} {q : Rat} (h : q.den ∣ N) (h0 : 0 < N) (hq : Sz a q.num) (hN : Sz b (N : Int)) : Cz N (a + b) q := by
  obtain ⟨k, rfl⟩ := h
  have hk : (k : Int) ≠ 0 := by
    intro z
    have : k = 0 := by omega
    subst this
    omega
  refine ⟨q.num * (k : Int), ?_, hq.mul ?_⟩
  · rw [show ((q.den * k : Nat) : Int) = (q.den : Int) * (k : Int) by rw [Int.natCast_mul], Rat.divInt_mul_right hk, Rat.num_divInt_den]
  · unfold Sz at hN ⊢
    rw [Int.natAbs_natCast] at hN ⊢
    exact Nat.lt_of_le_of_lt (Nat.le_mul_of_pos_left _ q.den_pos) hN
theorem if_t {c : EvT} {a b : SEv} {δ : Sl} {μ μ' : Mu} (h : c δ μ = some (.ok true, μ')) : sIf c a b δ μ = a δ μ' := by
  rw [sIf_eq, h, bindS_ok]; rfl
theorem if_f {c : EvT} {a b : SEv} {δ : Sl} {μ μ' : Mu} (h : c δ μ = some (.ok false, μ')) : sIf c a b δ μ = b δ μ' := by
  rw [sIf_eq, h, bindS_ok]; rfl
theorem pr_int (k : Int) : pr (k : Rat) = .tup [.int k, .int 1] := rfl
theorem bz_int {k : Int} {m : Nat} (h : Sz 100 k) (hm : 1 ≤ m) : Bz m (k : Rat) := ⟨hm, (show Sz 100 k from h).mono (by omega), (show Sz 1 (1 : Int) by unfold Sz; decide).mono hm⟩
/-! ### draws at the place 0 -/
theorem draw0 {s : SS} (many : Int) (hs : s.Ok) (hm : 0 < many := by decide) (hz : many.natAbs.log2 < 9000 := by decide) :
    ∃ v s', SS.Ok s' ∧ 0 ≤ v ∧ v < many ∧ ∀ r : Mu, m__law_draw [.loc 0, .p (.int many)] (st s :: r) = some (.ok (.p (.int v)), st s' :: r) := by
  obtain ⟨v, s', o, l, u, e⟩ := draw_ex many hs hm hz
  exact ⟨v, s', o, l, u, fun r => e (μ := none :: r) (l := 0) (by simp)⟩
theorem draw0n {s : SS} {n : Nat} (hs : s.Ok) (hn : 0 < n) (h2 : n < 1000) :
    ∃ v : Nat, ∃ s', SS.Ok s' ∧ v < n ∧ ∀ r : Mu, m__law_draw [.loc 0, .p (.int (n : Int))] (st s :: r) = some (.ok (.p (.int (v : Int))), st s' :: r) := by
  obtain ⟨v, s', o, l, u, e⟩ := draw0 (n : Int) hs (by omega) (Nat.lt_of_lt_of_le (PySem.Flt.log2_lt_of (k := 10) (by decide) (by omega)) (by decide))
  exact ⟨v.toNat, s', o, by omega, fun r => by rw [e r, show ((v.toNat : Nat) : Int) = v by omega]⟩
theorem number0 {s : SS} (hs : s.Ok) : ∃ q s', SS.Ok s' ∧ Dr q ∧ ∀ r : Mu, m__law_number [.loc 0] (st s :: r) = some (.ok (.p (pr q)), st s' :: r) := by
  obtain ⟨q, s', o, d, e⟩ := number_ex hs
  exact ⟨q, s', o, d, fun r => e (μ := none :: r) (l := 0) (by simp)⟩
/-- what is drawn for a table -/
def Pok (o : Option Rat) : Prop := ∀ q, o = some q → Sz 300 q.num ∧ Sz 20 (q.den : Int)
theorem pok_none : Pok none := fun q h => by cases h
theorem pok_some {q : Rat} (h : Sz 300 q.num) (h2 : Sz 20 (q.den : Int)) : Pok (some q) := fun r e => by cases e; exact ⟨h, h2⟩
end Vs
/-! x in a sequence of ints. -/
namespace Vs
open PySem PySem.Spec PyProof.Rows L2
section
variable {α : Amb} {W : WX} {X : Cx}
def inEnd (neg : Bool) (μ : Mu) (i : Int) : Option (List Int) → Option (D × Mu)
  | some ns => some (.p (.bl (if neg then !ns.any (fun n => n == i) else ns.any (fun n => n == i))), μ)
  | none => none
def fInI (neg : Bool) : F2 := fun x y μ => match x with
  | .p (.int i) => inEnd neg μ i ((seqOf μ y).bind intsOf)
  | _ => none
theorem inV_ints {i : Int} : ∀ ns : List Int, inV (.int i) (ns.map V.int) = ns.any (fun n => n == i)
  | [] => rfl
  | n :: ns => by
    show (eqV (V.int n) (.int i) || inV (.int i) (ns.map V.int)) = _
    rw [inV_ints ns]
    rfl
theorem flat_ints : ∀ ns : List Int, (ns.map V.int).all flatV = true
  | [] => rfl
  | n :: ns => by
    show (flatV (.int n) && (ns.map V.int).all flatV) = true
    rw [flat_ints ns]
    rfl
theorem fInI_imp {neg : Bool} {x y : V} {H : Hp} {Q : VK} (h : r2V α (fInI neg) x y H Q) : rIn α.K neg x y H Q := by
  obtain ⟨G, ρ, μ, dx, dy, z, rx, ry, q⟩ := h
  unfold fInI at q
  split at q
  · rename_i i
    cases hn : (seqOf μ dy).bind intsOf with
    | none => rw [hn] at q; exact q.elim
    | some ns =>
      rw [hn] at q
      obtain ⟨xs, h1, h2⟩ := Option.bind_eq_some_iff.mp hn
      obtain ⟨w, h3, h4⟩ := Option.bind_eq_some_iff.mp h1
      obtain ⟨a, vs, rfl, h5, h6⟩ := view_seq z ry h3 h4
      rw [repInt rx]
      have e := reps_intsOf h6 h2
      subst e
      refine ⟨a, _, rfl, h5, rfl, flat_ints ns, ?_⟩
      rw [inV_ints]
      exact q _ H G ρ Up.refl z (.bl _)
  · exact q.elim
theorem o_inI (hK : X.K = α.K) : OpR X (compareOp .In) (r2V α (fInI false)) := OpR.imp op_in_seq fun _ _ _ _ h => by rw [hK]; exact fInI_imp h
theorem o_notInI (hK : X.K = α.K) : OpR X (compareOp .NotIn) (r2V α (fInI true)) := OpR.imp op_notIn_seq fun _ _ _ _ h => by rw [hK]; exact fInI_imp h
end
theorem intsOf_map : ∀ ns : List Int, intsOf (ns.map P.int) = some ns
  | [] => rfl
  | n :: ns => by
    show (intsOf (ns.map P.int)).map (n :: ·) = _
    rw [intsOf_map ns]; rfl
theorem fInI_lst {neg : Bool} {i : Int} {ns : List Int} {μ : Mu} : fInI neg (.p (.int i)) (.p (.lst (ns.map P.int))) μ = some (.p (.bl (if neg then !ns.any (fun n => n == i) else ns.any (fun n => n == i))), μ) := by
  show inEnd neg μ i (intsOf (ns.map P.int)) = _
  rw [intsOf_map]; rfl
end Vs
/-! The greatest differences of the times of a sheet: along the ways to the parents. -/
namespace Vs
open PySem PySem.Spec PyProof.Rows L2
def cLo (cs : List Cue) (k : Int) : Rat := (cs[k.toNat]?.map Cue.lo).getD 0
def cHi (cs : List Cue) (k : Int) : Rat := (cs[k.toNat]?.map Cue.hi).getD 0
def cPa (cs : List Cue) (k : Int) : Int := (cs[k.toNat]?.map Cue.p).getD (-1)
def chn (cs : List Cue) : Nat → Int → List Int
  | 0, _ => []
  | f + 1, i => if 0 ≤ i ∧ i < cs.length then i :: chn cs f (cPa cs i) else []
def CH (cs : List Cue) (i : Int) : List Int := chn cs (cs.length + 1) i
def isIn (D : List Int) (k : Int) : Bool := D.any fun n => n == k
def sumF (h : Int → Rat) (D : List Int) : List Int → Rat
  | [] => 0
  | k :: U => (if isIn D k = true then 0 else h k) + sumF h D U
def Gz (cs : List Cue) (i j : Int) : Rat := sumF (cHi cs) (CH cs j) (CH cs i) + sumF (fun k => -cLo cs k) (CH cs i) (CH cs j)
section
variable {cs : List Cue}
theorem cue_at (S : Sheet cs) {i : Int} (h0 : 0 ≤ i) (h : i < cs.length) : ∃ c, cs[i.toNat]? = some c ∧ CueOk i.toNat c ∧ cLo cs i = c.lo ∧ cHi cs i = c.hi ∧ cPa cs i = c.p := by
  have e : cs[i.toNat]? = some cs[i.toNat] := List.getElem?_eq_getElem (by omega)
  refine ⟨_, e, S.ok _ _ e, ?_, ?_, ?_⟩
  · unfold cLo; rw [e]; rfl
  · unfold cHi; rw [e]; rfl
  · unfold cPa; rw [e]; rfl
theorem pa_lt (S : Sheet cs) {i : Int} (h0 : 0 ≤ i) (h : i < cs.length) : -1 ≤ cPa cs i ∧ cPa cs i < i := by
  obtain ⟨c, _, k, _, _, e⟩ := cue_at S h0 h
  have := k.p1
  have := k.p2
  rw [e]
  omega
theorem lo_le (S : Sheet cs) {i : Int} (h0 : 0 ≤ i) (h : i < cs.length) : 0 ≤ cLo cs i ∧ cLo cs i ≤ cHi cs i := by
  obtain ⟨c, _, k, e1, e2, _⟩ := cue_at S h0 h
  rw [e1, e2]
  exact ⟨k.lo0, k.le⟩
theorem chn_fuel (S : Sheet cs) : ∀ (f g : Nat) (i : Int), i < f → i < g → chn cs f i = chn cs g i
  | 0, 0, i, _, _ => rfl
  | 0, g + 1, i, h, _ => by rw [chn, chn, if_neg (by omega)]
  | f + 1, 0, i, _, h => by rw [chn, chn, if_neg (by omega)]
  | f + 1, g + 1, i, h, h2 => by
    rw [chn, chn]
    split
    · rename_i q
      have := pa_lt S q.1 q.2
      rw [chn_fuel S f g _ (by omega) (by omega)]
    · rfl
theorem CH_cons (S : Sheet cs) {i : Int} (h0 : 0 ≤ i) (h : i < cs.length) : CH cs i = i :: CH cs (cPa cs i) := by
  have := pa_lt S h0 h
  unfold CH
  rw [chn, if_pos ⟨h0, h⟩, chn_fuel S cs.length (cs.length + 1) _ (by omega) (by omega)]
theorem CH_nil {i : Int} (h : ¬ (0 ≤ i ∧ i < cs.length)) : CH cs i = [] := by
  unfold CH
  rw [chn, if_neg h]
theorem chn_mem (S : Sheet cs) {k : Int} : ∀ (f : Nat) (i : Int), k ∈ chn cs f i → 0 ≤ k ∧ k ≤ i ∧ k < cs.length
  | 0, i, h => by simp [chn] at h
  | f + 1, i, h => by
    rw [chn] at h
    split at h
    · rename_i q
      rcases List.mem_cons.mp h with rfl | h
      · exact ⟨q.1, Int.le_refl _, q.2⟩
      · have := chn_mem S f _ h
        have := pa_lt S q.1 q.2
        omega
    · simp at h
theorem isIn_iff {D : List Int} {k : Int} : isIn D k = true ↔ k ∈ D := by
  unfold isIn
  rw [List.any_eq_true]
  constructor
  · rintro ⟨x, h1, h2⟩
    rw [beq_iff_eq] at h2
    rwa [← h2]
  · exact fun h => ⟨k, h, by simp⟩
theorem sumF_zero {h : Int → Rat} {D : List Int} : ∀ {U : List Int}, (∀ k ∈ U, k ∈ D) → sumF h D U = 0
  | [], _ => rfl
  | k :: U, e => by
    rw [sumF, if_pos (isIn_iff.mpr (e k List.mem_cons_self)), sumF_zero fun x hx => e x (List.mem_cons_of_mem _ hx)]
    exact Rat.add_zero 0
theorem sumF_congr {h : Int → Rat} {D D' : List Int} : ∀ {U : List Int}, (∀ k ∈ U, (k ∈ D ↔ k ∈ D')) → sumF h D U = sumF h D' U
  | [], _ => rfl
  | k :: U, e => by
    have e1 : isIn D k = isIn D' k := by
      rw [Bool.eq_iff_iff, isIn_iff, isIn_iff]
      exact e k List.mem_cons_self
    rw [sumF, sumF, e1, sumF_congr fun x hx => e x (List.mem_cons_of_mem _ hx)]
theorem Gz_self {i : Int} : Gz cs i i = 0 := by
  unfold Gz
  rw [sumF_zero fun _ h => h, sumF_zero fun _ h => h]
  exact Rat.add_zero 0
theorem Gz_up (S : Sheet cs) {i j : Int} (h0 : 0 ≤ i) (h : i < cs.length) (hj : ∀ k ∈ CH cs j, k ≠ i) : Gz cs i j = cHi cs i + Gz cs (cPa cs i) j := by
  unfold Gz
  rw [CH_cons S h0 h, sumF, if_neg (fun z => hj i (isIn_iff.mp z) rfl), sumF_congr (D := i :: CH cs (cPa cs i)) (D' := CH cs (cPa cs i)) fun k hk => by
    rw [List.mem_cons]
    exact ⟨fun q => q.elim (fun e => absurd e (hj k hk)) id, .inr⟩]
  grind
theorem Gz_down (S : Sheet cs) {i j : Int} (h0 : 0 ≤ j) (h : j < cs.length) (hi : ∀ k ∈ CH cs i, k ≠ j) : Gz cs i j = Gz cs i (cPa cs j) - cLo cs j := by
  unfold Gz
  rw [CH_cons S h0 h, sumF, if_neg (fun z => hi j (isIn_iff.mp z) rfl), sumF_congr (D := j :: CH cs (cPa cs j)) (D' := CH cs (cPa cs j)) fun k hk => by
    rw [List.mem_cons]
    exact ⟨fun q => q.elim (fun e => absurd e (hi k hk)) id, .inr⟩]
  grind
theorem CH_ne (S : Sheet cs) {i j : Int} (h : j < i) : ∀ k ∈ CH cs j, k ≠ i := fun k hk e => by
  have := chn_mem S _ _ hk
  omega
theorem Gz_tri (S : Sheet cs) : ∀ (K : Nat) (i j k : Int), -1 ≤ i → i < cs.length → -1 ≤ j → j < cs.length → -1 ≤ k → k < cs.length → i + j + k + 3 ≤ K → Gz cs i j ≤ Gz cs i k + Gz cs k j
  | K, i, j, k, i1, i2, j1, j2, k1, k2, hK => by
    have z1 := Gz_self (cs := cs) (i := i)
    have z2 := Gz_self (cs := cs) (i := j)
    have z3 := Gz_self (cs := cs) (i := k)
    by_cases e1 : i = k
    · subst e1; rw [z1]; grind
    · by_cases e2 : k = j
      · subst e2; rw [z3]; grind
      · cases K with
        | zero => omega
        | succ K =>
          by_cases e3 : i = j
          · subst e3
            by_cases q : k < i
            · have hp := pa_lt S (i := i) (by omega) i2
              have a := Gz_up S (i := i) (j := k) (by omega) i2 (CH_ne S q)
              have b := Gz_down S (i := k) (j := i) (by omega) i2 (CH_ne S q)
              have c := Gz_tri S K (cPa cs i) (cPa cs i) k (by omega) (by omega) (by omega) (by omega) k1 k2 (by omega)
              have d := Gz_self (cs := cs) (i := cPa cs i)
              have l := lo_le S (i := i) (by omega) i2
              grind
            · have q : i < k := by omega
              have hp := pa_lt S (i := k) (by omega) k2
              have a := Gz_down S (i := i) (j := k) (by omega) k2 (CH_ne S q)
              have b := Gz_up S (i := k) (j := i) (by omega) k2 (CH_ne S q)
              have c := Gz_tri S K i i (cPa cs k) i1 i2 j1 j2 (by omega) (by omega) (by omega)
              have l := lo_le S (i := k) (by omega) k2
              grind
          · by_cases q1 : k < i ∧ j < i
            · have hp := pa_lt S (i := i) (by omega) i2
              have a := Gz_up S (i := i) (j := k) (by omega) i2 (CH_ne S q1.1)
              have b := Gz_up S (i := i) (j := j) (by omega) i2 (CH_ne S q1.2)
              have c := Gz_tri S K (cPa cs i) j k (by omega) (by omega) j1 j2 k1 k2 (by omega)
              grind
            · by_cases q2 : k < j ∧ i < j
              · have hp := pa_lt S (i := j) (by omega) j2
                have a := Gz_down S (i := i) (j := j) (by omega) j2 (CH_ne S q2.2)
                have b := Gz_down S (i := k) (j := j) (by omega) j2 (CH_ne S q2.1)
                have c := Gz_tri S K i (cPa cs j) k i1 i2 (by omega) (by omega) k1 k2 (by omega)
                grind
              · have q3 : i < k ∧ j < k := by omega
                have hp := pa_lt S (i := k) (by omega) k2
                have a := Gz_down S (i := i) (j := k) (by omega) k2 (CH_ne S q3.1)
                have b := Gz_up S (i := k) (j := j) (by omega) k2 (CH_ne S q3.2)
                have c := Gz_tri S K i j (cPa cs k) i1 i2 j1 j2 (by omega) (by omega) (by omega)
                have l := lo_le S (i := k) (by omega) k2
                grind
/-! ### the table of a sheet -/
/-- the index of the parent in the table -/
def pix (cs : List Cue) (a : Nat) : Nat := if cPa cs a = -1 then cs.length else (cPa cs a).toNat
def bt (cs : List Cue) : Tf := fun a b => if a < cs.length ∧ pix cs a = b then some (cHi cs a) else if b < cs.length ∧ pix cs b = a then some (-cLo cs b) else none
def Gt (cs : List Cue) : Tf := fun a b => some (Gz cs a b)
/-- a table's index as a cue, -1 for the time 0 -/
def zix (cs : List Cue) (a : Nat) : Int := if a < cs.length then (a : Int) else -1
theorem CH_zix {a : Nat} : CH cs (zix cs a) = CH cs a := by
  unfold zix
  split
  · rfl
  · rw [CH_nil (by omega), CH_nil (by omega)]
theorem Gz_zix {a b : Nat} : Gz cs (zix cs a) (zix cs b) = Gz cs a b := by unfold Gz; rw [CH_zix, CH_zix]
theorem zix_r {a : Nat} : -1 ≤ zix cs a ∧ zix cs a < cs.length := by
  unfold zix
  split <;> omega
theorem pix_r (S : Sheet cs) {a : Nat} (h : a < cs.length) : pix cs a ≤ cs.length ∧ zix cs (pix cs a) = cPa cs a ∧ (pix cs a < cs.length → pix cs a < a) := by
  have := pa_lt S (i := a) (by omega) (by omega)
  unfold pix zix
  split
  · rename_i q
    rw [if_neg (by omega), q]
    exact ⟨Nat.le_refl _, rfl, fun z => by omega⟩
  · rw [if_pos (by omega)]
    exact ⟨by omega, by omega, fun _ => by omega⟩
theorem CH_pix (S : Sheet cs) {a : Nat} (h : a < cs.length) : CH cs (pix cs a) = CH cs (cPa cs a) := by
  rw [← CH_zix, (pix_r S h).2.1]
theorem bt_up {a : Nat} (h : a < cs.length) : bt cs a (pix cs a) = some (cHi cs a) := if_pos ⟨h, rfl⟩
theorem bt_down (S : Sheet cs) {a : Nat} (h : a < cs.length) : bt cs (pix cs a) a = some (-cLo cs a) := by
  unfold bt
  rw [if_neg, if_pos ⟨h, rfl⟩]
  rintro ⟨h1, h2⟩
  have a1 := (pix_r S h).2.2 h1
  have a2 := (pix_r S h1).2.2 (by omega)
  omega
theorem gt_up (S : Sheet cs) {a b : Nat} (h : a < cs.length) (hb : zix cs b < a) : Gz cs a b = cHi cs a + Gz cs (pix cs a) b := by
  have e := Gz_up S (i := a) (j := b) (by omega) (by omega) (by rw [← CH_zix]; exact CH_ne S hb)
  rw [e]
  congr 1
  unfold Gz
  rw [CH_pix S h]
theorem gt_down (S : Sheet cs) {a b : Nat} (h : b < cs.length) (ha : zix cs a < b) : Gz cs a b = Gz cs a (pix cs b) - cLo cs b := by
  have e := Gz_down S (i := a) (j := b) (by omega) (by omega) (by rw [← CH_zix]; exact CH_ne S ha)
  rw [e]
  congr 1
  unfold Gz
  rw [CH_pix S h]
theorem gt_walk (S : Sheet cs) : ∀ (K a b : Nat), a ≤ cs.length → b ≤ cs.length → zix cs a + zix cs b + 2 ≤ K → ∃ m, Wk (cs.length + 1) (bt cs) m a b (Gz cs a b)
  | K, a, b, ha, hb, hK => by
    have ra := zix_r (cs := cs) (a := a)
    have rb := zix_r (cs := cs) (a := b)
    by_cases q : zix cs a = zix cs b
    · have e : a = b := by
        unfold zix at q
        split at q <;> split at q <;> omega
      subst e
      refine ⟨0, ?_⟩
      rw [Gz_self]
      exact Wk.nil (by omega)
    · cases K with
      | zero => omega
      | succ K =>
        by_cases q2 : zix cs b < zix cs a
        · have h : a < cs.length := by
            unfold zix at q2 ra
            split at q2 <;> omega
          have ez : zix cs a = a := if_pos h
          have p := pix_r S h
          have hp := pa_lt S (i := a) (by omega) (by omega)
          obtain ⟨m, w⟩ := gt_walk S K (pix cs a) b p.1 hb (by rw [p.2.1]; omega)
          refine ⟨m + 1, ?_⟩
          rw [gt_up S h (by omega)]
          exact Wk.cons (by omega) (bt_up h) w
        · have h : b < cs.length := by
            unfold zix at q2 q
            split at q2 <;> split at q2 <;> omega
          have ez : zix cs b = b := if_pos h
          have p := pix_r S h
          have hp := pa_lt S (i := b) (by omega) (by omega)
          obtain ⟨m, w⟩ := gt_walk S K a (pix cs b) ha p.1 (by rw [p.2.1]; omega)
          refine ⟨m + 1, ?_⟩
          rw [gt_down S h (by omega), Rat.sub_eq_add_neg]
          exact w.app (Wk.one (by omega) (by omega) (bt_down S h))
theorem fin_gt (S : Sheet cs) : Fin (cs.length + 1) (bt cs) (Gt cs) where
  snd := fun i j x hi hj h => by
    cases h
    have a := zix_r (cs := cs) (a := i)
    have b := zix_r (cs := cs) (a := j)
    exact gt_walk S (zix cs i + zix cs j + 2).toNat i j (by omega) (by omega) (by omega)
  tri := fun i j k x y hi hj hk h1 h2 => by
    cases h1
    cases h2
    have a := zix_r (cs := cs) (a := i)
    have b := zix_r (cs := cs) (a := j)
    have c := zix_r (cs := cs) (a := k)
    have t := Gz_tri S (zix cs i + zix cs j + zix cs k + 3).toNat (zix cs i) (zix cs j) (zix cs k) a.1 a.2 b.1 b.2 c.1 c.2 (by omega)
    rw [Gz_zix, Gz_zix, Gz_zix] at t
    exact ⟨_, rfl, t⟩
  le := fun i j x hi hj h => by
    refine ⟨_, rfl, ?_⟩
    unfold f0 at h
    split at h
    · rename_i q
      subst q
      rw [Gz_self]
      rcases omin_or h with h | h
      · unfold bt at h
        split at h
        · rename_i p
          have := (pix_r S p.1).2.2
          omega
        · cases h
      · cases h; grind
    · unfold bt at h
      split at h
      · rename_i p
        cases h
        obtain ⟨p1, rfl⟩ := p
        have r := pix_r S p1
        have hp := pa_lt S (i := i) (by omega) (by omega)
        rw [gt_up S p1 (by rw [r.2.1]; omega), Gz_self]
        grind
      · split at h
        · rename_i p
          cases h
          obtain ⟨p1, rfl⟩ := p
          have r := pix_r S p1
          have hp := pa_lt S (i := j) (by omega) (by omega)
          rw [gt_down S p1 (by rw [r.2.1]; omega), Gz_self]
          grind
        · cases h
  nn := fun i hi => ⟨_, rfl, by rw [Gz_self]; grind⟩
/-- the program's closing of the sheet's table -/
theorem fw_bt (S : Sheet cs) : ∃ g, fw (cs.length + 1) (bt cs) = some g ∧ ∀ i j, i < cs.length + 1 → j < cs.length + 1 → g i j = Gt cs i j := by
  have h := fw_ok (n := cs.length + 1) (f := bt cs)
  cases e : fw (cs.length + 1) (bt cs) with
  | none =>
    rw [e] at h
    obtain ⟨m, i, w, h1, h2⟩ := h
    have := (fin_gt S).nn' _ _ _ h1
    grind
  | some g =>
    rw [e] at h
    exact ⟨g, rfl, fun i j hi hj => h.cl.unique (fin_gt S).cl hi hj⟩
end
end Vs
namespace Vs
open PySem PySem.Spec PyProof.Rows L2
/-! ### _law_ways_up -/
noncomputable abbrev lb__law_ways_up_0 : SEv := (seqS (sExpr (evBM isLst fApp (evV 2) (evCons (evV 1) evNil))) (sSet 1 (evBin fIx (evBin fIx (evV 0) (evV 1)) (evC (.int 0)))))
/-! ### _law_ways_up -/
noncomputable def sv__law_ways_up : SEv := (seqS (sSet 2 (evLstC evNil)) (seqS (sWhile 100 (tAndV' (evB (evBin fGe (evV 1) (evC (.int 0)))) (evB (evBin fLt (evV 1) (evBI fLen (evCons (evV 0) evNil))))) (seqS (sExpr (evBM isLst fApp (evV 2) (evCons (evV 1) evNil))) (sSet 1 (evBin fIx (evBin fIx (evV 0) (evV 1)) (evC (.int 0)))))) (sRet (evV 2))))
noncomputable def m__law_ways_up : FSem := arF 2 (bodySem 3 sv__law_ways_up)
theorem ar__law_ways_up : Arity m__law_ways_up 2 := arF_ar
theorem le__law_ways_up : ∀ ds μ r, m__law_ways_up ds μ = some r → bodySem 3 sv__law_ways_up ds μ = some r := arF_le
/-! ### _law_greatest -/
noncomputable abbrev lb__law_greatest_0 : SEv := (sIf (evB (evBin (fInI true) (evV 6) (evV 4))) (sSet 5 (evCall m__law_sum [] (evCons (evV 5) (evCons (evBin fIx (evBin fIx (evV 0) (evV 6)) (evC (.int 2))) evNil)))) sNil)
noncomputable abbrev lb__law_greatest_1 : SEv := (sIf (evB (evBin (fInI true) (evV 6) (evV 3))) (sSet 5 (evCall m__law_sum [] (evCons (evV 5) (evCons (evCall m__law_minus [] (evCons (evBin fIx (evBin fIx (evV 0) (evV 6)) (evC (.int 1))) evNil)) evNil)))) sNil)
/-! ### _law_greatest -/
noncomputable def sv__law_greatest : SEv := (seqS (sSet 3 (evCall m__law_ways_up [] (evCons (evV 0) (evCons (evV 1) evNil)))) (seqS (sSet 4 (evCall m__law_ways_up [] (evCons (evV 0) (evCons (evV 2) evNil)))) (seqS (sSet 5 (evTup (evCons (evC (.int 0)) (evCons (evC (.int 1)) evNil)))) (seqS (sFor (evIt (evV 3)) (tgN 6) (sIf (evB (evBin (fInI true) (evV 6) (evV 4))) (sSet 5 (evCall m__law_sum [] (evCons (evV 5) (evCons (evBin fIx (evBin fIx (evV 0) (evV 6)) (evC (.int 2))) evNil)))) sNil)) (seqS (sFor (evIt (evV 4)) (tgN 6) (sIf (evB (evBin (fInI true) (evV 6) (evV 3))) (sSet 5 (evCall m__law_sum [] (evCons (evV 5) (evCons (evCall m__law_minus [] (evCons (evBin fIx (evBin fIx (evV 0) (evV 6)) (evC (.int 1))) evNil)) evNil)))) sNil)) (sRet (evV 5)))))))
noncomputable def m__law_greatest : FSem := arF 3 (bodySem 7 sv__law_greatest)
theorem ar__law_greatest : Arity m__law_greatest 3 := arF_ar
theorem le__law_greatest : ∀ ds μ r, m__law_greatest ds μ = some r → bodySem 7 sv__law_greatest ds μ = some r := arF_le
/-! ### _law_bounds -/
/-! ### _law_bounds -/
noncomputable def sv__law_bounds : SEv := (seqS (sSet 1 (evBin fAdd (evBI fLen (evCons (evV 0) evNil)) (evC (.int 1)))) (sRet (evLc (evRng1 (evV 1)) (tgN 3) evTrue (evLc (evRng1 (evV 1)) (tgN 2) evTrue (evCall m__law_greatest [] (evCons (evV 0) (evCons (evV 3) (evCons (evV 2) evNil)))) [2]) [3])))
noncomputable def m__law_bounds : FSem := arF 1 (bodySem 4 sv__law_bounds)
theorem ar__law_bounds : Arity m__law_bounds 1 := arF_ar
theorem le__law_bounds : ∀ ds μ r, m__law_bounds ds μ = some r → bodySem 4 sv__law_bounds ds μ = some r := arF_le
/-! ### bounds -/
noncomputable abbrev lb_bounds_0 : SEv := (seqS (sSet 8 (evIf (evB (evBin fEq (evV 5) (evUn fNeg (evC (.int 1))))) (evV 1) (evV 5))) (seqS (sSetIx (evBin fIxD (evV 2) (evV 4)) (evV 8) (evV 7)) (sSetIx (evBin fIxD (evV 2) (evV 8)) (evV 4) (evUn (fOwn1 0 m_Ratiou_negu) (evV 6)))))
/-! ### bounds -/
noncomputable def sv_bounds : SEv := (seqS (sSet 1 (evBI fLen (evCons (evV 0) evNil))) (seqS (sSet 2 (evLcD (evUpI (evRng1 (evBin fAdd (evV 1) (evC (.int 1))))) (tgUp (tgN 3)) evTrue (evBin fRepC (evLst (evCons (evC .non) evNil)) (evBin fAdd (evV 1) (evC (.int 1)))) [3])) (seqS (sFor (evEnumT (evCons (evV 0) evNil)) (tgM [(tgN 4), (tgT [5, 6, 7])]) (seqS (sSet 8 (evIf (evB (evBin fEq (evV 5) (evUn fNeg (evC (.int 1))))) (evV 1) (evV 5))) (seqS (sSetIx (evBin fIxD (evV 2) (evV 4)) (evV 8) (evV 7)) (sSetIx (evBin fIxD (evV 2) (evV 8)) (evV 4) (evUn (fOwn1 0 m_Ratiou_negu) (evV 6)))))) (sRet (evCall m_closed [] (evCons (evFrz (evV 2)) evNil))))))
noncomputable def m_bounds : FSem := arF 1 (bodySemK 9 sv_bounds)
theorem ar_bounds : Arity m_bounds 1 := arF_ar
theorem le_bounds : ∀ ds μ r, m_bounds ds μ = some r → bodySemK 9 sv_bounds ds μ = some r := arF_le
end Vs
/-! The law's table of a sheet, and the program's. -/
namespace Vs
open PySem PySem.Spec PyProof.Rows L2
section
variable {μ ν : Mu} {cs : List Cue} {N m : Nat}
theorem shP_at (S : Sheet cs) {i : Int} (h0 : 0 ≤ i) (h : i < cs.length) : fIx (.p (shP cs)) (.p (.int i)) μ = some (.p (.tup [.int (cPa cs i), pr (cLo cs i), pr (cHi cs i)]), μ) := by
  obtain ⟨c, e, _, e1, e2, e3⟩ := cue_at S h0 h
  unfold shP
  rw [fIx_lstp, show i = ((i.toNat : Nat) : Int) by omega, atI_nat (by rw [List.getElem?_map, e]; rfl), ← show i = ((i.toNat : Nat) : Int) by omega, e1, e2, e3]
  rfl
theorem shP_len : fLen [.p (shP cs)] μ = some (.p (.int (cs.length : Int)), μ) := by
  show some (D.p (.int ((cs.map Cue.q).length : Int)), μ) = _
  rw [List.length_map]
theorem ups_loop (S : Sheet cs) {p : Nat} : ∀ (f k : Nat) (i : Int) (acc : List P) (ν : Mu), i < f → f < k → acc.length + f < 900 → ν[p]? = some (some (.lst acc)) → ∃ c,
    whL (tAndV' (evB (evBin fGe (evV 1) (evC (.int 0)))) (evB (evBin fLt (evV 1) (evBI fLen (evCons (evV 0) evNil))))) lb__law_ways_up_0 k [some (.p (shP cs)), some (.p (.int i)), some (.loc p)] ν
      = some (.nx, [some (.p (shP cs)), c, some (.loc p)], ν.set p (some (.lst (acc ++ (chn cs f i).map P.int))))
  | 0, k, i, acc, ν, hi, hk, ha, hc => by
    obtain ⟨k, rfl⟩ : ∃ k', k = k' + 1 := ⟨k - 1, by omega⟩
    refine ⟨some (.p (.int i)), ?_⟩
    have h : ¬ 0 ≤ i := by omega
    rw [whL]
    simp [h, chn, set_same hc]
  | f + 1, k, i, acc, ν, hi, hk, ha, hc => by
    obtain ⟨k, rfl⟩ : ∃ k', k = k' + 1 := ⟨k - 1, by omega⟩
    have hl := fun ν : Mu => shP_len (cs := cs) (μ := ν)
    by_cases h : 0 ≤ i ∧ i < cs.length
    · have hp := pa_lt S h.1 h.2
      have g1 := isLst_l hc
      have g2 := fApp_at (y := .int i) hc (by omega)
      have g3 := fun ν : Mu => shP_at (μ := ν) S h.1 h.2
      obtain ⟨c, ih⟩ := ups_loop S f k (cPa cs i) (acc ++ [.int i]) (ν.set p (some (.lst (acc ++ [.int i])))) (by omega) (by omega) (by simp; omega) (set_get hc)
      refine ⟨c, ?_⟩
      have body : lb__law_ways_up_0 [some (.p (shP cs)), some (.p (.int i)), some (.loc p)] ν = some (.nx, [some (.p (shP cs)), some (.p (.int (cPa cs i))), some (.loc p)], ν.set p (some (.lst (acc ++ [.int i])))) := by
        simp [lb__law_ways_up_0, evBM_eq, g1, g2, g3]
      have test : (tAndV' (evB (evBin fGe (evV 1) (evC (.int 0)))) (evB (evBin fLt (evV 1) (evBI fLen (evCons (evV 0) evNil))))) [some (.p (shP cs)), some (.p (.int i)), some (.loc p)] ν = some (.ok true, ν) := by
        simp [h.1, h.2, hl]
      rw [whL, test, bindS_ok, if_pos rfl, body]
      dsimp only
      rw [ih, chn, if_pos h, List.set_set, List.map_cons, List.append_assoc]
      rfl
    · refine ⟨some (.p (.int i)), ?_⟩
      have test : (tAndV' (evB (evBin fGe (evV 1) (evC (.int 0)))) (evB (evBin fLt (evV 1) (evBI fLen (evCons (evV 0) evNil))))) [some (.p (shP cs)), some (.p (.int i)), some (.loc p)] ν = some (.ok false, ν) := by
        by_cases h0 : 0 ≤ i
        · have h2 : ¬ i < cs.length := fun z => h ⟨h0, z⟩
          simp [h0, h2, hl]
        · simp [h0]
      rw [whL, test, bindS_ok, if_neg (by decide), chn, if_neg h]
      simp [set_same hc]
theorem ev_ups (S : Sheet cs) {i : Int} (h : i ≤ cs.length) : m__law_ways_up [.p (shP cs), .p (.int i)] μ = some (.ok (.p (.lst ((CH cs i).map P.int))), μ) := by
  have hl := S.len
  obtain ⟨c, e⟩ := ups_loop S (p := μ.length) (cs.length + 1) 100 i [] (μ ++ [some (MO.lst [])]) (by omega) (by omega) (by simp; omega) (by simp)
  rw [set_end rfl, List.nil_append] at e
  have s3 : sv__law_ways_up [some (.p (shP cs)), some (.p (.int i)), none] μ = some (.ret (.loc μ.length), [some (.p (shP cs)), c, some (.loc μ.length)], μ ++ [some (.lst ((CH cs i).map P.int))]) := by
    show seqS (sSet 2 (evLstC evNil)) (seqS (sWhile 100 _ lb__law_ways_up_0) (sRet (evV 2))) _ μ = _
    rw [seqS_eq]
    have s1 : sSet 2 (evLstC evNil) [some (.p (shP cs)), some (.p (.int i)), none] μ = some (.nx, [some (.p (shP cs)), some (.p (.int i)), some (.loc μ.length)], μ ++ [some (MO.lst [])]) := by simp
    rw [s1, andThen_nx, seqS_eq]
    show andThen _ (whL _ lb__law_ways_up_0 100 _ _) = _
    rw [e, andThen_nx]
    rfl
  show (if [D.p (shP cs), D.p (.int i)].length = 2 then bodySem 3 sv__law_ways_up [.p (shP cs), .p (.int i)] μ else none) = _
  rw [if_pos (show [D.p (shP cs), D.p (.int i)].length = 2 from rfl), bodySem_eq]
  show retF μ.length (sv__law_ways_up [some (.p (shP cs)), some (.p (.int i)), none] μ) = _
  rw [s3]
  show retL μ.length μ.length _ = _
  unfold retL
  rw [if_neg (Nat.lt_irrefl _), cellL_end rfl]
  dsimp only
  rw [List.take_left]
/-- all numbers of a sheet over one denominator -/
structure CuesZ (N m : Nat) (cs : List Cue) : Prop where
  lo : ∀ k : Int, Cz N m (cLo cs k)
  hi : ∀ k : Int, Cz N m (cHi cs k)
theorem cues_nok (S : Sheet cs) : ∃ N, Nok N ∧ N < 2 ^ 660 ∧ CuesZ N 5000 cs := by
  let os : List (Option Rat) := cs.map (fun c => some c.lo) ++ cs.map fun c => some c.hi
  have hp := dnP_pos os
  have hm : ∀ q, some q ∈ os → Sz 4000 q.num ∧ Sz 40 (q.den : Int) := fun q hq => by
    rcases List.mem_append.mp hq with h | h
    · obtain ⟨c, hc, e⟩ := List.mem_map.mp h
      cases e
      obtain ⟨i, hi⟩ := List.getElem?_of_mem hc
      have k := S.ok i c hi
      exact ⟨k.lo.2.1.mono (by decide), k.lo.2.2.mono (by decide)⟩
    · obtain ⟨c, hc, e⟩ := List.mem_map.mp h
      cases e
      obtain ⟨i, hi⟩ := List.getElem?_of_mem hc
      have k := S.ok i c hi
      exact ⟨k.hi.2.1.mono (by decide), k.hi.2.2.mono (by decide)⟩
  have hlt : ∀ l : List (Option Rat), (∀ q, some q ∈ l → Sz 40 (q.den : Int)) → dnP l < 2 ^ (40 * l.length + 1) := by
    intro l
    induction l with
    | nil => intro _; decide
    | cons o l ih =>
      intro h
      have h2 := ih fun q hq => h q (List.mem_cons_of_mem _ hq)
      have h1 : dn o ≤ 2 ^ 40 := by
        cases o with
        | none => decide
        | some q =>
          have := h q List.mem_cons_self
          unfold Sz at this
          rw [Int.natAbs_natCast] at this
          exact Nat.le_of_lt this
      rw [List.length_cons, show 40 * (l.length + 1) + 1 = 40 + (40 * l.length + 1) by omega, Nat.pow_add]
      exact Nat.lt_of_le_of_lt (Nat.mul_le_mul_right _ h1) (Nat.mul_lt_mul_of_pos_left h2 (Nat.two_pow_pos 40))
  have hN : dnP os < 2 ^ 660 := by
    refine Nat.lt_of_lt_of_le (hlt os fun q hq => (hm q hq).2) (Nat.pow_le_pow_right (by decide) ?_)
    have := S.len
    simp [os]
    omega
  have hz : ∀ q, some q ∈ os → Cz (dnP os) 5000 q := fun q hq => (cz_of (a := 4000) (b := 660) (dnP_dvd hq) hp (hm q hq).1 (by unfold Sz; rw [Int.natAbs_natCast]; exact hN)).mono (by decide)
  refine ⟨dnP os, ⟨hp, Nat.lt_of_lt_of_le hN (Nat.pow_le_pow_right (by decide) (by decide))⟩, hN, fun k => ?_, fun k => ?_⟩
  · unfold cLo
    cases e : cs[k.toNat]? with
    | none => exact cz0
    | some c => exact hz c.lo (List.mem_append.mpr (.inl (List.mem_map.mpr ⟨c, List.mem_of_getElem? e, rfl⟩)))
  · unfold cHi
    cases e : cs[k.toNat]? with
    | none => exact cz0
    | some c => exact hz c.hi (List.mem_append.mpr (.inr (List.mem_map.mpr ⟨c, List.mem_of_getElem? e, rfl⟩)))
theorem sumF_cz (hN : Nok N) {h : Int → Rat} (hz : ∀ k, Cz N m (h k)) (D : List Int) : ∀ U : List Int, Cz N (m + U.length) (sumF h D U)
  | [] => cz0
  | k :: U => by
    rw [sumF, List.length_cons, ← Nat.add_assoc]
    refine Cz.add hN ?_ (sumF_cz hN hz D U)
    split
    · exact cz0
    · exact (hz k).mono (by omega)
theorem up_loop (S : Sheet cs) (hN : Nok N) (hz : CuesZ N m cs) (hm : m ≤ 6000) {c1 c2 c3 : Option D} {E : List Int} : ∀ (U : List Int) (acc : Rat) (k : Nat) (c6 : Option D), (∀ x ∈ U, 0 ≤ x ∧ x < cs.length) → Cz N k acc → m ≤ k → k + U.length ≤ 9000 → ∃ c6',
    forL (tgN 6) lb__law_greatest_0 (U.map P.int) [some (.p (shP cs)), c1, c2, c3, some (.p (.lst (E.map P.int))), some (.p (pr acc)), c6] μ
      = some (.nx, [some (.p (shP cs)), c1, c2, c3, some (.p (.lst (E.map P.int))), some (.p (pr (acc + sumF (cHi cs) E U))), c6'], μ)
  | [], acc, k, c6, hu, ha, hk, hl => ⟨c6, by rw [sumF, Rat.add_zero]; rfl⟩
  | x :: U, acc, k, c6, hu, ha, hk, hl => by
    simp only [List.length_cons] at hl
    obtain ⟨x0, x1⟩ := hu x List.mem_cons_self
    have g1 := fun ν : Mu => fInI_lst (neg := true) (i := x) (ns := E) (μ := ν)
    have g2 := fun ν : Mu => shP_at (μ := ν) S x0 x1
    have g3 := fun ν : Mu => ev_lsum (μ := ν) (ha.bz hN (by omega)) ((hz.hi x).bz hN (by omega)) (by decide)
    have e2 := at_2 (x := P.int (cPa cs x)) (y := pr (cLo cs x)) (z := pr (cHi cs x)) (xs := [])
    by_cases q : isIn E x = true
    · obtain ⟨c6', ih⟩ := up_loop S hN hz hm (c1 := c1) (c2 := c2) (c3 := c3) (E := E) U acc k (some (.p (.int x))) (fun y hy => hu y (List.mem_cons_of_mem _ hy)) ha hk (by omega)
      refine ⟨c6', ?_⟩
      have q' : E.any (fun n => n == x) = true := q
      have body : lb__law_greatest_0 [some (.p (shP cs)), c1, c2, c3, some (.p (.lst (E.map P.int))), some (.p (pr acc)), some (.p (.int x))] μ = some (.nx, [some (.p (shP cs)), c1, c2, c3, some (.p (.lst (E.map P.int))), some (.p (pr acc)), some (.p (.int x))], μ) := by
        refine if_f (μ' := μ) ?_
        rw [evB_eq', evBin_eq, evV_6, bindG_ok, evV_4, bindG_ok, g1, okm_some, bindG_ok, q']
        rfl
      rw [List.map_cons, forL_nx rfl body, ih, sumF, if_pos q, Rat.zero_add]
    · have ha2 : Cz N (k + 1) (acc + cHi cs x) := ha.add hN ((hz.hi x).mono hk)
      obtain ⟨c6', ih⟩ := up_loop S hN hz hm (c1 := c1) (c2 := c2) (c3 := c3) (E := E) U (acc + cHi cs x) (k + 1) (some (.p (.int x))) (fun y hy => hu y (List.mem_cons_of_mem _ hy)) ha2 (by omega) (by omega)
      refine ⟨c6', ?_⟩
      have q' : E.any (fun n => n == x) = false := by
        rw [Bool.eq_false_iff]; exact q
      have body : lb__law_greatest_0 [some (.p (shP cs)), c1, c2, c3, some (.p (.lst (E.map P.int))), some (.p (pr acc)), some (.p (.int x))] μ = some (.nx, [some (.p (shP cs)), c1, c2, c3, some (.p (.lst (E.map P.int))), some (.p (pr (acc + cHi cs x))), some (.p (.int x))], μ) := by
        show sIf (evB (evBin (fInI true) (evV 6) (evV 4))) (sSet 5 (evCall m__law_sum [] (evCons (evV 5) (evCons (evBin fIx (evBin fIx (evV 0) (evV 6)) (evC (.int 2))) evNil)))) sNil _ μ = _
        rw [if_t (μ' := μ) (by rw [evB_eq', evBin_eq, evV_6, bindG_ok, evV_4, bindG_ok, g1, okm_some, bindG_ok, q']; rfl)]
        simp [-fIx_lstp, g2, g3]
      rw [List.map_cons, forL_nx rfl body, ih, sumF, if_neg q, Rat.add_assoc]
theorem down_loop (S : Sheet cs) (hN : Nok N) (hz : CuesZ N m cs) (hm : m ≤ 6000) {c1 c2 c4 : Option D} {E : List Int} : ∀ (U : List Int) (acc : Rat) (k : Nat) (c6 : Option D), (∀ x ∈ U, 0 ≤ x ∧ x < cs.length) → Cz N k acc → m ≤ k → k + U.length ≤ 9000 → ∃ c6',
    forL (tgN 6) lb__law_greatest_1 (U.map P.int) [some (.p (shP cs)), c1, c2, some (.p (.lst (E.map P.int))), c4, some (.p (pr acc)), c6] μ
      = some (.nx, [some (.p (shP cs)), c1, c2, some (.p (.lst (E.map P.int))), c4, some (.p (pr (acc + sumF (fun k => -cLo cs k) E U))), c6'], μ)
  | [], acc, k, c6, hu, ha, hk, hl => ⟨c6, by rw [sumF, Rat.add_zero]; rfl⟩
  | x :: U, acc, k, c6, hu, ha, hk, hl => by
    simp only [List.length_cons] at hl
    obtain ⟨x0, x1⟩ := hu x List.mem_cons_self
    have g1 := fun ν : Mu => fInI_lst (neg := true) (i := x) (ns := E) (μ := ν)
    have g2 := fun ν : Mu => shP_at (μ := ν) S x0 x1
    have g3 := fun ν : Mu => ev_lsum (μ := ν) (ha.bz hN (by omega)) (((hz.lo x).neg hN).bz hN (by omega)) (by decide)
    have g4 := fun ν : Mu => ev_lminus (μ := ν) (a := cLo cs x)
    by_cases q : isIn E x = true
    · obtain ⟨c6', ih⟩ := down_loop S hN hz hm (c1 := c1) (c2 := c2) (c4 := c4) (E := E) U acc k (some (.p (.int x))) (fun y hy => hu y (List.mem_cons_of_mem _ hy)) ha hk (by omega)
      refine ⟨c6', ?_⟩
      have q' : E.any (fun n => n == x) = true := q
      have body : lb__law_greatest_1 [some (.p (shP cs)), c1, c2, some (.p (.lst (E.map P.int))), c4, some (.p (pr acc)), some (.p (.int x))] μ = some (.nx, [some (.p (shP cs)), c1, c2, some (.p (.lst (E.map P.int))), c4, some (.p (pr acc)), some (.p (.int x))], μ) := by
        refine if_f (μ' := μ) ?_
        rw [evB_eq', evBin_eq, evV_6, bindG_ok, evV_3, bindG_ok, g1, okm_some, bindG_ok, q']
        rfl
      rw [List.map_cons, forL_nx rfl body, ih, sumF, if_pos q, Rat.zero_add]
    · have ha2 : Cz N (k + 1) (acc + -cLo cs x) := ha.add hN (((hz.lo x).neg hN).mono hk)
      obtain ⟨c6', ih⟩ := down_loop S hN hz hm (c1 := c1) (c2 := c2) (c4 := c4) (E := E) U (acc + -cLo cs x) (k + 1) (some (.p (.int x))) (fun y hy => hu y (List.mem_cons_of_mem _ hy)) ha2 (by omega) (by omega)
      refine ⟨c6', ?_⟩
      have q' : E.any (fun n => n == x) = false := by
        rw [Bool.eq_false_iff]; exact q
      have body : lb__law_greatest_1 [some (.p (shP cs)), c1, c2, some (.p (.lst (E.map P.int))), c4, some (.p (pr acc)), some (.p (.int x))] μ = some (.nx, [some (.p (shP cs)), c1, c2, some (.p (.lst (E.map P.int))), c4, some (.p (pr (acc + -cLo cs x))), some (.p (.int x))], μ) := by
        show sIf (evB (evBin (fInI true) (evV 6) (evV 3))) (sSet 5 (evCall m__law_sum [] (evCons (evV 5) (evCons (evCall m__law_minus [] (evCons (evBin fIx (evBin fIx (evV 0) (evV 6)) (evC (.int 1))) evNil)) evNil)))) sNil _ μ = _
        rw [if_t (μ' := μ) (by rw [evB_eq', evBin_eq, evV_6, bindG_ok, evV_3, bindG_ok, g1, okm_some, bindG_ok, q']; rfl)]
        simp [-fIx_lstp, g2, g3, g4]
      rw [List.map_cons, forL_nx rfl body, ih, sumF, if_neg q, Rat.add_assoc]
theorem chn_len : ∀ (f : Nat) (i : Int), (chn cs f i).length ≤ f
  | 0, i => by simp [chn]
  | f + 1, i => by
    rw [chn]
    split
    · rw [List.length_cons]; have := chn_len f (cPa cs i); omega
    · simp
theorem CH_len (S : Sheet cs) {i : Int} : (CH cs i).length ≤ 9 := by
  have := S.len
  have := chn_len (cs := cs) (cs.length + 1) i
  unfold CH
  omega
theorem Gz_cz (S : Sheet cs) (hN : Nok N) (hz : CuesZ N m cs) {i j : Int} : Cz N (m + 10) (Gz cs i j) := by
  have a := CH_len S (i := i)
  have b := CH_len S (i := j)
  have h1 := (sumF_cz hN hz.hi (CH cs j) (CH cs i)).mono (k := m + 9) (by omega)
  have h2 := (sumF_cz hN (fun k => (hz.lo k).neg hN) (CH cs i) (CH cs j)).mono (k := m + 9) (by omega)
  exact h1.add hN h2
theorem ev_lgreatest (S : Sheet cs) (hN : Nok N) (hz : CuesZ N m cs) (hm : m ≤ 6000) {i j : Int} (hi : i ≤ cs.length) (hj : j ≤ cs.length) : m__law_greatest [.p (shP cs), .p (.int i), .p (.int j)] μ = some (.ok (.p (pr (Gz cs i j))), μ) := by
  have e1 := ev_ups (μ := μ) S hi
  have e2 := ev_ups (μ := μ) S hj
  have a := CH_len S (i := i)
  have b := CH_len S (i := j)
  obtain ⟨c6, e3⟩ := up_loop (μ := μ) S hN hz hm (c1 := some (.p (.int i))) (c2 := some (.p (.int j))) (c3 := some (.p (.lst ((CH cs i).map P.int)))) (E := CH cs j) (CH cs i) 0 m none (fun x hx => by have := chn_mem S _ _ hx; omega) cz0 (Nat.le_refl _) (by omega)
  obtain ⟨c6', e4⟩ := down_loop (μ := μ) S hN hz hm (c1 := some (.p (.int i))) (c2 := some (.p (.int j))) (c4 := some (.p (.lst ((CH cs j).map P.int)))) (E := CH cs i) (CH cs j) (0 + sumF (cHi cs) (CH cs j) (CH cs i)) (m + 9 + 1) c6 (fun x hx => by have := chn_mem S _ _ hx; omega) (Cz.add hN cz0 ((sumF_cz hN hz.hi (CH cs j) (CH cs i)).mono (by omega))) (by omega) (by omega)
  have s : sv__law_greatest [some (.p (shP cs)), some (.p (.int i)), some (.p (.int j)), none, none, none, none] μ = some (.ret (.p (pr (Gz cs i j))), [some (.p (shP cs)), some (.p (.int i)), some (.p (.int j)), some (.p (.lst ((CH cs i).map P.int))), some (.p (.lst ((CH cs j).map P.int))), some (.p (pr (Gz cs i j))), c6'], μ) := by
    have s1 : sSet 3 (evCall m__law_ways_up [] (evCons (evV 0) (evCons (evV 1) evNil))) [some (.p (shP cs)), some (.p (.int i)), some (.p (.int j)), none, none, none, none] μ = some (.nx, [some (.p (shP cs)), some (.p (.int i)), some (.p (.int j)), some (.p (.lst ((CH cs i).map P.int))), none, none, none], μ) := by simp [e1]
    have s2 : sSet 4 (evCall m__law_ways_up [] (evCons (evV 0) (evCons (evV 2) evNil))) [some (.p (shP cs)), some (.p (.int i)), some (.p (.int j)), some (.p (.lst ((CH cs i).map P.int))), none, none, none] μ = some (.nx, [some (.p (shP cs)), some (.p (.int i)), some (.p (.int j)), some (.p (.lst ((CH cs i).map P.int))), some (.p (.lst ((CH cs j).map P.int))), none, none], μ) := by simp [e2]
    have s3 : sSet 5 (evTup (evCons (evC (.int 0)) (evCons (evC (.int 1)) evNil))) [some (.p (shP cs)), some (.p (.int i)), some (.p (.int j)), some (.p (.lst ((CH cs i).map P.int))), some (.p (.lst ((CH cs j).map P.int))), none, none] μ = some (.nx, [some (.p (shP cs)), some (.p (.int i)), some (.p (.int j)), some (.p (.lst ((CH cs i).map P.int))), some (.p (.lst ((CH cs j).map P.int))), some (.p (pr 0)), none], μ) := by
      simp
      rfl
    have hit : ∀ (L : List Int) (k : Nat) (δ : Sl), δ[k]? = some (some (.p (.lst (L.map P.int)))) → evIt (evV k) δ μ = some (.ok (L.map P.int), μ) := fun L k δ h => by
      unfold evIt
      rw [evV_at h, bindG_ok]
      rfl
    show seqS _ (seqS _ (seqS _ (seqS (sFor (evIt (evV 3)) (tgN 6) lb__law_greatest_0) (seqS (sFor (evIt (evV 4)) (tgN 6) lb__law_greatest_1) (sRet (evV 5)))))) _ μ = _
    rw [seqS_eq, s1, andThen_nx, seqS_eq, s2, andThen_nx, seqS_eq, s3, andThen_nx, seqS_eq, sFor_eq, hit (CH cs i) 3 _ rfl, bindS_ok, e3, andThen_nx, seqS_eq, sFor_eq, hit (CH cs j) 4 _ rfl, bindS_ok, e4, andThen_nx, Rat.zero_add]
    rfl
  show (if [D.p (shP cs), D.p (.int i), D.p (.int j)].length = 3 then bodySem 7 sv__law_greatest [.p (shP cs), .p (.int i), .p (.int j)] μ else none) = _
  rw [if_pos (show [D.p (shP cs), D.p (.int i), D.p (.int j)].length = 3 from rfl), bodySem_eq]
  show retF μ.length (sv__law_greatest [some (.p (shP cs)), some (.p (.int i)), some (.p (.int j)), none, none, none, none] μ) = _
  rw [s, retF_p, List.take_length]
theorem ev_lbounds (S : Sheet cs) (hN : Nok N) (hz : CuesZ N m cs) (hm : m ≤ 6000) : m__law_bounds [.p (shP cs)] μ = some (.ok (.p (tqP (cs.length + 1) (Gt cs))), μ) := by
  have hlen := S.len
  have hl := fun ν : Mu => shP_len (cs := cs) (μ := ν)
  have hr : ∀ (c2 c3 : Option D) (ξ : Mu), evRng1 (evV 1) [some (.p (shP cs)), some (.p (.int ((cs.length + 1 : Nat) : Int))), c2, c3] ξ = some (.ok ((List.range (cs.length + 1)).map fun (i : Nat) => P.int (i : Int)), ξ) := fun c2 c3 ξ => by
    rw [rng_n (cs.length + 1) rfl (by omega), ints_eq]
  have e := lc_mapE (δ := [some (.p (shP cs)), some (.p (.int ((cs.length + 1 : Nat) : Int))), none, none]) (μ := μ) (ν := μ) (ts := tgN 3) (vs := [3]) (it := evRng1 (evV 1)) (as := List.range (cs.length + 1))
    (e := evLc (evRng1 (evV 1)) (tgN 2) evTrue (evCall m__law_greatest [] (evCons (evV 0) (evCons (evV 3) (evCons (evV 2) evNil)))) [2]) (fun i => .int (i : Int)) (fun i => .lst (rwQ (cs.length + 1) (Gt cs i))) (hr _ _ _) (fun i hi => by
      have hi : i < cs.length + 1 := by simpa using hi
      refine ⟨_, rfl, fun ξ ex => ?_⟩
      exact lc_mapE (δ := [some (.p (shP cs)), some (.p (.int ((cs.length + 1 : Nat) : Int))), none, some (.p (.int (i : Int)))]) (μ := ξ) (ν := ξ) (ts := tgN 2) (vs := [2]) (it := evRng1 (evV 1)) (as := List.range (cs.length + 1))
        (e := evCall m__law_greatest [] (evCons (evV 0) (evCons (evV 3) (evCons (evV 2) evNil)))) (fun j => .int (j : Int)) (fun j => opQ (Gt cs i j)) (hr _ _ _) (fun j hj => by
          have hj : j < cs.length + 1 := by simpa using hj
          refine ⟨_, rfl, fun ζ ex2 => ?_⟩
          have g := ev_lgreatest (μ := ζ) S hN hz hm (i := (i : Int)) (j := (j : Int)) (by omega) (by omega)
          have g5 : opQ (Gt cs i j) = pr (Gz cs i j) := rfl
          rw [g5]
          generalize (i : Int) = ii at *
          generalize (j : Int) = jj at *
          generalize ((cs.length + 1 : Nat) : Int) = nn at *
          simp [g]) (by simpa using line_n (by omega))) (by simpa using line_n (by omega))
  have s1 : sSet 1 (evBin fAdd (evBI fLen (evCons (evV 0) evNil)) (evC (.int 1))) [some (.p (shP cs)), none, none, none] μ = some (.nx, [some (.p (shP cs)), some (.p (.int ((cs.length + 1 : Nat) : Int))), none, none], μ) := by
    rw [show ((cs.length + 1 : Nat) : Int) = (cs.length : Int) + 1 by omega]
    simp [hl]
  have s2 : sv__law_bounds [some (.p (shP cs)), none, none, none] μ = some (.ret (.p (tqP (cs.length + 1) (Gt cs))), [some (.p (shP cs)), some (.p (.int ((cs.length + 1 : Nat) : Int))), none, none], μ) := by
    show seqS _ (sRet _) _ μ = _
    rw [seqS_eq, s1, andThen_nx, sRet_eq, e, bindS_ok]
    unfold tqP tbQ
    rw [List.map_map]
    rfl
  show (if [D.p (shP cs)].length = 1 then bodySem 4 sv__law_bounds [.p (shP cs)] μ else none) = _
  rw [if_pos (show [D.p (shP cs)].length = 1 from rfl), bodySem_eq]
  show retF μ.length (sv__law_bounds [some (.p (shP cs)), none, none, none] μ) = _
  rw [s2, retF_p, List.take_length]
end
end Vs
/-! bounds, the program's. -/
namespace Vs
open PySem PySem.Spec PyProof.Rows L2
section
variable {μ ν : Mu} {cs : List Cue} {N m : Nat}
/-- the table when t cues have been written -/
def btt (cs : List Cue) (t : Nat) : Tf := fun a b => if a < t ∧ pix cs a = b then some (cHi cs a) else if b < t ∧ pix cs b = a then some (-cLo cs b) else none
theorem tbR_set {n i j : Nat} {f : Tf} {o : Option Rat} (hi : i < n) (hj : j < n) : (tbR n f).set i ((rwP n f i).set j (opR o)) = tbR n fun a b => if a = i ∧ b = j then o else f a b := by
  apply List.ext_getElem?
  intro a
  by_cases ha : a < n
  · rw [tbR_get ha]
    by_cases q : i = a
    · subst q
      rw [List.getElem?_set_self (by rw [tbR_len]; exact ha)]
      congr 1
      apply List.ext_getElem?
      intro b
      by_cases hb : b < n
      · rw [rwP_get hb]
        by_cases q2 : j = b
        · subst q2
          rw [List.getElem?_set_self (by rw [rwP_len]; exact hb)]
          simp
        · have q3 : ¬ b = j := fun z => q2 z.symm
          rw [List.getElem?_set_ne q2, rwP_get hb]
          simp [q3]
      · rw [List.getElem?_eq_none (by rw [List.length_set, rwP_len]; omega), List.getElem?_eq_none (by rw [rwP_len]; omega)]
    · have q3 : ¬ a = i := fun z => q z.symm
      rw [List.getElem?_set_ne q, tbR_get ha]
      congr 1
      apply List.ext_getElem?
      intro b
      by_cases hb : b < n
      · rw [rwP_get hb, rwP_get hb]
        simp [q3]
      · rw [List.getElem?_eq_none (by rw [rwP_len]; omega), List.getElem?_eq_none (by rw [rwP_len]; omega)]
  · rw [List.getElem?_eq_none (by rw [List.length_set, tbR_len]; omega), List.getElem?_eq_none (by rw [tbR_len]; omega)]
/-- t[i][j] = e of a live table -/
theorem live_put {n0 n l i j : Nat} {f : Tf} {ks : List Nat} {o : Option Rat} (L : Live n0 μ l (tbR n f) ks) (hi : i < n) (hj : j < n) :
    ∃ k ν, fIxD (.loc l) (.p (.int (i : Int))) μ = some (.loc k, μ) ∧ (∀ δ : Sl, setIxEnd δ μ (.loc k) (.p (.int (j : Int))) (.p (opR o)) = some (.nx, δ, ν)) ∧ Live n0 ν l (tbR n fun a b => if a = i ∧ b = j then o else f a b) ks ∧ ν.length = μ.length ∧ ∀ x, x < n0 → ν[x]? = μ[x]? := by
  obtain ⟨k, hk, hc⟩ := L.get (tbR_get hi)
  refine ⟨k, μ.set k (some (.lst ((rwP n f i).set j (opR o)))), ?_, fun δ => setIxEnd_l hc (by rw [rwP_len]; exact ixN_nat hj), ?_, List.length_set .., fun x hx => ?_⟩
  · unfold fIxD
    rw [items_live L]
    dsimp only
    rw [atI_nat (j := i) (by rw [List.getElem?_map, hk]; rfl)]
    rfl
  · rw [← tbR_set hi hj]
    exact L.set hk _
  · have := L.lo k (List.mem_of_getElem? hk)
    rw [List.getElem?_set_ne (by omega)]
theorem cueR_at (S : Sheet cs) {t : Nat} (h : t < cs.length) : (cs.map Cue.r)[t]? = some (.tup [.int (cPa cs t), rat (cLo cs t), rat (cHi cs t)]) := by
  obtain ⟨c, e, _, e1, e2, e3⟩ := cue_at S (i := (t : Int)) (by omega) (by omega)
  rw [Int.toNat_natCast] at e
  rw [List.getElem?_map, e, e1, e2, e3]
  rfl
theorem bounds_step (S : Sheet cs) (hN : Nok N) (hz : CuesZ N m cs) (hm : m ≤ 6000) {n0 l : Nat} {ks : List Nat} {c0 c3 c8 : Option D} {t : Nat} (h : t < cs.length) (L : Live n0 μ l (tbR (cs.length + 1) (btt cs t)) ks) :
    ∃ ν c8', lb_bounds_0 [c0, some (.p (.int (cs.length : Int))), some (.loc l), c3, some (.p (.int (t : Int))), some (.p (.int (cPa cs t))), some (.p (rat (cLo cs t))), some (.p (rat (cHi cs t))), c8] μ
      = some (.nx, [c0, some (.p (.int (cs.length : Int))), some (.loc l), c3, some (.p (.int (t : Int))), some (.p (.int (cPa cs t))), some (.p (rat (cLo cs t))), some (.p (rat (cHi cs t))), c8'], ν) ∧ Live n0 ν l (tbR (cs.length + 1) (btt cs (t + 1))) ks ∧ ν.length = μ.length ∧ ∀ x, x < n0 → ν[x]? = μ[x]? := by
  have p := pix_r S h
  obtain ⟨k1, ν1, a1, a2, a3, a4, a5⟩ := live_put (o := some (cHi cs t)) (j := pix cs t) L (show t < cs.length + 1 by omega) (by omega)
  obtain ⟨k2, ν2, b1, b2, b3, b4, b5⟩ := live_put (o := some (-cLo cs t)) (i := pix cs t) (j := t) a3 (by omega) (by omega)
  have g1 := fun ν : Mu => o_neg' (μ := ν) ((hz.lo (t : Int)).bz hN (by omega)) (by decide)
  have hpa := pa_lt S (i := (t : Int)) (by omega) (by omega)
  refine ⟨ν2, some (.p (.int (pix cs t : Int))), ?_, ?_, by rw [b4, a4], fun x hx => (b5 x hx).trans (a5 x hx)⟩
  · rw [opR_some] at a2 b2
    have s1 : sSet 8 (evIf (evB (evBin fEq (evV 5) (evUn fNeg (evC (.int 1))))) (evV 1) (evV 5)) [c0, some (.p (.int (cs.length : Int))), some (.loc l), c3, some (.p (.int (t : Int))), some (.p (.int (cPa cs t))), some (.p (rat (cLo cs t))), some (.p (rat (cHi cs t))), c8] μ
        = some (.nx, [c0, some (.p (.int (cs.length : Int))), some (.loc l), c3, some (.p (.int (t : Int))), some (.p (.int (cPa cs t))), some (.p (rat (cLo cs t))), some (.p (rat (cHi cs t))), some (.p (.int (pix cs t : Int)))], μ) := by
      unfold pix
      by_cases q : cPa cs t = -1
      · rw [if_pos q]
        generalize (t : Int) = ti at *
        simp [q]
      · rw [if_neg q, show (((cPa cs t).toNat : Nat) : Int) = cPa cs t by omega]
        generalize (t : Int) = ti at *
        simp [q]
    show seqS _ (seqS _ _) _ μ = _
    rw [seqS_eq, s1, andThen_nx]
    generalize (t : Int) = ti at *
    generalize (pix cs t : Int) = pi at *
    simp [a1, a2, b1, b2, g1]
  · refine (tbR_congr fun a b ha hb => ?_) ▸ b3
    have p3 := p.2.2
    unfold btt
    by_cases q1 : a = pix cs t ∧ b = t
    · rw [if_pos q1]
      obtain ⟨rfl, rfl⟩ := q1
      rw [if_neg, if_pos ⟨by omega, rfl⟩]
      rintro ⟨h1, h2⟩
      by_cases hq : pix cs b < cs.length
      · have := p3 hq
        have := (pix_r S hq).2.2 (by omega)
        omega
      · omega
    · rw [if_neg q1]
      by_cases q2 : a = t ∧ b = pix cs t
      · rw [if_pos q2]
        obtain ⟨rfl, rfl⟩ := q2
        rw [if_pos ⟨by omega, rfl⟩]
      · rw [if_neg q2]
        have e1 : (a < t ∧ pix cs a = b) ↔ (a < t + 1 ∧ pix cs a = b) := by
          constructor
          · exact fun h => ⟨by omega, h.2⟩
          · rintro ⟨h1, h2⟩
            refine ⟨?_, h2⟩
            by_cases e : a = t
            · subst e; exact absurd ⟨rfl, h2.symm⟩ q2
            · omega
        have e2 : (b < t ∧ pix cs b = a) ↔ (b < t + 1 ∧ pix cs b = a) := by
          constructor
          · exact fun h => ⟨by omega, h.2⟩
          · rintro ⟨h1, h2⟩
            refine ⟨?_, h2⟩
            by_cases e : b = t
            · subst e; exact absurd ⟨h2.symm, rfl⟩ q1
            · omega
        simp only [e1, e2]
theorem bounds_loop (S : Sheet cs) (hN : Nok N) (hz : CuesZ N m cs) (hm : m ≤ 6000) {n0 l : Nat} {ks : List Nat} {c0 c3 : Option D} : ∀ (r t : Nat) (μ : Mu) (c4 c5 c6 c7 c8 : Option D), t + r = cs.length → Live n0 μ l (tbR (cs.length + 1) (btt cs t)) ks →
    ∃ ν c4' c5' c6' c7' c8', forL (tgM [(tgN 4), (tgT [5, 6, 7])]) lb_bounds_0 (enumP t ((cs.map Cue.r).drop t)) [c0, some (.p (.int (cs.length : Int))), some (.loc l), c3, c4, c5, c6, c7, c8] μ
      = some (.nx, [c0, some (.p (.int (cs.length : Int))), some (.loc l), c3, c4', c5', c6', c7', c8'], ν) ∧ Live n0 ν l (tbR (cs.length + 1) (btt cs cs.length)) ks ∧ ν.length = μ.length ∧ ∀ x, x < n0 → ν[x]? = μ[x]?
  | 0, t, μ, c4, c5, c6, c7, c8, ht, L => by
    obtain rfl : t = cs.length := by omega
    rw [List.drop_of_length_le (by rw [List.length_map]; omega)]
    exact ⟨μ, c4, c5, c6, c7, c8, rfl, L, rfl, fun _ _ => rfl⟩
  | r + 1, t, μ, c4, c5, c6, c7, c8, ht, L => by
    have h : t < cs.length := by omega
    obtain ⟨ν1, c8a, e1, L1, l1, g1⟩ := bounds_step S hN hz hm (c0 := c0) (c3 := c3) (c8 := c8) h L
    obtain ⟨ν2, d4, d5, d6, d7, d8, e2, L2, l2, g2⟩ := bounds_loop S hN hz hm (c0 := c0) (c3 := c3) r (t + 1) ν1 (some (.p (.int (t : Int)))) (some (.p (.int (cPa cs t)))) (some (.p (rat (cLo cs t)))) (some (.p (rat (cHi cs t)))) c8a (by omega) L1
    refine ⟨ν2, d4, d5, d6, d7, d8, ?_, L2, by rw [l2, l1], fun x hx => (g2 x hx).trans (g1 x hx)⟩
    have e := cueR_at S h
    have hd : (cs.map Cue.r).drop t = .tup [.int (cPa cs t), rat (cLo cs t), rat (cHi cs t)] :: (cs.map Cue.r).drop (t + 1) := by
      rw [List.drop_eq_getElem_cons (by rw [List.length_map]; omega)]
      congr 1
      rw [List.getElem?_eq_getElem (by rw [List.length_map]; omega)] at e
      exact Option.some.inj e
    rw [hd, enumP, forL_nx (δ1 := [c0, some (.p (.int (cs.length : Int))), some (.loc l), c3, some (.p (.int (t : Int))), some (.p (.int (cPa cs t))), some (.p (rat (cLo cs t))), some (.p (rat (cHi cs t))), c8]) rfl e1]
    exact e2
theorem btt_all : tbR (cs.length + 1) (btt cs cs.length) = tbR (cs.length + 1) (bt cs) := rfl
theorem bt_cz (hN : Nok N) (hz : CuesZ N m cs) {n : Nat} : CzT N m n (bt cs) := fun i j hi hj q h => by
  unfold bt at h
  split at h
  · cases h; exact hz.hi _
  · split at h
    · cases h; exact (hz.lo _).neg hN
    · cases h
theorem rows_non {n i : Nat} : rwP n (btt cs 0) i = (List.replicate n [P.non]).flatten := by
  apply List.ext_getElem?
  intro j
  have e : ∀ k : Nat, (List.replicate k [P.non]).flatten = List.replicate k P.non := fun k => by
    induction k with
    | zero => rfl
    | succ k ih => rw [List.replicate_succ, List.flatten_cons, ih, List.replicate_succ]; rfl
  rw [e]
  by_cases hj : j < n
  · rw [rwP_get hj, List.getElem?_replicate, if_pos hj]
    simp [btt]
  · rw [List.getElem?_eq_none (by rw [rwP_len]; omega), List.getElem?_eq_none (by simp; omega)]
theorem rep_nons {ζ : Mu} {i : Int} (k : Nat) (hi : i = (k : Int)) (h : k ≤ 1000) : fRepC (.p (.lst [.non])) (.p (.int i)) ζ = some (.loc ζ.length, ζ ++ [some (.lst (List.replicate k [P.non]).flatten)]) := by
  have hk : i.toNat = k := by omega
  have h3 : [P.non].length * i.toNat ≤ sizeLine := by
    rw [hk]
    show 1 * k ≤ _
    rw [Nat.one_mul]
    exact line_n h
  have h2 : i < 2 ^ 63 := by omega
  have h1 : 0 ≤ i := by omega
  unfold fRepC
  dsimp only
  rw [if_pos ⟨h1, h2, h3⟩, hk]
theorem bounds_rng {d : Option D} {c2 c3 c4 c5 c6 c7 c8 : Option D} (k : Nat) {i : Int} (hi : i + 1 = (k : Int)) (h : k < 1000) : evRng1 (evBin fAdd (evV 1) (evC (.int 1))) [d, some (.p (.int i)), c2, c3, c4, c5, c6, c7, c8] μ = some (.ok ((List.range k).map fun (i : Nat) => P.int (i : Int)), μ) := by
  rw [← ints_eq]
  refine rng_n k ?_ h
  rw [← hi, evBin_eq, evV_1, bindG_ok, evC_eq, bindG_ok]
  rfl
theorem bounds_row {d : Option D} {c2 c3 c4 c5 c6 c7 c8 : Option D} (k : Nat) {i : Int} (hi : i + 1 = (k : Int)) (h : k ≤ 1000) : evBin fRepC (evLst (evCons (evC .non) evNil)) (evBin fAdd (evV 1) (evC (.int 1))) [d, some (.p (.int i)), c2, c3, c4, c5, c6, c7, c8] μ = some (.ok (.loc μ.length), μ ++ [some (.lst (List.replicate k [P.non]).flatten)]) := by
  have g := rep_nons (ζ := μ) k hi h
  have e : evBin fAdd (evV 1) (evC (.int 1)) [d, some (.p (.int i)), c2, c3, c4, c5, c6, c7, c8] μ = some (.ok (.p (.int (i + 1))), μ) := rfl
  have e2 : evLst (evCons (evC .non) evNil) [d, some (.p (.int i)), c2, c3, c4, c5, c6, c7, c8] μ = some (.ok (.p (.lst [.non])), μ) := by simp
  rw [evBin_eq, e2, bindG_ok, e, bindG_ok, g]
  rfl
theorem bounds_made (cs : List Cue) (k : Nat) {i : Int} (hi : i + 1 = (k : Int)) (hk : k ≤ 900) {d : Option D} {c2 c3 c4 c5 c6 c7 c8 : Option D} : ∃ μ1 l1 ks1, evLcD (evUpI (evRng1 (evBin fAdd (evV 1) (evC (.int 1))))) (tgUp (tgN 3)) evTrue (evBin fRepC (evLst (evCons (evC .non) evNil)) (evBin fAdd (evV 1) (evC (.int 1)))) [3] [d, some (.p (.int i)), c2, c3, c4, c5, c6, c7, c8] μ = some (.ok (.loc l1), μ1) ∧ Ext μ μ1 ∧ Live μ.length μ1 l1 (tbR k (btt cs 0)) ks1 :=
  lcD_map (it := evUpI (evRng1 (evBin fAdd (evV 1) (evC (.int 1))))) (ts := tgUp (tgN 3)) (vs := [3]) (gd := none) (ν := μ) (μ := μ)
    (δ := [d, some (.p (.int i)), c2, c3, c4, c5, c6, c7, c8]) (e := evBin fRepC (evLst (evCons (evC .non) evNil)) (evBin fAdd (evV 1) (evC (.int 1))))
    (as := List.range k) (fun (a : Nat) => .one (.p (.int (a : Int)))) (fun a => rwP k (btt cs 0) a) (by rw [evUpI_eq, bounds_rng k hi (by omega), bindG_ok, List.map_map]; rfl) trivial (fun a ha => ⟨_, rfl, fun ξ _ => by
      rw [rows_non]
      exact bounds_row (μ := ξ) k hi (by omega)⟩) (by simpa using line_n (by omega))
theorem ev_bounds (S : Sheet cs) (hN : Nok N) (hz : CuesZ N m cs) (hm : m ≤ 6000) : ∃ μ' l ks, m_bounds [.p (shR cs)] μ = some (.ok (.loc l), μ') ∧ Ext μ μ' ∧ Live μ.length μ' l (tbR (cs.length + 1) (Gt cs)) ks := by
  have hlen := S.len
  have hl : ∀ ν : Mu, fLen [.p (shR cs)] ν = some (.p (.int (cs.length : Int)), ν) := fun ν => by
    show some (D.p (.int ((cs.map Cue.r).length : Int)), ν) = _
    rw [List.length_map]
  have s1 : sSet 1 (evBI fLen (evCons (evV 0) evNil)) [some (.p (shR cs)), none, none, none, none, none, none, none, none] μ = some (.nx, [some (.p (shR cs)), some (.p (.int (cs.length : Int))), none, none, none, none, none, none, none], μ) := by simp [hl]
  obtain ⟨μ1, l1, ks1, e2, x2, L2⟩ := bounds_made (μ := μ) cs (cs.length + 1) (i := (cs.length : Int)) (by omega) (by omega) (d := some (.p (shR cs))) (c2 := none) (c3 := none) (c4 := none) (c5 := none) (c6 := none) (c7 := none) (c8 := none)
  obtain ⟨μ2, c4, c5, c6, c7, c8, e3, L3, l3, g3⟩ := bounds_loop S hN hz hm (c0 := some (.p (shR cs))) (c3 := none) cs.length 0 μ1 none none none none none (by omega) L2
  rw [btt_all] at L3
  have x3 : Ext μ μ2 := ⟨by rw [l3]; exact x2.len, fun j hj => (g3 j hj).trans (x2.get j hj)⟩
  obtain ⟨μ3, e4, l4, g4⟩ := frz_live L3
  have x4 : Ext μ μ3 := ⟨by rw [l4]; exact x3.len, fun j hj => (g4 j hj).trans (x3.get j hj)⟩
  have hcl := ev_closed (μ := μ3) hN (n := cs.length + 1) (by omega) (bt_cz hN hz) (by omega)
  obtain ⟨g, hg, he⟩ := fw_bt S
  rw [hg] at hcl
  obtain ⟨μ4, l, ks, e5, x5, L5⟩ := hcl
  rw [tbR_congr he] at L5
  refine ⟨μ4, l, ks, ?_, x4.trans x5, L5.le x4.len⟩
  have s2 : sSet 2 (evLcD (evUpI (evRng1 (evBin fAdd (evV 1) (evC (.int 1))))) (tgUp (tgN 3)) evTrue (evBin fRepC (evLst (evCons (evC .non) evNil)) (evBin fAdd (evV 1) (evC (.int 1)))) [3]) [some (.p (shR cs)), some (.p (.int (cs.length : Int))), none, none, none, none, none, none, none] μ
      = some (.nx, [some (.p (shR cs)), some (.p (.int (cs.length : Int))), some (.loc l1), none, none, none, none, none, none], μ1) := by
    rw [sSet_eq, e2, bindS_ok]; rfl
  have hen : evEnumT (evCons (evV 0) evNil) [some (.p (shR cs)), some (.p (.int (cs.length : Int))), some (.loc l1), none, none, none, none, none, none] μ1 = some (.ok (enumP 0 ((cs.map Cue.r).drop 0)), μ1) := rfl
  have e4' : frzD μ2 (.loc l1) = some (tbP (cs.length + 1) (bt cs), μ3) := e4
  have s4 : sv_bounds [some (.p (shR cs)), none, none, none, none, none, none, none, none] μ = some (.ret (.loc l), [some (.p (shR cs)), some (.p (.int (cs.length : Int))), some (.loc l1), none, c4, c5, c6, c7, c8], μ4) := by
    show seqS _ (seqS _ (seqS (sFor (evEnumT (evCons (evV 0) evNil)) (tgM [(tgN 4), (tgT [5, 6, 7])]) lb_bounds_0) (sRet (evCall m_closed [] (evCons (evFrz (evV 2)) evNil))))) _ μ = _
    rw [seqS_eq, s1, andThen_nx, seqS_eq, s2, andThen_nx, seqS_eq, sFor_eq, hen, bindS_ok, e3, andThen_nx, sRet_eq, evCall_eq, evCons_eq, evFrz_eq, evV_2, bindG_ok, e4', frzEnd_some, bindG_ok, evNil_eq, bindG_ok, bindG_ok]
    show bindS (m_closed [.p (tbP (cs.length + 1) (bt cs))] μ3) _ _ = _
    rw [e5, bindS_ok]
  show (if [D.p (shR cs)].length = 1 then bodySemK 9 sv_bounds [.p (shR cs)] μ else none) = _
  rw [if_pos (show [D.p (shR cs)].length = 1 from rfl), bodySemK_eq]
  show retK (sv_bounds [some (.p (shR cs)), none, none, none, none, none, none, none, none] μ) = _
  rw [s4, retK_ret]
end
end Vs
/-! Closed tables: potentials, one more condition. -/
namespace Vs
section
variable {n : Nat} {f g h T : Tf}
/-- times that keep all bounds: no way is less than 0 -/
theorem walk_pot {τ : Nat → Rat} (hp : ∀ i j x, i < n → j < n → T i j = some x → τ i - τ j ≤ x) {m i j : Nat} {w : Rat} (h : Wk n T m i j w) : τ i - τ j ≤ w := by
  induction h with
  | nil _ => grind
  | cons h1 h2 h3 ih =>
    have := hp _ _ _ h1 h3.lt h2
    grind
theorem nn_pot {τ : Nat → Rat} (hp : ∀ i j x, i < n → j < n → T i j = some x → τ i - τ j ≤ x) : NN n T := fun m i w h => by
  have := walk_pot hp h
  grind
theorem Cl.edge (C : Cl n T h) {i j : Nat} {x : Rat} (hi : i < n) (hj : j < n) (e : T i j = some x) : ole (h i j) x := C.low _ _ _ _ (Wk.one hi hj e)
theorem Cl.tri (C : Cl n T h) {i j k : Nat} {x y : Rat} (hi : i < n) (hj : j < n) (hk : k < n) (h1 : h i k = some x) (h2 : h k j = some y) : ole (h i j) (x + y) := by
  obtain ⟨m, w1⟩ := C.snd i k x hi hk h1
  obtain ⟨m', w2⟩ := C.snd k j y hk hj h2
  exact C.low _ _ _ _ (w1.app w2)
theorem Cl.diag (C : Cl n T h) (nn : NN n T) {i : Nat} (hi : i < n) : h i i = some 0 := by
  obtain ⟨x, e, l⟩ := C.low _ _ _ _ (Wk.nil (f := T) hi)
  obtain ⟨m, w⟩ := C.snd i i x hi hi e
  have := nn _ _ _ w
  rw [e]
  congr 1
  grind
theorem cl_mk (s : ∀ i j x, i < n → j < n → g i j = some x → ∃ m w, Wk n f m i j w ∧ w ≤ x) (l : ∀ m i j w, Wk n f m i j w → ole (g i j) w) : Cl n f g := ⟨fun i j x hi hj e => by
  obtain ⟨m, w, h1, h2⟩ := s i j x hi hj e
  obtain ⟨y, e2, l2⟩ := l _ _ _ _ h1
  rw [e] at e2
  cases e2
  have : w = x := by grind
  subst this
  exact ⟨m, h1⟩, l⟩
/-- a closed table: 0 on its own diagonal, no entry greater than by way of another -/
structure Clo (n : Nat) (g : Tf) : Prop where
  diag : ∀ i, i < n → g i i = some 0
  tri : ∀ i j k x y, i < n → j < n → k < n → g i k = some x → g k j = some y → ole (g i j) (x + y)
theorem Cl.clo (C : Cl n T h) (nn : NN n T) : Clo n h := ⟨fun i hi => C.diag nn hi, fun i j k x y hi hj hk => C.tri hi hj hk⟩
theorem Fin.clo (F : Fin n T h) : Clo n h := F.cl.clo F.nn'
theorem Clo.congr (C : Clo n g) (e : ∀ i j, i < n → j < n → g i j = h i j) : Clo n h :=
  ⟨fun i hi => by rw [← e i i hi hi]; exact C.diag i hi, fun i j k x y hi hj hk h1 h2 => by rw [← e i j hi hj]; exact C.tri i j k x y hi hj hk (by rw [e i k hi hk]; exact h1) (by rw [e k j hk hj]; exact h2)⟩
/-- a walk in a closed table is not less than the entry -/
theorem Clo.walk (C : Clo n g) {m i j : Nat} {w : Rat} (h : Wk n g m i j w) : ole (g i j) w := by
  induction h with
  | nil h => exact ⟨0, C.diag _ h, by grind⟩
  | cons h1 h2 h3 ih =>
    obtain ⟨y, e, l⟩ := ih
    exact (C.tri _ _ _ _ _ h1 h3.lt2 h3.lt h2 e).le (by grind)
theorem Clo.self (C : Clo n g) : Cl n g g := ⟨fun i j x hi hj e => ⟨1, Wk.one hi hj e⟩, fun m i j w h => C.walk h⟩
theorem Clo.nn (C : Clo n g) : NN n g := fun m i w h => by
  obtain ⟨x, e, l⟩ := C.walk h
  rw [C.diag i h.lt] at e
  cases e
  grind
/-- the program's closing of a table that can be closed -/
theorem fw_nn (nn : NN n T) : ∃ g, fw n T = some g ∧ Fin n T g := by
  have h := fw_ok (n := n) (f := T)
  cases e : fw n T with
  | none =>
    rw [e] at h
    obtain ⟨m, i, w, h1, h2⟩ := h
    have := nn _ _ _ h1
    grind
  | some g =>
    rw [e] at h
    exact ⟨g, rfl, h⟩
/-- closed again, a closed table is the same -/
theorem fw_clo (C : Clo n g) : ∃ k, fw n g = some k ∧ ∀ i j, i < n → j < n → k i j = g i j := by
  obtain ⟨k, e, F⟩ := fw_nn C.nn
  exact ⟨k, e, fun i j hi hj => F.cl.unique C.self hi hj⟩
/-- the entry (a, b) is c, or what it was if that is less -/
def low (g : Tf) (a b : Nat) (c : Rat) : Tf := fun i j => if i = a ∧ j = b then omin (g i j) (some c) else g i j
/-- .. is o -/
def put (g : Tf) (a b : Nat) (o : Option Rat) : Tf := fun i j => if i = a ∧ j = b then o else g i j
theorem low_put {a b : Nat} {c : Rat} : low g a b c = put g a b (omin (g a b) (some c)) := by
  funext i j
  unfold low put
  split
  · rename_i q; obtain ⟨rfl, rfl⟩ := q; rfl
  · rfl
theorem low_le {a b i j : Nat} {c x : Rat} (e : g i j = some x) : ole (low g a b c i j) x := by
  unfold low
  split
  · exact ole_omin_l ⟨x, e, by grind⟩
  · exact ⟨x, e, by grind⟩
theorem low_at {a b : Nat} {c : Rat} : ole (low g a b c a b) c := by
  unfold low
  rw [if_pos ⟨rfl, rfl⟩]
  exact ole_omin_r ⟨c, rfl, by grind⟩
theorem low_or {a b i j : Nat} {c x : Rat} (e : low g a b c i j = some x) : g i j = some x ∨ (i = a ∧ j = b ∧ x = c) := by
  unfold low at e
  split at e
  · rename_i q
    rcases omin_or e with e | e
    · exact .inl e
    · cases e; exact .inr ⟨q.1, q.2, rfl⟩
  · exact .inl e
/-- what with_bound makes -/
def wb (g : Tf) (a b : Nat) (c : Rat) : Tf := bw g a b (some c)
theorem wb_via {a b i j : Nat} {c x y : Rat} (h1 : g i a = some x) (h2 : g b j = some y) : ole (wb g a b c i j) (x + c + y) := by
  refine ole_omin_r ⟨x + (c + y), ?_, by grind⟩
  rw [h1, h2]; rfl
theorem wb_or {a b i j : Nat} {c z : Rat} (h : wb g a b c i j = some z) : g i j = some z ∨ ∃ x y, g i a = some x ∧ g b j = some y ∧ z = x + c + y := by
  rcases omin_or h with h | h
  · exact .inl h
  · obtain ⟨x, y, h1, h2, rfl⟩ := osum_some h
    obtain ⟨u, v, h3, h4, rfl⟩ := osum_some h2
    cases h3
    exact .inr ⟨x, v, h1, h4, by grind⟩
theorem wb_le {a b i j : Nat} {c x : Rat} (e : g i j = some x) : ole (wb g a b c i j) x := ole_omin_l ⟨x, e, by grind⟩
/-- nothing keeps the condition -/
theorem low_neg {a b : Nat} {c x : Rat} (ha : a < n) (hb : b < n) (e : g b a = some x) (hx : x + c < 0) (hab : a ≠ b ∨ g a a = some 0) : ∃ m i w, Wk n (low g a b c) m i i w ∧ w < 0 := by
  obtain ⟨y, e1, l1⟩ := low_at (g := g) (a := a) (b := b) (c := c)
  obtain ⟨z, e2, l2⟩ := low_le (a := a) (b := b) (c := c) e
  exact ⟨2, a, _, (Wk.one ha hb e1).app (Wk.one hb ha e2), by grind⟩
/-- with_bound of a closed table is the closing with the condition -/
theorem wb_cl (C : Clo n g) {a b : Nat} {c : Rat} (ha : a < n) (hb : b < n) (hc : ∀ x, g b a = some x → 0 ≤ x + c) : Cl n (low g a b c) (wb g a b c) ∧ NN n (low g a b c) ∧ Clo n (wb g a b c) := by
  have nnd : ∀ i z, i < n → wb g a b c i i = some z → 0 ≤ z := fun i z hi h => by
    rcases wb_or h with h | ⟨x, y, h1, h2, rfl⟩
    · rw [C.diag i hi] at h; cases h; grind
    · obtain ⟨u, e, l⟩ := C.tri b a i y x hb ha hi h2 h1
      have := hc u e
      grind
  have tri : ∀ i j k x y, i < n → j < n → k < n → wb g a b c i k = some x → wb g a b c k j = some y → ole (wb g a b c i j) (x + y) := fun i j k x y hi hj hk h1 h2 => by
    rcases wb_or h1 with h1 | ⟨x1, x2, h3, h4, rfl⟩ <;> rcases wb_or h2 with h2 | ⟨y1, y2, h5, h6, rfl⟩
    · obtain ⟨u, e, l⟩ := C.tri i j k x y hi hj hk h1 h2
      exact (wb_le e).le l
    · obtain ⟨u, e, l⟩ := C.tri i a k x y1 hi ha hk h1 h5
      exact (wb_via e h6).le (by grind)
    · obtain ⟨u, e, l⟩ := C.tri b j k x2 y hb hj hk h4 h2
      exact (wb_via h3 e).le (by grind)
    · obtain ⟨u, e, l⟩ := C.tri b a k x2 y1 hb ha hk h4 h5
      have := hc u e
      exact (wb_via h3 h6).le (by grind)
  have diag : ∀ i, i < n → wb g a b c i i = some 0 := fun i hi => by
    obtain ⟨z, e, l⟩ := wb_le (g := g) (a := a) (b := b) (c := c) (C.diag i hi)
    have := nnd i z hi e
    rw [e]
    congr 1
    grind
  have W : Clo n (wb g a b c) := ⟨diag, tri⟩
  have edge : ∀ i j x, i < n → j < n → low g a b c i j = some x → ole (wb g a b c i j) x := fun i j x hi hj e => by
    rcases low_or e with e | ⟨rfl, rfl, rfl⟩
    · exact wb_le e
    · exact (wb_via (C.diag i hi) (C.diag j hj)).le (by grind)
  have lowW : ∀ m i j w, Wk n (low g a b c) m i j w → ole (wb g a b c i j) w := fun m i j w h => by
    induction h with
    | nil h => exact ⟨0, diag _ h, by grind⟩
    | cons h1 h2 h3 ih =>
      obtain ⟨x, e1, l1⟩ := edge _ _ _ h1 h3.lt h2
      obtain ⟨y, e2, l2⟩ := ih
      exact (tri _ _ _ _ _ h1 h3.lt2 h3.lt e1 e2).le (by grind)
  have eg : ∀ i j x, i < n → j < n → g i j = some x → ∃ w, Wk n (low g a b c) 1 i j w ∧ w ≤ x := fun i j x hi hj e => by
    obtain ⟨w, e1, l1⟩ := low_le (a := a) (b := b) (c := c) e
    exact ⟨w, Wk.one hi hj e1, l1⟩
  refine ⟨cl_mk (fun i j x hi hj e => ?_) lowW, fun m i w h => ?_, W⟩
  · rcases wb_or e with e | ⟨x1, x2, h1, h2, rfl⟩
    · obtain ⟨w, w1, l1⟩ := eg i j x hi hj e
      exact ⟨1, w, w1, l1⟩
    · obtain ⟨w1, k1, l1⟩ := eg i a x1 hi ha h1
      obtain ⟨w2, k2, l2⟩ := eg b j x2 hb hj h2
      obtain ⟨w3, k3, l3⟩ := low_at (g := g) (a := a) (b := b) (c := c)
      exact ⟨1 + 1 + 1, _, (k1.app (Wk.one ha hb k3)).app k2, by grind⟩
  obtain ⟨x, e, l⟩ := lowW _ _ _ _ h
  rw [diag i h.lt] at e
  cases e
  grind
/-- the law's closing with a condition, of a closed table -/
theorem bf_low (C : Clo n g) {a b : Nat} {c : Rat} (ha : a < n) (hb : b < n) :
    (∃ x, g b a = some x ∧ x + c < 0 ∧ bfT n (low g a b c) = none) ∨ ((∀ x, g b a = some x → 0 ≤ x + c) ∧ ∃ h, bfT n (low g a b c) = some h ∧ Clo n h ∧ ∀ i j, i < n → j < n → wb g a b c i j = h i j) := by
  by_cases q : ∃ x, g b a = some x ∧ x + c < 0
  · obtain ⟨x, e, l⟩ := q
    by_cases hab : a = b
    · subst hab
      rw [C.diag a ha] at e
      cases e
      refine .inl ⟨0, C.diag a ha, l, bf_neg (m := 1) (i := a) (w := c) (Wk.one ha ha ?_) (by grind)⟩
      unfold low
      rw [if_pos ⟨rfl, rfl⟩, C.diag a ha]
      show some (if c < 0 then c else 0) = some c
      rw [if_pos (by grind)]
    · obtain ⟨m, i, w, h1, h2⟩ := low_neg ha hb e l (.inl hab)
      exact .inl ⟨x, e, l, bf_neg h1 h2⟩
  · have hc : ∀ x, g b a = some x → 0 ≤ x + c := fun x e => by
      have : ¬ x + c < 0 := fun l => q ⟨x, e, l⟩
      grind
    obtain ⟨w1, w2, w3⟩ := wb_cl C ha hb hc
    obtain ⟨h, e, h2⟩ := bf_nn w2
    exact .inr ⟨hc, h, e, h2.clo w2, fun i j hi hj => w1.unique h2 hi hj⟩
/-- a table of numbers alone -/
def allS (K : Nat → Nat → Rat) : Tf := fun i j => some (K i j)
structure Kt (n : Nat) (K : Nat → Nat → Rat) : Prop where
  diag : ∀ i, i < n → K i i = 0
  tri : ∀ i j k, i < n → j < n → k < n → K i j ≤ K i k + K k j
theorem Kt.clo {K : Nat → Nat → Rat} (h : Kt n K) : Clo n (allS K) := ⟨fun i hi => by show some (K i i) = some 0; rw [h.diag i hi], fun i j k x y hi hj hk h1 h2 => by
  cases h1
  cases h2
  exact ⟨_, rfl, h.tri i j k hi hj hk⟩⟩
theorem Clo.kt {K : Nat → Nat → Rat} (h : Clo n (allS K)) : Kt n K := ⟨fun i hi => by have := h.diag i hi; exact Option.some.inj this, fun i j k hi hj hk => by
  obtain ⟨x, e, l⟩ := h.tri i j k _ _ hi hj hk rfl rfl
  cases e
  exact l⟩
/-- closing a table of numbers that can be closed -/
theorem bf_kt {K : Nat → Nat → Rat} (nn : NN n (allS K)) : ∃ (h : Tf) (L : Nat → Nat → Rat), bfT n (allS K) = some h ∧ (∀ i j, i < n → j < n → h i j = some (L i j)) ∧ Kt n L ∧ ∀ i j, i < n → j < n → L i j ≤ K i j := by
  obtain ⟨h, e, C⟩ := bf_nn nn
  have all : ∀ i j, i < n → j < n → ∃ x, h i j = some x ∧ x ≤ K i j := fun i j hi hj => C.edge hi hj rfl
  let L : Nat → Nat → Rat := fun i j => (h i j).getD 0
  have hL : ∀ i j, i < n → j < n → h i j = some (L i j) := fun i j hi hj => by
    obtain ⟨x, e, _⟩ := all i j hi hj
    show h i j = some ((h i j).getD 0)
    rw [e]; rfl
  refine ⟨h, L, e, hL, ((C.clo nn).congr hL).kt, fun i j hi hj => ?_⟩
  obtain ⟨x, e, l⟩ := all i j hi hj
  show (h i j).getD 0 ≤ _
  rw [e]
  exact l
theorem Kt.nn_pos {K : Nat → Nat → Rat} (h : Kt n K) {i j : Nat} (hi : i < n) (hj : j < n) : 0 ≤ K i j + K j i := by
  have := h.tri i i j hi hi hj
  rw [h.diag i hi] at this
  exact this
end
end Vs
/-! A closed table of numbers, made tighter at one entry. -/
namespace Vs
open PySem PySem.Spec PyProof.Rows L2
section
variable {μ ν : Mu} {N m n k : Nat} {f g : Tf}
theorem Cz.scale {q : Rat} {d b : Nat} (h : Cz N m q) (hd : 0 < d) (hb : d ≤ 2 ^ b) : Cz (N * d) (m + b + 1) q := by
  obtain ⟨t, rfl, ht⟩ := h
  have hd0 : (d : Int) ≠ 0 := by omega
  have hz : Sz (b + 1) (d : Int) := by
    unfold Sz
    rw [Int.natAbs_natCast]
    exact Nat.lt_of_le_of_lt hb (Nat.pow_lt_pow_right (by decide) (by omega))
  refine ⟨t * (d : Int), ?_, (ht.mul hz).mono (by omega)⟩
  rw [Int.natCast_mul, Rat.divInt_mul_right hd0]
theorem CzO.scale {o : Option Rat} {d b : Nat} (h : CzO N m o) (hd : 0 < d) (hb : d ≤ 2 ^ b) : CzO (N * d) (m + b + 1) o := fun q e => (h q e).scale hd hb
/-- u + x * d / 4 -/
theorem cz4 {u x : Rat} {d : Int} (hN : 0 < N) (hu : Cz N m u) (hx : Cz N m x) (h0 : 0 ≤ d) (h5 : d < 8) : Cz (N * 4) (m + 5) (u + x * (d : Rat) / 4) := by
  obtain ⟨t, rfl, ht⟩ := hu
  obtain ⟨s, rfl, hs⟩ := hx
  have n0 : (N : Int) ≠ 0 := by omega
  have n4 : ((N * 4 : Nat) : Int) = (N : Int) * 4 := by omega
  have z8 : Sz 3 d := by unfold Sz; omega
  refine ⟨t * 4 + s * d, ?_, ((ht.mul (show Sz 3 4 by unfold Sz; decide)).add (hs.mul z8)).mono (by omega)⟩
  have e1 : (d : Rat) = Rat.divInt d 1 := (Rat.num_divInt_den (d : Rat)).symm
  have e4 : (4 : Rat) = Rat.divInt 4 1 := (Rat.num_divInt_den (4 : Rat)).symm
  have e2 : Rat.divInt s (N : Int) * (d : Rat) / 4 = Rat.divInt (s * d) ((N : Int) * 4) := by
    rw [e1, Rat.divInt_mul_divInt, Int.mul_one]
    rw [Rat.div_def, e4, Rat.inv_divInt, Rat.divInt_mul_divInt, Int.mul_one]
  have e3 : Rat.divInt t (N : Int) = Rat.divInt (t * 4) ((N : Int) * 4) := (Rat.divInt_mul_right (by decide)).symm
  have h4 : (N : Int) * 4 ≠ 0 := by omega
  rw [e2, e3, n4, Rat.divInt_add_divInt _ _ h4 h4, ← Int.add_mul, Rat.divInt_mul_right h4]
theorem nok4 (hN : Nok N) (h : N < 2 ^ 2990) : Nok (N * 4) := ⟨by have := hN.pos; omega, by
  have : N * 4 < 2 ^ 2990 * 2 ^ 2 := by omega
  rw [← Nat.pow_add] at this
  exact Nat.lt_of_lt_of_le this (Nat.pow_le_pow_right (by decide) (by decide))⟩
theorem bfI_cz (hN : Nok N) (hS : CzT N m n f) : ∀ (r k : Nat) (fd : Tf), m ≤ k → CzT N k n fd → CzT N (k + r) n (bfI n f r fd)
  | 0, k, fd, hk, h => h
  | r + 1, k, fd, hk, h => by
    have := bfI_cz hN hS r (k + 1) _ (by omega) (nxt_cz hN h (hS.mono hk))
    rwa [show k + 1 + r = k + (r + 1) by omega] at this
theorem bfT_cz (hN : Nok N) (h : CzT N m n f) (e : bfT n f = some g) : CzT N (m + n) n g := by
  unfold bfT at e
  split at e
  · cases e
  · cases e
    exact bfI_cz hN h.f0 n m _ (Nat.le_refl _) h.f0
theorem tbQ_set {i j : Nat} {o : Option Rat} (hi : i < n) (hj : j < n) : (tbQ n f).set i ((rwQ n (f i)).set j (opQ o)) = tbQ n (put f i j o) := by
  apply List.ext_getElem?
  intro a
  by_cases ha : a < n
  · rw [tbQ_get ha]
    by_cases q : i = a
    · subst q
      rw [List.getElem?_set_self (by rw [tbQ_len]; exact ha), rwQ_set hj]
      congr 1
      refine rwQ_congr fun b _ => ?_
      simp [upr, put]
    · have q3 : ¬ a = i := fun z => q z.symm
      rw [List.getElem?_set_ne q, tbQ_get ha]
      congr 1
      refine rwQ_congr fun b _ => ?_
      simp [put, q3]
  · rw [List.getElem?_eq_none (by rw [List.length_set, tbQ_len]; omega), List.getElem?_eq_none (by rw [tbQ_len]; omega)]
theorem live_putQ {n0 l i j : Nat} {ks : List Nat} {o : Option Rat} (L : Live n0 μ l (tbQ n f) ks) (hi : i < n) (hj : j < n) :
    ∃ k ν, fIxD (.loc l) (.p (.int (i : Int))) μ = some (.loc k, μ) ∧ μ[k]? = some (some (.lst (rwQ n (f i)))) ∧ (∀ δ : Sl, setIxEnd δ μ (.loc k) (.p (.int (j : Int))) (.p (opQ o)) = some (.nx, δ, ν)) ∧ Live n0 ν l (tbQ n (put f i j o)) ks ∧ ν.length = μ.length ∧ ∀ x, x < n0 → ν[x]? = μ[x]? := by
  obtain ⟨k, hk, hc⟩ := L.get (tbQ_get hi)
  refine ⟨k, μ.set k (some (.lst ((rwQ n (f i)).set j (opQ o)))), ?_, hc, fun δ => setIxEnd_l hc (by rw [rwQ_len]; exact ixN_nat hj), ?_, List.length_set .., fun x hx => ?_⟩
  · unfold fIxD
    rw [items_live L]
    dsimp only
    rw [atI_nat (j := i) (by rw [List.getElem?_map, hk]; rfl)]
    rfl
  · rw [← tbQ_set hi hj]
    exact L.set hk _
  · have := L.lo k (List.mem_of_getElem? hk)
    rw [List.getElem?_set_ne (by omega)]
theorem Live.head {n0 l : Nat} {o o' : Option MO} {r : Mu} {Rs : List (List P)} {ks : List Nat} (L : Live n0 (o :: r) l Rs ks) (h : 1 ≤ n0) : Live n0 (o' :: r) l Rs ks := by
  have e : ∀ x : Nat, n0 ≤ x → (o' :: r)[x]? = (o :: r)[x]? := fun x hx => by
    obtain ⟨y, rfl⟩ : ∃ y, x = y + 1 := ⟨x - 1, by omega⟩
    rfl
  exact ⟨L.len, L.pw, L.lo, L.hi, L.l0, (e l L.l0).trans L.at', fun i k R h1 h2 => (e k (L.lo k (List.mem_of_getElem? h1))).trans (L.row i k R h1 h2)⟩
theorem Ext.head {o : Option MO} {r ν : Mu} (e : Ext (o :: r) ν) : ∃ r', ν = o :: r' := by
  have h := e.get 0 (by simp)
  cases ν with
  | nil => simp at h
  | cons x r' => simp at h; exact ⟨r', by rw [h]⟩
/-- tried = [list(row) for row in known] -/
theorem ev_tried {δ : Sl} {kn rw' : Nat} {vs : List Nat} (hvs : vs = [rw']) (hk : δ[kn]? = some (some (.p (tqP n f)))) (hn : n ≤ 100) (hr : rw' < δ.length) :
    ∃ μ' l ks, evLcD (evUpI (evIt (evV kn))) (tgUp (tgN rw')) evTrue (evBI fListC (evCons (evV rw') evNil)) vs δ μ = some (.ok (.loc l), μ') ∧ Ext μ μ' ∧ Live μ.length μ' l (tbQ n f) ks := by
  subst hvs
  refine lcD_map (as := List.range n) (gd := none) (ν := μ) (fun a => .one (.p (.lst (rwQ n (f a))))) (fun a => rwQ n (f a)) ?_ trivial (fun a ha => ?_) (by simpa using line_n (by omega))
  · have : evIt (evV kn) δ μ = some (.ok ((List.range n).map fun a => .lst (rwQ n (f a))), μ) := by
      unfold evIt
      rw [evV_at hk, bindG_ok]
      show some (Out.ok ((tbQ n f).map P.lst), μ) = _
      unfold tbQ
      rw [List.map_map]
      rfl
    rw [evUpI_eq, this, bindG_ok, List.map_map]
    rfl
  · refine ⟨_, rfl, fun ξ _ => ?_⟩
    have e : evV rw' ((wipeS δ [rw']).set rw' (some (.p (.lst (rwQ n (f a)))))) ξ = some (.ok (.p (.lst (rwQ n (f a)))), ξ) := evV_at (by rw [wipeS_cons, wipeS_nil, List.getElem?_set_self (by rw [List.length_set]; exact hr)])
    rw [evBI_eq, evCons_eq, e, bindG_ok, evNil_eq, bindG_ok, bindG_ok]
    rfl
/-! ### one entry made less, between what is possible -/
def tgt (K : Nat → Nat → Rat) (a b : Nat) (d : Int) : Rat := -K b a + (K a b + - -K b a) * (d : Rat) / 4
theorem tgt_r {K : Nat → Nat → Rat} (h : Kt n K) {a b : Nat} (ha : a < n) (hb : b < n) {d : Int} (h0 : 0 ≤ d) (h4 : d ≤ 4) : -K b a ≤ tgt K a b d ∧ tgt K a b d ≤ K a b := by
  have hp := h.nn_pos ha hb
  unfold tgt
  have hd : d = 0 ∨ d = 1 ∨ d = 2 ∨ d = 3 ∨ d = 4 := by omega
  rcases hd with rfl | rfl | rfl | rfl | rfl <;> (simp only [Rat.intCast_ofNat]; constructor <;> grind)
def putK (K : Nat → Nat → Rat) (a b : Nat) (c : Rat) : Nat → Nat → Rat := fun i j => if i = a ∧ j = b then c else K i j
theorem put_all {K : Nat → Nat → Rat} {a b : Nat} {c : Rat} : put (allS K) a b (some c) = allS (putK K a b c) := by
  funext i j
  unfold put allS putK
  split <;> rfl
theorem tight_nn {K : Nat → Nat → Rat} (h : Kt n K) {a b : Nat} {c : Rat} (ha : a < n) (hb : b < n) (hc : -K b a ≤ c) : NN n (allS (putK K a b c)) := by
  refine nn_pot (τ := fun i => K i a) fun i j x hi hj e => ?_
  cases e
  unfold putK
  split
  · rename_i q
    obtain ⟨rfl, rfl⟩ := q
    rw [h.diag _ hi]
    grind
  · have := h.tri i a j hi ha hj
    grind
theorem tight {K : Nat → Nat → Rat} (h : Kt n K) {a b : Nat} {c : Rat} (ha : a < n) (hb : b < n) (hc : -K b a ≤ c) (hc2 : c ≤ K a b) : ∃ (hh : Tf) (L : Nat → Nat → Rat), bfT n (allS (putK K a b c)) = some hh ∧ (∀ i j, i < n → j < n → hh i j = some (L i j)) ∧ Kt n L ∧ ∀ i j, i < n → j < n → L i j ≤ K i j := by
  obtain ⟨hh, L, e, h1, h2, h3⟩ := bf_kt (tight_nn h ha hb hc)
  refine ⟨hh, L, e, h1, h2, fun i j hi hj => ?_⟩
  have := h3 i j hi hj
  unfold putK at this
  split at this
  · rename_i q
    obtain ⟨rfl, rfl⟩ := q
    grind
  · exact this
end
end Vs
namespace Vs
open PySem PySem.Spec PyProof.Rows L2
/-! ### some_times -/
/-! ### some_times -/
noncomputable def sv_some_times : SEv := (sRet (evLc (evIt (evV 0)) (tgN 1) evTrue (evBin fIx (evV 1) (evUn fNeg (evC (.int 1)))) [1]))
noncomputable def m_some_times : FSem := arF 1 (bodySem 2 sv_some_times)
theorem ar_some_times : Arity m_some_times 1 := arF_ar
theorem le_some_times : ∀ ds μ r, m_some_times ds μ = some r → bodySem 2 sv_some_times ds μ = some r := arF_le
/-! ### _law_whole_table -/
noncomputable abbrev lb__law_whole_table_0 : SEv := (sExpr (evBM isLst fApp (evV 6) (evCons (evCall m__law_sum [] (evCons (evCall m__law_sum [] (evCons (evBin fIx (evV 2) (evV 5)) (evCons (evCall m__law_minus [] (evCons (evBin fIx (evV 2) (evV 7)) evNil)) evNil))) (evCons (evCall m__law_size [] (evCons (evCall m__law_number [] (evCons (evV 0) evNil)) evNil)) evNil))) evNil)))
noncomputable abbrev lb__law_whole_table_1 : SEv := (seqS (sSet 6 (evLstC evNil)) (seqS (sFor (evRng1 (evV 1)) (tgN 7) (sExpr (evBM isLst fApp (evV 6) (evCons (evCall m__law_sum [] (evCons (evCall m__law_sum [] (evCons (evBin fIx (evV 2) (evV 5)) (evCons (evCall m__law_minus [] (evCons (evBin fIx (evV 2) (evV 7)) evNil)) evNil))) (evCons (evCall m__law_size [] (evCons (evCall m__law_number [] (evCons (evV 0) evNil)) evNil)) evNil))) evNil)))) (sExpr (evBM isLst fApp (evV 4) (evCons (evV 6) evNil)))))
/-! ### _law_whole_table -/
noncomputable def sv__law_whole_table : SEv := (seqS (sSet 1 (evBin fAdd (evC (.int 1)) (evCall m__law_draw [] (evCons (evV 0) (evCons (evC (.int 6)) evNil))))) (seqS (sSet 2 (evLc (evRng1 (evV 1)) (tgN 3) evTrue (evCall m__law_number [] (evCons (evV 0) evNil)) [3])) (seqS (sSet 4 (evLstC evNil)) (seqS (sFor (evRng1 (evV 1)) (tgN 5) (seqS (sSet 6 (evLstC evNil)) (seqS (sFor (evRng1 (evV 1)) (tgN 7) (sExpr (evBM isLst fApp (evV 6) (evCons (evCall m__law_sum [] (evCons (evCall m__law_sum [] (evCons (evBin fIx (evV 2) (evV 5)) (evCons (evCall m__law_minus [] (evCons (evBin fIx (evV 2) (evV 7)) evNil)) evNil))) (evCons (evCall m__law_size [] (evCons (evCall m__law_number [] (evCons (evV 0) evNil)) evNil)) evNil))) evNil)))) (sExpr (evBM isLst fApp (evV 4) (evCons (evV 6) evNil)))))) (sRet (evCall m__law_closed [] (evCons (evV 4) evNil)))))))
noncomputable def m__law_whole_table : FSem := arF 1 (bodySem 8 sv__law_whole_table)
theorem ar__law_whole_table : Arity m__law_whole_table 1 := arF_ar
theorem le__law_whole_table : ∀ ds μ r, m__law_whole_table ds μ = some r → bodySem 8 sv__law_whole_table ds μ = some r := arF_le
end Vs
/-! k32: the drawn whole table, some_times. -/
namespace Vs
open PySem PySem.Spec PyProof.Rows L2
section
variable {μ ν : Mu} {N m n : Nat} {f g : Tf}
/-- numbers, drawn within a comprehension -/
theorem nums_loop {ts : Tgt} {δ0 : Sl} {r : Mu} {x : Nat} (h0 : ∀ p : P, ∃ δ1, tgN x p δ0 = some δ1 ∧ δ1[0]? = some (some (.loc 0))) : ∀ (k a : Nat) (s : SS) (acc : List P), s.Ok → acc.length + k < 900 →
    ∃ (qs : List Rat) (s' : SS), s'.Ok ∧ qs.length = k ∧ (∀ q ∈ qs, Dr q) ∧ lcL (tgN x) evTrue (evCall m__law_number [] (evCons (evV 0) evNil)) δ0 (r.length + 1) (intsP a k) (st s :: (r ++ [some (.lst acc)])) = some (st s' :: (r ++ [some (.lst (acc ++ qs.map pr))]))
  | 0, a, s, acc, hs, ha => ⟨[], s, hs, rfl, fun q h => by simp at h, by simp [intsP, lcL]⟩
  | k + 1, a, s, acc, hs, ha => by
    obtain ⟨q, s1, o1, d1, e1⟩ := number0 hs
    obtain ⟨qs, s2, o2, l2, d2, e2⟩ := nums_loop (ts := ts) h0 k (a + 1) s1 (acc ++ [pr q]) o1 (by simp; omega)
    refine ⟨q :: qs, s2, o2, by simp [l2], fun y hy => ?_, ?_⟩
    · rcases List.mem_cons.mp hy with rfl | hy
      · exact d1
      · exact d2 y hy
    · obtain ⟨δ1, h1, h2⟩ := h0 (.int (a : Int))
      rw [intsP_succ]
      unfold lcL
      rw [h1]
      dsimp only
      rw [evTrue_eq]
      dsimp only
      have e3 : evCall m__law_number [] (evCons (evV 0) evNil) δ1 (st s :: (r ++ [some (.lst acc)])) = some (.ok (.p (pr q)), st s1 :: (r ++ [some (.lst acc)])) := by
        rw [evCall_eq, evCons_eq, evV_at h2, bindG_ok, evNil_eq, bindG_ok, bindG_ok]
        exact e1 _
      rw [e3]
      dsimp only
      rw [toP_p]
      dsimp only
      have e4 : cellL (st s1 :: (r ++ [some (.lst acc)])) (r.length + 1) = some acc := cellL_l (by simp)
      rw [e4]
      dsimp only
      rw [if_pos (line_k (by omega)), List.set_cons_succ, set_end rfl, e2, List.append_assoc]
      rfl
theorem ev_nums {δ : Sl} {it : EvG (List P)} {s : SS} {r : Mu} {x n : Nat} (hs : s.Ok) (hn : n < 900) (hi : it δ (st s :: r) = some (.ok (intsP 0 n), st s :: r)) (hx : x ≠ 0) (hd : δ[0]? = some (some (.loc 0))) :
    ∃ (qs : List Rat) (s' : SS), s'.Ok ∧ qs.length = n ∧ (∀ q ∈ qs, Dr q) ∧ evLc it (tgN x) evTrue (evCall m__law_number [] (evCons (evV 0) evNil)) [x] δ (st s :: r) = some (.ok (.p (.lst (qs.map pr))), st s' :: r) := by
  obtain ⟨qs, s', o, l, d, e⟩ := nums_loop (ts := tgN x) (δ0 := wipeS δ [x]) (r := r) (x := x) (fun p => ⟨_, rfl, by
    rw [List.getElem?_set_ne hx, wipeS_cons, wipeS_nil, List.getElem?_set_ne hx]
    exact hd⟩) n 0 s [] hs (by simpa using hn)
  refine ⟨qs, s', o, l, d, ?_⟩
  rw [evLc_eq, hi, bindG_ok]
  show lcEnd (r.length + 1) (lcL (tgN x) evTrue _ _ (r.length + 1) _ (st s :: (r ++ [some (.lst [])]))) = _
  rw [e]
  unfold lcEnd
  dsimp only
  rw [cellL_l (show (st s' :: (r ++ [some (MO.lst ([] ++ qs.map pr))]))[r.length + 1]? = some (some (.lst (qs.map pr))) by simp)]
  simp
def pAt (ps : List Rat) (i : Nat) : Rat := ps.getD i 0
theorem ps_at {ps : List Rat} {i : Nat} (h : i < ps.length) : fIx (.p (.lst (ps.map pr))) (.p (.int (i : Int))) μ = some (.p (pr (pAt ps i)), μ) := by
  have e : ps[i]? = some (pAt ps i) := by
    unfold pAt
    rw [List.getD_eq_getElem?_getD, List.getElem?_eq_getElem h]
    rfl
  rw [fIx_lstp, atI_nat (by rw [List.getElem?_map, e]; rfl)]
  rfl
/-- one row of the whole table -/
theorem row32 {ps : List Rat} (hps : ∀ q ∈ ps, Dr q) {c1 c3 c4 : Option D} {i : Nat} (hi : i < ps.length) {p : Nat} : ∀ (k a : Nat) (s : SS), s.Ok → a + k = ps.length →
    ∃ (xs : List Rat) (s' : SS), s'.Ok ∧ xs.length = k ∧ (∀ x ∈ xs, Dr x ∧ 0 ≤ x) ∧ ∀ (r : Mu) (acc : List P) (c7 : Option D), r[p]? = some (some (.lst acc)) → acc.length + k < 900 → ∃ c7',
      forL (tgN 7) lb__law_whole_table_0 (intsP a k) [some (.loc 0), c1, some (.p (.lst (ps.map pr))), c3, c4, some (.p (.int (i : Int))), some (.loc (p + 1)), c7] (st s :: r)
      = some (.nx, [some (.loc 0), c1, some (.p (.lst (ps.map pr))), c3, c4, some (.p (.int (i : Int))), some (.loc (p + 1)), c7'], st s' :: r.set p (some (.lst (acc ++ (xs.zipIdx a).map fun x => pr (pAt ps i + -pAt ps x.2 + x.1)))))
  | 0, a, s, hs, ha => ⟨[], s, hs, rfl, fun x h => by simp at h, fun r acc c7 hc hl => ⟨c7, by
      simp only [List.zipIdx_nil, List.map_nil, List.append_nil, set_same hc]
      rfl⟩⟩
  | k + 1, a, s, hs, ha => by
    obtain ⟨q, s1, o1, d1, e1⟩ := number0 hs
    have dab : Dr (ab q) := by
      refine ⟨?_, by rw [ab_den]; exact d1.2⟩
      rw [ab_num]
      split
      · exact d1.1.neg
      · exact d1.1
    obtain ⟨xs, s2, o2, l2, d2, e2⟩ := row32 hps (c1 := c1) (c3 := c3) (c4 := c4) hi (p := p) k (a + 1) s1 o1 (by omega)
    have mi : Dr (pAt ps i) := hps _ (by
      unfold pAt
      rw [List.getD_eq_getElem?_getD, List.getElem?_eq_getElem hi]
      exact List.getElem_mem _)
    have ma : Dr (pAt ps a) := hps _ (by
      unfold pAt
      rw [List.getD_eq_getElem?_getD, List.getElem?_eq_getElem (show a < ps.length by omega)]
      exact List.getElem_mem _)
    refine ⟨ab q :: xs, s2, o2, by simp [l2], fun y hy => ?_, fun r acc c7 hc hl => ?_⟩
    · rcases List.mem_cons.mp hy with rfl | hy
      · exact ⟨dab, ab_nonneg⟩
      · exact d2 y hy
    · have g1 := fun ν : Mu => ps_at (μ := ν) hi
      have g2 := fun ν : Mu => ps_at (μ := ν) (ps := ps) (i := a) (by omega)
      have g3 := fun ν : Mu => ev_lminus (μ := ν) (a := pAt ps a)
      have g4 := fun ν : Mu => ev_lsum (μ := ν) mi.bz ma.bz.neg (by decide)
      have g5 := e1 r
      have g6 := fun ν : Mu => ev_lsize (μ := ν) (a := q)
      have g7 := fun ν : Mu => ev_lsum (μ := ν) (mi.bz.add ma.bz.neg) dab.bz (by decide)
      have hc' : (st s1 :: r)[p + 1]? = some (some (.lst acc)) := by simpa using hc
      have hc0 : (st s :: r)[p + 1]? = some (some (.lst acc)) := by simpa using hc
      have g8 := isLst_l hc0
      have g9 := fApp_at (y := pr (pAt ps i + -pAt ps a + ab q)) hc' (by omega)
      rw [List.set_cons_succ] at g9
      have body : lb__law_whole_table_0 [some (.loc 0), c1, some (.p (.lst (ps.map pr))), c3, c4, some (.p (.int (i : Int))), some (.loc (p + 1)), some (.p (.int (a : Int)))] (st s :: r)
          = some (.nx, [some (.loc 0), c1, some (.p (.lst (ps.map pr))), c3, c4, some (.p (.int (i : Int))), some (.loc (p + 1)), some (.p (.int (a : Int)))], st s1 :: r.set p (some (.lst (acc ++ [pr (pAt ps i + -pAt ps a + ab q)])))) := by
        generalize (i : Int) = ii at *
        generalize (a : Int) = ai at *
        simp [-fIx_lstp, lb__law_whole_table_0, evBM_eq, g8, g1, g2, g3, g4, g5, g6, g7, g9]
      obtain ⟨c7', e3⟩ := e2 (r.set p (some (.lst (acc ++ [pr (pAt ps i + -pAt ps a + ab q)])))) (acc ++ [pr (pAt ps i + -pAt ps a + ab q)]) (some (.p (.int (a : Int)))) (set_get hc) (by simp; omega)
      refine ⟨c7', ?_⟩
      rw [intsP_succ, forL_nx rfl body, e3, List.set_set, List.zipIdx_cons, List.map_cons, List.append_assoc]
      rfl
theorem mat32 {ps : List Rat} (hps : ∀ q ∈ ps, Dr q) (hl : ps.length ≤ 100) {c3 : Option D} : ∀ (k a : Nat) (s : SS) (gar : Mu) (acc : List P) (c5 c6 c7 : Option D), s.Ok → a + k = ps.length → acc.length + k < 900 →
    ∃ (xss : List (List Rat)) (s' : SS) (gar' : Mu) (c5' c6' c7' : Option D), s'.Ok ∧ xss.length = k ∧ (∀ xs ∈ xss, xs.length = ps.length ∧ ∀ x ∈ xs, Dr x ∧ 0 ≤ x) ∧
      forL (tgN 5) lb__law_whole_table_1 (intsP a k) [some (.loc 0), some (.p (.int (ps.length : Int))), some (.p (.lst (ps.map pr))), c3, some (.loc 1), c5, c6, c7] (st s :: some (.lst acc) :: gar)
      = some (.nx, [some (.loc 0), some (.p (.int (ps.length : Int))), some (.p (.lst (ps.map pr))), c3, some (.loc 1), c5', c6', c7'], st s' :: some (.lst (acc ++ (xss.zipIdx a).map fun xs => P.lst ((xs.1.zipIdx 0).map fun x => pr (pAt ps xs.2 + -pAt ps x.2 + x.1)))) :: gar')
  | 0, a, s, gar, acc, c5, c6, c7, hs, ha, hc => ⟨[], s, gar, c5, c6, c7, hs, rfl, fun x h => by simp at h, by
      simp only [List.zipIdx_nil, List.map_nil, List.append_nil]
      rfl⟩
  | k + 1, a, s, gar, acc, c5, c6, c7, hs, ha, hc => by
    obtain ⟨xs, s1, o1, l1, d1, e1⟩ := row32 hps (c1 := some (.p (.int (ps.length : Int)))) (c3 := c3) (c4 := some (.loc 1)) (i := a) (by omega) (p := gar.length + 1) ps.length 0 s hs (by omega)
    obtain ⟨c7a, e1⟩ := e1 (some (.lst acc) :: (gar ++ [some (.lst [])])) [] c7 (by simp) (by simp; omega)
    have hset : (some (MO.lst acc) :: (gar ++ [some (.lst [])])).set (gar.length + 1) (some (.lst ([] ++ (xs.zipIdx 0).map fun x => pr (pAt ps a + -pAt ps x.2 + x.1)))) = some (.lst acc) :: (gar ++ [some (.lst ((xs.zipIdx 0).map fun x => pr (pAt ps a + -pAt ps x.2 + x.1)))]) := by
      rw [List.set_cons_succ, set_end rfl, List.nil_append]
    rw [hset] at e1
    have q1 : sSet 6 (evLstC evNil) [some (.loc 0), some (.p (.int (ps.length : Int))), some (.p (.lst (ps.map pr))), c3, some (.loc 1), some (.p (.int (a : Int))), c6, c7] (st s :: some (.lst acc) :: gar)
        = some (.nx, [some (.loc 0), some (.p (.int (ps.length : Int))), some (.p (.lst (ps.map pr))), c3, some (.loc 1), some (.p (.int (a : Int))), some (.loc (gar.length + 1 + 1)), c7], st s :: some (.lst acc) :: (gar ++ [some (.lst [])])) := by
      generalize (a : Int) = ai
      generalize (ps.length : Int) = ni
      simp
    have q2 : fApp (.loc 1) [.loc (gar.length + 1 + 1)] (st s1 :: some (.lst acc) :: (gar ++ [some (.lst ((xs.zipIdx 0).map fun x => pr (pAt ps a + -pAt ps x.2 + x.1)))])) = some (.p .non, st s1 :: some (.lst (acc ++ [P.lst ((xs.zipIdx 0).map fun x => pr (pAt ps a + -pAt ps x.2 + x.1))])) :: (gar ++ [none])) := by
      rw [ap_new (xs := acc) (ys := (xs.zipIdx 0).map fun x => pr (pAt ps a + -pAt ps x.2 + x.1)) (by simp) (by simp) (by omega) (by omega), List.set_cons_succ, List.set_cons_succ, List.set_cons_succ, set_end rfl]
      rfl
    have q3 : isLst (st s1 :: some (.lst acc) :: (gar ++ [some (.lst ((xs.zipIdx 0).map fun x => pr (pAt ps a + -pAt ps x.2 + x.1)))])) (.loc 1) = true := isLst_l (by rfl)
    have hr := rng_n (δ := [some (.loc 0), some (.p (.int (ps.length : Int))), some (.p (.lst (ps.map pr))), c3, some (.loc 1), some (.p (.int (a : Int))), some (.loc (gar.length + 1 + 1)), c7]) (μ := st s :: some (.lst acc) :: (gar ++ [some (.lst [])])) (ν := st s :: some (.lst acc) :: (gar ++ [some (.lst [])])) ps.length (e := evV 1) rfl (by omega)
    have body : lb__law_whole_table_1 [some (.loc 0), some (.p (.int (ps.length : Int))), some (.p (.lst (ps.map pr))), c3, some (.loc 1), some (.p (.int (a : Int))), c6, c7] (st s :: some (.lst acc) :: gar)
        = some (.nx, [some (.loc 0), some (.p (.int (ps.length : Int))), some (.p (.lst (ps.map pr))), c3, some (.loc 1), some (.p (.int (a : Int))), some (.loc (gar.length + 1 + 1)), c7a], st s1 :: some (.lst (acc ++ [P.lst ((xs.zipIdx 0).map fun x => pr (pAt ps a + -pAt ps x.2 + x.1))])) :: (gar ++ [none])) := by
      show seqS (sSet 6 (evLstC evNil)) (seqS (sFor (evRng1 (evV 1)) (tgN 7) lb__law_whole_table_0) (sExpr (evBM isLst fApp (evV 4) (evCons (evV 6) evNil)))) _ _ = _
      rw [seqS_eq, q1, andThen_nx, seqS_eq, sFor_eq, hr, bindS_ok, e1, andThen_nx]
      generalize (a : Int) = ai
      generalize (ps.length : Int) = ni
      simp [evBM_eq, q2, q3]
    obtain ⟨xss, s2, gar', d5, d6, d7, o2, l2, p2, e2⟩ := mat32 hps hl (c3 := c3) k (a + 1) s1 (gar ++ [none]) (acc ++ [P.lst ((xs.zipIdx 0).map fun x => pr (pAt ps a + -pAt ps x.2 + x.1))]) (some (.p (.int (a : Int)))) (some (.loc (gar.length + 1 + 1))) c7a o1 (by omega) (by simp; omega)
    refine ⟨xs :: xss, s2, gar', d5, d6, d7, o2, by simp [l2], fun x hx => ?_, ?_⟩
    · rcases List.mem_cons.mp hx with rfl | hx
      · exact ⟨l1, d1⟩
      · exact p2 x hx
    · rw [intsP_succ, forL_nx rfl body, e2, List.zipIdx_cons, List.map_cons, List.append_assoc]
      rfl
/-- the whole table's entries -/
def wtK (ps : List Rat) (xss : List (List Rat)) : Nat → Nat → Rat := fun i j => pAt ps i + -pAt ps j + (xss.getD i []).getD j 0
theorem wtK_tbl {ps : List Rat} {xss : List (List Rat)} (hl : xss.length = ps.length) (h : ∀ xs ∈ xss, xs.length = ps.length) : (tbQ ps.length (allS (wtK ps xss))).map P.lst = (xss.zipIdx 0).map fun xs => P.lst ((xs.1.zipIdx 0).map fun x => pr (pAt ps xs.2 + -pAt ps x.2 + x.1)) := by
  apply List.ext_getElem?
  intro i
  rw [List.getElem?_map, List.getElem?_map]
  by_cases hi : i < ps.length
  · have e : xss[i]? = some xss[i] := List.getElem?_eq_getElem (by omega)
    have e' : (xss.zipIdx 0)[i]? = some (xss[i], i) := by rw [List.getElem?_zipIdx, e]; simp
    rw [tbQ_get hi, e']
    show some (P.lst (rwQ ps.length (allS (wtK ps xss) i))) = some (P.lst ((xss[i].zipIdx 0).map _))
    have hm := h _ (List.mem_of_getElem? e)
    congr 2
    apply List.ext_getElem?
    intro j
    rw [List.getElem?_map]
    by_cases hj : j < ps.length
    · have e2 : xss[i][j]? = some xss[i][j] := List.getElem?_eq_getElem (by omega)
      have e3 : (xss[i].zipIdx 0)[j]? = some (xss[i][j], j) := by rw [List.getElem?_zipIdx, e2]; simp
      rw [show (rwQ ps.length (allS (wtK ps xss) i))[j]? = some (opQ (allS (wtK ps xss) i j)) from rwL_get hj, e3]
      show some (pr (wtK ps xss i j)) = some (pr (pAt ps i + -pAt ps j + xss[i][j]))
      unfold wtK
      rw [List.getD_eq_getElem?_getD (l := xss), e, Option.getD_some, List.getD_eq_getElem?_getD, e2, Option.getD_some]
    · rw [List.getElem?_eq_none (by rw [rwQ_len]; omega), List.getElem?_eq_none (by rw [List.length_zipIdx]; omega)]
      rfl
  · rw [List.getElem?_eq_none (by rw [tbQ_len]; omega), List.getElem?_eq_none (by rw [List.length_zipIdx]; omega)]
    rfl
structure Nb (B N : Nat) : Prop where
  nok : Nok N
  lt : N < 2 ^ B
theorem whole_nok {ps : List Rat} {xss : List (List Rat)} (d2 : ∀ q ∈ ps, Dr q) (hl3 : xss.length = ps.length) (hn : ps.length ≤ 6) (d3 : ∀ xs ∈ xss, xs.length = ps.length ∧ ∀ x ∈ xs, Dr x ∧ 0 ≤ x) : ∃ N, Nb 900 N ∧ (∀ q ∈ ps, Cz N 1000 q) ∧ ∀ xs ∈ xss, ∀ x ∈ xs, Cz N 1000 x := by
  let os : List (Option Rat) := ps.map some ++ xss.flatten.map some
  have hm : ∀ q, some q ∈ os → Dr q := fun q hq => by
    rcases List.mem_append.mp hq with h | h
    · obtain ⟨c, hc, e⟩ := List.mem_map.mp h
      have e := Option.some.inj e
      subst e
      exact d2 c hc
    · obtain ⟨c, hc, e⟩ := List.mem_map.mp h
      have e := Option.some.inj e
      subst e
      obtain ⟨xs, h1, h2⟩ := List.mem_flatten.mp hc
      exact ((d3 xs h1).2 c h2).1
  have hp := dnP_pos os
  have hfl : xss.flatten.length ≤ 36 := by
    have go : ∀ (l : List (List Rat)), (∀ os ∈ l, os.length = ps.length) → l.flatten.length = l.length * ps.length := by
      intro l
      induction l with
      | nil => intro _; simp
      | cons x l ih =>
        intro hx
        rw [List.flatten_cons, List.length_append, ih (fun y hy => hx y (List.mem_cons_of_mem _ hy)), hx x List.mem_cons_self, List.length_cons, Nat.add_mul]
        omega
    rw [go xss fun os ho => (d3 os ho).1, hl3]
    exact Nat.le_trans (Nat.mul_le_mul hn hn) (by decide)
  have hN : dnP os < 2 ^ 900 := by
    refine Nat.lt_of_lt_of_le (dnP_lt fun q hq => (hm q hq).2) (Nat.pow_le_pow_right (by decide) ?_)
    show 20 * (ps.map some ++ xss.flatten.map some).length + 1 ≤ 900
    rw [List.length_append, List.length_map, List.length_map]
    omega
  have hz : ∀ q, some q ∈ os → Cz (dnP os) 1000 q := fun q hq => (cz_of (a := 30) (b := 900) (dnP_dvd hq) hp (hm q hq).1 (by unfold Sz; rw [Int.natAbs_natCast]; exact hN)).mono (by decide)
  have hNok : Nok (dnP os) := ⟨hp, Nat.lt_of_lt_of_le hN (Nat.pow_le_pow_right (by decide) (by decide))⟩
  refine ⟨dnP os, ⟨hNok, hN⟩, fun q hq => ?_, fun xs h1 x h2 => ?_⟩
  · have h2 : some q ∈ os := List.mem_append.mpr (.inl (List.mem_map.mpr ⟨_, hq, rfl⟩))
    exact hz _ h2
  · have h3 : some x ∈ os := List.mem_append.mpr (.inr (List.mem_map.mpr ⟨_, List.mem_flatten.mpr ⟨_, h1, h2⟩, rfl⟩))
    exact hz _ h3
/-- what is told of a table that is known -/
structure Kn (B N m n : Nat) (K : Nat → Nat → Rat) : Prop where
  nb : Nb B N
  kt : Kt n K
  cz : ∀ i j, i < n → j < n → Cz N m (K i j)
theorem whole_ex {s : SS} (hs : s.Ok) : ∃ n K N s', SS.Ok s' ∧ 0 < n ∧ n ≤ 6 ∧ Kn 900 N 3000 n K ∧ m__law_whole_table [.loc 0] [st s] = some (.ok (.p (tqP n (allS K))), [st s']) := by
  obtain ⟨v, s1, o1, u1, e1⟩ := draw0n (n := 6) hs (by decide) (by decide)
  have e1 := e1 []
  obtain ⟨ps, s2, o2, l2, d2, e2⟩ := ev_nums (δ := [some (.loc 0), some (.p (.int ((v + 1 : Nat) : Int))), none, none, none, none, none, none]) (it := evRng1 (evV 1)) (r := []) (x := 3) (n := v + 1) o1 (by omega) (rng_n (v + 1) rfl (by omega)) (by decide) rfl
  obtain ⟨xss, s3, gar, c5, c6, c7, o3, l3, d3, e3⟩ := mat32 d2 (by omega) (c3 := none) (v + 1) 0 s2 [] [] none none none o2 (by omega) (by simp; omega)
  rw [← l2] at e3
  have hl3 : xss.length = ps.length := by omega
  have tb := wtK_tbl hl3 fun xs hx => (d3 xs hx).1
  rw [List.nil_append, ← tb] at e3
  have hn : ps.length ≤ 6 := by omega
  obtain ⟨N, nb, hz1, hz2⟩ := whole_nok d2 hl3 hn d3
  have hNok := nb.nok
  have hps : ∀ i, i < ps.length → Cz N 1000 (pAt ps i) := fun i hi => by
    have hm : pAt ps i ∈ ps := by
      unfold pAt
      rw [List.getD_eq_getElem?_getD, List.getElem?_eq_getElem hi]
      exact List.getElem_mem _
    exact hz1 _ hm
  have hxs : ∀ i j, i < ps.length → j < ps.length → Cz N 1000 ((xss.getD i []).getD j 0) ∧ 0 ≤ (xss.getD i []).getD j 0 := fun i j hi hj => by
    obtain ⟨R, e⟩ : ∃ R, xss[i]? = some R := ⟨_, List.getElem?_eq_getElem (by rw [hl3]; exact hi)⟩
    have hmm := List.mem_of_getElem? e
    obtain ⟨y, e2⟩ : ∃ y, R[j]? = some y := ⟨_, List.getElem?_eq_getElem (by rw [(d3 _ hmm).1]; exact hj)⟩
    rw [List.getD_eq_getElem?_getD (l := xss), e, Option.getD_some, List.getD_eq_getElem?_getD, e2, Option.getD_some]
    have h2 := List.mem_of_getElem? e2
    exact ⟨hz2 _ hmm _ h2, ((d3 _ hmm).2 _ h2).2⟩
  have hcz : CzT N 1002 ps.length (allS (wtK ps xss)) := fun i j hi hj q hq => by
    cases hq
    exact Cz.add hNok (Cz.add hNok (hps i hi) ((hps j hj).neg hNok)) ((hxs i j hi hj).1.mono (by decide))
  have nn : NN ps.length (allS (wtK ps xss)) := nn_pot (τ := pAt ps) fun i j x hi hj e => by
    cases e
    have := (hxs i j hi hj).2
    unfold wtK
    grind
  obtain ⟨h, L, e4, hL, kt, _⟩ := bf_kt nn
  have hc4 := bfT_cz hNok hcz e4
  have e5 := ev_lclosed (μ := st s3 :: some (.lst ((tbQ ps.length (allS (wtK ps xss))).map P.lst)) :: gar) (d := .loc 1) hNok (by omega) hcz (by decide) (view_l rfl)
  rw [e4] at e5
  have e6 : oT ps.length (some h) = tqP ps.length (allS L) := tqP_congr hL
  rw [e6] at e5
  refine ⟨ps.length, L, N, s3, o3, by omega, hn, ⟨nb, kt, fun i j hi hj => ?_⟩, ?_⟩
  · exact (hc4 i j hi hj _ (hL i j hi hj)).mono (by omega)
  · have t1 : sSet 1 (evBin fAdd (evC (.int 1)) (evCall m__law_draw [] (evCons (evV 0) (evCons (evC (.int 6)) evNil)))) [some (.loc 0), none, none, none, none, none, none, none] [st s]
        = some (.nx, [some (.loc 0), some (.p (.int ((v + 1 : Nat) : Int))), none, none, none, none, none, none], [st s1]) := by
      rw [show ((v + 1 : Nat) : Int) = 1 + (v : Int) by omega]
      have e1 : m__law_draw [.loc 0, .p (.int 6)] [st s] = some (.ok (.p (.int (v : Int))), [st s1]) := e1
      generalize (v : Int) = vi at *
      simp [e1]
    have t2 : sSet 2 (evLc (evRng1 (evV 1)) (tgN 3) evTrue (evCall m__law_number [] (evCons (evV 0) evNil)) [3]) [some (.loc 0), some (.p (.int ((v + 1 : Nat) : Int))), none, none, none, none, none, none] [st s1]
        = some (.nx, [some (.loc 0), some (.p (.int ((v + 1 : Nat) : Int))), some (.p (.lst (ps.map pr))), none, none, none, none, none], [st s2]) := by
      rw [sSet_eq, e2, bindS_ok]; rfl
    have t3 : sSet 4 (evLstC evNil) [some (.loc 0), some (.p (.int ((v + 1 : Nat) : Int))), some (.p (.lst (ps.map pr))), none, none, none, none, none] [st s2]
        = some (.nx, [some (.loc 0), some (.p (.int ((v + 1 : Nat) : Int))), some (.p (.lst (ps.map pr))), none, some (.loc 1), none, none, none], [st s2, some (.lst [])]) := rfl
    have hr := rng_n (δ := [some (.loc 0), some (.p (.int ((v + 1 : Nat) : Int))), some (.p (.lst (ps.map pr))), none, some (.loc 1), none, none, none]) (μ := [st s2, some (.lst [])]) (ν := [st s2, some (.lst [])]) (v + 1) (e := evV 1) rfl (by omega)
    rw [l2] at e3 e5
    have t4 : sv__law_whole_table [some (.loc 0), none, none, none, none, none, none, none] [st s] = some (.ret (.p (tqP (v + 1) (allS L))), [some (.loc 0), some (.p (.int ((v + 1 : Nat) : Int))), some (.p (.lst (ps.map pr))), none, some (.loc 1), c5, c6, c7], st s3 :: some (.lst ((tbQ (v + 1) (allS (wtK ps xss))).map P.lst)) :: gar) := by
      show seqS _ (seqS _ (seqS _ (seqS (sFor (evRng1 (evV 1)) (tgN 5) lb__law_whole_table_1) _))) _ _ = _
      rw [seqS_eq, t1, andThen_nx, seqS_eq, t2, andThen_nx, seqS_eq, t3, andThen_nx, seqS_eq, sFor_eq, hr, bindS_ok, e3, andThen_nx, sRet_eq, evCall_eq, evCons_eq, evV_4, bindG_ok, evNil_eq, bindG_ok, bindG_ok]
      show bindS (m__law_closed [.loc 1] _) _ _ = _
      rw [e5, bindS_ok]
    rw [l2]
    show (if [D.loc 0].length = 1 then bodySem 8 sv__law_whole_table [.loc 0] [st s] else none) = _
    rw [if_pos (show [D.loc 0].length = 1 from rfl), bodySem_eq]
    show retF 1 (sv__law_whole_table [some (.loc 0), none, none, none, none, none, none, none] [st s]) = _
    rw [t4, retF_p]
    rfl
theorem ev_some {K : Nat → Nat → Rat} (hn : n ≤ 100) (h0 : 0 < n) : m_some_times [.p (tbP n (allS K))] μ = some (.ok (.p (.lst ((List.range n).map fun i => rat (K i (n - 1))))), μ) := by
  have e := lc_mapE (δ := [some (.p (tbP n (allS K))), none]) (μ := μ) (ν := μ) (ts := tgN 1) (vs := [1]) (it := evIt (evV 0)) (as := List.range n) (e := evBin fIx (evV 1) (evUn fNeg (evC (.int 1))))
    (fun i => .lst (rwP n (allS K) i)) (fun i => rat (K i (n - 1))) (by
      show some (Out.ok ((tbR n (allS K)).map P.lst), μ) = _
      unfold tbR
      rw [List.map_map]
      rfl) (fun i hi => by
      refine ⟨_, rfl, fun ξ ex => ?_⟩
      have g : fIx (.p (.lst (rwP n (allS K) i))) (.p (.int (-1))) ξ = some (.p (rat (K i (n - 1))), ξ) := by
        rw [fIx_lstp]
        have : atI (rwP n (allS K) i) (-1) = some (rat (K i (n - 1))) := by
          unfold atI
          rw [rwP_len]
          have : ixN n (-1) = some (n - 1) := by
            unfold ixN
            rw [if_neg (by omega), if_pos (by omega)]
            congr 1
            omega
          rw [this]
          exact rwP_get (by omega)
        rw [this]
        rfl
      simp [-fIx_lstp, g]) (by simpa using line_n (by omega))
  show (if [D.p (tbP n (allS K))].length = 1 then bodySem 2 sv_some_times [.p (tbP n (allS K))] μ else none) = _
  rw [if_pos (show [D.p (tbP n (allS K))].length = 1 from rfl), bodySem_eq]
  show retF μ.length (sRet _ _ μ) = _
  rw [sRet_eq]
  show retF μ.length (bindS (evLc (evIt (evV 0)) (tgN 1) evTrue (evBin fIx (evV 1) (evUn fNeg (evC (.int 1)))) [1] [some (.p (tbP n (allS K))), none] μ) _ _) = _
  rw [e, bindS_ok, retF_p, List.take_length]
end
end Vs
namespace Vs
open PySem PySem.Spec PyProof.Rows L2
/-! ### _law_gaps -/
noncomputable abbrev lb__law_gaps_0 : SEv := (seqS (sSet 9 (evC .non)) (seqS (sIf (evB (evBin fEq (evCall m__law_draw [] (evCons (evV 0) (evCons (evV 4) evNil))) (evC (.int 0)))) (sSet 9 (evCall m__law_sum [] (evCons (evCall m__law_sum [] (evCons (evBin fIx (evV 2) (evV 6)) (evCons (evCall m__law_minus [] (evCons (evBin fIx (evV 2) (evV 8)) evNil)) evNil))) (evCons (evCall m__law_size [] (evCons (evCall m__law_number [] (evCons (evV 0) evNil)) evNil)) evNil)))) sNil) (sExpr (evBM isLst fApp (evV 7) (evCons (evV 9) evNil)))))
noncomputable abbrev lb__law_gaps_1 : SEv := (seqS (sSet 7 (evLstC evNil)) (seqS (sFor (evRng1 (evV 1)) (tgN 8) (seqS (sSet 9 (evC .non)) (seqS (sIf (evB (evBin fEq (evCall m__law_draw [] (evCons (evV 0) (evCons (evV 4) evNil))) (evC (.int 0)))) (sSet 9 (evCall m__law_sum [] (evCons (evCall m__law_sum [] (evCons (evBin fIx (evV 2) (evV 6)) (evCons (evCall m__law_minus [] (evCons (evBin fIx (evV 2) (evV 8)) evNil)) evNil))) (evCons (evCall m__law_size [] (evCons (evCall m__law_number [] (evCons (evV 0) evNil)) evNil)) evNil)))) sNil) (sExpr (evBM isLst fApp (evV 7) (evCons (evV 9) evNil)))))) (sExpr (evBM isLst fApp (evV 5) (evCons (evV 7) evNil)))))
/-! ### _law_gaps -/
noncomputable def sv__law_gaps : SEv := (seqS (sSet 1 (evBin fAdd (evC (.int 1)) (evCall m__law_draw [] (evCons (evV 0) (evCons (evC (.int 6)) evNil))))) (seqS (sSet 2 (evLc (evRng1 (evV 1)) (tgN 3) evTrue (evCall m__law_number [] (evCons (evV 0) evNil)) [3])) (seqS (sSet 4 (evBin fAdd (evC (.int 1)) (evCall m__law_draw [] (evCons (evV 0) (evCons (evC (.int 3)) evNil))))) (seqS (sSet 5 (evLstC evNil)) (seqS (sFor (evRng1 (evV 1)) (tgN 6) (seqS (sSet 7 (evLstC evNil)) (seqS (sFor (evRng1 (evV 1)) (tgN 8) (seqS (sSet 9 (evC .non)) (seqS (sIf (evB (evBin fEq (evCall m__law_draw [] (evCons (evV 0) (evCons (evV 4) evNil))) (evC (.int 0)))) (sSet 9 (evCall m__law_sum [] (evCons (evCall m__law_sum [] (evCons (evBin fIx (evV 2) (evV 6)) (evCons (evCall m__law_minus [] (evCons (evBin fIx (evV 2) (evV 8)) evNil)) evNil))) (evCons (evCall m__law_size [] (evCons (evCall m__law_number [] (evCons (evV 0) evNil)) evNil)) evNil)))) sNil) (sExpr (evBM isLst fApp (evV 7) (evCons (evV 9) evNil)))))) (sExpr (evBM isLst fApp (evV 5) (evCons (evV 7) evNil)))))) (sRet (evCall m__law_closed [] (evCons (evV 5) evNil))))))))
noncomputable def m__law_gaps : FSem := arF 1 (bodySem 10 sv__law_gaps)
theorem ar__law_gaps : Arity m__law_gaps 1 := arF_ar
theorem le__law_gaps : ∀ ds μ r, m__law_gaps ds μ = some r → bodySem 10 sv__law_gaps ds μ = some r := arF_le
/-! ### _law_condition -/
/-! ### _law_condition -/
noncomputable def sv__law_condition : SEv := (seqS (sIf (tOrV' (evB (evBin (fIs false) (evBin fIx (evBin fIx (evV 1) (evV 2)) (evV 3)) (evC .non))) (evB (evBin (fIs false) (evBin fIx (evBin fIx (evV 1) (evV 3)) (evV 2)) (evC .non)))) (sRet (evCall m__law_number [] (evCons (evV 0) evNil))) sNil) (seqS (sSet 4 (evCall m__law_minus [] (evCons (evBin fIx (evBin fIx (evV 1) (evV 3)) (evV 2)) evNil))) (seqS (sIf (evB (evBin fEq (evCall m__law_draw [] (evCons (evV 0) (evCons (evC (.int 6)) evNil))) (evC (.int 0)))) (sRet (evCall m__law_sum [] (evCons (evV 4) (evCons (evCall m__law_pair [] (evCons (evBin fSub (evCall m__law_draw [] (evCons (evV 0) (evCons (evC (.int 2)) evNil))) (evC (.int 1))) (evCons (evBin fAdd (evC (.int 1)) (evCall m__law_draw [] (evCons (evV 0) (evCons (evC (.int 1000)) evNil)))) evNil))) evNil)))) sNil) (sRet (evCall m__law_sum [] (evCons (evV 4) (evCons (evCall m__law_over [] (evCons (evCall m__law_times [] (evCons (evCall m__law_sum [] (evCons (evBin fIx (evBin fIx (evV 1) (evV 2)) (evV 3)) (evCons (evCall m__law_minus [] (evCons (evV 4) evNil)) evNil))) (evCons (evTup (evCons (evCall m__law_draw [] (evCons (evV 0) (evCons (evC (.int 6)) evNil))) (evCons (evC (.int 1)) evNil))) evNil))) (evCons (evTup (evCons (evC (.int 4)) (evCons (evC (.int 1)) evNil))) evNil))) evNil)))))))
noncomputable def m__law_condition : FSem := arF 4 (bodySem 5 sv__law_condition)
theorem ar__law_condition : Arity m__law_condition 4 := arF_ar
theorem le__law_condition : ∀ ds μ r, m__law_condition ds μ = some r → bodySem 5 sv__law_condition ds μ = some r := arF_le
/-! ### with_bound -/
/-! ### with_bound -/
noncomputable def sv_with_bound : SEv := (seqS (sSet 4 (evBin fIx (evBin fIx (evV 0) (evV 2)) (evV 1))) (seqS (sIf (tAndV' (evB (evBin (fIs true) (evV 4) (evC .non))) (evB (evCall m_is_less [] (evCons (evBin (fOwn 0 m_Ratiou_addu) (evV 4) (evV 3)) (evCons (evMake 0 2 m_Ratiou_initu [.int 1] (evCons (evC (.int 0)) evNil)) evNil))))) (sRet (evC .non)) sNil) (sRet (evCall m__by_way_of [] (evCons (evV 0) (evCons (evV 1) (evCons (evV 2) (evCons (evV 3) evNil))))))))
noncomputable def m_with_bound : FSem := arF 4 (bodySemK 5 sv_with_bound)
theorem ar_with_bound : Arity m_with_bound 4 := arF_ar
theorem le_with_bound : ∀ ds μ r, m_with_bound ds μ = some r → bodySemK 5 sv_with_bound ds μ = some r := arF_le
end Vs
/-! with_bound; k31's table with gaps, its conditions. -/
namespace Vs
open PySem PySem.Spec PyProof.Rows L2
section
variable {μ ν : Mu} {N m n B : Nat} {f g : Tf}
/-- with_bound -/
theorem ev_wb {i j : Nat} {c : Rat} (hN : Nok N) (hn : n ≤ 100) (hf : CzT N m n f) (hc : Cz N m c) (hm : m ≤ 100000) (hi : i < n) (hj : j < n) :
    ((∃ x, f j i = some x ∧ x + c < 0) → m_with_bound [.p (tbP n f), .p (.int (i : Int)), .p (.int (j : Int)), .p (rat c)] μ = some (.ok (.p .non), μ)) ∧
    ((∀ x, f j i = some x → 0 ≤ x + c) → ∃ μ' l ks, m_with_bound [.p (tbP n f), .p (.int (i : Int)), .p (.int (j : Int)), .p (rat c)] μ = some (.ok (.loc l), μ') ∧ Ext μ μ' ∧ Live μ.length μ' l (tbR n (wb f i j c)) ks) := by
  have g1 := tbP_row (μ := μ) (f := f) hj
  have g2 := row_at (μ := μ) (f := f) (i := j) hi
  have t1 : sSet 4 (evBin fIx (evBin fIx (evV 0) (evV 2)) (evV 1)) [some (.p (tbP n f)), some (.p (.int (i : Int))), some (.p (.int (j : Int))), some (.p (rat c)), none] μ = some (.nx, [some (.p (tbP n f)), some (.p (.int (i : Int))), some (.p (.int (j : Int))), some (.p (rat c)), some (.p (opR (f j i)))], μ) := by
    rw [sSet_eq, evBin_eq, evBin_eq, evV_0, bindG_ok, evV_2, bindG_ok, g1, okm_some, bindG_ok, evV_1, bindG_ok, g2, okm_some, bindS_ok]
    rfl
  obtain ⟨μ', l, ks, e3, x3, L3⟩ := ev_by (μ := μ) hN hn hf hc (by omega) hi hj
  have t3 : sRet (evCall m__by_way_of [] (evCons (evV 0) (evCons (evV 1) (evCons (evV 2) (evCons (evV 3) evNil))))) [some (.p (tbP n f)), some (.p (.int (i : Int))), some (.p (.int (j : Int))), some (.p (rat c)), some (.p (opR (f j i)))] μ = some (.ret (.loc l), [some (.p (tbP n f)), some (.p (.int (i : Int))), some (.p (.int (j : Int))), some (.p (rat c)), some (.p (opR (f j i)))], μ') := by
    rw [sRet_eq, evCall_eq, evCons_eq, evV_0, bindG_ok, evCons_eq, evV_1, bindG_ok, evCons_eq, evV_2, bindG_ok, evCons_eq, evV_3, bindG_ok, evNil_eq, bindG_ok, bindG_ok, bindG_ok, bindG_ok, bindG_ok]
    show bindS (m__by_way_of [.p (tbP n f), .p (.int (i : Int)), .p (.int (j : Int)), .p (rat c)] μ) _ _ = _
    rw [e3, bindS_ok]
  have whole : m_with_bound [.p (tbP n f), .p (.int (i : Int)), .p (.int (j : Int)), .p (rat c)] μ = retK (seqS (sSet 4 (evBin fIx (evBin fIx (evV 0) (evV 2)) (evV 1))) (seqS (sIf (tAndV' (evB (evBin (fIs true) (evV 4) (evC .non))) (evB (evCall m_is_less [] (evCons (evBin (fOwn 0 m_Ratiou_addu) (evV 4) (evV 3)) (evCons (evMake 0 2 m_Ratiou_initu [.int 1] (evCons (evC (.int 0)) evNil)) evNil))))) (sRet (evC .non)) sNil) (sRet (evCall m__by_way_of [] (evCons (evV 0) (evCons (evV 1) (evCons (evV 2) (evCons (evV 3) evNil)))))))
      [some (.p (tbP n f)), some (.p (.int (i : Int))), some (.p (.int (j : Int))), some (.p (rat c)), none] μ) := rfl
  rw [whole, seqS_eq, t1, andThen_nx, seqS_eq]
  have test : ∀ x, f j i = some x → (tAndV' (evB (evBin (fIs true) (evV 4) (evC .non))) (evB (evCall m_is_less [] (evCons (evBin (fOwn 0 m_Ratiou_addu) (evV 4) (evV 3)) (evCons (evMake 0 2 m_Ratiou_initu [.int 1] (evCons (evC (.int 0)) evNil)) evNil))))) [some (.p (tbP n f)), some (.p (.int (i : Int))), some (.p (.int (j : Int))), some (.p (rat c)), some (.p (opR (f j i)))] μ = some (.ok (decide (x + c < 0)), μ) := fun x hx => by
    have hxz := hf j i hj hi x hx
    have g3 := o_add' (μ := μ) (hxz.bz hN (by omega)) (hc.bz hN (by omega)) (by decide)
    have g4 := ev_is_less (μ := μ) (b := 0) ((hxz.add hN hc).bz hN (by omega)) bz0 (by decide)
    rw [hx, opR_some]
    generalize (i : Int) = ii
    generalize (j : Int) = jj
    simp [e_0, g3, g4]
  refine ⟨fun ⟨x, hx, hlt⟩ => ?_, fun hge => ⟨μ', l, ks, ?_, x3, L3⟩⟩
  · have t2 := test x hx
    rw [decide_eq_true hlt] at t2
    rw [if_t t2]
    rfl
  · have t2 : (sIf (tAndV' (evB (evBin (fIs true) (evV 4) (evC .non))) (evB (evCall m_is_less [] (evCons (evBin (fOwn 0 m_Ratiou_addu) (evV 4) (evV 3)) (evCons (evMake 0 2 m_Ratiou_initu [.int 1] (evCons (evC (.int 0)) evNil)) evNil))))) (sRet (evC .non)) sNil) [some (.p (tbP n f)), some (.p (.int (i : Int))), some (.p (.int (j : Int))), some (.p (rat c)), some (.p (opR (f j i)))] μ = some (.nx, [some (.p (tbP n f)), some (.p (.int (i : Int))), some (.p (.int (j : Int))), some (.p (rat c)), some (.p (opR (f j i)))], μ) := by
      cases hx : f j i with
      | none => exact if_f rfl
      | some x =>
        have t2 := test x hx
        rw [decide_eq_false (by have := hge x hx; grind)] at t2
        rw [hx] at t2
        exact if_f t2
    rw [t2, andThen_nx, t3, retK_ret]
/-- frozen -/
theorem frz_wb {i j : Nat} {c : Rat} (hN : Nok N) (hn : n ≤ 100) (hf : CzT N m n f) (hc : Cz N m c) (hm : m ≤ 100000) (hi : i < n) (hj : j < n) (hge : ∀ x, f j i = some x → 0 ≤ x + c) {e : Ev} {δ : Sl} (he : e δ μ = m_with_bound [.p (tbP n f), .p (.int (i : Int)), .p (.int (j : Int)), .p (rat c)] μ) :
    ∃ ν, evFrz e δ μ = some (.ok (.p (tbP n (wb f i j c))), ν) ∧ Ext μ ν := by
  obtain ⟨μ', l, ks, e1, x1, L1⟩ := (ev_wb (μ := μ) hN hn hf hc hm hi hj).2 hge
  obtain ⟨ν, e2, l2, g2⟩ := frz_live L1
  refine ⟨ν, ?_, ⟨by rw [l2]; exact x1.len, fun y hy => (g2 y hy).trans (x1.get y hy)⟩⟩
  rw [evFrz_eq, he, e1, bindG_ok, e2]
  rfl
theorem frz_wbn {i j : Nat} {c : Rat} (hN : Nok N) (hn : n ≤ 100) (hf : CzT N m n f) (hc : Cz N m c) (hm : m ≤ 100000) (hi : i < n) (hj : j < n) (hlt : ∃ x, f j i = some x ∧ x + c < 0) {e : Ev} {δ : Sl} (he : e δ μ = m_with_bound [.p (tbP n f), .p (.int (i : Int)), .p (.int (j : Int)), .p (rat c)] μ) :
    evFrz e δ μ = some (.ok (.p .non), μ) := by
  rw [evFrz_eq, he, (ev_wb (μ := μ) hN hn hf hc hm hi hj).1 hlt, bindG_ok]
  rfl
theorem wb_cz (hN : Nok N) (hf : CzT N m n f) {c : Rat} (hc : Cz N m c) {i j : Nat} (hi : i < n) (hj : j < n) : CzT N (m + 2) n (wb f i j c) := hf.bw hN (czo_some hc) hi hj
/-! ### the table with gaps -/
def gpV (ps : List Rat) (i j : Nat) (o : Option Rat) : Option Rat := o.map fun x => pAt ps i + -pAt ps j + x
theorem gcell {ps : List Rat} (hps : ∀ q ∈ ps, Dr q) {i a : Nat} (hi : i < ps.length) (ha : a < ps.length) {s : SS} (hs : s.Ok) {gp : Int} (h0 : 0 < gp) (h4 : gp ≤ 4) {c1 c3 c5 : Option D} {p : Nat} :
    ∃ (o : Option Rat) (s' : SS), s'.Ok ∧ (∀ x, o = some x → Dr x ∧ 0 ≤ x) ∧ ∀ (r : Mu) (acc : List P) (c9 : Option D), r[p]? = some (some (.lst acc)) → acc.length < 900 →
      lb__law_gaps_0 [some (.loc 0), c1, some (.p (.lst (ps.map pr))), c3, some (.p (.int gp)), c5, some (.p (.int (i : Int))), some (.loc (p + 1)), some (.p (.int (a : Int))), c9] (st s :: r)
      = some (.nx, [some (.loc 0), c1, some (.p (.lst (ps.map pr))), c3, some (.p (.int gp)), c5, some (.p (.int (i : Int))), some (.loc (p + 1)), some (.p (.int (a : Int))), some (.p (opQ (gpV ps i a o)))], st s' :: r.set p (some (.lst (acc ++ [opQ (gpV ps i a o)])))) := by
  obtain ⟨v, s1, o1, l1, u1, e1⟩ := draw0 gp hs h0 (Nat.lt_of_lt_of_le (PySem.Flt.log2_lt_of (k := 10) (by decide) (by omega)) (by decide))
  by_cases hv : v = 0
  · subst hv
    obtain ⟨q, s2, o2, d2, e2⟩ := number0 o1
    have dab : Dr (ab q) := by
      refine ⟨?_, by rw [ab_den]; exact d2.2⟩
      rw [ab_num]
      split
      · exact d2.1.neg
      · exact d2.1
    have mem : ∀ x, x < ps.length → Dr (pAt ps x) := fun x hx => hps _ (by
      unfold pAt
      rw [List.getD_eq_getElem?_getD, List.getElem?_eq_getElem hx]
      exact List.getElem_mem _)
    have mi := mem i hi
    have ma := mem a ha
    refine ⟨some (ab q), s2, o2, (fun x hx => by cases hx; exact ⟨dab, ab_nonneg⟩), fun r acc c9 hc hl => ?_⟩
    have g1 := fun ν : Mu => ps_at (μ := ν) hi
    have g2 := fun ν : Mu => ps_at (μ := ν) ha
    have g3 := fun ν : Mu => ev_lminus (μ := ν) (a := pAt ps a)
    have g4 := fun ν : Mu => ev_lsum (μ := ν) mi.bz ma.bz.neg (by decide)
    have g0 := e1 r
    have g5 := e2 r
    have g6 := fun ν : Mu => ev_lsize (μ := ν) (a := q)
    have g7 := fun ν : Mu => ev_lsum (μ := ν) (mi.bz.add ma.bz.neg) dab.bz (by decide)
    have hc' : (st s2 :: r)[p + 1]? = some (some (.lst acc)) := by simpa using hc
    have g8 := isLst_l hc'
    have g9 := fApp_at (y := pr (pAt ps i + -pAt ps a + ab q)) hc' (by omega)
    rw [List.set_cons_succ] at g9
    show lb__law_gaps_0 _ _ = some (.nx, [some (.loc 0), c1, some (.p (.lst (ps.map pr))), c3, some (.p (.int gp)), c5, some (.p (.int (i : Int))), some (.loc (p + 1)), some (.p (.int (a : Int))), some (.p (pr (pAt ps i + -pAt ps a + ab q)))], st s2 :: r.set p (some (.lst (acc ++ [pr (pAt ps i + -pAt ps a + ab q)]))))
    generalize (i : Int) = ii at *
    generalize (a : Int) = ai at *
    simp [-fIx_lstp, lb__law_gaps_0, evBM_eq, g0, g8, g1, g2, g3, g4, g5, g6, g7, g9]
  · refine ⟨none, s1, o1, (fun x h => by cases h), fun r acc c9 hc hl => ?_⟩
    have g0 := e1 r
    have hc' : (st s1 :: r)[p + 1]? = some (some (.lst acc)) := by simpa using hc
    have g8 := isLst_l hc'
    have g9 := fApp_at (y := .non) hc' (by omega)
    rw [List.set_cons_succ] at g9
    show lb__law_gaps_0 _ _ = some (.nx, [some (.loc 0), c1, some (.p (.lst (ps.map pr))), c3, some (.p (.int gp)), c5, some (.p (.int (i : Int))), some (.loc (p + 1)), some (.p (.int (a : Int))), some (.p .non)], st s1 :: r.set p (some (.lst (acc ++ [.non]))))
    generalize (i : Int) = ii at *
    generalize (a : Int) = ai at *
    simp [lb__law_gaps_0, evBM_eq, g0, hv, g8, g9]
theorem grow {ps : List Rat} (hps : ∀ q ∈ ps, Dr q) {gp : Int} (h0 : 0 < gp) (h4 : gp ≤ 4) {c1 c3 c5 : Option D} {i : Nat} (hi : i < ps.length) {p : Nat} : ∀ (k a : Nat) (s : SS), s.Ok → a + k = ps.length →
    ∃ (xs : List (Option Rat)) (s' : SS), s'.Ok ∧ xs.length = k ∧ (∀ o ∈ xs, ∀ x, o = some x → Dr x ∧ 0 ≤ x) ∧ ∀ (r : Mu) (acc : List P) (c8 c9 : Option D), r[p]? = some (some (.lst acc)) → acc.length + k < 900 → ∃ c8' c9',
      forL (tgN 8) lb__law_gaps_0 (intsP a k) [some (.loc 0), c1, some (.p (.lst (ps.map pr))), c3, some (.p (.int gp)), c5, some (.p (.int (i : Int))), some (.loc (p + 1)), c8, c9] (st s :: r)
      = some (.nx, [some (.loc 0), c1, some (.p (.lst (ps.map pr))), c3, some (.p (.int gp)), c5, some (.p (.int (i : Int))), some (.loc (p + 1)), c8', c9'], st s' :: r.set p (some (.lst (acc ++ (xs.zipIdx a).map fun x => opQ (gpV ps i x.2 x.1)))))
  | 0, a, s, hs, ha => ⟨[], s, hs, rfl, fun x h => by simp at h, fun r acc c8 c9 hc hl => ⟨c8, c9, by
      simp only [List.zipIdx_nil, List.map_nil, List.append_nil, set_same hc]
      rfl⟩⟩
  | k + 1, a, s, hs, ha => by
    obtain ⟨o, s1, o1, d1, e1⟩ := gcell hps hi (show a < ps.length by omega) hs h0 h4 (c1 := c1) (c3 := c3) (c5 := c5) (p := p)
    obtain ⟨xs, s2, o2, l2, d2, e2⟩ := grow hps h0 h4 (c1 := c1) (c3 := c3) (c5 := c5) hi (p := p) k (a + 1) s1 o1 (by omega)
    refine ⟨o :: xs, s2, o2, by simp [l2], fun y hy => ?_, fun r acc c8 c9 hc hl => ?_⟩
    · rcases List.mem_cons.mp hy with rfl | hy
      · exact d1
      · exact d2 y hy
    · obtain ⟨c8', c9', e3⟩ := e2 (r.set p (some (.lst (acc ++ [opQ (gpV ps i a o)])))) (acc ++ [opQ (gpV ps i a o)]) (some (.p (.int (a : Int)))) (some (.p (opQ (gpV ps i a o)))) (set_get hc) (by simp; omega)
      refine ⟨c8', c9', ?_⟩
      rw [intsP_succ, forL_nx (δ1 := [some (.loc 0), c1, some (.p (.lst (ps.map pr))), c3, some (.p (.int gp)), c5, some (.p (.int (i : Int))), some (.loc (p + 1)), some (.p (.int (a : Int))), c9]) rfl (e1 r acc c9 hc (by omega)), e3, List.set_set, List.zipIdx_cons, List.map_cons, List.append_assoc]
      rfl
abbrev gRow (ps : List Rat) (i : Nat) (xs : List (Option Rat)) : List P := (xs.zipIdx 0).map fun x => opQ (gpV ps i x.2 x.1)
theorem gmat {ps : List Rat} (hps : ∀ q ∈ ps, Dr q) (hl : ps.length ≤ 100) {gp : Int} (h0 : 0 < gp) (h4 : gp ≤ 4) {c3 : Option D} : ∀ (k a : Nat) (s : SS) (gar : Mu) (acc : List P) (c6 c7 c8 c9 : Option D), s.Ok → a + k = ps.length → acc.length + k < 900 →
    ∃ (xss : List (List (Option Rat))) (s' : SS) (gar' : Mu) (c6' c7' c8' c9' : Option D), s'.Ok ∧ xss.length = k ∧ (∀ xs ∈ xss, xs.length = ps.length ∧ ∀ o ∈ xs, ∀ x, o = some x → Dr x ∧ 0 ≤ x) ∧
      forL (tgN 6) lb__law_gaps_1 (intsP a k) [some (.loc 0), some (.p (.int (ps.length : Int))), some (.p (.lst (ps.map pr))), c3, some (.p (.int gp)), some (.loc 1), c6, c7, c8, c9] (st s :: some (.lst acc) :: gar)
      = some (.nx, [some (.loc 0), some (.p (.int (ps.length : Int))), some (.p (.lst (ps.map pr))), c3, some (.p (.int gp)), some (.loc 1), c6', c7', c8', c9'], st s' :: some (.lst (acc ++ (xss.zipIdx a).map fun xs => P.lst (gRow ps xs.2 xs.1))) :: gar')
  | 0, a, s, gar, acc, c6, c7, c8, c9, hs, ha, hc => ⟨[], s, gar, c6, c7, c8, c9, hs, rfl, fun x h => by simp at h, by
      simp only [List.zipIdx_nil, List.map_nil, List.append_nil]
      rfl⟩
  | k + 1, a, s, gar, acc, c6, c7, c8, c9, hs, ha, hc => by
    obtain ⟨xs, s1, o1, l1, d1, e1⟩ := grow hps h0 h4 (c1 := some (.p (.int (ps.length : Int)))) (c3 := c3) (c5 := some (.loc 1)) (i := a) (by omega) (p := gar.length + 1) ps.length 0 s hs (by omega)
    obtain ⟨c8a, c9a, e1⟩ := e1 (some (.lst acc) :: (gar ++ [some (.lst [])])) [] c8 c9 (by simp) (by simp; omega)
    generalize hR : gRow ps a xs = R
    have hset : (some (MO.lst acc) :: (gar ++ [some (.lst [])])).set (gar.length + 1) (some (.lst ([] ++ (xs.zipIdx 0).map fun x => opQ (gpV ps a x.2 x.1)))) = some (.lst acc) :: (gar ++ [some (.lst R)]) := by
      rw [List.set_cons_succ, set_end rfl, List.nil_append, ← hR]
    rw [hset] at e1
    have q1 : sSet 7 (evLstC evNil) [some (.loc 0), some (.p (.int (ps.length : Int))), some (.p (.lst (ps.map pr))), c3, some (.p (.int gp)), some (.loc 1), some (.p (.int (a : Int))), c7, c8, c9] (st s :: some (.lst acc) :: gar)
        = some (.nx, [some (.loc 0), some (.p (.int (ps.length : Int))), some (.p (.lst (ps.map pr))), c3, some (.p (.int gp)), some (.loc 1), some (.p (.int (a : Int))), some (.loc (gar.length + 1 + 1)), c8, c9], st s :: some (.lst acc) :: (gar ++ [some (.lst [])])) := by
      generalize (a : Int) = ai
      generalize (ps.length : Int) = ni
      simp
    have q2 : fApp (.loc 1) [.loc (gar.length + 1 + 1)] (st s1 :: some (.lst acc) :: (gar ++ [some (.lst R)])) = some (.p .non, st s1 :: some (.lst (acc ++ [P.lst R])) :: (gar ++ [none])) := by
      rw [ap_new (xs := acc) (ys := R) (by simp) (by simp) (by omega) (by omega), List.set_cons_succ, List.set_cons_succ, List.set_cons_succ, set_end rfl]
      rfl
    have q3 : isLst (st s1 :: some (.lst acc) :: (gar ++ [some (.lst R)])) (.loc 1) = true := isLst_l (by rfl)
    have hr := rng_n (δ := [some (.loc 0), some (.p (.int (ps.length : Int))), some (.p (.lst (ps.map pr))), c3, some (.p (.int gp)), some (.loc 1), some (.p (.int (a : Int))), some (.loc (gar.length + 1 + 1)), c8, c9]) (μ := st s :: some (.lst acc) :: (gar ++ [some (.lst [])])) (ν := st s :: some (.lst acc) :: (gar ++ [some (.lst [])])) ps.length (e := evV 1) rfl (by omega)
    have body : lb__law_gaps_1 [some (.loc 0), some (.p (.int (ps.length : Int))), some (.p (.lst (ps.map pr))), c3, some (.p (.int gp)), some (.loc 1), some (.p (.int (a : Int))), c7, c8, c9] (st s :: some (.lst acc) :: gar)
        = some (.nx, [some (.loc 0), some (.p (.int (ps.length : Int))), some (.p (.lst (ps.map pr))), c3, some (.p (.int gp)), some (.loc 1), some (.p (.int (a : Int))), some (.loc (gar.length + 1 + 1)), c8a, c9a], st s1 :: some (.lst (acc ++ [P.lst R])) :: (gar ++ [none])) := by
      show seqS (sSet 7 (evLstC evNil)) (seqS (sFor (evRng1 (evV 1)) (tgN 8) lb__law_gaps_0) (sExpr (evBM isLst fApp (evV 5) (evCons (evV 7) evNil)))) _ _ = _
      rw [seqS_eq, q1, andThen_nx, seqS_eq, sFor_eq, hr, bindS_ok, e1, andThen_nx]
      generalize (a : Int) = ai
      generalize (ps.length : Int) = ni
      simp [evBM_eq, q2, q3]
    obtain ⟨xss, s2, gar', d6, d7, d8, d9, o2, l2, p2, e2⟩ := gmat hps hl h0 h4 (c3 := c3) k (a + 1) s1 (gar ++ [none]) (acc ++ [P.lst R]) (some (.p (.int (a : Int)))) (some (.loc (gar.length + 1 + 1))) c8a c9a o1 (by omega) (by simp; omega)
    refine ⟨xs :: xss, s2, gar', d6, d7, d8, d9, o2, by simp [l2], fun x hx => ?_, ?_⟩
    · rcases List.mem_cons.mp hx with rfl | hx
      · exact ⟨l1, d1⟩
      · exact p2 x hx
    · rw [intsP_succ, forL_nx rfl body, e2, List.zipIdx_cons, List.map_cons, List.append_assoc, ← hR]
      rfl
def gpT (ps : List Rat) (xss : List (List (Option Rat))) : Tf := fun i j => gpV ps i j ((xss.getD i []).getD j none)
theorem gpT_tbl {ps : List Rat} {xss : List (List (Option Rat))} (hl : xss.length = ps.length) (h : ∀ xs ∈ xss, xs.length = ps.length) : (tbQ ps.length (gpT ps xss)).map P.lst = (xss.zipIdx 0).map fun xs => P.lst (gRow ps xs.2 xs.1) := by
  apply List.ext_getElem?
  intro i
  rw [List.getElem?_map, List.getElem?_map]
  by_cases hi : i < ps.length
  · obtain ⟨R, e⟩ : ∃ R, xss[i]? = some R := ⟨_, List.getElem?_eq_getElem (by rw [hl]; exact hi)⟩
    have e' : (xss.zipIdx 0)[i]? = some (R, i) := by rw [List.getElem?_zipIdx, e]; simp
    rw [tbQ_get hi, e']
    show some (P.lst (rwQ ps.length (gpT ps xss i))) = some (P.lst ((R.zipIdx 0).map _))
    have hm := h _ (List.mem_of_getElem? e)
    congr 2
    apply List.ext_getElem?
    intro j
    rw [List.getElem?_map]
    by_cases hj : j < ps.length
    · obtain ⟨y, e2⟩ : ∃ y, R[j]? = some y := ⟨_, List.getElem?_eq_getElem (by rw [hm]; exact hj)⟩
      have e3 : (R.zipIdx 0)[j]? = some (y, j) := by rw [List.getElem?_zipIdx, e2]; simp
      rw [show (rwQ ps.length (gpT ps xss i))[j]? = some (opQ (gpT ps xss i j)) from rwL_get hj, e3]
      show some (opQ (gpT ps xss i j)) = some (opQ (gpV ps i j y))
      unfold gpT
      rw [List.getD_eq_getElem?_getD (l := xss), e, Option.getD_some, List.getD_eq_getElem?_getD, e2, Option.getD_some]
    · rw [List.getElem?_eq_none (by rw [rwQ_len]; omega), List.getElem?_eq_none (by rw [List.length_zipIdx]; omega)]
      rfl
  · rw [List.getElem?_eq_none (by rw [tbQ_len]; omega), List.getElem?_eq_none (by rw [List.length_zipIdx]; omega)]
    rfl
/-- what is told of a known table, with None in it -/
structure KnO (B N m n : Nat) (g : Tf) : Prop where
  nb : Nb B N
  clo : Clo n g
  cz : CzT N m n g
theorem gaps_nok {ps : List Rat} {xss : List (List (Option Rat))} (d2 : ∀ q ∈ ps, Dr q) (hl3 : xss.length = ps.length) (hn : ps.length ≤ 6) (d3 : ∀ xs ∈ xss, xs.length = ps.length ∧ ∀ o ∈ xs, ∀ x, o = some x → Dr x ∧ 0 ≤ x) : ∃ N, Nb 900 N ∧ (∀ q ∈ ps, Cz N 1000 q) ∧ ∀ xs ∈ xss, ∀ x, some x ∈ xs → Cz N 1000 x := by
  let os : List (Option Rat) := ps.map some ++ xss.flatten
  have hm : ∀ q, some q ∈ os → Dr q := fun q hq => by
    rcases List.mem_append.mp hq with h | h
    · obtain ⟨c, hc, e⟩ := List.mem_map.mp h
      have e := Option.some.inj e
      subst e
      exact d2 c hc
    · obtain ⟨xs, h1, h2⟩ := List.mem_flatten.mp h
      exact ((d3 xs h1).2 _ h2 q rfl).1
  have hp := dnP_pos os
  have hfl : xss.flatten.length ≤ 36 := by
    have go : ∀ (l : List (List (Option Rat))), (∀ os ∈ l, os.length = ps.length) → l.flatten.length = l.length * ps.length := by
      intro l
      induction l with
      | nil => intro _; simp
      | cons x l ih =>
        intro hx
        rw [List.flatten_cons, List.length_append, ih (fun y hy => hx y (List.mem_cons_of_mem _ hy)), hx x List.mem_cons_self, List.length_cons, Nat.add_mul]
        omega
    rw [go xss fun os ho => (d3 os ho).1, hl3]
    exact Nat.le_trans (Nat.mul_le_mul hn hn) (by decide)
  have hN : dnP os < 2 ^ 900 := by
    refine Nat.lt_of_lt_of_le (dnP_lt fun q hq => (hm q hq).2) (Nat.pow_le_pow_right (by decide) ?_)
    show 20 * (ps.map some ++ xss.flatten).length + 1 ≤ 900
    rw [List.length_append, List.length_map]
    omega
  have hz : ∀ q, some q ∈ os → Cz (dnP os) 1000 q := fun q hq => (cz_of (a := 30) (b := 900) (dnP_dvd hq) hp (hm q hq).1 (by unfold Sz; rw [Int.natAbs_natCast]; exact hN)).mono (by decide)
  have hNok : Nok (dnP os) := ⟨hp, Nat.lt_of_lt_of_le hN (Nat.pow_le_pow_right (by decide) (by decide))⟩
  refine ⟨dnP os, ⟨hNok, hN⟩, fun q hq => ?_, fun xs h1 x h2 => ?_⟩
  · have h2 : some q ∈ os := List.mem_append.mpr (.inl (List.mem_map.mpr ⟨_, hq, rfl⟩))
    exact hz _ h2
  · have h3 : some x ∈ os := List.mem_append.mpr (.inr (List.mem_flatten.mpr ⟨_, h1, h2⟩))
    exact hz _ h3
theorem gaps_ex {s : SS} (hs : s.Ok) : ∃ n g N s', SS.Ok s' ∧ 0 < n ∧ n ≤ 6 ∧ KnO 900 N 3000 n g ∧ m__law_gaps [.loc 0] [st s] = some (.ok (.p (tqP n g)), [st s']) := by
  obtain ⟨v, s1, o1, u1, e1⟩ := draw0n (n := 6) hs (by decide) (by decide)
  have e1 := e1 []
  obtain ⟨ps, s2, o2, l2, d2, e2⟩ := ev_nums (δ := [some (.loc 0), some (.p (.int ((v + 1 : Nat) : Int))), none, none, none, none, none, none, none, none]) (it := evRng1 (evV 1)) (r := []) (x := 3) (n := v + 1) o1 (by omega) (rng_n (v + 1) rfl (by omega)) (by decide) rfl
  obtain ⟨gp, s3, o3, g0, g3, e3⟩ := draw0 3 o2
  have e3 := e3 []
  obtain ⟨xss, s4, gar, c6, c7, c8, c9, o4, l4, d4, e4⟩ := gmat d2 (by omega) (gp := 1 + gp) (by omega) (by omega) (c3 := none) (v + 1) 0 s3 [] [] none none none none o3 (by omega) (by simp; omega)
  rw [← l2] at e4
  have hl3 : xss.length = ps.length := by omega
  have tb := gpT_tbl hl3 fun xs hx => (d4 xs hx).1
  rw [List.nil_append, ← tb] at e4
  have hn : ps.length ≤ 6 := by omega
  obtain ⟨N, nb, hz1, hz2⟩ := gaps_nok d2 hl3 hn d4
  have hNok := nb.nok
  have hps : ∀ i, i < ps.length → Cz N 1000 (pAt ps i) := fun i hi => by
    have hm : pAt ps i ∈ ps := by
      unfold pAt
      rw [List.getD_eq_getElem?_getD, List.getElem?_eq_getElem hi]
      exact List.getElem_mem _
    exact hz1 _ hm
  have ent : ∀ i j y, i < ps.length → j < ps.length → gpT ps xss i j = some y → ∃ x, Cz N 1000 x ∧ 0 ≤ x ∧ y = pAt ps i + -pAt ps j + x := fun i j y hi hj hy => by
    obtain ⟨R, e⟩ : ∃ R, xss[i]? = some R := ⟨_, List.getElem?_eq_getElem (by rw [hl3]; exact hi)⟩
    have hmm := List.mem_of_getElem? e
    obtain ⟨o, e2⟩ : ∃ o, R[j]? = some o := ⟨_, List.getElem?_eq_getElem (by rw [(d4 _ hmm).1]; exact hj)⟩
    have h2 := List.mem_of_getElem? e2
    unfold gpT gpV at hy
    rw [List.getD_eq_getElem?_getD (l := xss), e, Option.getD_some, List.getD_eq_getElem?_getD, e2, Option.getD_some, Option.map_eq_some_iff] at hy
    obtain ⟨x, hx, hy⟩ := hy
    subst hx
    exact ⟨x, hz2 _ hmm _ h2, ((d4 _ hmm).2 _ h2 x rfl).2, hy.symm⟩
  have hcz : CzT N 1002 ps.length (gpT ps xss) := fun i j hi hj q hq => by
    obtain ⟨x, h1, h2, rfl⟩ := ent i j q hi hj hq
    exact Cz.add hNok (Cz.add hNok (hps i hi) ((hps j hj).neg hNok)) (h1.mono (by decide))
  have nn : NN ps.length (gpT ps xss) := nn_pot (τ := pAt ps) fun i j y hi hj e => by
    obtain ⟨x, h1, h2, rfl⟩ := ent i j y hi hj e
    grind
  obtain ⟨h, eh, C⟩ := bf_nn nn
  have hc4 := bfT_cz hNok hcz eh
  have e5 := ev_lclosed (μ := st s4 :: some (.lst ((tbQ ps.length (gpT ps xss)).map P.lst)) :: gar) (d := .loc 1) hNok (by omega) hcz (by decide) (view_l rfl)
  rw [eh] at e5
  refine ⟨ps.length, h, N, s4, o4, by omega, hn, ⟨nb, C.clo nn, hc4.mono (by omega)⟩, ?_⟩
  have t1 : sSet 1 (evBin fAdd (evC (.int 1)) (evCall m__law_draw [] (evCons (evV 0) (evCons (evC (.int 6)) evNil)))) [some (.loc 0), none, none, none, none, none, none, none, none, none] [st s]
      = some (.nx, [some (.loc 0), some (.p (.int ((v + 1 : Nat) : Int))), none, none, none, none, none, none, none, none], [st s1]) := by
    rw [show ((v + 1 : Nat) : Int) = 1 + (v : Int) by omega]
    have e1 : m__law_draw [.loc 0, .p (.int 6)] [st s] = some (.ok (.p (.int (v : Int))), [st s1]) := e1
    generalize (v : Int) = vi at *
    simp [e1]
  have t2 : sSet 2 (evLc (evRng1 (evV 1)) (tgN 3) evTrue (evCall m__law_number [] (evCons (evV 0) evNil)) [3]) [some (.loc 0), some (.p (.int ((v + 1 : Nat) : Int))), none, none, none, none, none, none, none, none] [st s1]
      = some (.nx, [some (.loc 0), some (.p (.int ((v + 1 : Nat) : Int))), some (.p (.lst (ps.map pr))), none, none, none, none, none, none, none], [st s2]) := by
    rw [sSet_eq, e2, bindS_ok]; rfl
  have t3 : sSet 4 (evBin fAdd (evC (.int 1)) (evCall m__law_draw [] (evCons (evV 0) (evCons (evC (.int 3)) evNil)))) [some (.loc 0), some (.p (.int ((v + 1 : Nat) : Int))), some (.p (.lst (ps.map pr))), none, none, none, none, none, none, none] [st s2]
      = some (.nx, [some (.loc 0), some (.p (.int ((v + 1 : Nat) : Int))), some (.p (.lst (ps.map pr))), none, some (.p (.int (1 + gp))), none, none, none, none, none], [st s3]) := by
    generalize ((v + 1 : Nat) : Int) = vi at *
    simp [e3]
  have t4 : sSet 5 (evLstC evNil) [some (.loc 0), some (.p (.int ((v + 1 : Nat) : Int))), some (.p (.lst (ps.map pr))), none, some (.p (.int (1 + gp))), none, none, none, none, none] [st s3]
      = some (.nx, [some (.loc 0), some (.p (.int ((v + 1 : Nat) : Int))), some (.p (.lst (ps.map pr))), none, some (.p (.int (1 + gp))), some (.loc 1), none, none, none, none], [st s3, some (.lst [])]) := rfl
  have hr := rng_n (δ := [some (.loc 0), some (.p (.int ((v + 1 : Nat) : Int))), some (.p (.lst (ps.map pr))), none, some (.p (.int (1 + gp))), some (.loc 1), none, none, none, none]) (μ := [st s3, some (.lst [])]) (ν := [st s3, some (.lst [])]) (v + 1) (e := evV 1) rfl (by omega)
  rw [l2] at e4 e5
  have t5 : sv__law_gaps [some (.loc 0), none, none, none, none, none, none, none, none, none] [st s] = some (.ret (.p (tqP (v + 1) h)), [some (.loc 0), some (.p (.int ((v + 1 : Nat) : Int))), some (.p (.lst (ps.map pr))), none, some (.p (.int (1 + gp))), some (.loc 1), c6, c7, c8, c9], st s4 :: some (.lst ((tbQ (v + 1) (gpT ps xss)).map P.lst)) :: gar) := by
    show seqS _ (seqS _ (seqS _ (seqS _ (seqS (sFor (evRng1 (evV 1)) (tgN 6) lb__law_gaps_1) _)))) _ _ = _
    rw [seqS_eq, t1, andThen_nx, seqS_eq, t2, andThen_nx, seqS_eq, t3, andThen_nx, seqS_eq, t4, andThen_nx, seqS_eq, sFor_eq, hr, bindS_ok, e4, andThen_nx, sRet_eq, evCall_eq, evCons_eq, evV_5, bindG_ok, evNil_eq, bindG_ok, bindG_ok]
    show bindS (m__law_closed [.loc 1] _) _ _ = _
    rw [e5, bindS_ok]
    rfl
  rw [l2]
  show (if [D.loc 0].length = 1 then bodySem 10 sv__law_gaps [.loc 0] [st s] else none) = _
  rw [if_pos (show [D.loc 0].length = 1 from rfl), bodySem_eq]
  show retF 1 (sv__law_gaps [some (.loc 0), none, none, none, none, none, none, none, none, none] [st s]) = _
  rw [t5, retF_p]
  rfl
/-! ### the condition -/
theorem nb_mul (h : Nb B N) {d k : Nat} (hd : 0 < d) (hk : d ≤ 2 ^ k) (hB : B + k ≤ 2990) : Nb (B + k) (N * d) := by
  have h1 : N * d < 2 ^ (B + k) := by
    rw [Nat.pow_add]
    exact Nat.lt_of_lt_of_le (Nat.mul_lt_mul_of_pos_right h.lt hd) (Nat.mul_le_mul_left _ hk)
  exact ⟨⟨Nat.mul_pos h.nok.pos hd, Nat.lt_of_lt_of_le h1 (Nat.pow_le_pow_right (by decide) (by omega))⟩, h1⟩
theorem KnO.mul (k : KnO B N m n g) {d x : Nat} (hd : 0 < d) (hx : d ≤ 2 ^ x) (hB : B + x ≤ 2990) : KnO (B + x) (N * d) (m + x + 1) n g := ⟨nb_mul k.nb hd hx hB, k.clo, fun i j hi hj => (k.cz i j hi hj).scale hd hx⟩
theorem gq_at {i j : Nat} (hi : i < n) (hj : j < n) : fIx (.p (tqP n g)) (.p (.int (i : Int))) μ = some (.p (.lst (rwQ n (g i))), μ) ∧ fIx (.p (.lst (rwQ n (g i)))) (.p (.int (j : Int))) μ = some (.p (opQ (g i j)), μ) :=
  ⟨(fat_p (f := g)).row hi, qrow_at hj⟩
/-- a drawn number over a greater denominator -/
theorem dr_cz {q : Rat} (hN : 0 < N) (hb : N < 2 ^ B) (h : Dr q) : Cz (N * q.den) (B + 30) q := by
  have h1 := cz_of (N := N * q.den) (a := 30) (b := B + 20) (Nat.dvd_mul_left _ _) (Nat.mul_pos hN q.den_pos) h.1 (by
    unfold Sz
    rw [Int.natAbs_natCast, Nat.pow_add]
    have h2 := h.2
    unfold Sz at h2
    rw [Int.natAbs_natCast] at h2
    exact Nat.mul_lt_mul'' hb h2)
  obtain ⟨t, e, ht⟩ := h1
  refine ⟨q.num * (N : Int), ?_, ?_⟩
  · rw [show ((N * q.den : Nat) : Int) = (q.den : Int) * (N : Int) by rw [Int.natCast_mul, Int.mul_comm], Rat.divInt_mul_right (by omega), Rat.num_divInt_den]
  · exact (h.1.mul (show Sz B (N : Int) by unfold Sz; rw [Int.natAbs_natCast]; exact hb)).mono (by omega)
theorem cond31 (hn : n ≤ 100) (k : KnO B N m n g) (hB : B ≤ 2000) (hm : m ≤ 50000) {i j : Nat} (hi : i < n) (hj : j < n) {s : SS} (hs : s.Ok) :
    ∃ (c : Rat) (d : Nat) (s' : SS), s'.Ok ∧ 0 < d ∧ d ≤ 2 ^ 20 ∧ Cz (N * d) (m + B + 60) c ∧ ∀ r : Mu, m__law_condition [.loc 0, .p (tqP n g), .p (.int (i : Int)), .p (.int (j : Int))] (st s :: r) = some (.ok (.p (pr c)), st s' :: r) := by
  have hN := k.nb.nok
  have g1 := fun ν : Mu => (gq_at (μ := ν) (g := g) hi hj).1
  have g2 := fun ν : Mu => (gq_at (μ := ν) (g := g) hi hj).2
  have g3 := fun ν : Mu => (gq_at (μ := ν) (g := g) hj hi).1
  have g4 := fun ν : Mu => (gq_at (μ := ν) (g := g) hj hi).2
  by_cases hnone : g i j = none ∨ g j i = none
  · obtain ⟨q, s1, o1, d1, e1⟩ := number0 hs
    refine ⟨q, q.den, s1, o1, q.den_pos, ?_, (dr_cz hN.pos k.nb.lt d1).mono (by omega), fun r => ?_⟩
    · have h2 := d1.2
      unfold Sz at h2
      rw [Int.natAbs_natCast] at h2
      exact Nat.le_of_lt h2
    · have e1 := e1 r
      cases h1 : g i j with
      | none =>
        simp only [h1, opQ_none] at g2
        generalize (i : Int) = ii at *
        generalize (j : Int) = jj at *
        simp [-fIx_lstp, m__law_condition, arF, bodySem_eq, sv__law_condition, g1, g2, e1]
      | some x =>
        have h2 : g j i = none := hnone.resolve_left (by rw [h1]; simp)
        simp only [h1, opQ_some] at g2
        simp only [h2, opQ_none] at g4
        generalize (i : Int) = ii at *
        generalize (j : Int) = jj at *
        simp [-fIx_lstp, m__law_condition, arF, bodySem_eq, sv__law_condition, g1, g2, g3, g4, e1]
  · obtain ⟨x, hx⟩ : ∃ x, g i j = some x := by
      cases h : g i j with
      | none => exact absurd (.inl h) hnone
      | some x => exact ⟨x, rfl⟩
    obtain ⟨y, hy⟩ : ∃ y, g j i = some y := by
      cases h : g j i with
      | none => exact absurd (.inr h) hnone
      | some x => exact ⟨x, rfl⟩
    simp only [hx, opQ_some] at g2
    simp only [hy, opQ_some] at g4
    have zx := k.cz i j hi hj x hx
    have zy := (k.cz j i hj hi y hy).neg hN
    have bx := zx.bz hN (by omega)
    have by' := zy.bz hN (by omega)
    have m1 := fun ν : Mu => ev_lminus (μ := ν) (a := y)
    have m2 := fun ν : Mu => ev_lminus (μ := ν) (a := -y)
    obtain ⟨v, s1, o1, l1, u1, e1⟩ := draw0 6 hs
    by_cases hv : v = 0
    · subst hv
      obtain ⟨a, s2, o2, a0, a2, e2⟩ := draw0 2 o1
      obtain ⟨b, s3, o3, b0, b2, e3⟩ := draw0 1000 o2
      have hb0 : 1 + b ≠ 0 := by omega
      have zb : Sz 10 (1 + b) := by unfold Sz; omega
      have za : Sz 10 (a - 1) := by unfold Sz; omega
      have p1 := fun ν : Mu => ev_pair (n := a - 1) (μ := ν) hb0 (zb.mono (by decide))
      have bq : Bz 10 (Rat.divInt (a - 1) (1 + b)) := bz_of hb0 (by decide) za (by decide) zb
      have p2 := fun ν : Mu => ev_lsum (μ := ν) by' bq (by decide)
      have hd : ((1 + b).toNat : Int) = 1 + b := by omega
      have hd0 : 0 < (1 + b).toNat := by omega
      have hd1 : (1 + b).toNat ≤ 2 ^ 20 := by omega
      have cq : Cz (N * (1 + b).toNat) (B + 30) (Rat.divInt (a - 1) (1 + b)) := by
        refine ⟨(a - 1) * (N : Int), ?_, (za.mul (show Sz B (N : Int) by unfold Sz; rw [Int.natAbs_natCast]; exact k.nb.lt)).mono (by omega)⟩
        have hNp := hN.pos
        rw [Int.natCast_mul, hd, Int.mul_comm (N : Int), Rat.divInt_mul_right (by omega)]
      refine ⟨_, (1 + b).toNat, s3, o3, hd0, hd1, (Cz.add (m := m + B + 50) ?_ ((zy.scale hd0 hd1).mono (by omega)) (cq.mono (by omega))).mono (by omega), fun r => ?_⟩
      · exact (nb_mul k.nb hd0 hd1 (by omega)).nok
      · have e1 := e1 r
        have e2 := e2 r
        have e3 := e3 r
        generalize (i : Int) = ii at *
        generalize (j : Int) = jj at *
        generalize hq : Rat.divInt (a - 1) (1 + b) = q at *
        simp [-fIx_lstp, m__law_condition, arF, bodySem_eq, sv__law_condition, g1, g2, g3, g4, m1, e1, e2, e3, p1, p2]
    · obtain ⟨d, s2, o2, d0, d6, e2⟩ := draw0 6 o1
      have bd : Bz 1 (d : Rat) := bz_int (by unfold Sz; omega) (by decide)
      have b4 : Bz 3 ((4 : Int) : Rat) := bz_int (by unfold Sz; decide) (by decide)
      have kx : Bz 3000 (x + - -y) := (zx.add hN (zy.neg hN)).bz hN (by omega)
      have p4 := fun ν : Mu => ev_lsum (μ := ν) bx by'.neg (by decide)
      have p5 := fun ν : Mu => ev_ltimes (μ := ν) kx bd (by decide)
      have n4 : ((4 : Int) : Rat) ≠ 0 := by decide +kernel
      have s4 : Sz 3 ((4 : Int) : Rat).num := by unfold Sz; decide +kernel
      have p6 := fun ν : Mu => ev_lover (μ := ν) (kx.mul bd) b4 s4 n4 (by decide) (by decide)
      have k7 := (kx.mul bd).div b4 s4 n4 (by decide)
      have p7 := fun ν : Mu => ev_lsum (μ := ν) by' k7 (by decide)
      simp only [pr_int] at p5 p6 p7
      have e4 : ((4 : Int) : Rat) = 4 := rfl
      have hz : Cz (N * 4) (m + 10) (-y + (x + - -y) * (d : Rat) / ((4 : Int) : Rat)) := by
        rw [e4]
        exact (cz4 (m := m + 1) hN.pos (zy.mono (by omega)) (zx.add hN (zy.neg hN)) d0 (by omega)).mono (by omega)
      refine ⟨_, 4, s2, o2, by decide, by decide, hz.mono (by omega), fun r => ?_⟩
      have e1 := e1 r
      have e2 := e2 r
      generalize (i : Int) = ii at *
      generalize (j : Int) = jj at *
      generalize hq : (x + - -y) * (d : Rat) / ((4 : Int) : Rat) = q at *
      simp [-fIx_lstp, -Rat.neg_neg, m__law_condition, arF, bodySem_eq, sv__law_condition, g1, g2, g3, g4, m1, m2, e1, hv, e2, p4, p5, p6, p7]
end
end Vs
namespace Vs
open PySem PySem.Spec PyProof.Rows L2
def top (i : Nat) : Stmt := PySem.Challenge.pw_traproom_k31_further_conditions.main.body.getD i (.Pass ⟨0, 0, 0, 0⟩)
abbrev s_Ratiou_initu : Stmt := inClass (top 5) 0
theorem sc_Ratiou_initu : FnScope ["self", "n", "d", "shared"] ["self", "n", "d"] (defScope s_Ratiou_initu) := ⟨rfl, rfl, rfl, by decide +kernel, rfl, by decide +kernel, by decide +kernel⟩
abbrev s_Ratiou_addu : Stmt := inClass (top 5) 1
theorem sc_Ratiou_addu : FnScope ["self", "other"] ["self", "other"] (defScope s_Ratiou_addu) := ⟨rfl, rfl, rfl, by decide +kernel, rfl, by decide +kernel, by decide +kernel⟩
abbrev s_Ratiou_subu : Stmt := inClass (top 5) 2
theorem sc_Ratiou_subu : FnScope ["self", "other"] ["self", "other"] (defScope s_Ratiou_subu) := ⟨rfl, rfl, rfl, by decide +kernel, rfl, by decide +kernel, by decide +kernel⟩
abbrev s_Ratiou_mulu : Stmt := inClass (top 5) 3
theorem sc_Ratiou_mulu : FnScope ["self", "other"] ["self", "other"] (defScope s_Ratiou_mulu) := ⟨rfl, rfl, rfl, by decide +kernel, rfl, by decide +kernel, by decide +kernel⟩
abbrev s_Ratiou_negu : Stmt := inClass (top 5) 4
theorem sc_Ratiou_negu : FnScope ["self"] ["self"] (defScope s_Ratiou_negu) := ⟨rfl, rfl, rfl, by decide +kernel, rfl, by decide +kernel, by decide +kernel⟩
abbrev s_Ratiou_equ : Stmt := inClass (top 5) 5
theorem sc_Ratiou_equ : FnScope ["self", "other"] ["self", "other"] (defScope s_Ratiou_equ) := ⟨rfl, rfl, rfl, by decide +kernel, rfl, by decide +kernel, by decide +kernel⟩
abbrev s__law_stream : Stmt := top 15
theorem sc__law_stream : FnScope ["script", "mixed", "cell"] ["script"] (defScope s__law_stream) := ⟨rfl, rfl, rfl, by decide +kernel, rfl, by decide +kernel, by decide +kernel⟩
abbrev s__law_draw : Stmt := top 16
theorem sc__law_draw : FnScope ["stream", "many", "value"] ["stream", "many"] (defScope s__law_draw) := ⟨rfl, rfl, rfl, by decide +kernel, rfl, by decide +kernel, by decide +kernel⟩
abbrev s__law_size : Stmt := top 23
theorem sc__law_size : FnScope ["a"] ["a"] (defScope s__law_size) := ⟨rfl, rfl, rfl, by decide +kernel, rfl, by decide +kernel, by decide +kernel⟩
abbrev s__law_pair : Stmt := top 17
theorem sc__law_pair : FnScope ["n", "d", "a", "b"] ["n", "d"] (defScope s__law_pair) := ⟨rfl, rfl, rfl, by decide +kernel, rfl, by decide +kernel, by decide +kernel⟩
abbrev s__law_sum : Stmt := top 18
theorem sc__law_sum : FnScope ["a", "b"] ["a", "b"] (defScope s__law_sum) := ⟨rfl, rfl, rfl, by decide +kernel, rfl, by decide +kernel, by decide +kernel⟩
abbrev s__law_number : Stmt := top 26
theorem sc__law_number : FnScope ["stream"] ["stream"] (defScope s__law_number) := ⟨rfl, rfl, rfl, by decide +kernel, rfl, by decide +kernel, by decide +kernel⟩
abbrev s__law_sheet : Stmt := top 27
theorem sc__law_sheet : FnScope ["stream", "rows", "k", "low", "high"] ["stream"] (defScope s__law_sheet) := ⟨rfl, rfl, rfl, by decide +kernel, rfl, by decide +kernel, by decide +kernel⟩
abbrev s__law_ways_up : Stmt := top 29
theorem sc__law_ways_up : FnScope ["rows", "i", "found"] ["rows", "i"] (defScope s__law_ways_up) := ⟨rfl, rfl, rfl, by decide +kernel, rfl, by decide +kernel, by decide +kernel⟩
abbrev s__law_minus : Stmt := top 19
theorem sc__law_minus : FnScope ["a"] ["a"] (defScope s__law_minus) := ⟨rfl, rfl, rfl, by decide +kernel, rfl, by decide +kernel, by decide +kernel⟩
abbrev s__law_greatest : Stmt := top 30
theorem sc__law_greatest : FnScope ["rows", "i", "j", "up", "down", "found", "k"] ["rows", "i", "j"] (defScope s__law_greatest) := ⟨rfl, rfl, rfl, by decide +kernel, rfl, by decide +kernel, by decide +kernel⟩
abbrev s__law_bounds : Stmt := top 31
theorem sc__law_bounds : FnScope ["rows", "many", "j", "i"] ["rows"] (defScope s__law_bounds) := ⟨rfl, rfl, rfl, by decide +kernel, rfl, by decide +kernel, by decide +kernel⟩
abbrev s_is_less : Stmt := top 6
theorem sc_is_less : FnScope ["a", "b"] ["a", "b"] (defScope s_is_less) := ⟨rfl, rfl, rfl, by decide +kernel, rfl, by decide +kernel, by decide +kernel⟩
abbrev s__lesser : Stmt := top 13
theorem sc__lesser : FnScope ["a", "b"] ["a", "b"] (defScope s__lesser) := ⟨rfl, rfl, rfl, by decide +kernel, rfl, by decide +kernel, by decide +kernel⟩
abbrev s__sum : Stmt := top 12
theorem sc__sum : FnScope ["a", "b"] ["a", "b"] (defScope s__sum) := ⟨rfl, rfl, rfl, by decide +kernel, rfl, by decide +kernel, by decide +kernel⟩
abbrev s__by_way_of : Stmt := top 11
theorem sc__by_way_of : FnScope ["rows", "i", "j", "c", "onward", "entry", "more", "row"] ["rows", "i", "j", "c"] (defScope s__by_way_of) := ⟨rfl, rfl, rfl, by decide +kernel, rfl, by decide +kernel, by decide +kernel⟩
abbrev s_closed : Stmt := top 9
theorem sc_closed : FnScope ["table", "rows", "row", "i", "k"] ["table"] (defScope s_closed) := ⟨rfl, rfl, rfl, by decide +kernel, rfl, by decide +kernel, by decide +kernel⟩
abbrev s_bounds : Stmt := top 8
theorem sc_bounds : FnScope ["sheet", "last", "table", "_", "cue", "parent", "low", "high", "before"] ["sheet"] (defScope s_bounds) := ⟨rfl, rfl, rfl, by decide +kernel, rfl, by decide +kernel, by decide +kernel⟩
abbrev s__law_less : Stmt := top 22
theorem sc__law_less : FnScope ["a", "b"] ["a", "b"] (defScope s__law_less) := ⟨rfl, rfl, rfl, by decide +kernel, rfl, by decide +kernel, by decide +kernel⟩
abbrev s__law_lower : Stmt := top 34
theorem sc__law_lower : FnScope ["a", "b"] ["a", "b"] (defScope s__law_lower) := ⟨rfl, rfl, rfl, by decide +kernel, rfl, by decide +kernel, by decide +kernel⟩
abbrev s__law_closed : Stmt := top 35
theorem sc__law_closed : FnScope ["rows", "many", "first", "j", "i", "found", "turn", "longer", "new", "k"] ["rows"] (defScope s__law_closed) := ⟨rfl, rfl, rfl, by decide +kernel, rfl, by decide +kernel, by decide +kernel⟩
abbrev s__law_gaps : Stmt := top 36
theorem sc__law_gaps : FnScope ["stream", "many", "places", "k", "gaps", "rows", "i", "row", "j", "part"] ["stream"] (defScope s__law_gaps) := ⟨rfl, rfl, rfl, by decide +kernel, rfl, by decide +kernel, by decide +kernel⟩
abbrev s__law_ratio : Stmt := top 24
theorem sc__law_ratio : FnScope ["a"] ["a"] (defScope s__law_ratio) := ⟨rfl, rfl, rfl, by decide +kernel, rfl, by decide +kernel, by decide +kernel⟩
abbrev s__law_table : Stmt := top 33
theorem sc__law_table : FnScope ["rows", "found", "row", "new", "part"] ["rows"] (defScope s__law_table) := ⟨rfl, rfl, rfl, by decide +kernel, rfl, by decide +kernel, by decide +kernel⟩
abbrev s__law_over : Stmt := top 21
theorem sc__law_over : FnScope ["a", "b"] ["a", "b"] (defScope s__law_over) := ⟨rfl, rfl, rfl, by decide +kernel, rfl, by decide +kernel, by decide +kernel⟩
abbrev s__law_times : Stmt := top 20
theorem sc__law_times : FnScope ["a", "b"] ["a", "b"] (defScope s__law_times) := ⟨rfl, rfl, rfl, by decide +kernel, rfl, by decide +kernel, by decide +kernel⟩
abbrev s__law_condition : Stmt := top 37
theorem sc__law_condition : FnScope ["stream", "known", "i", "j", "low"] ["stream", "known", "i", "j"] (defScope s__law_condition) := ⟨rfl, rfl, rfl, by decide +kernel, rfl, by decide +kernel, by decide +kernel⟩
abbrev s_with_bound : Stmt := top 10
theorem sc_with_bound : FnScope ["table", "i", "j", "c", "back"] ["table", "i", "j", "c"] (defScope s_with_bound) := ⟨rfl, rfl, rfl, by decide +kernel, rfl, by decide +kernel, by decide +kernel⟩
abbrev s__law_cues : Stmt := top 28
theorem sc__law_cues : FnScope ["rows", "row"] ["rows"] (defScope s__law_cues) := ⟨rfl, rfl, rfl, by decide +kernel, rfl, by decide +kernel, by decide +kernel⟩
abbrev s__law_told : Stmt := top 25
theorem sc__law_told : FnScope ["value"] ["value"] (defScope s__law_told) := ⟨rfl, rfl, rfl, by decide +kernel, rfl, by decide +kernel, by decide +kernel⟩
abbrev s__law_shown : Stmt := top 32
theorem sc__law_shown : FnScope ["table", "found", "row", "new", "part"] ["table"] (defScope s__law_shown) := ⟨rfl, rfl, rfl, by decide +kernel, rfl, by decide +kernel, by decide +kernel⟩
abbrev s_law : Stmt := top 38
theorem sc_law : FnScope ["script", "stream", "rows", "known", "table", "turn", "i", "j", "c", "tried", "row", "due", "actual", "other"] ["script"] (defScope s_law) := ⟨rfl, rfl, rfl, by decide +kernel, rfl, by decide +kernel, by decide +kernel⟩
section
variable {P : Program} {w : World} {K : PySem.W.Frag} {mg : Str → Option Value} {base : Heap} {cs : List Addr}
/-! ### law -/
noncomputable abbrev lb_law_0 : SEv := (seqS (sSetIx (evV 10) (evC (.int 0)) (evC .non)) (sExpr (evBM isLst fApp (evV 10) (evCons (evC (.int 0)) evNil))))
noncomputable abbrev lb_law_1 : SEv := (seqS (sSet 6 (evCall m__law_draw [] (evCons (evV 1) (evCons (evBI fLen (evCons (evV 3) evNil)) evNil)))) (seqS (sSet 7 (evCall m__law_draw [] (evCons (evV 1) (evCons (evBI fLen (evCons (evV 3) evNil)) evNil)))) (seqS (sSet 8 (evCall m__law_condition [] (evCons (evV 1) (evCons (evV 3) (evCons (evV 6) (evCons (evV 7) evNil)))))) (seqS (sSet 9 (evLcD (evUpI (evIt (evV 3))) (tgUp (tgN 10)) evTrue (evBI fListC (evCons (evV 10) evNil)) [10])) (seqS (sSetIx (evBin fIxD (evV 9) (evV 6)) (evV 7) (evCall m__law_lower [] (evCons (evBin fIx (evBin fIxD (evV 9) (evV 6)) (evV 7)) (evCons (evV 8) evNil)))) (seqS (sSet 11 (evCall m__law_closed [] (evCons (evFrz (evV 9)) evNil))) (seqS (sSet 12 (evFrz (evCall m_with_bound [] (evCons (evV 4) (evCons (evV 6) (evCons (evV 7) (evCons (evCall m__law_ratio [] (evCons (evV 8) evNil)) evNil))))))) (seqS (sIf (evB (evBin fNe (evCall m__law_shown [] (evCons (evV 4) evNil)) (evV 3))) (sRet (evC (.bl false))) sNil) (seqS (sIf (evB (evBin (fIs false) (evV 11) (evC .non))) (sRet (evBin (fIs false) (evV 12) (evC .non))) sNil) (seqS (sIf (evB (evBin fNe (evCall m__law_shown [] (evCons (evV 12) evNil)) (evV 11))) (sRet (evC (.bl false))) sNil) (seqS (sSet 13 (evCall m_with_bound [] (evCons (evV 4) (evCons (evV 6) (evCons (evV 7) (evCons (evCall m__law_ratio [] (evCons (evV 8) evNil)) evNil)))))) (seqS (sForI (evItL (evV 13)) (tgNI 10) (seqS (sSetIx (evV 10) (evC (.int 0)) (evC .non)) (sExpr (evBM isLst fApp (evV 10) (evCons (evC (.int 0)) evNil))))) (seqS (sIf (tOrV' (evB (evBin fNe (evCall m__law_shown [] (evCons (evV 4) evNil)) (evV 3))) (evB (evBin fNe (evCall m__law_shown [] (evCons (evV 12) evNil)) (evV 11)))) (sRet (evC (.bl false))) sNil) (seqS (sSet 3 (evV 11)) (sSet 4 (evV 12))))))))))))))))
noncomputable def p_law_0 : SEv := (sSet 1 (evCall m__law_stream [] (evCons (evV 0) evNil)))
noncomputable def p_law_1 : SEv := (sIf (evB (evBin fEq (evCall m__law_draw [] (evCons (evV 1) (evCons (evC (.int 2)) evNil))) (evC (.int 0)))) (seqS (sSet 2 (evCall m__law_sheet [] (evCons (evV 1) evNil))) (seqS (sSet 3 (evCall m__law_bounds [] (evCons (evV 2) evNil))) (sSet 4 (evFrz (evCall m_bounds [] (evCons (evCall m__law_cues [] (evCons (evV 2) evNil)) evNil)))))) (seqS (sSet 3 (evCall m__law_gaps [] (evCons (evV 1) evNil))) (sSet 4 (evCall m__law_table [] (evCons (evV 3) evNil)))))
noncomputable def p_law_2 : SEv := (sFor (evRng1 (evBin fAdd (evC (.int 1)) (evCall m__law_draw [] (evCons (evV 1) (evCons (evC (.int 3)) evNil))))) (tgN 5) (seqS (sSet 6 (evCall m__law_draw [] (evCons (evV 1) (evCons (evBI fLen (evCons (evV 3) evNil)) evNil)))) (seqS (sSet 7 (evCall m__law_draw [] (evCons (evV 1) (evCons (evBI fLen (evCons (evV 3) evNil)) evNil)))) (seqS (sSet 8 (evCall m__law_condition [] (evCons (evV 1) (evCons (evV 3) (evCons (evV 6) (evCons (evV 7) evNil)))))) (seqS (sSet 9 (evLcD (evUpI (evIt (evV 3))) (tgUp (tgN 10)) evTrue (evBI fListC (evCons (evV 10) evNil)) [10])) (seqS (sSetIx (evBin fIxD (evV 9) (evV 6)) (evV 7) (evCall m__law_lower [] (evCons (evBin fIx (evBin fIxD (evV 9) (evV 6)) (evV 7)) (evCons (evV 8) evNil)))) (seqS (sSet 11 (evCall m__law_closed [] (evCons (evFrz (evV 9)) evNil))) (seqS (sSet 12 (evFrz (evCall m_with_bound [] (evCons (evV 4) (evCons (evV 6) (evCons (evV 7) (evCons (evCall m__law_ratio [] (evCons (evV 8) evNil)) evNil))))))) (seqS (sIf (evB (evBin fNe (evCall m__law_shown [] (evCons (evV 4) evNil)) (evV 3))) (sRet (evC (.bl false))) sNil) (seqS (sIf (evB (evBin (fIs false) (evV 11) (evC .non))) (sRet (evBin (fIs false) (evV 12) (evC .non))) sNil) (seqS (sIf (evB (evBin fNe (evCall m__law_shown [] (evCons (evV 12) evNil)) (evV 11))) (sRet (evC (.bl false))) sNil) (seqS (sSet 13 (evCall m_with_bound [] (evCons (evV 4) (evCons (evV 6) (evCons (evV 7) (evCons (evCall m__law_ratio [] (evCons (evV 8) evNil)) evNil)))))) (seqS (sForI (evItL (evV 13)) (tgNI 10) (seqS (sSetIx (evV 10) (evC (.int 0)) (evC .non)) (sExpr (evBM isLst fApp (evV 10) (evCons (evC (.int 0)) evNil))))) (seqS (sIf (tOrV' (evB (evBin fNe (evCall m__law_shown [] (evCons (evV 4) evNil)) (evV 3))) (evB (evBin fNe (evCall m__law_shown [] (evCons (evV 12) evNil)) (evV 11)))) (sRet (evC (.bl false))) sNil) (seqS (sSet 3 (evV 11)) (sSet 4 (evV 12)))))))))))))))))
noncomputable def p_law_3 : SEv := (sRet (evC (.bl true)))
noncomputable def t_law_3 : SEv := p_law_3
noncomputable def t_law_2 : SEv := seqS p_law_2 t_law_3
noncomputable def t_law_1 : SEv := seqS p_law_1 t_law_2
noncomputable def t_law_0 : SEv := seqS p_law_0 t_law_1
/-! ### law -/
noncomputable def sv_law : SEv := t_law_0
noncomputable def m_law : FSem := arF 1 (bodySem 14 sv_law)
theorem ar_law : Arity m_law 1 := arF_ar
theorem le_law : ∀ ds μ r, m_law ds μ = some r → bodySem 14 sv_law ds μ = some r := arF_le
theorem fn_Ratiou_initu {f : Addr} {fd : FuncData} (T : TxT K mg cs) (F : FunD K "__init__" "Ratio.__init__" (defArgs s_Ratiou_initu) (defBody s_Ratiou_initu) (defScope s_Ratiou_initu) [.int 1] [] f fd)  : FnOk P w K mg base (L2.CX P w) 1 f fd ["self", "n", "d"] (spF (amb K cs) 3 m_Ratiou_initu) :=
  fn_le (fnVD F sc_Ratiou_initu fun cdv A outer s H E hr tk po =>
  (vs_cons (v_if (v_tcmp (o_eq hr.units rfl) (v_var 2) v_int) (vs_one (v_raise rfl tk (pmk_own PySem.F.excBase_ValueError T.x1 T.g1 T.k1 (raises_own T.p1 T.t1) rfl))) vs_nil)
    (vs_cons (v_set 3 sc_Ratiou_initu.nd (v_callBf c_gcd T.b_gcd (va_cons (v_var 1) (va_cons (v_var 2) va_nil))))
    (vs_cons (v_if (v_tcmp o_lt (v_var 2) v_int) (vs_one (v_set 3 sc_Ratiou_initu.nd (v_un o_neg (v_var 3)))) vs_nil)
    (vs_cons (v_fldS 0 0 T.own0 rfl rfl (v_var 0) (v_bin o_div (v_var 1) (v_var 3)))
    (vs_one (v_fldS 0 1 T.own0 rfl rfl (v_var 0) (v_bin o_div (v_var 2) (v_var 3))))))))) le_Ratiou_initu
theorem ok_Ratiou_addu (T : TxT K mg cs) (D : MethAt K ((amb K cs).cl 0) "__add__" "Ratio.__add__" s_Ratiou_addu) (h_Ratiou_initu : In P w K mg base (amb K cs) 1 0 3 [] m_Ratiou_initu) : Mt P w K mg base (amb K cs) 3 ((amb K cs).cl 0) "__add__" 2 m_Ratiou_addu := by
  obtain ⟨f, fd, hm, hi, F⟩ := D.ex
  exact ⟨⟨f, fd, ["self", "other"], hm, hi, F.kp, F.binds (ps := ["self", "other"]) fun _ _ _ _ _ _ us hl => match us, hl with | [_, _], _ => rfl, fn_le (fnV F sc_Ratiou_addu fun cdv A outer s H E hr tk po =>
  (vs_one (v_ret (Om.mk tk hr h_Ratiou_initu T.c0 (va_cons (v_bin o_add (v_bin o_mul (v_fld 0 0 T.own0 rfl rfl (v_var 0)) (v_fld 0 1 T.own0 rfl rfl (v_var 1))) (v_bin o_mul (v_fld 0 0 T.own0 rfl rfl (v_var 1)) (v_fld 0 1 T.own0 rfl rfl (v_var 0)))) (va_cons (v_bin o_mul (v_fld 0 1 T.own0 rfl rfl (v_var 0)) (v_fld 0 1 T.own0 rfl rfl (v_var 1))) va_nil)))))) le_Ratiou_addu⟩, ar_Ratiou_addu⟩
theorem ok_Ratiou_subu (T : TxT K mg cs) (D : MethAt K ((amb K cs).cl 0) "__sub__" "Ratio.__sub__" s_Ratiou_subu) (h_Ratiou_initu : In P w K mg base (amb K cs) 1 0 3 [] m_Ratiou_initu) : Mt P w K mg base (amb K cs) 3 ((amb K cs).cl 0) "__sub__" 2 m_Ratiou_subu := by
  obtain ⟨f, fd, hm, hi, F⟩ := D.ex
  exact ⟨⟨f, fd, ["self", "other"], hm, hi, F.kp, F.binds (ps := ["self", "other"]) fun _ _ _ _ _ _ us hl => match us, hl with | [_, _], _ => rfl, fn_le (fnV F sc_Ratiou_subu fun cdv A outer s H E hr tk po =>
  (vs_one (v_ret (Om.mk tk hr h_Ratiou_initu T.c0 (va_cons (v_bin o_sub (v_bin o_mul (v_fld 0 0 T.own0 rfl rfl (v_var 0)) (v_fld 0 1 T.own0 rfl rfl (v_var 1))) (v_bin o_mul (v_fld 0 0 T.own0 rfl rfl (v_var 1)) (v_fld 0 1 T.own0 rfl rfl (v_var 0)))) (va_cons (v_bin o_mul (v_fld 0 1 T.own0 rfl rfl (v_var 0)) (v_fld 0 1 T.own0 rfl rfl (v_var 1))) va_nil)))))) le_Ratiou_subu⟩, ar_Ratiou_subu⟩
theorem ok_Ratiou_mulu (T : TxT K mg cs) (D : MethAt K ((amb K cs).cl 0) "__mul__" "Ratio.__mul__" s_Ratiou_mulu) (h_Ratiou_initu : In P w K mg base (amb K cs) 1 0 3 [] m_Ratiou_initu) : Mt P w K mg base (amb K cs) 3 ((amb K cs).cl 0) "__mul__" 2 m_Ratiou_mulu := by
  obtain ⟨f, fd, hm, hi, F⟩ := D.ex
  exact ⟨⟨f, fd, ["self", "other"], hm, hi, F.kp, F.binds (ps := ["self", "other"]) fun _ _ _ _ _ _ us hl => match us, hl with | [_, _], _ => rfl, fn_le (fnV F sc_Ratiou_mulu fun cdv A outer s H E hr tk po =>
  (vs_one (v_ret (Om.mk tk hr h_Ratiou_initu T.c0 (va_cons (v_bin o_mul (v_fld 0 0 T.own0 rfl rfl (v_var 0)) (v_fld 0 0 T.own0 rfl rfl (v_var 1))) (va_cons (v_bin o_mul (v_fld 0 1 T.own0 rfl rfl (v_var 0)) (v_fld 0 1 T.own0 rfl rfl (v_var 1))) va_nil)))))) le_Ratiou_mulu⟩, ar_Ratiou_mulu⟩
theorem ok_Ratiou_negu (T : TxT K mg cs) (D : MethAt K ((amb K cs).cl 0) "__neg__" "Ratio.__neg__" s_Ratiou_negu) (h_Ratiou_initu : In P w K mg base (amb K cs) 1 0 3 [] m_Ratiou_initu) : Mt P w K mg base (amb K cs) 3 ((amb K cs).cl 0) "__neg__" 1 m_Ratiou_negu := by
  obtain ⟨f, fd, hm, hi, F⟩ := D.ex
  exact ⟨⟨f, fd, ["self"], hm, hi, F.kp, F.binds (ps := ["self"]) fun _ _ _ _ _ _ us hl => match us, hl with | [_], _ => rfl, fn_le (fnV F sc_Ratiou_negu fun cdv A outer s H E hr tk po =>
  (vs_one (v_ret (Om.mk tk hr h_Ratiou_initu T.c0 (va_cons (v_un o_neg (v_fld 0 0 T.own0 rfl rfl (v_var 0))) (va_cons (v_fld 0 1 T.own0 rfl rfl (v_var 0)) va_nil)))))) le_Ratiou_negu⟩, ar_Ratiou_negu⟩
theorem ok_Ratiou_equ (T : TxT K mg cs) (D : MethAt K ((amb K cs).cl 0) "__eq__" "Ratio.__eq__" s_Ratiou_equ)  : Mt P w K mg base (amb K cs) 1 ((amb K cs).cl 0) "__eq__" 2 m_Ratiou_equ := by
  obtain ⟨f, fd, hm, hi, F⟩ := D.ex
  exact ⟨⟨f, fd, ["self", "other"], hm, hi, F.kp, F.binds (ps := ["self", "other"]) fun _ _ _ _ _ _ us hl => match us, hl with | [_, _], _ => rfl, fn_le (fnV F sc_Ratiou_equ fun cdv A outer s H E hr tk po =>
  (vs_one (v_ret (v_and (v_isiV rfl T.b_isinstance (by decide +kernel) (v_var 1) (pe_glob (v := .ref _) (by rfl) T.c0 rfl) (.own _) (isiO_ok T.isi0)) (v_and (v_cmp (o_eq hr.units rfl) (v_fld 0 0 T.own0 rfl rfl (v_var 0)) (v_fld 0 0 T.own0 rfl rfl (v_var 1))) (v_one (v_cmp (o_eq hr.units rfl) (v_fld 0 1 T.own0 rfl rfl (v_var 0)) (v_fld 0 1 T.own0 rfl rfl (v_var 1))))))))) le_Ratiou_equ⟩, ar_Ratiou_equ⟩
theorem ok__law_stream (T : TxT K mg cs) (D : DefAt K mg "_law_stream" s__law_stream)  : Fn P w K mg base (amb K cs) 1 "_law_stream" 1 m__law_stream := by
  obtain ⟨f, fd, hm, F⟩ := D.ex
  exact ⟨⟨f, fd, ["script"], hm, F.kp, F.binds (ps := ["script"]) fun _ _ _ _ _ _ us hl => match us, hl with | [_], _ => rfl, fn_le (fnVC F sc__law_stream fun cdv A outer s H E hr tk po =>
  (vs_cons (v_set 1 sc__law_stream.nd v_int)
    (vs_cons (v_for rfl po (vi_seq rfl (v_var 0)) (vg_name 2 sc__law_stream.nd) (vs_one (v_set 1 sc__law_stream.nd (v_bin o_mod (v_callTy c_int T.b_int (by decide +kernel) (va_cons (v_bin o_add (v_bin o_add (v_bin o_mul (v_var 1) v_int) (v_bin o_mod (v_callTy c_int T.b_int (by decide +kernel) (va_cons (v_var 2) va_nil)) v_int)) v_int) va_nil)) v_int))))
    (vs_one (v_ret (v_lstC (va_cons (v_callTy (c_list rfl) T.b_list (by decide +kernel) (va_cons (v_var 0) va_nil)) (va_cons v_int (va_cons v_int (va_cons (v_var 1) va_nil)))))))))) le__law_stream⟩, ar__law_stream⟩
theorem ok__law_draw (T : TxT K mg cs) (D : DefAt K mg "_law_draw" s__law_draw)  : Fn P w K mg base (amb K cs) 1 "_law_draw" 2 m__law_draw := by
  obtain ⟨f, fd, hm, F⟩ := D.ex
  exact ⟨⟨f, fd, ["stream", "many"], hm, F.kp, F.binds (ps := ["stream", "many"]) fun _ _ _ _ _ _ us hl => match us, hl with | [_, _], _ => rfl, fn_le (fnV F sc__law_draw fun cdv A outer s H E hr tk po =>
  (vs_cons (v_if (PW.pt (v_tand (v_tcmp (o_eq hr.units rfl) (v_ix (o_ix rfl) (v_var 0) v_int) v_int) (v_and1 (v_tcmp o_lt (v_ix (o_ix rfl) (v_var 0) v_int) (v_callB (c_len rfl) T.b_len (by decide +kernel) (va_cons (v_ix (o_ix rfl) (v_var 0) v_int) va_nil)))))) (vs_cons (v_setIx (v_var 0) v_int (v_callB c_abs T.b_abs (by decide +kernel) (va_cons (v_callTy c_int T.b_int (by decide +kernel) (va_cons (v_ix (o_ix rfl) (v_ix (o_ix rfl) (v_var 0) v_int) (v_ix (o_ix rfl) (v_var 0) v_int)) va_nil)) va_nil)))
    (vs_one (v_setIx (v_var 0) v_int (v_bin o_add (v_ix (o_ix rfl) (v_var 0) v_int) v_int)))) vs_nil)
    (vs_cons (v_if (v_tcmp (o_eq hr.units rfl) (v_ix (o_ix rfl) (v_var 0) v_int) v_int) (vs_cons (v_setIx (v_var 0) v_int (v_bin o_mod (v_callTy c_int T.b_int (by decide +kernel) (va_cons (v_bin o_add (v_bin o_mul (v_ix (o_ix rfl) (v_var 0) v_int) v_int) v_int) va_nil)) v_int))
    (vs_one (v_ret (v_bin o_mod (v_callTy c_int T.b_int (by decide +kernel) (va_cons (v_bin o_div (v_ix (o_ix rfl) (v_var 0) v_int) v_int) va_nil)) (v_var 1))))) vs_nil)
    (vs_cons (v_set 2 sc__law_draw.nd (v_bin o_mod (v_callTy c_int T.b_int (by decide +kernel) (va_cons (v_ix (o_ix rfl) (v_var 0) v_int) va_nil)) (v_var 1)))
    (vs_cons (v_setIx (v_var 0) v_int (v_bin o_div (v_ix (o_ix rfl) (v_var 0) v_int) (v_var 1)))
    (vs_one (v_ret (v_var 2)))))))) le__law_draw⟩, ar__law_draw⟩
theorem ok__law_size (T : TxT K mg cs) (D : DefAt K mg "_law_size" s__law_size)  : Fn P w K mg base (amb K cs) 1 "_law_size" 1 m__law_size := by
  obtain ⟨f, fd, hm, F⟩ := D.ex
  exact ⟨⟨f, fd, ["a"], hm, F.kp, F.binds (ps := ["a"]) fun _ _ _ _ _ _ us hl => match us, hl with | [_], _ => rfl, fn_le (fnV F sc__law_size fun cdv A outer s H E hr tk po =>
  (vs_one (v_ret (v_tup (va_cons (v_callB c_abs T.b_abs (by decide +kernel) (va_cons (v_ix (o_ix rfl) (v_var 0) v_int) va_nil)) (va_cons (v_ix (o_ix rfl) (v_var 0) v_int) va_nil)))))) le__law_size⟩, ar__law_size⟩
theorem ok__law_pair (T : TxT K mg cs) (D : DefAt K mg "_law_pair" s__law_pair)  : Fn P w K mg base (amb K cs) 1 "_law_pair" 2 m__law_pair := by
  obtain ⟨f, fd, hm, F⟩ := D.ex
  exact ⟨⟨f, fd, ["n", "d"], hm, F.kp, F.binds (ps := ["n", "d"]) fun _ _ _ _ _ _ us hl => match us, hl with | [_, _], _ => rfl, fn_le (fnV F sc__law_pair fun cdv A outer s H E hr tk po =>
  (vs_cons (v_set 2 sc__law_pair.nd (v_callB c_abs T.b_abs (by decide +kernel) (va_cons (v_var 0) va_nil)))
    (vs_cons (v_set 3 sc__law_pair.nd (v_callB c_abs T.b_abs (by decide +kernel) (va_cons (v_var 1) va_nil)))
    (vs_cons (v_while 20000 po (v_tcmp o_gt (v_var 3) v_int) (vs_one (v_par rfl sc__law_pair.nd (va_cons (v_var 3) (va_cons (v_bin o_mod (v_callTy c_int T.b_int (by decide +kernel) (va_cons (v_var 2) va_nil)) (v_callTy c_int T.b_int (by decide +kernel) (va_cons (v_var 3) va_nil))) va_nil)))))
    (vs_cons (v_if (v_tcmp o_lt (v_var 1) v_int) (vs_one (v_set 2 sc__law_pair.nd (v_bin o_sub v_int (v_var 2)))) vs_nil)
    (vs_one (v_ret (v_tup (va_cons (v_bin o_div (v_var 0) (v_var 2)) (va_cons (v_bin o_div (v_var 1) (v_var 2)) va_nil)))))))))) le__law_pair⟩, ar__law_pair⟩
theorem ok__law_sum (T : TxT K mg cs) (D : DefAt K mg "_law_sum" s__law_sum) (h__law_pair : Fn P w K mg base (amb K cs) 1 "_law_pair" 2 m__law_pair) : Fn P w K mg base (amb K cs) 2 "_law_sum" 2 m__law_sum := by
  obtain ⟨f, fd, hm, F⟩ := D.ex
  exact ⟨⟨f, fd, ["a", "b"], hm, F.kp, F.binds (ps := ["a", "b"]) fun _ _ _ _ _ _ us hl => match us, hl with | [_, _], _ => rfl, fn_le (fnV F sc__law_sum fun cdv A outer s H E hr tk po =>
  (vs_one (v_ret (Om.call tk hr h__law_pair (va_cons (v_bin o_add (v_bin o_mul (v_ix (o_ix rfl) (v_var 0) v_int) (v_ix (o_ix rfl) (v_var 1) v_int)) (v_bin o_mul (v_ix (o_ix rfl) (v_var 1) v_int) (v_ix (o_ix rfl) (v_var 0) v_int))) (va_cons (v_bin o_mul (v_ix (o_ix rfl) (v_var 0) v_int) (v_ix (o_ix rfl) (v_var 1) v_int)) va_nil)))))) le__law_sum⟩, ar__law_sum⟩
theorem ok__law_number (T : TxT K mg cs) (D : DefAt K mg "_law_number" s__law_number) (h__law_draw : Fn P w K mg base (amb K cs) 1 "_law_draw" 2 m__law_draw) (h__law_pair : Fn P w K mg base (amb K cs) 1 "_law_pair" 2 m__law_pair) : Fn P w K mg base (amb K cs) 2 "_law_number" 1 m__law_number := by
  obtain ⟨f, fd, hm, F⟩ := D.ex
  exact ⟨⟨f, fd, ["stream"], hm, F.kp, F.binds (ps := ["stream"]) fun _ _ _ _ _ _ us hl => match us, hl with | [_], _ => rfl, fn_le (fnV F sc__law_number fun cdv A outer s H E hr tk po =>
  (vs_cons (v_if (v_tcmp (o_eq hr.units rfl) (Om.call tk hr h__law_draw (va_cons (v_var 0) (va_cons v_int va_nil))) v_int) (vs_one (v_ret (Om.call tk hr h__law_pair (va_cons (v_bin o_sub (Om.call tk hr h__law_draw (va_cons (v_var 0) (va_cons (v_bin o_pow v_int v_int) va_nil))) (v_bin o_mul v_int (v_bin o_pow v_int v_int))) (va_cons (v_bin o_add v_int (Om.call tk hr h__law_draw (va_cons (v_var 0) (va_cons (v_bin o_pow v_int v_int) va_nil)))) va_nil))))) vs_nil)
    (vs_one (v_ret (Om.call tk hr h__law_pair (va_cons (v_bin o_sub (Om.call tk hr h__law_draw (va_cons (v_var 0) (va_cons v_int va_nil))) v_int) (va_cons (v_bin o_add v_int (Om.call tk hr h__law_draw (va_cons (v_var 0) (va_cons (v_ix (o_ix rfl) (v_lst (va_cons v_int (va_cons v_int va_nil))) (Om.call tk hr h__law_draw (va_cons (v_var 0) (va_cons v_int va_nil)))) va_nil)))) va_nil))))))) le__law_number⟩, ar__law_number⟩
theorem ok__law_sheet (T : TxT K mg cs) (D : DefAt K mg "_law_sheet" s__law_sheet) (h__law_draw : Fn P w K mg base (amb K cs) 1 "_law_draw" 2 m__law_draw) (h__law_number : Fn P w K mg base (amb K cs) 2 "_law_number" 1 m__law_number) (h__law_size : Fn P w K mg base (amb K cs) 1 "_law_size" 1 m__law_size) (h__law_sum : Fn P w K mg base (amb K cs) 2 "_law_sum" 2 m__law_sum) : Fn P w K mg base (amb K cs) 3 "_law_sheet" 1 m__law_sheet := by
  obtain ⟨f, fd, hm, F⟩ := D.ex
  exact ⟨⟨f, fd, ["stream"], hm, F.kp, F.binds (ps := ["stream"]) fun _ _ _ _ _ _ us hl => match us, hl with | [_], _ => rfl, fn_le (fnV F sc__law_sheet fun cdv A outer s H E hr tk po =>
  (vs_cons (v_set 1 sc__law_sheet.nd (v_lstC va_nil))
    (vs_cons (v_for rfl po (vi_rng1 T.b_range (v_bin o_add v_int (Om.call tk (hr.mono (by decide)) h__law_draw (va_cons (v_var 0) (va_cons (v_ix (o_ix rfl) (v_lst (va_cons v_int (va_cons v_int va_nil))) (Om.call tk (hr.mono (by decide)) h__law_draw (va_cons (v_var 0) (va_cons v_int va_nil)))) va_nil))))) (vg_name 2 sc__law_sheet.nd) (vs_cons (v_set 3 sc__law_sheet.nd (Om.call tk (hr.mono (by decide)) h__law_size (va_cons (Om.call tk hr h__law_number (va_cons (v_var 0) va_nil)) va_nil)))
    (vs_cons (v_set 4 sc__law_sheet.nd (Om.call tk hr h__law_sum (va_cons (v_var 3) (va_cons (Om.call tk (hr.mono (by decide)) h__law_size (va_cons (Om.call tk hr h__law_number (va_cons (v_var 0) va_nil)) va_nil)) va_nil))))
    (vs_cons (v_if (v_tcmp (o_eq hr.units rfl) (Om.call tk (hr.mono (by decide)) h__law_draw (va_cons (v_var 0) (va_cons v_int va_nil))) v_int) (vs_one (v_set 4 sc__law_sheet.nd (v_var 3))) vs_nil)
    (vs_one (v_expr (v_bm PySem.F.plainAttrs_list PySem.F.slot_list_append PySem.F.type_list_append m_append ty_lst (v_var 1) (va_cons (v_tup (va_cons (v_bin o_sub (Om.call tk (hr.mono (by decide)) h__law_draw (va_cons (v_var 0) (va_cons (v_bin o_add (v_var 2) v_int) va_nil))) v_int) (va_cons (v_var 3) (va_cons (v_var 4) va_nil)))) va_nil))))))))
    (vs_one (v_ret (v_var 1)))))) le__law_sheet⟩, ar__law_sheet⟩
theorem ok__law_ways_up (T : TxT K mg cs) (D : DefAt K mg "_law_ways_up" s__law_ways_up)  : Fn P w K mg base (amb K cs) 1 "_law_ways_up" 2 m__law_ways_up := by
  obtain ⟨f, fd, hm, F⟩ := D.ex
  exact ⟨⟨f, fd, ["rows", "i"], hm, F.kp, F.binds (ps := ["rows", "i"]) fun _ _ _ _ _ _ us hl => match us, hl with | [_, _], _ => rfl, fn_le (fnV F sc__law_ways_up fun cdv A outer s H E hr tk po =>
  (vs_cons (v_set 2 sc__law_ways_up.nd (v_lstC va_nil))
    (vs_cons (v_while 100 po (PW.pt (v_tand (v_tcmp o_ge (v_var 1) v_int) (v_and1 (v_tcmp o_lt (v_var 1) (v_callB (c_len rfl) T.b_len (by decide +kernel) (va_cons (v_var 0) va_nil)))))) (vs_cons (v_expr (v_bm PySem.F.plainAttrs_list PySem.F.slot_list_append PySem.F.type_list_append m_append ty_lst (v_var 2) (va_cons (v_var 1) va_nil)))
    (vs_one (v_set 1 sc__law_ways_up.nd (v_ix (o_ix rfl) (v_ix (o_ix rfl) (v_var 0) (v_var 1)) v_int)))))
    (vs_one (v_ret (v_var 2)))))) le__law_ways_up⟩, ar__law_ways_up⟩
theorem ok__law_minus (T : TxT K mg cs) (D : DefAt K mg "_law_minus" s__law_minus)  : Fn P w K mg base (amb K cs) 1 "_law_minus" 1 m__law_minus := by
  obtain ⟨f, fd, hm, F⟩ := D.ex
  exact ⟨⟨f, fd, ["a"], hm, F.kp, F.binds (ps := ["a"]) fun _ _ _ _ _ _ us hl => match us, hl with | [_], _ => rfl, fn_le (fnV F sc__law_minus fun cdv A outer s H E hr tk po =>
  (vs_one (v_ret (v_tup (va_cons (v_bin o_sub v_int (v_ix (o_ix rfl) (v_var 0) v_int)) (va_cons (v_ix (o_ix rfl) (v_var 0) v_int) va_nil)))))) le__law_minus⟩, ar__law_minus⟩
theorem ok__law_greatest (T : TxT K mg cs) (D : DefAt K mg "_law_greatest" s__law_greatest) (h__law_ways_up : Fn P w K mg base (amb K cs) 1 "_law_ways_up" 2 m__law_ways_up) (h__law_sum : Fn P w K mg base (amb K cs) 2 "_law_sum" 2 m__law_sum) (h__law_minus : Fn P w K mg base (amb K cs) 1 "_law_minus" 1 m__law_minus) : Fn P w K mg base (amb K cs) 3 "_law_greatest" 3 m__law_greatest := by
  obtain ⟨f, fd, hm, F⟩ := D.ex
  exact ⟨⟨f, fd, ["rows", "i", "j"], hm, F.kp, F.binds (ps := ["rows", "i", "j"]) fun _ _ _ _ _ _ us hl => match us, hl with | [_, _, _], _ => rfl, fn_le (fnV F sc__law_greatest fun cdv A outer s H E hr tk po =>
  (vs_cons (v_set 3 sc__law_greatest.nd (Om.call tk (hr.mono (by decide)) h__law_ways_up (va_cons (v_var 0) (va_cons (v_var 1) va_nil))))
    (vs_cons (v_set 4 sc__law_greatest.nd (Om.call tk (hr.mono (by decide)) h__law_ways_up (va_cons (v_var 0) (va_cons (v_var 2) va_nil))))
    (vs_cons (v_set 5 sc__law_greatest.nd (v_tup (va_cons v_int (va_cons v_int va_nil))))
    (vs_cons (v_for rfl po (vi_seq rfl (v_var 3)) (vg_name 6 sc__law_greatest.nd) (vs_one (v_if (v_tcmp (o_notInI rfl) (v_var 6) (v_var 4)) (vs_one (v_set 5 sc__law_greatest.nd (Om.call tk hr h__law_sum (va_cons (v_var 5) (va_cons (v_ix (o_ix rfl) (v_ix (o_ix rfl) (v_var 0) (v_var 6)) v_int) va_nil))))) vs_nil)))
    (vs_cons (v_for rfl po (vi_seq rfl (v_var 4)) (vg_name 6 sc__law_greatest.nd) (vs_one (v_if (v_tcmp (o_notInI rfl) (v_var 6) (v_var 3)) (vs_one (v_set 5 sc__law_greatest.nd (Om.call tk hr h__law_sum (va_cons (v_var 5) (va_cons (Om.call tk (hr.mono (by decide)) h__law_minus (va_cons (v_ix (o_ix rfl) (v_ix (o_ix rfl) (v_var 0) (v_var 6)) v_int) va_nil)) va_nil))))) vs_nil)))
    (vs_one (v_ret (v_var 5))))))))) le__law_greatest⟩, ar__law_greatest⟩
theorem ok__law_bounds (T : TxT K mg cs) (D : DefAt K mg "_law_bounds" s__law_bounds) (h__law_greatest : Fn P w K mg base (amb K cs) 3 "_law_greatest" 3 m__law_greatest) : Fn P w K mg base (amb K cs) 4 "_law_bounds" 1 m__law_bounds := by
  obtain ⟨f, fd, hm, F⟩ := D.ex
  exact ⟨⟨f, fd, ["rows"], hm, F.kp, F.binds (ps := ["rows"]) fun _ _ _ _ _ _ us hl => match us, hl with | [_], _ => rfl, fn_le (fnV F sc__law_bounds fun cdv A outer s H E hr tk po =>
  (vs_cons (v_set 1 sc__law_bounds.nd (v_bin o_add (v_callB (c_len rfl) T.b_len (by decide +kernel) (va_cons (v_var 0) va_nil)) v_int))
    (vs_one (v_ret (v_lc rfl sc__law_bounds.nd (vi_rng1 T.b_range (v_var 1)) (blkOk_by (own := [("i", 3)]) rfl) (gs_name (by decide)) (fun _ _ _ _ _ => (pg_name (i := 3) sc__law_bounds.nd rfl (by first | exact Or.inl rfl | exact Or.inr rfl))) (fun _ _ _ _ _ => vpts_nil) (fun _ _ _ _ _ => (v_lc rfl sc__law_bounds.nd (vi_rng1 T.b_range (v_var 1)) (blkOk_by (own := [("j", 2)]) rfl) (gs_name (by decide)) (fun _ _ _ _ _ => (pg_name (i := 2) sc__law_bounds.nd rfl (by first | exact Or.inl rfl | exact Or.inr rfl))) (fun _ _ _ _ _ => vpts_nil) (fun _ _ _ _ _ => (Om.call takes0 hr h__law_greatest (va_cons (v_var 0) (va_cons (v_var 3) (va_cons (v_var 2) va_nil)))))))))))) le__law_bounds⟩, ar__law_bounds⟩
theorem ok_is_less (T : TxT K mg cs) (D : DefAt K mg "is_less" s_is_less)  : Fn P w K mg base (amb K cs) 1 "is_less" 2 m_is_less := by
  obtain ⟨f, fd, hm, F⟩ := D.ex
  exact ⟨⟨f, fd, ["a", "b"], hm, F.kp, F.binds (ps := ["a", "b"]) fun _ _ _ _ _ _ us hl => match us, hl with | [_, _], _ => rfl, fn_le (fnV F sc_is_less fun cdv A outer s H E hr tk po =>
  (vs_one (v_ret (v_cmp o_lt (v_bin o_mul (v_fld 0 0 T.own0 rfl rfl (v_var 0)) (v_fld 0 1 T.own0 rfl rfl (v_var 1))) (v_bin o_mul (v_fld 0 0 T.own0 rfl rfl (v_var 1)) (v_fld 0 1 T.own0 rfl rfl (v_var 0))))))) le_is_less⟩, ar_is_less⟩
theorem ok__lesser (T : TxT K mg cs) (D : DefAt K mg "_lesser" s__lesser) (h_is_less : Fn P w K mg base (amb K cs) 1 "is_less" 2 m_is_less) : Fn P w K mg base (amb K cs) 2 "_lesser" 2 m__lesser := by
  obtain ⟨f, fd, hm, F⟩ := D.ex
  exact ⟨⟨f, fd, ["a", "b"], hm, F.kp, F.binds (ps := ["a", "b"]) fun _ _ _ _ _ _ us hl => match us, hl with | [_, _], _ => rfl, fn_le (fnV F sc__lesser fun cdv A outer s H E hr tk po =>
  (vs_cons (v_if (v_tcmp o_is (v_var 0) v_non) (vs_one (v_ret (v_var 1))) vs_nil)
    (vs_cons (v_if (PW.pt (v_tor (v_tcmp o_is (v_var 1) v_non) (v_or1 (v_tnot (v_test (Om.call tk hr h_is_less (va_cons (v_var 1) (va_cons (v_var 0) va_nil)))))))) (vs_one (v_ret (v_var 0))) vs_nil)
    (vs_one (v_ret (v_var 1)))))) le__lesser⟩, ar__lesser⟩
theorem ok__sum (T : TxT K mg cs) (D : DefAt K mg "_sum" s__sum) (h_Ratiou_addu : Mt P w K mg base (amb K cs) 3 ((amb K cs).cl 0) "__add__" 2 m_Ratiou_addu) : Fn P w K mg base (amb K cs) 4 "_sum" 2 m__sum := by
  obtain ⟨f, fd, hm, F⟩ := D.ex
  exact ⟨⟨f, fd, ["a", "b"], hm, F.kp, F.binds (ps := ["a", "b"]) fun _ _ _ _ _ _ us hl => match us, hl with | [_, _], _ => rfl, fn_le (fnV F sc__sum fun cdv A outer s H E hr tk po =>
  (vs_cons (v_if (PW.pt (v_tor (v_tcmp o_is (v_var 0) v_non) (v_or1 (v_tcmp o_is (v_var 1) v_non)))) (vs_one (v_ret v_non)) vs_nil)
    (vs_one (v_ret (v_bin (Om.bin tk hr rfl h_Ratiou_addu T.sf0) (v_var 0) (v_var 1)))))) le__sum⟩, ar__sum⟩
theorem ok__by_way_of (T : TxT K mg cs) (D : DefAt K mg "_by_way_of" s__by_way_of) (h__sum : Fn P w K mg base (amb K cs) 4 "_sum" 2 m__sum) (h__lesser : Fn P w K mg base (amb K cs) 2 "_lesser" 2 m__lesser) : Fn P w K mg base (amb K cs) 5 "_by_way_of" 4 m__by_way_of := by
  obtain ⟨f, fd, hm, F⟩ := D.ex
  exact ⟨⟨f, fd, ["rows", "i", "j", "c"], hm, F.kp, F.binds (ps := ["rows", "i", "j", "c"]) fun _ _ _ _ _ _ us hl => match us, hl with | [_, _, _, _], _ => rfl, fn_le (fnVK F sc__by_way_of fun cdv A outer s H E hr tk po =>
  (vs_cons (by first | exact (v_setLc (i := 4) rfl sc__by_way_of.nd rfl rfl rfl (vi_seq rfl (v_ix (o_ix rfl) (v_var 0) (v_var 2))) (blkOk_by (own := [("entry", 5)]) rfl) (gs_name (by decide)) (fun _ _ _ _ _ => (pg_name (i := 5) sc__by_way_of.nd rfl (by first | exact Or.inl rfl | exact Or.inr rfl))) (fun _ _ _ _ _ => vpts_nil) (fun _ _ _ _ _ => (Om.call takes0 hr h__sum (va_cons (v_var 3) (va_cons (v_var 5) va_nil))))) | exact (v_set 4 sc__by_way_of.nd (v_lc rfl sc__by_way_of.nd (vi_seq rfl (v_ix (o_ix rfl) (v_var 0) (v_var 2))) (blkOk_by (own := [("entry", 5)]) rfl) (gs_name (by decide)) (fun _ _ _ _ _ => (pg_name (i := 5) sc__by_way_of.nd rfl (by first | exact Or.inl rfl | exact Or.inr rfl))) (fun _ _ _ _ _ => vpts_nil) (fun _ _ _ _ _ => (Om.call takes0 hr h__sum (va_cons (v_var 3) (va_cons (v_var 5) va_nil)))))))
    (vs_one (v_ret (v_lcD rfl sc__by_way_of.nd (vii_of (vi_seq rfl (v_var 0))) (blkOk_by (own := [("row", 7)]) rfl) (gsi_of (gs_name (by decide))) (fun _ _ _ _ _ => (pg_name (i := 7) sc__by_way_of.nd rfl (by first | exact Or.inl rfl | exact Or.inr rfl))) (fun _ _ _ _ _ => vpts_nil) (fun _ _ _ _ _ => (v_lcC rfl sc__by_way_of.nd (vi_zip rfl T.b_zip (va_cons (v_var 7) (va_cons (v_var 4) va_nil))) (blkOk_by (own := [("entry", 5), ("more", 6)]) rfl) (gs_tup (is := [5, 6]) (n := 2) rfl (by decide)) (fun _ _ _ _ _ => pg_tup rfl (pgs_cons (pg_name (i := 5) sc__by_way_of.nd rfl (by first | exact Or.inl rfl | exact Or.inr rfl)) (pgs_cons (pg_name (i := 6) sc__by_way_of.nd rfl (by first | exact Or.inl rfl | exact Or.inr rfl)) pgs_nil))) (fun _ _ _ _ _ => vpts_nil) (fun _ _ _ _ _ => (Om.call takes0 (hr.mono (by decide)) h__lesser (va_cons (v_var 5) (va_cons (Om.call takes0 hr h__sum (va_cons (v_ix (o_ix rfl) (v_var 7) (v_var 1)) (va_cons (v_var 6) va_nil))) va_nil))))))))))) le__by_way_of⟩, ar__by_way_of⟩
theorem ok_closed (T : TxT K mg cs) (D : DefAt K mg "closed" s_closed) (h_Ratiou_initu1 : In P w K mg base (amb K cs) 1 0 3 [.int 1] m_Ratiou_initu) (h__lesser : Fn P w K mg base (amb K cs) 2 "_lesser" 2 m__lesser) (h__by_way_of : Fn P w K mg base (amb K cs) 5 "_by_way_of" 4 m__by_way_of) (h_is_less : Fn P w K mg base (amb K cs) 1 "is_less" 2 m_is_less) : Fn P w K mg base (amb K cs) 6 "closed" 1 m_closed := by
  obtain ⟨f, fd, hm, F⟩ := D.ex
  exact ⟨⟨f, fd, ["table"], hm, F.kp, F.binds (ps := ["table"]) fun _ _ _ _ _ _ us hl => match us, hl with | [_], _ => rfl, fn_le (fnVK F sc_closed fun cdv A outer s H E hr tk po =>
  (vs_cons (by first | exact (v_setLcD (i := 1) rfl sc_closed.nd rfl rfl rfl (vii_of (vi_seq rfl (v_var 0))) (blkOk_by (own := [("row", 2)]) rfl) (gsi_of (gs_name (by decide))) (fun _ _ _ _ _ => (pg_name (i := 2) sc_closed.nd rfl (by first | exact Or.inl rfl | exact Or.inr rfl))) (fun _ _ _ _ _ => vpts_nil) (fun _ _ _ _ _ => (v_callTy (c_listC rfl) T.b_list (by decide +kernel) (va_cons (v_var 2) va_nil)))) | exact (v_set 1 sc_closed.nd (v_lcD rfl sc_closed.nd (vii_of (vi_seq rfl (v_var 0))) (blkOk_by (own := [("row", 2)]) rfl) (gsi_of (gs_name (by decide))) (fun _ _ _ _ _ => (pg_name (i := 2) sc_closed.nd rfl (by first | exact Or.inl rfl | exact Or.inr rfl))) (fun _ _ _ _ _ => vpts_nil) (fun _ _ _ _ _ => (v_callTy (c_listC rfl) T.b_list (by decide +kernel) (va_cons (v_var 2) va_nil))))))
    (vs_cons (v_for rfl po (vi_enum rfl T.b_enumerate (va_cons (v_var 0) va_nil)) (vg_tup rfl rfl (vgs_cons 3 sc_closed.nd (vgs_cons 2 sc_closed.nd vgs_nil))) (vs_one (v_setIx (v_ix (o_ixD rfl) (v_var 1) (v_var 3)) (v_var 3) (Om.call tk (hr.mono (by decide)) h__lesser (va_cons (v_ix (o_ix rfl) (v_var 2) (v_var 3)) (va_cons (Om.mk tk (hr.mono (by decide)) h_Ratiou_initu1 T.c0 (va_cons v_int va_nil)) va_nil))))))
    (vs_cons (v_for rfl po (vi_rng1 T.b_range (v_callB (c_lenD rfl) T.b_len (by decide +kernel) (va_cons (v_var 1) va_nil))) (vg_name 4 sc_closed.nd) (vs_cons (v_set 1 sc_closed.nd (Om.call tk hr h__by_way_of (va_cons (v_frz (v_var 1)) (va_cons (v_var 4) (va_cons (v_var 4) (va_cons (Om.mk tk (hr.mono (by decide)) h_Ratiou_initu1 T.c0 (va_cons v_int va_nil)) va_nil))))))
    (vs_one (v_if (v_test (v_callB (c_any rfl rfl) T.b_any (by decide +kernel) (va_cons (v_lcI rfl sc_closed.nd (vii_enumL rfl T.b_enumerate (va_cons (v_var 1) va_nil)) (blkOk_by (own := [("i", 3), ("row", 2)]) rfl) (gsi_two (by decide) (by decide)) (fun _ _ _ _ _ => pg_tup rfl (pgs_cons (pg_name (i := 3) sc_closed.nd rfl (by first | exact Or.inl rfl | exact Or.inr rfl)) (pgs_cons (pg_name (i := 2) sc_closed.nd rfl (by first | exact Or.inl rfl | exact Or.inr rfl)) pgs_nil))) (fun _ _ _ _ _ => vpts_nil) (fun _ _ _ _ _ => (Om.call takes0 (hr.mono (by decide)) h_is_less (va_cons (v_ix (o_ix rfl) (v_var 2) (v_var 3)) (va_cons (Om.mk takes0 (hr.mono (by decide)) h_Ratiou_initu1 T.c0 (va_cons v_int va_nil)) va_nil))))) va_nil))) (vs_one (v_ret v_non)) vs_nil))))
    (vs_one (v_ret (v_var 1))))))) le_closed⟩, ar_closed⟩
theorem ok_bounds (T : TxT K mg cs) (D : DefAt K mg "bounds" s_bounds) (h_Ratiou_negu : Mt P w K mg base (amb K cs) 3 ((amb K cs).cl 0) "__neg__" 1 m_Ratiou_negu) (h_closed : Fn P w K mg base (amb K cs) 6 "closed" 1 m_closed) : Fn P w K mg base (amb K cs) 7 "bounds" 1 m_bounds := by
  obtain ⟨f, fd, hm, F⟩ := D.ex
  exact ⟨⟨f, fd, ["sheet"], hm, F.kp, F.binds (ps := ["sheet"]) fun _ _ _ _ _ _ us hl => match us, hl with | [_], _ => rfl, fn_le (fnVK F sc_bounds fun cdv A outer s H E hr tk po =>
  (vs_cons (v_set 1 sc_bounds.nd (v_callB (c_len rfl) T.b_len (by decide +kernel) (va_cons (v_var 0) va_nil)))
    (vs_cons (by first | exact (v_setLcD (i := 2) rfl sc_bounds.nd rfl rfl rfl (vii_of (vi_rng1 T.b_range (v_bin o_add (v_var 1) v_int))) (blkOk_by (own := [("_", 3)]) rfl) (gsi_of (gs_name (by decide))) (fun _ _ _ _ _ => (pg_name (i := 3) sc_bounds.nd rfl (by first | exact Or.inl rfl | exact Or.inr rfl))) (fun _ _ _ _ _ => vpts_nil) (fun _ _ _ _ _ => (v_bin o_repC (v_lst (va_cons v_non va_nil)) (v_bin o_add (v_var 1) v_int)))) | exact (v_set 2 sc_bounds.nd (v_lcD rfl sc_bounds.nd (vii_of (vi_rng1 T.b_range (v_bin o_add (v_var 1) v_int))) (blkOk_by (own := [("_", 3)]) rfl) (gsi_of (gs_name (by decide))) (fun _ _ _ _ _ => (pg_name (i := 3) sc_bounds.nd rfl (by first | exact Or.inl rfl | exact Or.inr rfl))) (fun _ _ _ _ _ => vpts_nil) (fun _ _ _ _ _ => (v_bin o_repC (v_lst (va_cons v_non va_nil)) (v_bin o_add (v_var 1) v_int))))))
    (vs_cons (v_for rfl po (vi_enumT rfl T.b_enumerate (va_cons (v_var 0) va_nil)) (vg_tupM rfl rfl (vgm_cons (vg_name 4 sc_bounds.nd) (vgm_cons (vg_tup rfl rfl (vgs_cons 5 sc_bounds.nd (vgs_cons 6 sc_bounds.nd (vgs_cons 7 sc_bounds.nd vgs_nil)))) vgm_nil))) (vs_cons (v_set 8 sc_bounds.nd (v_ifExp (v_tcmp (o_eq hr.units rfl) (v_var 5) (v_un o_neg v_int)) (v_var 1) (v_var 5)))
    (vs_cons (v_setIx (v_ix (o_ixD rfl) (v_var 2) (v_var 4)) (v_var 8) (v_var 7))
    (vs_one (v_setIx (v_ix (o_ixD rfl) (v_var 2) (v_var 8)) (v_var 4) (v_un (Om.neg tk (hr.mono (by decide)) h_Ratiou_negu T.sf0) (v_var 6)))))))
    (vs_one (v_ret (Om.call tk hr h_closed (va_cons (v_frz (v_var 2)) va_nil)))))))) le_bounds⟩, ar_bounds⟩
theorem ok__law_less (T : TxT K mg cs) (D : DefAt K mg "_law_less" s__law_less)  : Fn P w K mg base (amb K cs) 1 "_law_less" 2 m__law_less := by
  obtain ⟨f, fd, hm, F⟩ := D.ex
  exact ⟨⟨f, fd, ["a", "b"], hm, F.kp, F.binds (ps := ["a", "b"]) fun _ _ _ _ _ _ us hl => match us, hl with | [_, _], _ => rfl, fn_le (fnV F sc__law_less fun cdv A outer s H E hr tk po =>
  (vs_one (v_ret (v_cmp o_lt (v_bin o_mul (v_ix (o_ix rfl) (v_var 0) v_int) (v_ix (o_ix rfl) (v_var 1) v_int)) (v_bin o_mul (v_ix (o_ix rfl) (v_var 1) v_int) (v_ix (o_ix rfl) (v_var 0) v_int)))))) le__law_less⟩, ar__law_less⟩
theorem ok__law_lower (T : TxT K mg cs) (D : DefAt K mg "_law_lower" s__law_lower) (h__law_less : Fn P w K mg base (amb K cs) 1 "_law_less" 2 m__law_less) : Fn P w K mg base (amb K cs) 2 "_law_lower" 2 m__law_lower := by
  obtain ⟨f, fd, hm, F⟩ := D.ex
  exact ⟨⟨f, fd, ["a", "b"], hm, F.kp, F.binds (ps := ["a", "b"]) fun _ _ _ _ _ _ us hl => match us, hl with | [_, _], _ => rfl, fn_le (fnV F sc__law_lower fun cdv A outer s H E hr tk po =>
  (vs_cons (v_if (v_tcmp o_is (v_var 0) v_non) (vs_one (v_ret (v_var 1))) vs_nil)
    (vs_cons (v_if (PW.pt (v_tor (v_tcmp o_is (v_var 1) v_non) (v_or1 (v_test (Om.call tk hr h__law_less (va_cons (v_var 0) (va_cons (v_var 1) va_nil))))))) (vs_one (v_ret (v_var 0))) vs_nil)
    (vs_one (v_ret (v_var 1)))))) le__law_lower⟩, ar__law_lower⟩
theorem ok__law_closed (T : TxT K mg cs) (D : DefAt K mg "_law_closed" s__law_closed) (h__law_lower : Fn P w K mg base (amb K cs) 2 "_law_lower" 2 m__law_lower) (h__law_sum : Fn P w K mg base (amb K cs) 2 "_law_sum" 2 m__law_sum) (h__law_less : Fn P w K mg base (amb K cs) 1 "_law_less" 2 m__law_less) : Fn P w K mg base (amb K cs) 3 "_law_closed" 1 m__law_closed := by
  obtain ⟨f, fd, hm, F⟩ := D.ex
  exact ⟨⟨f, fd, ["rows"], hm, F.kp, F.binds (ps := ["rows"]) fun _ _ _ _ _ _ us hl => match us, hl with | [_], _ => rfl, fn_le (fnV F sc__law_closed fun cdv A outer s H E hr tk po =>
  (vs_cons (v_set 1 sc__law_closed.nd (v_callB (c_len rfl) T.b_len (by decide +kernel) (va_cons (v_var 0) va_nil)))
    (vs_cons (by first | exact (v_setLc (i := 2) rfl sc__law_closed.nd rfl rfl rfl (vi_rng1 T.b_range (v_var 1)) (blkOk_by (own := [("i", 4)]) rfl) (gs_name (by decide)) (fun _ _ _ _ _ => (pg_name (i := 4) sc__law_closed.nd rfl (by first | exact Or.inl rfl | exact Or.inr rfl))) (fun _ _ _ _ _ => vpts_nil) (fun _ _ _ _ _ => (v_lc rfl sc__law_closed.nd (vi_rng1 T.b_range (v_var 1)) (blkOk_by (own := [("j", 3)]) rfl) (gs_name (by decide)) (fun _ _ _ _ _ => (pg_name (i := 3) sc__law_closed.nd rfl (by first | exact Or.inl rfl | exact Or.inr rfl))) (fun _ _ _ _ _ => vpts_nil) (fun _ _ _ _ _ => (Om.call takes0 hr h__law_lower (va_cons (v_ix (o_ix rfl) (v_ix (o_ix rfl) (v_var 0) (v_var 4)) (v_var 3)) (va_cons (v_ix (o_ix rfl) (v_lst (va_cons v_non (va_cons (v_tup (va_cons v_int (va_cons v_int va_nil))) va_nil))) (v_callTy c_int T.b_int (by decide +kernel) (va_cons (v_cmp (o_eq hr.units rfl) (v_var 4) (v_var 3)) va_nil))) va_nil))))))) | exact (v_set 2 sc__law_closed.nd (v_lc rfl sc__law_closed.nd (vi_rng1 T.b_range (v_var 1)) (blkOk_by (own := [("i", 4)]) rfl) (gs_name (by decide)) (fun _ _ _ _ _ => (pg_name (i := 4) sc__law_closed.nd rfl (by first | exact Or.inl rfl | exact Or.inr rfl))) (fun _ _ _ _ _ => vpts_nil) (fun _ _ _ _ _ => (v_lc rfl sc__law_closed.nd (vi_rng1 T.b_range (v_var 1)) (blkOk_by (own := [("j", 3)]) rfl) (gs_name (by decide)) (fun _ _ _ _ _ => (pg_name (i := 3) sc__law_closed.nd rfl (by first | exact Or.inl rfl | exact Or.inr rfl))) (fun _ _ _ _ _ => vpts_nil) (fun _ _ _ _ _ => (Om.call takes0 hr h__law_lower (va_cons (v_ix (o_ix rfl) (v_ix (o_ix rfl) (v_var 0) (v_var 4)) (v_var 3)) (va_cons (v_ix (o_ix rfl) (v_lst (va_cons v_non (va_cons (v_tup (va_cons v_int (va_cons v_int va_nil))) va_nil))) (v_callTy c_int T.b_int (by decide +kernel) (va_cons (v_cmp (o_eq hr.units rfl) (v_var 4) (v_var 3)) va_nil))) va_nil)))))))))
    (vs_cons (v_set 5 sc__law_closed.nd (v_var 2))
    (vs_cons (v_for rfl po (vi_rng1 T.b_range (v_var 1)) (vg_name 6 sc__law_closed.nd) (vs_cons (v_set 7 sc__law_closed.nd (v_lstC va_nil))
    (vs_cons (v_for rfl po (vi_rng1 T.b_range (v_var 1)) (vg_name 4 sc__law_closed.nd) (vs_cons (v_set 8 sc__law_closed.nd (v_callTy (c_listC rfl) T.b_list (by decide +kernel) (va_cons (v_ix (o_ix rfl) (v_var 5) (v_var 4)) va_nil)))
    (vs_cons (v_for rfl po (vi_rng1 T.b_range (v_var 1)) (vg_name 9 sc__law_closed.nd) (vs_one (v_for rfl po (vi_rng1 T.b_range (v_var 1)) (vg_name 3 sc__law_closed.nd) (vs_one (v_if (PW.pt (v_tand (v_tcmp o_isnot (v_ix (o_ix rfl) (v_ix (o_ix rfl) (v_var 5) (v_var 4)) (v_var 9)) v_non) (v_and1 (v_tcmp o_isnot (v_ix (o_ix rfl) (v_ix (o_ix rfl) (v_var 2) (v_var 9)) (v_var 3)) v_non)))) (vs_one (v_setIx (v_var 8) (v_var 3) (Om.call tk hr h__law_lower (va_cons (v_ix (o_ix rfl) (v_var 8) (v_var 3)) (va_cons (Om.call tk hr h__law_sum (va_cons (v_ix (o_ix rfl) (v_ix (o_ix rfl) (v_var 5) (v_var 4)) (v_var 9)) (va_cons (v_ix (o_ix rfl) (v_ix (o_ix rfl) (v_var 2) (v_var 9)) (v_var 3)) va_nil))) va_nil))))) vs_nil)))))
    (vs_one (v_expr (v_bm PySem.F.plainAttrs_list PySem.F.slot_list_append PySem.F.type_list_append m_append ty_lst (v_var 7) (va_cons (v_var 8) va_nil)))))))
    (vs_one (v_set 5 sc__law_closed.nd (v_var 7))))))
    (vs_cons (v_if (v_tcmp o_gt (v_callB (c_len rfl) T.b_len (by decide +kernel) (va_cons (v_lc rfl sc__law_closed.nd (vi_rng1 T.b_range (v_var 1)) (blkOk_by (own := [("i", 4)]) rfl) (gs_name (by decide)) (fun _ _ _ _ _ => (pg_name (i := 4) sc__law_closed.nd rfl (by first | exact Or.inl rfl | exact Or.inr rfl))) (fun _ _ _ _ _ => vpts_one (v_test (Om.call takes0 (hr.mono (by decide)) h__law_less (va_cons (v_ix (o_ix rfl) (v_ix (o_ix rfl) (v_var 5) (v_var 4)) (v_var 4)) (va_cons (v_tup (va_cons v_int (va_cons v_int va_nil))) va_nil))))) (fun _ _ _ _ _ => (v_var 4))) va_nil)) v_int) (vs_one (v_ret v_non)) vs_nil)
    (vs_one (v_ret (v_var 5))))))))) le__law_closed⟩, ar__law_closed⟩
theorem ok__law_gaps (T : TxT K mg cs) (D : DefAt K mg "_law_gaps" s__law_gaps) (h__law_draw : Fn P w K mg base (amb K cs) 1 "_law_draw" 2 m__law_draw) (h__law_number : Fn P w K mg base (amb K cs) 2 "_law_number" 1 m__law_number) (h__law_size : Fn P w K mg base (amb K cs) 1 "_law_size" 1 m__law_size) (h__law_minus : Fn P w K mg base (amb K cs) 1 "_law_minus" 1 m__law_minus) (h__law_sum : Fn P w K mg base (amb K cs) 2 "_law_sum" 2 m__law_sum) (h__law_closed : Fn P w K mg base (amb K cs) 3 "_law_closed" 1 m__law_closed) : Fn P w K mg base (amb K cs) 4 "_law_gaps" 1 m__law_gaps := by
  obtain ⟨f, fd, hm, F⟩ := D.ex
  exact ⟨⟨f, fd, ["stream"], hm, F.kp, F.binds (ps := ["stream"]) fun _ _ _ _ _ _ us hl => match us, hl with | [_], _ => rfl, fn_le (fnV F sc__law_gaps fun cdv A outer s H E hr tk po =>
  (vs_cons (v_set 1 sc__law_gaps.nd (v_bin o_add v_int (Om.call tk (hr.mono (by decide)) h__law_draw (va_cons (v_var 0) (va_cons v_int va_nil)))))
    (vs_cons (by first | exact (v_setLc (i := 2) rfl sc__law_gaps.nd rfl rfl rfl (vi_rng1 T.b_range (v_var 1)) (blkOk_by (own := [("k", 3)]) rfl) (gs_name (by decide)) (fun _ _ _ _ _ => (pg_name (i := 3) sc__law_gaps.nd rfl (by first | exact Or.inl rfl | exact Or.inr rfl))) (fun _ _ _ _ _ => vpts_nil) (fun _ _ _ _ _ => (Om.call takes0 (hr.mono (by decide)) h__law_number (va_cons (v_var 0) va_nil)))) | exact (v_set 2 sc__law_gaps.nd (v_lc rfl sc__law_gaps.nd (vi_rng1 T.b_range (v_var 1)) (blkOk_by (own := [("k", 3)]) rfl) (gs_name (by decide)) (fun _ _ _ _ _ => (pg_name (i := 3) sc__law_gaps.nd rfl (by first | exact Or.inl rfl | exact Or.inr rfl))) (fun _ _ _ _ _ => vpts_nil) (fun _ _ _ _ _ => (Om.call takes0 (hr.mono (by decide)) h__law_number (va_cons (v_var 0) va_nil))))))
    (vs_cons (v_set 4 sc__law_gaps.nd (v_bin o_add v_int (Om.call tk (hr.mono (by decide)) h__law_draw (va_cons (v_var 0) (va_cons v_int va_nil)))))
    (vs_cons (v_set 5 sc__law_gaps.nd (v_lstC va_nil))
    (vs_cons (v_for rfl po (vi_rng1 T.b_range (v_var 1)) (vg_name 6 sc__law_gaps.nd) (vs_cons (v_set 7 sc__law_gaps.nd (v_lstC va_nil))
    (vs_cons (v_for rfl po (vi_rng1 T.b_range (v_var 1)) (vg_name 8 sc__law_gaps.nd) (vs_cons (v_set 9 sc__law_gaps.nd v_non)
    (vs_cons (v_if (v_tcmp (o_eq hr.units rfl) (Om.call tk (hr.mono (by decide)) h__law_draw (va_cons (v_var 0) (va_cons (v_var 4) va_nil))) v_int) (vs_one (v_set 9 sc__law_gaps.nd (Om.call tk (hr.mono (by decide)) h__law_sum (va_cons (Om.call tk (hr.mono (by decide)) h__law_sum (va_cons (v_ix (o_ix rfl) (v_var 2) (v_var 6)) (va_cons (Om.call tk (hr.mono (by decide)) h__law_minus (va_cons (v_ix (o_ix rfl) (v_var 2) (v_var 8)) va_nil)) va_nil))) (va_cons (Om.call tk (hr.mono (by decide)) h__law_size (va_cons (Om.call tk (hr.mono (by decide)) h__law_number (va_cons (v_var 0) va_nil)) va_nil)) va_nil))))) vs_nil)
    (vs_one (v_expr (v_bm PySem.F.plainAttrs_list PySem.F.slot_list_append PySem.F.type_list_append m_append ty_lst (v_var 7) (va_cons (v_var 9) va_nil)))))))
    (vs_one (v_expr (v_bm PySem.F.plainAttrs_list PySem.F.slot_list_append PySem.F.type_list_append m_append ty_lst (v_var 5) (va_cons (v_var 7) va_nil)))))))
    (vs_one (v_ret (Om.call tk hr h__law_closed (va_cons (v_var 5) va_nil)))))))))) le__law_gaps⟩, ar__law_gaps⟩
theorem ok__law_ratio (T : TxT K mg cs) (D : DefAt K mg "_law_ratio" s__law_ratio) (h_Ratiou_initu : In P w K mg base (amb K cs) 1 0 3 [] m_Ratiou_initu) : Fn P w K mg base (amb K cs) 3 "_law_ratio" 1 m__law_ratio := by
  obtain ⟨f, fd, hm, F⟩ := D.ex
  exact ⟨⟨f, fd, ["a"], hm, F.kp, F.binds (ps := ["a"]) fun _ _ _ _ _ _ us hl => match us, hl with | [_], _ => rfl, fn_le (fnV F sc__law_ratio fun cdv A outer s H E hr tk po =>
  (vs_one (v_ret (Om.mk tk hr h_Ratiou_initu T.c0 (va_cons (v_ix (o_ix rfl) (v_var 0) v_int) (va_cons (v_ix (o_ix rfl) (v_var 0) v_int) va_nil)))))) le__law_ratio⟩, ar__law_ratio⟩
theorem ok__law_table (T : TxT K mg cs) (D : DefAt K mg "_law_table" s__law_table) (h__law_ratio : Fn P w K mg base (amb K cs) 3 "_law_ratio" 1 m__law_ratio) : Fn P w K mg base (amb K cs) 4 "_law_table" 1 m__law_table := by
  obtain ⟨f, fd, hm, F⟩ := D.ex
  exact ⟨⟨f, fd, ["rows"], hm, F.kp, F.binds (ps := ["rows"]) fun _ _ _ _ _ _ us hl => match us, hl with | [_], _ => rfl, fn_le (fnV F sc__law_table fun cdv A outer s H E hr tk po =>
  (vs_cons (v_set 1 sc__law_table.nd (v_lstC va_nil))
    (vs_cons (v_forI rfl po (vii_live rfl (v_var 0)) (vgi_name 2 sc__law_table.nd) (vs_cons (v_set 3 sc__law_table.nd (v_lstC va_nil))
    (vs_cons (v_for rfl po (vi_seq rfl (v_var 2)) (vg_name 4 sc__law_table.nd) (vs_one (v_if (v_tcmp o_is (v_var 4) v_non) (vs_one (v_expr (v_bm PySem.F.plainAttrs_list PySem.F.slot_list_append PySem.F.type_list_append m_append ty_lst (v_var 3) (va_cons v_non va_nil)))) (vs_one (v_expr (v_bm PySem.F.plainAttrs_list PySem.F.slot_list_append PySem.F.type_list_append m_append ty_lst (v_var 3) (va_cons (Om.call tk hr h__law_ratio (va_cons (v_var 4) va_nil)) va_nil)))))))
    (vs_one (v_expr (v_bm PySem.F.plainAttrs_list PySem.F.slot_list_append PySem.F.type_list_append m_append ty_lst (v_var 1) (va_cons (v_var 3) va_nil)))))))
    (vs_one (v_ret (v_var 1)))))) le__law_table⟩, ar__law_table⟩
theorem ok__law_over (T : TxT K mg cs) (D : DefAt K mg "_law_over" s__law_over) (h__law_pair : Fn P w K mg base (amb K cs) 1 "_law_pair" 2 m__law_pair) : Fn P w K mg base (amb K cs) 2 "_law_over" 2 m__law_over := by
  obtain ⟨f, fd, hm, F⟩ := D.ex
  exact ⟨⟨f, fd, ["a", "b"], hm, F.kp, F.binds (ps := ["a", "b"]) fun _ _ _ _ _ _ us hl => match us, hl with | [_, _], _ => rfl, fn_le (fnV F sc__law_over fun cdv A outer s H E hr tk po =>
  (vs_one (v_ret (Om.call tk hr h__law_pair (va_cons (v_bin o_mul (v_ix (o_ix rfl) (v_var 0) v_int) (v_ix (o_ix rfl) (v_var 1) v_int)) (va_cons (v_bin o_mul (v_ix (o_ix rfl) (v_var 0) v_int) (v_ix (o_ix rfl) (v_var 1) v_int)) va_nil)))))) le__law_over⟩, ar__law_over⟩
theorem ok__law_times (T : TxT K mg cs) (D : DefAt K mg "_law_times" s__law_times) (h__law_pair : Fn P w K mg base (amb K cs) 1 "_law_pair" 2 m__law_pair) : Fn P w K mg base (amb K cs) 2 "_law_times" 2 m__law_times := by
  obtain ⟨f, fd, hm, F⟩ := D.ex
  exact ⟨⟨f, fd, ["a", "b"], hm, F.kp, F.binds (ps := ["a", "b"]) fun _ _ _ _ _ _ us hl => match us, hl with | [_, _], _ => rfl, fn_le (fnV F sc__law_times fun cdv A outer s H E hr tk po =>
  (vs_one (v_ret (Om.call tk hr h__law_pair (va_cons (v_bin o_mul (v_ix (o_ix rfl) (v_var 0) v_int) (v_ix (o_ix rfl) (v_var 1) v_int)) (va_cons (v_bin o_mul (v_ix (o_ix rfl) (v_var 0) v_int) (v_ix (o_ix rfl) (v_var 1) v_int)) va_nil)))))) le__law_times⟩, ar__law_times⟩
theorem ok__law_condition (T : TxT K mg cs) (D : DefAt K mg "_law_condition" s__law_condition) (h__law_number : Fn P w K mg base (amb K cs) 2 "_law_number" 1 m__law_number) (h__law_minus : Fn P w K mg base (amb K cs) 1 "_law_minus" 1 m__law_minus) (h__law_draw : Fn P w K mg base (amb K cs) 1 "_law_draw" 2 m__law_draw) (h__law_pair : Fn P w K mg base (amb K cs) 1 "_law_pair" 2 m__law_pair) (h__law_sum : Fn P w K mg base (amb K cs) 2 "_law_sum" 2 m__law_sum) (h__law_times : Fn P w K mg base (amb K cs) 2 "_law_times" 2 m__law_times) (h__law_over : Fn P w K mg base (amb K cs) 2 "_law_over" 2 m__law_over) : Fn P w K mg base (amb K cs) 3 "_law_condition" 4 m__law_condition := by
  obtain ⟨f, fd, hm, F⟩ := D.ex
  exact ⟨⟨f, fd, ["stream", "known", "i", "j"], hm, F.kp, F.binds (ps := ["stream", "known", "i", "j"]) fun _ _ _ _ _ _ us hl => match us, hl with | [_, _, _, _], _ => rfl, fn_le (fnV F sc__law_condition fun cdv A outer s H E hr tk po =>
  (vs_cons (v_if (PW.pt (v_tor (v_tcmp o_is (v_ix (o_ix rfl) (v_ix (o_ix rfl) (v_var 1) (v_var 2)) (v_var 3)) v_non) (v_or1 (v_tcmp o_is (v_ix (o_ix rfl) (v_ix (o_ix rfl) (v_var 1) (v_var 3)) (v_var 2)) v_non)))) (vs_one (v_ret (Om.call tk hr h__law_number (va_cons (v_var 0) va_nil)))) vs_nil)
    (vs_cons (v_set 4 sc__law_condition.nd (Om.call tk (hr.mono (by decide)) h__law_minus (va_cons (v_ix (o_ix rfl) (v_ix (o_ix rfl) (v_var 1) (v_var 3)) (v_var 2)) va_nil)))
    (vs_cons (v_if (v_tcmp (o_eq hr.units rfl) (Om.call tk (hr.mono (by decide)) h__law_draw (va_cons (v_var 0) (va_cons v_int va_nil))) v_int) (vs_one (v_ret (Om.call tk hr h__law_sum (va_cons (v_var 4) (va_cons (Om.call tk (hr.mono (by decide)) h__law_pair (va_cons (v_bin o_sub (Om.call tk (hr.mono (by decide)) h__law_draw (va_cons (v_var 0) (va_cons v_int va_nil))) v_int) (va_cons (v_bin o_add v_int (Om.call tk (hr.mono (by decide)) h__law_draw (va_cons (v_var 0) (va_cons v_int va_nil)))) va_nil))) va_nil))))) vs_nil)
    (vs_one (v_ret (Om.call tk hr h__law_sum (va_cons (v_var 4) (va_cons (Om.call tk hr h__law_over (va_cons (Om.call tk hr h__law_times (va_cons (Om.call tk hr h__law_sum (va_cons (v_ix (o_ix rfl) (v_ix (o_ix rfl) (v_var 1) (v_var 2)) (v_var 3)) (va_cons (Om.call tk (hr.mono (by decide)) h__law_minus (va_cons (v_var 4) va_nil)) va_nil))) (va_cons (v_tup (va_cons (Om.call tk (hr.mono (by decide)) h__law_draw (va_cons (v_var 0) (va_cons v_int va_nil))) (va_cons v_int va_nil))) va_nil))) (va_cons (v_tup (va_cons v_int (va_cons v_int va_nil))) va_nil))) va_nil))))))))) le__law_condition⟩, ar__law_condition⟩
theorem ok_with_bound (T : TxT K mg cs) (D : DefAt K mg "with_bound" s_with_bound) (h_Ratiou_initu1 : In P w K mg base (amb K cs) 1 0 3 [.int 1] m_Ratiou_initu) (h_Ratiou_addu : Mt P w K mg base (amb K cs) 3 ((amb K cs).cl 0) "__add__" 2 m_Ratiou_addu) (h_is_less : Fn P w K mg base (amb K cs) 1 "is_less" 2 m_is_less) (h__by_way_of : Fn P w K mg base (amb K cs) 5 "_by_way_of" 4 m__by_way_of) : Fn P w K mg base (amb K cs) 6 "with_bound" 4 m_with_bound := by
  obtain ⟨f, fd, hm, F⟩ := D.ex
  exact ⟨⟨f, fd, ["table", "i", "j", "c"], hm, F.kp, F.binds (ps := ["table", "i", "j", "c"]) fun _ _ _ _ _ _ us hl => match us, hl with | [_, _, _, _], _ => rfl, fn_le (fnVK F sc_with_bound fun cdv A outer s H E hr tk po =>
  (vs_cons (v_set 4 sc_with_bound.nd (v_ix (o_ix rfl) (v_ix (o_ix rfl) (v_var 0) (v_var 2)) (v_var 1)))
    (vs_cons (v_if (PW.pt (v_tand (v_tcmp o_isnot (v_var 4) v_non) (v_and1 (v_test (Om.call tk (hr.mono (by decide)) h_is_less (va_cons (v_bin (Om.bin tk (hr.mono (by decide)) rfl h_Ratiou_addu T.sf0) (v_var 4) (v_var 3)) (va_cons (Om.mk tk (hr.mono (by decide)) h_Ratiou_initu1 T.c0 (va_cons v_int va_nil)) va_nil))))))) (vs_one (v_ret v_non)) vs_nil)
    (vs_one (v_ret (Om.call tk hr h__by_way_of (va_cons (v_var 0) (va_cons (v_var 1) (va_cons (v_var 2) (va_cons (v_var 3) va_nil)))))))))) le_with_bound⟩, ar_with_bound⟩
theorem ok__law_cues (T : TxT K mg cs) (D : DefAt K mg "_law_cues" s__law_cues) (h__law_ratio : Fn P w K mg base (amb K cs) 3 "_law_ratio" 1 m__law_ratio) : Fn P w K mg base (amb K cs) 4 "_law_cues" 1 m__law_cues := by
  obtain ⟨f, fd, hm, F⟩ := D.ex
  exact ⟨⟨f, fd, ["rows"], hm, F.kp, F.binds (ps := ["rows"]) fun _ _ _ _ _ _ us hl => match us, hl with | [_], _ => rfl, fn_le (fnV F sc__law_cues fun cdv A outer s H E hr tk po =>
  (vs_one (v_ret (v_callTy (c_tupOf rfl) T.b_tuple (by decide +kernel) (va_cons (v_lc rfl sc__law_cues.nd (vi_seq rfl (v_var 0)) (blkOk_by (own := [("row", 1)]) rfl) (gs_name (by decide)) (fun _ _ _ _ _ => (pg_name (i := 1) sc__law_cues.nd rfl (by first | exact Or.inl rfl | exact Or.inr rfl))) (fun _ _ _ _ _ => vpts_nil) (fun _ _ _ _ _ => (v_tup (va_cons (v_ix (o_ix rfl) (v_var 1) v_int) (va_cons (Om.call takes0 hr h__law_ratio (va_cons (v_ix (o_ix rfl) (v_var 1) v_int) va_nil)) (va_cons (Om.call takes0 hr h__law_ratio (va_cons (v_ix (o_ix rfl) (v_var 1) v_int) va_nil)) va_nil)))))) va_nil))))) le__law_cues⟩, ar__law_cues⟩
theorem ok__law_told (T : TxT K mg cs) (D : DefAt K mg "_law_told" s__law_told)  : Fn P w K mg base (amb K cs) 1 "_law_told" 1 m__law_told := by
  obtain ⟨f, fd, hm, F⟩ := D.ex
  exact ⟨⟨f, fd, ["value"], hm, F.kp, F.binds (ps := ["value"]) fun _ _ _ _ _ _ us hl => match us, hl with | [_], _ => rfl, fn_le (fnV F sc__law_told fun cdv A outer s H E hr tk po =>
  (vs_cons (v_if (v_tnot (v_test (v_isiV rfl T.b_isinstance (by decide +kernel) (v_var 0) (pe_glob (v := .ref _) (by rfl) T.c0 rfl) (.own _) (isiO_ok T.isi0)))) (vs_one (v_ret v_non)) vs_nil)
    (vs_one (v_ret (v_tup (va_cons (v_fld 0 0 T.own0 rfl rfl (v_var 0)) (va_cons (v_fld 0 1 T.own0 rfl rfl (v_var 0)) va_nil))))))) le__law_told⟩, ar__law_told⟩
theorem ok__law_shown (T : TxT K mg cs) (D : DefAt K mg "_law_shown" s__law_shown) (h__law_told : Fn P w K mg base (amb K cs) 1 "_law_told" 1 m__law_told) : Fn P w K mg base (amb K cs) 2 "_law_shown" 1 m__law_shown := by
  obtain ⟨f, fd, hm, F⟩ := D.ex
  exact ⟨⟨f, fd, ["table"], hm, F.kp, F.binds (ps := ["table"]) fun _ _ _ _ _ _ us hl => match us, hl with | [_], _ => rfl, fn_le (fnV F sc__law_shown fun cdv A outer s H E hr tk po =>
  (vs_cons (v_if (v_tnot (v_test (v_isiD rfl T.b_isinstance (by decide +kernel) (v_var 0) (pe_bltn (v := .ty "list") (u := .type "list") (by rfl) T.b_list (by decide +kernel) rfl) (.ty _) (isiT_ok T.isib_list (by decide +kernel))))) (vs_one (v_ret (v_var 0))) vs_nil)
    (vs_cons (v_set 1 sc__law_shown.nd (v_lstC va_nil))
    (vs_cons (v_forI rfl po (vii_live rfl (v_var 0)) (vgi_name 2 sc__law_shown.nd) (vs_cons (v_if (v_tnot (v_test (v_isiD rfl T.b_isinstance (by decide +kernel) (v_var 2) (pe_bltn (v := .ty "list") (u := .type "list") (by rfl) T.b_list (by decide +kernel) rfl) (.ty _) (isiT_ok T.isib_list (by decide +kernel))))) (vs_one (v_ret v_non)) vs_nil)
    (vs_cons (v_set 3 sc__law_shown.nd (v_lstC va_nil))
    (vs_cons (v_forI rfl po (vii_live rfl (v_var 2)) (vgi_name 4 sc__law_shown.nd) (vs_one (v_if (v_tcmp o_is (v_var 4) v_non) (vs_one (v_expr (v_bm PySem.F.plainAttrs_list PySem.F.slot_list_append PySem.F.type_list_append m_append ty_lst (v_var 3) (va_cons v_non va_nil)))) (vs_one (v_expr (v_bm PySem.F.plainAttrs_list PySem.F.slot_list_append PySem.F.type_list_append m_append ty_lst (v_var 3) (va_cons (Om.call tk hr h__law_told (va_cons (v_var 4) va_nil)) va_nil)))))))
    (vs_one (v_expr (v_bm PySem.F.plainAttrs_list PySem.F.slot_list_append PySem.F.type_list_append m_append ty_lst (v_var 1) (va_cons (v_var 3) va_nil))))))))
    (vs_one (v_ret (v_var 1))))))) le__law_shown⟩, ar__law_shown⟩
theorem fn_law {f : Addr} {fd : FuncData} (T : TxT K mg cs) (F : Fun K "law" "law" s_law f fd) (h__law_stream : Fn P w K mg base (amb K cs) 1 "_law_stream" 1 m__law_stream) (h__law_draw : Fn P w K mg base (amb K cs) 1 "_law_draw" 2 m__law_draw) (h__law_sheet : Fn P w K mg base (amb K cs) 3 "_law_sheet" 1 m__law_sheet) (h__law_bounds : Fn P w K mg base (amb K cs) 4 "_law_bounds" 1 m__law_bounds) (h__law_cues : Fn P w K mg base (amb K cs) 4 "_law_cues" 1 m__law_cues) (h_bounds : Fn P w K mg base (amb K cs) 7 "bounds" 1 m_bounds) (h__law_gaps : Fn P w K mg base (amb K cs) 4 "_law_gaps" 1 m__law_gaps) (h__law_table : Fn P w K mg base (amb K cs) 4 "_law_table" 1 m__law_table) (h__law_condition : Fn P w K mg base (amb K cs) 3 "_law_condition" 4 m__law_condition) (h__law_lower : Fn P w K mg base (amb K cs) 2 "_law_lower" 2 m__law_lower) (h__law_closed : Fn P w K mg base (amb K cs) 3 "_law_closed" 1 m__law_closed) (h__law_ratio : Fn P w K mg base (amb K cs) 3 "_law_ratio" 1 m__law_ratio) (h_with_bound : Fn P w K mg base (amb K cs) 6 "with_bound" 4 m_with_bound) (h__law_shown : Fn P w K mg base (amb K cs) 2 "_law_shown" 1 m__law_shown) : FnOk P w K mg base (L2.CX P w) 8 f fd ["script"] (spF (amb K cs) 1 m_law) :=
  fn_le (fnV F sc_law fun cdv A outer s H E hr tk po =>
  (vs_cons (v_set 1 sc_law.nd (Om.call tk (hr.mono (by decide)) h__law_stream (va_cons (v_var 0) va_nil)))
    (vs_cons (v_if (v_tcmp (o_eq hr.units rfl) (Om.call tk (hr.mono (by decide)) h__law_draw (va_cons (v_var 1) (va_cons v_int va_nil))) v_int) (vs_cons (v_set 2 sc_law.nd (Om.call tk (hr.mono (by decide)) h__law_sheet (va_cons (v_var 1) va_nil)))
    (vs_cons (v_set 3 sc_law.nd (Om.call tk (hr.mono (by decide)) h__law_bounds (va_cons (v_var 2) va_nil)))
    (vs_one (v_set 4 sc_law.nd (v_frz (Om.call tk hr h_bounds (va_cons (Om.call tk (hr.mono (by decide)) h__law_cues (va_cons (v_var 2) va_nil)) va_nil))))))) (vs_cons (v_set 3 sc_law.nd (Om.call tk (hr.mono (by decide)) h__law_gaps (va_cons (v_var 1) va_nil)))
    (vs_one (v_set 4 sc_law.nd (Om.call tk (hr.mono (by decide)) h__law_table (va_cons (v_var 3) va_nil))))))
    (vs_cons (v_for rfl po (vi_rng1 T.b_range (v_bin o_add v_int (Om.call tk (hr.mono (by decide)) h__law_draw (va_cons (v_var 1) (va_cons v_int va_nil))))) (vg_name 5 sc_law.nd) (vs_cons (v_set 6 sc_law.nd (Om.call tk (hr.mono (by decide)) h__law_draw (va_cons (v_var 1) (va_cons (v_callB (c_len rfl) T.b_len (by decide +kernel) (va_cons (v_var 3) va_nil)) va_nil))))
    (vs_cons (v_set 7 sc_law.nd (Om.call tk (hr.mono (by decide)) h__law_draw (va_cons (v_var 1) (va_cons (v_callB (c_len rfl) T.b_len (by decide +kernel) (va_cons (v_var 3) va_nil)) va_nil))))
    (vs_cons (v_set 8 sc_law.nd (Om.call tk (hr.mono (by decide)) h__law_condition (va_cons (v_var 1) (va_cons (v_var 3) (va_cons (v_var 6) (va_cons (v_var 7) va_nil))))))
    (vs_cons (by first | exact (v_setLcD (i := 9) rfl sc_law.nd rfl rfl rfl (vii_of (vi_seq rfl (v_var 3))) (blkOk_by (own := [("row", 10)]) rfl) (gsi_of (gs_name (by decide))) (fun _ _ _ _ _ => (pg_name (i := 10) sc_law.nd rfl (by first | exact Or.inl rfl | exact Or.inr rfl))) (fun _ _ _ _ _ => vpts_nil) (fun _ _ _ _ _ => (v_callTy (c_listC rfl) T.b_list (by decide +kernel) (va_cons (v_var 10) va_nil)))) | exact (v_set 9 sc_law.nd (v_lcD rfl sc_law.nd (vii_of (vi_seq rfl (v_var 3))) (blkOk_by (own := [("row", 10)]) rfl) (gsi_of (gs_name (by decide))) (fun _ _ _ _ _ => (pg_name (i := 10) sc_law.nd rfl (by first | exact Or.inl rfl | exact Or.inr rfl))) (fun _ _ _ _ _ => vpts_nil) (fun _ _ _ _ _ => (v_callTy (c_listC rfl) T.b_list (by decide +kernel) (va_cons (v_var 10) va_nil))))))
    (vs_cons (v_setIx (v_ix (o_ixD rfl) (v_var 9) (v_var 6)) (v_var 7) (Om.call tk (hr.mono (by decide)) h__law_lower (va_cons (v_ix (o_ix rfl) (v_ix (o_ixD rfl) (v_var 9) (v_var 6)) (v_var 7)) (va_cons (v_var 8) va_nil))))
    (vs_cons (v_set 11 sc_law.nd (Om.call tk (hr.mono (by decide)) h__law_closed (va_cons (v_frz (v_var 9)) va_nil)))
    (vs_cons (v_set 12 sc_law.nd (v_frz (Om.call tk (hr.mono (by decide)) h_with_bound (va_cons (v_var 4) (va_cons (v_var 6) (va_cons (v_var 7) (va_cons (Om.call tk (hr.mono (by decide)) h__law_ratio (va_cons (v_var 8) va_nil)) va_nil)))))))
    (vs_cons (v_if (v_tcmp (o_ne hr.units rfl) (Om.call tk (hr.mono (by decide)) h__law_shown (va_cons (v_var 4) va_nil)) (v_var 3)) (vs_one (v_ret v_bl)) vs_nil)
    (vs_cons (v_if (v_tcmp o_is (v_var 11) v_non) (vs_one (v_ret (v_cmp o_is (v_var 12) v_non))) vs_nil)
    (vs_cons (v_if (v_tcmp (o_ne hr.units rfl) (Om.call tk (hr.mono (by decide)) h__law_shown (va_cons (v_var 12) va_nil)) (v_var 11)) (vs_one (v_ret v_bl)) vs_nil)
    (vs_cons (v_set 13 sc_law.nd (Om.call tk (hr.mono (by decide)) h_with_bound (va_cons (v_var 4) (va_cons (v_var 6) (va_cons (v_var 7) (va_cons (Om.call tk (hr.mono (by decide)) h__law_ratio (va_cons (v_var 8) va_nil)) va_nil))))))
    (vs_cons (v_forI rfl po (vii_live rfl (v_var 13)) (vgi_name 10 sc_law.nd) (vs_cons (v_setIx (v_var 10) v_int v_non)
    (vs_one (v_expr (v_bm PySem.F.plainAttrs_list PySem.F.slot_list_append PySem.F.type_list_append m_append ty_lst (v_var 10) (va_cons v_int va_nil))))))
    (vs_cons (v_if (PW.pt (v_tor (v_tcmp (o_ne hr.units rfl) (Om.call tk (hr.mono (by decide)) h__law_shown (va_cons (v_var 4) va_nil)) (v_var 3)) (v_or1 (v_tcmp (o_ne hr.units rfl) (Om.call tk (hr.mono (by decide)) h__law_shown (va_cons (v_var 12) va_nil)) (v_var 11))))) (vs_one (v_ret v_bl)) vs_nil)
    (vs_cons (v_set 3 sc_law.nd (v_var 11))
    (vs_one (v_set 4 sc_law.nd (v_var 12))))))))))))))))))
    (vs_one (v_ret v_bl)))))) le_law
end
end Vs
/-! k31: the law's worth is True on every script. -/
namespace Vs
open PySem PySem.Spec PyProof.Rows L2
section
variable {N m n B : Nat} {cs : List Cue} {μ : Mu} {g : Tf}
/-- the rows of a result are spoilt -/
theorem spoil31 {c0 c1 c2 c3 c4 c5 c6 c7 c8 c9 c11 c12 c13 : Option D} {μ0 : Mu} {l : Nat} {ds : List D} : ∀ (ks : List Nat) (ν : Mu) (c10 : Option D), ks.Pairwise (· < ·) → (∀ k ∈ ks, μ0.length ≤ k ∧ k < l) → (∀ k ∈ ks, ∃ x R, ν[k]? = some (some (.lst (x :: R))) ∧ R.length < 900) → Ext μ0 ν → ν[l]? = some (some (.dl ds)) →
    ∃ c10' ν', forI (tgNI 10) lb_law_0 (some (l, .dl ds)) (ks.map fun k => .one (.loc k)) [c0, c1, c2, c3, c4, c5, c6, c7, c8, c9, c10, c11, c12, c13] ν
      = some (.nx, [c0, c1, c2, c3, c4, c5, c6, c7, c8, c9, c10', c11, c12, c13], ν') ∧ Ext μ0 ν' ∧ ν'[l]? = some (some (.dl ds))
  | [], ν, c10, pw, hk, hc, ex, hl => ⟨c10, ν, forI_end (show okG ν (some (l, .dl ds)) from hl), ex, hl⟩
  | k :: ks, ν, c10, pw, hk, hc, ex, hl => by
    rw [List.pairwise_cons] at pw
    obtain ⟨x, R, h1, h2⟩ := hc k List.mem_cons_self
    obtain ⟨k1, k2⟩ := hk k List.mem_cons_self
    have g1 : ∀ (δ : Sl), setIxEnd δ ν (.loc k) (.p (.int 0)) (.p .non) = some (.nx, δ, ν.set k (some (.lst (.non :: R)))) := fun δ => setIxEnd_l (n := 0) h1 (by unfold ixN; simp)
    have g2 : isLst (ν.set k (some (.lst (.non :: R)))) (.loc k) = true := isLst_l (set_get h1)
    have g3 := fApp_at (y := .int 0) (set_get (o := some (MO.lst (.non :: R))) h1) (by simp; omega)
    have body : lb_law_0 [c0, c1, c2, c3, c4, c5, c6, c7, c8, c9, some (.loc k), c11, c12, c13] ν = some (.nx, [c0, c1, c2, c3, c4, c5, c6, c7, c8, c9, some (.loc k), c11, c12, c13], ν.set k (some (.lst (.non :: R ++ [.int 0])))) := by
      rw [List.set_set] at g3
      simp [lb_law_0, g1, evBM_eq, g2, g3]
    obtain ⟨c10', ν', r1, r2, r3⟩ := spoil31 (c0 := c0) (c1 := c1) (c2 := c2) (c3 := c3) (c4 := c4) (c5 := c5) (c6 := c6) (c7 := c7) (c8 := c8) (c9 := c9) (c11 := c11) (c12 := c12) (c13 := c13) ks (ν.set k (some (.lst (.non :: R ++ [.int 0])))) (some (.loc k)) pw.2 (fun j hj => hk j (List.mem_cons_of_mem _ hj)) (fun j hj => by
      have := pw.1 j hj
      rw [List.getElem?_set_ne (by omega)]
      exact hc j (List.mem_cons_of_mem _ hj)) (ex.set k1 _) (by rw [List.getElem?_set_ne (by omega)]; exact hl)
    refine ⟨c10', ν', ?_, r2, r3⟩
    rw [List.map_cons, forI_nx (show okG ν (some (l, .dl ds)) from hl) tgNI_one (show lb_law_0 [c0, c1, c2, c3, c4, c5, c6, c7, c8, c9, some (.loc k), c11, c12, c13] ν = _ from body)]
    exact r1
theorem tbP_congr {f g : Tf} (h : ∀ i j, i < n → j < n → f i j = g i j) : tbP n f = tbP n g := by unfold tbP; rw [tbR_congr h]
theorem ne_tq {f : Tf} : fNe (.p (tqP n f)) (.p (tqP n f)) μ = some (.p (.bl false), μ) := by
  show fEqG true _ _ _ = _
  rw [fEqG_p, eqP_self pln_tq]
  rfl
theorem shown_p {f : Tf} (hn : n ≤ 100) : m__law_shown [.p (tbP n f)] μ = some (.ok (.p (tqP n f)), μ) := ev_shownT hn (.inl rfl)
/-- f(..) != v -/
theorem test_ne {e1 e2 : Ev} {δ : Sl} {f : Tf} (h1 : e1 δ μ = some (.ok (.p (tqP n f)), μ)) (h2 : e2 δ μ = some (.ok (.p (tqP n f)), μ)) : evB (evBin fNe e1 e2) δ μ = some (.ok false, μ) := by
  rw [evB_eq', evBin_eq, h1, bindG_ok, h2, bindG_ok, ne_tq, okm_some, bindG_ok]
  rfl
theorem call_shown {k : Nat} {δ : Sl} {f : Tf} (hn : n ≤ 100) (h : δ[k]? = some (some (.p (tbP n f)))) : evCall m__law_shown [] (evCons (evV k) evNil) δ μ = some (.ok (.p (tqP n f)), μ) := by
  rw [evCall_eq, evCons_eq, evV_at h, bindG_ok, evNil_eq, bindG_ok, bindG_ok]
  exact shown_p hn
theorem len_tq {f : Tf} : fLen [.p (tqP n f)] μ = some (.p (.int (n : Int)), μ) := by
  show some (D.p (.int ((tbQ n f).map P.lst).length), μ) = _
  rw [List.length_map, tbQ_len]
theorem call_draw {s s' : SS} {v : Nat} {r : Mu} {δ : Sl} {f : Tf} (h : m__law_draw [.loc 0, .p (.int (n : Int))] (st s :: r) = some (.ok (.p (.int (v : Int))), st s' :: r)) (h1 : δ[1]? = some (some (.loc 0))) (h3 : δ[3]? = some (some (.p (tqP n f)))) :
    evCall m__law_draw [] (evCons (evV 1) (evCons (evBI fLen (evCons (evV 3) evNil)) evNil)) δ (st s :: r) = some (.ok (.p (.int (v : Int))), st s' :: r) := by
  rw [evCall_eq, evCons_eq, evV_at h1, bindG_ok, evCons_eq, evBI_eq, evCons_eq, evV_at h3, bindG_ok, evNil_eq, bindG_ok, bindG_ok, len_tq, okm_some, bindG_ok, evNil_eq, bindG_ok, bindG_ok, bindG_ok]
  exact h
noncomputable abbrev tl31 : SEv := (seqS (sSet 12 (evFrz (evCall m_with_bound [] (evCons (evV 4) (evCons (evV 6) (evCons (evV 7) (evCons (evCall m__law_ratio [] (evCons (evV 8) evNil)) evNil))))))) (seqS (sIf (evB (evBin fNe (evCall m__law_shown [] (evCons (evV 4) evNil)) (evV 3))) (sRet (evC (.bl false))) sNil) (seqS (sIf (evB (evBin (fIs false) (evV 11) (evC .non))) (sRet (evBin (fIs false) (evV 12) (evC .non))) sNil) (seqS (sIf (evB (evBin fNe (evCall m__law_shown [] (evCons (evV 12) evNil)) (evV 11))) (sRet (evC (.bl false))) sNil) (seqS (sSet 13 (evCall m_with_bound [] (evCons (evV 4) (evCons (evV 6) (evCons (evV 7) (evCons (evCall m__law_ratio [] (evCons (evV 8) evNil)) evNil)))))) (seqS (sForI (evItL (evV 13)) (tgNI 10) (seqS (sSetIx (evV 10) (evC (.int 0)) (evC .non)) (sExpr (evBM isLst fApp (evV 10) (evCons (evC (.int 0)) evNil))))) (seqS (sIf (tOrV' (evB (evBin fNe (evCall m__law_shown [] (evCons (evV 4) evNil)) (evV 3))) (evB (evBin fNe (evCall m__law_shown [] (evCons (evV 12) evNil)) (evV 11)))) (sRet (evC (.bl false))) sNil) (seqS (sSet 3 (evV 11)) (sSet 4 (evV 12))))))))))
/-- what the two ends of a turn are -/
abbrev S31 (c0 c2 : Option D) (kn tb : P) (c5 c6 c7 c8 c9 c10 c11 c12 c13 : Option D) : Sl := [c0, some (.loc 0), c2, some (.p kn), some (.p tb), c5, c6, c7, c8, c9, c10, c11, c12, c13]
theorem turn31 (hn : n ≤ 100) (h0 : 0 < n) (k : KnO B N m n g) (hB : B ≤ 1500) (hm : m ≤ 40000) {s : SS} (hs : s.Ok) {c0 c2 c5 c6 c7 c8 c9 c10 c11 c12 c13 : Option D} (r : Mu) :
    (∃ δ' ν, lb_law_1 (S31 c0 c2 (tqP n g) (tbP n g) c5 c6 c7 c8 c9 c10 c11 c12 c13) (st s :: r) = some (.ret (.p (.bl true)), δ', ν)) ∨
    ∃ (h : Tf) (N' : Nat) (s' : SS) (r' : Mu) (d6 d7 d8 d9 d10 d11 d12 d13 : Option D), s'.Ok ∧ KnO (B + 20) N' (m + B + 200) n h ∧
      lb_law_1 (S31 c0 c2 (tqP n g) (tbP n g) c5 c6 c7 c8 c9 c10 c11 c12 c13) (st s :: r) = some (.nx, S31 c0 c2 (tqP n h) (tbP n h) c5 d6 d7 d8 d9 d10 d11 d12 d13, st s' :: r') := by
  obtain ⟨a, s1, o1, u1, e1⟩ := draw0n (n := n) hs h0 (by omega)
  obtain ⟨b, s2, o2, u2, e2⟩ := draw0n (n := n) o1 h0 (by omega)
  obtain ⟨c, d, s3, o3, d0, d20, zc, e3⟩ := cond31 hn k (by omega) (by omega) u1 u2 o2
  have nb' := nb_mul k.nb d0 d20 (by omega)
  have hN' := nb'.nok
  have hg : CzT (N * d) (m + B + 60) n g := fun i j hi hj => ((k.cz i j hi hj).scale d0 d20).mono (by omega)
  generalize hNd : N * d = N' at *
  have t1 : sSet 6 (evCall m__law_draw [] (evCons (evV 1) (evCons (evBI fLen (evCons (evV 3) evNil)) evNil))) (S31 c0 c2 (tqP n g) (tbP n g) c5 c6 c7 c8 c9 c10 c11 c12 c13) (st s :: r) = some (.nx, S31 c0 c2 (tqP n g) (tbP n g) c5 (some (.p (.int (a : Int)))) c7 c8 c9 c10 c11 c12 c13, st s1 :: r) := by
    rw [sSet_eq, call_draw (e1 r) rfl rfl, bindS_ok]; rfl
  have t2 : sSet 7 (evCall m__law_draw [] (evCons (evV 1) (evCons (evBI fLen (evCons (evV 3) evNil)) evNil))) (S31 c0 c2 (tqP n g) (tbP n g) c5 (some (.p (.int (a : Int)))) c7 c8 c9 c10 c11 c12 c13) (st s1 :: r) = some (.nx, S31 c0 c2 (tqP n g) (tbP n g) c5 (some (.p (.int (a : Int)))) (some (.p (.int (b : Int)))) c8 c9 c10 c11 c12 c13, st s2 :: r) := by
    rw [sSet_eq, call_draw (e2 r) rfl rfl, bindS_ok]; rfl
  have t3 : sSet 8 (evCall m__law_condition [] (evCons (evV 1) (evCons (evV 3) (evCons (evV 6) (evCons (evV 7) evNil))))) (S31 c0 c2 (tqP n g) (tbP n g) c5 (some (.p (.int (a : Int)))) (some (.p (.int (b : Int)))) c8 c9 c10 c11 c12 c13) (st s2 :: r) = some (.nx, S31 c0 c2 (tqP n g) (tbP n g) c5 (some (.p (.int (a : Int)))) (some (.p (.int (b : Int)))) (some (.p (pr c))) c9 c10 c11 c12 c13, st s3 :: r) := by
    rw [sSet_eq, evCall_eq, evCons_eq, evV_1, bindG_ok, evCons_eq, evV_3, bindG_ok, evCons_eq, evV_6, bindG_ok, evCons_eq, evV_7, bindG_ok, evNil_eq, bindG_ok, bindG_ok, bindG_ok, bindG_ok, bindG_ok]
    show bindS (m__law_condition [.loc 0, .p (tqP n g), .p (.int (a : Int)), .p (.int (b : Int))] (st s2 :: r)) _ _ = _
    rw [e3, bindS_ok]
    rfl
  obtain ⟨μ1, l, ks, e4, x4, L4⟩ := ev_tried (n := n) (f := g) (μ := st s3 :: r) (δ := S31 c0 c2 (tqP n g) (tbP n g) c5 (some (.p (.int (a : Int)))) (some (.p (.int (b : Int)))) (some (.p (pr c))) c9 c10 c11 c12 c13) (kn := 3) (rw' := 10) (vs := [10]) rfl rfl hn (by simp)
  have t4 : sSet 9 (evLcD (evUpI (evIt (evV 3))) (tgUp (tgN 10)) evTrue (evBI fListC (evCons (evV 10) evNil)) [10]) (S31 c0 c2 (tqP n g) (tbP n g) c5 (some (.p (.int (a : Int)))) (some (.p (.int (b : Int)))) (some (.p (pr c))) c9 c10 c11 c12 c13) (st s3 :: r) = some (.nx, S31 c0 c2 (tqP n g) (tbP n g) c5 (some (.p (.int (a : Int)))) (some (.p (.int (b : Int)))) (some (.p (pr c))) (some (.loc l)) c10 c11 c12 c13, μ1) := by
    rw [sSet_eq, e4, bindS_ok]; rfl
  obtain ⟨kk, ν, f1, f2, f3, L6, l6, g6⟩ := live_putQ (o := omin (g a b) (some c)) L4 u1 u2
  have f5 : fIx (.loc kk) (.p (.int (b : Int))) μ1 = some (.p (opQ (g a b)), μ1) := by
    rw [fIx_lst (view_l f2), atI_nat (show (rwQ n (g a))[b]? = some (opQ (g a b)) from rwL_get u2)]
    rfl
  have f6 := ev_lower (μ := μ1) (b := some c) hN' (hg a b u1 u2) (czo_some zc) (by omega)
  have t5 : sSetIx (evBin fIxD (evV 9) (evV 6)) (evV 7) (evCall m__law_lower [] (evCons (evBin fIx (evBin fIxD (evV 9) (evV 6)) (evV 7)) (evCons (evV 8) evNil))) (S31 c0 c2 (tqP n g) (tbP n g) c5 (some (.p (.int (a : Int)))) (some (.p (.int (b : Int)))) (some (.p (pr c))) (some (.loc l)) c10 c11 c12 c13) μ1 = some (.nx, S31 c0 c2 (tqP n g) (tbP n g) c5 (some (.p (.int (a : Int)))) (some (.p (.int (b : Int)))) (some (.p (pr c))) (some (.loc l)) c10 c11 c12 c13, ν) := by
    rw [sSetIx_eq, evCall_eq, evCons_eq, evBin_eq, evBin_eq, evV_9, bindG_ok, evV_6, bindG_ok, f1, okm_some, bindG_ok, evV_7, bindG_ok, f5, okm_some, bindG_ok, evCons_eq, evV_8, bindG_ok, evNil_eq, bindG_ok, bindG_ok, bindG_ok]
    show bindS (m__law_lower [.p (opQ (g a b)), .p (opQ (some c))] μ1) _ _ = _
    rw [f6, bindS_ok, evBin_eq, evV_9, bindG_ok, evV_6, bindG_ok, f1, okm_some, bindS_ok, evV_7, bindS_ok]
    exact f3 _
  obtain ⟨ν2, f4, l7, g7⟩ := frz_live L6
  have x2 : Ext (st s3 :: r) ν2 := ⟨by rw [l7, l6]; exact x4.len, fun y hy => ((g7 y hy).trans (g6 y hy)).trans (x4.get y hy)⟩
  have f4' : frzD ν (.loc l) = some (tqP n (low g a b c), ν2) := by rw [f4, ← low_put]; rfl
  have hT : CzT N' (m + B + 60) n (low g a b c) := fun i j hi hj => by
    unfold low
    split
    · exact (hg i j hi hj).min (czo_some zc)
    · exact hg i j hi hj
  have e6 := ev_lclosed (μ := ν2) (d := .p (tqP n (low g a b c))) hN' hn hT (by omega) rfl
  have t6 : sSet 11 (evCall m__law_closed [] (evCons (evFrz (evV 9)) evNil)) (S31 c0 c2 (tqP n g) (tbP n g) c5 (some (.p (.int (a : Int)))) (some (.p (.int (b : Int)))) (some (.p (pr c))) (some (.loc l)) c10 c11 c12 c13) ν = some (.nx, S31 c0 c2 (tqP n g) (tbP n g) c5 (some (.p (.int (a : Int)))) (some (.p (.int (b : Int)))) (some (.p (pr c))) (some (.loc l)) c10 (some (.p (oT n (bfT n (low g a b c))))) c12 c13, ν2) := by
    rw [sSet_eq, evCall_eq, evCons_eq, evFrz_eq, evV_9, bindG_ok, f4', frzEnd_some, bindG_ok, evNil_eq, bindG_ok, bindG_ok]
    show bindS (m__law_closed [.p _] _) _ _ = _
    rw [e6, bindS_ok]
    rfl
  have e7r := fun ν : Mu => ev_lratio (μ := ν) (zc.bz hN' (by omega)) (by decide)
  have hcall : ∀ (o11 : P) (o12 : Option D) (o13 : Option D) (o10 : Option D) (ν : Mu), (evCall m_with_bound [] (evCons (evV 4) (evCons (evV 6) (evCons (evV 7) (evCons (evCall m__law_ratio [] (evCons (evV 8) evNil)) evNil))))) (S31 c0 c2 (tqP n g) (tbP n g) c5 (some (.p (.int (a : Int)))) (some (.p (.int (b : Int)))) (some (.p (pr c))) (some (.loc l)) o10 (some (.p o11)) o12 o13) ν = m_with_bound [.p (tbP n g), .p (.int (a : Int)), .p (.int (b : Int)), .p (rat c)] ν := fun o11 o12 o13 o10 ν => by
    rw [evCall_eq, evCons_eq, evV_4, bindG_ok, evCons_eq, evV_6, bindG_ok, evCons_eq, evV_7, bindG_ok, evCons_eq, evCall_eq, evCons_eq, evV_8, bindG_ok, evNil_eq, bindG_ok, bindG_ok]
    show bindG (bindG (bindG (bindG (bindG (m__law_ratio [.p (pr c)] ν) _) _) _) _) _ = _
    rw [e7r, bindG_ok, evNil_eq, bindG_ok, bindG_ok, bindG_ok, bindG_ok, bindG_ok]
    rfl
  have pre : lb_law_1 (S31 c0 c2 (tqP n g) (tbP n g) c5 c6 c7 c8 c9 c10 c11 c12 c13) (st s :: r) = tl31 (S31 c0 c2 (tqP n g) (tbP n g) c5 (some (.p (.int (a : Int)))) (some (.p (.int (b : Int)))) (some (.p (pr c))) (some (.loc l)) c10 (some (.p (oT n (bfT n (low g a b c))))) c12 c13) ν2 := by
    show seqS _ (seqS _ (seqS _ (seqS _ (seqS _ (seqS _ tl31))))) _ _ = _
    rw [seqS_eq, t1, andThen_nx, seqS_eq, t2, andThen_nx, seqS_eq, t3, andThen_nx, seqS_eq, t4, andThen_nx, seqS_eq, t5, andThen_nx, seqS_eq, t6, andThen_nx]
  have t8 : ∀ (o11 : P) (o12 : Option D) (ξ : Mu), sIf (evB (evBin fNe (evCall m__law_shown [] (evCons (evV 4) evNil)) (evV 3))) (sRet (evC (.bl false))) sNil (S31 c0 c2 (tqP n g) (tbP n g) c5 (some (.p (.int (a : Int)))) (some (.p (.int (b : Int)))) (some (.p (pr c))) (some (.loc l)) c10 (some (.p o11)) o12 c13) ξ
      = some (.nx, S31 c0 c2 (tqP n g) (tbP n g) c5 (some (.p (.int (a : Int)))) (some (.p (.int (b : Int)))) (some (.p (pr c))) (some (.loc l)) c10 (some (.p o11)) o12 c13, ξ) := fun o11 o12 ξ => if_f (test_ne (call_shown hn rfl) rfl)
  rw [pre]
  rcases bf_low k.clo (c := c) u1 u2 with ⟨x, hx, hlt, hb⟩ | ⟨hge, h, hb, hclo, heq⟩
  · -- nothing keeps it
    rw [hb]
    have f7 := frz_wbn (μ := ν2) hN' hn hg zc (by omega) u1 u2 ⟨x, hx, hlt⟩ (hcall .non c12 c13 c10 ν2)
    refine .inl ⟨S31 c0 c2 (tqP n g) (tbP n g) c5 (some (.p (.int (a : Int)))) (some (.p (.int (b : Int)))) (some (.p (pr c))) (some (.loc l)) c10 (some (.p .non)) (some (.p .non)) c13, ν2, ?_⟩
    show seqS _ (seqS _ (seqS _ _)) _ _ = _
    rw [seqS_eq, sSet_eq]
    show andThen _ (bindS (evFrz _ (S31 c0 c2 (tqP n g) (tbP n g) c5 (some (.p (.int (a : Int)))) (some (.p (.int (b : Int)))) (some (.p (pr c))) (some (.loc l)) c10 (some (.p .non)) c12 c13) ν2) _ _) = _
    rw [f7, bindS_ok, andThen_nx]
    show seqS _ _ (S31 c0 c2 (tqP n g) (tbP n g) c5 (some (.p (.int (a : Int)))) (some (.p (.int (b : Int)))) (some (.p (pr c))) (some (.loc l)) c10 (some (.p .non)) (some (.p .non)) c13) ν2 = _
    rw [seqS_eq, t8, andThen_nx, seqS_eq, if_t (μ' := ν2) rfl]
    rfl
  · -- the table with the condition
    rw [hb]
    obtain ⟨ν3, f7, x3⟩ := frz_wb (μ := ν2) hN' hn hg zc (by omega) u1 u2 hge (hcall (tqP n h) c12 c13 c10 ν2)
    have hw := tqP_congr heq
    have e10 : ∀ (o13 o10 : Option D) (ξ : Mu), (evCall m__law_shown [] (evCons (evV 12) evNil)) (S31 c0 c2 (tqP n g) (tbP n g) c5 (some (.p (.int (a : Int)))) (some (.p (.int (b : Int)))) (some (.p (pr c))) (some (.loc l)) o10 (some (.p (tqP n h))) (some (.p (tbP n (wb g a b c)))) o13) ξ = some (.ok (.p (tqP n h)), ξ) := fun o13 o10 ξ => by
      rw [call_shown (f := wb g a b c) hn rfl, hw]
    obtain ⟨μ4, l4, ks4, e11, x5, L5⟩ := (ev_wb (μ := ν3) hN' hn hg zc (by omega) u1 u2).2 hge
    obtain ⟨c10', ν5, e12, x6, h6⟩ := spoil31 (c0 := c0) (c1 := some (.loc 0)) (c2 := c2) (c3 := some (.p (tqP n g))) (c4 := some (.p (tbP n g))) (c5 := c5) (c6 := some (.p (.int (a : Int)))) (c7 := some (.p (.int (b : Int)))) (c8 := some (.p (pr c))) (c9 := some (.loc l)) (c11 := some (.p (tqP n h))) (c12 := some (.p (tbP n (wb g a b c)))) (c13 := some (.loc l4)) (μ0 := ν3) (l := l4) (ds := ks4.map .loc) ks4 μ4 c10 L5.pw (fun k hk => ⟨L5.lo k hk, L5.hi k hk⟩) (fun k hk => by
      obtain ⟨i, hi⟩ := List.getElem?_of_mem hk
      have hin : i < n := by
        have := (List.getElem?_eq_some_iff.mp hi).1
        rw [L5.len, tbR_len] at this
        exact this
      have hr := L5.row i k _ hi (tbR_get hin)
      have hlen : (rwP n (wb g a b c) i).length = n := rwP_len
      cases q : rwP n (wb g a b c) i with
      | nil => rw [q] at hlen; simp at hlen; omega
      | cons x R =>
        rw [q] at hr hlen
        exact ⟨x, R, hr, by simp at hlen; omega⟩) x5 L5.at'
    have xx := (x2.trans x3).trans x6
    obtain ⟨r', hr'⟩ := xx.head
    subst hr'
    have hz : CzT N' (m + B + 160) n h := (bfT_cz hN' hT hb).mono (by omega)
    refine .inr ⟨h, N', s3, r', some (.p (.int (a : Int))), some (.p (.int (b : Int))), some (.p (pr c)), some (.loc l), c10', some (.p (tqP n h)), some (.p (tbP n (wb g a b c))), some (.loc l4), o3, ⟨nb', hclo, hz.mono (by omega)⟩, ?_⟩
    show seqS _ (seqS _ (seqS _ (seqS _ (seqS _ (seqS (sForI (evItL (evV 13)) (tgNI 10) lb_law_0) (seqS _ (seqS _ _))))))) _ _ = _
    rw [seqS_eq, sSet_eq]
    show andThen _ (bindS (evFrz _ (S31 c0 c2 (tqP n g) (tbP n g) c5 (some (.p (.int (a : Int)))) (some (.p (.int (b : Int)))) (some (.p (pr c))) (some (.loc l)) c10 (some (.p (tqP n h))) c12 c13) ν2) _ _) = _
    rw [f7, bindS_ok, andThen_nx]
    show seqS _ _ (S31 c0 c2 (tqP n g) (tbP n g) c5 (some (.p (.int (a : Int)))) (some (.p (.int (b : Int)))) (some (.p (pr c))) (some (.loc l)) c10 (some (.p (tqP n h))) (some (.p (tbP n (wb g a b c)))) c13) ν3 = _
    rw [seqS_eq, t8, andThen_nx, seqS_eq, if_f (μ' := ν3) rfl, sNil_eq, andThen_nx, seqS_eq, if_f (test_ne (e10 c13 c10 ν3) rfl), sNil_eq, andThen_nx, seqS_eq, sSet_eq, hcall, e11, bindS_ok, andThen_nx]
    show seqS _ _ (S31 c0 c2 (tqP n g) (tbP n g) c5 (some (.p (.int (a : Int)))) (some (.p (.int (b : Int)))) (some (.p (pr c))) (some (.loc l)) c10 (some (.p (tqP n h))) (some (.p (tbP n (wb g a b c)))) (some (.loc l4))) μ4 = _
    rw [seqS_eq, sForI_eq, evItL_eq, evV_at (i := 13) rfl, bindG_ok]
    rw [items_live L5]
    dsimp only
    rw [bindS_ok]
    dsimp only
    rw [List.map_map]
    have e12' : forI (tgNI 10) lb_law_0 (some (l4, .dl (ks4.map .loc))) (ks4.map (It2.one ∘ D.loc)) (S31 c0 c2 (tqP n g) (tbP n g) c5 (some (.p (.int (a : Int)))) (some (.p (.int (b : Int)))) (some (.p (pr c))) (some (.loc l)) c10 (some (.p (tqP n h))) (some (.p (tbP n (wb g a b c)))) (some (.loc l4))) μ4 = some (.nx, S31 c0 c2 (tqP n g) (tbP n g) c5 (some (.p (.int (a : Int)))) (some (.p (.int (b : Int)))) (some (.p (pr c))) (some (.loc l)) c10' (some (.p (tqP n h))) (some (.p (tbP n (wb g a b c)))) (some (.loc l4)), st s3 :: r') := e12
    rw [e12', andThen_nx, seqS_eq]
    have tst : (tOrV' (evB (evBin fNe (evCall m__law_shown [] (evCons (evV 4) evNil)) (evV 3))) (evB (evBin fNe (evCall m__law_shown [] (evCons (evV 12) evNil)) (evV 11)))) (S31 c0 c2 (tqP n g) (tbP n g) c5 (some (.p (.int (a : Int)))) (some (.p (.int (b : Int)))) (some (.p (pr c))) (some (.loc l)) c10' (some (.p (tqP n h))) (some (.p (tbP n (wb g a b c)))) (some (.loc l4))) (st s3 :: r') = some (.ok false, st s3 :: r') := by
      rw [tOrV_eq, test_ne (call_shown (f := g) hn rfl) rfl, bindG_ok]
      exact test_ne (e10 _ _ _) rfl
    rw [if_f tst, sNil_eq, andThen_nx, tbP_congr heq]
    rfl
theorem turns31 (hn : n ≤ 100) (h0 : 0 < n) {c0 c2 : Option D} : ∀ (t a B N m : Nat) (g : Tf) (s : SS) (r : Mu) (c5 c6 c7 c8 c9 c10 c11 c12 c13 : Option D), KnO B N m n g → B + 20 * t ≤ 1500 → m + (B + 20 * t + 200) * t ≤ 40000 → s.Ok →
    (∃ δ' ν, forL (tgN 5) lb_law_1 (intsP a t) (S31 c0 c2 (tqP n g) (tbP n g) c5 c6 c7 c8 c9 c10 c11 c12 c13) (st s :: r) = some (.ret (.p (.bl true)), δ', ν)) ∨
    ∃ δ' ν, forL (tgN 5) lb_law_1 (intsP a t) (S31 c0 c2 (tqP n g) (tbP n g) c5 c6 c7 c8 c9 c10 c11 c12 c13) (st s :: r) = some (.nx, δ', ν)
  | 0, a, B, N, m, g, s, r, c5, c6, c7, c8, c9, c10, c11, c12, c13, k, hB, hm, hs => .inr ⟨_, _, rfl⟩
  | t + 1, a, B, N, m, g, s, r, c5, c6, c7, c8, c9, c10, c11, c12, c13, k, hB, hm, hs => by
    have hexp : m + (B + 20 * (t + 1) + 200) * (t + 1) = m + ((B + 20 * (t + 1) + 200) * t + (B + 20 * (t + 1) + 200)) := by rw [Nat.mul_succ]
    have hmm : m ≤ 40000 := by omega
    rw [intsP_succ]
    rcases turn31 hn h0 k (by omega) hmm hs (c0 := c0) (c2 := c2) (c5 := some (.p (.int (a : Int)))) (c6 := c6) (c7 := c7) (c8 := c8) (c9 := c9) (c10 := c10) (c11 := c11) (c12 := c12) (c13 := c13) r with ⟨δ', ν, e⟩ | ⟨h, N', s', r', d6, d7, d8, d9, d10, d11, d12, d13, o', k', e⟩
    · refine .inl ⟨δ', ν, ?_⟩
      rw [forL]
      show (match lb_law_1 (S31 c0 c2 (tqP n g) (tbP n g) (some (.p (.int (a : Int)))) c6 c7 c8 c9 c10 c11 c12 c13) (st s :: r) with
        | some (.nx, δ2, μ2) => forL (tgN 5) lb_law_1 (intsP (a + 1) t) δ2 μ2
        | some (.cont, δ2, μ2) => forL (tgN 5) lb_law_1 (intsP (a + 1) t) δ2 μ2
        | some (.brk, δ2, μ2) => some (.nx, δ2, μ2)
        | r => r) = _
      rw [e]
    · have ih := turns31 hn h0 (c0 := c0) (c2 := c2) t (a + 1) (B + 20) N' (m + B + 200) h s' r' (some (.p (.int (a : Int)))) d6 d7 d8 d9 d10 d11 d12 d13 k' (by omega) (by
        have e1 : B + 20 + 20 * t + 200 = B + 20 * (t + 1) + 200 := by omega
        rw [e1]
        omega) o'
      have step : forL (tgN 5) lb_law_1 (.int (a : Int) :: intsP (a + 1) t) (S31 c0 c2 (tqP n g) (tbP n g) c5 c6 c7 c8 c9 c10 c11 c12 c13) (st s :: r) = forL (tgN 5) lb_law_1 (intsP (a + 1) t) (S31 c0 c2 (tqP n h) (tbP n h) (some (.p (.int (a : Int)))) d6 d7 d8 d9 d10 d11 d12 d13) (st s' :: r') := forL_nx rfl e
      rw [step]
      exact ih
theorem rest31 (hn : n ≤ 100) (h0 : 0 < n) (k : KnO B N m n g) (hB : B ≤ 950) (hm : m ≤ 10000) {s : SS} (hs : s.Ok) {c0 c2 : Option D} (r : Mu) :
    retF 0 (t_law_2 (S31 c0 c2 (tqP n g) (tbP n g) none none none none none none none none none) (st s :: r)) = some (.ok (.p (.bl true)), []) := by
  obtain ⟨v, s1, o1, u1, e1⟩ := draw0n (n := 3) hs (by decide) (by decide)
  have e1 := e1 r
  have hr : evRng1 (evBin fAdd (evC (.int 1)) (evCall m__law_draw [] (evCons (evV 1) (evCons (evC (.int 3)) evNil)))) (S31 c0 c2 (tqP n g) (tbP n g) none none none none none none none none none) (st s :: r) = some (.ok (intsP 0 (v + 1)), st s1 :: r) := by
    refine rng_n (v + 1) ?_ (by omega)
    rw [evBin_eq, evC_eq, bindG_ok, evCall_eq, evCons_eq, evV_1, bindG_ok, evCons_eq, evC_eq, bindG_ok, evNil_eq, bindG_ok, bindG_ok, bindG_ok]
    show bindG (m__law_draw [.loc 0, .p (.int 3)] (st s :: r)) _ = _
    have e1 : m__law_draw [.loc 0, .p (.int 3)] (st s :: r) = some (.ok (.p (.int (v : Int))), st s1 :: r) := e1
    rw [e1, bindG_ok, show ((v + 1 : Nat) : Int) = 1 + (v : Int) by omega]
    rfl
  have hv : v = 0 ∨ v = 1 ∨ v = 2 := by omega
  have hs2 : m + (B + 20 * (v + 1) + 200) * (v + 1) ≤ 40000 := by
    rcases hv with rfl | rfl | rfl <;> omega
  show retF 0 (seqS p_law_2 p_law_3 _ _) = _
  rw [seqS_eq]
  show retF 0 (andThen _ (sFor (evRng1 (evBin fAdd (evC (.int 1)) (evCall m__law_draw [] (evCons (evV 1) (evCons (evC (.int 3)) evNil))))) (tgN 5) lb_law_1 _ _)) = _
  rw [sFor_eq, hr, bindS_ok]
  rcases turns31 hn h0 (c0 := c0) (c2 := c2) (v + 1) 0 B N m g s1 r none none none none none none none none none k (by omega) hs2 o1 with ⟨δ', ν, e⟩ | ⟨δ', ν, e⟩
  · rw [e, andThen_ret, retF_p]; simp
  · rw [e, andThen_nx]
    show retF 0 (some (.ret (.p (.bl true)), δ', ν)) = _
    rw [retF_p]; simp
theorem ev_law {ns : List Int} : m_law [.p (.wl (ns.map .int))] [] = some (.ok (.p (.bl true)), []) := by
  have e0 : m__law_stream [.p (.wl (ns.map .int))] [] = some (.ok (.loc 0), [st (start0 ns)]) := ev_stream
  obtain ⟨v, s1, o1, l1, u1, e1⟩ := draw0 2 (start0_ok ns)
  have e1 := e1 []
  show (if [D.p (P.wl (ns.map .int))].length = 1 then bodySem 14 sv_law [.p (.wl (ns.map .int))] [] else none) = _
  rw [if_pos (show [D.p (P.wl (ns.map .int))].length = 1 from rfl), bodySem_eq]
  show retF 0 (seqS p_law_0 (seqS p_law_1 t_law_2) [some (.p (.wl (ns.map .int))), none, none, none, none, none, none, none, none, none, none, none, none, none] []) = _
  have t0 : p_law_0 [some (.p (.wl (ns.map .int))), none, none, none, none, none, none, none, none, none, none, none, none, none] [] = some (.nx, [some (.p (.wl (ns.map .int))), some (.loc 0), none, none, none, none, none, none, none, none, none, none, none, none], [st (start0 ns)]) := by
    unfold p_law_0
    rw [sSet_eq, evCall_eq, evCons_eq, evV_0, bindG_ok, evNil_eq, bindG_ok, bindG_ok]
    show bindS (m__law_stream [.p (.wl (ns.map .int))] []) _ _ = _
    rw [e0, bindS_ok]
    rfl
  have tst : ∀ bb : Bool, decide (v = 0) = bb → evB (evBin fEq (evCall m__law_draw [] (evCons (evV 1) (evCons (evC (.int 2)) evNil))) (evC (.int 0))) [some (.p (.wl (ns.map .int))), some (.loc 0), none, none, none, none, none, none, none, none, none, none, none, none] [st (start0 ns)] = some (.ok bb, [st s1]) := fun bb hbb => by
    rw [evB_eq', evBin_eq, evCall_eq, evCons_eq, evV_1, bindG_ok, evCons_eq, evC_eq, bindG_ok, evNil_eq, bindG_ok, bindG_ok, bindG_ok]
    show bindG (bindG (m__law_draw [.loc 0, .p (.int 2)] [st (start0 ns)]) _) _ = _
    rw [e1, bindG_ok, evC_eq, bindG_ok]
    show bindG (okm (fEqG false (.p (.int v)) (.p (.int 0)) [st s1])) _ = _
    rw [fEqG_p, eqP_int, hbb]
    rfl
  rw [seqS_eq, t0, andThen_nx, seqS_eq]
  by_cases hv : v = 0
  · obtain ⟨cs, s2, o2, S, e2⟩ := sheet_ex o1
    obtain ⟨N, hN, hlt, hz⟩ := cues_nok S
    have hlen := S.len
    have nb : Nb 660 N := ⟨hN, hlt⟩
    clear hlt
    have e2 : m__law_sheet [.loc 0] [st s1] = some (.ok (.p (shP cs)), [st s2]) := e2 (μ := [none]) (l := 0) (by decide)
    have e3 := ev_lbounds (μ := [st s2]) S hN hz (by decide)
    have e4 := ev_lcues (μ := [st s2]) S
    obtain ⟨μ3, l, ks, e5, x5, L5⟩ := ev_bounds (μ := [st s2]) S hN hz (by decide)
    obtain ⟨ν, e6, l6, g6⟩ := frz_live L5
    have x6 : Ext [st s2] ν := ⟨by rw [l6]; exact x5.len, fun y hy => (g6 y hy).trans (x5.get y hy)⟩
    obtain ⟨r, rfl⟩ := x6.head
    have e6' : frzD μ3 (.loc l) = some (tbP (cs.length + 1) (Gt cs), st s2 :: r) := e6
    have hk : KnO 660 N 5010 (cs.length + 1) (Gt cs) := ⟨nb, (fin_gt S).clo, fun i j _ _ q hq => by cases hq; exact Gz_cz S hN hz⟩
    have t1 : p_law_1 [some (.p (.wl (ns.map .int))), some (.loc 0), none, none, none, none, none, none, none, none, none, none, none, none] [st (start0 ns)] = some (.nx, S31 (some (.p (.wl (ns.map .int)))) (some (.p (shP cs))) (tqP (cs.length + 1) (Gt cs)) (tbP (cs.length + 1) (Gt cs)) none none none none none none none none none, st s2 :: r) := by
      unfold p_law_1
      rw [if_t (tst true (decide_eq_true hv)), seqS_eq, sSet_eq, evCall_eq, evCons_eq, evV_1, bindG_ok, evNil_eq, bindG_ok, bindG_ok]
      show andThen _ (bindS (m__law_sheet [.loc 0] [st s1]) _ _) = _
      rw [e2, bindS_ok, andThen_nx, seqS_eq, sSet_eq, evCall_eq, evCons_eq]
      show andThen _ (bindS (bindG (bindG (evV 2 [some (.p (.wl (ns.map .int))), some (.loc 0), some (.p (shP cs)), none, none, none, none, none, none, none, none, none, none, none] [st s2]) _) _) _ _) = _
      rw [evV_2, bindG_ok, evNil_eq, bindG_ok, bindG_ok]
      show andThen _ (bindS (m__law_bounds [.p (shP cs)] [st s2]) _ _) = _
      rw [e3, bindS_ok, andThen_nx, sSet_eq, evFrz_eq, evCall_eq, evCons_eq, evCall_eq, evCons_eq]
      show bindS (bindG (bindG (bindG (bindG (bindG (evV 2 [some (.p (.wl (ns.map .int))), some (.loc 0), some (.p (shP cs)), some (.p (tqP (cs.length + 1) (Gt cs))), none, none, none, none, none, none, none, none, none, none] [st s2]) _) _) _) _) _) _ _ = _
      rw [evV_2, bindG_ok, evNil_eq, bindG_ok, bindG_ok]
      show bindS (bindG (bindG (bindG (m__law_cues [.p (shP cs)] [st s2]) _) _) _) _ _ = _
      rw [e4, bindG_ok, evNil_eq, bindG_ok, bindG_ok]
      show bindS (bindG (m_bounds [.p (shR cs)] [st s2]) _) _ _ = _
      rw [e5, bindG_ok, e6', frzEnd_some, bindS_ok]
      rfl
    rw [t1, andThen_nx]
    exact rest31 (by omega) (by omega) hk (by decide) (by decide) o2 r
  · obtain ⟨n, g, N, s2, o2, h0, hn, k, e2⟩ := gaps_ex o1
    have e3 := ev_table (μ := [st s2]) (d := .p (tqP n g)) k.nb.nok (by omega) k.cz (by decide) (.inl rfl)
    have t1 : p_law_1 [some (.p (.wl (ns.map .int))), some (.loc 0), none, none, none, none, none, none, none, none, none, none, none, none] [st (start0 ns)] = some (.nx, S31 (some (.p (.wl (ns.map .int)))) none (tqP n g) (tbP n g) none none none none none none none none none, [st s2]) := by
      unfold p_law_1
      rw [if_f (tst false (decide_eq_false hv)), seqS_eq, sSet_eq, evCall_eq, evCons_eq, evV_1, bindG_ok, evNil_eq, bindG_ok, bindG_ok]
      show andThen _ (bindS (m__law_gaps [.loc 0] [st s1]) _ _) = _
      rw [e2, bindS_ok, andThen_nx, sSet_eq, evCall_eq, evCons_eq]
      show bindS (bindG (bindG (evV 3 [some (.p (.wl (ns.map .int))), some (.loc 0), none, some (.p (tqP n g)), none, none, none, none, none, none, none, none, none, none] [st s2]) _) _) _ _ = _
      rw [evV_3, bindG_ok, evNil_eq, bindG_ok, bindG_ok]
      show bindS (m__law_table [.p (tqP n g)] [st s2]) _ _ = _
      rw [e3, bindS_ok]
      rfl
    rw [t1, andThen_nx]
    exact rest31 (by omega) h0 k (by decide) (by decide) o2 []
end
end Vs
namespace Vs
open PySem PySem.Spec PyProof.Rows L2
theorem all_mk {l : PySem.W.OpenLaw} {w : World} {K : PySem.W.Frag} {h : Heap} {mg : Str → Option Value} {fa : Addr} (X : K.In h) (G : h.Ns mainGlobals mg) (hfa : mg "law" = some (.ref fa)) {C0 C1 f_Ratiou_initu T_Ratiou_initu f_Ratiou_addu f_Ratiou_subu f_Ratiou_mulu f_Ratiou_negu f_Ratiou_equ f__law_stream f__law_draw f__law_size f__law_pair f__law_sum f__law_number f__law_sheet f__law_ways_up f__law_minus f__law_greatest f__law_bounds f_is_less f__lesser f__sum f__by_way_of f_closed f_bounds f__law_less f__law_lower f__law_closed f__law_gaps f__law_ratio f__law_table f__law_over f__law_times f__law_condition f_with_bound f__law_cues f__law_told f__law_shown f_law : Addr} {od_Ratiou_initu an_Ratiou_initu od_Ratiou_addu an_Ratiou_addu od_Ratiou_subu an_Ratiou_subu od_Ratiou_mulu an_Ratiou_mulu od_Ratiou_negu an_Ratiou_negu od_Ratiou_equ an_Ratiou_equ od__law_stream an__law_stream od__law_draw an__law_draw od__law_size an__law_size od__law_pair an__law_pair od__law_sum an__law_sum od__law_number an__law_number od__law_sheet an__law_sheet od__law_ways_up an__law_ways_up od__law_minus an__law_minus od__law_greatest an__law_greatest od__law_bounds an__law_bounds od_is_less an_is_less od__lesser an__lesser od__sum an__sum od__by_way_of an__by_way_of od_closed an_closed od_bounds an_bounds od__law_less an__law_less od__law_lower an__law_lower od__law_closed an__law_closed od__law_gaps an__law_gaps od__law_ratio an__law_ratio od__law_table an__law_table od__law_over an__law_over od__law_times an__law_times od__law_condition an__law_condition od_with_bound an_with_bound od__law_cues an__law_cues od__law_told an__law_told od__law_shown an__law_shown od_law an_law : Option Addr} {sl_Ratiou_initu sl_Ratiou_addu sl_Ratiou_subu sl_Ratiou_mulu sl_Ratiou_negu sl_Ratiou_equ sl__law_stream sl__law_draw sl__law_size sl__law_pair sl__law_sum sl__law_number sl__law_sheet sl__law_ways_up sl__law_minus sl__law_greatest sl__law_bounds sl_is_less sl__lesser sl__sum sl__by_way_of sl_closed sl_bounds sl__law_less sl__law_lower sl__law_closed sl__law_gaps sl__law_ratio sl__law_table sl__law_over sl__law_times sl__law_condition sl_with_bound sl__law_cues sl__law_told sl__law_shown sl_law : Array (Option Value)} {oc_Ratiou_initu kV_Ratiou_initu dc_Ratiou_initu pm_Ratiou_initu cd_Ratiou_initu ct_Ratiou_initu oc_Ratiou_addu kV_Ratiou_addu dc_Ratiou_addu pm_Ratiou_addu cd_Ratiou_addu ct_Ratiou_addu oc_Ratiou_subu kV_Ratiou_subu dc_Ratiou_subu pm_Ratiou_subu cd_Ratiou_subu ct_Ratiou_subu oc_Ratiou_mulu kV_Ratiou_mulu dc_Ratiou_mulu pm_Ratiou_mulu cd_Ratiou_mulu ct_Ratiou_mulu oc_Ratiou_negu kV_Ratiou_negu dc_Ratiou_negu pm_Ratiou_negu cd_Ratiou_negu ct_Ratiou_negu oc_Ratiou_equ kV_Ratiou_equ dc_Ratiou_equ pm_Ratiou_equ cd_Ratiou_equ ct_Ratiou_equ oc__law_stream kV__law_stream dc__law_stream pm__law_stream cd__law_stream ct__law_stream oc__law_draw kV__law_draw dc__law_draw pm__law_draw cd__law_draw ct__law_draw oc__law_size kV__law_size dc__law_size pm__law_size cd__law_size ct__law_size oc__law_pair kV__law_pair dc__law_pair pm__law_pair cd__law_pair ct__law_pair oc__law_sum kV__law_sum dc__law_sum pm__law_sum cd__law_sum ct__law_sum oc__law_number kV__law_number dc__law_number pm__law_number cd__law_number ct__law_number oc__law_sheet kV__law_sheet dc__law_sheet pm__law_sheet cd__law_sheet ct__law_sheet oc__law_ways_up kV__law_ways_up dc__law_ways_up pm__law_ways_up cd__law_ways_up ct__law_ways_up oc__law_minus kV__law_minus dc__law_minus pm__law_minus cd__law_minus ct__law_minus oc__law_greatest kV__law_greatest dc__law_greatest pm__law_greatest cd__law_greatest ct__law_greatest oc__law_bounds kV__law_bounds dc__law_bounds pm__law_bounds cd__law_bounds ct__law_bounds oc_is_less kV_is_less dc_is_less pm_is_less cd_is_less ct_is_less oc__lesser kV__lesser dc__lesser pm__lesser cd__lesser ct__lesser oc__sum kV__sum dc__sum pm__sum cd__sum ct__sum oc__by_way_of kV__by_way_of dc__by_way_of pm__by_way_of cd__by_way_of ct__by_way_of oc_closed kV_closed dc_closed pm_closed cd_closed ct_closed oc_bounds kV_bounds dc_bounds pm_bounds cd_bounds ct_bounds oc__law_less kV__law_less dc__law_less pm__law_less cd__law_less ct__law_less oc__law_lower kV__law_lower dc__law_lower pm__law_lower cd__law_lower ct__law_lower oc__law_closed kV__law_closed dc__law_closed pm__law_closed cd__law_closed ct__law_closed oc__law_gaps kV__law_gaps dc__law_gaps pm__law_gaps cd__law_gaps ct__law_gaps oc__law_ratio kV__law_ratio dc__law_ratio pm__law_ratio cd__law_ratio ct__law_ratio oc__law_table kV__law_table dc__law_table pm__law_table cd__law_table ct__law_table oc__law_over kV__law_over dc__law_over pm__law_over cd__law_over ct__law_over oc__law_times kV__law_times dc__law_times pm__law_times cd__law_times ct__law_times oc__law_condition kV__law_condition dc__law_condition pm__law_condition cd__law_condition ct__law_condition oc_with_bound kV_with_bound dc_with_bound pm_with_bound cd_with_bound ct_with_bound oc__law_cues kV__law_cues dc__law_cues pm__law_cues cd__law_cues ct__law_cues oc__law_told kV__law_told dc__law_told pm__law_told cd__law_told ct__law_told oc__law_shown kV__law_shown dc__law_shown pm__law_shown cd__law_shown ct__law_shown oc_law kV_law dc_law pm_law cd_law ct_law : Value} {tc_Ratiou_initu : Value} {td_Ratiou_initu : Option Addr} {tt_Ratiou_initu : Tok} {tn_Ratiou_initu : Nat} {ts_Ratiou_initu : Array (Option Value)}
    (aC0 : PySem.W.nsIn K mainGlobals "Ratio" = some (some (.ref C0)))
    (aC1 : PySem.W.nsIn K mainGlobals "ByZero" = some (some (.ref C1)))
    (a_Ratiou_initu : PySem.W.findIn K (.ref C0) "__init__" = some (some (.ref f_Ratiou_initu)))
    (i_Ratiou_initu : PySem.W.isFn K (.ref f_Ratiou_initu) = true)
    (l_Ratiou_initu : K.lookup f_Ratiou_initu = some ⟨oc_Ratiou_initu, od_Ratiou_initu, .func (PySem.W.fnOf "__init__" "Ratio.__init__" (defArgs s_Ratiou_initu) (defBody s_Ratiou_initu) (defScope s_Ratiou_initu) (.ref T_Ratiou_initu) kV_Ratiou_initu dc_Ratiou_initu pm_Ratiou_initu an_Ratiou_initu cd_Ratiou_initu ct_Ratiou_initu), sl_Ratiou_initu⟩)
    (c_Ratiou_initu : PySem.W.codeIn K cd_Ratiou_initu "Ratio.__init__" = true)
    (k_Ratiou_initu : PySem.W.keepIn K (.ref f_Ratiou_initu) = true)
    (lt_Ratiou_initu : K.lookup T_Ratiou_initu = some ⟨tc_Ratiou_initu, td_Ratiou_initu, .seq [Value.int 1 tt_Ratiou_initu].toArray tn_Ratiou_initu, ts_Ratiou_initu⟩)
    (a_Ratiou_addu : PySem.W.findIn K (.ref C0) "__add__" = some (some (.ref f_Ratiou_addu)))
    (i_Ratiou_addu : PySem.W.isFn K (.ref f_Ratiou_addu) = true)
    (l_Ratiou_addu : K.lookup f_Ratiou_addu = some ⟨oc_Ratiou_addu, od_Ratiou_addu, .func (PySem.W.fnOf "__add__" "Ratio.__add__" (defArgs s_Ratiou_addu) (defBody s_Ratiou_addu) (defScope s_Ratiou_addu) .none kV_Ratiou_addu dc_Ratiou_addu pm_Ratiou_addu an_Ratiou_addu cd_Ratiou_addu ct_Ratiou_addu), sl_Ratiou_addu⟩)
    (c_Ratiou_addu : PySem.W.codeIn K cd_Ratiou_addu "Ratio.__add__" = true)
    (k_Ratiou_addu : PySem.W.keepIn K (.ref f_Ratiou_addu) = true)
    (a_Ratiou_subu : PySem.W.findIn K (.ref C0) "__sub__" = some (some (.ref f_Ratiou_subu)))
    (i_Ratiou_subu : PySem.W.isFn K (.ref f_Ratiou_subu) = true)
    (l_Ratiou_subu : K.lookup f_Ratiou_subu = some ⟨oc_Ratiou_subu, od_Ratiou_subu, .func (PySem.W.fnOf "__sub__" "Ratio.__sub__" (defArgs s_Ratiou_subu) (defBody s_Ratiou_subu) (defScope s_Ratiou_subu) .none kV_Ratiou_subu dc_Ratiou_subu pm_Ratiou_subu an_Ratiou_subu cd_Ratiou_subu ct_Ratiou_subu), sl_Ratiou_subu⟩)
    (c_Ratiou_subu : PySem.W.codeIn K cd_Ratiou_subu "Ratio.__sub__" = true)
    (k_Ratiou_subu : PySem.W.keepIn K (.ref f_Ratiou_subu) = true)
    (a_Ratiou_mulu : PySem.W.findIn K (.ref C0) "__mul__" = some (some (.ref f_Ratiou_mulu)))
    (i_Ratiou_mulu : PySem.W.isFn K (.ref f_Ratiou_mulu) = true)
    (l_Ratiou_mulu : K.lookup f_Ratiou_mulu = some ⟨oc_Ratiou_mulu, od_Ratiou_mulu, .func (PySem.W.fnOf "__mul__" "Ratio.__mul__" (defArgs s_Ratiou_mulu) (defBody s_Ratiou_mulu) (defScope s_Ratiou_mulu) .none kV_Ratiou_mulu dc_Ratiou_mulu pm_Ratiou_mulu an_Ratiou_mulu cd_Ratiou_mulu ct_Ratiou_mulu), sl_Ratiou_mulu⟩)
    (c_Ratiou_mulu : PySem.W.codeIn K cd_Ratiou_mulu "Ratio.__mul__" = true)
    (k_Ratiou_mulu : PySem.W.keepIn K (.ref f_Ratiou_mulu) = true)
    (a_Ratiou_negu : PySem.W.findIn K (.ref C0) "__neg__" = some (some (.ref f_Ratiou_negu)))
    (i_Ratiou_negu : PySem.W.isFn K (.ref f_Ratiou_negu) = true)
    (l_Ratiou_negu : K.lookup f_Ratiou_negu = some ⟨oc_Ratiou_negu, od_Ratiou_negu, .func (PySem.W.fnOf "__neg__" "Ratio.__neg__" (defArgs s_Ratiou_negu) (defBody s_Ratiou_negu) (defScope s_Ratiou_negu) .none kV_Ratiou_negu dc_Ratiou_negu pm_Ratiou_negu an_Ratiou_negu cd_Ratiou_negu ct_Ratiou_negu), sl_Ratiou_negu⟩)
    (c_Ratiou_negu : PySem.W.codeIn K cd_Ratiou_negu "Ratio.__neg__" = true)
    (k_Ratiou_negu : PySem.W.keepIn K (.ref f_Ratiou_negu) = true)
    (a_Ratiou_equ : PySem.W.findIn K (.ref C0) "__eq__" = some (some (.ref f_Ratiou_equ)))
    (i_Ratiou_equ : PySem.W.isFn K (.ref f_Ratiou_equ) = true)
    (l_Ratiou_equ : K.lookup f_Ratiou_equ = some ⟨oc_Ratiou_equ, od_Ratiou_equ, .func (PySem.W.fnOf "__eq__" "Ratio.__eq__" (defArgs s_Ratiou_equ) (defBody s_Ratiou_equ) (defScope s_Ratiou_equ) .none kV_Ratiou_equ dc_Ratiou_equ pm_Ratiou_equ an_Ratiou_equ cd_Ratiou_equ ct_Ratiou_equ), sl_Ratiou_equ⟩)
    (c_Ratiou_equ : PySem.W.codeIn K cd_Ratiou_equ "Ratio.__eq__" = true)
    (k_Ratiou_equ : PySem.W.keepIn K (.ref f_Ratiou_equ) = true)
    (a__law_stream : PySem.W.nsIn K mainGlobals "_law_stream" = some (some (.ref f__law_stream)))
    (l__law_stream : K.lookup f__law_stream = some ⟨oc__law_stream, od__law_stream, .func (PySem.W.fnOf "_law_stream" "_law_stream" (defArgs s__law_stream) (defBody s__law_stream) (defScope s__law_stream) .none kV__law_stream dc__law_stream pm__law_stream an__law_stream cd__law_stream ct__law_stream), sl__law_stream⟩)
    (c__law_stream : PySem.W.codeIn K cd__law_stream "_law_stream" = true)
    (k__law_stream : PySem.W.keepIn K (.ref f__law_stream) = true)
    (a__law_draw : PySem.W.nsIn K mainGlobals "_law_draw" = some (some (.ref f__law_draw)))
    (l__law_draw : K.lookup f__law_draw = some ⟨oc__law_draw, od__law_draw, .func (PySem.W.fnOf "_law_draw" "_law_draw" (defArgs s__law_draw) (defBody s__law_draw) (defScope s__law_draw) .none kV__law_draw dc__law_draw pm__law_draw an__law_draw cd__law_draw ct__law_draw), sl__law_draw⟩)
    (c__law_draw : PySem.W.codeIn K cd__law_draw "_law_draw" = true)
    (k__law_draw : PySem.W.keepIn K (.ref f__law_draw) = true)
    (a__law_size : PySem.W.nsIn K mainGlobals "_law_size" = some (some (.ref f__law_size)))
    (l__law_size : K.lookup f__law_size = some ⟨oc__law_size, od__law_size, .func (PySem.W.fnOf "_law_size" "_law_size" (defArgs s__law_size) (defBody s__law_size) (defScope s__law_size) .none kV__law_size dc__law_size pm__law_size an__law_size cd__law_size ct__law_size), sl__law_size⟩)
    (c__law_size : PySem.W.codeIn K cd__law_size "_law_size" = true)
    (k__law_size : PySem.W.keepIn K (.ref f__law_size) = true)
    (a__law_pair : PySem.W.nsIn K mainGlobals "_law_pair" = some (some (.ref f__law_pair)))
    (l__law_pair : K.lookup f__law_pair = some ⟨oc__law_pair, od__law_pair, .func (PySem.W.fnOf "_law_pair" "_law_pair" (defArgs s__law_pair) (defBody s__law_pair) (defScope s__law_pair) .none kV__law_pair dc__law_pair pm__law_pair an__law_pair cd__law_pair ct__law_pair), sl__law_pair⟩)
    (c__law_pair : PySem.W.codeIn K cd__law_pair "_law_pair" = true)
    (k__law_pair : PySem.W.keepIn K (.ref f__law_pair) = true)
    (a__law_sum : PySem.W.nsIn K mainGlobals "_law_sum" = some (some (.ref f__law_sum)))
    (l__law_sum : K.lookup f__law_sum = some ⟨oc__law_sum, od__law_sum, .func (PySem.W.fnOf "_law_sum" "_law_sum" (defArgs s__law_sum) (defBody s__law_sum) (defScope s__law_sum) .none kV__law_sum dc__law_sum pm__law_sum an__law_sum cd__law_sum ct__law_sum), sl__law_sum⟩)
    (c__law_sum : PySem.W.codeIn K cd__law_sum "_law_sum" = true)
    (k__law_sum : PySem.W.keepIn K (.ref f__law_sum) = true)
    (a__law_number : PySem.W.nsIn K mainGlobals "_law_number" = some (some (.ref f__law_number)))
    (l__law_number : K.lookup f__law_number = some ⟨oc__law_number, od__law_number, .func (PySem.W.fnOf "_law_number" "_law_number" (defArgs s__law_number) (defBody s__law_number) (defScope s__law_number) .none kV__law_number dc__law_number pm__law_number an__law_number cd__law_number ct__law_number), sl__law_number⟩)
    (c__law_number : PySem.W.codeIn K cd__law_number "_law_number" = true)
    (k__law_number : PySem.W.keepIn K (.ref f__law_number) = true)
    (a__law_sheet : PySem.W.nsIn K mainGlobals "_law_sheet" = some (some (.ref f__law_sheet)))
    (l__law_sheet : K.lookup f__law_sheet = some ⟨oc__law_sheet, od__law_sheet, .func (PySem.W.fnOf "_law_sheet" "_law_sheet" (defArgs s__law_sheet) (defBody s__law_sheet) (defScope s__law_sheet) .none kV__law_sheet dc__law_sheet pm__law_sheet an__law_sheet cd__law_sheet ct__law_sheet), sl__law_sheet⟩)
    (c__law_sheet : PySem.W.codeIn K cd__law_sheet "_law_sheet" = true)
    (k__law_sheet : PySem.W.keepIn K (.ref f__law_sheet) = true)
    (a__law_ways_up : PySem.W.nsIn K mainGlobals "_law_ways_up" = some (some (.ref f__law_ways_up)))
    (l__law_ways_up : K.lookup f__law_ways_up = some ⟨oc__law_ways_up, od__law_ways_up, .func (PySem.W.fnOf "_law_ways_up" "_law_ways_up" (defArgs s__law_ways_up) (defBody s__law_ways_up) (defScope s__law_ways_up) .none kV__law_ways_up dc__law_ways_up pm__law_ways_up an__law_ways_up cd__law_ways_up ct__law_ways_up), sl__law_ways_up⟩)
    (c__law_ways_up : PySem.W.codeIn K cd__law_ways_up "_law_ways_up" = true)
    (k__law_ways_up : PySem.W.keepIn K (.ref f__law_ways_up) = true)
    (a__law_minus : PySem.W.nsIn K mainGlobals "_law_minus" = some (some (.ref f__law_minus)))
    (l__law_minus : K.lookup f__law_minus = some ⟨oc__law_minus, od__law_minus, .func (PySem.W.fnOf "_law_minus" "_law_minus" (defArgs s__law_minus) (defBody s__law_minus) (defScope s__law_minus) .none kV__law_minus dc__law_minus pm__law_minus an__law_minus cd__law_minus ct__law_minus), sl__law_minus⟩)
    (c__law_minus : PySem.W.codeIn K cd__law_minus "_law_minus" = true)
    (k__law_minus : PySem.W.keepIn K (.ref f__law_minus) = true)
    (a__law_greatest : PySem.W.nsIn K mainGlobals "_law_greatest" = some (some (.ref f__law_greatest)))
    (l__law_greatest : K.lookup f__law_greatest = some ⟨oc__law_greatest, od__law_greatest, .func (PySem.W.fnOf "_law_greatest" "_law_greatest" (defArgs s__law_greatest) (defBody s__law_greatest) (defScope s__law_greatest) .none kV__law_greatest dc__law_greatest pm__law_greatest an__law_greatest cd__law_greatest ct__law_greatest), sl__law_greatest⟩)
    (c__law_greatest : PySem.W.codeIn K cd__law_greatest "_law_greatest" = true)
    (k__law_greatest : PySem.W.keepIn K (.ref f__law_greatest) = true)
    (a__law_bounds : PySem.W.nsIn K mainGlobals "_law_bounds" = some (some (.ref f__law_bounds)))
    (l__law_bounds : K.lookup f__law_bounds = some ⟨oc__law_bounds, od__law_bounds, .func (PySem.W.fnOf "_law_bounds" "_law_bounds" (defArgs s__law_bounds) (defBody s__law_bounds) (defScope s__law_bounds) .none kV__law_bounds dc__law_bounds pm__law_bounds an__law_bounds cd__law_bounds ct__law_bounds), sl__law_bounds⟩)
    (c__law_bounds : PySem.W.codeIn K cd__law_bounds "_law_bounds" = true)
    (k__law_bounds : PySem.W.keepIn K (.ref f__law_bounds) = true)
    (a_is_less : PySem.W.nsIn K mainGlobals "is_less" = some (some (.ref f_is_less)))
    (l_is_less : K.lookup f_is_less = some ⟨oc_is_less, od_is_less, .func (PySem.W.fnOf "is_less" "is_less" (defArgs s_is_less) (defBody s_is_less) (defScope s_is_less) .none kV_is_less dc_is_less pm_is_less an_is_less cd_is_less ct_is_less), sl_is_less⟩)
    (c_is_less : PySem.W.codeIn K cd_is_less "is_less" = true)
    (k_is_less : PySem.W.keepIn K (.ref f_is_less) = true)
    (a__lesser : PySem.W.nsIn K mainGlobals "_lesser" = some (some (.ref f__lesser)))
    (l__lesser : K.lookup f__lesser = some ⟨oc__lesser, od__lesser, .func (PySem.W.fnOf "_lesser" "_lesser" (defArgs s__lesser) (defBody s__lesser) (defScope s__lesser) .none kV__lesser dc__lesser pm__lesser an__lesser cd__lesser ct__lesser), sl__lesser⟩)
    (c__lesser : PySem.W.codeIn K cd__lesser "_lesser" = true)
    (k__lesser : PySem.W.keepIn K (.ref f__lesser) = true)
    (a__sum : PySem.W.nsIn K mainGlobals "_sum" = some (some (.ref f__sum)))
    (l__sum : K.lookup f__sum = some ⟨oc__sum, od__sum, .func (PySem.W.fnOf "_sum" "_sum" (defArgs s__sum) (defBody s__sum) (defScope s__sum) .none kV__sum dc__sum pm__sum an__sum cd__sum ct__sum), sl__sum⟩)
    (c__sum : PySem.W.codeIn K cd__sum "_sum" = true)
    (k__sum : PySem.W.keepIn K (.ref f__sum) = true)
    (a__by_way_of : PySem.W.nsIn K mainGlobals "_by_way_of" = some (some (.ref f__by_way_of)))
    (l__by_way_of : K.lookup f__by_way_of = some ⟨oc__by_way_of, od__by_way_of, .func (PySem.W.fnOf "_by_way_of" "_by_way_of" (defArgs s__by_way_of) (defBody s__by_way_of) (defScope s__by_way_of) .none kV__by_way_of dc__by_way_of pm__by_way_of an__by_way_of cd__by_way_of ct__by_way_of), sl__by_way_of⟩)
    (c__by_way_of : PySem.W.codeIn K cd__by_way_of "_by_way_of" = true)
    (k__by_way_of : PySem.W.keepIn K (.ref f__by_way_of) = true)
    (a_closed : PySem.W.nsIn K mainGlobals "closed" = some (some (.ref f_closed)))
    (l_closed : K.lookup f_closed = some ⟨oc_closed, od_closed, .func (PySem.W.fnOf "closed" "closed" (defArgs s_closed) (defBody s_closed) (defScope s_closed) .none kV_closed dc_closed pm_closed an_closed cd_closed ct_closed), sl_closed⟩)
    (c_closed : PySem.W.codeIn K cd_closed "closed" = true)
    (k_closed : PySem.W.keepIn K (.ref f_closed) = true)
    (a_bounds : PySem.W.nsIn K mainGlobals "bounds" = some (some (.ref f_bounds)))
    (l_bounds : K.lookup f_bounds = some ⟨oc_bounds, od_bounds, .func (PySem.W.fnOf "bounds" "bounds" (defArgs s_bounds) (defBody s_bounds) (defScope s_bounds) .none kV_bounds dc_bounds pm_bounds an_bounds cd_bounds ct_bounds), sl_bounds⟩)
    (c_bounds : PySem.W.codeIn K cd_bounds "bounds" = true)
    (k_bounds : PySem.W.keepIn K (.ref f_bounds) = true)
    (a__law_less : PySem.W.nsIn K mainGlobals "_law_less" = some (some (.ref f__law_less)))
    (l__law_less : K.lookup f__law_less = some ⟨oc__law_less, od__law_less, .func (PySem.W.fnOf "_law_less" "_law_less" (defArgs s__law_less) (defBody s__law_less) (defScope s__law_less) .none kV__law_less dc__law_less pm__law_less an__law_less cd__law_less ct__law_less), sl__law_less⟩)
    (c__law_less : PySem.W.codeIn K cd__law_less "_law_less" = true)
    (k__law_less : PySem.W.keepIn K (.ref f__law_less) = true)
    (a__law_lower : PySem.W.nsIn K mainGlobals "_law_lower" = some (some (.ref f__law_lower)))
    (l__law_lower : K.lookup f__law_lower = some ⟨oc__law_lower, od__law_lower, .func (PySem.W.fnOf "_law_lower" "_law_lower" (defArgs s__law_lower) (defBody s__law_lower) (defScope s__law_lower) .none kV__law_lower dc__law_lower pm__law_lower an__law_lower cd__law_lower ct__law_lower), sl__law_lower⟩)
    (c__law_lower : PySem.W.codeIn K cd__law_lower "_law_lower" = true)
    (k__law_lower : PySem.W.keepIn K (.ref f__law_lower) = true)
    (a__law_closed : PySem.W.nsIn K mainGlobals "_law_closed" = some (some (.ref f__law_closed)))
    (l__law_closed : K.lookup f__law_closed = some ⟨oc__law_closed, od__law_closed, .func (PySem.W.fnOf "_law_closed" "_law_closed" (defArgs s__law_closed) (defBody s__law_closed) (defScope s__law_closed) .none kV__law_closed dc__law_closed pm__law_closed an__law_closed cd__law_closed ct__law_closed), sl__law_closed⟩)
    (c__law_closed : PySem.W.codeIn K cd__law_closed "_law_closed" = true)
    (k__law_closed : PySem.W.keepIn K (.ref f__law_closed) = true)
    (a__law_gaps : PySem.W.nsIn K mainGlobals "_law_gaps" = some (some (.ref f__law_gaps)))
    (l__law_gaps : K.lookup f__law_gaps = some ⟨oc__law_gaps, od__law_gaps, .func (PySem.W.fnOf "_law_gaps" "_law_gaps" (defArgs s__law_gaps) (defBody s__law_gaps) (defScope s__law_gaps) .none kV__law_gaps dc__law_gaps pm__law_gaps an__law_gaps cd__law_gaps ct__law_gaps), sl__law_gaps⟩)
    (c__law_gaps : PySem.W.codeIn K cd__law_gaps "_law_gaps" = true)
    (k__law_gaps : PySem.W.keepIn K (.ref f__law_gaps) = true)
    (a__law_ratio : PySem.W.nsIn K mainGlobals "_law_ratio" = some (some (.ref f__law_ratio)))
    (l__law_ratio : K.lookup f__law_ratio = some ⟨oc__law_ratio, od__law_ratio, .func (PySem.W.fnOf "_law_ratio" "_law_ratio" (defArgs s__law_ratio) (defBody s__law_ratio) (defScope s__law_ratio) .none kV__law_ratio dc__law_ratio pm__law_ratio an__law_ratio cd__law_ratio ct__law_ratio), sl__law_ratio⟩)
    (c__law_ratio : PySem.W.codeIn K cd__law_ratio "_law_ratio" = true)
    (k__law_ratio : PySem.W.keepIn K (.ref f__law_ratio) = true)
    (a__law_table : PySem.W.nsIn K mainGlobals "_law_table" = some (some (.ref f__law_table)))
    (l__law_table : K.lookup f__law_table = some ⟨oc__law_table, od__law_table, .func (PySem.W.fnOf "_law_table" "_law_table" (defArgs s__law_table) (defBody s__law_table) (defScope s__law_table) .none kV__law_table dc__law_table pm__law_table an__law_table cd__law_table ct__law_table), sl__law_table⟩)
    (c__law_table : PySem.W.codeIn K cd__law_table "_law_table" = true)
    (k__law_table : PySem.W.keepIn K (.ref f__law_table) = true)
    (a__law_over : PySem.W.nsIn K mainGlobals "_law_over" = some (some (.ref f__law_over)))
    (l__law_over : K.lookup f__law_over = some ⟨oc__law_over, od__law_over, .func (PySem.W.fnOf "_law_over" "_law_over" (defArgs s__law_over) (defBody s__law_over) (defScope s__law_over) .none kV__law_over dc__law_over pm__law_over an__law_over cd__law_over ct__law_over), sl__law_over⟩)
    (c__law_over : PySem.W.codeIn K cd__law_over "_law_over" = true)
    (k__law_over : PySem.W.keepIn K (.ref f__law_over) = true)
    (a__law_times : PySem.W.nsIn K mainGlobals "_law_times" = some (some (.ref f__law_times)))
    (l__law_times : K.lookup f__law_times = some ⟨oc__law_times, od__law_times, .func (PySem.W.fnOf "_law_times" "_law_times" (defArgs s__law_times) (defBody s__law_times) (defScope s__law_times) .none kV__law_times dc__law_times pm__law_times an__law_times cd__law_times ct__law_times), sl__law_times⟩)
    (c__law_times : PySem.W.codeIn K cd__law_times "_law_times" = true)
    (k__law_times : PySem.W.keepIn K (.ref f__law_times) = true)
    (a__law_condition : PySem.W.nsIn K mainGlobals "_law_condition" = some (some (.ref f__law_condition)))
    (l__law_condition : K.lookup f__law_condition = some ⟨oc__law_condition, od__law_condition, .func (PySem.W.fnOf "_law_condition" "_law_condition" (defArgs s__law_condition) (defBody s__law_condition) (defScope s__law_condition) .none kV__law_condition dc__law_condition pm__law_condition an__law_condition cd__law_condition ct__law_condition), sl__law_condition⟩)
    (c__law_condition : PySem.W.codeIn K cd__law_condition "_law_condition" = true)
    (k__law_condition : PySem.W.keepIn K (.ref f__law_condition) = true)
    (a_with_bound : PySem.W.nsIn K mainGlobals "with_bound" = some (some (.ref f_with_bound)))
    (l_with_bound : K.lookup f_with_bound = some ⟨oc_with_bound, od_with_bound, .func (PySem.W.fnOf "with_bound" "with_bound" (defArgs s_with_bound) (defBody s_with_bound) (defScope s_with_bound) .none kV_with_bound dc_with_bound pm_with_bound an_with_bound cd_with_bound ct_with_bound), sl_with_bound⟩)
    (c_with_bound : PySem.W.codeIn K cd_with_bound "with_bound" = true)
    (k_with_bound : PySem.W.keepIn K (.ref f_with_bound) = true)
    (a__law_cues : PySem.W.nsIn K mainGlobals "_law_cues" = some (some (.ref f__law_cues)))
    (l__law_cues : K.lookup f__law_cues = some ⟨oc__law_cues, od__law_cues, .func (PySem.W.fnOf "_law_cues" "_law_cues" (defArgs s__law_cues) (defBody s__law_cues) (defScope s__law_cues) .none kV__law_cues dc__law_cues pm__law_cues an__law_cues cd__law_cues ct__law_cues), sl__law_cues⟩)
    (c__law_cues : PySem.W.codeIn K cd__law_cues "_law_cues" = true)
    (k__law_cues : PySem.W.keepIn K (.ref f__law_cues) = true)
    (a__law_told : PySem.W.nsIn K mainGlobals "_law_told" = some (some (.ref f__law_told)))
    (l__law_told : K.lookup f__law_told = some ⟨oc__law_told, od__law_told, .func (PySem.W.fnOf "_law_told" "_law_told" (defArgs s__law_told) (defBody s__law_told) (defScope s__law_told) .none kV__law_told dc__law_told pm__law_told an__law_told cd__law_told ct__law_told), sl__law_told⟩)
    (c__law_told : PySem.W.codeIn K cd__law_told "_law_told" = true)
    (k__law_told : PySem.W.keepIn K (.ref f__law_told) = true)
    (a__law_shown : PySem.W.nsIn K mainGlobals "_law_shown" = some (some (.ref f__law_shown)))
    (l__law_shown : K.lookup f__law_shown = some ⟨oc__law_shown, od__law_shown, .func (PySem.W.fnOf "_law_shown" "_law_shown" (defArgs s__law_shown) (defBody s__law_shown) (defScope s__law_shown) .none kV__law_shown dc__law_shown pm__law_shown an__law_shown cd__law_shown ct__law_shown), sl__law_shown⟩)
    (c__law_shown : PySem.W.codeIn K cd__law_shown "_law_shown" = true)
    (k__law_shown : PySem.W.keepIn K (.ref f__law_shown) = true)
    (a_law : PySem.W.nsIn K mainGlobals "law" = some (some (.ref f_law)))
    (l_law : K.lookup f_law = some ⟨oc_law, od_law, .func (PySem.W.fnOf "law" "law" (defArgs s_law) (defBody s_law) (defScope s_law) .none kV_law dc_law pm_law an_law cd_law ct_law), sl_law⟩)
    (c_law : PySem.W.codeIn K cd_law "law" = true)
    (k_law : PySem.W.keepIn K (.ref f_law) = true)
    (pg : PySem.W.plainGet K C0 Str.empty = true)
    (hd : PySem.W.hasDictIn K C0 = true)
    (po : PySem.W.plainOver K C0 = true)
    (sa : PySem.W.findIn K (.ref C0) "__setattr__" = some (some (.builtin "object.__setattr__")))
    (n0 : PySem.W.findIn K (.ref C0) "top" = some none)
    (n1 : PySem.W.findIn K (.ref C0) "bottom" = some none)
    (sf : PySem.W.selfFirst K C0 = true)
    (nf0 : PySem.W.notFirst K C0 (.type "NoneType") = true)
    (nf1 : PySem.W.notFirst K C0 (.type "bool") = true)
    (nf2 : PySem.W.notFirst K C0 (.type "int") = true)
    (nf3 : PySem.W.notFirst K C0 (.type "str") = true)
    (nf4 : PySem.W.notFirst K C0 (.type "tuple") = true)
    (nf5 : PySem.W.notFirst K C0 (.type "list") = true)
    (ne : PySem.W.findIn K (.ref C0) "__ne__" = some (some (.builtin "object.__ne__")))
    (ob : PySem.W.subIn K (.ref C0) (.type "object") = some true)
    (kt0 : PySem.W.kitOne K (.type "NoneType") (.ref C0) = some false)
    (kt1 : PySem.W.kitOne K (.type "bool") (.ref C0) = some false)
    (kt2 : PySem.W.kitOne K (.type "int") (.ref C0) = some false)
    (kt3 : PySem.W.kitOne K (.type "str") (.ref C0) = some false)
    (kt4 : PySem.W.kitOne K (.type "tuple") (.ref C0) = some false)
    (kt5 : PySem.W.kitOne K (.type "list") (.ref C0) = some false)
    (ks : PySem.W.kitOne K (.ref C0) (.ref C0) = some true)
    (kb_bool : PySem.W.kitOne K (.ref C0) (.type "bool") = some false)
    (kb_list : PySem.W.kitOne K (.ref C0) (.type "list") = some false)
    (kb_tuple : PySem.W.kitOne K (.ref C0) (.type "tuple") = some false)
    (kb_int : PySem.W.kitOne K (.ref C0) (.type "int") = some false)
    (oa : PySem.W.findIn K (.ref C0) "__class__" = some (some (.builtin "object.__class__")))
    (on : PySem.W.specialIn K (.builtin "object.__class__") "__get__" = some (some (.builtin "getset_descriptor.__get__")))
    (ot : PySem.W.takesIn K (.builtin "object.__class__") = some true)
    (om : PySem.W.mroIn K C0 (.type "object") = some true)
    (mk : PySem.W.makesIn K C0 = true)
    (kc : PySem.W.keepIn K (.ref C0) = true)
    (x1 : PySem.W.excIn K C1 [.type "ValueError", .type "Exception", .type "BaseException", .type "object"] "ValueError.__new__" = true)
    (k1 : PySem.W.keepIn K (.ref C1) = true)
    (p1 : PySem.W.subIn K (.ref C1) (.type "BaseException") = some true)
    (t1 : PySem.W.typeIn K (.ref C1) = some (.type "type"))
    (z_abs : PySem.W.nsIn K mainGlobals "abs" = some none)
    (z_len : PySem.W.nsIn K mainGlobals "len" = some none)
    (z_int : PySem.W.nsIn K mainGlobals "int" = some none)
    (z_list : PySem.W.nsIn K mainGlobals "list" = some none)
    (z_tuple : PySem.W.nsIn K mainGlobals "tuple" = some none)
    (z_bool : PySem.W.nsIn K mainGlobals "bool" = some none)
    (z_isinstance : PySem.W.nsIn K mainGlobals "isinstance" = some none)
    (z_range : PySem.W.nsIn K mainGlobals "range" = some none)
    (z_zip : PySem.W.nsIn K mainGlobals "zip" = some none)
    (z_enumerate : PySem.W.nsIn K mainGlobals "enumerate" = some none)
    (z_any : PySem.W.nsIn K mainGlobals "any" = some none)
    (z_gcd : PySem.W.nsIn K mainGlobals "gcd" = some (some (.builtin "math.gcd")))
    : ∃ fd : FuncData, (∀ (s : Shared) (v : Value), BindsTo s fd ⟨[v], []⟩ [("script", v)]) ∧ ∀ base : Heap, K.In base → base.Ns mainGlobals mg → FnOk l.prog w K mg base (L2.CX l.prog w) 8 fa fd ["script"] (spLaw K) := by
  have e := hfa.symm.trans (PySem.W.mg_of X G a_law)
  cases e
  have I0 : InsOwn K C0 := ⟨⟨pg, hd, po, sa⟩, oa, on, ot, om⟩
  have T : TxT K mg [C0, C1] := {
    own0 := {
      cls := ⟨pg, hd, po, sa⟩
      no := fun i f hf => by
        have hf : (["top", "bottom"] : List Str)[i]? = some f := hf
        match i, hf with
        | 0, hf => cases hf; exact n0
        | 1, hf => cases hf; exact n1
        | i + 2, hf => simp at hf
      nd := by show (["top", "bottom"] : List Str).Nodup; decide +kernel
      few := by show 2 < 1000; decide }
    c0 := PySem.W.mg_of X G aC0
    sf0 := sf
    nf0 := fun T hT => by
      simp only [eqTys, List.mem_cons, List.mem_nil_iff, or_false] at hT
      rcases hT with rfl | rfl | rfl | rfl | rfl | rfl <;> assumption
    ne0 := ⟨ne, ob⟩
    isi0 := ⟨fun T hT => by
      simp only [eqTys, List.mem_cons, List.mem_nil_iff, or_false] at hT
      rcases hT with rfl | rfl | rfl | rfl | rfl | rfl <;> assumption, ks, I0⟩
    isib_bool := fun c hc => by
      obtain rfl : c = 0 := by omega
      exact ⟨kb_bool, I0⟩
    isib_list := fun c hc => by
      obtain rfl : c = 0 := by omega
      exact ⟨kb_list, I0⟩
    isib_tuple := fun c hc => by
      obtain rfl : c = 0 := by omega
      exact ⟨kb_tuple, I0⟩
    isib_int := fun c hc => by
      obtain rfl : c = 0 := by omega
      exact ⟨kb_int, I0⟩
    x1 := x1
    g1 := PySem.W.mg_of X G aC1
    k1 := k1
    p1 := p1
    t1 := t1
    b_gcd := PySem.W.mg_of X G z_gcd
    b_abs := PySem.W.mg_none_of X G z_abs
    b_len := PySem.W.mg_none_of X G z_len
    b_int := PySem.W.mg_none_of X G z_int
    b_list := PySem.W.mg_none_of X G z_list
    b_tuple := PySem.W.mg_none_of X G z_tuple
    b_bool := PySem.W.mg_none_of X G z_bool
    b_isinstance := PySem.W.mg_none_of X G z_isinstance
    b_range := PySem.W.mg_none_of X G z_range
    b_zip := PySem.W.mg_none_of X G z_zip
    b_enumerate := PySem.W.mg_none_of X G z_enumerate
    b_any := PySem.W.mg_none_of X G z_any }
  have FI := fun_mkD (st := s_Ratiou_initu) l_Ratiou_initu c_Ratiou_initu k_Ratiou_initu lt_Ratiou_initu rfl
  have F := fun_mk (st := s_law) l_law c_law k_law
  refine ⟨PySem.W.fnOf "law" "law" (defArgs s_law) (defBody s_law) (defScope s_law) .none kV_law dc_law pm_law an_law cd_law ct_law, fun s v => .of_eq rfl, fun base _ _ => ?_⟩
  have hI : FnOk l.prog w K mg base (L2.CX l.prog w) 1 f_Ratiou_initu _ ["self", "n", "d"] (spF (amb K [C0, C1]) 3 m_Ratiou_initu) := fn_Ratiou_initu T FI
  have h_Ratiou_initu : In l.prog w K mg base (amb K [C0, C1]) 1 0 3 [] m_Ratiou_initu := by
    obtain ⟨ds, r, b⟩ := FI.binds1 (ps := ["self", "n", "d"]) 3 1 (by simp) rfl fun T kV doc pm an cdv ct us its h1 h2 => match us, its, h1, h2 with | [_, _, _], [_], _, _ => ⟨_, rfl, rfl⟩
    exact ⟨⟨_, _, _, _, ds, ⟨mk, a_Ratiou_initu, i_Ratiou_initu, kc⟩, b, r, fun _ => .nil, hI⟩, ar_Ratiou_initu⟩
  have h_Ratiou_initu1 : In l.prog w K mg base (amb K [C0, C1]) 1 0 3 [.int 1] m_Ratiou_initu := by
    obtain ⟨ds, r, b⟩ := FI.binds1 (ps := ["self", "n", "d"]) 2 0 (by simp) rfl fun T kV doc pm an cdv ct us its h1 h2 => match us, its, h1, h2 with | [_, _], [_], _, _ => ⟨_, rfl, rfl⟩
    exact ⟨⟨_, _, _, _, ds, ⟨mk, a_Ratiou_initu, i_Ratiou_initu, kc⟩, b, r, fun _ => .cons (.int 1) .nil, hI⟩, ar_Ratiou_initu⟩
  have h_Ratiou_addu := ok_Ratiou_addu (P := l.prog) (w := w) (base := base) T (methAt_mk a_Ratiou_addu i_Ratiou_addu l_Ratiou_addu c_Ratiou_addu k_Ratiou_addu) h_Ratiou_initu
  have h_Ratiou_subu := ok_Ratiou_subu (P := l.prog) (w := w) (base := base) T (methAt_mk a_Ratiou_subu i_Ratiou_subu l_Ratiou_subu c_Ratiou_subu k_Ratiou_subu) h_Ratiou_initu
  have h_Ratiou_mulu := ok_Ratiou_mulu (P := l.prog) (w := w) (base := base) T (methAt_mk a_Ratiou_mulu i_Ratiou_mulu l_Ratiou_mulu c_Ratiou_mulu k_Ratiou_mulu) h_Ratiou_initu
  have h_Ratiou_negu := ok_Ratiou_negu (P := l.prog) (w := w) (base := base) T (methAt_mk a_Ratiou_negu i_Ratiou_negu l_Ratiou_negu c_Ratiou_negu k_Ratiou_negu) h_Ratiou_initu
  have h_Ratiou_equ := ok_Ratiou_equ (P := l.prog) (w := w) (base := base) T (methAt_mk a_Ratiou_equ i_Ratiou_equ l_Ratiou_equ c_Ratiou_equ k_Ratiou_equ) 
  have h__law_stream := ok__law_stream (P := l.prog) (w := w) (base := base) T (defAt_mk X G a__law_stream l__law_stream c__law_stream k__law_stream) 
  have h__law_draw := ok__law_draw (P := l.prog) (w := w) (base := base) T (defAt_mk X G a__law_draw l__law_draw c__law_draw k__law_draw) 
  have h__law_size := ok__law_size (P := l.prog) (w := w) (base := base) T (defAt_mk X G a__law_size l__law_size c__law_size k__law_size) 
  have h__law_pair := ok__law_pair (P := l.prog) (w := w) (base := base) T (defAt_mk X G a__law_pair l__law_pair c__law_pair k__law_pair) 
  have h__law_sum := ok__law_sum (P := l.prog) (w := w) (base := base) T (defAt_mk X G a__law_sum l__law_sum c__law_sum k__law_sum) h__law_pair
  have h__law_number := ok__law_number (P := l.prog) (w := w) (base := base) T (defAt_mk X G a__law_number l__law_number c__law_number k__law_number) h__law_draw h__law_pair
  have h__law_sheet := ok__law_sheet (P := l.prog) (w := w) (base := base) T (defAt_mk X G a__law_sheet l__law_sheet c__law_sheet k__law_sheet) h__law_draw h__law_number h__law_size h__law_sum
  have h__law_ways_up := ok__law_ways_up (P := l.prog) (w := w) (base := base) T (defAt_mk X G a__law_ways_up l__law_ways_up c__law_ways_up k__law_ways_up) 
  have h__law_minus := ok__law_minus (P := l.prog) (w := w) (base := base) T (defAt_mk X G a__law_minus l__law_minus c__law_minus k__law_minus) 
  have h__law_greatest := ok__law_greatest (P := l.prog) (w := w) (base := base) T (defAt_mk X G a__law_greatest l__law_greatest c__law_greatest k__law_greatest) h__law_ways_up h__law_sum h__law_minus
  have h__law_bounds := ok__law_bounds (P := l.prog) (w := w) (base := base) T (defAt_mk X G a__law_bounds l__law_bounds c__law_bounds k__law_bounds) h__law_greatest
  have h_is_less := ok_is_less (P := l.prog) (w := w) (base := base) T (defAt_mk X G a_is_less l_is_less c_is_less k_is_less) 
  have h__lesser := ok__lesser (P := l.prog) (w := w) (base := base) T (defAt_mk X G a__lesser l__lesser c__lesser k__lesser) h_is_less
  have h__sum := ok__sum (P := l.prog) (w := w) (base := base) T (defAt_mk X G a__sum l__sum c__sum k__sum) h_Ratiou_addu
  have h__by_way_of := ok__by_way_of (P := l.prog) (w := w) (base := base) T (defAt_mk X G a__by_way_of l__by_way_of c__by_way_of k__by_way_of) h__sum h__lesser
  have h_closed := ok_closed (P := l.prog) (w := w) (base := base) T (defAt_mk X G a_closed l_closed c_closed k_closed) h_Ratiou_initu1 h__lesser h__by_way_of h_is_less
  have h_bounds := ok_bounds (P := l.prog) (w := w) (base := base) T (defAt_mk X G a_bounds l_bounds c_bounds k_bounds) h_Ratiou_negu h_closed
  have h__law_less := ok__law_less (P := l.prog) (w := w) (base := base) T (defAt_mk X G a__law_less l__law_less c__law_less k__law_less) 
  have h__law_lower := ok__law_lower (P := l.prog) (w := w) (base := base) T (defAt_mk X G a__law_lower l__law_lower c__law_lower k__law_lower) h__law_less
  have h__law_closed := ok__law_closed (P := l.prog) (w := w) (base := base) T (defAt_mk X G a__law_closed l__law_closed c__law_closed k__law_closed) h__law_lower h__law_sum h__law_less
  have h__law_gaps := ok__law_gaps (P := l.prog) (w := w) (base := base) T (defAt_mk X G a__law_gaps l__law_gaps c__law_gaps k__law_gaps) h__law_draw h__law_number h__law_size h__law_minus h__law_sum h__law_closed
  have h__law_ratio := ok__law_ratio (P := l.prog) (w := w) (base := base) T (defAt_mk X G a__law_ratio l__law_ratio c__law_ratio k__law_ratio) h_Ratiou_initu
  have h__law_table := ok__law_table (P := l.prog) (w := w) (base := base) T (defAt_mk X G a__law_table l__law_table c__law_table k__law_table) h__law_ratio
  have h__law_over := ok__law_over (P := l.prog) (w := w) (base := base) T (defAt_mk X G a__law_over l__law_over c__law_over k__law_over) h__law_pair
  have h__law_times := ok__law_times (P := l.prog) (w := w) (base := base) T (defAt_mk X G a__law_times l__law_times c__law_times k__law_times) h__law_pair
  have h__law_condition := ok__law_condition (P := l.prog) (w := w) (base := base) T (defAt_mk X G a__law_condition l__law_condition c__law_condition k__law_condition) h__law_number h__law_minus h__law_draw h__law_pair h__law_sum h__law_times h__law_over
  have h_with_bound := ok_with_bound (P := l.prog) (w := w) (base := base) T (defAt_mk X G a_with_bound l_with_bound c_with_bound k_with_bound) h_Ratiou_initu1 h_Ratiou_addu h_is_less h__by_way_of
  have h__law_cues := ok__law_cues (P := l.prog) (w := w) (base := base) T (defAt_mk X G a__law_cues l__law_cues c__law_cues k__law_cues) h__law_ratio
  have h__law_told := ok__law_told (P := l.prog) (w := w) (base := base) T (defAt_mk X G a__law_told l__law_told c__law_told k__law_told) 
  have h__law_shown := ok__law_shown (P := l.prog) (w := w) (base := base) T (defAt_mk X G a__law_shown l__law_shown c__law_shown k__law_shown) h__law_told
  exact law_of (α := amb K [C0, C1]) (fn_law T F h__law_stream h__law_draw h__law_sheet h__law_bounds h__law_cues h_bounds h__law_gaps h__law_table h__law_condition h__law_lower h__law_closed h__law_ratio h_with_bound h__law_shown) rfl fun ns _ => ev_law
end Vs
open PySem PySem.W PyProof.Rows
set_option maxHeartbeats 0 in
theorem PySem.Challenge.cw_traproom_k31_further_conditions_holds : PySem.Challenge.rw_traproom_k31_further_conditions.Holds := by
  w_on; o_law; k_head; (case hw => w_witness2)
  k_fill
  refine L2.walk_of (l := PySem.Challenge.rw_traproom_k31_further_conditions) (n := 63) (k := 8) (x := "script") (CX := fun w => L2.CX PySem.Challenge.rw_traproom_k31_further_conditions.prog w) (sp := fun w => Vs.spLaw _) rfl (by decide) rfl ⟨rfl, by decide, by decide⟩ (fun w h Y => PySem.W.kIn_of Y) ?F (fun _ _ a ns hl _ hS => ⟨a, ns, rfl, hS, hl, fun _ => rfl⟩) (fun _ _ _ _ _ h => Vs.cx_none h)
  case F =>
    intro w mg fa h KX G hmg
    refine' Vs.all_mk KX G hmg ?aC0 ?aC1 ?a_Ratiou_initu ?i_Ratiou_initu ?l_Ratiou_initu ?c_Ratiou_initu ?k_Ratiou_initu ?lt_Ratiou_initu ?a_Ratiou_addu ?i_Ratiou_addu ?l_Ratiou_addu ?c_Ratiou_addu ?k_Ratiou_addu ?a_Ratiou_subu ?i_Ratiou_subu ?l_Ratiou_subu ?c_Ratiou_subu ?k_Ratiou_subu ?a_Ratiou_mulu ?i_Ratiou_mulu ?l_Ratiou_mulu ?c_Ratiou_mulu ?k_Ratiou_mulu ?a_Ratiou_negu ?i_Ratiou_negu ?l_Ratiou_negu ?c_Ratiou_negu ?k_Ratiou_negu ?a_Ratiou_equ ?i_Ratiou_equ ?l_Ratiou_equ ?c_Ratiou_equ ?k_Ratiou_equ ?a__law_stream ?l__law_stream ?c__law_stream ?k__law_stream ?a__law_draw ?l__law_draw ?c__law_draw ?k__law_draw ?a__law_size ?l__law_size ?c__law_size ?k__law_size ?a__law_pair ?l__law_pair ?c__law_pair ?k__law_pair ?a__law_sum ?l__law_sum ?c__law_sum ?k__law_sum ?a__law_number ?l__law_number ?c__law_number ?k__law_number ?a__law_sheet ?l__law_sheet ?c__law_sheet ?k__law_sheet ?a__law_ways_up ?l__law_ways_up ?c__law_ways_up ?k__law_ways_up ?a__law_minus ?l__law_minus ?c__law_minus ?k__law_minus ?a__law_greatest ?l__law_greatest ?c__law_greatest ?k__law_greatest ?a__law_bounds ?l__law_bounds ?c__law_bounds ?k__law_bounds ?a_is_less ?l_is_less ?c_is_less ?k_is_less ?a__lesser ?l__lesser ?c__lesser ?k__lesser ?a__sum ?l__sum ?c__sum ?k__sum ?a__by_way_of ?l__by_way_of ?c__by_way_of ?k__by_way_of ?a_closed ?l_closed ?c_closed ?k_closed ?a_bounds ?l_bounds ?c_bounds ?k_bounds ?a__law_less ?l__law_less ?c__law_less ?k__law_less ?a__law_lower ?l__law_lower ?c__law_lower ?k__law_lower ?a__law_closed ?l__law_closed ?c__law_closed ?k__law_closed ?a__law_gaps ?l__law_gaps ?c__law_gaps ?k__law_gaps ?a__law_ratio ?l__law_ratio ?c__law_ratio ?k__law_ratio ?a__law_table ?l__law_table ?c__law_table ?k__law_table ?a__law_over ?l__law_over ?c__law_over ?k__law_over ?a__law_times ?l__law_times ?c__law_times ?k__law_times ?a__law_condition ?l__law_condition ?c__law_condition ?k__law_condition ?a_with_bound ?l_with_bound ?c_with_bound ?k_with_bound ?a__law_cues ?l__law_cues ?c__law_cues ?k__law_cues ?a__law_told ?l__law_told ?c__law_told ?k__law_told ?a__law_shown ?l__law_shown ?c__law_shown ?k__law_shown ?a_law ?l_law ?c_law ?k_law ?pg ?hd ?po ?sa ?n0 ?n1 ?sf ?nf0 ?nf1 ?nf2 ?nf3 ?nf4 ?nf5 ?ne ?ob ?kt0 ?kt1 ?kt2 ?kt3 ?kt4 ?kt5 ?ks ?kb_bool ?kb_list ?kb_tuple ?kb_int ?oa ?on ?ot ?om ?mk ?kc ?x1 ?k1 ?p1 ?t1 ?z_abs ?z_len ?z_int ?z_list ?z_tuple ?z_bool ?z_isinstance ?z_range ?z_zip ?z_enumerate ?z_any ?z_gcd
    (case aC0 => k_is); (case aC1 => k_is); (case a_Ratiou_initu => k_is); (case i_Ratiou_initu => k_is); (case l_Ratiou_initu => k_is); (case c_Ratiou_initu => k_is); (case k_Ratiou_initu => k_is); (case lt_Ratiou_initu => k_is); (case a_Ratiou_addu => k_is); (case i_Ratiou_addu => k_is); (case l_Ratiou_addu => k_is); (case c_Ratiou_addu => k_is); (case k_Ratiou_addu => k_is); (case a_Ratiou_subu => k_is); (case i_Ratiou_subu => k_is); (case l_Ratiou_subu => k_is); (case c_Ratiou_subu => k_is); (case k_Ratiou_subu => k_is); (case a_Ratiou_mulu => k_is); (case i_Ratiou_mulu => k_is); (case l_Ratiou_mulu => k_is); (case c_Ratiou_mulu => k_is); (case k_Ratiou_mulu => k_is); (case a_Ratiou_negu => k_is); (case i_Ratiou_negu => k_is); (case l_Ratiou_negu => k_is); (case c_Ratiou_negu => k_is); (case k_Ratiou_negu => k_is); (case a_Ratiou_equ => k_is); (case i_Ratiou_equ => k_is); (case l_Ratiou_equ => k_is); (case c_Ratiou_equ => k_is); (case k_Ratiou_equ => k_is); (case a__law_stream => k_is); (case l__law_stream => k_is); (case c__law_stream => k_is); (case k__law_stream => k_is); (case a__law_draw => k_is); (case l__law_draw => k_is); (case c__law_draw => k_is); (case k__law_draw => k_is); (case a__law_size => k_is); (case l__law_size => k_is); (case c__law_size => k_is); (case k__law_size => k_is); (case a__law_pair => k_is); (case l__law_pair => k_is); (case c__law_pair => k_is); (case k__law_pair => k_is); (case a__law_sum => k_is); (case l__law_sum => k_is); (case c__law_sum => k_is); (case k__law_sum => k_is); (case a__law_number => k_is); (case l__law_number => k_is); (case c__law_number => k_is); (case k__law_number => k_is); (case a__law_sheet => k_is); (case l__law_sheet => k_is); (case c__law_sheet => k_is); (case k__law_sheet => k_is); (case a__law_ways_up => k_is); (case l__law_ways_up => k_is); (case c__law_ways_up => k_is); (case k__law_ways_up => k_is); (case a__law_minus => k_is); (case l__law_minus => k_is); (case c__law_minus => k_is); (case k__law_minus => k_is); (case a__law_greatest => k_is); (case l__law_greatest => k_is); (case c__law_greatest => k_is); (case k__law_greatest => k_is); (case a__law_bounds => k_is); (case l__law_bounds => k_is); (case c__law_bounds => k_is); (case k__law_bounds => k_is); (case a_is_less => k_is); (case l_is_less => k_is); (case c_is_less => k_is); (case k_is_less => k_is); (case a__lesser => k_is); (case l__lesser => k_is); (case c__lesser => k_is); (case k__lesser => k_is); (case a__sum => k_is); (case l__sum => k_is); (case c__sum => k_is); (case k__sum => k_is); (case a__by_way_of => k_is); (case l__by_way_of => k_is); (case c__by_way_of => k_is); (case k__by_way_of => k_is); (case a_closed => k_is); (case l_closed => k_is); (case c_closed => k_is); (case k_closed => k_is); (case a_bounds => k_is); (case l_bounds => k_is); (case c_bounds => k_is); (case k_bounds => k_is); (case a__law_less => k_is); (case l__law_less => k_is); (case c__law_less => k_is); (case k__law_less => k_is); (case a__law_lower => k_is); (case l__law_lower => k_is); (case c__law_lower => k_is); (case k__law_lower => k_is); (case a__law_closed => k_is); (case l__law_closed => k_is); (case c__law_closed => k_is); (case k__law_closed => k_is); (case a__law_gaps => k_is); (case l__law_gaps => k_is); (case c__law_gaps => k_is); (case k__law_gaps => k_is); (case a__law_ratio => k_is); (case l__law_ratio => k_is); (case c__law_ratio => k_is); (case k__law_ratio => k_is); (case a__law_table => k_is); (case l__law_table => k_is); (case c__law_table => k_is); (case k__law_table => k_is); (case a__law_over => k_is); (case l__law_over => k_is); (case c__law_over => k_is); (case k__law_over => k_is); (case a__law_times => k_is); (case l__law_times => k_is); (case c__law_times => k_is); (case k__law_times => k_is); (case a__law_condition => k_is); (case l__law_condition => k_is); (case c__law_condition => k_is); (case k__law_condition => k_is); (case a_with_bound => k_is); (case l_with_bound => k_is); (case c_with_bound => k_is); (case k_with_bound => k_is); (case a__law_cues => k_is); (case l__law_cues => k_is); (case c__law_cues => k_is); (case k__law_cues => k_is); (case a__law_told => k_is); (case l__law_told => k_is); (case c__law_told => k_is); (case k__law_told => k_is); (case a__law_shown => k_is); (case l__law_shown => k_is); (case c__law_shown => k_is); (case k__law_shown => k_is); (case a_law => k_is); (case l_law => k_is); (case c_law => k_is); (case k_law => k_is); (case pg => k_is); (case hd => k_is); (case po => k_is); (case sa => k_is); (case n0 => k_is); (case n1 => k_is); (case sf => k_is); (case nf0 => k_is); (case nf1 => k_is); (case nf2 => k_is); (case nf3 => k_is); (case nf4 => k_is); (case nf5 => k_is); (case ne => k_is); (case ob => k_is); (case kt0 => kit_is); (case kt1 => kit_is); (case kt2 => kit_is); (case kt3 => kit_is); (case kt4 => kit_is); (case kt5 => kit_is); (case ks => kit_is); (case kb_bool => kit_is); (case kb_list => kit_is); (case kb_tuple => kit_is); (case kb_int => kit_is); (case oa => k_is); (case on => k_is); (case ot => k_is); (case om => k_is); (case mk => k_is); (case kc => k_is); (case x1 => k_exc); (case k1 => k_is); (case p1 => k_is); (case t1 => k_is); (case z_abs => k_is); (case z_len => k_is); (case z_int => k_is); (case z_list => k_is); (case z_tuple => k_is); (case z_bool => k_is); (case z_isinstance => k_is); (case z_range => k_is); (case z_zip => k_is); (case z_enumerate => k_is); (case z_any => k_is); (case z_gcd => k_is)
