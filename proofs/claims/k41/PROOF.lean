import PyProof.Rows.All
import Wide.All
import OpenK.AllK
import Wide.FinOn
import HandS.Base
import HandS.Call
import HandS.List
import HandS.Comp
import HandS.Words
import HandS.WordsList
import HandS.Exc
import HandS.ExcOwn
import HandS.TryOnly
import HandS.Wide
import HandS.More
import HandS.IsInst
import HandS.Gcd
import HandS.WideBits
import HandS.TupAny
import HandS.CallSlots
import HandS.WordsExc
import OpenK.KMeth
import OpenK.KWalk
import OpenK.KMake
import KE.KOpsOwn
import PyProof.InstEq
import PyProof.CallFns
import HandS.Defaults
import HandS.Ends
import HandS.ExcIs
import HandS.StrMore
import HandS.Flow
import PyProof.NoPylong
import KE.KxIndex
import HandS.Iter
import HandS.Star
import KE.KMathG
import HandS.Style
import HandS.Zip
import HandS.OwnEq
import HandS.TupMul
import KE.GoesEnum
import KE.GoesMore
import PyProof.TupleOfSeq
import HandS.HotCalls
import HandS.TupLe
import KE.RegKIsAll
import PySem.Challenge.RW_traproom_k41_places_with_faults
set_option Elab.async false
set_option linter.all false
set_option maxRecDepth 100000
namespace Vs
open PySem PySem.Spec PyProof.Rows L2
/-- data without places -/
inductive P where
  | non | bl (b : Bool) | int (i : Int) | str (s : Str) | tup (xs : List P) | lst (xs : List P) | wl (xs : List P) | obj (c : Nat) (xs : List P)
/-- a value: data, or a place of the store -/
inductive D where
  | p (x : P) | loc (l : Nat)
/-- what stands at a place -/
inductive MO where
  | lst (xs : List P) | ins (c : Nat) (xs : List P) | dl (ds : List D)
abbrev Mu := List (Option MO)
abbrev Sl := List (Option D)
/-- what is fixed: the written part, the classes' addresses, their fields -/
structure Amb where
  K : PySem.W.Frag
  cl : Nat → Addr
  fl : Nat → List Str
mutual
inductive Rep (α : Amb) (G : Hp) : V → P → Prop
  | non : Rep α G .non .non
  | bl (b : Bool) : Rep α G (.bl b) (.bl b)
  | int (i : Int) : Rep α G (.int i) (.int i)
  | str (s : Str) : Rep α G (.str s) (.str s)
  | tup {a : Addr} {vs : List V} {xs : List P} : SqT α.K G a vs → Reps α G vs xs → Rep α G (.ref a) (.tup xs)
  | lst {a : Addr} {vs : List V} {xs : List P} : G a = some (.lst vs) → Reps α G vs xs → Rep α G (.ref a) (.lst xs)
  | wl {a : Addr} {vs : List V} {xs : List P} : SqL α.K G a vs → Reps α G vs xs → Rep α G (.ref a) (.wl xs)
  | obj {a dx : Addr} {c : Nat} {vs : List V} {xs : List P} : G a = some (.ins (α.cl c) dx ((α.fl c).zip vs)) → vs.length = (α.fl c).length → Reps α G vs xs → Rep α G (.ref a) (.obj c xs)
inductive Reps (α : Amb) (G : Hp) : List V → List P → Prop
  | nil : Reps α G [] []
  | cons {v : V} {vs : List V} {x : P} {xs : List P} : Rep α G v x → Reps α G vs xs → Reps α G (v :: vs) (x :: xs)
end
theorem seqT {K : PySem.W.Frag} {H H' : Hp} {a : Addr} {xs : List V} (e : Same H H') (h : SqT K H a xs) : SqT K H' a xs :=
  h.elim (fun h => .inl (h.elim (fun h => .inl (e _ _ h)) fun ⟨o, h⟩ => .inr ⟨o, e _ _ h⟩)) fun h => .inr h
theorem seqL {K : PySem.W.Frag} {H H' : Hp} {a : Addr} {xs : List V} (e : Same H H') (h : SqL K H a xs) : SqL K H' a xs := e.seq h
mutual
theorem Rep.mono {α : Amb} {G G' : Hp} (s : Same G G') : ∀ {v : V} {x : P}, Rep α G v x → Rep α G' v x
  | _, _, .non => .non
  | _, _, .bl b => .bl b
  | _, _, .int i => .int i
  | _, _, .str z => .str z
  | _, _, .tup h r => .tup (seqT s h) (r.mono s)
  | _, _, .lst h r => .lst (s _ _ h) (r.mono s)
  | _, _, .wl h r => .wl (seqL s h) (r.mono s)
  | _, _, .obj h l r => .obj (s _ _ h) l (r.mono s)
theorem Reps.mono {α : Amb} {G G' : Hp} (s : Same G G') : ∀ {vs : List V} {xs : List P}, Reps α G vs xs → Reps α G' vs xs
  | _, _, .nil => .nil
  | _, _, .cons h t => .cons (h.mono s) (t.mono s)
end
theorem Reps.length {α : Amb} {G : Hp} : ∀ {vs : List V} {xs : List P}, Reps α G vs xs → vs.length = xs.length
  | _, _, .nil => rfl
  | _, _, .cons _ t => congrArg (· + 1) t.length
theorem Reps.get {α : Amb} {G : Hp} : ∀ {vs : List V} {xs : List P} {i : Nat} {x : P}, Reps α G vs xs → xs[i]? = some x → ∃ v, vs[i]? = some v ∧ Rep α G v x
  | _, _, _, _, .nil, e => by simp at e
  | _, _, 0, _, .cons h _, e => by simp at e; subst e; exact ⟨_, rfl, h⟩
  | _, _, i + 1, x, .cons _ t, e => by
    obtain ⟨u, h1, h2⟩ := Reps.get (i := i) (x := x) t (by simpa using e)
    exact ⟨u, by simpa using h1, h2⟩
theorem Reps.append {α : Amb} {G : Hp} : ∀ {vs ws : List V} {xs ys : List P}, Reps α G vs xs → Reps α G ws ys → Reps α G (vs ++ ws) (xs ++ ys)
  | _, _, _, _, .nil, s => s
  | _, _, _, _, .cons r t, s => .cons r (Reps.append t s)
theorem Reps.set {α : Amb} {G : Hp} {v : V} {x : P} (r : Rep α G v x) : ∀ {vs : List V} {xs : List P} (i : Nat), Reps α G vs xs → Reps α G (vs.set i v) (xs.set i x)
  | _, _, _, .nil => .nil
  | _, _, 0, .cons _ t => .cons r t
  | _, _, i + 1, .cons q t => .cons q (Reps.set r i t)
theorem Reps.take {α : Amb} {G : Hp} : ∀ {vs : List V} {xs : List P} (n : Nat), Reps α G vs xs → Reps α G (vs.take n) (xs.take n)
  | _, _, 0, _ => .nil
  | _, _, _ + 1, .nil => .nil
  | _, _, n + 1, .cons r t => .cons r (Reps.take n t)
theorem Reps.drop {α : Amb} {G : Hp} : ∀ {vs : List V} {xs : List P} (n : Nat), Reps α G vs xs → Reps α G (vs.drop n) (xs.drop n)
  | _, _, 0, r => r
  | _, _, _ + 1, .nil => .nil
  | _, _, n + 1, .cons _ t => Reps.drop n t
def RepD (α : Amb) (G : Hp) (ρ : List Addr) (v : V) : D → Prop
  | .p x => Rep α G v x
  | .loc l => ∃ a, v = .ref a ∧ ρ[l]? = some a
inductive RepDs (α : Amb) (G : Hp) (ρ : List Addr) : List V → List D → Prop
  | nil : RepDs α G ρ [] []
  | cons {v : V} {vs : List V} {x : D} {xs : List D} : RepD α G ρ v x → RepDs α G ρ vs xs → RepDs α G ρ (v :: vs) (x :: xs)
/-- the ground and the places have grown -/
structure Up (G : Hp) (ρ : List Addr) (G' : Hp) (ρ' : List Addr) : Prop where
  same : Same G G'
  pre : ∃ r, ρ' = ρ ++ r
theorem Up.refl {G : Hp} {ρ : List Addr} : Up G ρ G ρ := ⟨Same.refl G, [], (List.append_nil ρ).symm⟩
theorem Up.trans {G G1 G2 : Hp} {ρ ρ1 ρ2 : List Addr} (a : Up G ρ G1 ρ1) (b : Up G1 ρ1 G2 ρ2) : Up G ρ G2 ρ2 := by
  obtain ⟨s, r, rfl⟩ := a
  obtain ⟨s', r', rfl⟩ := b
  exact ⟨s.trans s', r ++ r', by rw [List.append_assoc]⟩
theorem Up.get {G G' : Hp} {ρ ρ' : List Addr} (u : Up G ρ G' ρ') {l : Nat} {a : Addr} (h : ρ[l]? = some a) : ρ'[l]? = some a := by
  obtain ⟨_, r, rfl⟩ := u
  rw [List.getElem?_append_left (List.getElem?_eq_some_iff.mp h).1]
  exact h
theorem RepD.up {α : Amb} {G G' : Hp} {ρ ρ' : List Addr} {v : V} {d : D} (u : Up G ρ G' ρ') (h : RepD α G ρ v d) : RepD α G' ρ' v d := by
  cases d with
  | p x => exact Rep.mono u.same h
  | loc l => obtain ⟨a, e, h⟩ := h; exact ⟨a, e, u.get h⟩
theorem RepDs.up {α : Amb} {G G' : Hp} {ρ ρ' : List Addr} (u : Up G ρ G' ρ') : ∀ {vs : List V} {ds : List D}, RepDs α G ρ vs ds → RepDs α G' ρ' vs ds
  | _, _, .nil => .nil
  | _, _, .cons h t => .cons (h.up u) (t.up u)
theorem RepDs.length {α : Amb} {G : Hp} {ρ : List Addr} : ∀ {vs : List V} {ds : List D}, RepDs α G ρ vs ds → vs.length = ds.length
  | _, _, .nil => rfl
  | _, _, .cons _ t => congrArg (· + 1) t.length
theorem RepDs.append {α : Amb} {G : Hp} {ρ : List Addr} : ∀ {vs ws : List V} {xs ys : List D}, RepDs α G ρ vs xs → RepDs α G ρ ws ys → RepDs α G ρ (vs ++ ws) (xs ++ ys)
  | _, _, _, _, .nil, s => s
  | _, _, _, _, .cons r t, s => .cons r (RepDs.append t s)
theorem RepDs.get {α : Amb} {G : Hp} {ρ : List Addr} : ∀ {vs : List V} {xs : List D} {i : Nat} {x : D}, RepDs α G ρ vs xs → xs[i]? = some x → ∃ v, vs[i]? = some v ∧ RepD α G ρ v x
  | _, _, _, _, .nil, e => by simp at e
  | _, _, 0, _, .cons h _, e => by simp at e; subst e; exact ⟨_, rfl, h⟩
  | _, _, i + 1, x, .cons _ t, e => by
    obtain ⟨u, h1, h2⟩ := RepDs.get (i := i) (x := x) t (by simpa using e)
    exact ⟨u, by simpa using h1, h2⟩
/-- places before l alone -/
def Blw (l : Nat) (ds : List D) : Prop := ∀ k, D.loc k ∈ ds → k < l
theorem Blw.le {l l' : Nat} {ds : List D} (h : Blw l ds) (e : l ≤ l') : Blw l' ds := fun k hk => Nat.lt_of_lt_of_le (h k hk) e
theorem RepDs.cut {α : Amb} {G : Hp} {ρ0 r : List Addr} {l : Nat} (hl : l ≤ ρ0.length) : ∀ {vs : List V} {ds : List D}, RepDs α G (ρ0 ++ r) vs ds → Blw l ds → RepDs α G ρ0 vs ds
  | _, _, .nil, _ => .nil
  | _, _, .cons (x := d) h t, b => .cons (by
      cases d with
      | p x => exact h
      | loc k =>
        obtain ⟨a, e, h⟩ := h
        have hk := b k List.mem_cons_self
        exact ⟨a, e, by rw [List.getElem?_append_left (by omega)] at h; exact h⟩) (RepDs.cut hl t fun k hk => b k (List.mem_cons_of_mem _ hk))
/-- what stands in the heap at the place l -/
def MRep (α : Amb) (G : Hp) (ρ : List Addr) (l : Nat) (o : Option HO) : MO → Prop
  | .lst xs => ∃ vs, o = some (.lst vs) ∧ Reps α G vs xs
  | .ins c xs => ∃ dx vs, o = some (.ins (α.cl c) dx ((α.fl c).zip vs)) ∧ vs.length ≤ (α.fl c).length ∧ Reps α G vs xs
  | .dl ds => ∃ vs, o = some (.lst vs) ∧ RepDs α G ρ vs ds ∧ Blw l ds
theorem MRep.up {α : Amb} {G G' : Hp} {ρ ρ' : List Addr} {l : Nat} {o : Option HO} {m : MO} (u : Up G ρ G' ρ') (h : MRep α G ρ l o m) : MRep α G' ρ' l o m := by
  cases m with
  | lst xs => obtain ⟨vs, e, r⟩ := h; exact ⟨vs, e, r.mono u.same⟩
  | ins c xs => obtain ⟨dx, vs, e, l, r⟩ := h; exact ⟨dx, vs, e, l, r.mono u.same⟩
  | dl ds => obtain ⟨vs, e, r, b⟩ := h; exact ⟨vs, e, r.up u, b⟩
theorem MRep.ne {α : Amb} {G : Hp} {ρ : List Addr} {l : Nat} {o : Option HO} {m : MO} (h : MRep α G ρ l o m) : o ≠ none := by
  cases m with
  | lst xs => obtain ⟨vs, e, r⟩ := h; rw [e]; intro z; cases z
  | ins c xs => obtain ⟨dx, vs, e, l, r⟩ := h; rw [e]; intro z; cases z
  | dl ds => obtain ⟨vs, e, r, b⟩ := h; rw [e]; intro z; cases z
theorem MRep.cut {α : Amb} {G : Hp} {ρ0 r : List Addr} {l : Nat} {o : Option HO} {m : MO} (hl : l ≤ ρ0.length) (h : MRep α G (ρ0 ++ r) l o m) : MRep α G ρ0 l o m := by
  cases m with
  | lst xs => exact h
  | ins c xs => exact h
  | dl ds => obtain ⟨vs, e, r, b⟩ := h; exact ⟨vs, e, r.cut hl b, b⟩
structure Zn (α : Amb) (H G : Hp) (ρ : List Addr) (μ : Mu) : Prop where
  sub : Same G H
  len : ρ.length = μ.length
  cell : ∀ (l : Nat) (m : MO), μ[l]? = some (some m) → ∃ a, ρ[l]? = some a ∧ G a = none ∧ MRep α G ρ l (H a) m
  inj : ∀ (l l' : Nat) (m m' : MO) (a : Addr), μ[l]? = some (some m) → μ[l']? = some (some m') → ρ[l]? = some a → ρ[l']? = some a → l = l'
theorem same_upd {H : Hp} {p : Addr} {o : HO} (h : H p = none) : Same H (upd H p o) := fun b x e => by
  rw [upd_ne (ne_of_none e h)]
  exact e
theorem up_new {G : Hp} {ρ : List Addr} {p : Addr} {o : HO} (h : G p = Option.none) : Up G ρ (upd G p o) ρ := ⟨same_upd h, [], (List.append_nil ρ).symm⟩
theorem up_place {G : Hp} {ρ : List Addr} {p : Addr} : Up G ρ G (ρ ++ [p]) := ⟨Same.refl G, [p], rfl⟩
theorem Zn.free {α : Amb} {H G : Hp} {ρ : List Addr} {μ : Mu} (z : Zn α H G ρ μ) {p : Addr} (h : H p = none) : G p = none := by
  cases e : G p with
  | none => rfl
  | some o => rw [z.sub _ _ e] at h; cases h
/-- a new object, into the ground -/
theorem Zn.new {α : Amb} {H G : Hp} {ρ : List Addr} {μ : Mu} (z : Zn α H G ρ μ) {p : Addr} (h : H p = none) (o : HO) : Zn α (upd H p o) (upd G p o) ρ μ := by
  have g := z.free h
  refine ⟨fun b x e => ?_, z.len, fun l m e => ?_, z.inj⟩
  · by_cases hb : b = p
    · subst hb; rw [upd_same] at e ⊢; exact e
    · rw [upd_ne hb] at e ⊢; exact z.sub _ _ e
  · obtain ⟨a, h1, h2, h3⟩ := z.cell l m e
    have hap : a ≠ p := fun q => by subst q; exact h3.ne h
    exact ⟨a, h1, by rw [upd_ne hap]; exact h2, by rw [upd_ne hap]; exact h3.up (up_new g)⟩
/-- a new object that is not told -/
theorem Zn.grow {α : Amb} {H H' G : Hp} {ρ : List Addr} {μ : Mu} (z : Zn α H G ρ μ) (s : Same H H') : Zn α H' G ρ μ := by
  refine ⟨z.sub.trans s, z.len, fun l m e => ?_, z.inj⟩
  obtain ⟨a, h1, h2, h3⟩ := z.cell l m e
  refine ⟨a, h1, h2, ?_⟩
  cases q : H a with
  | none => exact absurd q h3.ne
  | some o => rw [s _ _ q]; rw [q] at h3; exact h3
/-- a new place -/
theorem Zn.place {α : Amb} {H G : Hp} {ρ : List Addr} {μ : Mu} (z : Zn α H G ρ μ) {p : Addr} (h : H p = Option.none) {o : HO} {m : MO} (r : MRep α G ρ μ.length (some o) m) : Zn α (upd H p o) G (ρ ++ [p]) (μ ++ [some m]) := by
  have g := z.free h
  have old : ∀ {l : Nat} {m' : MO}, (μ ++ [some m])[l]? = some (some m') → (l < μ.length ∧ μ[l]? = some (some m')) ∨ (l = μ.length ∧ m' = m) := fun {l m'} e => by
    by_cases hl : l < μ.length
    · rw [List.getElem?_append_left hl] at e; exact .inl ⟨hl, e⟩
    · rw [List.getElem?_append_right (by omega)] at e
      by_cases h0 : l - μ.length = 0
      · rw [h0] at e
        simp at e
        exact .inr ⟨by omega, e.symm⟩
      · rw [List.getElem?_eq_none (by simp; omega)] at e; cases e
  have at_old : ∀ {l : Nat}, l < μ.length → (ρ ++ [p])[l]? = ρ[l]? := fun {l} hl => List.getElem?_append_left (by rw [z.len]; exact hl)
  have at_new : (ρ ++ [p])[μ.length]? = some p := by rw [← z.len]; simp
  refine ⟨fun b x e => ?_, by simp [z.len], fun l m' e => ?_, fun l l' m1 m2 a e1 e2 h1 h2 => ?_⟩
  · rw [upd_ne (ne_of_none e g)]; exact z.sub _ _ e
  · rcases old e with ⟨hl, e⟩ | ⟨rfl, rfl⟩
    · obtain ⟨a, h1, h2, h3⟩ := z.cell l m' e
      have hap : a ≠ p := fun q => by subst q; exact h3.ne h
      exact ⟨a, by rw [at_old hl]; exact h1, h2, by rw [upd_ne hap]; exact h3.up up_place⟩
    · exact ⟨p, at_new, g, by rw [upd_same]; exact r.up up_place⟩
  · have notp : ∀ {l : Nat} {m' : MO}, l < μ.length → μ[l]? = some (some m') → ρ[l]? ≠ some p := fun {l m'} hl e q => by
      obtain ⟨b, b1, b2, b3⟩ := z.cell l m' e
      rw [q] at b1; cases b1
      exact b3.ne h
    rcases old e1 with ⟨k1, f1⟩ | ⟨q1, _⟩ <;> rcases old e2 with ⟨k2, f2⟩ | ⟨q2, _⟩
    · rw [at_old k1] at h1; rw [at_old k2] at h2
      exact z.inj _ _ _ _ _ f1 f2 h1 h2
    · subst q2
      rw [at_old k1] at h1; rw [at_new] at h2; cases h2
      exact absurd h1 (notp k1 f1)
    · subst q1
      rw [at_old k2] at h2; rw [at_new] at h1; cases h1
      exact absurd h2 (notp k2 f2)
    · rw [q1, q2]
/-- a place is written -/
theorem Zn.write {α : Amb} {H G : Hp} {ρ : List Addr} {μ : Mu} (z : Zn α H G ρ μ) {l : Nat} {a : Addr} {m m' : MO} (hm : μ[l]? = some (some m)) (ha : ρ[l]? = some a) {o : HO} (r : MRep α G ρ l (some o) m') : Zn α (upd H a o) G ρ (μ.set l (some m')) := by
  have hl : l < μ.length := (List.getElem?_eq_some_iff.mp hm).1
  obtain ⟨a', h1, h2, h3⟩ := z.cell l m hm
  rw [ha] at h1; cases h1
  have live : ∀ {k : Nat} {mk : MO}, (μ.set l (some m'))[k]? = some (some mk) → ∃ mk', μ[k]? = some (some mk') := fun {k mk} e => by
    by_cases hk : l = k
    · subst hk; exact ⟨m, hm⟩
    · rw [List.getElem?_set_ne hk] at e; exact ⟨mk, e⟩
  refine ⟨fun b x e => ?_, by rw [List.length_set]; exact z.len, fun k mk e => ?_, fun k k' m1 m2 b e1 e2 g1 g2 => ?_⟩
  · rw [upd_ne (ne_of_none e h2)]; exact z.sub _ _ e
  · by_cases hk : l = k
    · subst hk
      rw [List.getElem?_set_self hl] at e
      cases e
      exact ⟨a, ha, h2, by rw [upd_same]; exact r⟩
    · rw [List.getElem?_set_ne hk] at e
      obtain ⟨b, b1, b2, b3⟩ := z.cell k mk e
      have hab : b ≠ a := fun q => by
        subst q
        exact hk (z.inj _ _ _ _ _ hm e ha b1)
      exact ⟨b, b1, b2, by rw [upd_ne hab]; exact b3⟩
  · obtain ⟨n1, e1⟩ := live e1
    obtain ⟨n2, e2⟩ := live e2
    exact z.inj _ _ _ _ _ e1 e2 g1 g2
/-- a place is taken into the ground -/
theorem Zn.freeze {α : Amb} {H G : Hp} {ρ : List Addr} {μ : Mu} (z : Zn α H G ρ μ) {l : Nat} {a : Addr} {m : MO} {o : HO} (hm : μ[l]? = some (some m)) (ha : ρ[l]? = some a) (ho : H a = some o) : Zn α H (upd G a o) ρ (μ.set l Option.none) ∧ G a = Option.none := by
  have hl : l < μ.length := (List.getElem?_eq_some_iff.mp hm).1
  obtain ⟨a', h1, h2, h3⟩ := z.cell l m hm
  rw [ha] at h1; cases h1
  have live : ∀ {k : Nat} {mk : MO}, (μ.set l Option.none)[k]? = some (some mk) → l ≠ k ∧ μ[k]? = some (some mk) := fun {k mk} e => by
    by_cases hk : l = k
    · subst hk; rw [List.getElem?_set_self hl] at e; cases e
    · rw [List.getElem?_set_ne hk] at e; exact ⟨hk, e⟩
  refine ⟨⟨fun b x e => ?_, by rw [List.length_set]; exact z.len, fun k mk e => ?_, fun k k' m1 m2 b e1 e2 g1 g2 => ?_⟩, h2⟩
  · by_cases hb : b = a
    · subst hb; rw [upd_same] at e; cases e; exact ho
    · rw [upd_ne hb] at e; exact z.sub _ _ e
  · obtain ⟨hk, e⟩ := live e
    obtain ⟨b, b1, b2, b3⟩ := z.cell k mk e
    have hab : b ≠ a := fun q => by
      subst q
      exact hk (z.inj _ _ _ _ _ hm e ha b1)
    exact ⟨b, b1, by rw [upd_ne hab]; exact b2, b3.up (up_new h2)⟩
  · exact z.inj _ _ _ _ _ (live e1).2 (live e2).2 g1 g2
/-- the places beyond n are forgotten -/
theorem Zn.cut {α : Amb} {H G : Hp} {ρ ρ0 : List Addr} {μ : Mu} (z : Zn α H G ρ μ) {r : List Addr} (e : ρ = ρ0 ++ r) : Zn α H G ρ0 (μ.take ρ0.length) := by
  subst e
  have hl : ρ0.length ≤ μ.length := by rw [← z.len, List.length_append]; omega
  have old : ∀ {l : Nat} {m : MO}, (μ.take ρ0.length)[l]? = some (some m) → l < ρ0.length ∧ μ[l]? = some (some m) := fun {l m} e => by
    by_cases h : l < ρ0.length
    · rw [List.getElem?_take_of_lt h] at e; exact ⟨h, e⟩
    · rw [List.getElem?_eq_none (by rw [List.length_take]; omega)] at e; cases e
  refine ⟨z.sub, by rw [List.length_take]; omega, fun l m e => ?_, fun l l' m m' a e1 e2 h1 h2 => ?_⟩
  · obtain ⟨h, e⟩ := old e
    obtain ⟨a, h1, h2, h3⟩ := z.cell l m e
    rw [List.getElem?_append_left h] at h1
    exact ⟨a, h1, h2, h3.cut (Nat.le_of_lt h)⟩
  · obtain ⟨k1, e1⟩ := old e1
    obtain ⟨k2, e2⟩ := old e2
    exact z.inj _ _ _ _ a e1 e2 (by rw [List.getElem?_append_left k1]; exact h1) (by rw [List.getElem?_append_left k2]; exact h2)
/-- the slots -/
structure Sq (α : Amb) (G : Hp) (ρ : List Addr) (σ : L2.St) (δ : Sl) : Prop where
  len : σ.length = δ.length
  get : ∀ (i : Nat) (d : D), δ[i]? = some (some d) → ∃ v, σ[i]? = some (some v) ∧ RepD α G ρ v d
theorem Sq.up {α : Amb} {G G' : Hp} {ρ ρ' : List Addr} {σ : L2.St} {δ : Sl} (s : Sq α G ρ σ δ) (u : Up G ρ G' ρ') : Sq α G' ρ' σ δ :=
  ⟨s.len, fun i d e => let ⟨v, h, r⟩ := s.get i d e; ⟨v, h, r.up u⟩⟩
theorem Sq.set {α : Amb} {G : Hp} {ρ : List Addr} {σ : L2.St} {δ : Sl} (s : Sq α G ρ σ δ) {v : V} {d : D} (r : RepD α G ρ v d) (i : Nat) : Sq α G ρ (σ.set i (some v)) (δ.set i (some d)) := by
  refine ⟨by rw [List.length_set, List.length_set]; exact s.len, fun j x e => ?_⟩
  by_cases h : i = j
  · subst h
    have hl : i < δ.length := by
      have := (List.getElem?_eq_some_iff.mp e).1
      rw [List.length_set] at this
      exact this
    rw [List.getElem?_set_self hl] at e
    cases e
    exact ⟨v, by rw [List.getElem?_set_self (by rw [s.len]; exact hl)], r⟩
  · rw [List.getElem?_set_ne h] at e ⊢
    exact s.get j x e
theorem Sq.start {α : Amb} {G : Hp} {ρ : List Addr} {N : List Str} {vs : List V} {ds : List D} (r : RepDs α G ρ vs ds) : Sq α G ρ (start N vs) (ds.map some ++ List.replicate (N.length - ds.length) none) := by
  unfold L2.start
  refine ⟨by simp [r.length], fun i d e => ?_⟩
  by_cases h : i < ds.length
  · rw [List.getElem?_append_left (by simpa using h), List.getElem?_map] at e
    cases q : ds[i]? with
    | none => rw [q] at e; cases e
    | some x =>
      rw [q] at e; cases e
      obtain ⟨v, h1, h2⟩ := r.get q
      exact ⟨v, by rw [List.getElem?_append_left (by simpa [r.length] using h), List.getElem?_map, h1]; rfl, h2⟩
  · rw [List.getElem?_append_right (by simpa using h), List.getElem?_replicate] at e
    split at e <;> cases e
inductive Out (β : Type) where
  | ok (x : β) | exc (c : Nat)
abbrev EvG (β : Type) := Sl → Mu → Option (Out β × Mu)
abbrev Ev := EvG D
abbrev EvA := EvG (List D)
abbrev EvT := EvG Bool
abbrev FSem := List D → Mu → Option (Out D × Mu)
section
variable (α : Amb) (W : WX)
/-- how a reading goes on: R v H' for what the value may be -/
def Post {β γ : Type} (rep : Hp → List Addr → γ → β → Prop) (G : Hp) (ρ : List Addr) (σ : L2.St) (Q : γ → Hp → Prop) : Option (Out β × Mu) → Prop
  | some (.ok x, μ') => ∀ v H' G' ρ', Up G ρ G' ρ' → Zn α H' G' ρ' μ' → rep G' ρ' v x → Q v H'
  | some (.exc c, μ') => ∀ H' G' ρ', Up G ρ G' ρ' → Zn α H' G' ρ' μ' → W (.ref (α.cl c)) none σ H'
  | none => False
def tG {β γ : Type} (rep : Hp → List Addr → γ → β → Prop) (ev : EvG β) : L2.St → Hp → (γ → Hp → Prop) → Prop :=
  fun σ H Q => ∃ G ρ δ μ, Zn α H G ρ μ ∧ Sq α G ρ σ δ ∧ Post α W rep G ρ σ Q (ev δ μ)
abbrev tV (ev : Ev) : TE := tG α W (RepD α) ev
abbrev tVs (ev : EvA) : TA := tG α W (RepDs α) ev
abbrev tVt (ev : EvT) : TT := tG α W (fun _ _ (b c : Bool) => b = c) ev
end
variable {α : Amb} {W : WX}
def bindG {β γ : Type} (m : Option (Out β × Mu)) (f : β → Mu → Option (Out γ × Mu)) : Option (Out γ × Mu) := match m with
  | some (.ok x, μ) => f x μ
  | some (.exc c, μ) => some (.exc c, μ)
  | none => none
theorem Post.mono {β γ : Type} {rep : Hp → List Addr → γ → β → Prop} {G : Hp} {ρ : List Addr} {σ : L2.St} {Q Q' : γ → Hp → Prop} {m : Option (Out β × Mu)} (h : Post α W rep G ρ σ Q m) (hq : ∀ v H, Q v H → Q' v H) : Post α W rep G ρ σ Q' m := by
  match m, h with
  | some (.ok x, μ'), h => exact fun v H' G' ρ' u z r => hq _ _ (h v H' G' ρ' u z r)
  | some (.exc c, μ'), h => exact h
/-- one reading behind another -/
theorem Post.bind {β γ β' γ' : Type} {rep : Hp → List Addr → γ → β → Prop} {rep' : Hp → List Addr → γ' → β' → Prop} {G : Hp} {ρ : List Addr} {σ : L2.St} {Q : γ → Hp → Prop} {Q' : γ' → Hp → Prop} {m : Option (Out β × Mu)} {f : β → Mu → Option (Out β' × Mu)}
    (h : Post α W rep' G ρ σ Q' (bindG m f))
    (go : ∀ x μ' v H' G' ρ', Up G ρ G' ρ' → Zn α H' G' ρ' μ' → rep G' ρ' v x → Post α W rep' G' ρ' σ Q' (f x μ') → Q v H') : Post α W rep G ρ σ Q m := by
  match m, h with
  | some (.ok x, μ'), h =>
    intro v H' G' ρ' u z r
    refine go x μ' v H' G' ρ' u z r ?_
    have h : Post α W rep' G ρ σ Q' (f x μ') := h
    match hf : f x μ', h with
    | some (.ok y, μ2), h => exact fun v2 H2 G2 ρ2 u2 z2 r2 => h v2 H2 G2 ρ2 (u.trans u2) z2 r2
    | some (.exc c, μ2), h => exact fun H2 G2 ρ2 u2 z2 => h H2 G2 ρ2 (u.trans u2) z2
  | some (.exc c, μ'), h => exact h
theorem PE.imp {X : Cx} {e : Expr} {t t' : TE} (h : PE X e t) (i : ∀ σ H Q, t' σ H Q → t σ H Q) : PE X e t' := ⟨fun pins s σ H Q I q => h.run pins s σ H Q I (i _ _ _ q)⟩
theorem PT.imp {X : Cx} {e : Expr} {t t' : TT} (h : PT X e t) (i : ∀ σ H Q, t' σ H Q → t σ H Q) : PT X e t' := ⟨fun pins s σ H Q I q => h.run pins s σ H Q I (i _ _ _ q)⟩
theorem PW.imp {X : Cx} {e : Expr} {t t' : TT} (h : PW X e t) (i : ∀ σ H Q, t' σ H Q → t σ H Q) : PW X e t' := ⟨fun w pins s σ H Q I q => h.run w pins s σ H Q I (i _ _ _ q)⟩
theorem PA.imp {X : Cx} {es : List Expr} {t t' : TA} (h : PA X es t) (i : ∀ σ H Q, t' σ H Q → t σ H Q) : PA X es t' := ⟨fun p pins s σ H Q I q => h.run p pins s σ H Q I (i _ _ _ q)⟩
theorem PS.imp {X : Cx} {st : Stmt} {t t' : TS} (h : PS X st t) (i : ∀ D σ H, t' D σ H → t D σ H) : PS X st t' := ⟨fun pins s σ H D I q => h.run pins s σ H D I (i _ _ _ q)⟩
theorem PSs.imp {X : Cx} {st : List Stmt} {t t' : TS} (h : PSs X st t) (i : ∀ D σ H, t' D σ H → t D σ H) : PSs X st t' := ⟨fun pins s σ H D I q => h.run pins s σ H D I (i _ _ _ q)⟩
end Vs
namespace Vs
open PySem PySem.Spec PyProof.Rows L2
theorem OpR.imp {X : Cx} {g : Value → Value → Sem Value} {r r' : R2} (h : OpR X g r) (i : ∀ x y H Q, r' x y H Q → r x y H Q) : OpR X g r' :=
  fun pins s σ H x y v u Q I rx ry q => h pins s σ H x y v u Q I rx ry (i _ _ _ _ q)
theorem UnR.imp {X : Cx} {g : Value → Sem Value} {r r' : V → Hp → VK → Prop} (h : UnR X g r) (i : ∀ x H Q, r' x H Q → r x H Q) : UnR X g r' := by
  intro pins s σ H x v Q I rx q
  exact h pins s σ H x v Q I rx (i _ _ _ q)
theorem CallR.imp {X : Cx} {f : Value} {r r' : List V → Hp → VK → Prop} (h : CallR X f r) (i : ∀ x H Q, r' x H Q → r x H Q) : CallR X f r' :=
  fun pins s σ H x v Q I rx q => h pins s σ H x v Q I rx (i _ _ _ q)
theorem IxR.imp {X : Cx} {r r' : R2} (h : IxR X r) (i : ∀ x y H Q, r' x y H Q → r x y H Q) : IxR X r' := by
  intro e1 e2 pins s σ H x y v u Q I rx ry q hs
  exact h e1 e2 pins s σ H x y v u Q I rx ry (i _ _ _ _ q) hs
theorem MtR.imp {X : Cx} {id : String} {r r' : V → List V → Hp → VK → Prop} (h : MtR X id r) (i : ∀ x y H Q, r' x y H Q → r x y H Q) : MtR X id r' :=
  fun pins s σ H x y v u Q I rx ry q => h pins s σ H x y v u Q I rx ry (i _ _ _ _ q)
section
variable {α : Amb} {W : WX} {X : Cx}
def evC (x : P) : Ev := fun _ μ => some (.ok (.p x), μ)
theorem v_const {e : Expr} {v : V} {x : P} (h : PE X e (tC v)) (r : ∀ G, Rep α G v x) : PE X e (tV α W (evC x)) :=
  PE.imp h fun σ H Q ⟨G, ρ, δ, μ, z, s, p⟩ => p v H G ρ Up.refl z (r G)
theorem v_int {i j pos} : PE X (.Constant (.int i) j pos) (tV α W (evC (.int i))) := v_const pe_int fun _ => .int i
theorem v_bl {b j pos} : PE X (.Constant (.bool b) j pos) (tV α W (evC (.bl b))) := v_const pe_bl fun _ => .bl b
theorem v_str {x j pos} : PE X (.Constant (.str x) j pos) (tV α W (evC (.str x))) := v_const pe_str fun _ => .str x
def evV (i : Nat) : Ev := fun δ μ => match δ[i]? with
  | some (some d) => some (.ok d, μ)
  | _ => none
theorem v_var' {i : Nat} {e : Expr} (h : PE X e (tVar i)) : PE X e (tV α W (evV i)) :=
  PE.imp h fun σ H Q ⟨G, ρ, δ, μ, z, s, p⟩ => by
    unfold evV at p
    cases q : δ[i]? with
    | none => rw [q] at p; exact p.elim
    | some o =>
      cases o with
      | none => rw [q] at p; exact p.elim
      | some d =>
        rw [q] at p
        obtain ⟨v, h1, h2⟩ := s.get i d q
        exact ⟨v, h1, p v H G ρ Up.refl z h2⟩
theorem v_var (i : Nat) {x : Str} {pos : Pos} (hN : X.N[i]? = some x := by rfl) (hv : Vis X.env.scope x := by first | exact Or.inl rfl | exact Or.inr (Or.inl rfl) | exact Or.inr (Or.inr rfl)) (hd : (x == ("__debug__" : Str)) = false := by decide)
    (hcd : (x == ("__classdict__" : Str)) = false := by decide) : PE X (.Name x pos) (tV α W (evV i)) := v_var' (pe_var hN hv hd hcd)
abbrev F2 := D → D → Mu → Option (D × Mu)
def okm (m : Option (D × Mu)) : Option (Out D × Mu) := match m with
  | some (d, μ) => some (.ok d, μ)
  | none => none
def evBin (f : F2) (a b : Ev) : Ev := fun δ μ => bindG (a δ μ) fun x μ1 => bindG (b δ μ1) fun y μ2 => okm (f x y μ2)
/-- what is asked of a value's making -/
def Fin1 (α : Amb) (G : Hp) (ρ : List Addr) (Q : VK) : Option (D × Mu) → Prop
  | some (d, μ') => ∀ v H' G' ρ', Up G ρ G' ρ' → Zn α H' G' ρ' μ' → RepD α G' ρ' v d → Q v H'
  | none => False
theorem Post.fin {G : Hp} {ρ : List Addr} {σ : L2.St} {Q : VK} {m : Option (D × Mu)} (h : Post α W (RepD α) G ρ σ Q (okm m)) : Fin1 α G ρ Q m := by
  match m, h with
  | some (d, μ'), h => exact h
def r2V (α : Amb) (f : F2) : R2 := fun x y H Q => ∃ G ρ μ dx dy, Zn α H G ρ μ ∧ RepD α G ρ x dx ∧ RepD α G ρ y dy ∧ Fin1 α G ρ Q (f dx dy μ)
theorem bin_imp {f : F2} {ea eb : Ev} {r : R2} {σ : L2.St} {H : Hp} {Q : VK} (i : ∀ x y H Q, r2V α f x y H Q → r x y H Q) (h : tV α W (evBin f ea eb) σ H Q) : tOp r (tV α W ea) (tV α W eb) σ H Q := by
  obtain ⟨G, ρ, δ, μ, z, s, p⟩ := h
  refine ⟨G, ρ, δ, μ, z, s, Post.bind p fun x μ1 v H1 G1 ρ1 u z1 r1 p1 => ?_⟩
  refine ⟨G1, ρ1, δ, μ1, z1, s.up u, Post.bind p1 fun y μ2 w H2 G2 ρ2 u2 z2 r2 p2 => ?_⟩
  exact i _ _ _ _ ⟨G2, ρ2, μ2, x, y, z2, r1.up u2, r2, p2.fin⟩
section
variable {a b : Expr} {ea eb : Ev} {pos : Pos} {f : F2}
theorem v_bin {op : Operator} (ho : OpR X (binaryOp op) (r2V α f)) (ha : PE X a (tV α W ea)) (hb : PE X b (tV α W eb)) : PE X (.BinOp a op b pos) (tV α W (evBin f ea eb)) :=
  PE.imp (pe_op ho ha hb) fun σ H Q h => bin_imp (fun _ _ _ _ q => q) h
theorem v_cmp {op : CmpOp} (ho : OpR X (compareOp op) (r2V α f)) (ha : PE X a (tV α W ea)) (hb : PE X b (tV α W eb)) (hm : behindInMarks op b = false := by first | exact nomark _ | rfl) : PE X (.Compare a [op] [b] pos) (tV α W (evBin f ea eb)) :=
  PE.imp (pe_cmpR ho ha hb hm) fun σ H Q h => bin_imp (fun _ _ _ _ q => q) h
theorem v_ix (ho : IxR X (r2V α f)) (ha : PE X a (tV α W ea)) (hb : PE X b (tV α W eb)) (hs : PlainIx b := by exact fun _ _ => rfl) : PE X (.Subscript a b pos) (tV α W (evBin f ea eb)) :=
  PE.imp (pe_ix ho ha hb hs) fun σ H Q h => bin_imp (fun _ _ _ _ q => q) h
end
/-- ints to an int -/
def fII (C : Int → Int → Bool) (g : Int → Int → P) : F2 := fun x y μ => match x, y with
  | .p (.int i), .p (.int j) => if C i j = true then some (.p (g i j), μ) else none
  | _, _ => none
theorem repInt {G : Hp} {x : V} {i : Int} (h : Rep α G x (.int i)) : x = .int i := by cases h; rfl
theorem repStr {G : Hp} {x : V} {i : Str} (h : Rep α G x (.str i)) : x = .str i := by cases h; rfl
theorem repBl {G : Hp} {x : V} {i : Bool} (h : Rep α G x (.bl i)) : x = .bl i := by cases h; rfl
theorem repNon {G : Hp} {x : V} (h : Rep α G x .non) : x = .non := by cases h; rfl
theorem fII_imp {C : Int → Int → Bool} {g : Int → Int → P} {C' : Int → Int → Prop} {gv : Int → Int → V} (hC : ∀ i j, C i j = true → C' i j) (hg : ∀ i j G, Rep α G (gv i j) (g i j)) {x y : V} {H : Hp} {Q : VK}
    (h : r2V α (fII C g) x y H Q) : rI C' gv x y H Q := by
  obtain ⟨G, ρ, μ, dx, dy, z, rx, ry, q⟩ := h
  unfold fII at q
  split at q
  · rename_i i j
    split at q
    · rename_i c
      exact ⟨i, j, repInt rx, repInt ry, hC _ _ c, q _ H G ρ Up.refl z (hg i j G)⟩
    · exact q.elim
  · exact q.elim
theorem fII_imp0 {g : Int → Int → P} {gv : Int → Int → V} (hg : ∀ i j G, Rep α G (gv i j) (g i j)) {x y : V} {H : Hp} {Q : VK}
    (h : r2V α (fII (fun _ _ => true) g) x y H Q) : rI0 gv x y H Q := by
  obtain ⟨i, j, a, b, _, c⟩ := fII_imp (C' := fun _ _ => True) (fun _ _ _ => trivial) hg h
  exact ⟨i, j, a, b, c⟩
abbrev fAdd : F2 := fII (fun _ _ => true) fun i j => .int (i + j)
abbrev fSub : F2 := fII (fun _ _ => true) fun i j => .int (i - j)
/-- the sizes of a product's factors -/
def mulOk (i j : Int) : Bool := decide (i.natAbs.log2 + j.natAbs.log2 < 1000000)
def divOk (i j : Int) : Bool := decide (j ≠ 0) && decide (j.natAbs.log2 < 9000)
abbrev fMul : F2 := fII mulOk fun i j => .int (i * j)
abbrev fDiv : F2 := fII divOk fun i j => .int (i.fdiv j)
abbrev fMod : F2 := fII (fun _ j => decide (j ≠ 0)) fun i j => .int (i.fmod j)
theorem o_add : OpR X (binaryOp .Add) (r2V α fAdd) := OpR.imp op_add fun _ _ _ _ h => fII_imp0 (fun i j G => .int _) h
theorem o_sub : OpR X (binaryOp .Sub) (r2V α fSub) := OpR.imp op_sub fun _ _ _ _ h => fII_imp0 (fun i j G => .int _) h
theorem o_mul : OpR X (binaryOp .Mult) (r2V α fMul) := OpR.imp op_mulW fun _ _ _ _ h => fII_imp (fun i j c => by
  unfold mulOk at c
  have c := of_decide_eq_true c
  exact c) (fun i j G => .int _) h
theorem op_fdivG : OpR X (binaryOp .FloorDiv) (rI (fun _ j => j ≠ 0 ∧ j.natAbs.log2 < 9000) fun i j => .int (i.fdiv j)) := opI fun _ _ _ _ _ _ _ hc q => floordiv_int hc.1 q (.inl (PyProof.noPylong_of_log2 hc.2))
theorem o_div : OpR X (binaryOp .FloorDiv) (r2V α fDiv) := OpR.imp op_fdivG fun _ _ _ _ h => fII_imp (fun i j c => by
  unfold divOk at c
  rw [Bool.and_eq_true] at c
  exact ⟨of_decide_eq_true c.1, of_decide_eq_true c.2⟩) (fun i j G => .int _) h
theorem o_mod : OpR X (binaryOp .Mod) (r2V α fMod) := OpR.imp op_modN fun _ _ _ _ h => fII_imp (fun i j c => of_decide_eq_true c) (fun i j G => .int _) h
abbrev fLt : F2 := fII (fun _ _ => true) fun i j => .bl (decide (i < j))
abbrev fLe : F2 := fII (fun _ _ => true) fun i j => .bl (decide (i ≤ j))
abbrev fGt : F2 := fII (fun _ _ => true) fun i j => .bl (decide (j < i))
abbrev fGe : F2 := fII (fun _ _ => true) fun i j => .bl (decide (j ≤ i))
theorem o_lt : OpR X (compareOp .Lt) (r2V α fLt) := OpR.imp op_lt fun _ _ _ _ h => fII_imp0 (fun i j G => .bl _) h
theorem o_le : OpR X (compareOp .LtE) (r2V α fLe) := OpR.imp op_le fun _ _ _ _ h => fII_imp0 (fun i j G => .bl _) h
theorem o_gt : OpR X (compareOp .Gt) (r2V α fGt) := OpR.imp op_gt fun _ _ _ _ h => fII_imp0 (fun i j G => .bl _) h
theorem o_ge : OpR X (compareOp .GtE) (r2V α fGe) := OpR.imp op_ge fun _ _ _ _ h => fII_imp0 (fun i j G => .bl _) h
mutual
def toPD : P → Option PyData
  | .non => some .none
  | .bl b => some (.bool b)
  | .int i => some (.int i)
  | .str s => some (.str s)
  | .tup xs => (toPDs xs).map .tuple
  | .lst xs => (toPDs xs).map .list
  | .wl xs => (toPDs xs).map .list
  | .obj _ _ => none
def toPDs : List P → Option (List PyData)
  | [] => some []
  | x :: xs => match toPD x, toPDs xs with
    | some d, some ds => some (d :: ds)
    | _, _ => none
end
mutual
theorem rep_dp {G H : Hp} (s : Same G H) : ∀ {v : V} {x : P} {d : PyData}, Rep α G v x → toPD x = some d → Dp α.K H v d
  | _, _, d, .non, e => by simp [toPD] at e; subst e; exact .non
  | _, _, d, .bl b, e => by simp [toPD] at e; subst e; exact .bl b
  | _, _, d, .int i, e => by simp [toPD] at e; subst e; exact .int i
  | _, _, d, .str z, e => by simp [toPD] at e; subst e; exact .str z
  | _, _, d, .tup h r, e => by
    simp only [toPD, Option.map_eq_some_iff] at e
    obtain ⟨ds, e, rfl⟩ := e
    exact .tup (seqT s h) (reps_dp s r e)
  | _, _, d, .lst h r, e => by
    simp only [toPD, Option.map_eq_some_iff] at e
    obtain ⟨ds, e, rfl⟩ := e
    exact .lst (SqL.of (s _ _ h)) (reps_dp s r e)
  | _, _, d, .wl h r, e => by
    simp only [toPD, Option.map_eq_some_iff] at e
    obtain ⟨ds, e, rfl⟩ := e
    exact .lst (seqL s h) (reps_dp s r e)
  | _, _, d, .obj _ _ _, e => by simp [toPD] at e
theorem reps_dp {G H : Hp} (s : Same G H) : ∀ {vs : List V} {xs : List P} {ds : List PyData}, Reps α G vs xs → toPDs xs = some ds → DpAll α.K H vs ds
  | _, _, ds, .nil, e => by simp [toPDs] at e; subst e; exact .nil
  | _, _, ds, .cons h t, e => by
    simp only [toPDs] at e
    split at e
    · rename_i d ds' h1 h2
      cases e
      exact .cons (rep_dp s h h1) (reps_dp s t h2)
    · cases e
end
/-- the list at a place -/
def cellL (μ : Mu) (l : Nat) : Option (List P) := match μ[l]? with
  | some (some (.lst xs)) => some xs
  | _ => none
theorem cellL_some {μ : Mu} {l : Nat} {xs : List P} (h : cellL μ l = some xs) : μ[l]? = some (some (.lst xs)) := by
  unfold cellL at h
  split at h
  · rename_i ys e; cases h; exact e
  · cases h
/-- the data that a value shows: itself, or what stands at its place -/
def view (μ : Mu) : D → Option P
  | .p x => some x
  | .loc l => (cellL μ l).map .lst
theorem view_loc {μ : Mu} {l : Nat} {x : P} (h : view μ (.loc l) = some x) : ∃ xs, x = .lst xs ∧ μ[l]? = some (some (.lst xs)) := by
  have h : (cellL μ l).map P.lst = some x := h
  rw [Option.map_eq_some_iff] at h
  obtain ⟨xs, h1, rfl⟩ := h
  exact ⟨xs, rfl, cellL_some h1⟩
theorem view_dp {H G : Hp} {ρ : List Addr} {μ : Mu} (z : Zn α H G ρ μ) {v : V} {d : D} {x : P} {y : PyData} (r : RepD α G ρ v d) (e : view μ d = some x) (h : toPD x = some y) : Dp α.K H v y := by
  cases d with
  | p x' => cases e; exact rep_dp z.sub r h
  | loc l =>
    obtain ⟨xs, rfl, hx⟩ := view_loc e
    obtain ⟨a, rfl, ha⟩ := r
    obtain ⟨a', h1, h2, vs, h3, h4⟩ := z.cell l _ hx
    rw [ha] at h1; cases h1
    simp only [toPD, Option.map_eq_some_iff] at h
    obtain ⟨ds, h, rfl⟩ := h
    exact .lst (SqL.of h3) (reps_dp z.sub h4 h)
/-- == of two plain values of one kind -/
def eqAt : P → P → Option Bool
  | .int i, .int j => some (decide (i = j))
  | .str i, .str j => some (decide (i = j))
  | .bl i, .bl j => some (decide (i = j))
  | .non, .non => some true
  | _, _ => none
def eqDeep (x y : P) : Option Bool := match toPD x, toPD y with
  | some d, some e => if SeqAt.shaped d && SeqAt.shaped e then some (PyData.eqv d e) else none
  | _, _ => none
def eqP (x y : P) : Option Bool := match eqAt x y with
  | some b => some b
  | none => eqDeep x y
def fEqG (neg : Bool) : F2 := fun x y μ => match view μ x, view μ y with
  | some x, some y => match eqP x y with
    | some b => some (.p (.bl (if neg then !b else b)), μ)
    | none => none
  | _, _ => none
abbrev fEq : F2 := fEqG false
abbrev fNe : F2 := fEqG true
theorem view_at {H G : Hp} {ρ : List Addr} {μ : Mu} (z : Zn α H G ρ μ) {v w : V} {d e : D} {x y : P} {b : Bool} (r : RepD α G ρ v d) (r2 : RepD α G ρ w e) (h : view μ d = some x) (h2 : view μ e = some y) (hb : eqAt x y = some b) : scal v w = true ∧ decide (v = w) = b := by
  have hx : d = .p x := by
    cases d with
    | p x' => cases h; rfl
    | loc l => obtain ⟨xs, rfl, _⟩ := view_loc h; cases y <;> cases hb
  have hy : e = .p y := by
    cases e with
    | p x' => cases h2; rfl
    | loc l => obtain ⟨xs, rfl, _⟩ := view_loc h2; cases x <;> cases hb
  subst hx; subst hy
  cases x <;> cases y <;> first | (cases hb; done) | skip
  all_goals (cases r; cases r2; cases hb; refine ⟨rfl, ?_⟩)
  all_goals first
    | rfl
    | (rename_i i j; by_cases q : i = j <;> simp [q])
theorem fEq_imp {neg : Bool} {x y : V} {H : Hp} {Q : VK} (h : r2V α (fEqG neg) x y H Q) : (scal x y = true ∧ Q (.bl (if neg then !decide (x = y) else decide (x = y))) H) ∨ ∃ d e, Dp α.K H x d ∧ Dp α.K H y e ∧ SeqAt.shaped d = true ∧ SeqAt.shaped e = true ∧ Q (.bl (if neg then !PyData.eqv d e else PyData.eqv d e)) H := by
  obtain ⟨G, ρ, μ, dx, dy, z, rx, ry, q⟩ := h
  unfold fEqG at q
  split at q
  · rename_i x' y' h1 h2
    split at q
    · rename_i b hb
      unfold eqP at hb
      split at hb
      · rename_i b' hb'
        cases hb
        obtain ⟨h3, h4⟩ := view_at z rx ry h1 h2 hb'
        exact .inl ⟨h3, by rw [h4]; exact q _ H G ρ Up.refl z (.bl _)⟩
      · unfold eqDeep at hb
        split at hb
        · rename_i d e hd he
          split at hb
          · rename_i hs
            cases hb
            rw [Bool.and_eq_true] at hs
            exact .inr ⟨d, e, view_dp z rx h1 hd, view_dp z ry h2 he, hs.1, hs.2, q _ H G ρ Up.refl z (.bl _)⟩
          · cases hb
        · cases hb
    · exact q.elim
  · exact q.elim
theorem o_eq (hu : X.A.units + 64 < cLine) (hK : X.K = α.K) : OpR X (compareOp .Eq) (r2V α fEq) := OpR.imp (op_eq.or (op_eqD hu)) fun _ _ _ _ h => by rw [hK]; exact fEq_imp h
theorem o_ne (hu : X.A.units + 64 < cLine) (hK : X.K = α.K) : OpR X (compareOp .NotEq) (r2V α fNe) := OpR.imp (op_ne.or (op_neD hu)) fun _ _ _ _ h => by rw [hK]; exact fEq_imp h
/-- x is None -/
def isNon : D → Bool
  | .p .non => true
  | _ => false
def fIs (neg : Bool) : F2 := fun x y μ => match y with
  | .p .non => some (.p (.bl (if neg then !isNon x else isNon x)), μ)
  | _ => none
def fIx : F2 := fun x y μ => match view μ x, y with
  | some (.lst xs), .p (.int i) => (atI xs i).map fun v => (.p v, μ)
  | some (.wl xs), .p (.int i) => (atI xs i).map fun v => (.p v, μ)
  | some (.tup xs), .p (.int i) => (atI xs i).map fun v => (.p v, μ)
  | some (.str z), .p (.int i) => if z.length ≤ sizeLine then (atI z.cps.toList i).map fun c => (.p (.str ⟨#[c]⟩), μ) else none
  | _, _ => none
/-- a value shows a list -/
theorem view_lst {H G : Hp} {ρ : List Addr} {μ : Mu} (z : Zn α H G ρ μ) {v : V} {d : D} {xs : List P} (r : RepD α G ρ v d) (e : view μ d = some (.lst xs)) : ∃ a vs, v = .ref a ∧ H a = some (.lst vs) ∧ Reps α G vs xs := by
  cases d with
  | p x' => cases e; cases r with
    | lst h r => exact ⟨_, _, rfl, z.sub _ _ h, r⟩
  | loc l =>
    obtain ⟨xs', e', hx⟩ := view_loc e
    cases e'
    obtain ⟨a, rfl, ha⟩ := r
    obtain ⟨a', h1, h2, vs, h3, h4⟩ := z.cell l _ hx
    rw [ha] at h1; cases h1
    exact ⟨a, vs, rfl, h3, h4⟩
theorem view_tup {H G : Hp} {ρ : List Addr} {μ : Mu} (z : Zn α H G ρ μ) {v : V} {d : D} {xs : List P} (r : RepD α G ρ v d) (e : view μ d = some (.tup xs)) : ∃ a vs, v = .ref a ∧ SqT α.K H a vs ∧ Reps α G vs xs := by
  cases d with
  | p x' => cases e; cases r with
    | tup h r => exact ⟨_, _, rfl, seqT z.sub h, r⟩
  | loc l =>
    obtain ⟨xs', e', hx⟩ := view_loc e
    cases e'
theorem view_wl {H G : Hp} {ρ : List Addr} {μ : Mu} (z : Zn α H G ρ μ) {v : V} {d : D} {xs : List P} (r : RepD α G ρ v d) (e : view μ d = some (.wl xs)) : ∃ a vs, v = .ref a ∧ SqL α.K H a vs ∧ Reps α G vs xs := by
  cases d with
  | p x' => cases e; cases r with
    | wl h r => exact ⟨_, _, rfl, seqL z.sub h, r⟩
  | loc l =>
    obtain ⟨xs', e', hx⟩ := view_loc e
    cases e'
theorem view_str {H G : Hp} {ρ : List Addr} {μ : Mu} (z : Zn α H G ρ μ) {v : V} {d : D} {x : Str} (r : RepD α G ρ v d) (e : view μ d = some (.str x)) : v = .str x := by
  cases d with
  | p x' => cases e; exact repStr r
  | loc l =>
    obtain ⟨xs', e', hx⟩ := view_loc e
    cases e'
theorem reps_at {G : Hp} {vs : List V} {xs : List P} {i : Int} {x : P} (r : Reps α G vs xs) (h : atI xs i = some x) : ∃ v, atI vs i = some v ∧ Rep α G v x := by
  unfold atI at h ⊢
  rw [r.length]
  cases q : ixN xs.length i with
  | none => rw [q] at h; cases h
  | some j =>
    rw [q] at h
    obtain ⟨v, h1, h2⟩ := r.get (show xs[j]? = some x from h)
    exact ⟨v, h1, h2⟩
theorem o_ix (hK : X.K = α.K) : IxR X (r2V α fIx) := IxR.imp ix_seq fun x y H Q h => by
  obtain ⟨G, ρ, μ, dx, dy, z, rx, ry, q⟩ := h
  unfold fIx at q
  rw [hK]
  split at q
  · rename_i xs i hv
    cases hi : atI xs i with
    | none => rw [hi] at q; exact q.elim
    | some v =>
      rw [hi] at q
      obtain ⟨a, vs, rfl, h1, h2⟩ := view_lst z rx hv
      obtain ⟨u, h3, h4⟩ := reps_at h2 hi
      exact .inl ⟨a, vs, i, u, rfl, repInt ry, SqL.of h1, h3, q u H G ρ Up.refl z h4⟩
  · rename_i xs i hv
    cases hi : atI xs i with
    | none => rw [hi] at q; exact q.elim
    | some v =>
      rw [hi] at q
      obtain ⟨a, vs, rfl, h1, h2⟩ := view_wl z rx hv
      obtain ⟨u, h3, h4⟩ := reps_at h2 hi
      exact .inl ⟨a, vs, i, u, rfl, repInt ry, h1, h3, q u H G ρ Up.refl z h4⟩
  · rename_i xs i hv
    cases hi : atI xs i with
    | none => rw [hi] at q; exact q.elim
    | some v =>
      rw [hi] at q
      obtain ⟨a, vs, rfl, h1, h2⟩ := view_tup z rx hv
      obtain ⟨u, h3, h4⟩ := reps_at h2 hi
      exact .inr (.inl ⟨a, vs, i, u, rfl, repInt ry, h1, h3, q u H G ρ Up.refl z h4⟩)
  · rename_i zz i hv
    split at q
    · rename_i hl
      cases hi : atI zz.cps.toList i with
      | none => rw [hi] at q; exact q.elim
      | some c =>
        rw [hi] at q
        have e := view_str z rx hv
        subst e
        exact .inr (.inr ⟨zz, i, c, rfl, repInt ry, hl, hi, q _ H G ρ Up.refl z (.str _)⟩)
    · exact q.elim
  · exact q.elim
abbrev F1 := D → Mu → Option (D × Mu)
def evUn (f : F1) (a : Ev) : Ev := fun δ μ => bindG (a δ μ) fun x μ1 => okm (f x μ1)
def r1V (α : Amb) (f : F1) : V → Hp → VK → Prop := fun x H Q => ∃ G ρ μ dx, Zn α H G ρ μ ∧ RepD α G ρ x dx ∧ Fin1 α G ρ Q (f dx μ)
theorem un_imp {f : F1} {ea : Ev} {σ : L2.St} {H : Hp} {Q : VK} (h : tV α W (evUn f ea) σ H Q) : tV α W ea σ H (fun x H1 => r1V α f x H1 Q) := by
  obtain ⟨G, ρ, δ, μ, z, s, p⟩ := h
  exact ⟨G, ρ, δ, μ, z, s, Post.bind p fun x μ1 v H1 G1 ρ1 u z1 r1 p1 => ⟨G1, ρ1, μ1, x, z1, r1, p1.fin⟩⟩
theorem v_un {op : UnaryOp} {a : Expr} {ea : Ev} {pos : Pos} {f : F1} (ho : UnR X (unaryOp op) (r1V α f)) (ha : PE X a (tV α W ea)) : PE X (.UnaryOp op a pos) (tV α W (evUn f ea)) :=
  PE.imp (pe_un ho ha) fun σ H Q h => un_imp h
def fNeg : F1 := fun x μ => match x with
  | .p (.int i) => some (.p (.int (-i)), μ)
  | _ => none
theorem o_neg : UnR X (unaryOp .USub) (r1V α fNeg) := UnR.imp un_neg fun x H Q h => by
  obtain ⟨G, ρ, μ, dx, z, rx, q⟩ := h
  unfold fNeg at q
  split at q
  · rename_i i
    exact ⟨i, repInt rx, q _ H G ρ Up.refl z (.int _)⟩
  · exact q.elim
def evB (a : Ev) : EvT := fun δ μ => bindG (a δ μ) fun x μ1 => match x with
  | .p (.bl b) => some (.ok b, μ1)
  | _ => none
theorem v_test {e : Expr} {ea : Ev} (h : PE X e (tV α W ea)) (he : ∀ whole, isTrue e X.env whole = (do let v ← whole; standAt e.pos; holding [v] (truthy v)) := by intro _; rfl) : PT X e (tVt α W (evB ea)) :=
  PT.imp (pt_val h he) fun σ H Q ⟨G, ρ, δ, μ, z, s, p⟩ => ⟨G, ρ, δ, μ, z, s, Post.bind p fun x μ1 v H1 G1 ρ1 u z1 r1 p1 => by
    split at p1
    · rename_i b
      exact ⟨b, repBl r1, p1 b H1 G1 ρ1 Up.refl z1 rfl⟩
    · exact p1.elim⟩
theorem v_tcmp {op : CmpOp} {a b : Expr} {ea eb : Ev} {pos : Pos} {f : F2} (ho : OpR X (compareOp op) (r2V α f)) (ha : PE X a (tV α W ea)) (hb : PE X b (tV α W eb)) (hm : behindInMarks op b = false := by first | exact nomark _ | rfl) : PT X (.Compare a [op] [b] pos) (tVt α W (evB (evBin f ea eb))) :=
  PT.imp (pt_cmpR ho ha hb hm) fun σ H Q ⟨G, ρ, δ, μ, z, s, p⟩ => bin_imp (Q := fun x H' => ∃ k, x = .bl k ∧ Q k H') (fun _ _ _ _ q => q) ⟨G, ρ, δ, μ, z, s, Post.bind p fun x μ1 v H1 G1 ρ1 u z1 r1 p1 => by
    split at p1
    · rename_i b
      exact ⟨b, repBl r1, p1 b H1 G1 ρ1 Up.refl z1 rfl⟩
    · exact p1.elim⟩
theorem reps_empty {G : Hp} {vs : List V} {xs : List P} (r : Reps α G vs xs) : vs.isEmpty = xs.isEmpty := by cases r <;> rfl
def tNotV (a : EvT) : EvT := fun δ μ => bindG (a δ μ) fun b μ1 => some (.ok (!b), μ1)
theorem v_tnot {a : Expr} {ea : EvT} {pos : Pos} (h : PT X a (tVt α W ea)) : PT X (.UnaryOp .Not a pos) (tVt α W (tNotV ea)) :=
  PT.imp (pt_not h) fun σ H Q ⟨G, ρ, δ, μ, z, s, p⟩ => ⟨G, ρ, δ, μ, z, s, Post.bind p fun x μ1 v H1 G1 ρ1 u z1 r1 p1 => by
    subst r1
    exact p1 (!v) H1 G1 ρ1 Up.refl z1 rfl⟩
def tAndV' (a b : EvT) : EvT := fun δ μ => bindG (a δ μ) fun x μ1 => if x = true then b δ μ1 else some (.ok false, μ1)
def tOrV' (a b : EvT) : EvT := fun δ μ => bindG (a δ μ) fun x μ1 => if x = true then some (.ok true, μ1) else b δ μ1
theorem tg_of {β γ : Type} {rep : Hp → List Addr → γ → β → Prop} {ev : EvG β} {G G' : Hp} {ρ ρ' : List Addr} {σ : L2.St} {H : Hp} {δ : Sl} {μ : Mu} {Q : γ → Hp → Prop} (z : Zn α H G' ρ' μ) (s : Sq α G ρ σ δ) (u : Up G ρ G' ρ') (p : Post α W rep G' ρ' σ Q (ev δ μ)) : tG α W rep ev σ H Q := ⟨G', ρ', δ, μ, z, s.up u, p⟩
section
variable {a b : Expr} {rest : List Expr} {ea eb : EvT} {pos : Pos}
theorem v_and1 (h : PT X a (tVt α W ea)) : PW X (.BoolOp .And [a] pos) (tVt α W ea) := pw_and1 h
theorem v_or1 (h : PT X a (tVt α W ea)) : PW X (.BoolOp .Or [a] pos) (tVt α W ea) := pw_or1 h
theorem v_tand (ha : PT X a (tVt α W ea)) (hb : PW X (.BoolOp .And (b :: rest) pos) (tVt α W eb)) : PW X (.BoolOp .And (a :: b :: rest) pos) (tVt α W (tAndV' ea eb)) :=
  PW.imp (pw_and ha hb) fun σ H Q ⟨G, ρ, δ, μ, z, s, p⟩ => ⟨G, ρ, δ, μ, z, s, Post.bind p fun x μ1 v H1 G1 ρ1 u z1 r1 p1 => by
    subst r1
    cases v with
    | true => exact iteT (tg_of z1 s u p1)
    | false => exact iteF (p1 false H1 G1 ρ1 Up.refl z1 rfl)⟩
theorem v_tor (ha : PT X a (tVt α W ea)) (hb : PW X (.BoolOp .Or (b :: rest) pos) (tVt α W eb)) : PW X (.BoolOp .Or (a :: b :: rest) pos) (tVt α W (tOrV' ea eb)) :=
  PW.imp (pw_or ha hb) fun σ H Q ⟨G, ρ, δ, μ, z, s, p⟩ => ⟨G, ρ, δ, μ, z, s, Post.bind p fun x μ1 v H1 G1 ρ1 u z1 r1 p1 => by
    subst r1
    cases v with
    | false => exact iteF (tg_of z1 s u p1)
    | true => exact iteT (p1 true H1 G1 ρ1 Up.refl z1 rfl)⟩
end
def evAnd (a b : Ev) : Ev := fun δ μ => bindG (a δ μ) fun x μ1 => match x with
  | .p (.bl true) => b δ μ1
  | .p (.bl false) => some (.ok (.p (.bl false)), μ1)
  | _ => none
def evOr (a b : Ev) : Ev := fun δ μ => bindG (a δ μ) fun x μ1 => match x with
  | .p (.bl false) => b δ μ1
  | .p (.bl true) => some (.ok (.p (.bl true)), μ1)
  | _ => none
def fNot : F1 := fun x μ => match x with
  | .p (.bl b) => some (.p (.bl (!b)), μ)
  | _ => none
section
variable {a b : Expr} {rest : List Expr} {ea eb : Ev} {pos : Pos}
theorem v_one {op} (h : PE X a (tV α W ea)) : PE X (.BoolOp op [a] pos) (tV α W ea) := pe_one h
theorem v_and (ha : PE X a (tV α W ea)) (hb : PE X (.BoolOp .And (b :: rest) pos) (tV α W eb)) : PE X (.BoolOp .And (a :: b :: rest) pos) (tV α W (evAnd ea eb)) :=
  PE.imp (pe_and ha hb) fun σ H Q ⟨G, ρ, δ, μ, z, s, p⟩ => ⟨G, ρ, δ, μ, z, s, Post.bind p fun x μ1 v H1 G1 ρ1 u z1 r1 p1 => by
    split at p1
    · exact ⟨true, repBl r1, iteT (tg_of z1 s u p1)⟩
    · exact ⟨false, repBl r1, iteF (p1 _ H1 G1 ρ1 Up.refl z1 (.bl _))⟩
    · exact p1.elim⟩
theorem v_or (ha : PE X a (tV α W ea)) (hb : PE X (.BoolOp .Or (b :: rest) pos) (tV α W eb)) : PE X (.BoolOp .Or (a :: b :: rest) pos) (tV α W (evOr ea eb)) :=
  PE.imp (pe_or ha hb) fun σ H Q ⟨G, ρ, δ, μ, z, s, p⟩ => ⟨G, ρ, δ, μ, z, s, Post.bind p fun x μ1 v H1 G1 ρ1 u z1 r1 p1 => by
    split at p1
    · exact ⟨false, repBl r1, iteF (tg_of z1 s u p1)⟩
    · exact ⟨true, repBl r1, iteT (p1 _ H1 G1 ρ1 Up.refl z1 (.bl _))⟩
    · exact p1.elim⟩
theorem v_not (ha : PE X a (tV α W ea)) : PE X (.UnaryOp .Not a pos) (tV α W (evUn fNot ea)) :=
  PE.imp (pe_not ha) fun σ H Q ⟨G, ρ, δ, μ, z, s, p⟩ => ⟨G, ρ, δ, μ, z, s, Post.bind p fun x μ1 v H1 G1 ρ1 u z1 r1 p1 => by
    have p1 := p1.fin
    unfold fNot at p1
    split at p1
    · exact ⟨_, repBl r1, p1 _ H1 G1 ρ1 Up.refl z1 (.bl _)⟩
    · exact p1.elim⟩
def evIf (c : EvT) (a b : Ev) : Ev := fun δ μ => bindG (c δ μ) fun x μ1 => if x = true then a δ μ1 else b δ μ1
theorem v_ifExp {c : Expr} {ec : EvT} (hc : PT X c (tVt α W ec)) (ha : PE X a (tV α W ea)) (hb : PE X b (tV α W eb)) : PE X (.IfExp c a b pos) (tV α W (evIf ec ea eb)) :=
  PE.imp (pe_ifExp hc ha hb) fun σ H Q ⟨G, ρ, δ, μ, z, s, p⟩ => ⟨G, ρ, δ, μ, z, s, Post.bind p fun x μ1 v H1 G1 ρ1 u z1 r1 p1 => by
    subst r1
    cases v with
    | true => exact iteT (tg_of z1 s u p1)
    | false => exact iteF (tg_of z1 s u p1)⟩
end
def evNil : EvA := fun _ μ => some (.ok [], μ)
def evCons (a : Ev) (r : EvA) : EvA := fun δ μ => bindG (a δ μ) fun x μ1 => bindG (r δ μ1) fun xs μ2 => some (.ok (x :: xs), μ2)
theorem va_nil : PA X [] (tVs α W evNil) := PA.imp pa_nil fun σ H Q ⟨G, ρ, δ, μ, z, s, p⟩ => p [] H G ρ Up.refl z .nil
theorem va_cons {e : Expr} {es : List Expr} {ea : Ev} {er : EvA} (ha : PE X e (tV α W ea)) (hr : PA X es (tVs α W er)) (hs : starEach (e :: es) X.env = (false, eval e X.env) :: starEach es X.env := by rfl) : PA X (e :: es) (tVs α W (evCons ea er)) :=
  PA.imp (pa_cons ha hr hs) fun σ H Q ⟨G, ρ, δ, μ, z, s, p⟩ => ⟨G, ρ, δ, μ, z, s, Post.bind p fun x μ1 v H1 G1 ρ1 u z1 r1 p1 =>
    ⟨G1, ρ1, δ, μ1, z1, s.up u, Post.bind p1 fun xs μ2 vs H2 G2 ρ2 u2 z2 r2 p2 => p2 (v :: vs) H2 G2 ρ2 Up.refl z2 (.cons (r1.up u2) r2)⟩⟩
/-- a value, taken into the ground if it stands at a place -/
def toP (μ : Mu) : D → Option (P × Mu)
  | .p x => some (x, μ)
  | .loc l => (cellL μ l).map fun xs => (.lst xs, μ.set l none)
def toPs (μ : Mu) : List D → Option (List P × Mu)
  | [] => some ([], μ)
  | d :: ds => match toP μ d with
    | some (x, μ1) => match toPs μ1 ds with
      | some (xs, μ2) => some (x :: xs, μ2)
      | none => none
    | none => none
theorem toP_ok {H G : Hp} {ρ : List Addr} {μ μ' : Mu} (z : Zn α H G ρ μ) {v : V} {d : D} {x : P} (r : RepD α G ρ v d) (e : toP μ d = some (x, μ')) : ∃ G', Up G ρ G' ρ ∧ Zn α H G' ρ μ' ∧ Rep α G' v x := by
  cases d with
  | p y => cases e; exact ⟨G, Up.refl, z, r⟩
  | loc l =>
    have e : (cellL μ l).map (fun xs => (P.lst xs, μ.set l none)) = some (x, μ') := e
    rw [Option.map_eq_some_iff] at e
    obtain ⟨xs, hx, e⟩ := e
    cases e
    have hx := cellL_some hx
    obtain ⟨a, rfl, ha⟩ := r
    obtain ⟨a', h1, h2, vs, h3, h4⟩ := z.cell l _ hx
    rw [ha] at h1; cases h1
    obtain ⟨z', g⟩ := z.freeze hx ha h3
    exact ⟨upd G a (.lst vs), up_new g, z', .lst upd_same (h4.mono (same_upd g))⟩
theorem toPs_ok {H : Hp} {ρ : List Addr} : ∀ {ds : List D} {G : Hp} {μ μ' : Mu} {vs : List V} {xs : List P}, Zn α H G ρ μ → RepDs α G ρ vs ds → toPs μ ds = some (xs, μ') → ∃ G', Up G ρ G' ρ ∧ Zn α H G' ρ μ' ∧ Reps α G' vs xs
  | [], G, μ, μ', _, xs, z, .nil, e => by cases e; exact ⟨G, Up.refl, z, .nil⟩
  | d :: ds, G, μ, μ', _, xs, z, .cons r t, e => by
    unfold toPs at e
    split at e
    · rename_i x μ1 h1
      obtain ⟨G1, u1, z1, r1⟩ := toP_ok z r h1
      split at e
      · rename_i xs' μ2 h2
        cases e
        obtain ⟨G2, u2, z2, r2⟩ := toPs_ok z1 (t.up u1) h2
        exact ⟨G2, u1.trans u2, z2, .cons (r1.mono u2.same) r2⟩
      · cases e
    · cases e
def evTup (r : EvA) : Ev := fun δ μ => bindG (r δ μ) fun ds μ1 => match toPs μ1 ds with
  | some (xs, μ2) => if xs.length ≤ sizeLine then some (.ok (.p (.tup xs)), μ2) else none
  | none => none
def evLst (r : EvA) : Ev := fun δ μ => bindG (r δ μ) fun ds μ1 => match toPs μ1 ds with
  | some (xs, μ2) => if xs.length ≤ sizeLine then some (.ok (.p (.lst xs)), μ2) else none
  | none => none
/-- a list that will change -/
def evLstC (r : EvA) : Ev := fun δ μ => bindG (r δ μ) fun ds μ1 => match toPs μ1 ds with
  | some (xs, μ2) => if xs.length ≤ sizeLine then some (.ok (.loc μ2.length), μ2 ++ [some (.lst xs)]) else none
  | none => none
section
variable {es : List Expr} {er : EvA} {pos : Pos}
theorem v_tup {x1} (h : PA X es (tVs α W er)) : PE X (.Tuple es x1 pos) (tV α W (evTup er)) :=
  PE.imp (pe_tup h) fun σ H Q ⟨G, ρ, δ, μ, z, s, p⟩ => ⟨G, ρ, δ, μ, z, s, Post.bind p fun ds μ1 vs H1 G1 ρ1 u z1 r1 p1 => by
    split at p1
    · rename_i xs μ2 h2
      obtain ⟨G2, u2, z2, r2⟩ := toPs_ok z1 r1 h2
      split at p1
      · rename_i hl
        exact ⟨by rw [r2.length]; exact hl, fun a na => p1 _ _ _ _ (u2.trans (up_new (z2.free na))) (z2.new na _) (.tup (SqT.of upd_same) (r2.mono (same_upd (z2.free na))))⟩
      · exact p1.elim
    · exact p1.elim⟩
theorem v_lst (h : PA X es (tVs α W er)) : PE X (.List es pos) (tV α W (evLst er)) :=
  PE.imp (pe_lst h) fun σ H Q ⟨G, ρ, δ, μ, z, s, p⟩ => ⟨G, ρ, δ, μ, z, s, Post.bind p fun ds μ1 vs H1 G1 ρ1 u z1 r1 p1 => by
    split at p1
    · rename_i xs μ2 h2
      obtain ⟨G2, u2, z2, r2⟩ := toPs_ok z1 r1 h2
      split at p1
      · rename_i hl
        exact ⟨by rw [r2.length]; exact hl, fun a na => p1 _ _ _ _ (u2.trans (up_new (z2.free na))) (z2.new na _) (.lst upd_same (r2.mono (same_upd (z2.free na))))⟩
      · exact p1.elim
    · exact p1.elim⟩
theorem v_lstC (h : PA X es (tVs α W er)) : PE X (.List es pos) (tV α W (evLstC er)) :=
  PE.imp (pe_lst h) fun σ H Q ⟨G, ρ, δ, μ, z, s, p⟩ => ⟨G, ρ, δ, μ, z, s, Post.bind p fun ds μ1 vs H1 G1 ρ1 u z1 r1 p1 => by
    split at p1
    · rename_i xs μ2 h2
      obtain ⟨G2, u2, z2, r2⟩ := toPs_ok z1 r1 h2
      split at p1
      · rename_i hl
        exact ⟨by rw [r2.length]; exact hl, fun a na => p1 _ _ _ _ (u2.trans up_place) (z2.place na ⟨vs, rfl, r2⟩) ⟨a, rfl, by rw [← z2.len]; simp⟩⟩
      · exact p1.elim
    · exact p1.elim⟩
end
end
end Vs
namespace Vs
open PySem PySem.Spec PyProof.Rows L2
inductive Fl where
  | nx | ret (d : D) | brk | cont | exc (c : Nat)
abbrev SEv := Sl → Mu → Option (Fl × Sl × Mu)
section
variable (α : Amb) (W : WX)
def SPost (Dn : Ends) (G : Hp) (ρ : List Addr) : Option (Fl × Sl × Mu) → Prop
  | some (.nx, δ', μ') => ∀ σ' H' G' ρ', Up G ρ G' ρ' → Zn α H' G' ρ' μ' → Sq α G' ρ' σ' δ' → Dn.nx σ' H'
  | some (.brk, δ', μ') => ∀ σ' H' G' ρ', Up G ρ G' ρ' → Zn α H' G' ρ' μ' → Sq α G' ρ' σ' δ' → Dn.bk σ' H'
  | some (.cont, δ', μ') => ∀ σ' H' G' ρ', Up G ρ G' ρ' → Zn α H' G' ρ' μ' → Sq α G' ρ' σ' δ' → Dn.ct σ' H'
  | some (.ret d, δ', μ') => ∀ v H' G' ρ', Up G ρ G' ρ' → Zn α H' G' ρ' μ' → RepD α G' ρ' v d → Dn.rt v H'
  | some (.exc c, δ', μ') => ∀ σ' H' G' ρ', Up G ρ G' ρ' → Zn α H' G' ρ' μ' → Sq α G' ρ' σ' δ' → W (.ref (α.cl c)) none σ' H'
  | none => False
def tS (sv : SEv) : TS := fun Dn σ H => ∃ G ρ δ μ, Zn α H G ρ μ ∧ Sq α G ρ σ δ ∧ SPost α W Dn G ρ (sv δ μ)
end
section
variable {α : Amb} {W : WX} {X : Cx}
theorem SPost.up {Dn : Ends} {G G1 : Hp} {ρ ρ1 : List Addr} {r : Option (Fl × Sl × Mu)} (h : SPost α W Dn G ρ r) (u : Up G ρ G1 ρ1) : SPost α W Dn G1 ρ1 r := by
  match r, h with
  | some (.nx, δ', μ'), h => exact fun σ' H' G' ρ' u' => h σ' H' G' ρ' (u.trans u')
  | some (.brk, δ', μ'), h => exact fun σ' H' G' ρ' u' => h σ' H' G' ρ' (u.trans u')
  | some (.cont, δ', μ'), h => exact fun σ' H' G' ρ' u' => h σ' H' G' ρ' (u.trans u')
  | some (.ret d, δ', μ'), h => exact fun v H' G' ρ' u' => h v H' G' ρ' (u.trans u')
  | some (.exc c, δ', μ'), h => exact fun σ' H' G' ρ' u' => h σ' H' G' ρ' (u.trans u')
def bindS {β : Type} (m : Option (Out β × Mu)) (δ : Sl) (f : β → Mu → Option (Fl × Sl × Mu)) : Option (Fl × Sl × Mu) := match m with
  | some (.ok x, μ) => f x μ
  | some (.exc c, μ) => some (.exc c, δ, μ)
  | none => none
theorem SPost.bind {β γ : Type} {rep : Hp → List Addr → γ → β → Prop} {Dn : Ends} {G : Hp} {ρ : List Addr} {σ : L2.St} {δ : Sl} {Q : γ → Hp → Prop} {m : Option (Out β × Mu)} {f : β → Mu → Option (Fl × Sl × Mu)}
    (h : SPost α W Dn G ρ (bindS m δ f)) (s : Sq α G ρ σ δ)
    (go : ∀ x μ' v H' G' ρ', Up G ρ G' ρ' → Zn α H' G' ρ' μ' → rep G' ρ' v x → SPost α W Dn G' ρ' (f x μ') → Q v H') : Post α W rep G ρ σ Q m := by
  match m, h with
  | some (.ok x, μ'), h => exact fun v H' G' ρ' u z r => go x μ' v H' G' ρ' u z r (SPost.up (r := f x μ') h u)
  | some (.exc c, μ'), h => exact fun H' G' ρ' u z => h σ H' G' ρ' u z (s.up u)
def seqS (a b : SEv) : SEv := fun δ μ => match a δ μ with
  | some (.nx, δ', μ') => b δ' μ'
  | r => r
def sNil : SEv := fun δ μ => some (.nx, δ, μ)
section
variable {st : Stmt} {rest : List Stmt} {a b : SEv}
theorem vs_nil : PSs X [] (tS α W sNil) := PSs.imp pss_nil fun D σ H ⟨G, ρ, δ, μ, z, s, p⟩ => p σ H G ρ Up.refl z s
theorem vs_one (h : PS X st (tS α W a)) : PSs X [st] (tS α W a) := pss_one h
theorem vs_cons (h1 : PS X st (tS α W a)) (h2 : PSs X rest (tS α W b)) : PSs X (st :: rest) (tS α W (seqS a b)) :=
  PSs.imp (pss_cons h1 h2) fun Dn σ H ⟨G, ρ, δ, μ, z, s, p⟩ => by
    refine ⟨G, ρ, δ, μ, z, s, ?_⟩
    unfold seqS at p
    match q : a δ μ, p with
    | some (.nx, δ', μ'), p => exact fun σ' H' G' ρ' u z' s' => ⟨G', ρ', δ', μ', z', s', SPost.up (r := b δ' μ') p u⟩
    | some (.brk, δ', μ'), p => exact p
    | some (.cont, δ', μ'), p => exact p
    | some (.ret d, δ', μ'), p => exact p
    | some (.exc c, δ', μ'), p => exact p
end
def sSet (i : Nat) (e : Ev) : SEv := fun δ μ => bindS (e δ μ) δ fun d μ1 => some (.nx, δ.set i (some d), μ1)
theorem v_set (i : Nat) {x : Str} {e : Expr} {ev : Ev} {pos pos' : Pos} (hN : X.N.Nodup) (he : PE X e (tV α W ev)) (hi : X.N[i]? = some x := by rfl) (hx : Loc X.env.scope x := by first | exact Or.inl rfl | exact Or.inr rfl) (hs : swapsWith e (some (.Name x pos')) pos.line X.env = pure false := by rfl)
    (hf : X.fn x = true ∨ X.env.scope.names.lookup x = some .local := by first | exact .inl rfl | exact .inr rfl | assumption) : PS X (.Assign [.Name x pos'] e pos) (tS α W (sSet i ev)) :=
  PS.imp (ps_set (i := i) hN hi hx he hs hf) fun Dn σ H ⟨G, ρ, δ, μ, z, s, p⟩ => ⟨G, ρ, δ, μ, z, s, SPost.bind p s fun d μ1 v H1 G1 ρ1 u z1 r1 p1 => p1 _ H1 G1 ρ1 Up.refl z1 ((s.up u).set r1 i)⟩
def sRet (e : Ev) : SEv := fun δ μ => bindS (e δ μ) δ fun d μ1 => some (.ret d, δ, μ1)
theorem v_ret {e : Expr} {ev : Ev} {pos : Pos} (he : PE X e (tV α W ev)) : PS X (.Return (some e) pos) (tS α W (sRet ev)) :=
  PS.imp (ps_ret he) fun Dn σ H ⟨G, ρ, δ, μ, z, s, p⟩ => ⟨G, ρ, δ, μ, z, s, SPost.bind p s fun d μ1 v H1 G1 ρ1 u z1 r1 p1 => p1 _ H1 G1 ρ1 Up.refl z1 r1⟩
def sExpr (e : Ev) : SEv := fun δ μ => bindS (e δ μ) δ fun d μ1 => some (.nx, δ, μ1)
theorem v_expr {e : Expr} {ev : Ev} {pos : Pos} (he : PE X e (tV α W ev)) (hs : swapsWith e none pos.line X.env = pure false := by rfl) : PS X (.Expr e pos) (tS α W (sExpr ev)) :=
  PS.imp (ps_expr he hs) fun Dn σ H ⟨G, ρ, δ, μ, z, s, p⟩ => ⟨G, ρ, δ, μ, z, s, SPost.bind p s fun d μ1 v H1 G1 ρ1 u z1 r1 p1 => p1 _ H1 G1 ρ1 Up.refl z1 (s.up u)⟩
def sIf (c : EvT) (a b : SEv) : SEv := fun δ μ => bindS (c δ μ) δ fun x μ1 => if x = true then a δ μ1 else b δ μ1
theorem v_if {c : Expr} {ec : EvT} {as bs : List Stmt} {a b : SEv} {pos : Pos} (hc : PT X c (tVt α W ec)) (ha : PSs X as (tS α W a)) (hb : PSs X bs (tS α W b)) : PS X (.If c as bs pos) (tS α W (sIf ec a b)) :=
  PS.imp (ps_if hc ha hb) fun Dn σ H ⟨G, ρ, δ, μ, z, s, p⟩ => ⟨G, ρ, δ, μ, z, s, SPost.bind p s fun x μ1 v H1 G1 ρ1 u z1 r1 p1 => by
    subst r1
    cases v with
    | true => exact iteT ⟨G1, ρ1, δ, μ1, z1, s.up u, p1⟩
    | false => exact iteF ⟨G1, ρ1, δ, μ1, z1, s.up u, p1⟩⟩
def sBrk : SEv := fun δ μ => some (.brk, δ, μ)
/-- a, b = e1, e2 -/
def sPar (i j : Nat) (e : EvA) : SEv := fun δ μ => bindS (e δ μ) δ fun ds μ1 => match ds with
  | [x, y] => some (.nx, (δ.set i (some x)).set j (some y), μ1)
  | _ => none
abbrev Tgt := P → Sl → Option Sl
def VG (α : Amb) (X : Cx) (tg : Expr) (ts : Tgt) : Prop := ∃ g : TG, PG X tg g ∧ ∀ G ρ H μ σ δ v x δ' (Q : L2.St → Hp → Prop), Zn α H G ρ μ → Sq α G ρ σ δ → Rep α G v x → ts x δ = some δ' → (∀ σ', Sq α G ρ σ' δ' → Q σ' H) → g v σ H Q
def tgN (i : Nat) : Tgt := fun x δ => some (δ.set i (some (.p x)))
theorem vg_name (i : Nat) {x : Str} {pos : Pos} (hN : X.N.Nodup) (hi : X.N[i]? = some x := by rfl) (hx : Loc X.env.scope x := by first | exact Or.inl rfl | exact Or.inr rfl) (hf : X.fn x = true ∨ X.env.scope.names.lookup x = some .local := by first | exact .inl rfl | exact .inr rfl | assumption) :
    VG α X (.Name x pos) (tgN i) :=
  ⟨gName i, pg_name hN hi hx hf, fun G ρ H μ σ δ v x δ' Q z s r e k => by cases e; exact k _ (s.set (show RepD α G ρ v (.p x) from r) i)⟩
/-- a, b, .. -/
def setAll : List Nat → List P → Sl → Option Sl
  | [], [], δ => some δ
  | i :: is, x :: xs, δ => setAll is xs (δ.set i (some (.p x)))
  | _, _, _ => none
def tgT (is : List Nat) : Tgt := fun x δ => match x with
  | .tup xs => setAll is xs δ
  | _ => none
def VGs (α : Amb) (X : Cx) (tgs : List Expr) (is : List Nat) : Prop := ∃ g : TGs, PGs X tgs g ∧ ∀ G ρ H μ σ δ vs xs δ' (Q : L2.St → Hp → Prop), Zn α H G ρ μ → Sq α G ρ σ δ → Reps α G vs xs → setAll is xs δ = some δ' → (∀ σ', Sq α G ρ σ' δ' → Q σ' H) → g vs σ H Q
theorem vgs_nil : VGs α X [] [] := ⟨gNil, pgs_nil, fun G ρ H μ σ δ vs xs δ' Q z s r e k => by
  cases r with
  | nil => cases e; exact ⟨rfl, k _ s⟩
  | cons _ _ => cases e⟩
theorem vgs_cons (i : Nat) {x : Str} {pos : Pos} {es : List Expr} {is : List Nat} (hN : X.N.Nodup) (h : VGs α X es is) (hi : X.N[i]? = some x := by rfl) (hx : Loc X.env.scope x := by first | exact Or.inl rfl | exact Or.inr rfl) (hf : X.fn x = true ∨ X.env.scope.names.lookup x = some .local := by first | exact .inl rfl | exact .inr rfl | assumption)
    (hs : (assignEach (.Name x pos :: es) X.env).map (·.2) = assign (.Name x pos) X.env :: (assignEach es X.env).map (·.2) := by rfl) : VGs α X (.Name x pos :: es) (i :: is) := by
  obtain ⟨g, pg, hg⟩ := h
  refine ⟨gCons (gName i) g, pgs_cons (pg_name hN hi hx hf) pg hs, fun G ρ H μ σ δ vs xs δ' Q z s r e k => ?_⟩
  cases r with
  | nil => cases e
  | cons r t => exact ⟨_, _, rfl, hg G ρ H μ _ _ _ _ _ Q z (s.set (show RepD α G ρ _ (.p _) from r) i) t e k⟩
theorem setAll_len : ∀ {is : List Nat} {xs : List P} {δ δ' : Sl}, setAll is xs δ = some δ' → xs.length = is.length
  | [], [], _, _, _ => rfl
  | _ :: is, _ :: xs, _, _, e => congrArg (· + 1) (setAll_len (is := is) (xs := xs) e)
  | [], _ :: _, _, _, e => by cases e
  | _ :: _, [], _, _, e => by cases e
theorem vg_tup {es : List Expr} {is : List Nat} {k : Nat} {pos : Pos} (hK : X.K = α.K) (hc : X.calm = true) (h : VGs α X es is) (hn : (assignEach es X.env).length = is.length := by rfl) (hst : (assignEach es X.env).findIdx? (·.1) = none := by rfl) : VG α X (.Tuple es k pos) (tgT is) := by
  obtain ⟨g, pg, hg⟩ := h
  refine ⟨gTup X.K is.length g, pg_tup hc pg hn hst, fun G ρ H μ σ δ v x δ' Q z s r e k => ?_⟩
  cases r <;> try (cases e; done)
  rename_i a vs xs hT hr
  have e : setAll is xs δ = some δ' := e
  exact ⟨a, vs, rfl, by rw [hK]; exact seqT z.sub hT, by rw [hr.length]; exact setAll_len e, hg G ρ H μ _ _ _ _ _ Q z s hr e k⟩
/-- target = e, the target several names -/
def sAsgT (ts : Tgt) (e : Ev) : SEv := fun δ μ => bindS (e δ μ) δ fun d μ1 => match d with
  | .p x => (ts x δ).map fun δ' => (.nx, δ', μ1)
  | _ => none
theorem v_asgT {tg e : Expr} {ts : Tgt} {ev : Ev} {pos : Pos} (hg : VG α X tg ts) (he : PE X e (tV α W ev)) (hs : swapsWithSole [tg] e pos.line X.env = pure false := by rfl) (hw : swappedStores [tg] e X.env = pure none := by rfl) (h1 : (assignEach [tg] X.env).map (·.2) = [assign tg X.env] := by rfl) : PS X (.Assign [tg] e pos) (tS α W (sAsgT ts ev)) := by
  obtain ⟨g, pg, hg⟩ := hg
  refine PS.imp (ps_asg he pg hs hw h1) fun Dn σ H ⟨G, ρ, δ, μ, z, s, p⟩ => ⟨G, ρ, δ, μ, z, s, SPost.bind p s fun d μ1 v H1 G1 ρ1 u z1 r1 p1 => ?_⟩
  cases d with
  | loc l => exact p1.elim
  | p x =>
    cases q : ts x δ with
    | none => dsimp only at p1; rw [q] at p1; exact p1.elim
    | some δ' =>
      dsimp only at p1
      rw [q] at p1
      exact hg G1 ρ1 H1 μ1 σ δ v x δ' _ z1 (s.up u) r1 q fun σ' s' => p1 σ' H1 G1 ρ1 Up.refl z1 s'
/-- J yields xs, one by one, whatever is made meanwhile -/
def JOk (α : Amb) (J : It) (xs : List P) (G1 : Hp) : Prop := ∀ i H G ρ μ, Same G1 G → Zn α H G ρ μ →
  (∀ x, xs[i]? = some x → J.go i H ∧ ∀ v H', J.yld i H v H' → ∃ G', Up G ρ G' ρ ∧ Zn α H' G' ρ μ ∧ Rep α G' v x) ∧ (xs.length ≤ i → J.stop i H)
def VI (α : Amb) (W : WX) (X : Cx) (tg iter : Expr) (ev : EvG (List P)) : Prop := ∃ wi : TI, PI X tg iter wi ∧ ∀ σ H G ρ δ μ (R : It → Hp → Prop), Zn α H G ρ μ → Sq α G ρ σ δ →
  Post α W (fun G' _ (J : It) xs => JOk α J xs G') G ρ σ R (ev δ μ) → wi σ H R
def asList (x : P) : Option (List P) := match x with
  | .lst xs => some xs
  | .wl xs => some xs
  | .tup xs => some xs
  | _ => none
def evIt (e : Ev) : EvG (List P) := fun δ μ => bindG (e δ μ) fun d μ1 => match toP μ1 d with
  | some (x, μ2) => (asList x).map fun xs => (.ok xs, μ2)
  | none => none
theorem pi_seq {tg l : Expr} {tl : TE} (hl : PE X l tl) : PI X tg l (fun σ H R => tl σ H fun x H1 => ∃ a, x = .ref a ∧ (((∃ xs, SqL X.K H1 a xs) ∧ R (Itl X.K a) H1) ∨ ((∃ xs, SqT X.K H1 a xs) ∧ R (Itt X.K a) H1))) := by
  refine ⟨fun pins s σ H R I h => ?_⟩
  refine thn (hl.run pins s σ H _ I h) fun v s1 ⟨x, H1, I1, r1, q1⟩ => ?_
  obtain ⟨a, e, q⟩ := q1
  subst e
  cases r1
  rcases q with ⟨⟨xs, hq⟩, q⟩ | ⟨⟨xs, hq⟩, q⟩
  · obtain ⟨its, rv, p, hz⟩ := I1.list hq
    refine wpAny_pyIter_list p.isList ?_
    refine ⟨s1.heap.objs.size, [s1.heap.objs.size], _, _, H1, rfl, I1.kept (t' := s1.toks) fun b o e => Heap.get?_push_of_some _ e, turn_list a _, ⟨_, Heap.get?_push_size _ rfl, rfl, rfl⟩, fun b hb => ?_, q⟩
    have e : b = s1.heap.objs.size := by simpa using hb
    subst e
    exact I1.fpOk (Nat.le_refl _) (I1.hok.fresh (Nat.le_refl _))
  · obtain ⟨its, rv, p, hz⟩ := I1.tuple hq
    refine wpAny_pyIter_tuple (show s1.heap.IsTuple a its.toArray from p) ?_
    refine ⟨s1.heap.objs.size, [s1.heap.objs.size], _, _, H1, rfl, I1.kept (t' := s1.toks) fun b o e => Heap.get?_push_of_some _ e, turn_tuple a _, ⟨_, Heap.get?_push_size _ rfl, rfl, rfl⟩, fun b hb => ?_, q⟩
    have e : b = s1.heap.objs.size := by simpa using hb
    subst e
    exact I1.fpOk (Nat.le_refl _) (I1.hok.fresh (Nat.le_refl _))
section
variable {tg iter : Expr}
theorem jok_list {K : PySem.W.Frag} {G1 : Hp} {a : Addr} {vs : List V} {xs : List P} (h : SqL K G1 a vs) (r : Reps α G1 vs xs) : JOk α (Itl K a) xs G1 := fun i H G ρ μ s z => by
  have hH : SqL K H a vs := seqL z.sub (seqL s h)
  have r := r.mono s
  refine ⟨fun x hx => ?_, fun hi => ⟨vs, hH, by rw [r.length]; exact hi⟩⟩
  obtain ⟨v, h1, h2⟩ := r.get hx
  refine ⟨⟨vs, v, hH, h1⟩, fun w H' y => ?_⟩
  obtain ⟨rfl, y⟩ := y
  have e := y vs hH
  rw [h1] at e; cases e
  exact ⟨G, Up.refl, z, h2⟩
theorem jok_tup {K : PySem.W.Frag} {G1 : Hp} {a : Addr} {vs : List V} {xs : List P} (h : SqT K G1 a vs) (r : Reps α G1 vs xs) : JOk α (Itt K a) xs G1 := fun i H G ρ μ s z => by
  have hH : SqT K H a vs := seqT z.sub (seqT s h)
  have r := r.mono s
  refine ⟨fun x hx => ?_, fun hi => ⟨vs, hH, by rw [r.length]; exact hi⟩⟩
  obtain ⟨v, h1, h2⟩ := r.get hx
  refine ⟨⟨vs, v, hH, h1⟩, fun w H' y => ?_⟩
  obtain ⟨rfl, y⟩ := y
  have e := y vs hH
  rw [h1] at e; cases e
  exact ⟨G, Up.refl, z, h2⟩
theorem vi_seq {ev : Ev} (hK : X.K = α.K) (h : PE X iter (tV α W ev)) : VI α W X tg iter (evIt ev) := by
  refine ⟨_, pi_seq h, fun σ H G ρ δ μ R z s p => ⟨G, ρ, δ, μ, z, s, Post.bind p fun d μ1 v H1 G1 ρ1 u z1 r1 p1 => ?_⟩⟩
  cases q : toP μ1 d with
  | none => rw [q] at p1; exact p1.elim
  | some y =>
    obtain ⟨x, μ2⟩ := y
    rw [q] at p1
    obtain ⟨G2, u2, z2, r2⟩ := toP_ok z1 r1 q
    rw [hK]
    cases r2 with
    | tup h r => exact ⟨_, rfl, .inr ⟨⟨_, seqT z2.sub h⟩, p1 (Itt α.K _) H1 G2 ρ1 u2 z2 (jok_tup h r)⟩⟩
    | lst h r => exact ⟨_, rfl, .inl ⟨⟨_, SqL.of (z2.sub _ _ h)⟩, p1 (Itl α.K _) H1 G2 ρ1 u2 z2 (jok_list (SqL.of h) r)⟩⟩
    | wl h r => exact ⟨_, rfl, .inl ⟨⟨_, seqL z2.sub h⟩, p1 (Itl α.K _) H1 G2 ρ1 u2 z2 (jok_list h r)⟩⟩
    | _ => exact p1.elim
def rangeP (lo : Int) (n : Nat) : List P := (List.range n).map fun (i : Nat) => P.int (lo + (i : Int))
theorem jok_range {G1 : Hp} {lo : Int} {n : Nat} : JOk α (Itr lo n) (rangeP lo n) G1 := fun i H G ρ μ s z => by
  refine ⟨fun x hx => ?_, fun hi => by
    have hi : n ≤ i := by simpa [rangeP] using hi
    exact hi⟩
  unfold rangeP at hx
  rw [List.getElem?_map] at hx
  by_cases h : i < n
  · rw [List.getElem?_range h] at hx
    cases hx
    refine ⟨h, fun v H' y => ?_⟩
    obtain ⟨rfl, rfl⟩ := y
    exact ⟨G, Up.refl, z, .int _⟩
  · rw [List.getElem?_eq_none (by simp; omega)] at hx; cases hx
def rngOk (i : Int) : Bool := decide (-(2 ^ 62) ≤ i) && decide (i < 2 ^ 62)
theorem rngOk_of {i : Int} (h : rngOk i = true) : -(2 ^ 62) ≤ i ∧ i < 2 ^ 62 := by
  unfold rngOk at h
  rw [Bool.and_eq_true] at h
  exact ⟨of_decide_eq_true h.1, of_decide_eq_true h.2⟩
def evRng1 (a : Ev) : EvG (List P) := fun δ μ => bindG (a δ μ) fun d μ1 => match d with
  | .p (.int j) => if rngOk j = true then some (.ok (rangeP 0 j.toNat), μ1) else none
  | _ => none
theorem vi_rng1 {a : Expr} {ea : Ev} {p pos : Pos} (hm : X.mg "range" = none) (ha : PE X a (tV α W ea)) (hg : Gl X "range" := by rfl) (hs : starEach [a] X.env = [(false, eval a X.env)] := by rfl) : VI α W X tg (.Call (.Name "range" p) [a] [] pos) (evRng1 ea) := by
  refine ⟨_, pi_range1 hg hm (pa_cons ha pa_nil hs) hs, fun σ H G ρ δ μ R z s p => ⟨G, ρ, δ, μ, z, s, Post.bind p fun d μ1 v H1 G1 ρ1 u z1 r1 p1 => ?_⟩⟩
  split at p1
  · rename_i j
    split at p1
    · rename_i hj
      obtain ⟨h1, h2⟩ := rngOk_of hj
      exact ⟨j, by rw [repInt r1], h1, h2, p1 _ H1 G1 ρ1 Up.refl z1 jok_range⟩
    · exact p1.elim
  · exact p1.elim
end
def forL (ts : Tgt) (body : SEv) : List P → SEv
  | [], δ, μ => some (.nx, δ, μ)
  | x :: xs, δ, μ => match ts x δ with
    | none => none
    | some δ1 => match body δ1 μ with
      | some (.nx, δ2, μ2) => forL ts body xs δ2 μ2
      | some (.cont, δ2, μ2) => forL ts body xs δ2 μ2
      | some (.brk, δ2, μ2) => some (.nx, δ2, μ2)
      | r => r
def sFor (it : EvG (List P)) (ts : Tgt) (body : SEv) : SEv := fun δ μ => bindS (it δ μ) δ fun xs μ1 => forL ts body xs δ μ1
theorem v_for {tg iter : Expr} {body : List Stmt} {ev : EvG (List P)} {ts : Tgt} {sb : SEv} {pos : Pos} (hc : X.calm = true) (hp : PassesOwn (model X.prog X.w) X.A X.env X.xe) (hi : VI α W X tg iter ev) (hg : VG α X tg ts) (hb : PSs X body (tS α W sb))
    (hs : ∀ x, foldedSetIterable iter X.env x = pure x := by intro _; rfl) : PS X (.For tg iter body [] pos) (tS α W (sFor ev ts sb)) := by
  obtain ⟨wi, pi, hi⟩ := hi
  obtain ⟨g, pg, hg⟩ := hg
  refine PS.imp (ps_for hp hc pi pg hb hs) fun Dn σ H ⟨G, ρ, δ, μ, z, s, p⟩ => ?_
  refine hi σ H G ρ δ μ _ z s (SPost.bind p s fun xs μ1 J H1 G1 ρ1 u z1 j1 p1 => ?_)
  refine ⟨fun i m σ H => m + i = xs.length ∧ ∃ G' ρ' δ' μ', Up G1 ρ1 G' ρ' ∧ Zn α H G' ρ' μ' ∧ Sq α G' ρ' σ δ' ∧ SPost α W Dn G' ρ' (forL ts sb (xs.drop i) δ' μ'), ⟨xs.length, by omega, G1, ρ1, δ, μ1, Up.refl, z1, s.up u, by simpa using p1⟩, ?_⟩
  rintro i m σ2 H2 ⟨hm, G2, ρ2, δ2, μ2, u2, z2, s2, p2⟩
  obtain ⟨jgo, jstop⟩ := j1 i H2 G2 ρ2 μ2 u2.same z2
  by_cases h : i < xs.length
  · obtain ⟨x, hx⟩ : ∃ x, xs[i]? = some x := ⟨xs[i], List.getElem?_eq_getElem h⟩
    obtain ⟨go, yl⟩ := jgo x hx
    have hd : xs.drop i = x :: xs.drop (i + 1) := by
      rw [List.drop_eq_getElem_cons h]
      rw [List.getElem?_eq_getElem h] at hx
      cases hx; rfl
    rw [hd] at p2
    refine .inr ⟨go, fun σ' H' => ∃ G' ρ' δ' μ', Up G1 ρ1 G' ρ' ∧ Zn α H' G' ρ' μ' ∧ Sq α G' ρ' σ' δ' ∧ SPost α W Dn G' ρ' (forL ts sb (xs.drop (i + 1)) δ' μ'), fun σ' H' hN => ⟨m - 1, by omega, by omega, hN⟩, fun v H' y => ?_⟩
    obtain ⟨G3, u3, z3, r3⟩ := yl v H' y
    unfold forL at p2
    cases q : ts x δ2 with
    | none => rw [q] at p2; exact p2.elim
    | some δ3 =>
      rw [q] at p2
      refine hg G3 ρ2 H' μ2 σ2 δ2 v x δ3 _ z3 (s2.up u3) r3 q fun σ3 s3 => ⟨G3, ρ2, δ3, μ2, z3, s3, ?_⟩
      have p2 := SPost.up p2 u3
      have u23 := u2.trans u3
      dsimp only at p2
      match q2 : sb δ3 μ2, p2 with
      | some (.nx, δ4, μ4), p2 => exact fun σ' H' G' ρ' u' z' s' => ⟨G', ρ', δ4, μ4, u23.trans u', z', s', SPost.up (r := forL ts sb (xs.drop (i + 1)) δ4 μ4) p2 u'⟩
      | some (.cont, δ4, μ4), p2 => exact fun σ' H' G' ρ' u' z' s' => ⟨G', ρ', δ4, μ4, u23.trans u', z', s', SPost.up (r := forL ts sb (xs.drop (i + 1)) δ4 μ4) p2 u'⟩
      | some (.brk, δ4, μ4), p2 => exact p2
      | some (.ret d, δ4, μ4), p2 => exact p2
      | some (.exc c, δ4, μ4), p2 => exact p2
  · have hd : xs.drop i = [] := List.drop_eq_nil_of_le (by omega)
    rw [hd] at p2
    exact .inl ⟨jstop (by omega), p2 σ2 H2 G2 ρ2 Up.refl z2 s2⟩
def wipeS (δ : Sl) : List Nat → Sl
  | [] => δ
  | v :: vs => (wipeS δ vs).set v none
theorem sq_wipe {G : Hp} {ρ : List Addr} {σ : L2.St} {δ : Sl} (s : Sq α G ρ σ δ) : ∀ vs : List Nat, Sq α G ρ (wipe σ vs) (wipeS δ vs)
  | [] => s
  | v :: vs => by
    have h := sq_wipe s vs
    refine ⟨by show ((wipe σ vs).set v none).length = ((wipeS δ vs).set v none).length; rw [List.length_set, List.length_set]; exact h.len, fun i d e => ?_⟩
    have e : ((wipeS δ vs).set v none)[i]? = some (some d) := e
    show ∃ w, ((wipe σ vs).set v none)[i]? = some (some w) ∧ _
    by_cases hv : v = i
    · subst hv
      by_cases hl : v < (wipeS δ vs).length
      · rw [List.getElem?_set_self hl] at e; cases e
      · rw [List.getElem?_eq_none (by rw [List.length_set]; omega)] at e; cases e
    · rw [List.getElem?_set_ne hv] at e ⊢
      exact h.get i d e
theorem wipe_set {σ : L2.St} {o : Option V} : ∀ {vs : List Nat} {i : Nat}, i ∈ vs → wipe (σ.set i o) vs = wipe σ vs
  | v :: vs, i, h => by
    show (wipe (σ.set i o) vs).set v none = (wipe σ vs).set v none
    by_cases hi : i ∈ vs
    · rw [wipe_set hi]
    · have e : i = v := by
        rcases List.mem_cons.mp h with h | h
        · exact h
        · exact absurd h hi
      subst e
      have q : ∀ ws : List Nat, i ∉ ws → wipe (σ.set i o) ws = (wipe σ ws).set i o := by
        intro ws
        induction ws with
        | nil => intro _; rfl
        | cons a ws ih =>
          intro hn
          show (wipe (σ.set i o) ws).set a none = ((wipe σ ws).set a none).set i o
          rw [ih (fun z => hn (List.mem_cons_of_mem _ z)), List.set_comm _ _ (fun z => hn (by rw [z]; exact List.mem_cons_self))]
      rw [q vs hi, List.set_set]
theorem wipe_idem {σ : L2.St} {vs : List Nat} : wipe (wipe σ vs) vs = wipe σ vs := by
  apply List.ext_getElem?
  intro i
  by_cases h : i ∈ vs
  · have none_of : ∀ (τ : L2.St) (ws : List Nat), i ∈ ws → i < τ.length → (wipe τ ws)[i]? = some none := by
      intro τ ws
      induction ws with
      | nil => intro h; cases h
      | cons a ws ih =>
        intro h hl
        show ((wipe τ ws).set a none)[i]? = some none
        by_cases ha : a = i
        · subst ha; rw [List.getElem?_set_self (by rw [wipe_length]; exact hl)]
        · rw [List.getElem?_set_ne ha]
          exact ih (by rcases List.mem_cons.mp h with h | h; exact absurd h.symm ha; exact h) hl
    by_cases hl : i < σ.length
    · rw [none_of _ _ h (by rw [wipe_length]; exact hl), none_of _ _ h hl]
    · rw [List.getElem?_eq_none (by rw [wipe_length, wipe_length]; omega), List.getElem?_eq_none (by rw [wipe_length]; omega)]
  · rw [wipe_out h]
/-- the tests of a comprehension -/
def evTrue : EvT := fun _ μ => some (.ok true, μ)
/-- one item after another: the kept ones, made by e, come to the list at the place l -/
def lcL (ts : Tgt) (t : EvT) (e : Ev) (δ0 : Sl) (l : Nat) : List P → Mu → Option Mu
  | [], μ => some μ
  | x :: xs, μ => match ts x δ0 with
    | none => none
    | some δ1 => match t δ1 μ with
      | some (.ok true, μ1) => match e δ1 μ1 with
        | some (.ok d, μ2) => match toP μ2 d with
          | some (y, μ3) => match cellL μ3 l with
            | some acc => if acc.length < sizeLine then lcL ts t e δ0 l xs (μ3.set l (some (.lst (acc ++ [y])))) else none
            | none => none
          | none => none
        | _ => none
      | some (.ok false, μ1) => lcL ts t e δ0 l xs μ1
      | _ => none
def lcEnd (l : Nat) (m : Option Mu) : Option (Out D × Mu) := match m with
  | some μ => match cellL μ l with
    | some acc => some (.ok (.p (.lst acc)), μ.take l)
    | none => none
  | none => none
def lcEndC (l : Nat) (m : Option Mu) : Option (Out D × Mu) := match m with
  | some μ => match cellL μ l with
    | some acc => some (.ok (.loc l), μ.take (l + 1))
    | none => none
  | none => none
def evLc (it : EvG (List P)) (ts : Tgt) (t : EvT) (e : Ev) (vs : List Nat) : Ev := fun δ μ => bindG (it δ μ) fun xs μ1 => lcEnd μ1.length (lcL ts t e (wipeS δ vs) μ1.length xs (μ1 ++ [some (.lst [])]))
/-- a list that will change -/
def evLcC (it : EvG (List P)) (ts : Tgt) (t : EvT) (e : Ev) (vs : List Nat) : Ev := fun δ μ => bindG (it δ μ) fun xs μ1 => lcEndC μ1.length (lcL ts t e (wipeS δ vs) μ1.length xs (μ1 ++ [some (.lst [])]))
abbrev W0 : WX := fun _ _ _ _ => False
/-- a target's store, that touches the slots vs alone -/
def GSem (α : Amb) (g : TG) (ts : Tgt) (vs : List Nat) : Prop := ∀ G ρ H μ σ δ v x δ' (Q : L2.St → Hp → Prop), Zn α H G ρ μ → Sq α G ρ σ δ → Rep α G v x → ts x δ = some δ' → (∀ σ', Sq α G ρ σ' δ' → wipe σ' vs = wipe σ vs → Q σ' H) → g v σ H Q
theorem gs_name {i : Nat} {vs : List Nat} (h : i ∈ vs) : GSem α (gName i) (tgN i) vs := fun G ρ H μ σ δ v x δ' Q z s r e k => by
  cases e
  exact k _ (s.set (show RepD α G ρ v (.p x) from r) i) (wipe_set h)
theorem cell_at {G H : Hp} {ρ : List Addr} {μ : Mu} (z : Zn α H G ρ μ) {l : Nat} {a : Addr} {acc : List P} (h : cellL μ l = some acc) (ha : ρ[l]? = some a) : ∃ vs, H a = some (.lst vs) ∧ Reps α G vs acc := by
  obtain ⟨a', h1, h2, vs, h3, h4⟩ := z.cell l _ (cellL_some h)
  rw [ha] at h1; cases h1
  exact ⟨vs, h3, h4⟩
/-- the common part of both makings -/
theorem lc_imp {W : WX} {wi : TI} {g : TG} {tt : TT} {te : TE} {vs : List Nat} {it : EvG (List P)} {ts : Tgt} {t : EvT} {e : Ev} {fin : Nat → Option Mu → Option (Out D × Mu)}
    (hi : ∀ σ H G ρ δ μ (R : It → Hp → Prop), Zn α H G ρ μ → Sq α G ρ σ δ → Post α W (fun G' _ (J : It) xs => JOk α J xs G') G ρ σ R (it δ μ) → wi σ H R)
    (hgs : GSem α g ts vs) (htt : ∀ σ H Q, tVt α W0 t σ H Q → tt σ H Q) (hte : ∀ σ H Q, tV α W0 e σ H Q → te σ H Q)
    (hnone : ∀ l, fin l none = none)
    (hfin : ∀ G1 ρ1 G ρ H μ l Dd σ (Q : VK), Up G1 (ρ1 ++ [Dd]) G ρ → Zn α H G ρ μ → l = ρ1.length → Post α W (RepD α) G1 ρ1 σ Q (fin l (some μ)) → Q (.ref Dd) H)
    {σ : L2.St} {H : Hp} {Q : VK} {G : Hp} {ρ : List Addr} {δ : Sl} {μ : Mu} (z : Zn α H G ρ μ) (s : Sq α G ρ σ δ)
    (p : Post α W (RepD α) G ρ σ Q (bindG (it δ μ) fun xs μ1 => fin μ1.length (lcL ts t e (wipeS δ vs) μ1.length xs (μ1 ++ [some (.lst [])])))) : tLc wi g tt te vs σ H Q := by
  refine hi σ H G ρ δ μ _ z s (Post.bind p fun xs μ1 J H1 G1 ρ1 u z1 j1 p1 => ?_)
  intro Dd hD
  have zp := z1.place (m := .lst []) hD ⟨[], rfl, .nil⟩
  refine ⟨fun i m H => m + i = xs.length ∧ ∃ G' ρ' μ', Up G1 (ρ1 ++ [Dd]) G' ρ' ∧ Zn α H G' ρ' μ' ∧ Post α W (RepD α) G1 ρ1 σ Q (fin μ1.length (lcL ts t e (wipeS δ vs) μ1.length (xs.drop i) μ')),
    ⟨xs.length, by omega, G1, ρ1 ++ [Dd], _, Up.refl, zp, by simpa using p1⟩, ?_⟩
  rintro i m H2 ⟨hm, G2, ρ2, μ2, u2, z2, p2⟩
  have hDat : (ρ1 ++ [Dd])[μ1.length]? = some Dd := by rw [← z1.len]; simp
  have u12 : Up G1 ρ1 G2 ρ2 := Up.trans up_place u2
  obtain ⟨jgo, jstop⟩ := j1 i H2 G2 ρ2 μ2 u2.same z2
  by_cases h : i < xs.length
  · obtain ⟨x, hx⟩ : ∃ x, xs[i]? = some x := ⟨xs[i], List.getElem?_eq_getElem h⟩
    obtain ⟨go, yl⟩ := jgo x hx
    have hd : xs.drop i = x :: xs.drop (i + 1) := by
      rw [List.drop_eq_getElem_cons h]
      rw [List.getElem?_eq_getElem h] at hx
      cases hx; rfl
    rw [hd] at p2
    refine .inr ⟨go, fun H' => ∃ G' ρ' μ', Up G1 (ρ1 ++ [Dd]) G' ρ' ∧ Zn α H' G' ρ' μ' ∧ Post α W (RepD α) G1 ρ1 σ Q (fin μ1.length (lcL ts t e (wipeS δ vs) μ1.length (xs.drop (i + 1)) μ')), fun H' hN => ⟨m - 1, by omega, by omega, hN⟩, fun v H' y => ?_⟩
    obtain ⟨G3, u3, z3, r3⟩ := yl v H' y
    have s3 : Sq α G3 ρ2 (wipe σ vs) (wipeS δ vs) := sq_wipe (((s.up u).up u12).up u3) vs
    unfold lcL at p2
    cases q : ts x (wipeS δ vs) with
    | none => rw [q] at p2; dsimp only at p2; rw [hnone] at p2; exact p2.elim
    | some δ3 =>
      rw [q] at p2
      dsimp only at p2
      refine hgs G3 ρ2 H' μ2 _ _ v x δ3 _ z3 s3 r3 q fun σ3 s4 hw => ⟨hw.trans wipe_idem, htt _ _ _ ⟨G3, ρ2, δ3, μ2, z3, s4, ?_⟩⟩
      have u23 : Up G1 (ρ1 ++ [Dd]) G3 ρ2 := u2.trans u3
      match q2 : t δ3 μ2, p2 with
      | none, p2 => rw [hnone] at p2; exact p2.elim
      | some (.exc c, μ4), p2 => rw [hnone] at p2; exact p2.elim
      | some (.ok false, μ4), p2 =>
        intro b H4 G4 ρ4 u4 z4 hb
        subst hb
        exact iteF ⟨G4, ρ4, μ4, u23.trans u4, z4, p2⟩
      | some (.ok true, μ4), p2 =>
        intro b H4 G4 ρ4 u4 z4 hb
        subst hb
        refine iteT (hte _ _ _ ⟨G4, ρ4, δ3, μ4, z4, s4.up u4, ?_⟩)
        dsimp only at p2
        match q3 : e δ3 μ4, p2 with
        | none, p2 => rw [hnone] at p2; exact p2.elim
        | some (.exc c, μ5), p2 => rw [hnone] at p2; exact p2.elim
        | some (.ok d, μ5), p2 =>
          intro w H5 G5 ρ5 u5 z5 r5
          dsimp only at p2
          cases q5 : toP μ5 d with
          | none => rw [q5] at p2; dsimp only at p2; rw [hnone] at p2; exact p2.elim
          | some ym =>
            obtain ⟨y', μ6⟩ := ym
            rw [q5] at p2
            dsimp only at p2
            obtain ⟨G6, u6, z6, r6⟩ := toP_ok z5 r5 q5
            have uu : Up G1 (ρ1 ++ [Dd]) G6 ρ5 := ((u23.trans u4).trans u5).trans u6
            cases q6 : cellL μ6 μ1.length with
            | none => rw [q6] at p2; dsimp only at p2; rw [hnone] at p2; exact p2.elim
            | some acc =>
              rw [q6] at p2
              dsimp only at p2
              split at p2
              · rename_i hl
                have hDD := uu.get hDat
                obtain ⟨vacc, h1, h2⟩ := cell_at z6 q6 hDD
                exact ⟨vacc, h1, by rw [h2.length]; exact hl, G6, ρ5, _, uu, z6.write (cellL_some q6) hDD (m' := .lst (acc ++ [y'])) ⟨_, rfl, h2.append (.cons r6 .nil)⟩, p2⟩
              · rw [hnone] at p2; exact p2.elim
  · have hd : xs.drop i = [] := List.drop_eq_nil_of_le (by omega)
    rw [hd] at p2
    exact .inl ⟨jstop (by omega), hfin G1 ρ1 G2 ρ2 H2 μ2 μ1.length Dd σ Q u2 z2 z1.len.symm p2⟩
theorem fin_lc {W : WX} {G1 : Hp} {ρ1 : List Addr} {G : Hp} {ρ : List Addr} {H : Hp} {μ : Mu} {l : Nat} {Dd : Addr} {σ : L2.St} {Q : VK} (u : Up G1 (ρ1 ++ [Dd]) G ρ) (z : Zn α H G ρ μ) (hl : l = ρ1.length) (p : Post α W (RepD α) G1 ρ1 σ Q (lcEnd l (some μ))) : Q (.ref Dd) H := by
  subst hl
  unfold lcEnd at p
  dsimp only at p
  cases q : cellL μ ρ1.length with
  | none => rw [q] at p; exact p.elim
  | some acc =>
    rw [q] at p
    have hDD : ρ[ρ1.length]? = some Dd := u.get (by simp)
    obtain ⟨vacc, h1, h2⟩ := cell_at z q hDD
    obtain ⟨z', g⟩ := z.freeze (cellL_some q) hDD h1
    obtain ⟨sm, r, hr⟩ := u
    have z2 := z'.cut (ρ0 := ρ1) (r := [Dd] ++ r) (by rw [hr, List.append_assoc])
    have e : (μ.set ρ1.length none).take ρ1.length = μ.take ρ1.length := by
      apply List.ext_getElem?
      intro i
      by_cases hi : i < ρ1.length
      · rw [List.getElem?_take_of_lt hi, List.getElem?_take_of_lt hi, List.getElem?_set_ne (by omega)]
      · rw [List.getElem?_eq_none (by rw [List.length_take]; omega), List.getElem?_eq_none (by rw [List.length_take]; omega)]
    rw [e] at z2
    exact p (.ref Dd) H (upd G Dd (.lst vacc)) ρ1 ⟨sm.trans (same_upd g), [], (List.append_nil _).symm⟩ z2 (.lst upd_same (h2.mono (same_upd g)))
theorem fin_lcC {W : WX} {G1 : Hp} {ρ1 : List Addr} {G : Hp} {ρ : List Addr} {H : Hp} {μ : Mu} {l : Nat} {Dd : Addr} {σ : L2.St} {Q : VK} (u : Up G1 (ρ1 ++ [Dd]) G ρ) (z : Zn α H G ρ μ) (hl : l = ρ1.length) (p : Post α W (RepD α) G1 ρ1 σ Q (lcEndC l (some μ))) : Q (.ref Dd) H := by
  subst hl
  unfold lcEndC at p
  dsimp only at p
  cases q : cellL μ ρ1.length with
  | none => rw [q] at p; exact p.elim
  | some acc =>
    rw [q] at p
    have hDD : ρ[ρ1.length]? = some Dd := u.get (by simp)
    obtain ⟨sm, r, hr⟩ := u
    have z2 := z.cut (ρ0 := ρ1 ++ [Dd]) (r := r) hr
    rw [List.length_append] at z2
    exact p (.ref Dd) H G (ρ1 ++ [Dd]) ⟨sm, [Dd], rfl⟩ z2 ⟨Dd, rfl, by simp⟩
section
variable {W : WX} {elt tg iter : Expr} {ifs : List Expr} {scope : Scope} {own : List (Str × Nat)} {pos : Pos} {g : TG} {it : EvG (List P)} {ts : Tgt} {t : EvT} {e : Ev}
theorem v_lc (hc : X.calm = true) (hN : X.N.Nodup) (hi : VI α W X tg iter it) (ok : BlkOk X.N X.env.scope scope own) (hgs : GSem α g ts (own.map (·.2)))
    (hg : ∀ (s : Shared) (H : Hp) (C : Addr) (cl : List (Str × Addr)) (fp : List Addr), PG (X.blk s H scope (compEnvC scope cl C X.env) fp) tg g) (ht : ∀ (s : Shared) (H : Hp) (C : Addr) (cl : List (Str × Addr)) (fp : List Addr), PTs (X.blk s H scope (compEnvC scope cl C X.env) fp) ifs (tVt α W0 t))
    (he : ∀ (s : Shared) (H : Hp) (C : Addr) (cl : List (Str × Addr)) (fp : List Addr), PE (X.blk s H scope (compEnvC scope cl C X.env) fp) elt (tV α W0 e)) (hs : ∀ x, foldedSetIterable iter X.env x = pure x := by intro _; rfl) :
    PE X (.ListComp elt [⟨tg, iter, ifs, 0⟩] scope pos) (tV α W (evLc it ts t e (own.map (·.2)))) := by
  obtain ⟨wi, pi, hi⟩ := hi
  exact PE.imp (pe_lc hc hN pi ok hg ht he hs) fun σ H Q ⟨G, ρ, δ, μ, z, s, p⟩ => lc_imp hi hgs (fun _ _ _ h => h) (fun _ _ _ h => h) (fun _ => rfl) (fun _ _ _ _ _ _ _ _ _ _ => fin_lc) z s p
theorem v_lcC (hc : X.calm = true) (hN : X.N.Nodup) (hi : VI α W X tg iter it) (ok : BlkOk X.N X.env.scope scope own) (hgs : GSem α g ts (own.map (·.2)))
    (hg : ∀ (s : Shared) (H : Hp) (C : Addr) (cl : List (Str × Addr)) (fp : List Addr), PG (X.blk s H scope (compEnvC scope cl C X.env) fp) tg g) (ht : ∀ (s : Shared) (H : Hp) (C : Addr) (cl : List (Str × Addr)) (fp : List Addr), PTs (X.blk s H scope (compEnvC scope cl C X.env) fp) ifs (tVt α W0 t))
    (he : ∀ (s : Shared) (H : Hp) (C : Addr) (cl : List (Str × Addr)) (fp : List Addr), PE (X.blk s H scope (compEnvC scope cl C X.env) fp) elt (tV α W0 e)) (hs : ∀ x, foldedSetIterable iter X.env x = pure x := by intro _; rfl) :
    PE X (.ListComp elt [⟨tg, iter, ifs, 0⟩] scope pos) (tV α W (evLcC it ts t e (own.map (·.2)))) := by
  obtain ⟨wi, pi, hi⟩ := hi
  exact PE.imp (pe_lc hc hN pi ok hg ht he hs) fun σ H Q ⟨G, ρ, δ, μ, z, s, p⟩ => lc_imp hi hgs (fun _ _ _ h => h) (fun _ _ _ h => h) (fun _ => rfl) (fun _ _ _ _ _ _ _ _ _ _ => fin_lcC) z s p
/-- y = [..], y a local -/
theorem v_setLc {i : Nat} {y : Str} {py : Pos} {spos : Pos} (hc : X.calm = true) (hN : X.N.Nodup) (hy : X.N[i]? = some y) (hyl : X.env.scope.names.lookup y = some .local)
    (hsw : swapsWith (.ListComp elt [⟨tg, iter, ifs, 0⟩] scope pos) (some (.Name y py)) spos.line X.env = pure true) (hi : VI α W X tg iter it) (ok : BlkOk X.N X.env.scope scope own) (hgs : GSem α g ts (own.map (·.2)))
    (hg : ∀ (s : Shared) (H : Hp) (C : Addr) (cl : List (Str × Addr)) (fp : List Addr), PG (X.blk s H scope (compEnvC scope cl C X.env) fp) tg g) (ht : ∀ (s : Shared) (H : Hp) (C : Addr) (cl : List (Str × Addr)) (fp : List Addr), PTs (X.blk s H scope (compEnvC scope cl C X.env) fp) ifs (tVt α W0 t))
    (he : ∀ (s : Shared) (H : Hp) (C : Addr) (cl : List (Str × Addr)) (fp : List Addr), PE (X.blk s H scope (compEnvC scope cl C X.env) fp) elt (tV α W0 e)) (hs : ∀ x, foldedSetIterable iter X.env x = pure x := by intro _; rfl) :
    PS X (.Assign [.Name y py] (.ListComp elt [⟨tg, iter, ifs, 0⟩] scope pos) spos) (tS α W (sSet i (evLc it ts t e (own.map (·.2))))) := by
  obtain ⟨wi, pi, hi⟩ := hi
  refine PS.imp (ps_setLc (i := i) hc hN hy hyl hsw pi ok hg ht he hs) fun Dn σ H ⟨G, ρ, δ, μ, z, s, p⟩ => ?_
  refine lc_imp (fin := lcEnd) hi hgs (fun _ _ _ h => h) (fun _ _ _ h => h) (fun _ => rfl) (fun _ _ _ _ _ _ _ _ _ _ => fin_lc) z s (SPost.bind (m := evLc it ts t e (own.map (·.2)) δ μ) p s fun d μ1 v H1 G1 ρ1 u z1 r1 p1 => ?_)
  exact p1 _ H1 G1 ρ1 Up.refl z1 ((s.up u).set r1 i)
end
end
end Vs
namespace Vs
open PySem PySem.Spec PyProof.Rows L2
section
variable {α : Amb}
def spF (α : Amb) (n : Nat) (sem : FSem) : Sp := fun vs H Q E => vs.length = n ∧ ∃ G ρ μ ds, Zn α H G ρ μ ∧ RepDs α G ρ vs ds ∧ Post α (fun c d _ H => E c d H) (RepD α) G ρ [] Q (sem ds μ)
def retL (n l : Nat) (μ : Mu) : Option (Out D × Mu) := if l < n then some (.ok (.loc l), μ.take n) else match cellL μ l with
  | some xs => some (.ok (.p (.lst xs)), μ.take n)
  | none => none
def retLC (n l : Nat) (μ : Mu) : Option (Out D × Mu) := if l < n then none else match cellL μ l with
  | some xs => some (.ok (.loc n), μ.take n ++ [some (.lst xs)])
  | none => none
/-- what a body hands back: a list of its own becomes data -/
def retF (n : Nat) : Option (Fl × Sl × Mu) → Option (Out D × Mu)
  | some (.ret (.p x), _, μ) => some (.ok (.p x), μ.take n)
  | some (.ret (.loc l), _, μ) => retL n l μ
  | some (.nx, _, μ) => some (.ok (.p .non), μ.take n)
  | some (.exc c, _, μ) => some (.exc c, μ.take n)
  | _ => none
/-- .. a list of its own stays one that may change -/
def retC (n : Nat) : Option (Fl × Sl × Mu) → Option (Out D × Mu)
  | some (.ret (.loc l), _, μ) => retLC n l μ
  | r => retF n r
def bodyS (N : Nat) (sv : SEv) (ds : List D) (μ : Mu) : Option (Fl × Sl × Mu) := sv (ds.map some ++ List.replicate (N - ds.length) none) μ
def bodySem (N : Nat) (sv : SEv) : FSem := fun ds μ => retF μ.length (bodyS N sv ds μ)
def bodySemC (N : Nat) (sv : SEv) : FSem := fun ds μ => retC μ.length (bodyS N sv ds μ)
abbrev WF (E : XK) : WX := fun c d _ H => E c d H
theorem zn_frz {H G : Hp} {ρ ρ0 : List Addr} {μ : Mu} {l : Nat} {xs : List P} {r : List Addr} {v : V} (z : Zn α H G ρ μ) (e : ρ = ρ0 ++ r) (hl : ρ0.length ≤ l) (hc : cellL μ l = some xs) (hv : RepD α G ρ v (.loc l)) :
    ∃ G', Up G ρ0 G' ρ0 ∧ Zn α H G' ρ0 (μ.take ρ0.length) ∧ Rep α G' v (.lst xs) := by
  obtain ⟨a, rfl, ha⟩ := hv
  obtain ⟨vs, h1, h2⟩ := cell_at z hc ha
  obtain ⟨z', g⟩ := z.freeze (cellL_some hc) ha h1
  have z2 := z'.cut e
  have e2 : (μ.set l none).take ρ0.length = μ.take ρ0.length := by
    apply List.ext_getElem?
    intro i
    by_cases hi : i < ρ0.length
    · rw [List.getElem?_take_of_lt hi, List.getElem?_take_of_lt hi, List.getElem?_set_ne (by omega)]
    · rw [List.getElem?_eq_none (by rw [List.length_take]; omega), List.getElem?_eq_none (by rw [List.length_take]; omega)]
  rw [e2] at z2
  exact ⟨upd G a (.lst vs), up_new g, z2, .lst upd_same (h2.mono (same_upd g))⟩
theorem ret_ok {E : XK} {Q : VK} {G : Hp} {ρ : List Addr} {r : Option (Fl × Sl × Mu)} (h : Post α (WF E) (RepD α) G ρ [] Q (retF ρ.length r)) : SPost α (WF E) { nx := fun _ H' => Q .non H', rt := Q } G ρ r := by
  match r, h with
  | some (.ret (.p x), δ, μ), h =>
    intro v H' G' ρ' u z r
    obtain ⟨sm, q, e⟩ := u
    exact h v H' G' ρ ⟨sm, [], (List.append_nil _).symm⟩ (z.cut e) r
  | some (.ret (.loc l), δ, μ), h =>
    intro v H' G' ρ' u z r
    obtain ⟨sm, q, e⟩ := u
    have h : Post α (WF E) (RepD α) G ρ [] Q (retL ρ.length l μ) := h
    unfold retL at h
    split at h
    · rename_i hl
      refine h v H' G' ρ ⟨sm, [], (List.append_nil _).symm⟩ (z.cut e) ?_
      obtain ⟨a, rfl, ha⟩ := r
      rw [e, List.getElem?_append_left hl] at ha
      exact ⟨a, rfl, ha⟩
    · rename_i hl
      cases hc : cellL μ l with
      | none => rw [hc] at h; exact h.elim
      | some xs =>
        rw [hc] at h
        obtain ⟨G2, u2, z2, r2⟩ := zn_frz z e (by omega) hc r
        exact h v H' G2 ρ ⟨sm.trans u2.same, [], (List.append_nil _).symm⟩ z2 r2
  | some (.nx, δ, μ), h =>
    intro σ' H' G' ρ' u z s
    obtain ⟨sm, q, e⟩ := u
    exact h .non H' G' ρ ⟨sm, [], (List.append_nil _).symm⟩ (z.cut e) .non
  | some (.exc c, δ, μ), h =>
    intro σ' H' G' ρ' u z s
    obtain ⟨sm, q, e⟩ := u
    exact h H' G' ρ ⟨sm, [], (List.append_nil _).symm⟩ (z.cut e)
theorem retC_ok {E : XK} {Q : VK} {G : Hp} {ρ : List Addr} {r : Option (Fl × Sl × Mu)} (h : Post α (WF E) (RepD α) G ρ [] Q (retC ρ.length r)) : SPost α (WF E) { nx := fun _ H' => Q .non H', rt := Q } G ρ r := by
  match r, h with
  | some (.ret (.loc l), δ, μ), h =>
    intro v H' G' ρ' u z r
    obtain ⟨sm, q, e⟩ := u
    have h : Post α (WF E) (RepD α) G ρ [] Q (retLC ρ.length l μ) := h
    unfold retLC at h
    split at h
    · exact h.elim
    · rename_i hl
      cases hc : cellL μ l with
      | none => rw [hc] at h; exact h.elim
      | some xs =>
        rw [hc] at h
        obtain ⟨a, rfl, ha⟩ := r
        obtain ⟨vs, h1, h2⟩ := cell_at z hc ha
        obtain ⟨a', g1, g2, g3⟩ := z.cell l _ (cellL_some hc)
        rw [ha] at g1; cases g1
        have z0 := z.cut e
        have hlen : (μ.take ρ.length).length = ρ.length := z0.len.symm
        have old : ∀ {k : Nat} {m : MO}, (μ.take ρ.length ++ [some (MO.lst xs)])[k]? = some (some m) → (k < ρ.length ∧ (μ.take ρ.length)[k]? = some (some m)) ∨ (k = ρ.length ∧ m = .lst xs) := fun {k m} ek => by
          by_cases hk : k < ρ.length
          · rw [List.getElem?_append_left (by omega)] at ek; exact .inl ⟨hk, ek⟩
          · rw [List.getElem?_append_right (by omega), hlen] at ek
            by_cases h0 : k - ρ.length = 0
            · rw [h0] at ek; simp at ek; exact .inr ⟨by omega, ek.symm⟩
            · rw [List.getElem?_eq_none (by simp; omega)] at ek; cases ek
        have up : ∀ {k : Nat} {m : MO}, k < ρ.length → (μ.take ρ.length)[k]? = some (some m) → μ[k]? = some (some m) := fun {k m} hk ek => by rw [List.getElem?_take_of_lt hk] at ek; exact ek
        have atl : ∀ {k : Nat}, k < ρ.length → (ρ ++ [a])[k]? = ρ'[k]? := fun {k} hk => by rw [e, List.getElem?_append_left hk, List.getElem?_append_left hk]
        have atn : (ρ ++ [a])[ρ.length]? = some a := by simp
        refine h (.ref a) H' G' (ρ ++ [a]) ⟨sm, [a], rfl⟩ ⟨z.sub, by rw [List.length_append, List.length_append, hlen]; rfl, fun k m ek => ?_, fun k k' m m' b e1 e2 b1 b2 => ?_⟩ ⟨a, rfl, atn⟩
        · rcases old ek with ⟨hk, ek⟩ | ⟨rfl, rfl⟩
          · obtain ⟨b, b1, b2, b3⟩ := z.cell k m (up hk ek)
            exact ⟨b, by rw [atl hk]; exact b1, b2, (MRep.cut (Nat.le_of_lt hk) (by rw [e] at b3; exact b3)).up up_place⟩
          · exact ⟨a, atn, g2, g3⟩
        · rcases old e1 with ⟨k1, f1⟩ | ⟨q1, _⟩ <;> rcases old e2 with ⟨k2, f2⟩ | ⟨q2, _⟩
          · rw [atl k1] at b1; rw [atl k2] at b2
            exact z.inj _ _ _ _ b (up k1 f1) (up k2 f2) b1 b2
          · subst q2
            rw [atl k1] at b1; rw [atn] at b2; cases b2
            have := z.inj _ _ _ _ a (up k1 f1) (cellL_some hc) b1 ha
            omega
          · subst q1
            rw [atl k2] at b2; rw [atn] at b1; cases b1
            have := z.inj _ _ _ _ a (up k2 f2) (cellL_some hc) b2 ha
            omega
          · rw [q1, q2]
  | some (.ret (.p x), δ, μ), h => exact ret_ok (r := some (.ret (.p x), δ, μ)) h
  | some (.nx, δ, μ), h => exact ret_ok (r := some (.nx, δ, μ)) h
  | some (.exc c, δ, μ), h => exact ret_ok (r := some (.exc c, δ, μ)) h
section
variable {P : Program} {w : World} {K : PySem.W.Frag} {mg : Str → Option Value} {base : Heap}
/-- the context of a def's body -/
abbrev cxF (P : Program) (w : World) (K : PySem.W.Frag) (mg : Str → Option Value) (base : Heap) (N : List Str) (qual : Str) (st : Stmt) (f : Addr) (cdv : Value) (A : Around) (outer : List Env) (s : Shared) (H : Hp) (E : XK) : Cx :=
  cxOf (L2.CX P w) P w K mg base N qual (defScope st) f cdv A outer s H E
/-- a def by its body's worth -/
theorem fnG {x qual : Str} {st : Stmt} {f : Addr} {fd : FuncData} {N ps : List Str} {k : Nat} {sv : SEv} {sem : FSem} (F : Fun K x qual st f fd) (S : FnScope N ps (defScope st))
    (hret : ∀ (E : XK) (Q : VK) (G : Hp) (ρ : List Addr) (H : Hp) (ds : List D) (μ : Mu), Zn α H G ρ μ → Post α (WF E) (RepD α) G ρ [] Q (sem ds μ) → SPost α (WF E) { nx := fun _ H' => Q .non H', rt := Q } G ρ (bodyS N.length sv ds μ))
    (hb : ∀ (cdv : Value) (A : Around) (outer : List Env) (s : Shared) (H : Hp) (E : XK), Room k (A.deeper (envOfC qual (defScope st) s.heap.objs.size f cdv)) →
      Takes (cxF P w K mg base N qual st f cdv A outer s H E) (WF E) → PassesOwn (model P w) (cxF P w K mg base N qual st f cdv A outer s H E).A (cxF P w K mg base N qual st f cdv A outer s H E).env (cxF P w K mg base N qual st f cdv A outer s H E).xe →
      PSs (cxF P w K mg base N qual st f cdv A outer s H E) (defBody st) (tS α (WF E) sv)) :
    FnOk P w K mg base (L2.CX P w) (k + 1) f fd ps (spF α ps.length sem) := by
  refine F.okX S (fun vs H Q E h => h.1) (fun cdv A outer s H vs Q E hr h => ?_)
  obtain ⟨hl, G, ρ, μ, ds, z, r, p⟩ := h
  refine ⟨_, hb cdv A outer s H E hr (takes_of rfl rfl rfl rfl) (passes_of rfl), G, ρ, _, μ, z, Sq.start r, ?_⟩
  exact hret E Q G ρ H ds μ z p
theorem fnV {x qual : Str} {st : Stmt} {f : Addr} {fd : FuncData} {N ps : List Str} {k : Nat} {sv : SEv} (F : Fun K x qual st f fd) (S : FnScope N ps (defScope st))
    (hb : ∀ (cdv : Value) (A : Around) (outer : List Env) (s : Shared) (H : Hp) (E : XK), Room k (A.deeper (envOfC qual (defScope st) s.heap.objs.size f cdv)) →
      Takes (cxF P w K mg base N qual st f cdv A outer s H E) (WF E) → PassesOwn (model P w) (cxF P w K mg base N qual st f cdv A outer s H E).A (cxF P w K mg base N qual st f cdv A outer s H E).env (cxF P w K mg base N qual st f cdv A outer s H E).xe →
      PSs (cxF P w K mg base N qual st f cdv A outer s H E) (defBody st) (tS α (WF E) sv)) :
    FnOk P w K mg base (L2.CX P w) (k + 1) f fd ps (spF α ps.length (bodySem N.length sv)) :=
  fnG F S (fun E Q G ρ H ds μ z p => ret_ok (by rw [z.len]; exact p)) hb
theorem fnVC {x qual : Str} {st : Stmt} {f : Addr} {fd : FuncData} {N ps : List Str} {k : Nat} {sv : SEv} (F : Fun K x qual st f fd) (S : FnScope N ps (defScope st))
    (hb : ∀ (cdv : Value) (A : Around) (outer : List Env) (s : Shared) (H : Hp) (E : XK), Room k (A.deeper (envOfC qual (defScope st) s.heap.objs.size f cdv)) →
      Takes (cxF P w K mg base N qual st f cdv A outer s H E) (WF E) → PassesOwn (model P w) (cxF P w K mg base N qual st f cdv A outer s H E).A (cxF P w K mg base N qual st f cdv A outer s H E).env (cxF P w K mg base N qual st f cdv A outer s H E).xe →
      PSs (cxF P w K mg base N qual st f cdv A outer s H E) (defBody st) (tS α (WF E) sv)) :
    FnOk P w K mg base (L2.CX P w) (k + 1) f fd ps (spF α ps.length (bodySemC N.length sv)) :=
  fnG F S (fun E Q G ρ H ds μ z p => retC_ok (by rw [z.len]; exact p)) hb
/-- a worth that says less -/
theorem fn_le {f : Addr} {fd : FuncData} {ps : List Str} {k n : Nat} {sem sem' : FSem} {CX : CXT} (F : FnOk P w K mg base CX k f fd ps (spF α n sem)) (h : ∀ ds μ r, sem' ds μ = some r → sem ds μ = some r) : FnOk P w K mg base CX k f fd ps (spF α n sem') :=
  F.imp fun vs H Q E ⟨hl, G, ρ, μ, ds, z, r, p⟩ => ⟨hl, G, ρ, μ, ds, z, r, by
    cases q : sem' ds μ with
    | none => rw [q] at p; exact p.elim
    | some y => rw [h _ _ _ q]; rw [q] at p; exact p⟩
end
section
variable {W : WX} {X : Cx}
theorem post_at {G : Hp} {ρ : List Addr} {σ : L2.St} {Q : VK} {m : Option (Out D × Mu)} (h : Post α W (RepD α) G ρ σ Q m) : Post α (WF (WE W σ)) (RepD α) G ρ [] Q m := by
  match m, h with
  | some (.ok x, μ'), h => exact h
  | some (.exc c, μ'), h => exact h
theorem reps_ds {G : Hp} {ρ : List Addr} : ∀ {vs : List V} {xs : List P}, Reps α G vs xs → RepDs α G ρ vs (xs.map .p)
  | _, _, .nil => .nil
  | _, _, .cons r t => .cons r (reps_ds t)
theorem reps_dvs {G : Hp} {ρ : List Addr} {dvs : List V} {dds : List P} (h : ∀ G, Reps α G dvs dds) : RepDs α G ρ dvs (dds.map .p) := reps_ds (h G)
def evCall (sem : FSem) (dds : List P) (args : EvA) : Ev := fun δ μ => bindG (args δ μ) fun ds μ1 => sem (ds ++ dds.map .p) μ1
theorem call_imp {sem : FSem} {n : Nat} {dvs : List V} {dds : List P} {args : EvA} (hd : ∀ G, Reps α G dvs dds) (hn : ∀ ds μ r, sem ds μ = some r → ds.length = n) {σ : L2.St} {H : Hp} {Q : VK} (h : tV α W (evCall sem dds args) σ H Q) :
    tVs α W args σ H fun vs H1 => spF α n sem (vs ++ dvs) H1 Q (WE W σ) := by
  obtain ⟨G, ρ, δ, μ, z, s, p⟩ := h
  refine ⟨G, ρ, δ, μ, z, s, Post.bind p fun ds μ1 vs H1 G1 ρ1 u z1 r1 p1 => ?_⟩
  have r2 := r1.append (reps_dvs (G := G1) (ρ := ρ1) hd)
  refine ⟨?_, G1, ρ1, μ1, _, z1, r2, post_at p1⟩
  rw [r2.length]
  cases q : sem (ds ++ dds.map .p) μ1 with
  | none => rw [q] at p1; exact p1.elim
  | some y => exact hn _ _ _ q
/-- the worths have their number of arguments -/
def Arity (sem : FSem) (n : Nat) : Prop := ∀ ds μ r, sem ds μ = some r → ds.length = n
section
variable {k n : Nat} {f : Addr} {fd : FuncData} {ps : List Str} {sem : FSem} {dvs : List V} {dds : List P} {ds : List Value} {x : Str} {p pos : Pos} {e : Expr} {es : List Expr} {args : EvA}
theorem v_call (tk : Takes X W) (hr : Room k X.A) (F : FnOk X.prog X.w X.K X.mg X.base (L2.CX X.prog X.w) k f fd ps (spF α n sem)) (hn : Arity sem n) (hm : X.mg x = some (.ref f)) (hk : PySem.W.keepIn X.K (.ref f) = true) (hb : Binds X.K fd ps ds) (hd : Vals dvs ds) (hdd : ∀ G, Reps α G dvs dds)
    (ha : PA X (e :: es) (tVs α W args)) (hg : Gl X x := by rfl) (hdb : (x == ("__debug__" : Str)) = false := by decide) (he : starEach (e :: es) X.env = (false, eval e X.env) :: starEach es X.env := by rfl) (hpl : (backTo pos (starEach es X.env)).any (·.1) = false := by rfl) :
    PE X (.Call (.Name x p) (e :: es) [] pos) (tV α W (evCall sem dds args)) :=
  PE.imp (pe_callSD F hr hg hm hk hb hd (fun σ => passAt tk σ) ha hdb he hpl) fun σ H Q h => call_imp hdd hn h
theorem run_makeS {k : Nat} {f C : Addr} {fd : FuncData} {ps : List Str} {sp : Sp} {dvs : List V} {ds : List Value} {E : XK} {pins : List (Addr × Obj)} {σ : L2.St} {H : Hp} {s : Shared} {Q : VK} {us : List Value} {vs : List V} {CX : CXT} (M : Mk X.K C f) (F : FnOk X.prog X.w X.K X.mg X.base CX k f fd ps sp) (hr : Room (k + 1) X.A) (hb : Binds X.K fd ps ds) (hd : Vals dvs ds)
    (hx : PassesAt CX X σ E) (I : Inv X pins σ H s) (r : Vals vs us)
    (h : ∀ x dx, H x = none → H dx = none → dx ≠ x → sp (.ref x :: (vs ++ dvs)) (upd (upd H dx (.own x)) x (.ins C dx [])) (fun v H2 => v = .non ∧ Q (.ref x) H2) E) :
    wpAny (model X.prog X.w) X.A (call (.ref C) us) (EP X pins σ Q) X.xe s := by
  have hq := h (s.heap.objs.size + 1) s.heap.objs.size (I.hok.fresh (Nat.le_succ _)) (I.hok.fresh (Nat.le_refl _)) (Nat.ne_of_lt (Nat.lt_succ_self _))
  have I2 := Inv.made (C := C) I
  have r2 : Vals (V.ref (s.heap.objs.size + 1) :: (vs ++ dvs)) (Value.ref (s.heap.objs.size + 1) :: (us ++ ds)) := .cons rfl (r.append hd)
  have hl : (Value.ref (s.heap.objs.size + 1) :: us ++ ds).length = ps.length := by
    have e := r2.length
    rw [F.len _ _ _ _ hq] at e
    exact e.symm
  refine wpAny_call (make_map (f := f) I.kIn M.makes M.init (beq_iff_eq.mp M.fn) (codeAny_mono (F.run _ X.stack _ _ ⟨Value.ref (s.heap.objs.size + 1) :: us, []⟩ (Value.ref (s.heap.objs.size + 1) :: (us ++ ds)) _ _ E (hr.make C us [])
    (I2.env0.make C us []) (hb _ (Value.ref (s.heap.objs.size + 1) :: us) I2.kIn hl) r2 hq) fun r s' hq' => ?_))
  cases r with
  | error e => exact hx pins _ _ e s' I2 hq'
  | ok fl =>
    cases fl with
    | ret u =>
      obtain ⟨v, H', I3, rv, ev, q3⟩ := I2.after hq'
      subst ev
      exact ⟨rv, ⟨V.ref (s.heap.objs.size + 1), H', I3, rfl, q3⟩⟩
    | next => exact False.elim hq'
    | brk => exact False.elim hq'
    | cont => exact False.elim hq'
def tMakeS (C : Addr) (sp : Sp) (dvs : List V) (E : L2.St → XK) (t : TA) : TE := fun σ H Q => t σ H fun vs H1 => ∀ x dx, H1 x = none → H1 dx = none → dx ≠ x →
  sp (.ref x :: (vs ++ dvs)) (upd (upd H1 dx (.own x)) x (.ins C dx [])) (fun v H2 => v = .non ∧ Q (.ref x) H2) (E σ)
theorem pe_makeS {k : Nat} {f C : Addr} {fd : FuncData} {ps : List Str} {sp : Sp} {dvs : List V} {ds : List Value} {E : L2.St → XK} {x : Str} {p pos : Pos} {e : Expr} {es : List Expr} {t : TA} {CX : CXT} (M : Mk X.K C f) (F : FnOk X.prog X.w X.K X.mg X.base CX k f fd ps sp) (hr : Room (k + 1) X.A) (hg : Gl X x) (hm : X.mg x = some (.ref C)) (hb : Binds X.K fd ps ds) (hd : Vals dvs ds) (hx : ∀ σ, PassesAt CX X σ (E σ))
    (ha : PA X (e :: es) t) (hdb : (x == ("__debug__" : Str)) = false := by decide) (he : starEach (e :: es) X.env = (false, eval e X.env) :: starEach es X.env := by rfl) (hpl : (backTo pos (starEach es X.env)).any (·.1) = false := by rfl) :
    PE X (.Call (.Name x p) (e :: es) [] pos) (tMakeS C sp dvs E t) := by
  refine ⟨fun pins s σ H Q I h => ?_⟩
  refine wpAny_Call_Name_kw (ld_glob I hg hm ?_ hdb)
  refine PySem.W.callWith_K (h₀ := X.base) I.ok.mod.kin M.kp (thn (ha.run pos pins s σ H _ I h) fun us s1 ⟨vs, H1, I1, r, q⟩ => ⟨I1.kIn, ?_⟩) he hpl
  exact run_makeS M F hr hb hd (hx σ) I1 r q
def mkEnd (c nf l : Nat) : Option (Out D × Mu) → Option (Out D × Mu)
  | some (.ok d, μ2) => if isNon d = true then (match μ2[l]? with
    | some (some (.ins c' xs)) => if c' = c ∧ xs.length = nf then some (.ok (.p (.obj c xs)), μ2.take l) else none
    | _ => none) else none
  | some (.exc e, μ2) => some (.exc e, μ2.take l)
  | none => none
theorem isNon_of {d : D} (h : isNon d = true) : d = .p .non := by
  cases d with
  | loc l => cases h
  | p x => cases x <;> first | rfl | cases h
def evMake (c nf : Nat) (sem : FSem) (dds : List P) (args : EvA) : Ev := fun δ μ => bindG (args δ μ) fun ds μ1 => mkEnd c nf μ1.length (sem (.loc μ1.length :: (ds ++ dds.map .p)) (μ1 ++ [some (.ins c [])]))
theorem take_set {μ : Mu} {l n : Nat} {o : Option MO} (h : n ≤ l) : (μ.set l o).take n = μ.take n := by
  apply List.ext_getElem?
  intro i
  by_cases hi : i < n
  · rw [List.getElem?_take_of_lt hi, List.getElem?_take_of_lt hi, List.getElem?_set_ne (by omega)]
  · rw [List.getElem?_eq_none (by rw [List.length_take]; omega), List.getElem?_eq_none (by rw [List.length_take]; omega)]
theorem v_make {c nf k n : Nat} {f : Addr} {fd : FuncData} {ps : List Str} {sem : FSem} {dvs : List V} {dds : List P} {ds : List Value} {x : Str} {p pos : Pos} {e : Expr} {es : List Expr} {args : EvA} (tk : Takes X W) (hr : Room (k + 1) X.A) (M : Mk X.K (α.cl c) f) (F : FnOk X.prog X.w X.K X.mg X.base (L2.CX X.prog X.w) k f fd ps (spF α n sem)) (hn : Arity sem n) (hnf : (α.fl c).length = nf)
    (hm : X.mg x = some (.ref (α.cl c))) (hb : Binds X.K fd ps ds) (hd : Vals dvs ds) (hdd : ∀ G, Reps α G dvs dds) (ha : PA X (e :: es) (tVs α W args)) (hg : Gl X x := by rfl) (hdb : (x == ("__debug__" : Str)) = false := by decide) (he : starEach (e :: es) X.env = (false, eval e X.env) :: starEach es X.env := by rfl)
    (hpl : (backTo pos (starEach es X.env)).any (·.1) = false := by rfl) : PE X (.Call (.Name x p) (e :: es) [] pos) (tV α W (evMake c nf sem dds args)) := by
  refine PE.imp (pe_makeS M F hr hg hm hb hd (fun σ => passAt tk σ) ha hdb he hpl) fun σ H Q ⟨G, ρ, δ, μ, z, s, p⟩ => ⟨G, ρ, δ, μ, z, s, Post.bind p fun ds' μ1 vs H1 G1 ρ1 u z1 r1 p1 => ?_⟩
  intro a dx na ndx nad
  have s1 : Same H1 (upd H1 dx (.own a)) := same_upd ndx
  have na2 : (upd H1 dx (.own a)) a = none := by rw [upd_ne (Ne.symm nad)]; exact na
  have z2 := (z1.grow s1).place (m := .ins c []) na2 (o := .ins (α.cl c) dx []) ⟨dx, [], by rw [List.zip_nil_right], Nat.zero_le _, .nil⟩
  have hat : (ρ1 ++ [a])[μ1.length]? = some a := by rw [← z1.len]; simp
  have r2 : RepDs α G1 (ρ1 ++ [a]) (.ref a :: (vs ++ dvs)) (.loc μ1.length :: (ds' ++ dds.map .p)) := .cons ⟨a, rfl, hat⟩ ((r1.up up_place).append (reps_dvs hdd))
  refine ⟨?_, G1, ρ1 ++ [a], _, _, z2, r2, ?_⟩
  · rw [r2.length]
    cases q : sem (.loc μ1.length :: (ds' ++ dds.map .p)) (μ1 ++ [some (.ins c [])]) with
    | none => rw [q] at p1; exact p1.elim
    | some y => exact hn _ _ _ q
  · generalize sem (.loc μ1.length :: (ds' ++ dds.map .p)) (μ1 ++ [some (.ins c [])]) = m at p1
    match m, p1 with
    | some (.exc ec, μ2), p1 =>
      intro H' G' ρ' u2 z3
      obtain ⟨sm, r, er⟩ := u2
      have z4 := z3.cut (ρ0 := ρ1) (r := [a] ++ r) (by rw [er, List.append_assoc])
      rw [z1.len] at z4
      exact p1 H' G' ρ1 ⟨sm, [], (List.append_nil _).symm⟩ z4
    | some (.ok d, μ2), p1 =>
      intro v H' G' ρ' u2 z3 rv
      unfold mkEnd at p1
      dsimp only at p1
      split at p1
      · rename_i hd0
        rw [isNon_of hd0] at rv
        refine ⟨repNon rv, ?_⟩
        have hat' : ρ'[μ1.length]? = some a := u2.get hat
        obtain ⟨sm, r, er⟩ := u2
        split at p1
        · rename_i c' xs hc
          split at p1
          · rename_i hh
            obtain ⟨rfl, hx⟩ := hh
            obtain ⟨a', h1, h2, dx', ws, h3, h4, h5⟩ := z3.cell _ _ hc
            rw [hat'] at h1; cases h1
            obtain ⟨z4, g⟩ := z3.freeze hc hat' h3
            have z5 := z4.cut (ρ0 := ρ1) (r := [a] ++ r) (by rw [er, List.append_assoc])
            rw [z1.len, take_set (Nat.le_refl _)] at z5
            exact p1 (.ref a) H' _ ρ1 ⟨sm.trans (same_upd g), [], (List.append_nil _).symm⟩ z5 (.obj upd_same (by rw [h5.length, hx, hnf]) (h5.mono (same_upd g)))
          · exact p1.elim
        · exact p1.elim
      · exact p1.elim
/-- a class's attributes, as the rules ask for them -/
structure Own (α : Amb) (c : Nat) : Prop where
  cls : Cls α.K (α.cl c)
  no : ∀ (i : Nat) (f : Str), (α.fl c)[i]? = some f → NoAttr α.K (α.cl c) f
  nd : (α.fl c).Nodup
  few : (α.fl c).length < 1000
theorem lookup_zip : ∀ {ns : List Str} {vs : List V} {i : Nat} {f : Str} {v : V}, ns.Nodup → ns[i]? = some f → vs[i]? = some v → (ns.zip vs).lookup f = some v
  | [], _, _, _, _, _, h, _ => by simp at h
  | _ :: _, [], _, _, _, _, _, h => by simp at h
  | a :: ns, w :: vs, 0, f, v, nd, h1, h2 => by
    simp at h1 h2; subst h1; subst h2
    show List.lookup a ((a, w) :: ns.zip vs) = some w
    simp [List.lookup]
  | a :: ns, w :: vs, i + 1, f, v, nd, h1, h2 => by
    have nd' := List.nodup_cons.mp nd
    have hf : f ∈ ns := List.mem_of_getElem? (by simpa using h1)
    have hne : (f == a) = false := beq_eq_false_iff_ne.mpr fun e => nd'.1 (by rw [← e]; exact hf)
    show List.lookup f ((a, w) :: ns.zip vs) = some v
    simp only [List.lookup, hne]
    exact lookup_zip nd'.2 (by simpa using h1) (by simpa using h2)
theorem putF_zip_set {y : V} : ∀ {ns : List Str} {vs : List V} {i : Nat} {f : Str}, ns.Nodup → ns[i]? = some f → i < vs.length → putF f y (ns.zip vs) = ns.zip (vs.set i y)
  | [], _, _, _, _, h, _ => by simp at h
  | _ :: _, [], _, _, _, _, h => by simp at h
  | a :: ns, w :: vs, 0, f, nd, h1, _ => by
    simp at h1; subst h1
    show (if a = a then _ else _) = _
    rw [if_pos rfl]; rfl
  | a :: ns, w :: vs, i + 1, f, nd, h1, h2 => by
    have nd' := List.nodup_cons.mp nd
    have hf : f ∈ ns := List.mem_of_getElem? (by simpa using h1)
    have hne : ¬ a = f := fun e => nd'.1 (by rw [e]; exact hf)
    show (if a = f then _ else (a, w) :: putF f y (ns.zip vs)) = _
    rw [if_neg hne, putF_zip_set nd'.2 (by simpa using h1) (by simpa using h2)]
    rfl
theorem putF_zip_new {y : V} : ∀ {ns : List Str} {vs : List V} {f : Str}, ns.Nodup → ns[vs.length]? = some f → putF f y (ns.zip vs) = ns.zip (vs ++ [y])
  | [], _, _, _, h => by simp at h
  | a :: ns, [], f, nd, h1 => by
    simp at h1; subst h1
    show [(a, y)] = (a, y) :: List.zip ns []
    rw [List.zip_nil_right]
  | a :: ns, w :: vs, f, nd, h1 => by
    have nd' := List.nodup_cons.mp nd
    have hf : f ∈ ns := List.mem_of_getElem? (by simpa using h1)
    have hne : ¬ a = f := fun e => nd'.1 (by rw [e]; exact hf)
    show (if a = f then _ else (a, w) :: putF f y (ns.zip vs)) = _
    rw [if_neg hne, putF_zip_new nd'.2 (by simpa using h1)]
    rfl
/-- o.f, the attribute i of the class c -/
def fFld (c i : Nat) : F1 := fun x μ => match x with
  | .p (.obj c' xs) => if c' = c then (xs[i]?).map fun y => (.p y, μ) else none
  | .loc l => match μ[l]? with
    | some (some (.ins c' xs)) => if c' = c then (xs[i]?).map fun y => (.p y, μ) else none
    | _ => none
  | _ => none
theorem v_fld (c i : Nat) {e : Expr} {ev : Ev} {f : Str} {pos : Pos} (O : Own α c) (hK : X.K = α.K) (hf : (α.fl c)[i]? = some f) (he : PE X e (tV α W ev)) (hb : attributeBase e f X.env (eval e X.env) = eval e X.env := by rfl) : PE X (.Attribute e f pos) (tV α W (evUn (fFld c i) ev)) :=
  PE.imp (pe_fld he hb) fun σ H Q ⟨G, ρ, δ, μ, z, s, p⟩ => ⟨G, ρ, δ, μ, z, s, Post.bind p fun x μ1 v H1 G1 ρ1 u z1 r1 p1 => by
    have pf := p1.fin
    clear p1
    rw [hK]
    cases x with
    | p x =>
      cases x with
      | obj c' xs =>
        cases r1 with
        | obj h hl hr =>
          unfold fFld at pf
          dsimp only at pf
          split at pf
          · rename_i hc
            subst hc
            cases q : xs[i]? with
            | none => rw [q] at pf; exact pf.elim
            | some y =>
              rw [q] at pf
              obtain ⟨w, h1, h2⟩ := hr.get q
              exact ⟨_, α.cl c', _, _, w, rfl, z1.sub _ _ h, O.cls, O.no i f hf, lookup_zip O.nd hf h1, pf w H1 G1 ρ1 Up.refl z1 h2⟩
          · exact pf.elim
      | _ => exact pf.elim
    | loc l =>
      obtain ⟨a, ev, ha⟩ := r1
      subst ev
      unfold fFld at pf
      dsimp only at pf
      split at pf
      · rename_i c' xs hm
        split at pf
        · rename_i hc
          subst hc
          obtain ⟨a', g1, g2, dx, vs, g3, g4, g5⟩ := z1.cell l _ hm
          rw [ha] at g1; cases g1
          cases q : xs[i]? with
          | none => rw [q] at pf; exact pf.elim
          | some y =>
            rw [q] at pf
            obtain ⟨w, h1, h2⟩ := g5.get q
            exact ⟨a, α.cl c', dx, _, w, rfl, g3, O.cls, O.no i f hf, lookup_zip O.nd hf h1, pf w H1 G1 ρ1 Up.refl z1 h2⟩
        · exact pf.elim
      · exact pf.elim⟩
/-- self.f = e, the attribute i of the class c, self an object that may change -/
def sFldS (c i : Nat) (o e : Ev) : SEv := fun δ μ => bindS (e δ μ) δ fun d μ1 => bindS (o δ μ1) δ fun x μ2 => match x, toP μ2 d with
  | .loc l, some (y, μ3) => match μ3[l]? with
    | some (some (.ins c' xs)) => if c' = c then (if i < xs.length then some (.nx, δ, μ3.set l (some (.ins c (xs.set i y)))) else if i = xs.length then some (.nx, δ, μ3.set l (some (.ins c (xs ++ [y])))) else none) else none
    | _ => none
  | _, _ => none
theorem v_fldS (c i : Nat) {o value : Expr} {eo ev : Ev} {f : Str} {pos pos' : Pos} (O : Own α c) (hK : X.K = α.K) (hf : (α.fl c)[i]? = some f) (ho : PE X o (tV α W eo)) (hv : PE X value (tV α W ev)) (hs : swapsWith value (some (.Attribute o f pos')) pos.line X.env = pure false := by rfl) :
    PS X (.Assign [.Attribute o f pos'] value pos) (tS α W (sFldS c i eo ev)) :=
  PS.imp (ps_fld ho hv hs) fun Dn σ H ⟨G, ρ, δ, μ, z, s, p⟩ => ⟨G, ρ, δ, μ, z, s, SPost.bind p s fun d μ1 y H1 G1 ρ1 u z1 r1 p1 => ⟨G1, ρ1, δ, μ1, z1, s.up u, SPost.bind p1 (s.up u) fun x μ2 v H2 G2 ρ2 u2 z2 r2 p2 => by
    rw [hK]
    cases x with
    | p x => exact p2.elim
    | loc l =>
      cases q : toP μ2 d with
      | none => rw [q] at p2; exact p2.elim
      | some ym =>
        obtain ⟨y', μ3⟩ := ym
        rw [q] at p2
        dsimp only at p2
        obtain ⟨G3, u3, z3, r3⟩ := toP_ok z2 (r1.up u2) q
        obtain ⟨a, rfl, ha⟩ := r2
        split at p2
        · rename_i c' xs hm
          split at p2
          · rename_i hc
            subst hc
            obtain ⟨a', g1, g2, dx, vs, g3, g4, g5⟩ := z3.cell l _ hm
            rw [ha] at g1; cases g1
            have hlen : ((α.fl c').zip vs).length < 1000 := by
              rw [List.length_zip]
              have := O.few
              omega
            refine ⟨a, α.cl c', dx, _, rfl, g3, O.cls, O.no i f hf, hlen, ?_⟩
            have s3 := ((s.up u).up u2).up u3
            have hi : i < (α.fl c').length := (List.getElem?_eq_some_iff.mp hf).1
            split at p2
            · rename_i hlt
              rw [putF_zip_set O.nd hf (by rw [g5.length]; exact hlt)]
              exact p2 σ _ G3 ρ2 u3 (z3.write hm ha (m' := .ins c' (xs.set i y')) ⟨dx, _, rfl, by rw [List.length_set]; exact g4, g5.set r3 i⟩) s3
            · split at p2
              · rename_i hge
                have hvl : vs.length = i := by rw [g5.length]; omega
                rw [putF_zip_new O.nd (by rw [hvl]; exact hf)]
                exact p2 σ _ G3 ρ2 u3 (z3.write hm ha (m' := .ins c' (xs ++ [y'])) ⟨dx, _, rfl, by rw [List.length_append, hvl]; exact hi, g5.append (.cons r3 .nil)⟩) s3
              · exact p2.elim
          · exact p2.elim
        · exact p2.elim⟩⟩
end
end
end
end Vs
namespace PySem.W
open PySem PySem.Calls PyProof.Rows
section
variable {prog : Program} {w : World} {A : Around} {E : Value → Shared → Prop} {s : Shared} {K : Frag} {x C L f : Addr} {h₀ : Heap} {m : Str → Option Value} {ox : Obj} {od : Option Obj} {b tb : Value}
theorem vs_ne_bind (self : Value) : bindSpecial (.builtin "object.__ne__") self = pure (.builtin "object.__ne__", [self]) := PySem.F.cmp_object.ne.bind self
theorem vs_ifBoundB {M : Model} {args : List Value} {Q : Option Value → Shared → Prop} (X : K.In s.heap) (I : InstAt s.heap x ox C od) (hs : findIn K (.ref C) "__ne__" = some (some (.builtin "object.__ne__")))
    (h : wpAny M A (call (.builtin "object.__ne__") (.ref x :: args)) (fun v => Q (some v)) E s) : wpAny M A (callSpecialIfBound? (.ref x) "__ne__" args) Q E s := by
  simp only [callSpecialIfBound?, bindSpecialIfBound?]
  refine wpAny_holding (wpAny_bind (wpAny_bind (wpAny_bind (I.type.here ((looks_findIn X hs).here ?_)))))
  refine wpAny_bind (wpAny_askSetting (wpAny_ite ?_))
  have fin : wpAny M A (call (.builtin "object.__ne__") ([.ref x] ++ args) >>= fun v => pure (some v)) Q E s := wpAny_bind (wpAny_mono h (fun v s' h' => wpAny_pure h') fun _ _ h' => h')
  rw [vs_ne_bind]
  split
  · exact wpAny_bind (wpAny_pure (wpAny_pure (by exact fin)))
  · exact wpAny_tryCatch (wpAny_bind (wpAny_pure (wpAny_pure (by exact fin))))
theorem vs_neBody {M : Model} {Q : Fin → Shared → Prop} (hu : A.units < cLine) (X : K.In s.heap) (I : InstAt s.heap x ox C od) (hs : findIn K (.ref C) "__eq__" = some (some (.ref f))) (hf : isFn K (.ref f) = true)
    (h : wpAny M A (call (.ref f) [.ref x, b]) (fun v s' => ∃ k, v = .bool k ∧ Q (.done (.ret (.bool (!k)))) s') E s) : wpAny M A (Builtin.«object.__ne__» ⟨[.ref x, b], []⟩) Q E s := by
  unfold Builtin.«object.__ne__»
  repeat (first
    | with_reducible refine wpAny_cRoomFor hu ?_
    | (refine wpAny_bind (m := callSpecialIfBound? (.ref x) (Str.ofString "__eq__") [b])
        (ifBound_K X I hs hf (wpAny_mono h (fun r s' hr => by
          obtain ⟨k, rfl, hq⟩ := hr
          repeat (first | exact hq | exact wpAny_pure hq | exact wpAny_truthy_bool hq | (refine wpAny_bind (m := truthy (.bool _)) (wpAny_truthy_bool ?_)) | wp_step)) fun _ _ e => e)))
    | wp_step)
/-- x != b by the class's own ==, its != being the object's -/
theorem vs_ne_K {Q : Value → Shared → Prop} (hu : A.units + 1 < cLine) (F : Fr h₀ L s.heap m) (X₀ : K.In h₀) (I : InstAt s.heap x ox C od) (hb : Looks (model prog w) s.heap (typeOf b) tb) (hn : notFirst K C tb = true)
    (hne : findIn K (.ref C) "__ne__" = some (some (.builtin "object.__ne__"))) (hob : subIn K (.ref C) (.type "object") = some true) (hs : findIn K (.ref C) "__eq__" = some (some (.ref f))) (hf : isFn K (.ref f) = true)
    (h : wpAny (model prog w) A.in1 (call (.ref f) [.ref x, b]) (fun v s' => ∃ k, v = .bool k ∧ Q (.bool (!k)) s') E s) : wpAny (model prog w) A (richCompare .NotEq (.ref x) b) Q E s := by
  have X := X₀.keeps F.keep
  have hcall : wpAny (model prog w) A (call (.builtin "object.__ne__") [.ref x, b]) (fun v s' => ∃ k, v = .bool k ∧ Q (.bool k) s') E s := by
    refine wpAny_call (codeAny_call_builtin PySem.F.cmp_object.ne.plain PySem.F.cmpEntry_ne ?_)
    refine check_slot PySem.F.cmpKind_ne PySem.F.cmpSplit_ne (I.type.andThen (looks_subIn X hob)) (PySem.F.cmpArgs_ne _ _) ?_
    exact vs_neBody (A := A.in1) (by show A.units + 1 < cLine; exact hu) X I hs hf (wpAny_mono h (fun v s' hv => by
      obtain ⟨k, rfl, q⟩ := hv
      exact ⟨k, rfl, !k, rfl, q⟩) fun _ _ e => e)
  have one : wpAny (model prog w) A (tryCompare (.ref x) (cmpInfo .NotEq).2.1 b) (fun r s' => ∃ v, r = some v ∧ Q v s') E s := by
    unfold tryCompare
    refine wpAny_bind (vs_ifBoundB X I hne (wpAny_mono hcall (fun v s' hv => ?_) fun _ _ e => e))
    obtain ⟨k, rfl, q⟩ := hv
    exact wpAny_pure ⟨_, rfl, q⟩
  unfold richCompare
  simp only [oneThing_ref]
  refine wpAny_holding (wpAny_bind (wpAny_cRoomFor (Nat.lt_of_succ_lt hu) ?_))
  refine wpAny_bind (I.type.here (wpAny_bind (hb.here ?_)))
  split
  · rename_i q
    have e : subIn K tb (.ref C) = some false := by
      rcases Bool.or_eq_true_iff.mp hn with e | e
      · rw [beq_iff_eq.mp e] at q; simp at q
      · exact beq_iff_eq.mp e
    refine wpAny_bind ((looks_subIn X e).here ?_)
    simp only [Bool.false_eq_true, if_false]
    refine wpAny_bind (wpAny_mono one (fun r s' z => ?_) fun _ _ e => e)
    obtain ⟨v, rfl, hq⟩ := z
    exact wpAny_pure hq
  · refine wpAny_bind (wpAny_pure ?_)
    simp only [Bool.false_eq_true, if_false]
    refine wpAny_bind (wpAny_mono one (fun r s' z => ?_) fun _ _ e => e)
    obtain ⟨v, rfl, hq⟩ := z
    exact wpAny_pure hq
end
end PySem.W
namespace Vs
open PySem PySem.Spec PyProof.Rows L2
section
variable {α : Amb} {W : WX} {X : Cx}
section
variable {k n : Nat} {f : Addr} {fd : FuncData} {ps : List Str} {sem : FSem}
/-- a call one machine level deeper -/
theorem run_fnS1 {CX : CXT} {sp : Sp} {E : L2.St → XK} {pins : List (Addr × Obj)} {σ : L2.St} {H : Hp} {s : Shared} {Q : VK} {us : List Value} {vs : List V} (F : FnOk X.prog X.w X.K X.mg X.base CX k f fd ps sp) (hr : Room (k + 1) X.A) (hb : Binds X.K fd ps []) (hx : PassesAt CX X σ (E σ))
    (I : Inv X pins σ H s) (r : Vals vs us) (h : sp vs H Q (E σ)) : wpAny (model X.prog X.w) X.A.in1 (call (.ref f) us) (EP X pins σ Q) X.xe s := by
  have hl : us.length = ps.length := by rw [← r.length]; exact F.len _ _ _ _ h
  have b := hb s us I.kIn (by rw [List.append_nil]; exact hl)
  rw [List.append_nil] at b
  refine wpAny_call (codeAny_mono (F.run X.A.in1 X.stack s H ⟨us, []⟩ us vs Q (E σ) hr.in1 I.env0.in1 b r h) fun r s' hq => ?_)
  cases r with
  | error e => exact hx pins H s e s' I hq
  | ok fl =>
    cases fl with
    | ret u => exact I.after hq
    | next => exact False.elim hq
    | brk => exact False.elim hq
    | cont => exact False.elim hq
theorem repObj {G : Hp} {x : V} {c : Nat} {xs : List P} (h : Rep α G x (.obj c xs)) : ∃ a dx fs, x = .ref a ∧ G a = some (.ins (α.cl c) dx fs) := by
  cases h with
  | obj h _ _ => exact ⟨_, _, _, rfl, h⟩
theorem inst_of {pins : List (Addr × Obj)} {σ : L2.St} {H : Hp} {s : Shared} {a C dx : Addr} {fs : List (Str × V)} (I : Inv X pins σ H s) (h : H a = some (.ins C dx fs)) : ∃ od, PySem.W.InstAt s.heap a (PySem.W.instObj C dx) C (some od) := by
  obtain ⟨mA, J, _⟩ := ins_get I.hok h
  obtain ⟨od, J, _⟩ := J.look
  exact ⟨od, J⟩
theorem back_ok {pins : List (Addr × Obj)} {σ : L2.St} {Q : VK} {u : Value} {s' : Shared} (h : EP X pins σ Q u s') : PySem.W.CmpBack (EP X pins σ Q) u s' := by
  obtain ⟨v, H', I, r, q⟩ := h
  have hne : u ≠ .notImplemented := by
    rintro rfl
    cases v <;> first | (cases r; done) | (obtain ⟨t, e⟩ := r; cases e)
  unfold PySem.W.CmpBack
  split
  · exact absurd rfl hne
  · exact ⟨v, H', I, r, q⟩
def semD (sem : FSem) (ds : List D) (μ : Mu) : Option (D × Mu) := match sem ds μ with
  | some (.ok d, μ') => some (d, μ')
  | _ => none
def isObj (c : Nat) : D → Bool
  | .p (.obj c' _) => c' == c
  | _ => false
theorem isObj_of {c : Nat} {d : D} (h : isObj c d = true) : ∃ xs, d = .p (.obj c xs) := by
  cases d with
  | loc l => cases h
  | p x => cases x <;> first | (cases h; done) | (rename_i c' xs; have e : (c' == c) = true := h; rw [beq_iff_eq.mp e]; exact ⟨_, rfl⟩)
/-- an operator of two objects of one class, by the class's method -/
def fOwn (c : Nat) (sem : FSem) : F2 := fun x y μ => if (isObj c x && isObj c y) = true then semD sem [x, y] μ else none
/-- what the class's method for an operator must be -/
structure OpOwn (K : PySem.W.Frag) (C f : Addr) (name : Str) : Prop where
  first : PySem.W.selfFirst K C = true
  find : PySem.W.findIn K (.ref C) name = some (some (.ref f))
  fn : PySem.W.isFn K (.ref f) = true
theorem spf_of {c : Nat} {G : Hp} {ρ : List Addr} {H : Hp} {μ : Mu} {σ : L2.St} {Q : VK} {vs : List V} {ds : List D} (z : Zn α H G ρ μ) (r : RepDs α G ρ vs ds) (hn : Arity sem n) (q : Fin1 α G ρ Q (semD sem ds μ)) : spF α n sem vs H Q (WE W σ) := by
  unfold semD at q
  split at q
  · rename_i d μ' h
    refine ⟨by rw [r.length]; exact hn _ _ _ h, G, ρ, μ, ds, z, r, ?_⟩
    rw [h]; exact q
  · exact q.elim
theorem o_own {op : Operator} {c : Nat} (tk : Takes X W) (hr : Room k X.A) (hK : X.K = α.K) (F : FnOk X.prog X.w X.K X.mg X.base (L2.CX X.prog X.w) k f fd ps (spF α n sem)) (hn : Arity sem n) (hb : Binds X.K fd ps []) (O : OpOwn X.K (α.cl c) f (PySem.dunder op.info.2)) :
    OpR X (binaryOp op) (r2V α (fOwn c sem)) := by
  intro pins s σ H x y v u Q I rx ry h
  obtain ⟨G, ρ, μ, dx, dy, z, r1, r2, q⟩ := h
  unfold fOwn at q
  split at q
  · rename_i hh
    rw [Bool.and_eq_true] at hh
    obtain ⟨xs, rfl⟩ := isObj_of hh.1
    obtain ⟨ys, rfl⟩ := isObj_of hh.2
    obtain ⟨a, d1, fs, rfl, h1⟩ := repObj r1
    obtain ⟨b, d2, gs, rfl, h2⟩ := repObj r2
    cases rx
    cases ry
    obtain ⟨od, J⟩ := inst_of I (z.sub _ _ h1)
    obtain ⟨od', J'⟩ := inst_of I (z.sub _ _ h2)
    obtain ⟨m, hF⟩ := I.fr
    refine PySem.W.binop_K hF I.ok.mod.kin J J'.type O.first O.find O.fn ?_
    refine wpAny_mono (run_fnS (E := WE W) F hr hb (passAt tk σ) I (vs := [.ref a, .ref b]) (.cons rfl (.cons rfl .nil)) (spf_of (c := c) z (.cons r1 (.cons r2 .nil)) hn q)) (fun u s' hu => back_ok hu) fun _ _ e => e
  · exact q.elim
def fOwn1 (c : Nat) (sem : FSem) : F1 := fun x μ => if isObj c x = true then semD sem [x] μ else none
theorem o_own1 {c : Nat} (tk : Takes X W) (hr : Room k X.A) (F : FnOk X.prog X.w X.K X.mg X.base (L2.CX X.prog X.w) k f fd ps (spF α n sem)) (hn : Arity sem n) (hb : Binds X.K fd ps []) (O : OpOwn X.K (α.cl c) f "__neg__") :
    UnR X (unaryOp .USub) (r1V α (fOwn1 c sem)) := by
  intro pins s σ H x v Q I rx h
  obtain ⟨G, ρ, μ, dx, z, r1, q⟩ := h
  unfold fOwn1 at q
  split at q
  · rename_i hh
    obtain ⟨xs, rfl⟩ := isObj_of hh
    obtain ⟨a, d1, fs, rfl, h1⟩ := repObj r1
    cases rx
    obtain ⟨od, J⟩ := inst_of I (z.sub _ _ h1)
    obtain ⟨m, hF⟩ := I.fr
    exact PySem.W.ksp_neg hF I.ok.mod.kin J O.find O.fn (run_fnS (E := WE W) F hr hb (passAt tk σ) I (vs := [.ref a]) (.cons rfl .nil) (spf_of (c := c) z (.cons r1 .nil) hn q))
  · exact q.elim
/-- the type of data -/
def tyP (α : Amb) : P → Value
  | .non => .type "NoneType"
  | .bl _ => .type "bool"
  | .int _ => .type "int"
  | .str _ => .type "str"
  | .tup _ => .type "tuple"
  | .lst _ => .type "list"
  | .wl _ => .type "list"
  | .obj c _ => .ref (α.cl c)
theorem looks_ty {pins : List (Addr × Obj)} {σ : L2.St} {H G : Hp} {ρ : List Addr} {μ : Mu} {s : Shared} {v : V} {u : Value} {x : P} (I : Inv X pins σ H s) (hK : X.K = α.K) (z : Zn α H G ρ μ) (r : Rep α G v x) (ru : RelV v u) : PySem.W.Looks (model X.prog X.w) s.heap (typeOf u) (tyP α x) := by
  cases r with
  | non => cases ru; exact PySem.W.Looks.of_pure rfl
  | bl b => cases ru; exact PySem.W.Looks.of_pure rfl
  | int i => obtain ⟨t, rfl⟩ := ru; exact PySem.W.Looks.of_pure rfl
  | str i => obtain ⟨t, rfl⟩ := ru; exact PySem.W.Looks.of_pure rfl
  | tup h _ =>
    cases ru
    obtain ⟨its, rv, ⟨o, ho, hc, n, hd⟩, _⟩ := I.tuple (by rw [hK]; exact seqT z.sub h)
    exact fun A Q E s k q => wpAny_typeOf_ref (k _ _ ho) (by rw [hc]; exact q)
  | lst h _ =>
    cases ru
    obtain ⟨its, rv, ⟨o, n, ho, hc, _, hd⟩, _⟩ := I.list (SqL.of (z.sub _ _ h))
    exact fun A Q E s k q => wpAny_typeOf_ref (k _ _ ho) (by rw [hc]; exact q)
  | wl h _ =>
    cases ru
    obtain ⟨its, rv, ⟨o, n, ho, hc, _, hd⟩, _⟩ := I.list (by rw [hK]; exact seqL z.sub h)
    exact fun A Q E s k q => wpAny_typeOf_ref (k _ _ ho) (by rw [hc]; exact q)
  | obj h _ _ =>
    cases ru
    obtain ⟨od, J⟩ := inst_of I (z.sub _ _ h)
    exact J.type
/-- the types that the other side may have -/
def eqTys : List String := ["NoneType", "bool", "int", "str", "tuple", "list"]
structure EqOwn (K : PySem.W.Frag) (C f : Addr) : Prop where
  find : PySem.W.findIn K (.ref C) "__eq__" = some (some (.ref f))
  fn : PySem.W.isFn K (.ref f) = true
  nf : ∀ T ∈ eqTys, PySem.W.notFirst K C (.type T) = true
structure NeOwn (K : PySem.W.Frag) (C : Addr) : Prop where
  ne : PySem.W.findIn K (.ref C) "__ne__" = some (some (.builtin "object.__ne__"))
  ob : PySem.W.subIn K (.ref C) (.type "object") = some true
theorem nf_of {K : PySem.W.Frag} {c : Nat} {x : P} (hK : K = α.K) {g : Addr} (O : EqOwn K (α.cl c) g) (h : ∀ c' xs, x = .obj c' xs → c' = c) : PySem.W.notFirst K (α.cl c) (tyP α x) = true := by
  cases x with
  | obj c' xs => rw [h c' xs rfl]; simp [PySem.W.notFirst, tyP]
  | _ => exact O.nf _ (by decide)
/-- the other side: data; an object only of this class -/
def okSide (c : Nat) : D → Bool
  | .p (.obj c' _) => c' == c
  | .p _ => true
  | .loc _ => false
def notD : Option (D × Mu) → Option (D × Mu)
  | some (.p (.bl b), μ) => some (.p (.bl (!b)), μ)
  | _ => none
def fEqO (c : Nat) (sem : FSem) : F2 := fun x y μ => if (isObj c x && okSide c y) = true then semD sem [x, y] μ else none
def fNeO (c : Nat) (sem : FSem) : F2 := fun x y μ => if (isObj c x && okSide c y) = true then notD (semD sem [x, y] μ) else none
theorem side_of {c : Nat} {d : D} (h : okSide c d = true) : ∃ x, d = .p x ∧ ∀ c' xs, x = .obj c' xs → c' = c := by
  cases d with
  | loc l => cases h
  | p x => exact ⟨x, rfl, fun c' xs e => by subst e; exact beq_iff_eq.mp h⟩
theorem o_eqO {c : Nat} (tk : Takes X W) (hr : Room k X.A) (hK : X.K = α.K) (F : FnOk X.prog X.w X.K X.mg X.base (L2.CX X.prog X.w) k f fd ps (spF α n sem)) (hn : Arity sem n) (hb : Binds X.K fd ps []) (O : EqOwn X.K (α.cl c) f) :
    OpR X (compareOp .Eq) (r2V α (fEqO c sem)) := by
  intro pins s σ H x y v u Q I rx ry h
  obtain ⟨G, ρ, μ, dx, dy, z, r1, r2, q⟩ := h
  unfold fEqO at q
  split at q
  · rename_i hh
    rw [Bool.and_eq_true] at hh
    obtain ⟨xs, rfl⟩ := isObj_of hh.1
    obtain ⟨y', rfl, hy⟩ := side_of hh.2
    obtain ⟨a, d1, fs, rfl, h1⟩ := repObj r1
    cases rx
    obtain ⟨od, J⟩ := inst_of I (z.sub _ _ h1)
    obtain ⟨m, hF⟩ := I.fr
    show wpAny (model X.prog X.w) X.A (richCompare .Eq (.ref a) u) (EP X pins σ Q) X.xe s
    refine PySem.W.cmp_K (op := .Eq) hr.units0 hF I.ok.mod.kin J (looks_ty I hK z r2 ry) (nf_of hK O hy) O.find O.fn ?_
    refine wpAny_mono (run_fnS (E := WE W) F hr hb (passAt tk σ) I (vs := [.ref a, y]) (.cons rfl (.cons ry .nil)) (spf_of (c := c) z (.cons r1 (.cons r2 .nil)) hn q)) (fun u s' hu => back_ok hu) fun _ _ e => e
  · exact q.elim
theorem o_neO {c : Nat} (tk : Takes X W) (hr : Room (k + 1) X.A) (hK : X.K = α.K) (F : FnOk X.prog X.w X.K X.mg X.base (L2.CX X.prog X.w) k f fd ps (spF α n sem)) (hn : Arity sem n) (hb : Binds X.K fd ps []) (O : EqOwn X.K (α.cl c) f) (O2 : NeOwn X.K (α.cl c)) :
    OpR X (compareOp .NotEq) (r2V α (fNeO c sem)) := by
  intro pins s σ H x y v u Q I rx ry h
  obtain ⟨G, ρ, μ, dx, dy, z, r1, r2, q⟩ := h
  unfold fNeO at q
  split at q
  · rename_i hh
    rw [Bool.and_eq_true] at hh
    obtain ⟨xs, rfl⟩ := isObj_of hh.1
    obtain ⟨y', rfl, hy⟩ := side_of hh.2
    obtain ⟨a, d1, fs, rfl, h1⟩ := repObj r1
    cases rx
    obtain ⟨od, J⟩ := inst_of I (z.sub _ _ h1)
    obtain ⟨m, hF⟩ := I.fr
    show wpAny (model X.prog X.w) X.A (richCompare .NotEq (.ref a) u) (EP X pins σ Q) X.xe s
    have hu1 : X.A.units + 1 < cLine := by have := hr.units; omega
    refine PySem.W.vs_ne_K hu1 hF I.ok.mod.kin J (looks_ty I hK z r2 ry) (nf_of hK O hy) O2.ne O2.ob O.find O.fn ?_
    have q2 : Fin1 α G ρ (fun w H' => ∃ b, w = .bl b ∧ Q (.bl (!b)) H') (semD sem [D.p (.obj c xs), D.p y'] μ) := by
      revert q
      generalize semD sem [D.p (.obj c xs), D.p y'] μ = r
      intro q
      unfold notD at q
      split at q
      · rename_i b μ'
        intro w H' G' ρ' u' z' rw'
        cases rw' with
        | bl _ => exact ⟨b, rfl, q _ H' G' ρ' u' z' (.bl _)⟩
      · exact q.elim
    refine wpAny_mono (run_fnS1 (E := WE W) F hr hb (passAt tk σ) I (vs := [.ref a, y]) (.cons rfl (.cons ry .nil)) (spf_of (c := c) z (.cons r1 (.cons r2 .nil)) hn q2)) (fun u s' hu => ?_) fun _ _ e => e
    obtain ⟨w, H', I', rw', b, rfl, q3⟩ := hu
    cases rw'
    exact ⟨b, rfl, .bl (!b), H', I', rfl, q3⟩
  · exact q.elim
end
abbrev FA := List D → Mu → Option (D × Mu)
def rCV (α : Amb) (f : FA) : List V → Hp → VK → Prop := fun vs H Q => ∃ G ρ μ ds, Zn α H G ρ μ ∧ RepDs α G ρ vs ds ∧ Fin1 α G ρ Q (f ds μ)
def evBI (f : FA) (a : EvA) : Ev := fun δ μ => bindG (a δ μ) fun ds μ1 => okm (f ds μ1)
section
variable {f : FA} {x : Str} {p pos : Pos} {e : Expr} {es : List Expr} {a : EvA} {id T : String}
theorem bi_imp {σ : L2.St} {H : Hp} {Q : VK} (h : tV α W (evBI f a) σ H Q) : tVs α W a σ H fun vs H1 => rCV α f vs H1 Q := by
  obtain ⟨G, ρ, δ, μ, z, s, p⟩ := h
  exact ⟨G, ρ, δ, μ, z, s, Post.bind p fun ds μ1 vs H1 G1 ρ1 u z1 r1 p1 => ⟨G1, ρ1, μ1, ds, z1, r1, p1.fin⟩⟩
theorem v_callB (hc : CallR X (.builtin id) (rCV α f)) (hm : X.mg x = none) (hv : bootBuiltins x = some (.builtin id)) (ha : PA X (e :: es) (tVs α W a)) (hg : Gl X x := by rfl) (hn : x ≠ "__name__" := by decide) (hdb : (x == ("__debug__" : Str)) = false := by decide)
    (he : starEach (e :: es) X.env = (false, eval e X.env) :: starEach es X.env := by rfl) (hpl : (backTo pos (starEach es X.env)).any (·.1) = false := by rfl) : PE X (.Call (.Name x p) (e :: es) [] pos) (tV α W (evBI f a)) :=
  PE.imp (pe_callB hc hg hm hv ha hn hdb he hpl) fun σ H Q h => bi_imp h
theorem v_callTy (hc : CallR X (.type T) (rCV α f)) (hm : X.mg x = none) (hv : bootBuiltins x = some (.type T)) (ha : PA X (e :: es) (tVs α W a)) (hg : Gl X x := by rfl) (hn : x ≠ "__name__" := by decide) (hdb : (x == ("__debug__" : Str)) = false := by decide)
    (he : starEach (e :: es) X.env = (false, eval e X.env) :: starEach es X.env := by rfl) (hpl : (backTo pos (starEach es X.env)).any (·.1) = false := by rfl) : PE X (.Call (.Name x p) (e :: es) [] pos) (tV α W (evBI f a)) :=
  PE.imp (pe_callTy hc hg hm hv ha hn hdb he hpl) fun σ H Q h => bi_imp h
theorem v_callBf (hc : CallR X (.builtin id) (rCV α f)) (hm : X.mg x = some (.builtin id)) (ha : PA X (e :: es) (tVs α W a)) (hg : Gl X x := by rfl) (hdb : (x == ("__debug__" : Str)) = false := by decide)
    (he : starEach (e :: es) X.env = (false, eval e X.env) :: starEach es X.env := by rfl) (hpl : (backTo pos (starEach es X.env)).any (·.1) = false := by rfl) : PE X (.Call (.Name x p) (e :: es) [] pos) (tV α W (evBI f a)) :=
  PE.imp (pe_callBfun hc hg hm ha hdb he hpl) fun σ H Q h => bi_imp h
end
theorem rds1 {G : Hp} {ρ : List Addr} {vs : List V} {d : D} (r : RepDs α G ρ vs [d]) : ∃ v, vs = [v] ∧ RepD α G ρ v d := by
  cases r with
  | cons r t => cases t; exact ⟨_, rfl, r⟩
theorem rds2 {G : Hp} {ρ : List Addr} {vs : List V} {d e : D} (r : RepDs α G ρ vs [d, e]) : ∃ v w, vs = [v, w] ∧ RepD α G ρ v d ∧ RepD α G ρ w e := by
  cases r with
  | cons r t => obtain ⟨w, rfl, r2⟩ := rds1 t; exact ⟨_, w, rfl, r, r2⟩
def fAbs : FA := fun ds μ => match ds with
  | [.p (.int i)] => some (.p (.int (if i < 0 then -i else i)), μ)
  | _ => none
theorem c_abs : CallR X (.builtin "abs") (rCV α fAbs) := CallR.imp call_abs fun vs H Q ⟨G, ρ, μ, ds, z, r, q⟩ => by
  unfold fAbs at q
  split at q
  · rename_i i
    obtain ⟨v, rfl, r1⟩ := rds1 r
    exact ⟨i, by rw [repInt r1], q _ H G ρ Up.refl z (.int _)⟩
  · exact q.elim
def fInt : FA := fun ds μ => match ds with
  | [.p (.int i)] => some (.p (.int i), μ)
  | [.p (.bl b)] => some (.p (.int (if b then 1 else 0)), μ)
  | _ => none
theorem c_int : CallR X (.type "int") (rCV α fInt) := CallR.imp call_int1 fun vs H Q ⟨G, ρ, μ, ds, z, r, q⟩ => by
  unfold fInt at q
  split at q
  · rename_i i
    obtain ⟨v, rfl, r1⟩ := rds1 r
    exact .inl ⟨i, by rw [repInt r1], q _ H G ρ Up.refl z (.int _)⟩
  · rename_i b
    obtain ⟨v, rfl, r1⟩ := rds1 r
    exact .inr ⟨b, by rw [repBl r1], q _ H G ρ Up.refl z (.int _)⟩
  · exact q.elim
def fGcd : FA := fun ds μ => match ds with
  | [.p (.int i), .p (.int j)] => some (.p (.int ((Nat.gcd i.natAbs j.natAbs : Nat) : Int)), μ)
  | _ => none
theorem c_gcd : CallR X (.builtin "math.gcd") (rCV α fGcd) := CallR.imp cr_gcd fun vs H Q ⟨G, ρ, μ, ds, z, r, q⟩ => by
  unfold fGcd at q
  split at q
  · rename_i i j
    obtain ⟨v, w, rfl, r1, r2⟩ := rds2 r
    exact ⟨i, j, by rw [repInt r1, repInt r2], q _ H G ρ Up.refl z (.int _)⟩
  · exact q.elim
def fLen : FA := fun ds μ => match ds with
  | [d] => match view μ d with
    | some (.lst xs) => some (.p (.int xs.length), μ)
    | some (.wl xs) => some (.p (.int xs.length), μ)
    | some (.tup xs) => some (.p (.int xs.length), μ)
    | some (.str s) => if s.length ≤ sizeLine then some (.p (.int s.length), μ) else none
    | _ => none
  | _ => none
theorem c_len (hK : X.K = α.K) : CallR X (.builtin "len") (rCV α fLen) := CallR.imp (call_len_seq.or call_len_str) fun vs H Q ⟨G, ρ, μ, ds, z, r, q⟩ => by
  unfold fLen at q
  rw [hK]
  split at q
  · rename_i d
    obtain ⟨v, rfl, r1⟩ := rds1 r
    split at q
    · rename_i xs hv
      obtain ⟨a, ws, rfl, h1, h2⟩ := view_lst z r1 hv
      exact .inl ⟨a, ws, rfl, .inl (SqL.of h1), by rw [h2.length]; exact q _ H G ρ Up.refl z (.int _)⟩
    · rename_i xs hv
      obtain ⟨a, ws, rfl, h1, h2⟩ := view_wl z r1 hv
      exact .inl ⟨a, ws, rfl, .inl h1, by rw [h2.length]; exact q _ H G ρ Up.refl z (.int _)⟩
    · rename_i xs hv
      obtain ⟨a, ws, rfl, h1, h2⟩ := view_tup z r1 hv
      exact .inl ⟨a, ws, rfl, .inr h1, by rw [h2.length]; exact q _ H G ρ Up.refl z (.int _)⟩
    · rename_i zz hv
      split at q
      · rename_i hl
        rw [view_str z r1 hv]
        exact .inr ⟨zz, rfl, hl, q _ H G ρ Up.refl z (.int _)⟩
      · exact q.elim
    · exact q.elim
  · exact q.elim
/-- list(x), a new one -/
def fList : FA := fun ds μ => match ds with
  | [d] => match view μ d with
    | some x => (asList x).map fun xs => (.p (.lst xs), μ)
    | _ => none
  | _ => none
def fListC : FA := fun ds μ => match ds with
  | [d] => match view μ d with
    | some x => (asList x).map fun xs => (.loc μ.length, μ ++ [some (.lst xs)])
    | _ => none
  | _ => none
theorem view_seq {H G : Hp} {ρ : List Addr} {μ : Mu} (z : Zn α H G ρ μ) {v : V} {d : D} {x : P} {xs : List P} (r : RepD α G ρ v d) (e : view μ d = some x) (h : asList x = some xs) : ∃ a vs, v = .ref a ∧ (SqL α.K H a vs ∨ SqT α.K H a vs) ∧ Reps α G vs xs := by
  cases x <;> cases h
  · obtain ⟨a, vs, h1, h2, h3⟩ := view_tup z r e; exact ⟨a, vs, h1, .inr h2, h3⟩
  · obtain ⟨a, vs, h1, h2, h3⟩ := view_lst z r e; exact ⟨a, vs, h1, .inl (SqL.of h2), h3⟩
  · obtain ⟨a, vs, h1, h2, h3⟩ := view_wl z r e; exact ⟨a, vs, h1, .inl h2, h3⟩
theorem c_list (hK : X.K = α.K) : CallR X (.type "list") (rCV α fList) := CallR.imp call_list_of fun vs H Q ⟨G, ρ, μ, ds, z, r, q⟩ => by
  unfold fList at q
  rw [hK]
  split at q
  · rename_i d
    obtain ⟨v, rfl, r1⟩ := rds1 r
    split at q
    · rename_i x hv
      cases hx : asList x with
      | none => rw [hx] at q; exact q.elim
      | some xs =>
        rw [hx] at q
        obtain ⟨a, ws, rfl, h1, h2⟩ := view_seq z r1 hv hx
        exact ⟨a, ws, rfl, h1, fun l nl => q _ _ _ _ (up_new (z.free nl)) (z.new nl _) (.lst upd_same (h2.mono (same_upd (z.free nl))))⟩
    · exact q.elim
  · exact q.elim
theorem c_listC (hK : X.K = α.K) : CallR X (.type "list") (rCV α fListC) := CallR.imp call_list_of fun vs H Q ⟨G, ρ, μ, ds, z, r, q⟩ => by
  unfold fListC at q
  rw [hK]
  split at q
  · rename_i d
    obtain ⟨v, rfl, r1⟩ := rds1 r
    split at q
    · rename_i x hv
      cases hx : asList x with
      | none => rw [hx] at q; exact q.elim
      | some xs =>
        rw [hx] at q
        obtain ⟨a, ws, rfl, h1, h2⟩ := view_seq z r1 hv hx
        exact ⟨a, ws, rfl, h1, fun l nl => q _ _ _ _ up_place (z.place nl ⟨ws, rfl, h2⟩) ⟨l, rfl, by rw [← z.len]; simp⟩⟩
    · exact q.elim
  · exact q.elim
/-- what an own class's objects must be for isinstance -/
structure InsOwn (K : PySem.W.Frag) (C : Addr) : Prop where
  cls : Cls K C
  ha : PySem.W.findIn K (.ref C) "__class__" = some (some (.builtin "object.__class__"))
  hn : PySem.W.specialIn K (.builtin "object.__class__") "__get__" = some (some (.builtin "getset_descriptor.__get__"))
  htk : PySem.W.takesIn K (.builtin "object.__class__") = some true
  hm : PySem.W.mroIn K C (.type "object") = some true
theorem tyx_of {H G : Hp} {ρ : List Addr} {μ : Mu} {v : V} {x : P} (z : Zn α H G ρ μ) (r : Rep α G v x) (O : ∀ c xs, x = .obj c xs → InsOwn α.K (α.cl c)) : TyX α.K H v (tyP α x) := by
  cases r with
  | non => exact .base .non
  | bl b => exact .base (.bl b)
  | int i => exact .base (.int i)
  | str i => exact .base (.str i)
  | tup h _ =>
    rcases h with (h | ⟨o, h⟩) | ⟨o, its, n, h, hc, _⟩
    · exact .base (.tup (z.sub _ _ h))
    · exact .fTuple (z.sub _ _ h)
    · exact .kTuple h hc
  | lst h _ => exact .base (.lst (z.sub _ _ h))
  | wl h _ =>
    rcases h with (h | ⟨o, h⟩) | ⟨o, its, n, h, hc, _⟩
    · exact .base (.lst (z.sub _ _ h))
    · exact .base (.frz (z.sub _ _ h))
    · exact .kList h hc
  | obj h _ _ =>
    have o := O _ _ rfl
    exact .base (.ins (z.sub _ _ h) o.cls o.ha o.hn o.htk o.hm)
def isLst (μ : Mu) (d : D) : Bool := match view μ d with
  | some (.lst _) => true
  | _ => false
abbrev FM := D → List D → Mu → Option (D × Mu)
def rMV (α : Amb) (f : FM) : V → List V → Hp → VK → Prop := fun x vs H Q => ∃ G ρ μ d ds, Zn α H G ρ μ ∧ RepD α G ρ x d ∧ RepDs α G ρ vs ds ∧ Fin1 α G ρ Q (f d ds μ)
def evBM (ty : Mu → D → Bool) (f : FM) (o : Ev) (a : EvA) : Ev := fun δ μ => bindG (o δ μ) fun x μ1 => if ty μ1 x = true then bindG (a δ μ1) fun ds μ2 => okm (f x ds μ2) else none
theorem ty_lst {H G : Hp} {ρ : List Addr} {μ : Mu} {v : V} {d : D} (z : Zn α H G ρ μ) (r : RepD α G ρ v d) (h : isLst μ d = true) : tyV X.K "list" v H := by
  unfold isLst at h
  split at h
  · rename_i xs hv
    obtain ⟨a, vs, rfl, h1, h2⟩ := view_lst z r hv
    exact .inl ⟨rfl, vs, SqL.of h1⟩
  · cases h
theorem v_bm {T id : String} {name : Str} {ty : Mu → D → Bool} {f : FM} {o e : Expr} {es : List Expr} {eo : Ev} {a : EvA} {apos cpos : Pos} (pa : PlainAttrs T) (slot : Slot T name id) (hty : typeOf (.builtin id) = pure (.type "method_descriptor")) (hm : MtR X id (rMV α f))
    (htv : ∀ {H G : Hp} {ρ : List Addr} {μ : Mu} {v : V} {d : D}, Zn α H G ρ μ → RepD α G ρ v d → ty μ d = true → tyV X.K T v H) (ho : PE X o (tV α W eo)) (ha : PA X (e :: es) (tVs α W a))
    (hbase : attributeBase o name X.env (eval o X.env) = eval o X.env := by rfl)
    (hfew : ((backTo cpos (starEach (e :: es) X.env)).all (fun x => !x.1) && (backToKw cpos (keywordEach [] X.env)).all (fun x => x.1.isSome)
      && decide ((e :: es).length + ([] : List Keyword).length + (if ([] : List Keyword).isEmpty then 0 else 1) < 30)) = true := by rfl)
    (hline : (apos.endLine == cpos.line) = true := by rfl) (hs : starEach (e :: es) X.env = (false, eval e X.env) :: starEach es X.env := by rfl) (hplain : (backTo cpos (starEach es X.env)).any (·.1) = false := by rfl) :
    PE X (.Call (.Attribute o name apos) (e :: es) [] cpos) (tV α W (evBM ty f eo a)) :=
  PE.imp (pe_bm pa slot hty hm ho ha hbase hfew hline hs hplain) fun σ H Q ⟨G, ρ, δ, μ, z, s, p⟩ => ⟨G, ρ, δ, μ, z, s, Post.bind p fun d μ1 v H1 G1 ρ1 u z1 r1 p1 => by
    split at p1
    · rename_i ht
      exact ⟨htv z1 r1 ht, G1, ρ1, δ, μ1, z1, s.up u, Post.bind p1 fun ds μ2 vs H2 G2 ρ2 u2 z2 r2 p2 => ⟨G2, ρ2, μ2, d, ds, z2, r1.up u2, r2, p2.fin⟩⟩
    · exact p1.elim⟩
def fApp : FM := fun x ds μ => match x, ds with
  | .loc l, [d] => match toP μ d with
    | some (y, μ1) => match cellL μ1 l with
      | some xs => if xs.length < sizeLine then some (.p .non, μ1.set l (some (.lst (xs ++ [y])))) else none
      | none => none
    | none => none
  | _, _ => none
theorem m_append : MtR X "list.append" (rMV α fApp) := MtR.imp mt_append fun x vs H Q ⟨G, ρ, μ, d, ds, z, r, rs, q⟩ => by
  unfold fApp at q
  split at q
  · rename_i l d'
    obtain ⟨v, rfl, rs1⟩ := rds1 rs
    cases h1 : toP μ d' with
    | none => rw [h1] at q; exact q.elim
    | some ym =>
      obtain ⟨y, μ1⟩ := ym
      rw [h1] at q
      dsimp only at q
      obtain ⟨G1, u1, z1, r1⟩ := toP_ok z rs1 h1
      cases h2 : cellL μ1 l with
      | none => rw [h2] at q; exact q.elim
      | some xs =>
        rw [h2] at q
        dsimp only at q
        split at q
        · rename_i hl
          obtain ⟨a, rfl, ha⟩ := r
          obtain ⟨ws, g1, g2⟩ := cell_at z1 h2 ha
          exact ⟨a, ws, v, rfl, rfl, g1, by rw [g2.length]; exact hl, q _ _ G1 ρ u1 (z1.write (cellL_some h2) ha (m' := .lst (xs ++ [y])) ⟨_, rfl, g2.append (.cons r1 .nil)⟩) .non⟩
        · exact q.elim
  · exact q.elim
def fIns : FM := fun x ds μ => match x, ds with
  | .loc l, [.p (.int i), d] => match toP μ d with
    | some (y, μ1) => match cellL μ1 l with
      | some xs => if xs.length < sizeLine ∧ 0 ≤ i ∧ i < 2 ^ 63 then some (.p .non, μ1.set l (some (.lst (xs.take i.toNat ++ [y] ++ xs.drop i.toNat)))) else none
      | none => none
    | none => none
  | _, _ => none
theorem m_insert : MtR X "list.insert" (rMV α fIns) := MtR.imp mt_insert fun x vs H Q ⟨G, ρ, μ, d, ds, z, r, rs, q⟩ => by
  unfold fIns at q
  split at q
  · rename_i l i d'
    obtain ⟨v, w, rfl, ri, rs1⟩ := rds2 rs
    cases h1 : toP μ d' with
    | none => rw [h1] at q; exact q.elim
    | some ym =>
      obtain ⟨y, μ1⟩ := ym
      rw [h1] at q
      dsimp only at q
      obtain ⟨G1, u1, z1, r1⟩ := toP_ok z rs1 h1
      cases h2 : cellL μ1 l with
      | none => rw [h2] at q; exact q.elim
      | some xs =>
        rw [h2] at q
        dsimp only at q
        split at q
        · rename_i hl
          obtain ⟨a, rfl, ha⟩ := r
          obtain ⟨ws, g1, g2⟩ := cell_at z1 h2 ha
          exact ⟨a, ws, i, w, rfl, by rw [repInt ri], g1, by rw [g2.length]; exact hl.1, hl.2.1, hl.2.2, q _ _ G1 ρ u1 (z1.write (cellL_some h2) ha (m' := .lst _) ⟨_, rfl, ((g2.take _).append (.cons r1 .nil)).append (g2.drop _)⟩) .non⟩
        · exact q.elim
  · exact q.elim
/-- o[i] = e, o a list that may change -/
def sSetIx (o i e : Ev) : SEv := fun δ μ => bindS (e δ μ) δ fun d μ1 => bindS (o δ μ1) δ fun x μ2 => bindS (i δ μ2) δ fun j μ3 => match x, j, toP μ3 d with
  | .loc l, .p (.int k), some (y, μ4) => match cellL μ4 l with
    | some xs => match ixN xs.length k with
      | some n => some (.nx, δ, μ4.set l (some (.lst (xs.set n y))))
      | none => none
    | none => none
  | _, _, _ => none
theorem v_setIx {o i e : Expr} {eo ei ee : Ev} {p2 pos : Pos} (ho : PE X o (tV α W eo)) (hi : PE X i (tV α W ei)) (he : PE X e (tV α W ee))
    (hg : ∀ v, assign (.Subscript o i p2) X.env v = (do
      let ov ← holding [v] (eval o X.env)
      let iv ← holding [v, ov] (eval i X.env)
      standAt p2
      holding [v, ov, iv] (setItem ov iv v)
      release [v, ov, iv] []) := by intro _; rfl) (hs : swapsWithSole [.Subscript o i p2] e pos.line X.env = pure false := by rfl) (hw : swappedStores [.Subscript o i p2] e X.env = pure none := by rfl) (h1 : (assignEach [.Subscript o i p2] X.env).map (·.2) = [assign (.Subscript o i p2) X.env] := by rfl) :
    PS X (.Assign [.Subscript o i p2] e pos) (tS α W (sSetIx eo ei ee)) :=
  PS.imp (ps_asg he (pg_sub ho hi set_list hg) hs hw h1) fun Dn σ H ⟨G, ρ, δ, μ, z, s, p⟩ => ⟨G, ρ, δ, μ, z, s, SPost.bind p s fun d μ1 y H1 G1 ρ1 u z1 r1 p1 => ⟨G1, ρ1, δ, μ1, z1, s.up u, SPost.bind p1 (s.up u) fun x μ2 v H2 G2 ρ2 u2 z2 r2 p2 => ⟨G2, ρ2, δ, μ2, z2, (s.up u).up u2, SPost.bind p2 ((s.up u).up u2) fun j μ3 w H3 G3 ρ3 u3 z3 r3 p3 => by
    split at p3
    · rename_i l k y' μ4 q4
      obtain ⟨G4, u4, z4, r4⟩ := toP_ok z3 ((r1.up u2).up u3) q4
      cases h2 : cellL μ4 l with
      | none => rw [h2] at p3; exact p3.elim
      | some xs =>
        rw [h2] at p3
        dsimp only at p3
        cases h3 : ixN xs.length k with
        | none => rw [h3] at p3; exact p3.elim
        | some n =>
          rw [h3] at p3
          obtain ⟨a, rfl, ha⟩ := r2.up u3
          obtain ⟨ws, g1, g2⟩ := cell_at z4 h2 ha
          exact ⟨a, ws, k, n, rfl, repInt r3, g1, by rw [g2.length]; exact h3, p3 σ _ G4 ρ3 u4 (z4.write (cellL_some h2) ha (m' := .lst _) ⟨_, rfl, g2.set r4 n⟩) (((s.up u).up u2).up u3 |>.up u4)⟩
    · exact p3.elim⟩⟩⟩
def sRaise (c : Nat) : SEv := fun δ μ => some (.exc c, δ, μ)
theorem v_raise {e : Expr} {c : Nat} {pos : Pos} (hc : X.calm = true) (tk : Takes X W) (h : PMk X e (fun _ H Q => Q (.ref (α.cl c)) none H)) : PS X (.Raise (some e) none pos) (tS α W (sRaise c)) :=
  PS.imp (ps_raise hc tk h) fun Dn σ H ⟨G, ρ, δ, μ, z, s, p⟩ => p σ H G ρ Up.refl z s
structure Fn (P : Program) (w : World) (K : PySem.W.Frag) (mg : Str → Option Value) (base : Heap) (α : Amb) (k : Nat) (x : Str) (n : Nat) (sem : FSem) : Prop where
  ex : ∃ (f : Addr) (fd : FuncData) (ps : List Str), mg x = some (.ref f) ∧ PySem.W.keepIn K (.ref f) = true ∧ Binds K fd ps [] ∧ FnOk P w K mg base (L2.CX P w) k f fd ps (spF α n sem)
  ar : Arity sem n
/-- a method of the class at C, by its worth -/
structure Mt (P : Program) (w : World) (K : PySem.W.Frag) (mg : Str → Option Value) (base : Heap) (α : Amb) (k : Nat) (C : Addr) (x : Str) (n : Nat) (sem : FSem) : Prop where
  ex : ∃ (f : Addr) (fd : FuncData) (ps : List Str), PySem.W.findIn K (.ref C) x = some (some (.ref f)) ∧ PySem.W.isFn K (.ref f) = true ∧ PySem.W.keepIn K (.ref f) = true ∧ Binds K fd ps [] ∧ FnOk P w K mg base (L2.CX P w) k f fd ps (spF α n sem)
  ar : Arity sem n
namespace Om
variable {k n : Nat} {sem : FSem} {x : Str} {p pos : Pos} {e : Expr} {es : List Expr} {args : EvA}
theorem call (tk : Takes X W) (hr : Room k X.A) (F : Fn X.prog X.w X.K X.mg X.base α k x n sem) (ha : PA X (e :: es) (tVs α W args)) (hg : Gl X x := by rfl) (hdb : (x == ("__debug__" : Str)) = false := by decide)
    (he : starEach (e :: es) X.env = (false, eval e X.env) :: starEach es X.env := by rfl) (hpl : (backTo pos (starEach es X.env)).any (·.1) = false := by rfl) : PE X (.Call (.Name x p) (e :: es) [] pos) (tV α W (evCall sem [] args)) := by
  obtain ⟨⟨f, fd, ps, hm, hk, hb, F⟩, ar⟩ := F
  exact v_call tk hr F ar hm hk hb .nil (fun _ => .nil) ha hg hdb he hpl
theorem bin {op : Operator} {c : Nat} (tk : Takes X W) (hr : Room k X.A) (hK : X.K = α.K) (F : Mt X.prog X.w X.K X.mg X.base α k (α.cl c) (PySem.dunder op.info.2) n sem) (hf : PySem.W.selfFirst X.K (α.cl c) = true) : OpR X (binaryOp op) (r2V α (fOwn c sem)) := by
  obtain ⟨⟨f, fd, ps, h1, h2, h3, hb, F⟩, ar⟩ := F
  exact o_own tk hr hK F ar hb ⟨hf, h1, h2⟩
theorem neg {c : Nat} (tk : Takes X W) (hr : Room k X.A) (F : Mt X.prog X.w X.K X.mg X.base α k (α.cl c) "__neg__" n sem) (hf : PySem.W.selfFirst X.K (α.cl c) = true) : UnR X (unaryOp .USub) (r1V α (fOwn1 c sem)) := by
  obtain ⟨⟨f, fd, ps, h1, h2, h3, hb, F⟩, ar⟩ := F
  exact o_own1 tk hr F ar hb ⟨hf, h1, h2⟩
theorem eq {c : Nat} (tk : Takes X W) (hr : Room k X.A) (hK : X.K = α.K) (F : Mt X.prog X.w X.K X.mg X.base α k (α.cl c) "__eq__" n sem) (hf : ∀ T ∈ eqTys, PySem.W.notFirst X.K (α.cl c) (.type T) = true) : OpR X (compareOp .Eq) (r2V α (fEqO c sem)) := by
  obtain ⟨⟨f, fd, ps, h1, h2, h3, hb, F⟩, ar⟩ := F
  exact o_eqO tk hr hK F ar hb ⟨h1, h2, hf⟩
theorem ne {c : Nat} (tk : Takes X W) (hr : Room (k + 1) X.A) (hK : X.K = α.K) (F : Mt X.prog X.w X.K X.mg X.base α k (α.cl c) "__eq__" n sem) (hf : ∀ T ∈ eqTys, PySem.W.notFirst X.K (α.cl c) (.type T) = true) (O2 : NeOwn X.K (α.cl c)) : OpR X (compareOp .NotEq) (r2V α (fNeO c sem)) := by
  obtain ⟨⟨f, fd, ps, h1, h2, h3, hb, F⟩, ar⟩ := F
  exact o_neO tk hr hK F ar hb ⟨h1, h2, hf⟩ O2
end Om
/-- a class's making, by its __init__'s worth: with all arguments, and with the defaults -/
structure In (P : Program) (w : World) (K : PySem.W.Frag) (mg : Str → Option Value) (base : Heap) (α : Amb) (k : Nat) (c : Nat) (n : Nat) (dds : List Vs.P) (sem : FSem) : Prop where
  ex : ∃ (f : Addr) (fd : FuncData) (ps : List Str) (dvs : List V) (ds : List Value), Mk K (α.cl c) f ∧ Binds K fd ps ds ∧ Vals dvs ds ∧ (∀ G, Reps α G dvs dds) ∧ FnOk P w K mg base (L2.CX P w) k f fd ps (spF α n sem)
  ar : Arity sem n
namespace Om
theorem mk {k n c nf : Nat} {sem : FSem} {x : Str} {p pos : Pos} {e : Expr} {es : List Expr} {args : EvA} {dds : List P} (tk : Takes X W) (hr : Room (k + 1) X.A) (F : In X.prog X.w X.K X.mg X.base α k c n dds sem) (hm : X.mg x = some (.ref (α.cl c))) (ha : PA X (e :: es) (tVs α W args)) (hnf : (α.fl c).length = nf := by rfl) (hg : Gl X x := by rfl) (hdb : (x == ("__debug__" : Str)) = false := by decide)
    (he : starEach (e :: es) X.env = (false, eval e X.env) :: starEach es X.env := by rfl) (hpl : (backTo pos (starEach es X.env)).any (·.1) = false := by rfl) : PE X (.Call (.Name x p) (e :: es) [] pos) (tV α W (evMake c nf sem dds args)) := by
  obtain ⟨⟨f, fd, ps, dvs, ds, M, hb, hd, hdd, F⟩, ar⟩ := F
  exact v_make tk hr M F ar hnf hm hb hd hdd ha hg hdb he hpl
end Om
/-- a def as the top has left it -/
structure DefAt (K : PySem.W.Frag) (mg : Str → Option Value) (x : Str) (st : Stmt) : Prop where
  ex : ∃ (f : Addr) (fd : FuncData), mg x = some (.ref f) ∧ Fun K x x st f fd
theorem defAt_mk {K : PySem.W.Frag} {h : Heap} {mg : Str → Option Value} {x : Str} {st : Stmt} {f : Addr} {od an : Option Addr} {sl : Array (Option Value)} {oc kV dc pm cd ct : Value} (Y : K.In h) (G : h.Ns mainGlobals mg)
    (a : PySem.W.nsIn K mainGlobals x = some (some (.ref f))) (l : K.lookup f = some ⟨oc, od, .func (PySem.W.fnOf x x (defArgs st) (defBody st) (defScope st) .none kV dc pm an cd ct), sl⟩) (c : PySem.W.codeIn K cd x = true) (k : PySem.W.keepIn K (.ref f) = true) : DefAt K mg x st :=
  ⟨f, _, PySem.W.mg_of Y G a, fun_mk l c k⟩
structure MethAt (K : PySem.W.Frag) (C : Addr) (x qual : Str) (st : Stmt) : Prop where
  ex : ∃ (f : Addr) (fd : FuncData), PySem.W.findIn K (.ref C) x = some (some (.ref f)) ∧ PySem.W.isFn K (.ref f) = true ∧ Fun K x qual st f fd
theorem methAt_mk {K : PySem.W.Frag} {C : Addr} {x qual : Str} {st : Stmt} {f : Addr} {od an : Option Addr} {sl : Array (Option Value)} {oc kV dc pm cd ct : Value}
    (a : PySem.W.findIn K (.ref C) x = some (some (.ref f))) (i : PySem.W.isFn K (.ref f) = true) (l : K.lookup f = some ⟨oc, od, .func (PySem.W.fnOf x qual (defArgs st) (defBody st) (defScope st) .none kV dc pm an cd ct), sl⟩) (c : PySem.W.codeIn K cd qual = true) (k : PySem.W.keepIn K (.ref f) = true) : MethAt K C x qual st :=
  ⟨f, _, a, i, fun_mk l c k⟩
def isiO (c : Nat) : P → Option Bool
  | .obj c' _ => if c' = c then some true else none
  | _ => some false
def tyNm : P → String
  | .non => "NoneType"
  | .bl _ => "bool"
  | .int _ => "int"
  | .str _ => "str"
  | .tup _ => "tuple"
  | .lst _ => "list"
  | .wl _ => "list"
  | .obj _ _ => "object"
/-- of a built-in type T; own objects of the classes below n are none -/
def isiT (n : Nat) (T : String) : P → Option Bool
  | .obj c _ => if c < n then some false else none
  | x => if tyNm x = T then some true else (if (tyNm x = "bool" ∧ T = "int") then some true else some false)
structure IsiO (K : PySem.W.Frag) (α : Amb) (c : Nat) : Prop where
  ty : ∀ T ∈ eqTys, PySem.W.kitOne K (.type T) (.ref (α.cl c)) = some false
  self : PySem.W.kitOne K (.ref (α.cl c)) (.ref (α.cl c)) = some true
  ins : InsOwn K (α.cl c)
theorem isiO_ok {c : Nat} (O : IsiO α.K α c) : ∀ x b, isiO c x = some b → PySem.W.kitOne α.K (tyP α x) (.ref (α.cl c)) = some b ∧ ∀ c' xs, x = .obj c' xs → InsOwn α.K (α.cl c') := fun x b h => by
  cases x with
  | obj c' xs =>
    have h : (if c' = c then some true else none) = some b := h
    by_cases e : c' = c
    · rw [if_pos e] at h
      cases h
      rw [e]
      exact ⟨O.self, fun c2 xs2 e2 => by cases e2; exact O.ins⟩
    · rw [if_neg e] at h
      cases h
  | _ => cases h; exact ⟨O.ty _ (by decide), fun _ _ e => by cases e⟩
theorem isiT_ok {n : Nat} {T : String} (hT : ∀ c, c < n → PySem.W.kitOne α.K (.ref (α.cl c)) (.type T) = some false ∧ InsOwn α.K (α.cl c)) (hb : ∀ S ∈ eqTys, kitB S T = some (decide (S = T) || (decide (S = "bool") && decide (T = "int")))) :
    ∀ x b, isiT n T x = some b → PySem.W.kitOne α.K (tyP α x) (.type T) = some b ∧ ∀ c' xs, x = .obj c' xs → InsOwn α.K (α.cl c') := fun x b h => by
  have key : ∀ S, S ∈ eqTys → (if S = T then some true else (if (S = "bool" ∧ T = "int") then some true else some false)) = some b → PySem.W.kitOne α.K (.type S) (.type T) = some b := fun S hS h => by
    rw [kit_ty (hb S hS)]
    split at h
    · rename_i e; cases h; simp [e]
    · rename_i e
      split at h
      · rename_i e2; cases h; simp [e2.1, e2.2]
      · rename_i e2; cases h
        rw [decide_eq_false e, Bool.false_or]
        by_cases e3 : S = "bool"
        · have e4 : ¬ T = "int" := fun z => e2 ⟨e3, z⟩
          rw [decide_eq_false e4, Bool.and_false]
        · rw [decide_eq_false e3, Bool.false_and]
  cases x with
  | obj c' xs =>
    have h : (if c' < n then some false else none) = some b := h
    split at h
    · rename_i e
      cases h
      exact ⟨(hT c' e).1, fun c'' xs' e' => by cases e'; exact (hT c' e).2⟩
    · cases h
  | _ => exact ⟨key _ (by decide) h, fun _ _ e => by cases e⟩
end
end Vs
namespace Vs
open PySem PySem.Spec PyProof.Rows L2
section
variable {β γ : Type} {x : β} {c : Nat} {μ μ' : Mu} {δ δ' : Sl}
@[simp] theorem bindG_ok {f : β → Mu → Option (Out γ × Mu)} : bindG (some (.ok x, μ)) f = f x μ := rfl
@[simp] theorem bindG_exc {f : β → Mu → Option (Out γ × Mu)} : bindG (some (.exc c, μ)) f = some (.exc c, μ) := rfl
@[simp] theorem bindG_none {f : β → Mu → Option (Out γ × Mu)} : bindG none f = none := rfl
@[simp] theorem bindS_ok {f : β → Mu → Option (Fl × Sl × Mu)} : bindS (some (.ok x, μ)) δ f = f x μ := rfl
@[simp] theorem bindS_exc {f : β → Mu → Option (Fl × Sl × Mu)} : bindS (some (.exc c, μ)) δ f = some (.exc c, δ, μ) := rfl
@[simp] theorem bindS_none {f : β → Mu → Option (Fl × Sl × Mu)} : bindS none δ f = none := rfl
end
section
variable {δ δ' : Sl} {μ μ' : Mu} {a b : SEv} {e e' ea eb : Ev} {t t' : EvT} {args : EvA} {f1 : F1} {f2 : F2} {fa : FA}
@[simp] theorem okm_some {d : D} : okm (some (d, μ)) = some (.ok d, μ) := rfl
@[simp] theorem okm_none : okm none = none := rfl
@[simp] theorem evC_eq {x : P} : evC x δ μ = some (.ok (.p x), μ) := rfl
theorem evV_at {i : Nat} {d : D} (h : δ[i]? = some (some d)) : evV i δ μ = some (.ok d, μ) := by unfold evV; rw [h]
@[simp] theorem evV_0 {d : D} : evV 0 (some d :: δ) μ = some (.ok d, μ) := rfl
@[simp] theorem evV_1 {a0} {d : D} : evV 1 (a0 :: some d :: δ) μ = some (.ok d, μ) := rfl
@[simp] theorem evV_2 {a0 a1} {d : D} : evV 2 (a0 :: a1 :: some d :: δ) μ = some (.ok d, μ) := rfl
@[simp] theorem evV_3 {a0 a1 a2} {d : D} : evV 3 (a0 :: a1 :: a2 :: some d :: δ) μ = some (.ok d, μ) := rfl
@[simp] theorem evV_4 {a0 a1 a2 a3} {d : D} : evV 4 (a0 :: a1 :: a2 :: a3 :: some d :: δ) μ = some (.ok d, μ) := rfl
@[simp] theorem evV_5 {a0 a1 a2 a3 a4} {d : D} : evV 5 (a0 :: a1 :: a2 :: a3 :: a4 :: some d :: δ) μ = some (.ok d, μ) := rfl
@[simp] theorem evV_6 {a0 a1 a2 a3 a4 a5} {d : D} : evV 6 (a0 :: a1 :: a2 :: a3 :: a4 :: a5 :: some d :: δ) μ = some (.ok d, μ) := rfl
@[simp] theorem evV_7 {a0 a1 a2 a3 a4 a5 a6} {d : D} : evV 7 (a0 :: a1 :: a2 :: a3 :: a4 :: a5 :: a6 :: some d :: δ) μ = some (.ok d, μ) := rfl
@[simp] theorem evV_8 {a0 a1 a2 a3 a4 a5 a6 a7} {d : D} : evV 8 (a0 :: a1 :: a2 :: a3 :: a4 :: a5 :: a6 :: a7 :: some d :: δ) μ = some (.ok d, μ) := rfl
@[simp] theorem evV_9 {a0 a1 a2 a3 a4 a5 a6 a7 a8} {d : D} : evV 9 (a0 :: a1 :: a2 :: a3 :: a4 :: a5 :: a6 :: a7 :: a8 :: some d :: δ) μ = some (.ok d, μ) := rfl
@[simp] theorem evV_10 {a0 a1 a2 a3 a4 a5 a6 a7 a8 a9} {d : D} : evV 10 (a0 :: a1 :: a2 :: a3 :: a4 :: a5 :: a6 :: a7 :: a8 :: a9 :: some d :: δ) μ = some (.ok d, μ) := rfl
@[simp] theorem evBin_eq : evBin f2 ea eb δ μ = bindG (ea δ μ) fun x μ1 => bindG (eb δ μ1) fun y μ2 => okm (f2 x y μ2) := rfl
@[simp] theorem evUn_eq : evUn f1 ea δ μ = bindG (ea δ μ) fun x μ1 => okm (f1 x μ1) := rfl
@[simp] theorem evBI_eq : evBI fa args δ μ = bindG (args δ μ) fun ds μ1 => okm (fa ds μ1) := rfl
@[simp] theorem evNil_eq : evNil δ μ = some (.ok [], μ) := rfl
@[simp] theorem evCons_eq {r : EvA} : evCons ea r δ μ = bindG (ea δ μ) fun x μ1 => bindG (r δ μ1) fun xs μ2 => some (.ok (x :: xs), μ2) := rfl
@[simp] theorem evCall_eq {sem : FSem} {dds : List P} : evCall sem dds args δ μ = bindG (args δ μ) fun ds μ1 => sem (ds ++ dds.map .p) μ1 := rfl
@[simp] theorem evMake_eq {sem : FSem} {dds : List P} {c nf : Nat} : evMake c nf sem dds args δ μ = bindG (args δ μ) fun ds μ1 => mkEnd c nf μ1.length (sem (.loc μ1.length :: (ds ++ dds.map .p)) (μ1 ++ [some (.ins c [])])) := rfl
def toB (μ : Mu) : D → Option (Out Bool × Mu)
  | .p (.bl b) => some (.ok b, μ)
  | _ => none
@[simp] theorem evB_eq' : evB ea δ μ = bindG (ea δ μ) fun x μ1 => toB μ1 x := rfl
@[simp] theorem toB_bl {b : Bool} : toB μ (.p (.bl b)) = some (.ok b, μ) := rfl
@[simp] theorem tNotV_eq : tNotV t δ μ = bindG (t δ μ) fun b μ1 => some (.ok (!b), μ1) := rfl
@[simp] theorem tAndV_eq : tAndV' t t' δ μ = bindG (t δ μ) fun x μ1 => if x = true then t' δ μ1 else some (.ok false, μ1) := rfl
@[simp] theorem tOrV_eq : tOrV' t t' δ μ = bindG (t δ μ) fun x μ1 => if x = true then some (.ok true, μ1) else t' δ μ1 := rfl
def andD (k : Option (Out D × Mu)) (μ : Mu) : D → Option (Out D × Mu)
  | .p (.bl true) => k
  | .p (.bl false) => some (.ok (.p (.bl false)), μ)
  | _ => none
def orD (k : Option (Out D × Mu)) (μ : Mu) : D → Option (Out D × Mu)
  | .p (.bl false) => k
  | .p (.bl true) => some (.ok (.p (.bl true)), μ)
  | _ => none
@[simp] theorem evAnd_eq : evAnd ea eb δ μ = bindG (ea δ μ) fun x μ1 => andD (eb δ μ1) μ1 x := rfl
@[simp] theorem evOr_eq : evOr ea eb δ μ = bindG (ea δ μ) fun x μ1 => orD (eb δ μ1) μ1 x := rfl
@[simp] theorem andD_bl {k : Option (Out D × Mu)} {b : Bool} : andD k μ (.p (.bl b)) = if b = true then k else some (.ok (.p (.bl false)), μ) := by cases b <;> rfl
@[simp] theorem orD_bl {k : Option (Out D × Mu)} {b : Bool} : orD k μ (.p (.bl b)) = if b = true then some (.ok (.p (.bl true)), μ) else k := by cases b <;> rfl
@[simp] theorem fNot_bl {b : Bool} : fNot (.p (.bl b)) μ = some (.p (.bl (!b)), μ) := rfl
@[simp] theorem evIf_eq : evIf t ea eb δ μ = bindG (t δ μ) fun x μ1 => if x = true then ea δ μ1 else eb δ μ1 := rfl
@[simp] theorem fII_int {C : Int → Int → Bool} {g : Int → Int → P} {i j : Int} : fII C g (.p (.int i)) (.p (.int j)) μ = if C i j = true then some (.p (g i j), μ) else none := rfl
@[simp] theorem fNeg_int {i : Int} : fNeg (.p (.int i)) μ = some (.p (.int (-i)), μ) := rfl
@[simp] theorem fAbs_int {i : Int} : fAbs [.p (.int i)] μ = some (.p (.int (if i < 0 then -i else i)), μ) := rfl
@[simp] theorem fInt_int {i : Int} : fInt [.p (.int i)] μ = some (.p (.int i), μ) := rfl
@[simp] theorem fInt_bl {i : Bool} : fInt [.p (.bl i)] μ = some (.p (.int (if i then 1 else 0)), μ) := rfl
@[simp] theorem fGcd_int {i j : Int} : fGcd [.p (.int i), .p (.int j)] μ = some (.p (.int ((Nat.gcd i.natAbs j.natAbs : Nat) : Int)), μ) := rfl
@[simp] theorem view_p {x : P} : view μ (.p x) = some x := rfl
theorem view_l {l : Nat} {xs : List P} (h : μ[l]? = some (some (.lst xs))) : view μ (.loc l) = some (.lst xs) := by
  show (cellL μ l).map P.lst = _
  unfold cellL
  rw [h]; rfl
theorem cellL_l {l : Nat} {xs : List P} (h : μ[l]? = some (some (.lst xs))) : cellL μ l = some xs := by
  unfold cellL
  rw [h]
@[simp] theorem toP_p {x : P} : toP μ (.p x) = some (x, μ) := rfl
@[simp] theorem toPs_nil : toPs μ [] = some ([], μ) := rfl
def consP (x : P) : Option (List P × Mu) → Option (List P × Mu)
  | some (xs, μ2) => some (x :: xs, μ2)
  | none => none
@[simp] theorem consP_some {x : P} {xs : List P} : consP x (some (xs, μ)) = some (x :: xs, μ) := rfl
@[simp] theorem toPs_cons {x : P} {ds : List D} : toPs μ (.p x :: ds) = consP x (toPs μ ds) := rfl
def tupEnd : Option (List P × Mu) → Option (Out D × Mu)
  | some (xs, μ2) => if xs.length ≤ sizeLine then some (.ok (.p (.tup xs)), μ2) else none
  | none => none
def lstEnd : Option (List P × Mu) → Option (Out D × Mu)
  | some (xs, μ2) => if xs.length ≤ sizeLine then some (.ok (.p (.lst xs)), μ2) else none
  | none => none
def lstEndC : Option (List P × Mu) → Option (Out D × Mu)
  | some (xs, μ2) => if xs.length ≤ sizeLine then some (.ok (.loc μ2.length), μ2 ++ [some (.lst xs)]) else none
  | none => none
@[simp] theorem evTup_eq : evTup args δ μ = bindG (args δ μ) fun ds μ1 => tupEnd (toPs μ1 ds) := rfl
@[simp] theorem evLst_eq : evLst args δ μ = bindG (args δ μ) fun ds μ1 => lstEnd (toPs μ1 ds) := rfl
@[simp] theorem evLstC_eq : evLstC args δ μ = bindG (args δ μ) fun ds μ1 => lstEndC (toPs μ1 ds) := rfl
@[simp] theorem tupEnd_some {xs : List P} : tupEnd (some (xs, μ)) = if xs.length ≤ sizeLine then some (.ok (.p (.tup xs)), μ) else none := rfl
@[simp] theorem lstEnd_some {xs : List P} : lstEnd (some (xs, μ)) = if xs.length ≤ sizeLine then some (.ok (.p (.lst xs)), μ) else none := rfl
@[simp] theorem lstEndC_some {xs : List P} : lstEndC (some (xs, μ)) = if xs.length ≤ sizeLine then some (.ok (.loc μ.length), μ ++ [some (.lst xs)]) else none := rfl
theorem le_line {n : Nat} (h : n ≤ 1000) : n ≤ sizeLine := Nat.le_trans h (by decide)
@[simp] theorem line_0 : (0 : Nat) ≤ sizeLine := Nat.zero_le _
@[simp] theorem line_1 : (1 : Nat) ≤ sizeLine := le_line (by decide)
@[simp] theorem line_2 : (2 : Nat) ≤ sizeLine := le_line (by decide)
@[simp] theorem line_3 : (3 : Nat) ≤ sizeLine := le_line (by decide)
@[simp] theorem line_4 : (4 : Nat) ≤ sizeLine := le_line (by decide)
@[simp] theorem line_5 : (5 : Nat) ≤ sizeLine := le_line (by decide)
@[simp] theorem line_6 : (6 : Nat) ≤ sizeLine := le_line (by decide)
@[simp] theorem line_7 : (7 : Nat) ≤ sizeLine := le_line (by decide)
@[simp] theorem line_8 : (8 : Nat) ≤ sizeLine := le_line (by decide)
def ixAns (μ : Mu) : Option P → Option (D × Mu)
  | some v => some (.p v, μ)
  | none => none
@[simp] theorem ixAns_some {v : P} : ixAns μ (some v) = some (.p v, μ) := rfl
theorem fIx_lst {d : D} {xs : List P} {i : Int} (h : view μ d = some (.lst xs)) : fIx d (.p (.int i)) μ = ixAns μ (atI xs i) := by
  unfold fIx; rw [h]; dsimp only; cases atI xs i <;> rfl
@[simp] theorem fIx_tup {xs : List P} {i : Int} : fIx (.p (.tup xs)) (.p (.int i)) μ = ixAns μ (atI xs i) := by
  unfold fIx; rw [view_p]; dsimp only; cases atI xs i <;> rfl
@[simp] theorem fIx_lstp {xs : List P} {i : Int} : fIx (.p (.lst xs)) (.p (.int i)) μ = ixAns μ (atI xs i) := fIx_lst rfl
@[simp] theorem at_0 {x : P} {xs : List P} : atI (x :: xs) 0 = some x := atI_nat (j := 0) rfl
@[simp] theorem at_1 {x y : P} {xs : List P} : atI (x :: y :: xs) 1 = some y := atI_nat (j := 1) rfl
@[simp] theorem at_2 {x y z : P} {xs : List P} : atI (x :: y :: z :: xs) 2 = some z := atI_nat (j := 2) rfl
@[simp] theorem at_3 {x y z w : P} {xs : List P} : atI (x :: y :: z :: w :: xs) 3 = some w := atI_nat (j := 3) rfl
@[simp] theorem fFld_obj {c i : Nat} {xs : List P} : fFld c i (.p (.obj c xs)) μ = ixAns μ (xs[i]?) := by
  show (if c = c then (xs[i]?).map fun y => (D.p y, μ) else none) = _
  rw [if_pos rfl]; cases xs[i]? <;> rfl
def eqAns (neg : Bool) (μ : Mu) : Option Bool → Option (D × Mu)
  | some b => some (.p (.bl (if neg then !b else b)), μ)
  | none => none
@[simp] theorem eqAns_f {b : Bool} : eqAns false μ (some b) = some (.p (.bl b), μ) := rfl
@[simp] theorem eqAns_t {b : Bool} : eqAns true μ (some b) = some (.p (.bl (!b)), μ) := rfl
@[simp] theorem fEqG_p {neg : Bool} {x y : P} : fEqG neg (.p x) (.p y) μ = eqAns neg μ (eqP x y) := by
  unfold fEqG; rw [view_p, view_p]; dsimp only; cases eqP x y <;> rfl
@[simp] theorem eqP_int {i j : Int} : eqP (.int i) (.int j) = some (decide (i = j)) := rfl
@[simp] theorem eqP_str {i j : Str} : eqP (.str i) (.str j) = some (decide (i = j)) := rfl
@[simp] theorem eqP_bl {i j : Bool} : eqP (.bl i) (.bl j) = some (decide (i = j)) := rfl
@[simp] theorem fIs_non {d : D} {neg : Bool} : fIs neg d (.p .non) μ = some (.p (.bl (if neg then !isNon d else isNon d)), μ) := rfl
@[simp] theorem isNon_int {i : Int} : isNon (.p (.int i)) = false := rfl
@[simp] theorem isNon_lst {i : List P} : isNon (.p (.lst i)) = false := rfl
@[simp] theorem isNon_tup {i : List P} : isNon (.p (.tup i)) = false := rfl
@[simp] theorem isNon_obj {c : Nat} {i : List P} : isNon (.p (.obj c i)) = false := rfl
@[simp] theorem isNon_loc {i : Nat} : isNon (.loc i) = false := rfl
@[simp] theorem isNon_non : isNon (.p .non) = true := rfl
def andThen (b : SEv) : Option (Fl × Sl × Mu) → Option (Fl × Sl × Mu)
  | some (.nx, δ', μ') => b δ' μ'
  | r => r
@[simp] theorem seqS_eq : seqS a b δ μ = andThen b (a δ μ) := by unfold seqS andThen; rfl
@[simp] theorem andThen_nx : andThen b (some (.nx, δ, μ)) = b δ μ := rfl
@[simp] theorem andThen_ret {d : D} : andThen b (some (.ret d, δ, μ)) = some (.ret d, δ, μ) := rfl
@[simp] theorem andThen_exc {c : Nat} : andThen b (some (.exc c, δ, μ)) = some (.exc c, δ, μ) := rfl
@[simp] theorem andThen_brk : andThen b (some (.brk, δ, μ)) = some (.brk, δ, μ) := rfl
@[simp] theorem andThen_cont : andThen b (some (.cont, δ, μ)) = some (.cont, δ, μ) := rfl
@[simp] theorem andThen_none : andThen b none = none := rfl
@[simp] theorem sNil_eq : sNil δ μ = some (.nx, δ, μ) := rfl
@[simp] theorem sSet_eq {i : Nat} : sSet i e δ μ = bindS (e δ μ) δ fun d μ1 => some (.nx, δ.set i (some d), μ1) := rfl
@[simp] theorem sRet_eq : sRet e δ μ = bindS (e δ μ) δ fun d μ1 => some (.ret d, δ, μ1) := rfl
@[simp] theorem sExpr_eq : sExpr e δ μ = bindS (e δ μ) δ fun d μ1 => some (.nx, δ, μ1) := rfl
@[simp] theorem sIf_eq : sIf t a b δ μ = bindS (t δ μ) δ fun x μ1 => if x = true then a δ μ1 else b δ μ1 := rfl
@[simp] theorem sBrk_eq : sBrk δ μ = some (.brk, δ, μ) := rfl
@[simp] theorem sRaise_eq {c : Nat} : sRaise c δ μ = some (.exc c, δ, μ) := rfl
def parEnd (i j : Nat) (δ : Sl) (μ : Mu) : List D → Option (Fl × Sl × Mu)
  | [x, y] => some (.nx, (δ.set i (some x)).set j (some y), μ)
  | _ => none
@[simp] theorem sPar_eq {i j : Nat} : sPar i j args δ μ = bindS (args δ μ) δ fun ds μ1 => parEnd i j δ μ1 ds := rfl
@[simp] theorem parEnd_2 {i j : Nat} {x y : D} : parEnd i j δ μ [x, y] = some (.nx, (δ.set i (some x)).set j (some y), μ) := rfl
@[simp] theorem sFor_eq {it : EvG (List P)} {ts : Tgt} : sFor it ts a δ μ = bindS (it δ μ) δ fun xs μ1 => forL ts a xs δ μ1 := rfl
@[simp] theorem evRng1_eq : evRng1 e δ μ = bindG (e δ μ) fun d μ1 => match d with
  | .p (.int j) => if rngOk j = true then some (.ok (rangeP 0 j.toNat), μ1) else none
  | _ => none := rfl
def asgEnd (ts : Tgt) (δ : Sl) (μ : Mu) : D → Option (Fl × Sl × Mu)
  | .p x => (ts x δ).map fun δ' => (.nx, δ', μ)
  | _ => none
@[simp] theorem sAsgT_eq {ts : Tgt} : sAsgT ts e δ μ = bindS (e δ μ) δ fun d μ1 => asgEnd ts δ μ1 d := rfl
@[simp] theorem asgEnd_p {ts : Tgt} {x : P} : asgEnd ts δ μ (.p x) = (ts x δ).map fun δ' => (.nx, δ', μ) := rfl
def setIxEnd (δ : Sl) (μ : Mu) (x j : D) (d : D) : Option (Fl × Sl × Mu) := match x, j, toP μ d with
  | .loc l, .p (.int k), some (y, μ4) => match cellL μ4 l with
    | some xs => match ixN xs.length k with
      | some n => some (.nx, δ, μ4.set l (some (.lst (xs.set n y))))
      | none => none
    | none => none
  | _, _, _ => none
@[simp] theorem sSetIx_eq : sSetIx ea eb e δ μ = bindS (e δ μ) δ fun d μ1 => bindS (ea δ μ1) δ fun x μ2 => bindS (eb δ μ2) δ fun j μ3 => setIxEnd δ μ3 x j d := rfl
theorem setIxEnd_l {l : Nat} {xs : List P} {k : Int} {n : Nat} {y : P} (h : μ[l]? = some (some (.lst xs))) (hn : ixN xs.length k = some n) : setIxEnd δ μ (.loc l) (.p (.int k)) (.p y) = some (.nx, δ, μ.set l (some (.lst (xs.set n y)))) := by
  unfold setIxEnd; rw [toP_p]; dsimp only; rw [cellL_l h]; dsimp only; rw [hn]
def fldEnd (c i : Nat) (δ : Sl) (μ : Mu) (x d : D) : Option (Fl × Sl × Mu) := match x, toP μ d with
  | .loc l, some (y, μ3) => match μ3[l]? with
    | some (some (.ins c' xs)) => if c' = c then (if i < xs.length then some (.nx, δ, μ3.set l (some (.ins c (xs.set i y)))) else if i = xs.length then some (.nx, δ, μ3.set l (some (.ins c (xs ++ [y])))) else none) else none
    | _ => none
  | _, _ => none
@[simp] theorem sFldS_eq {c i : Nat} : sFldS c i ea e δ μ = bindS (e δ μ) δ fun d μ1 => bindS (ea δ μ1) δ fun x μ2 => fldEnd c i δ μ2 x d := rfl
theorem fldEnd_new {c i l : Nat} {xs : List P} {y : P} (h : μ[l]? = some (some (.ins c xs))) (hi : i = xs.length) : fldEnd c i δ μ (.loc l) (.p y) = some (.nx, δ, μ.set l (some (.ins c (xs ++ [y])))) := by
  unfold fldEnd; rw [toP_p]; dsimp only; rw [h]; dsimp only; rw [if_pos rfl, if_neg (by omega), if_pos hi]
@[simp] theorem take_set_len {l : Nat} {o : Option MO} : (μ.set l o).take μ.length = μ.set l o := by
  rw [show μ.length = (μ.set l o).length by rw [List.length_set]]; exact List.take_length
/-- a worth, for so many arguments -/
def arF (n : Nat) (sem : FSem) : FSem := fun ds μ => if ds.length = n then sem ds μ else none
theorem arF_ar {n : Nat} {sem : FSem} : Arity (arF n sem) n := fun ds μ r h => by
  unfold arF at h
  split at h
  · assumption
  · cases h
theorem arF_le {n : Nat} {sem : FSem} : ∀ ds μ r, arF n sem ds μ = some r → sem ds μ = some r := fun ds μ r h => by
  unfold arF at h
  split at h
  · exact h
  · cases h
theorem bodySem_eq {N : Nat} {ds : List D} : bodySem N a ds μ = retF μ.length (a (ds.map some ++ List.replicate (N - ds.length) none) μ) := rfl
theorem bodySemC_eq {N : Nat} {ds : List D} : bodySemC N a ds μ = retC μ.length (a (ds.map some ++ List.replicate (N - ds.length) none) μ) := rfl
@[simp] theorem retF_p {n : Nat} {x : P} : retF n (some (.ret (.p x), δ, μ)) = some (.ok (.p x), μ.take n) := rfl
@[simp] theorem retF_nx {n : Nat} : retF n (some (.nx, δ, μ)) = some (.ok (.p .non), μ.take n) := rfl
@[simp] theorem retF_exc {n c : Nat} : retF n (some (.exc c, δ, μ)) = some (.exc c, μ.take n) := rfl
end
end Vs
namespace Vs
open PySem PySem.Spec PyProof.Rows L2
/-- an object of the class Ratio; a pair of the law -/
def rat (q : Rat) : P := .obj 0 [.int q.num, .int (q.den : Int)]
def pr (q : Rat) : P := .tup [.int q.num, .int (q.den : Int)]
/-- the lowest terms of n / d, as they are worked out -/
def qn (n d : Int) : Int × Int := if d < 0 then (n.fdiv (-(Nat.gcd n.natAbs d.natAbs : Int)), d.fdiv (-(Nat.gcd n.natAbs d.natAbs : Int))) else (n.fdiv (Nat.gcd n.natAbs d.natAbs : Int), d.fdiv (Nat.gcd n.natAbs d.natAbs : Int))
theorem gcd_ne {n d : Int} (h : d ≠ 0) : (Nat.gcd n.natAbs d.natAbs : Int) ≠ 0 := by
  have : 0 < Nat.gcd n.natAbs d.natAbs := Nat.gcd_pos_of_pos_right _ (Int.natAbs_pos.mpr h)
  omega
theorem fdiv_exact {a g k : Int} (hg : g ≠ 0) (h : a = g * k) : a.fdiv g = k := by
  subst h
  rw [Int.mul_comm]
  exact Int.mul_fdiv_cancel k hg
theorem qn_eq {n d : Int} (h : d ≠ 0) : qn n d = ((Rat.divInt n d).num, ((Rat.divInt n d).den : Int)) := by
  have g0 := gcd_ne (n := n) h
  obtain ⟨a, ha⟩ : (Nat.gcd n.natAbs d.natAbs : Int) ∣ n := Int.ofNat_dvd_left.mpr (Nat.gcd_dvd_left _ _)
  obtain ⟨b, hb⟩ : (Nat.gcd n.natAbs d.natAbs : Int) ∣ d := Int.ofNat_dvd_left.mpr (Nat.gcd_dvd_right _ _)
  have gg : d.gcd n = Nat.gcd n.natAbs d.natAbs := by
    show Nat.gcd d.natAbs n.natAbs = _
    exact Nat.gcd_comm _ _
  have gpos : (0 : Int) < (Nat.gcd n.natAbs d.natAbs : Int) := by omega
  generalize hg : (Nat.gcd n.natAbs d.natAbs : Int) = g at *
  have den : ((Rat.divInt n d).den : Int) = d.natAbs / g := by
    rw [Rat.den_divInt, if_neg h, gg, Int.natCast_ediv, hg]
  rw [Prod.ext_iff]
  unfold qn
  rw [hg]
  by_cases hd : d < 0
  · rw [if_pos hd]
    refine ⟨?_, ?_⟩
    · show n.fdiv (-g) = (Rat.divInt n d).num
      rw [fdiv_exact (g := -g) (k := -a) (by omega) (by rw [Int.neg_mul_neg]; exact ha), Rat.num_divInt, gg, hg, Int.sign_eq_neg_one_of_neg hd]
      have e : (-1 : Int) * n = g * (-a) := by rw [Int.mul_neg, ← ha]; omega
      rw [e, Int.mul_ediv_cancel_left _ g0]
    · show d.fdiv (-g) = ((Rat.divInt n d).den : Int)
      rw [fdiv_exact (g := -g) (k := -b) (by omega) (by rw [Int.neg_mul_neg]; exact hb), den]
      have e : (d.natAbs : Int) = g * (-b) := by rw [Int.mul_neg, ← hb]; omega
      rw [e, Int.mul_ediv_cancel_left _ g0]
  · rw [if_neg hd]
    refine ⟨?_, ?_⟩
    · show n.fdiv g = (Rat.divInt n d).num
      rw [fdiv_exact g0 ha, Rat.num_divInt, gg, hg, Int.sign_eq_one_of_pos (by omega)]
      have e : (1 : Int) * n = g * a := by rw [← ha]; omega
      rw [e, Int.mul_ediv_cancel_left _ g0]
    · show d.fdiv g = ((Rat.divInt n d).den : Int)
      rw [fdiv_exact g0 hb, den]
      have e : (d.natAbs : Int) = g * b := by rw [← hb]; omega
      rw [e, Int.mul_ediv_cancel_left _ g0]
/-- less than 2 ^ k -/
def Sz (k : Nat) (n : Int) : Prop := n.natAbs < 2 ^ k
theorem Sz.mono {j k : Nat} {n : Int} (h : Sz j n) (e : j ≤ k) : Sz k n := Nat.lt_of_lt_of_le h (Nat.pow_le_pow_right (by decide) e)
theorem Sz.mul {j k : Nat} {a b : Int} (h : Sz j a) (h2 : Sz k b) : Sz (j + k) (a * b) := by
  unfold Sz at *
  rw [Int.natAbs_mul, Nat.pow_add]
  exact Nat.mul_lt_mul'' h h2
theorem Sz.add {j k : Nat} {a b : Int} (h : Sz j a) (h2 : Sz k b) : Sz (max j k + 1) (a + b) := by
  have h := h.mono (Nat.le_max_left j k)
  have h2 := h2.mono (Nat.le_max_right j k)
  unfold Sz at *
  rw [Nat.pow_succ]
  omega
theorem Sz.sub {j k : Nat} {a b : Int} (h : Sz j a) (h2 : Sz k b) : Sz (max j k + 1) (a - b) := by
  have h := h.mono (Nat.le_max_left j k)
  have h2 := h2.mono (Nat.le_max_right j k)
  unfold Sz at *
  rw [Nat.pow_succ]
  omega
theorem Sz.neg {j : Nat} {a : Int} (h : Sz j a) : Sz j (-a) := by unfold Sz at *; omega
theorem Sz.log {k : Nat} {n : Int} (h : Sz k n) (hk : 0 < k) : n.natAbs.log2 < k := PySem.Flt.log2_lt_of hk h
theorem mulOk_of {j k : Nat} {a b : Int} (h : Sz j a) (h2 : Sz k b) (hj : 0 < j) (hk : 0 < k) (e : j + k ≤ 1000000) : mulOk a b = true := by
  have := h.log hj
  have := h2.log hk
  exact decide_eq_true (by omega)
theorem divOk_of {i j : Int} (h : j ≠ 0) (h2 : j.natAbs.log2 < 9000) : divOk i j = true := by
  unfold divOk
  rw [Bool.and_eq_true]
  exact ⟨decide_eq_true h, decide_eq_true h2⟩
theorem gcd_sz {k : Nat} {n d : Int} (h : Sz k d) (h0 : d ≠ 0) : Nat.gcd n.natAbs d.natAbs < 2 ^ k :=
  Nat.lt_of_le_of_lt (Nat.le_of_dvd (Int.natAbs_pos.mpr h0) (Nat.gcd_dvd_right _ _)) h
theorem num_sz {k : Nat} {n d : Int} (h : Sz k n) : Sz k (Rat.divInt n d).num := by
  unfold Sz at *
  rw [Rat.num_divInt]
  refine Nat.lt_of_le_of_lt ?_ h
  refine Nat.le_trans (Int.natAbs_ediv_le_natAbs _ _) ?_
  rw [Int.natAbs_mul]
  have : d.sign.natAbs ≤ 1 := by
    rcases Int.lt_trichotomy d 0 with h | h | h
    · rw [Int.sign_eq_neg_one_of_neg h]; decide
    · subst h; decide
    · rw [Int.sign_eq_one_of_pos h]; decide
  calc d.sign.natAbs * n.natAbs ≤ 1 * n.natAbs := Nat.mul_le_mul_right _ this
    _ = n.natAbs := Nat.one_mul _
theorem den_sz {k : Nat} {n d : Int} (h : Sz k d) (h0 : d ≠ 0) : Sz k ((Rat.divInt n d).den : Int) := by
  unfold Sz at *
  rw [Rat.den_divInt, if_neg h0]
  refine Nat.lt_of_le_of_lt ?_ h
  exact Nat.div_le_self _ _
end Vs
namespace Vs
open PySem PySem.Spec PyProof.Rows L2
section
variable {α : Amb} {P : Program} {w : World} {K : PySem.W.Frag} {mg : Str → Option Value} {base : Heap}
/-- as fnV, for a def with defaults -/
theorem fnVD {x qual : Str} {st : Stmt} {dvs : List V} {f : Addr} {fd : FuncData} {N ps : List Str} {k : Nat} {sv : SEv} (F : FunD K x qual (defArgs st) (defBody st) (defScope st) dvs [] f fd) (S : FnScope N ps (defScope st))
    (hb : ∀ (cdv : Value) (A : Around) (outer : List Env) (s : Shared) (H : Hp) (E : XK), Room k (A.deeper (envOfC qual (defScope st) s.heap.objs.size f cdv)) →
      Takes (cxF P w K mg base N qual st f cdv A outer s H E) (WF E) → PassesOwn (model P w) (cxF P w K mg base N qual st f cdv A outer s H E).A (cxF P w K mg base N qual st f cdv A outer s H E).env (cxF P w K mg base N qual st f cdv A outer s H E).xe →
      PSs (cxF P w K mg base N qual st f cdv A outer s H E) (defBody st) (tS α (WF E) sv)) :
    FnOk P w K mg base (L2.CX P w) (k + 1) f fd ps (spF α ps.length (bodySem N.length sv)) := by
  refine F.ok S (fun vs H Q E h => h.1) (fun cdv A outer s H vs Q E hr h => ?_)
  obtain ⟨hl, G, ρ, μ, ds, z, r, p⟩ := h
  refine ⟨_, hb cdv A outer s H E hr (takes_of rfl rfl rfl rfl) (passes_of rfl), G, ρ, _, μ, z, Sq.start r, ?_⟩
  exact ret_ok (by rw [z.len]; exact p)
/-- a def with one default int -/
theorem fun_mkD {x qual : Str} {st : Stmt} {f T : Addr} {oc : Value} {od an : Option Addr} {osl : Array (Option Value)} {kV doc pm cdv ct : Value} {o : Obj} {i : Int} {t : Tok} {n : Nat} (l : K.lookup f = some ⟨oc, od, .func (PySem.W.fnOf x qual (defArgs st) (defBody st) (defScope st) (.ref T) kV doc pm an cdv ct), osl⟩)
    (c : PySem.W.codeIn K cdv qual = true) (k : PySem.W.keepIn K (.ref f) = true) (lT : K.lookup T = some o) (oT : o.data = .seq [Value.int i t].toArray n) :
    FunD K x qual (defArgs st) (defBody st) (defScope st) [.int i] [] f (PySem.W.fnOf x qual (defArgs st) (defBody st) (defScope st) (.ref T) kV doc pm an cdv ct) :=
  ⟨⟨oc, od, .ref T, kV, doc, pm, an, cdv, ct, osl, rfl, l, c, .inr ⟨by simp, T, o, [.int i t], n, rfl, lT, oT, .cons ⟨t, rfl⟩ .nil⟩, .inl rfl⟩, k⟩
/-- no exception leaves the law -/
theorem cx_none {P : Program} {w : World} {H : Hp} {s : Shared} {e : Value} {s' : Shared} (h : L2.CX P w [] H s (fun _ _ _ => False) e s') : False := by
  obtain ⟨_, _, _, _, _, _, _, _, _, _, _, _, z⟩ := h
  exact z.elim
/-- the law's promise, from its worth -/
def spLaw (K : PySem.W.Frag) : Sp := fun vs H Q _ => ∃ (a : Addr) (ns : List Int), vs = [.ref a] ∧ SqL K H a (ns.map V.int) ∧ ns.length ≤ 63 ∧ ∀ H', Q (.bl true) H'
theorem reps_ints {G : Hp} : ∀ ns : List Int, Reps α G (ns.map V.int) (ns.map .int)
  | [] => .nil
  | n :: ns => .cons (.int n) (reps_ints ns)
theorem law_of {f : Addr} {fd : FuncData} {ps : List Str} {k : Nat} {sem : FSem} (F : FnOk P w K mg base (L2.CX P w) k f fd ps (spF α 1 sem)) (hK : α.K = K) (ev : ∀ ns : List Int, ns.length ≤ 63 → sem [.p (.wl (ns.map .int))] [] = some (.ok (.p (.bl true)), [])) :
    FnOk P w K mg base (L2.CX P w) k f fd ps (spLaw K) := F.imp fun vs H Q E ⟨a, ns, e, h, hl, q⟩ => by
  subst e
  refine ⟨rfl, H, [], [], [.p (.wl (ns.map .int))], ⟨Same.refl H, rfl, fun l m e => by simp at e, fun l l' m m' a e => by simp at e⟩, .cons (.wl (by rw [hK]; exact h) (reps_ints ns)) .nil, ?_⟩
  rw [ev ns hl]
  intro v H' G' ρ' u z r
  cases r
  exact q H'
end
end Vs
namespace Vs
open PySem PySem.Spec PyProof.Rows L2
section
variable {α : Amb} {W : WX} {X : Cx}
/-- the list that a value shows -/
def lstOf (μ : Mu) (d : D) : Option (List P) := match view μ d with
  | some (.lst xs) => some xs
  | some (.wl xs) => some xs
  | _ => none
theorem lst_of {H G : Hp} {ρ : List Addr} {μ : Mu} (z : Zn α H G ρ μ) {v : V} {d : D} {xs : List P} (r : RepD α G ρ v d) (h : lstOf μ d = some xs) : ∃ a vs, v = .ref a ∧ SqL α.K H a vs ∧ Reps α G vs xs := by
  unfold lstOf at h
  split at h
  · rename_i ys e
    cases h
    obtain ⟨a, vs, rfl, h1, h2⟩ := view_lst z r e
    exact ⟨a, vs, rfl, SqL.of h1, h2⟩
  · rename_i ys e
    cases h
    cases d with
    | p x' =>
      cases e
      cases r with
      | wl h1 r1 => exact ⟨_, _, rfl, seqL z.sub h1, r1⟩
    | loc l =>
      obtain ⟨xs', e', hx⟩ := view_loc e
      cases e'
  · cases h
def zipP : List P → List P → List P
  | x :: xs, y :: ys => .tup [x, y] :: zipP xs ys
  | _, _ => []
theorem zipP_get : ∀ (xs ys : List P) (i : Nat) (w : P), (zipP xs ys)[i]? = some w → ∃ x y, xs[i]? = some x ∧ ys[i]? = some y ∧ w = .tup [x, y]
  | x :: xs, y :: ys, 0, w, h => by
    cases h
    exact ⟨x, y, rfl, rfl, rfl⟩
  | x :: xs, y :: ys, i + 1, w, h => zipP_get xs ys i w h
  | [], _, i, w, h => by simp [zipP] at h
  | _ :: _, [], i, w, h => by simp [zipP] at h
theorem zipP_len : ∀ (xs ys : List P), (zipP xs ys).length = min xs.length ys.length
  | x :: xs, y :: ys => by simp [zipP, zipP_len xs ys]
  | [], _ => by simp [zipP]
  | _ :: _, [] => by simp [zipP]
def asLst : P → Option (List P)
  | .lst xs => some xs
  | .wl xs => some xs
  | _ => none
theorem sq_asLst {G : Hp} {v : V} {x : P} {xs : List P} (r : Rep α G v x) (h : asLst x = some xs) : ∃ a vs, v = .ref a ∧ SqL α.K G a vs ∧ Reps α G vs xs := by
  cases r with
  | lst h1 r1 => cases h; exact ⟨_, _, rfl, SqL.of h1, r1⟩
  | wl h1 r1 => cases h; exact ⟨_, _, rfl, h1, r1⟩
  | _ => cases h
def fCatL : F2 := fun x y μ => match view μ x, view μ y with
  | some (.lst xs), some (.lst ys) => if xs.length + ys.length ≤ sizeLine then some (.p (.lst (xs ++ ys)), μ) else none
  | _, _ => none
theorem o_catL : OpR X (binaryOp .Add) (r2V α fCatL) := OpR.imp op_cat fun x y H Q h => by
  obtain ⟨G, ρ, μ, dx, dy, z, rx, ry, q⟩ := h
  unfold fCatL at q
  split at q
  · rename_i xs ys h1 h2
    split at q
    · rename_i hl
      obtain ⟨a, vs, rfl, e1, t1⟩ := view_lst z rx h1
      obtain ⟨b, ws, rfl, e2, t2⟩ := view_lst z ry h2
      refine ⟨a, b, vs, ws, rfl, rfl, e1, e2, by rw [t1.length, t2.length]; exact hl, fun p hp => ?_⟩
      exact q _ _ _ _ (up_new (z.free hp)) (z.new hp _) (.lst upd_same ((t1.append t2).mono (same_upd (z.free hp))))
    · exact q.elim
  · exact q.elim
abbrev EvO := EvG (Option Int)
abbrev tVo (α : Amb) (W : WX) (ev : EvO) : TO := tG α W (fun _ _ (b c : Option Int) => b = c) ev
theorem PO.imp {e : Option Expr} {t t' : TO} (h : PO X e t) (i : ∀ σ H Q, t' σ H Q → t σ H Q) : PO X e t' := ⟨fun pins s σ H Q I q => h.run pins s σ H Q I (i _ _ _ q)⟩
def evNoP : EvO := fun _ μ => some (.ok none, μ)
def evPt (e : Ev) : EvO := fun δ μ => bindG (e δ μ) fun d μ1 => match d with
  | .p (.int i) => some (.ok (some i), μ1)
  | _ => none
theorem v_noP : PO X none (tVo α W evNoP) := PO.imp po_none fun σ H Q ⟨G, ρ, δ, μ, z, s, p⟩ => p none H G ρ Up.refl z rfl
theorem v_pt {e : Expr} {ev : Ev} (h : PE X e (tV α W ev)) : PO X (some e) (tVo α W (evPt ev)) :=
  PO.imp (po_some h) fun σ H Q ⟨G, ρ, δ, μ, z, s, p⟩ => ⟨G, ρ, δ, μ, z, s, Post.bind p fun x μ1 v H1 G1 ρ1 u z1 r1 p1 => by
    split at p1
    · rename_i i
      exact ⟨i, repInt r1, p1 _ H1 G1 ρ1 Up.refl z1 rfl⟩
    · exact p1.elim⟩
def cutP (xs : List P) (lo hi : Option Int) : List P := (xs.drop (HT.sIx xs.length 0 lo)).take (HT.sIx xs.length xs.length hi - HT.sIx xs.length 0 lo)
def evSl (e : Ev) (lo hi : EvO) : Ev := fun δ μ => bindG (e δ μ) fun x μ1 => bindG (lo δ μ1) fun l μ2 => bindG (hi δ μ2) fun h μ3 => match lstOf μ3 x with
  | some xs => some (.ok (.p (.lst (cutP xs l h))), μ3)
  | none => none
theorem v_slice {e : Expr} {lo hi : Option Expr} {p2 pos : Pos} {ev : Ev} {el eh : EvO} (hK : X.K = α.K) (he : PE X e (tV α W ev)) (hl : PO X lo (tVo α W el)) (hh : PO X hi (tVo α W eh)) : PE X (.Subscript e (.Slice lo hi none p2) pos) (tV α W (evSl ev el eh)) :=
  PE.imp (pe_slice sl_list he hl hh) fun σ H Q ⟨G, ρ, δ, μ, z, s, p⟩ => ⟨G, ρ, δ, μ, z, s, Post.bind p fun x μ1 v H1 G1 ρ1 u z1 r1 p1 =>
    ⟨G1, ρ1, δ, μ1, z1, s.up u, Post.bind p1 fun l μ2 l' H2 G2 ρ2 u2 z2 r2 p2 => ⟨G2, ρ2, δ, μ2, z2, s.up (u.trans u2), Post.bind p2 fun h μ3 h' H3 G3 ρ3 u3 z3 r3 p3 => by
      cases r2
      cases r3
      split at p3
      · rename_i xs hx
        obtain ⟨a, vs, rfl, h1, h2⟩ := lst_of z3 (r1.up (u2.trans u3)) hx
        refine ⟨a, vs, rfl, ?_, fun q hq => ?_⟩
        · rw [hK]; exact h1
        · refine p3 _ _ _ _ (up_new (z3.free hq)) (z3.new hq _) (.lst upd_same (Reps.mono (same_upd (z3.free hq)) ?_))
          unfold cutV cutP
          rw [h2.length]
          exact (h2.drop _).take _
      · exact p3.elim⟩⟩⟩
def fTupOf : FA := fun ds μ => match ds with
  | [d] => match lstOf μ d with
    | some xs => some (.p (.tup xs), μ)
    | none => none
  | _ => none
theorem c_tupOf (hK : X.K = α.K) : CallR X (.type "tuple") (rCV α fTupOf) := CallR.imp call_tuple_of fun vs H Q ⟨G, ρ, μ, ds, z, r, q⟩ => by
  unfold fTupOf at q
  split at q
  · rename_i d
    split at q
    · rename_i xs hx
      obtain ⟨v, rfl, r1⟩ := rds1 r
      obtain ⟨a, ws, rfl, h3, h4⟩ := lst_of z r1 hx
      refine ⟨a, ws, rfl, .inl ⟨by rw [hK]; exact h3, fun l hl => ?_⟩⟩
      exact q _ _ _ _ (up_new (z.free hl)) (z.new hl _) (.tup (SqT.of upd_same) (h4.mono (same_upd (z.free hl))))
    · exact q.elim
  · exact q.elim
end
end Vs
namespace Vs
open PySem PySem.Spec PyProof.Rows L2
section
variable {α : Amb} {W : WX} {X : Cx}
def sAsg3 (i j k : Nat) (e : Ev) : SEv := fun δ μ => bindS (e δ μ) δ fun d μ1 => some (.nx, ((δ.set i (some d)).set j (some d)).set k (some d), μ1)
theorem v_asg3 {i j k : Nat} {x y w : Str} {e : Expr} {ev : Ev} {p1 p2 p3 pos : Pos} (hN : X.N.Nodup) (he : PE X e (tV α W ev)) (hi : X.N[i]? = some x := by rfl) (hj : X.N[j]? = some y := by rfl) (hk : X.N[k]? = some w := by rfl)
    (hx : Loc X.env.scope x := by first | exact Or.inl rfl | exact Or.inr rfl) (hy : Loc X.env.scope y := by first | exact Or.inl rfl | exact Or.inr rfl) (hw : Loc X.env.scope w := by first | exact Or.inl rfl | exact Or.inr rfl)
    (fx : X.fn x = true ∨ X.env.scope.names.lookup x = some .local := by first | exact .inl rfl | exact .inr rfl) (fy : X.fn y = true ∨ X.env.scope.names.lookup y = some .local := by first | exact .inl rfl | exact .inr rfl) (fw : X.fn w = true ∨ X.env.scope.names.lookup w = some .local := by first | exact .inl rfl | exact .inr rfl)
    (ha : (assignEach [.Name x p1, .Name y p2, .Name w p3] X.env).map (·.2) = [assign (.Name x p1) X.env, assign (.Name y p2) X.env, assign (.Name w p3) X.env] := by rfl) (hs : swappedStores [.Name x p1, .Name y p2, .Name w p3] e X.env = pure none := by rfl) :
    PS X (.Assign [.Name x p1, .Name y p2, .Name w p3] e pos) (tS α W (sAsg3 i j k ev)) :=
  PS.imp (ps_asg3 he (pg_name hN hi hx fx) (pg_name hN hj hy fy) (pg_name hN hk hw fw) ha hs) fun Dn σ H ⟨G, ρ, δ, μ, z, s, p⟩ => ⟨G, ρ, δ, μ, z, s, SPost.bind p s fun d μ1 v H1 G1 ρ1 u z1 r1 p1 => p1 _ H1 G1 ρ1 Up.refl z1 ((((s.up u).set r1 i).set r1 j).set r1 k)⟩
def sPar3 (i j l : Nat) (e : EvA) : SEv := fun δ μ => bindS (e δ μ) δ fun ds μ1 => match ds with
  | [x, y, w] => some (.nx, ((δ.set i (some x)).set j (some y)).set l (some w), μ1)
  | _ => none
theorem rds3 {G : Hp} {ρ : List Addr} {vs : List V} {d e f : D} (r : RepDs α G ρ vs [d, e, f]) : ∃ u v w, vs = [u, v, w] ∧ RepD α G ρ u d ∧ RepD α G ρ v e ∧ RepD α G ρ w f := by
  cases r with
  | cons r t => obtain ⟨v, w, rfl, r2, r3⟩ := rds2 t; exact ⟨_, v, w, rfl, r, r2, r3⟩
theorem v_par3 {i j l : Nat} {x y w : Str} {a b c : Expr} {ea : EvA} {px py pz pt pos : Pos} {kt k2 pt2} (hc : X.calm = true) (hN : X.N.Nodup) (ha : PA X [a, b, c] (tVs α W ea)) (hi : X.N[i]? = some x := by rfl) (hj : X.N[j]? = some y := by rfl) (hl : X.N[l]? = some w := by rfl)
    (hij : i ≠ j := by decide) (hil : i ≠ l := by decide) (hjl : j ≠ l := by decide)
    (hx : X.env.scope.names.lookup x = some .local := by rfl) (hy : X.env.scope.names.lookup y = some .local := by rfl) (hz : X.env.scope.names.lookup w = some .local := by rfl)
    (hw : swappedStores [.Tuple [.Name x px, .Name y py, .Name w pz] kt pt] (.Tuple [a, b, c] k2 pt2) X.env = pure (some [x, y, w]) := by rfl)
    (hs : swapsWithSole [.Tuple [.Name x px, .Name y py, .Name w pz] kt pt] (.Tuple [a, b, c] k2 pt2) pos.line X.env = pure false := by rfl) :
    PS X (.Assign [.Tuple [.Name x px, .Name y py, .Name w pz] kt pt] (.Tuple [a, b, c] k2 pt2) pos) (tS α W (sPar3 i j l ea)) :=
  PS.imp (ps_par3 hc hN hi hj hl hij hil hjl hx hy hz ha hw hs) fun Dn σ H ⟨G, ρ, δ, μ, z, s, p⟩ => ⟨G, ρ, δ, μ, z, s, SPost.bind p s fun ds μ1 vs H1 G1 ρ1 u z1 r1 p1 => by
    split at p1
    · rename_i d1 d2 d3
      obtain ⟨v1, v2, v3, rfl, q1, q2, q3⟩ := rds3 r1
      exact ⟨v1, v2, v3, rfl, p1 _ H1 G1 ρ1 Up.refl z1 ((((s.up u).set q1 i).set q2 j).set q3 l)⟩
    · exact p1.elim⟩
/-- names from a list -/
def tgL (is : List Nat) : Tgt := fun x δ => match x with
  | .lst xs => setAll is xs δ
  | _ => none
def evIsiV (t : P → Option Bool) (a : Ev) : Ev := fun δ μ => bindG (a δ μ) fun d μ1 => match view μ1 d with
  | some x => match t x with
    | some b => some (.ok (.p (.bl b)), μ1)
    | none => none
  | none => none
theorem tyx_view {H G : Hp} {ρ : List Addr} {μ : Mu} {v : V} {d : D} {x : P} (z : Zn α H G ρ μ) (r : RepD α G ρ v d) (e : view μ d = some x) (O : ∀ c xs, x = .obj c xs → InsOwn α.K (α.cl c)) : TyX α.K H v (tyP α x) := by
  cases d with
  | p y => cases e; exact tyx_of z r O
  | loc l =>
    obtain ⟨xs, rfl, hx⟩ := view_loc e
    obtain ⟨a, rfl, ha⟩ := r
    obtain ⟨a', h1, h2, vs, h3, h4⟩ := z.cell l _ hx
    rw [ha] at h1; cases h1
    exact .base (.lst h3)
theorem v_isiV {t : P → Option Bool} {e ce : Expr} {ev : Ev} {cv : V} {cu : Value} {p pos : Pos} (hK : X.K = α.K) (hm : X.mg "isinstance" = none) (hv : bootBuiltins "isinstance" = some (.builtin "isinstance")) (ha : PE X e (tV α W ev)) (hc : PE X ce (tC cv)) (hcv : ClsV cv cu)
    (ht : ∀ x b, t x = some b → PySem.W.kitOne α.K (tyP α x) cu = some b ∧ ∀ c xs, x = .obj c xs → InsOwn α.K (α.cl c)) (hg : Gl X "isinstance" := by rfl)
    (hs : starEach [e, ce] X.env = (false, eval e X.env) :: starEach [ce] X.env := by rfl) (hs2 : starEach [ce] X.env = (false, eval ce X.env) :: starEach [] X.env := by rfl) (hpl : (backTo pos (starEach [ce] X.env)).any (·.1) = false := by rfl) :
    PE X (.Call (.Name "isinstance" p) [e, ce] [] pos) (tV α W (evIsiV t ev)) :=
  PE.imp (pe_callB call_isi hg hm hv (pa_cons ha (pa_cons hc pa_nil hs2) hs) (by decide) (by decide) hs hpl) fun σ H Q ⟨G, ρ, δ, μ, z, s, p⟩ => ⟨G, ρ, δ, μ, z, s, Post.bind p fun d μ1 v H1 G1 ρ1 u z1 r1 p1 => by
    cases q0 : view μ1 d with
    | none => rw [q0] at p1; exact p1.elim
    | some x =>
      cases q : t x with
      | none => rw [q0] at p1; dsimp only at p1; rw [q] at p1; exact p1.elim
      | some b =>
        rw [q0] at p1
        dsimp only at p1
        rw [q] at p1
        obtain ⟨h1, h2⟩ := ht x b q
        exact ⟨v, cv, tyP α x, cu, b, rfl, hcv, by rw [hK]; exact tyx_view z1 r1 q0 h2, by rw [hK]; exact h1, p1 _ H1 G1 ρ1 Up.refl z1 (.bl _)⟩⟩
theorem PTs.imp {ifs : List Expr} {t t' : TT} (h : PTs X ifs t) (i : ∀ σ H Q, t' σ H Q → t σ H Q) : PTs X ifs t' := ⟨fun pins s σ H Q I q => h.run pins s σ H Q I (i _ _ _ q)⟩
theorem vpts_nil : PTs X [] (tVt α W evTrue) := PTs.imp pts_nil fun σ H Q ⟨G, ρ, δ, μ, z, s, p⟩ => p true H G ρ Up.refl z rfl
theorem vpts_one {c : Expr} {ec : EvT} (h : PT X c (tVt α W ec)) : PTs X [c] (tVt α W ec) := pts_one h
end
section
variable {δ δ' : Sl} {μ μ' : Mu} {e : Ev} {args : EvA}
@[simp] theorem sAsg3_eq {i j k : Nat} : sAsg3 i j k e δ μ = bindS (e δ μ) δ fun d μ1 => some (.nx, ((δ.set i (some d)).set j (some d)).set k (some d), μ1) := rfl
def par3End (i j l : Nat) (δ : Sl) (μ : Mu) : List D → Option (Fl × Sl × Mu)
  | [x, y, w] => some (.nx, ((δ.set i (some x)).set j (some y)).set l (some w), μ)
  | _ => none
@[simp] theorem sPar3_eq {i j l : Nat} : sPar3 i j l args δ μ = bindS (args δ μ) δ fun ds μ1 => par3End i j l δ μ1 ds := rfl
@[simp] theorem par3End_3 {i j l : Nat} {x y w : D} : par3End i j l δ μ [x, y, w] = some (.nx, ((δ.set i (some x)).set j (some y)).set l (some w), μ) := rfl
def isiVEnd (t : P → Option Bool) (μ : Mu) : Option P → Option (Out D × Mu)
  | some x => match t x with
    | some b => some (.ok (.p (.bl b)), μ)
    | none => none
  | none => none
@[simp] theorem evIsiV_eq {t : P → Option Bool} : evIsiV t e δ μ = bindG (e δ μ) fun d μ1 => isiVEnd t μ1 (view μ1 d) := rfl
theorem isiVEnd_some {t : P → Option Bool} {x : P} {b : Bool} (h : t x = some b) : isiVEnd t μ (some x) = some (.ok (.p (.bl b)), μ) := by
  unfold isiVEnd; dsimp only; rw [h]
@[simp] theorem evTrue_eq : evTrue δ μ = some (.ok true, μ) := rfl
@[simp] theorem evLc_eq {it : EvG (List P)} {ts : Tgt} {t : EvT} {vs : List Nat} : evLc it ts t e vs δ μ = bindG (it δ μ) fun xs μ1 => lcEnd μ1.length (lcL ts t e (wipeS δ vs) μ1.length xs (μ1 ++ [some (.lst [])])) := rfl
@[simp] theorem tgN_eq {i : Nat} {x : P} : tgN i x δ = some (δ.set i (some (.p x))) := rfl
@[simp] theorem tgT_eq {is : List Nat} {xs : List P} : tgT is (.tup xs) δ = setAll is xs δ := rfl
@[simp] theorem tgL_eq {is : List Nat} {xs : List P} : tgL is (.lst xs) δ = setAll is xs δ := rfl
@[simp] theorem setAll_nil : setAll [] [] δ = some δ := rfl
@[simp] theorem setAll_cons {i : Nat} {is : List Nat} {x : P} {xs : List P} : setAll (i :: is) (x :: xs) δ = setAll is xs (δ.set i (some (.p x))) := rfl
@[simp] theorem wipeS_nil : wipeS δ [] = δ := rfl
@[simp] theorem wipeS_cons {v : Nat} {vs : List Nat} : wipeS δ (v :: vs) = (wipeS δ vs).set v none := rfl
theorem cellL_end {n : Nat} {xs : List P} (hn : n = μ.length) : cellL (μ ++ [some (.lst xs)]) n = some xs := by subst hn; unfold cellL; simp
theorem set_end {n : Nat} {o o' : Option MO} (hn : n = μ.length) : (μ ++ [o]).set n o' = μ ++ [o'] := by subst hn; rw [List.set_append_right _ _ (Nat.le_refl _)]; simp
end
end Vs
namespace Vs
open PySem PySem.Spec PyProof.Rows L2
/-- the classes by number: 0 Ratio, 1 ByZero -/
def amb (K : PySem.W.Frag) (cs : List Addr) : Amb := ⟨K, fun i => cs.getD i 0, fun i => if i = 0 then ["top", "bottom"] else []⟩
structure Tx (K : PySem.W.Frag) (mg : Str → Option Value) (cs : List Addr) : Prop where
  own0 : Own (amb K cs) 0
  c0 : mg "Ratio" = some (.ref ((amb K cs).cl 0))
  sf0 : PySem.W.selfFirst K ((amb K cs).cl 0) = true
  nf0 : ∀ T ∈ eqTys, PySem.W.notFirst K ((amb K cs).cl 0) (.type T) = true
  ne0 : NeOwn K ((amb K cs).cl 0)
  isi0 : IsiO K (amb K cs) 0
  isib_bool : ∀ c, c < 1 → PySem.W.kitOne K (.ref ((amb K cs).cl c)) (.type "bool") = some false ∧ InsOwn K ((amb K cs).cl c)
  isib_list : ∀ c, c < 1 → PySem.W.kitOne K (.ref ((amb K cs).cl c)) (.type "list") = some false ∧ InsOwn K ((amb K cs).cl c)
  isib_tuple : ∀ c, c < 1 → PySem.W.kitOne K (.ref ((amb K cs).cl c)) (.type "tuple") = some false ∧ InsOwn K ((amb K cs).cl c)
  isib_int : ∀ c, c < 1 → PySem.W.kitOne K (.ref ((amb K cs).cl c)) (.type "int") = some false ∧ InsOwn K ((amb K cs).cl c)
  x1 : PySem.W.excIn K ((amb K cs).cl 1) [.type "ValueError", .type "Exception", .type "BaseException", .type "object"] "ValueError.__new__" = true
  g1 : mg "ByZero" = some (.ref ((amb K cs).cl 1))
  k1 : PySem.W.keepIn K (.ref ((amb K cs).cl 1)) = true
  p1 : PySem.W.subIn K (.ref ((amb K cs).cl 1)) (.type "BaseException") = some true
  t1 : PySem.W.typeIn K (.ref ((amb K cs).cl 1)) = some (.type "type")
  b_gcd : mg "gcd" = some (.builtin "math.gcd")
  b_abs : mg "abs" = none
  b_len : mg "len" = none
  b_int : mg "int" = none
  b_list : mg "list" = none
  b_tuple : mg "tuple" = none
  b_bool : mg "bool" = none
  b_isinstance : mg "isinstance" = none
  b_range : mg "range" = none
noncomputable def sv_Ratiou_initu : SEv := (seqS (sIf (evB (evBin fEq (evV 2) (evC (.int 0)))) (sRaise 1) sNil) (seqS (sSet 3 (evBI fGcd (evCons (evV 1) (evCons (evV 2) evNil)))) (seqS (sIf (evB (evBin fLt (evV 2) (evC (.int 0)))) (sSet 3 (evUn fNeg (evV 3))) sNil) (seqS (sFldS 0 0 (evV 0) (evBin fDiv (evV 1) (evV 3))) (sFldS 0 1 (evV 0) (evBin fDiv (evV 2) (evV 3)))))))
noncomputable def m_Ratiou_initu : FSem := arF 3 (bodySem 4 sv_Ratiou_initu)
theorem ar_Ratiou_initu : Arity m_Ratiou_initu 3 := arF_ar
theorem le_Ratiou_initu : ∀ ds μ r, m_Ratiou_initu ds μ = some r → bodySem 4 sv_Ratiou_initu ds μ = some r := arF_le
noncomputable def sv_Ratiou_addu : SEv := (sRet (evMake 0 2 m_Ratiou_initu [] (evCons (evBin fAdd (evBin fMul (evUn (fFld 0 0) (evV 0)) (evUn (fFld 0 1) (evV 1))) (evBin fMul (evUn (fFld 0 0) (evV 1)) (evUn (fFld 0 1) (evV 0)))) (evCons (evBin fMul (evUn (fFld 0 1) (evV 0)) (evUn (fFld 0 1) (evV 1))) evNil))))
noncomputable def m_Ratiou_addu : FSem := arF 2 (bodySem 2 sv_Ratiou_addu)
theorem ar_Ratiou_addu : Arity m_Ratiou_addu 2 := arF_ar
theorem le_Ratiou_addu : ∀ ds μ r, m_Ratiou_addu ds μ = some r → bodySem 2 sv_Ratiou_addu ds μ = some r := arF_le
noncomputable def sv_Ratiou_subu : SEv := (sRet (evMake 0 2 m_Ratiou_initu [] (evCons (evBin fSub (evBin fMul (evUn (fFld 0 0) (evV 0)) (evUn (fFld 0 1) (evV 1))) (evBin fMul (evUn (fFld 0 0) (evV 1)) (evUn (fFld 0 1) (evV 0)))) (evCons (evBin fMul (evUn (fFld 0 1) (evV 0)) (evUn (fFld 0 1) (evV 1))) evNil))))
noncomputable def m_Ratiou_subu : FSem := arF 2 (bodySem 2 sv_Ratiou_subu)
theorem ar_Ratiou_subu : Arity m_Ratiou_subu 2 := arF_ar
theorem le_Ratiou_subu : ∀ ds μ r, m_Ratiou_subu ds μ = some r → bodySem 2 sv_Ratiou_subu ds μ = some r := arF_le
noncomputable def sv_Ratiou_mulu : SEv := (sRet (evMake 0 2 m_Ratiou_initu [] (evCons (evBin fMul (evUn (fFld 0 0) (evV 0)) (evUn (fFld 0 0) (evV 1))) (evCons (evBin fMul (evUn (fFld 0 1) (evV 0)) (evUn (fFld 0 1) (evV 1))) evNil))))
noncomputable def m_Ratiou_mulu : FSem := arF 2 (bodySem 2 sv_Ratiou_mulu)
theorem ar_Ratiou_mulu : Arity m_Ratiou_mulu 2 := arF_ar
theorem le_Ratiou_mulu : ∀ ds μ r, m_Ratiou_mulu ds μ = some r → bodySem 2 sv_Ratiou_mulu ds μ = some r := arF_le
noncomputable def sv_Ratiou_negu : SEv := (sRet (evMake 0 2 m_Ratiou_initu [] (evCons (evUn fNeg (evUn (fFld 0 0) (evV 0))) (evCons (evUn (fFld 0 1) (evV 0)) evNil))))
noncomputable def m_Ratiou_negu : FSem := arF 1 (bodySem 1 sv_Ratiou_negu)
theorem ar_Ratiou_negu : Arity m_Ratiou_negu 1 := arF_ar
theorem le_Ratiou_negu : ∀ ds μ r, m_Ratiou_negu ds μ = some r → bodySem 1 sv_Ratiou_negu ds μ = some r := arF_le
noncomputable def sv_Ratiou_equ : SEv := (sRet (evAnd (evIsiV (isiO 0) (evV 1)) (evAnd (evBin fEq (evUn (fFld 0 0) (evV 0)) (evUn (fFld 0 0) (evV 1))) (evBin fEq (evUn (fFld 0 1) (evV 0)) (evUn (fFld 0 1) (evV 1))))))
noncomputable def m_Ratiou_equ : FSem := arF 2 (bodySem 2 sv_Ratiou_equ)
theorem ar_Ratiou_equ : Arity m_Ratiou_equ 2 := arF_ar
theorem le_Ratiou_equ : ∀ ds μ r, m_Ratiou_equ ds μ = some r → bodySem 2 sv_Ratiou_equ ds μ = some r := arF_le
noncomputable def sv__law_stream : SEv := (seqS (sSet 1 (evC (.int 17))) (seqS (sFor (evIt (evV 0)) (tgN 2) (sSet 1 (evBin fMod (evBI fInt (evCons (evBin fAdd (evBin fAdd (evBin fMul (evV 1) (evC (.int 48271))) (evBin fMod (evBI fInt (evCons (evV 2) evNil)) (evC (.int 65521)))) (evC (.int 1))) evNil)) (evC (.int 2147483647))))) (sRet (evLstC (evCons (evBI fList (evCons (evV 0) evNil)) (evCons (evC (.int 0)) (evCons (evC (.int 0)) (evCons (evV 1) evNil))))))))
noncomputable def m__law_stream : FSem := arF 1 (bodySemC 3 sv__law_stream)
theorem ar__law_stream : Arity m__law_stream 1 := arF_ar
theorem le__law_stream : ∀ ds μ r, m__law_stream ds μ = some r → bodySemC 3 sv__law_stream ds μ = some r := arF_le
noncomputable def sv__law_draw : SEv := (seqS (sIf (tAndV' (evB (evBin fEq (evBin fIx (evV 0) (evC (.int 1))) (evC (.int 0)))) (evB (evBin fLt (evBin fIx (evV 0) (evC (.int 2))) (evBI fLen (evCons (evBin fIx (evV 0) (evC (.int 0))) evNil))))) (seqS (sSetIx (evV 0) (evC (.int 1)) (evBI fAbs (evCons (evBI fInt (evCons (evBin fIx (evBin fIx (evV 0) (evC (.int 0))) (evBin fIx (evV 0) (evC (.int 2)))) evNil)) evNil))) (sSetIx (evV 0) (evC (.int 2)) (evBin fAdd (evBin fIx (evV 0) (evC (.int 2))) (evC (.int 1))))) sNil) (seqS (sIf (evB (evBin fEq (evBin fIx (evV 0) (evC (.int 1))) (evC (.int 0)))) (seqS (sSetIx (evV 0) (evC (.int 3)) (evBin fMod (evBI fInt (evCons (evBin fAdd (evBin fMul (evBin fIx (evV 0) (evC (.int 3))) (evC (.int 48271))) (evC (.int 11))) evNil)) (evC (.int 2147483647)))) (sRet (evBin fMod (evBI fInt (evCons (evBin fDiv (evBin fIx (evV 0) (evC (.int 3))) (evC (.int 97))) evNil)) (evV 1)))) sNil) (seqS (sSet 2 (evBin fMod (evBI fInt (evCons (evBin fIx (evV 0) (evC (.int 1))) evNil)) (evV 1))) (seqS (sSetIx (evV 0) (evC (.int 1)) (evBin fDiv (evBin fIx (evV 0) (evC (.int 1))) (evV 1))) (sRet (evV 2))))))
noncomputable def m__law_draw : FSem := arF 2 (bodySem 3 sv__law_draw)
theorem ar__law_draw : Arity m__law_draw 2 := arF_ar
theorem le__law_draw : ∀ ds μ r, m__law_draw ds μ = some r → bodySem 3 sv__law_draw ds μ = some r := arF_le
noncomputable def sv__reached : SEv := (sRet (evBin (fOwn 0 m_Ratiou_addu) (evV 0) (evBin (fOwn 0 m_Ratiou_mulu) (evBin (fOwn 0 m_Ratiou_addu) (evV 1) (evBin (fOwn 0 m_Ratiou_mulu) (evBin (fOwn 0 m_Ratiou_mulu) (evMake 0 2 m_Ratiou_initu [] (evCons (evC (.int 1)) (evCons (evC (.int 2)) evNil))) (evV 2)) (evV 3))) (evV 3))))
noncomputable def m__reached : FSem := arF 4 (bodySem 4 sv__reached)
theorem ar__reached : Arity m__reached 4 := arF_ar
theorem le__reached : ∀ ds μ r, m__reached ds μ = some r → bodySem 4 sv__reached ds μ = some r := arF_le
noncomputable abbrev lb_pieces_0 : SEv := (seqS (sSet 7 (evBin (fOwn 0 m_Ratiou_addu) (evV 2) (evV 5))) (seqS (sExpr (evBM isLst fApp (evV 1) (evCons (evTup (evCons (evV 2) (evCons (evV 7) (evCons (evV 3) (evCons (evV 4) (evCons (evV 6) evNil)))))) evNil))) (sPar3 2 3 4 (evCons (evV 7) (evCons (evCall m__reached [] (evCons (evV 3) (evCons (evV 4) (evCons (evV 6) (evCons (evV 5) evNil))))) (evCons (evBin (fOwn 0 m_Ratiou_addu) (evV 4) (evBin (fOwn 0 m_Ratiou_mulu) (evV 6) (evV 5))) evNil))))))
noncomputable def sv_pieces : SEv := (seqS (sSet 1 (evLstC evNil)) (seqS (sAsg3 2 3 4 (evMake 0 2 m_Ratiou_initu [.int 1] (evCons (evC (.int 0)) evNil))) (seqS (sFor (evIt (evV 0)) (tgT [5, 6]) (seqS (sSet 7 (evBin (fOwn 0 m_Ratiou_addu) (evV 2) (evV 5))) (seqS (sExpr (evBM isLst fApp (evV 1) (evCons (evTup (evCons (evV 2) (evCons (evV 7) (evCons (evV 3) (evCons (evV 4) (evCons (evV 6) evNil)))))) evNil))) (sPar3 2 3 4 (evCons (evV 7) (evCons (evCall m__reached [] (evCons (evV 3) (evCons (evV 4) (evCons (evV 6) (evCons (evV 5) evNil))))) (evCons (evBin (fOwn 0 m_Ratiou_addu) (evV 4) (evBin (fOwn 0 m_Ratiou_mulu) (evV 6) (evV 5))) evNil))))))) (sRet (evV 1)))))
noncomputable def m_pieces : FSem := arF 1 (bodySemC 8 sv_pieces)
theorem ar_pieces : Arity m_pieces 1 := arF_ar
theorem le_pieces : ∀ ds μ r, m_pieces ds μ = some r → bodySemC 8 sv_pieces ds μ = some r := arF_le
noncomputable abbrev lb_length_0 : SEv := (sSet 1 (evBin (fOwn 0 m_Ratiou_addu) (evV 1) (evV 2)))
noncomputable def sv_length : SEv := (seqS (sSet 1 (evMake 0 2 m_Ratiou_initu [.int 1] (evCons (evC (.int 0)) evNil))) (seqS (sFor (evIt (evV 0)) (tgT [2, 3]) (sSet 1 (evBin (fOwn 0 m_Ratiou_addu) (evV 1) (evV 2)))) (sRet (evV 1))))
noncomputable def m_length : FSem := arF 1 (bodySem 4 sv_length)
noncomputable def sv_way : SEv := (seqS (sAsgT (tgT [1, 2, 3, 4, 5]) (evBin fIx (evCall m_pieces [] (evCons (evV 0) evNil)) (evUn fNeg (evC (.int 1))))) (sRet (evCall m__reached [] (evCons (evV 3) (evCons (evV 4) (evCons (evV 5) (evCons (evBin (fOwn 0 m_Ratiou_subu) (evV 2) (evV 1)) evNil)))))))
noncomputable def m_way : FSem := arF 1 (bodySem 6 sv_way)
theorem ar_way : Arity m_way 1 := arF_ar
theorem le_way : ∀ ds μ r, m_way ds μ = some r → bodySem 6 sv_way ds μ = some r := arF_le
noncomputable def sv_is_less : SEv := (sRet (evBin fLt (evBin fMul (evUn (fFld 0 0) (evV 0)) (evUn (fFld 0 1) (evV 1))) (evBin fMul (evUn (fFld 0 0) (evV 1)) (evUn (fFld 0 1) (evV 0)))))
noncomputable def m_is_less : FSem := arF 2 (bodySem 2 sv_is_less)
theorem ar_is_less : Arity m_is_less 2 := arF_ar
theorem le_is_less : ∀ ds μ r, m_is_less ds μ = some r → bodySem 2 sv_is_less ds μ = some r := arF_le
noncomputable abbrev lb_position_0 : SEv := (sIf (tNotV (evB (evCall m_is_less [] (evCons (evV 3) (evCons (evV 1) evNil))))) (sRet (evCall m__reached [] (evCons (evV 4) (evCons (evV 5) (evCons (evV 6) (evCons (evBin (fOwn 0 m_Ratiou_subu) (evV 1) (evV 2)) evNil)))))) sNil)
noncomputable def sv_position : SEv := (seqS (sIf (evB (evCall m_is_less [] (evCons (evV 1) (evCons (evMake 0 2 m_Ratiou_initu [.int 1] (evCons (evC (.int 0)) evNil)) evNil)))) (sRet (evMake 0 2 m_Ratiou_initu [.int 1] (evCons (evC (.int 0)) evNil))) sNil) (seqS (sFor (evIt (evCall m_pieces [] (evCons (evV 0) evNil))) (tgT [2, 3, 4, 5, 6]) (sIf (tNotV (evB (evCall m_is_less [] (evCons (evV 3) (evCons (evV 1) evNil))))) (sRet (evCall m__reached [] (evCons (evV 4) (evCons (evV 5) (evCons (evV 6) (evCons (evBin (fOwn 0 m_Ratiou_subu) (evV 1) (evV 2)) evNil)))))) sNil)) (sRet (evCall m_way [] (evCons (evV 0) evNil)))))
noncomputable def m_position : FSem := arF 2 (bodySem 7 sv_position)
theorem ar_position : Arity m_position 2 := arF_ar
theorem le_position : ∀ ds μ r, m_position ds μ = some r → bodySem 7 sv_position ds μ = some r := arF_le
noncomputable abbrev lb_speed_0 : SEv := (sIf (tNotV (evB (evCall m_is_less [] (evCons (evV 3) (evCons (evV 1) evNil))))) (sRet (evBin (fOwn 0 m_Ratiou_addu) (evV 5) (evBin (fOwn 0 m_Ratiou_mulu) (evV 6) (evBin (fOwn 0 m_Ratiou_subu) (evV 1) (evV 2))))) sNil)
noncomputable def sv_speed : SEv := (seqS (sIf (evB (evCall m_is_less [] (evCons (evV 1) (evCons (evMake 0 2 m_Ratiou_initu [.int 1] (evCons (evC (.int 0)) evNil)) evNil)))) (sRet (evMake 0 2 m_Ratiou_initu [.int 1] (evCons (evC (.int 0)) evNil))) sNil) (seqS (sFor (evIt (evCall m_pieces [] (evCons (evV 0) evNil))) (tgT [2, 3, 4, 5, 6]) (sIf (tNotV (evB (evCall m_is_less [] (evCons (evV 3) (evCons (evV 1) evNil))))) (sRet (evBin (fOwn 0 m_Ratiou_addu) (evV 5) (evBin (fOwn 0 m_Ratiou_mulu) (evV 6) (evBin (fOwn 0 m_Ratiou_subu) (evV 1) (evV 2))))) sNil)) (sRet (evMake 0 2 m_Ratiou_initu [.int 1] (evCons (evC (.int 0)) evNil)))))
noncomputable def m_speed : FSem := arF 2 (bodySem 7 sv_speed)
theorem ar_speed : Arity m_speed 2 := arF_ar
theorem le_speed : ∀ ds μ r, m_speed ds μ = some r → bodySem 7 sv_speed ds μ = some r := arF_le
noncomputable def sv__size : SEv := (sRet (evIf (evB (evCall m_is_less [] (evCons (evV 0) (evCons (evMake 0 2 m_Ratiou_initu [.int 1] (evCons (evC (.int 0)) evNil)) evNil)))) (evUn (fOwn1 0 m_Ratiou_negu) (evV 0)) (evV 0)))
noncomputable def m__size : FSem := arF 1 (bodySem 1 sv__size)
theorem ar__size : Arity m__size 1 := arF_ar
theorem le__size : ∀ ds μ r, m__size ds μ = some r → bodySem 1 sv__size ds μ = some r := arF_le
noncomputable def sv_quotient : SEv := (sRet (evMake 0 2 m_Ratiou_initu [] (evCons (evBin fMul (evUn (fFld 0 0) (evV 0)) (evUn (fFld 0 1) (evV 1))) (evCons (evBin fMul (evUn (fFld 0 1) (evV 0)) (evUn (fFld 0 0) (evV 1))) evNil))))
noncomputable def m_quotient : FSem := arF 2 (bodySem 2 sv_quotient)
theorem ar_quotient : Arity m_quotient 2 := arF_ar
theorem le_quotient : ∀ ds μ r, m_quotient ds μ = some r → bodySem 2 sv_quotient ds μ = some r := arF_le
noncomputable def sv_stopped : SEv := (seqS (sIf (tNotV (evB (evCall m_is_less [] (evCons (evV 2) (evCons (evV 3) evNil))))) (sRet (evCall m_position [] (evCons (evV 0) (evCons (evV 3) evNil)))) sNil) (seqS (sSet 4 (evCall m_speed [] (evCons (evV 0) (evCons (evV 2) evNil)))) (seqS (sSet 5 (evCall m_quotient [] (evCons (evCall m__size [] (evCons (evV 4) evNil)) (evCons (evV 1) evNil)))) (seqS (sSet 6 (evBin (fOwn 0 m_Ratiou_subu) (evV 3) (evV 2))) (seqS (sSet 7 (evIf (evB (evCall m_is_less [] (evCons (evV 4) (evCons (evMake 0 2 m_Ratiou_initu [.int 1] (evCons (evC (.int 0)) evNil)) evNil)))) (evV 1) (evUn (fOwn1 0 m_Ratiou_negu) (evV 1)))) (sRet (evCall m__reached [] (evCons (evCall m_position [] (evCons (evV 0) (evCons (evV 2) evNil))) (evCons (evV 4) (evCons (evV 7) (evCons (evIf (evB (evCall m_is_less [] (evCons (evV 6) (evCons (evV 5) evNil)))) (evV 6) (evV 5)) evNil)))))))))))
noncomputable def m_stopped : FSem := arF 4 (bodySem 8 sv_stopped)
theorem ar_stopped : Arity m_stopped 4 := arF_ar
theorem le_stopped : ∀ ds μ r, m_stopped ds μ = some r → bodySem 8 sv_stopped ds μ = some r := arF_le
end Vs
namespace Vs
open PySem PySem.Spec PyProof.Rows L2
theorem set_get {μ : Mu} {l : Nat} {o : Option MO} {m : Option MO} (h : μ[l]? = some m) : (μ.set l o)[l]? = some o := List.getElem?_set_self (List.getElem?_eq_some_iff.mp h).1
theorem ev_init {l : Nat} {n d : Int} {μ : Mu} (hd : d ≠ 0) (hg : (Nat.gcd n.natAbs d.natAbs).log2 < 9000) (hl : μ[l]? = some (some (.ins 0 []))) :
    m_Ratiou_initu [.loc l, .p (.int n), .p (.int d)] μ = some (.ok (.p .non), μ.set l (some (.ins 0 [.int (qn n d).1, .int (qn n d).2]))) := by
  have g0 : (Nat.gcd n.natAbs d.natAbs : Int) ≠ 0 := gcd_ne hd
  have hk : ∀ (i : Int), divOk i (Nat.gcd n.natAbs d.natAbs : Int) = true := fun i => divOk_of g0 (by simpa using hg)
  have hk' : ∀ (i : Int), divOk i (-(Nat.gcd n.natAbs d.natAbs : Int)) = true := fun i => divOk_of (by omega) (by simpa using hg)
  by_cases hn : d < 0
  · simp [m_Ratiou_initu, arF, bodySem_eq, sv_Ratiou_initu, hd, hn, hk', qn, fldEnd_new hl, fldEnd_new (set_get hl)]
  · simp [m_Ratiou_initu, arF, bodySem_eq, sv_Ratiou_initu, hd, hn, hk, qn, fldEnd_new hl, fldEnd_new (set_get hl)]
theorem ev_mk {n d : Int} {μ : Mu} (hd : d ≠ 0) (hg : (Nat.gcd n.natAbs d.natAbs).log2 < 9000) :
    mkEnd 0 2 μ.length (m_Ratiou_initu [.loc μ.length, .p (.int n), .p (.int d)] (μ ++ [some (.ins 0 [])])) = some (.ok (.p (rat (Rat.divInt n d))), μ) := by
  have hl : (μ ++ [some (MO.ins 0 [])])[μ.length]? = some (some (.ins 0 [])) := by simp
  rw [ev_init hd hg hl]
  have e : (μ ++ [some (MO.ins 0 [])]).set μ.length (some (.ins 0 [.int (qn n d).1, .int (qn n d).2])) = μ ++ [some (.ins 0 [.int (qn n d).1, .int (qn n d).2])] := by
    rw [List.set_append_right _ _ (Nat.le_refl _)]; simp
  rw [e]
  have q := qn_eq (n := n) hd
  simp [mkEnd, rat, q]
theorem ev_mk' {n d : Int} {μ : Mu} {k : Nat} (hd : d ≠ 0) (hs : Sz k d) (hk : k ≤ 9000) (h0 : 0 < k := by decide) :
    mkEnd 0 2 μ.length (m_Ratiou_initu [.loc μ.length, .p (.int n), .p (.int d)] (μ ++ [some (.ins 0 [])])) = some (.ok (.p (rat (Rat.divInt n d))), μ) :=
  ev_mk hd (Nat.lt_of_lt_of_le (PySem.Flt.log2_lt_of h0 (gcd_sz hs hd)) hk)
theorem ev_mk1 {n : Int} {μ : Mu} : mkEnd 0 2 μ.length (m_Ratiou_initu [.loc μ.length, .p (.int n), .p (.int 1)] (μ ++ [some (.ins 0 [])])) = some (.ok (.p (rat (n : Rat))), μ) := by
  have e := ev_mk' (n := n) (d := 1) (μ := μ) (k := 1) (by decide) (by unfold Sz; decide) (by decide)
  rwa [show Rat.divInt n 1 = (n : Rat) from Rat.num_divInt_den (n : Rat)] at e
theorem den_ne (q : Rat) : (q.den : Int) ≠ 0 := by have := q.den_nz; omega
theorem mul_ne {i j : Int} (h : i ≠ 0) (h2 : j ≠ 0) : i * j ≠ 0 := Int.mul_ne_zero h h2
def Bz (n : Nat) (q : Rat) : Prop := 1 ≤ n ∧ Sz (100 * n) q.num ∧ Sz n (q.den : Int)
section
variable {a b : Rat} {n m : Nat} {μ : Mu}
theorem Bz.mono (h : Bz n a) (e : n ≤ m) : Bz m a := ⟨Nat.le_trans h.1 e, h.2.1.mono (by omega), h.2.2.mono e⟩
theorem bz_of {x y : Int} {k : Nat} (h0 : y ≠ 0) (h1 : 1 ≤ n) (hx : Sz k x) (hk : k ≤ 100 * n) (hy : Sz n y) : Bz n (Rat.divInt x y) := ⟨h1, (num_sz hx).mono hk, den_sz hy h0⟩
theorem add_eq (a b : Rat) : Rat.divInt (a.num * (b.den : Int) + b.num * (a.den : Int)) ((a.den : Int) * (b.den : Int)) = a + b := by
  rw [← Rat.divInt_add_divInt _ _ (den_ne a) (den_ne b), Rat.num_divInt_den, Rat.num_divInt_den]
theorem sub_eq (a b : Rat) : Rat.divInt (a.num * (b.den : Int) - b.num * (a.den : Int)) ((a.den : Int) * (b.den : Int)) = a - b := by
  rw [← Rat.divInt_sub_divInt _ _ (den_ne a) (den_ne b), Rat.num_divInt_den, Rat.num_divInt_den]
theorem mul_eq (a b : Rat) : Rat.divInt (a.num * b.num) ((a.den : Int) * (b.den : Int)) = a * b := by
  rw [← Rat.divInt_mul_divInt, Rat.num_divInt_den, Rat.num_divInt_den]
theorem neg_eq (a : Rat) : Rat.divInt (-a.num) (a.den : Int) = -a := by rw [← Rat.neg_divInt, Rat.num_divInt_den]
theorem div_eq (a b : Rat) (hb : b ≠ 0) : Rat.divInt (a.num * (b.den : Int)) ((a.den : Int) * b.num) = a / b := by
  have hb' : b.num ≠ 0 := fun z => hb (Rat.num_eq_zero.mp z)
  have e : b⁻¹ = Rat.divInt (b.den : Int) b.num := by
    rw [← Rat.inv_divInt, Rat.num_divInt_den]
  rw [Rat.div_def, e, ← Rat.divInt_mul_divInt, Rat.num_divInt_den]
theorem Bz.add (ha : Bz n a) (hb : Bz m b) : Bz (n + m) (a + b) := by
  rw [← add_eq]
  have h1 := (ha.2.1.mul hb.2.2).add (hb.2.1.mul ha.2.2)
  have := ha.1
  have := hb.1
  exact bz_of (mul_ne (den_ne a) (den_ne b)) (by omega) h1 (by omega) (ha.2.2.mul hb.2.2)
theorem Bz.neg (ha : Bz n a) : Bz n (-a) := by
  rw [← neg_eq]
  exact bz_of (den_ne a) ha.1 ha.2.1.neg (Nat.le_refl _) ha.2.2
theorem Bz.sub (ha : Bz n a) (hb : Bz m b) : Bz (n + m) (a - b) := by
  rw [show a - b = a + -b from Rat.sub_eq_add_neg _ _]
  exact ha.add hb.neg
theorem Bz.mul (ha : Bz n a) (hb : Bz m b) : Bz (n + m) (a * b) := by
  rw [← mul_eq]
  have := ha.1
  have := hb.1
  exact bz_of (mul_ne (den_ne a) (den_ne b)) (by omega) (ha.2.1.mul hb.2.1) (by omega) (ha.2.2.mul hb.2.2)
theorem Bz.div {s : Nat} (ha : Bz n a) (hb : Bz m b) (hs : Sz s b.num) (h0 : b ≠ 0) (hm : m ≤ s) : Bz (n + s) (a / b) := by
  rw [← div_eq _ _ h0]
  have hb' : b.num ≠ 0 := fun z => h0 (Rat.num_eq_zero.mp z)
  have := ha.1
  have := hb.1
  exact bz_of (mul_ne (den_ne a) hb') (by omega) (ha.2.1.mul hb.2.2) (by omega) (ha.2.2.mul hs)
theorem mulOk_le {i j : Nat} {x y : Int} (h : Sz i x) (h2 : Sz j y) (e : i + j ≤ 900100) : mulOk x y = true := mulOk_of (h.mono (Nat.le_succ i)) (h2.mono (Nat.le_succ j)) (by omega) (by omega) (by omega)
theorem ok1 (ha : Bz n a) (hb : Bz m b) (h : n + m ≤ 9000) : mulOk a.num (b.den : Int) = true := mulOk_le ha.2.1 hb.2.2 (by omega)
theorem ok2 (ha : Bz n a) (hb : Bz m b) (h : n + m ≤ 9000) : mulOk (a.den : Int) (b.den : Int) = true := mulOk_le ha.2.2 hb.2.2 (by omega)
theorem ok3 (ha : Bz n a) (hb : Bz m b) (h : n + m ≤ 9000) : mulOk a.num b.num = true := mulOk_le ha.2.1 hb.2.1 (by omega)
theorem ok4 (ha : Bz n a) (hb : Bz m b) (h : n + m ≤ 9000) : mulOk (a.den : Int) b.num = true := mulOk_le ha.2.2 hb.2.1 (by omega)
theorem ev_add (ha : Bz n a) (hb : Bz m b) (h : n + m ≤ 9000) : m_Ratiou_addu [.p (rat a), .p (rat b)] μ = some (.ok (.p (rat (a + b))), μ) := by
  have e := ev_mk' (n := a.num * (b.den : Int) + b.num * (a.den : Int)) (d := (a.den : Int) * (b.den : Int)) (μ := μ) (mul_ne (den_ne a) (den_ne b)) (ha.2.2.mul hb.2.2) h (by have := ha.1; omega)
  rw [add_eq] at e
  simp [m_Ratiou_addu, arF, bodySem_eq, sv_Ratiou_addu, ok1 ha hb h, ok1 hb ha (by omega), ok2 ha hb h, e, rat]
theorem ev_sub (ha : Bz n a) (hb : Bz m b) (h : n + m ≤ 9000) : m_Ratiou_subu [.p (rat a), .p (rat b)] μ = some (.ok (.p (rat (a - b))), μ) := by
  have e := ev_mk' (n := a.num * (b.den : Int) - b.num * (a.den : Int)) (d := (a.den : Int) * (b.den : Int)) (μ := μ) (mul_ne (den_ne a) (den_ne b)) (ha.2.2.mul hb.2.2) h (by have := ha.1; omega)
  rw [sub_eq] at e
  simp [m_Ratiou_subu, arF, bodySem_eq, sv_Ratiou_subu, ok1 ha hb h, ok1 hb ha (by omega), ok2 ha hb h, e, rat]
theorem ev_mul (ha : Bz n a) (hb : Bz m b) (h : n + m ≤ 9000) : m_Ratiou_mulu [.p (rat a), .p (rat b)] μ = some (.ok (.p (rat (a * b))), μ) := by
  have e := ev_mk' (n := a.num * b.num) (d := (a.den : Int) * (b.den : Int)) (μ := μ) (mul_ne (den_ne a) (den_ne b)) (ha.2.2.mul hb.2.2) h (by have := ha.1; omega)
  rw [mul_eq] at e
  simp [m_Ratiou_mulu, arF, bodySem_eq, sv_Ratiou_mulu, ok3 ha hb h, ok2 ha hb h, e, rat]
theorem ev_neg (ha : Bz n a) (h : n ≤ 9000) : m_Ratiou_negu [.p (rat a)] μ = some (.ok (.p (rat (-a))), μ) := by
  have e := ev_mk' (n := -a.num) (d := (a.den : Int)) (μ := μ) (den_ne a) ha.2.2 h ha.1
  rw [neg_eq] at e
  simp [m_Ratiou_negu, arF, bodySem_eq, sv_Ratiou_negu, e, rat]
@[simp] theorem isObj_rat : isObj 0 (.p (rat a)) = true := rfl
@[simp] theorem semD_ok {sem : FSem} {ds : List D} {d : D} {μ' : Mu} (h : sem ds μ = some (.ok d, μ')) : semD sem ds μ = some (d, μ') := by unfold semD; rw [h]
theorem own_ok {sem : FSem} {d : D} {μ' : Mu} (h : sem [.p (rat a), .p (rat b)] μ = some (.ok d, μ')) : fOwn 0 sem (.p (rat a)) (.p (rat b)) μ = some (d, μ') := by
  unfold fOwn; simp [semD_ok h]
theorem own1_ok {sem : FSem} {d : D} {μ' : Mu} (h : sem [.p (rat a)] μ = some (.ok d, μ')) : fOwn1 0 sem (.p (rat a)) μ = some (d, μ') := by
  unfold fOwn1; simp [semD_ok h]
theorem o_add' (ha : Bz n a) (hb : Bz m b) (h : n + m ≤ 9000) : fOwn 0 m_Ratiou_addu (.p (rat a)) (.p (rat b)) μ = some (.p (rat (a + b)), μ) := own_ok (ev_add ha hb h)
theorem o_sub' (ha : Bz n a) (hb : Bz m b) (h : n + m ≤ 9000) : fOwn 0 m_Ratiou_subu (.p (rat a)) (.p (rat b)) μ = some (.p (rat (a - b)), μ) := own_ok (ev_sub ha hb h)
theorem o_mul' (ha : Bz n a) (hb : Bz m b) (h : n + m ≤ 9000) : fOwn 0 m_Ratiou_mulu (.p (rat a)) (.p (rat b)) μ = some (.p (rat (a * b)), μ) := own_ok (ev_mul ha hb h)
theorem o_neg' (ha : Bz n a) (h : n ≤ 9000) : fOwn1 0 m_Ratiou_negu (.p (rat a)) μ = some (.p (rat (-a)), μ) := own1_ok (ev_neg ha h)
theorem lt_iff' : a.num * (b.den : Int) < b.num * (a.den : Int) ↔ a < b := (Rat.lt_iff a b).symm
theorem ev_is_less (ha : Bz n a) (hb : Bz m b) (h : n + m ≤ 9000) : m_is_less [.p (rat a), .p (rat b)] μ = some (.ok (.p (.bl (decide (a < b)))), μ) := by
  have e : decide (a.num * (b.den : Int) < b.num * (a.den : Int)) = decide (a < b) := by rw [decide_eq_decide]; exact lt_iff'
  simp only [← e]
  simp [m_is_less, arF, bodySem_eq, sv_is_less, ok1 ha hb h, ok1 hb ha (by omega), rat]
end
end Vs
namespace Vs
open PySem PySem.Spec PyProof.Rows L2
section
variable {a b : Rat} {n m : Nat} {μ : Mu}
/-- the absolute value -/
def ab (q : Rat) : Rat := if q < 0 then -q else q
theorem Bz.ab (ha : Bz n a) : Bz n (ab a) := by
  unfold Vs.ab
  split
  · exact ha.neg
  · exact ha
theorem ab_nonneg : 0 ≤ ab a := by
  unfold ab
  split <;> grind
theorem ev_size (ha : Bz n a) (h : n ≤ 8000) : m__size [.p (rat a)] μ = some (.ok (.p (rat (ab a))), μ) := by
  have e0 : ∀ ν : Mu, mkEnd 0 2 ν.length (m_Ratiou_initu [.loc ν.length, .p (.int 0), .p (.int 1)] (ν ++ [some (.ins 0 [])])) = some (.ok (.p (rat 0)), ν) := fun ν => ev_mk1
  have e1 := fun ν : Mu => ev_is_less (μ := ν) (b := 0) ha (m := 1) ⟨Nat.le_refl _, by unfold Sz; decide, by unfold Sz; decide⟩ (by omega)
  by_cases q : a < 0
  · simp [m__size, arF, bodySem_eq, sv__size, e0, e1, q, o_neg' ha (by omega), ab]
  · simp [m__size, arF, bodySem_eq, sv__size, e0, e1, q, ab]
/-- one half -/
def hf : Rat := Rat.divInt 1 2
theorem hf_bz : Bz 2 hf := by
  refine ⟨by decide, ?_, ?_⟩
  · unfold Sz; decide
  · unfold Sz; decide
def rch (p v a s : Rat) : Rat := p + (v + hf * a * s) * s
theorem bz0 : Bz 1 0 := ⟨Nat.le_refl _, by unfold Sz; decide, by unfold Sz; decide⟩
theorem rch_bz {p v a s : Rat} {np nv na ns : Nat} (hp : Bz np p) (hv : Bz nv v) (ha : Bz na a) (hs : Bz ns s) : Bz (np + nv + na + 2 * ns + 2) (rch p v a s) :=
  (hp.add ((hv.add ((hf_bz.mul ha).mul hs)).mul hs)).mono (by omega)
theorem e_mk {x y : Int} {μ : Mu} (hd : y ≠ 0) (hs : Sz 100 y) : mkEnd 0 2 μ.length (m_Ratiou_initu [.loc μ.length, .p (.int x), .p (.int y)] (μ ++ [some (.ins 0 [])])) = some (.ok (.p (rat (Rat.divInt x y))), μ) := ev_mk' hd hs (by decide) (by decide)
theorem e_hf {μ : Mu} : mkEnd 0 2 μ.length (m_Ratiou_initu [.loc μ.length, .p (.int 1), .p (.int 2)] (μ ++ [some (.ins 0 [])])) = some (.ok (.p (rat hf)), μ) := e_mk (by decide) (by unfold Sz; decide)
theorem e_0 {μ : Mu} : mkEnd 0 2 μ.length (m_Ratiou_initu [.loc μ.length, .p (.int 0), .p (.int 1)] (μ ++ [some (.ins 0 [])])) = some (.ok (.p (rat 0)), μ) := ev_mk1
theorem ev_reached {p v a s : Rat} {np nv na ns : Nat} (hp : Bz np p) (hv : Bz nv v) (ha : Bz na a) (hs : Bz ns s) (h : np + nv + na + 2 * ns + 2 ≤ 9000) :
    m__reached [.p (rat p), .p (rat v), .p (rat a), .p (rat s)] μ = some (.ok (.p (rat (rch p v a s))), μ) := by
  have e1 := fun ν : Mu => o_mul' (μ := ν) hf_bz ha (by omega)
  have e2 := fun ν : Mu => o_mul' (μ := ν) (hf_bz.mul ha) hs (by omega)
  have e3 := fun ν : Mu => o_add' (μ := ν) hv ((hf_bz.mul ha).mul hs) (by omega)
  have e4 := fun ν : Mu => o_mul' (μ := ν) (hv.add ((hf_bz.mul ha).mul hs)) hs (by omega)
  have e5 := fun ν : Mu => o_add' (μ := ν) hp ((hv.add ((hf_bz.mul ha).mul hs)).mul hs) (by omega)
  simp [m__reached, arF, bodySem_eq, sv__reached, e_hf, e1, e2, e3, e4, e5, rch]
end
end Vs
namespace Vs
open PySem PySem.Spec PyProof.Rows L2
section
variable {μ : Mu}
structure SS where
  cells : List Int
  cur : Int
  pos : Nat
  mix : Int
structure SS.Ok (s : SS) : Prop where
  c0 : 0 ≤ s.cur
  m0 : 0 ≤ s.mix
  m1 : s.mix < 2147483647
def SS.xs (s : SS) : List P := [.lst (s.cells.map .int), .int s.cur, .int (s.pos : Int), .int s.mix]
def mixOf : List Int → Int → Int
  | [], m => m
  | c :: cs, m => mixOf cs ((m * 48271 + c.fmod 65521 + 1).fmod 2147483647)
theorem mix_ok : ∀ (cs : List Int) (m : Int), 0 ≤ m → m < 2147483647 → 0 ≤ mixOf cs m ∧ mixOf cs m < 2147483647
  | [], m, h, h2 => ⟨h, h2⟩
  | c :: cs, m, h, h2 => mix_ok cs _ (Int.fmod_nonneg_of_pos _ (by decide)) (Int.fmod_lt_of_pos _ (by decide))
def start0 (ns : List Int) : SS := ⟨ns, 0, 0, mixOf ns 17⟩
theorem start0_ok (ns : List Int) : (start0 ns).Ok := ⟨Int.le_refl _, (mix_ok ns 17 (by decide) (by decide)).1, (mix_ok ns 17 (by decide) (by decide)).2⟩
theorem mulOk_mix {m : Int} (h : 0 ≤ m) (h2 : m < 2147483647) : mulOk m 48271 = true := mulOk_of (j := 31) (k := 16) (by unfold Sz; omega) (by unfold Sz; decide) (by decide) (by decide) (by decide)
theorem stream_loop {s0 : Option D} : ∀ (cs : List Int) (m : Int) (c : Option D) (μ : Mu), 0 ≤ m → m < 2147483647 →
    ∃ c', forL (tgN 2) (sSet 1 (evBin fMod (evBI fInt (evCons (evBin fAdd (evBin fAdd (evBin fMul (evV 1) (evC (.int 48271))) (evBin fMod (evBI fInt (evCons (evV 2) evNil)) (evC (.int 65521)))) (evC (.int 1))) evNil)) (evC (.int 2147483647)))) (cs.map .int) [s0, some (.p (.int m)), c] μ = some (.nx, [s0, some (.p (.int (mixOf cs m))), c'], μ)
  | [], m, c, μ, h, h2 => ⟨c, rfl⟩
  | x :: cs, m, c, μ, h, h2 => by
    obtain ⟨c', e⟩ := stream_loop (s0 := s0) cs ((m * 48271 + x.fmod 65521 + 1).fmod 2147483647) (some (.p (.int x))) μ (Int.fmod_nonneg_of_pos _ (by decide)) (Int.fmod_lt_of_pos _ (by decide))
    refine ⟨c', ?_⟩
    rw [List.map_cons, forL]
    simp [tgN, mulOk_mix h h2, e, mixOf]
theorem ev_stream {ns : List Int} {μ : Mu} : m__law_stream [.p (.wl (ns.map .int))] μ = some (.ok (.loc μ.length), μ ++ [some (.lst (start0 ns).xs)]) := by
  obtain ⟨c', e⟩ := stream_loop (s0 := some (.p (.wl (ns.map .int)))) ns 17 none μ (by decide) (by decide)
  have hit : evIt (evV 0) [some (D.p (.wl (ns.map .int))), some (.p (.int 17)), none] μ = some (.ok (ns.map .int), μ) := rfl
  have hl : fList [.p (.wl (ns.map .int))] μ = some (.p (.lst (ns.map .int)), μ) := rfl
  simp [m__law_stream, arF, bodySemC_eq, sv__law_stream, hit, e, hl, retC, retLC, cellL, start0, SS.xs]
def SS.load (s : SS) : SS := if s.cur = 0 then (match s.cells[s.pos]? with
  | some c => ⟨s.cells, if c < 0 then -c else c, s.pos + 1, s.mix⟩
  | none => s) else s
def SS.draw (s : SS) (many : Int) : Int × SS :=
  if s.load.cur = 0 then ((((s.mix * 48271 + 11).fmod 2147483647).fdiv 97).fmod many, ⟨s.load.cells, s.load.cur, s.load.pos, (s.mix * 48271 + 11).fmod 2147483647⟩)
  else (s.load.cur.fmod many, ⟨s.load.cells, s.load.cur.fdiv many, s.load.pos, s.mix⟩)
theorem SS.draw_ok {s : SS} (h : s.Ok) {many : Int} (hm : 0 < many) : (s.draw many).2.Ok ∧ 0 ≤ (s.draw many).1 ∧ (s.draw many).1 < many := by
  have hl : 0 ≤ s.load.cur := by
    unfold SS.load
    split
    · split
      · dsimp only; split <;> omega
      · exact h.c0
    · exact h.c0
  unfold SS.draw
  split
  · exact ⟨⟨hl, Int.fmod_nonneg_of_pos _ (by decide), Int.fmod_lt_of_pos _ (by decide)⟩, Int.fmod_nonneg_of_pos _ hm, Int.fmod_lt_of_pos _ hm⟩
  · exact ⟨⟨by rw [Int.fdiv_eq_ediv_of_nonneg _ (Int.le_of_lt hm)]; exact Int.ediv_nonneg hl (Int.le_of_lt hm), h.m0, h.m1⟩, Int.fmod_nonneg_of_pos _ hm, Int.fmod_lt_of_pos _ hm⟩
end
section
variable {μ : Mu} {l : Nat}
@[simp] theorem fLen_lst {xs : List P} : fLen [.p (.lst xs)] μ = some (.p (.int xs.length), μ) := rfl
theorem divOk97 {i : Int} : divOk i 97 = true := divOk_of (by decide) (by decide)
theorem ev_draw {s : SS} {many : Int} (hs : s.Ok) (hl : μ[l]? = some (some (.lst s.xs))) (hm : 0 < many) (hz : many.natAbs.log2 < 9000) :
    m__law_draw [.loc l, .p (.int many)] μ = some (.ok (.p (.int (s.draw many).1)), μ.set l (some (.lst (s.draw many).2.xs))) := by
  obtain ⟨cells, cur, pos, mix⟩ := s
  obtain ⟨c0, m0, m1⟩ := hs
  dsimp only at c0 m0 m1
  have hl : μ[l]? = some (some (.lst [.lst (cells.map .int), .int cur, .int (pos : Int), .int mix])) := hl
  have g : ∀ (ys : List P) (i : Int), fIx (.loc l) (.p (.int i)) (μ.set l (some (.lst ys))) = ixAns (μ.set l (some (.lst ys))) (atI ys i) := fun ys i => fIx_lst (view_l (set_get hl))
  have g0 : ∀ (i : Int), fIx (.loc l) (.p (.int i)) μ = ixAns μ (atI [P.lst (cells.map .int), .int cur, .int (pos : Int), .int mix] i) := fun i => fIx_lst (view_l hl)
  have st : ∀ (δ : Sl) (a b c d y : P) (k : Int) (n : Nat), ixN 4 k = some n → setIxEnd δ (μ.set l (some (.lst [a, b, c, d]))) (.loc l) (.p (.int k)) (.p y) = some (.nx, δ, (μ.set l (some (.lst [a, b, c, d]))).set l (some (.lst ([a, b, c, d].set n y)))) := fun δ a b c d y k n h => setIxEnd_l (set_get hl) h
  have st0 : ∀ (δ : Sl) (y : P) (k : Int) (n : Nat), ixN 4 k = some n → setIxEnd δ μ (.loc l) (.p (.int k)) (.p y) = some (.nx, δ, μ.set l (some (.lst ([P.lst (cells.map .int), .int cur, .int (pos : Int), .int mix].set n y)))) := fun δ y k n h => setIxEnd_l hl h
  have i1 : ixN 4 1 = some 1 := by decide
  have i2 : ixN 4 2 = some 2 := by decide
  have i3 : ixN 4 3 = some 3 := by decide
  have dm : ∀ (i : Int), divOk i many = true := fun i => divOk_of (by omega) hz
  have mm : mulOk mix 48271 = true := mulOk_mix m0 m1
  have hne : many ≠ 0 := by omega
  by_cases hc : cur = 0
  · subst hc
    by_cases hp : pos < cells.length
    · have hq : cells[pos]? = some cells[pos] := List.getElem?_eq_getElem hp
      have ha : atI (cells.map P.int) (pos : Int) = some (.int cells[pos]) := atI_nat (by rw [List.getElem?_map, hq]; rfl)
      by_cases h0 : cells[pos] = 0
      · simp [m__law_draw, arF, bodySem_eq, sv__law_draw, g0, g, hp, ha, st0 _ _ _ _ i1, st _ _ _ _ _ _ _ _ i1, st _ _ _ _ _ _ _ _ i2, st _ _ _ _ _ _ _ _ i3, mm, divOk97, dm, hne, SS.draw, SS.load, SS.xs, hq, h0]
      · have h1 : ¬ (if cells[pos] < 0 then -cells[pos] else cells[pos]) = 0 := by split <;> omega
        simp [m__law_draw, arF, bodySem_eq, sv__law_draw, g0, g, hp, ha, st0 _ _ _ _ i1, st _ _ _ _ _ _ _ _ i1, st _ _ _ _ _ _ _ _ i2, st _ _ _ _ _ _ _ _ i3, mm, divOk97, dm, hne, SS.draw, SS.load, SS.xs, hq, h1]
    · have hq : cells[pos]? = none := List.getElem?_eq_none (by omega)
      have hp' : ¬ ((pos : Int) < (cells.length : Int)) := by omega
      simp [m__law_draw, arF, bodySem_eq, sv__law_draw, g0, g, hp, hp', st0 _ _ _ _ i1, st0 _ _ _ _ i3, st _ _ _ _ _ _ _ _ i1, st _ _ _ _ _ _ _ _ i2, st _ _ _ _ _ _ _ _ i3, mm, divOk97, dm, hne, SS.draw, SS.load, SS.xs, hq]
  · simp [m__law_draw, arF, bodySem_eq, sv__law_draw, g0, g, hc, st0 _ _ _ _ i1, st0 _ _ _ _ i3, st _ _ _ _ _ _ _ _ i1, st _ _ _ _ _ _ _ _ i2, st _ _ _ _ _ _ _ _ i3, mm, divOk97, dm, hne, SS.draw, SS.load, SS.xs]
/-- the stream's place -/
def st (s : SS) : Option MO := some (.lst s.xs)
@[simp] theorem st_set {s s' : SS} : (μ.set l (st s)).set l (st s') = μ.set l (st s') := by unfold st; exact List.set_set ..
theorem st_get (h : l < μ.length) {s : SS} : (μ.set l (st s))[l]? = some (some (.lst s.xs)) := List.getElem?_set_self h
theorem draw_ex {s : SS} (many : Int) (hs : s.Ok) (hm : 0 < many := by decide) (hz : many.natAbs.log2 < 9000 := by decide) :
    ∃ v s', SS.Ok s' ∧ 0 ≤ v ∧ v < many ∧ ∀ {μ : Mu} {l : Nat}, l < μ.length → m__law_draw [.loc l, .p (.int many)] (μ.set l (st s)) = some (.ok (.p (.int v)), μ.set l (st s')) :=
  ⟨_, _, (SS.draw_ok hs hm).1, (SS.draw_ok hs hm).2.1, (SS.draw_ok hs hm).2.2, fun h => by
    have e := ev_draw hs (st_get h) hm hz
    unfold st at e ⊢
    rwa [List.set_set] at e⟩
/-- a drawn number -/
def Dr (q : Rat) : Prop := Sz 30 q.num ∧ Sz 20 (q.den : Int)
theorem Dr.bz {q : Rat} (h : Dr q) : Bz 20 q := ⟨by decide, h.1.mono (by decide), h.2⟩
theorem dr_of {x y : Int} (hx : Sz 30 x) (hy : Sz 20 y) (h0 : y ≠ 0) : Dr (Rat.divInt x y) := ⟨num_sz hx, den_sz hy h0⟩
theorem sz_lt {k : Nat} {x : Int} (c : Nat) (h : x.natAbs ≤ c) (hc : c < 2 ^ k := by decide) : Sz k x := Nat.lt_of_le_of_lt h hc
end
end Vs
namespace Vs
open PySem PySem.Spec PyProof.Rows L2
section
variable {μ : Mu} {δ : Sl}
theorem evBM_eq {ty : Mu → D → Bool} {f : FM} {o : Ev} {a : EvA} : evBM ty f o a δ μ = bindG (o δ μ) fun x μ1 => if ty μ1 x = true then bindG (a δ μ1) fun ds μ2 => okm (f x ds μ2) else none := rfl
theorem isLst_l {l : Nat} {xs : List P} (h : μ[l]? = some (some (.lst xs))) : isLst μ (.loc l) = true := by
  unfold isLst
  rw [view_l h]
theorem fApp_l {l : Nat} {xs : List P} {y : P} (h : μ[l]? = some (some (.lst xs))) (hl : xs.length < sizeLine) : fApp (.loc l) [.p y] μ = some (.p .non, μ.set l (some (.lst (xs ++ [y])))) := by
  unfold fApp
  dsimp only
  rw [toP_p]
  dsimp only
  rw [cellL_l h]
  dsimp only
  rw [if_pos hl]
theorem get_end {o : Option MO} : (μ ++ [o])[μ.length]? = some o := by simp
theorem is1 {acc : List P} : isLst (μ ++ [some (.lst acc)]) (.loc μ.length) = true := isLst_l get_end
theorem ap1 {acc : List P} {y : P} (h : acc.length < sizeLine) : fApp (.loc μ.length) [.p y] (μ ++ [some (.lst acc)]) = some (.p .non, μ ++ [some (.lst (acc ++ [y]))]) := by
  rw [fApp_l get_end h, set_end rfl]
theorem line_k {n : Nat} (h : n < 1000) : n < sizeLine := Nat.lt_of_lt_of_le h (by decide)
theorem forL_nx {ts : Tgt} {body : SEv} {x : P} {xs : List P} {δ δ1 δ2 : Sl} {μ μ2 : Mu} (h1 : ts x δ = some δ1) (h2 : body δ1 μ = some (.nx, δ2, μ2)) : forL ts body (x :: xs) δ μ = forL ts body xs δ2 μ2 := by
  rw [forL, h1]; dsimp only; rw [h2]
theorem forL_ret {ts : Tgt} {body : SEv} {x : P} {xs : List P} {δ δ1 δ2 : Sl} {μ μ2 : Mu} {d : D} (h1 : ts x δ = some δ1) (h2 : body δ1 μ = some (.ret d, δ2, μ2)) : forL ts body (x :: xs) δ μ = some (.ret d, δ2, μ2) := by
  rw [forL, h1]; dsimp only; rw [h2]
theorem mk0 {ν : Mu} : evMake 0 2 m_Ratiou_initu [.int 1] (evCons (evC (.int 0)) evNil) δ ν = some (.ok (.p (rat 0)), ν) := by
  have e := e_0 (μ := ν)
  simp [e]
def rowR (r : Rat × Rat) : P := .tup [rat r.1, rat r.2]
structure Pc where
  (t e p v a : Rat)
def Pc.r (c : Pc) : P := .tup [rat c.t, rat c.e, rat c.p, rat c.v, rat c.a]
def pcs : Rat → Rat → Rat → List (Rat × Rat) → List Pc
  | _, _, _, [] => []
  | t, p, v, r :: rs => ⟨t, t + r.1, p, v, r.2⟩ :: pcs (t + r.1) (rch p v r.2 r.1) (v + r.2 * r.1) rs
def finT : Rat → List (Rat × Rat) → Rat
  | t, [] => t
  | t, r :: rs => finT (t + r.1) rs
def finV : Rat → List (Rat × Rat) → Rat
  | v, [] => v
  | v, r :: rs => finV (v + r.2 * r.1) rs
def finP : Rat → Rat → List (Rat × Rat) → Rat
  | p, _, [] => p
  | p, v, r :: rs => finP (rch p v r.2 r.1) (v + r.2 * r.1) rs
/-- a good run of rows: the sizes, and the last speed is 0 -/
def Good : Rat → List (Rat × Rat) → Prop
  | v, [] => v = 0
  | v, r :: rs => Bz 20 r.1 ∧ 0 < r.1 ∧ Bz 240 r.2 ∧ Bz 210 v ∧ Good (v + r.2 * r.1) rs
theorem Good.bz {v : Rat} {rs : List (Rat × Rat)} (h : Good v rs) : Bz 210 v := by
  cases rs with
  | nil => rw [show v = 0 from h]; exact bz0.mono (by decide)
  | cons r rs => exact h.2.2.2.1
theorem Good.fin : ∀ {rs : List (Rat × Rat)} {v : Rat}, Good v rs → finV v rs = 0
  | [], v, h => h
  | r :: rs, v, h => Good.fin (rs := rs) h.2.2.2.2
theorem pieces_loop {c0 : Option D} : ∀ (rs : List (Rat × Rat)) (t p v : Rat) (nt np : Nat), Good v rs → Bz nt t → Bz np p → nt + 20 * rs.length ≤ 8000 → np + 512 * rs.length ≤ 8000 → ∀ (acc : List P) (c5 c6 c7 : Option D), acc.length + rs.length ≤ 900 → ∃ c5' c6' c7',
    forL (tgT [5, 6]) lb_pieces_0 (rs.map rowR) [c0, some (.loc μ.length), some (.p (rat t)), some (.p (rat p)), some (.p (rat v)), c5, c6, c7] (μ ++ [some (.lst acc)])
      = some (.nx, [c0, some (.loc μ.length), some (.p (rat (finT t rs))), some (.p (rat (finP p v rs))), some (.p (rat (finV v rs))), c5', c6', c7'], μ ++ [some (.lst (acc ++ (pcs t p v rs).map Pc.r))])
  | [], t, p, v, nt, np, g, ht, hp, h1, h2, acc, c5, c6, c7, hl => ⟨c5, c6, c7, by simp [forL, pcs, finT, finP, finV]⟩
  | r :: rs, t, p, v, nt, np, g, ht, hp, h1, h2, acc, c5, c6, c7, hl => by
    obtain ⟨g1, g2, g3, g4, g5⟩ := g
    simp only [List.length_cons] at h1 h2 hl
    obtain ⟨c5', c6', c7', ih⟩ := pieces_loop (c0 := c0) rs (t + r.1) (rch p v r.2 r.1) (v + r.2 * r.1) (nt + 20) (np + 512) g5 (ht.add g1) ((rch_bz hp g4 g3 g1).mono (by omega)) (by omega) (by omega)
      (acc ++ [Pc.r ⟨t, t + r.1, p, v, r.2⟩]) (some (.p (rat r.1))) (some (.p (rat r.2))) (some (.p (rat (t + r.1)))) (by simp; omega)
    refine ⟨c5', c6', c7', ?_⟩
    have e1 := fun ν : Mu => o_add' (μ := ν) ht g1 (by omega)
    have e2 := fun ν : Mu => o_mul' (μ := ν) g3 g1 (by omega)
    have e3 := fun ν : Mu => o_add' (μ := ν) g4 (g3.mul g1) (by omega)
    have e4 := fun ν : Mu => ev_reached (μ := ν) hp g4 g3 g1 (by omega)
    have e5 : ∀ y, fApp (.loc μ.length) [.p y] (μ ++ [some (.lst acc)]) = some (.p .non, μ ++ [some (.lst (acc ++ [y]))]) := fun y => ap1 (line_k (by omega))
    have e6 : lb_pieces_0 [c0, some (.loc μ.length), some (.p (rat t)), some (.p (rat p)), some (.p (rat v)), some (.p (rat r.1)), some (.p (rat r.2)), c7] (μ ++ [some (.lst acc)])
      = some (.nx, [c0, some (.loc μ.length), some (.p (rat (t + r.1))), some (.p (rat (rch p v r.2 r.1))), some (.p (rat (v + r.2 * r.1))), some (.p (rat r.1)), some (.p (rat r.2)), some (.p (rat (t + r.1)))], μ ++ [some (.lst (acc ++ [Pc.r ⟨t, t + r.1, p, v, r.2⟩]))]) := by
      simp [lb_pieces_0, evBM_eq, is1, e1, e2, e3, e4, e5, Pc.r]
    rw [List.map_cons, forL_nx rfl e6, ih]
    simp only [pcs, finT, finP, finV, List.map_cons, List.append_assoc, List.singleton_append]
/-- a good move -/
def GoodM (rs : List (Rat × Rat)) : Prop := Good 0 rs ∧ rs.length ≤ 6
def mvR (rs : List (Rat × Rat)) : P := .tup (rs.map rowR)
theorem ev_pieces {rs : List (Rat × Rat)} (h : GoodM rs) : m_pieces [.p (mvR rs)] μ = some (.ok (.loc μ.length), μ ++ [some (.lst ((pcs 0 0 0 rs).map Pc.r))]) := by
  obtain ⟨g, hl⟩ := h
  obtain ⟨c5, c6, c7, e⟩ := pieces_loop (μ := μ) (c0 := some (.p (mvR rs))) rs 0 0 0 1 1 g bz0 bz0 (by omega) (by omega) [] none none none (by simp; omega)
  have e1 : evIt (evV 0) [some (.p (mvR rs)), some (.loc μ.length), some (.p (rat 0)), some (.p (rat 0)), some (.p (rat 0)), none, none, none] (μ ++ [some (MO.lst [])]) = some (.ok (rs.map rowR), μ ++ [some (MO.lst [])]) := rfl
  have e2 : cellL (μ ++ [some (.lst ((pcs 0 0 0 rs).map Pc.r))]) μ.length = some ((pcs 0 0 0 rs).map Pc.r) := cellL_end rfl
  simp only [List.nil_append] at e
  simp [-evMake_eq, m_pieces, arF, bodySemC_eq, sv_pieces, mk0, e1, e, retC, retLC, e2]
end
end Vs
namespace Vs
open PySem PySem.Spec PyProof.Rows L2
section
variable {μ : Mu} {δ : Sl}
structure PcB (c : Pc) : Prop where
  t : Bz 121 c.t
  e : Bz 121 c.e
  p : Bz 3073 c.p
  v : Bz 210 c.v
  a : Bz 240 c.a
structure PcOk (c : Pc) : Prop extends PcB c where
  d : Bz 20 (c.e - c.t)
  lt : c.t < c.e
theorem pcs_ok : ∀ (rs : List (Rat × Rat)) (t p v : Rat) (nt np : Nat), Good v rs → Bz nt t → Bz np p → nt + 20 * rs.length ≤ 121 → np + 512 * rs.length ≤ 3073 → ∀ c ∈ pcs t p v rs, PcOk c
  | [], _, _, _, _, _, _, _, _, _, _, c, hc => by cases hc
  | r :: rs, t, p, v, nt, np, g, ht, hp, h1, h2, c, hc => by
    obtain ⟨g1, g2, g3, g4, g5⟩ := g
    simp only [List.length_cons] at h1 h2
    rcases List.mem_cons.mp hc with rfl | hc
    · exact { t := ht.mono (by omega), e := (ht.add g1).mono (by omega), p := hp.mono (by omega), v := g4, a := g3, d := by show Bz 20 (t + r.1 - t); rw [show t + r.1 - t = r.1 by grind]; exact g1, lt := by show t < t + r.1; grind }
    · exact pcs_ok rs _ _ _ (nt + 20) (np + 512) g5 (ht.add g1) ((rch_bz hp g4 g3 g1).mono (by omega)) (by omega) (by omega) c hc
theorem fin_bz : ∀ (rs : List (Rat × Rat)) (t p v : Rat) (nt np : Nat), Good v rs → Bz nt t → Bz np p → nt + 20 * rs.length ≤ 121 → np + 512 * rs.length ≤ 3073 → Bz 121 (finT t rs) ∧ Bz 3073 (finP p v rs)
  | [], _, _, _, _, _, _, ht, hp, h1, h2 => ⟨ht.mono (by simp at h1; omega), hp.mono (by simp at h2; omega)⟩
  | r :: rs, t, p, v, nt, np, g, ht, hp, h1, h2 => by
    obtain ⟨g1, g2, g3, g4, g5⟩ := g
    simp only [List.length_cons] at h1 h2
    exact fin_bz rs _ _ _ (nt + 20) (np + 512) g5 (ht.add g1) ((rch_bz hp g4 g3 g1).mono (by omega)) (by omega) (by omega)
theorem GoodM.ok {rs : List (Rat × Rat)} (h : GoodM rs) : ∀ c ∈ pcs 0 0 0 rs, PcOk c := pcs_ok rs 0 0 0 1 1 h.1 bz0 bz0 (by have := h.2; omega) (by have := h.2; omega)
theorem GoodM.fin {rs : List (Rat × Rat)} (h : GoodM rs) : Bz 121 (finT 0 rs) ∧ Bz 3073 (finP 0 0 rs) := fin_bz rs 0 0 0 1 1 h.1 bz0 bz0 (by have := h.2; omega) (by have := h.2; omega)
theorem Good.d20 : ∀ {rs : List (Rat × Rat)} {v : Rat}, Good v rs → ∀ r ∈ rs, Bz 20 r.1
  | [], _, _, r, hr => by cases hr
  | s :: rs, v, g, r, hr => by
    rcases List.mem_cons.mp hr with rfl | hr
    · exact g.1
    · exact Good.d20 g.2.2.2.2 r hr
theorem length_loop {c0 : Option D} : ∀ (rs : List (Rat × Rat)) (t : Rat) (nt : Nat), (∀ r ∈ rs, Bz 20 r.1) → Bz nt t → nt + 20 * rs.length ≤ 8000 → ∀ (c2 c3 : Option D), ∃ c2' c3',
    forL (tgT [2, 3]) lb_length_0 (rs.map rowR) [c0, some (.p (rat t)), c2, c3] μ = some (.nx, [c0, some (.p (rat (finT t rs))), c2', c3'], μ)
  | [], t, nt, g, ht, h1, c2, c3 => ⟨c2, c3, by simp [forL, finT]⟩
  | r :: rs, t, nt, g, ht, h1, c2, c3 => by
    simp only [List.length_cons] at h1
    have g1 := g r List.mem_cons_self
    obtain ⟨c2', c3', ih⟩ := length_loop (c0 := c0) rs (t + r.1) (nt + 20) (fun x hx => g x (List.mem_cons_of_mem _ hx)) (ht.add g1) (by omega) (some (.p (rat r.1))) (some (.p (rat r.2)))
    refine ⟨c2', c3', ?_⟩
    have e1 := fun ν : Mu => o_add' (μ := ν) ht g1 (by omega)
    have e6 : lb_length_0 [c0, some (.p (rat t)), some (.p (rat r.1)), some (.p (rat r.2))] μ = some (.nx, [c0, some (.p (rat (t + r.1))), some (.p (rat r.1)), some (.p (rat r.2))], μ) := by
      simp [lb_length_0, e1]
    rw [List.map_cons, forL_nx rfl e6, ih]
    rfl
theorem ev_length {rs : List (Rat × Rat)} (h : GoodM rs) : m_length [.p (mvR rs)] μ = some (.ok (.p (rat (finT 0 rs))), μ) := by
  obtain ⟨c2, c3, e⟩ := length_loop (μ := μ) (c0 := some (.p (mvR rs))) rs 0 1 h.1.d20 bz0 (by have := h.2; omega) none none
  have e1 : evIt (evV 0) [some (.p (mvR rs)), some (.p (rat 0)), none, none] μ = some (.ok (rs.map rowR), μ) := rfl
  simp [-evMake_eq, m_length, arF, bodySem_eq, sv_length, mk0, e1, e]
theorem pcs_last : ∀ (rs : List (Rat × Rat)) (t p v : Rat), rs ≠ [] → ∃ i c, pcs t p v rs = i ++ [c] ∧ rch c.p c.v c.a (c.e - c.t) = finP p v rs
  | [r], t, p, v, _ => ⟨[], ⟨t, t + r.1, p, v, r.2⟩, rfl, by show rch p v r.2 (t + r.1 - t) = rch p v r.2 r.1; rw [show t + r.1 - t = r.1 by grind]⟩
  | r :: s :: rs, t, p, v, _ => by
    obtain ⟨i, c, e1, e2⟩ := pcs_last (s :: rs) (t + r.1) (rch p v r.2 r.1) (v + r.2 * r.1) (by simp)
    exact ⟨⟨t, t + r.1, p, v, r.2⟩ :: i, c, by rw [pcs, e1]; rfl, e2⟩
theorem at_last {xs : List P} {x : P} : atI (xs ++ [x]) (-1) = some x := by
  unfold atI
  have h : ixN (xs ++ [x]).length (-1) = some xs.length := by
    unfold ixN
    simp
    try omega
  rw [h]
  simp
theorem ev_way {rs : List (Rat × Rat)} (h : GoodM rs) (h0 : rs ≠ []) : m_way [.p (mvR rs)] μ = some (.ok (.p (rat (finP 0 0 rs))), μ) := by
  obtain ⟨i, c, e1, e2⟩ := pcs_last rs 0 0 0 h0
  have hc : PcOk c := h.ok c (by rw [e1]; simp)
  have e3 := ev_pieces (μ := μ) h
  rw [e1, List.map_append, List.map_singleton] at e3
  have e4 : fIx (.loc μ.length) (.p (.int (-1))) (μ ++ [some (MO.lst (i.map Pc.r ++ [c.r]))]) = some (.p c.r, μ ++ [some (MO.lst (i.map Pc.r ++ [c.r]))]) := by
    rw [fIx_lst (view_l get_end), at_last]; rfl
  have e5 := fun ν : Mu => o_sub' (μ := ν) hc.e hc.t (by decide)
  have e6 := fun ν : Mu => ev_reached (μ := ν) hc.p hc.v hc.a hc.d (by decide)
  rw [e2] at e6
  unfold Pc.r at e3 e4
  simp [m_way, arF, bodySem_eq, sv_way, e3, e4, e5, e6]
end
end Vs
namespace Vs
open PySem PySem.Spec PyProof.Rows L2
section
variable {μ : Mu} {δ : Sl}
def posL : List Pc → Rat → Option Rat
  | [], _ => none
  | c :: cs, x => if c.e < x then posL cs x else some (rch c.p c.v c.a (x - c.t))
def spdL : List Pc → Rat → Option Rat
  | [], _ => none
  | c :: cs, x => if c.e < x then spdL cs x else some (c.v + c.a * (x - c.t))
def orR : Option Rat → Sl → Sl → Mu → Option (Fl × Sl × Mu)
  | some y, δ, _, μ => some (.ret (.p (rat y)), δ, μ)
  | none, _, δ, μ => some (.nx, δ, μ)
theorem pos_loop {c0 : Option D} {x : Rat} {nx : Nat} (hx : Bz nx x) (hn : nx ≤ 2500) : ∀ (ps : List Pc), (∀ c ∈ ps, PcB c) → ∀ (c2 c3 c4 c5 c6 : Option D), ∃ δ' c2' c3' c4' c5' c6',
    forL (tgT [2, 3, 4, 5, 6]) lb_position_0 (ps.map Pc.r) [c0, some (.p (rat x)), c2, c3, c4, c5, c6] μ = orR (posL ps x) δ' [c0, some (.p (rat x)), c2', c3', c4', c5', c6'] μ
  | [], h, c2, c3, c4, c5, c6 => ⟨[], c2, c3, c4, c5, c6, by simp [forL, posL, orR]⟩
  | c :: ps, h, c2, c3, c4, c5, c6 => by
    have hc := h c List.mem_cons_self
    have e1 := fun ν : Mu => ev_is_less (μ := ν) hc.e hx (by omega)
    have e2 := fun ν : Mu => o_sub' (μ := ν) hx hc.t (by omega)
    have e3 := fun ν : Mu => ev_reached (μ := ν) hc.p hc.v hc.a (hx.sub hc.t) (by omega)
    by_cases q : c.e < x
    · obtain ⟨δ', c2', c3', c4', c5', c6', ih⟩ := pos_loop (c0 := c0) hx hn ps (fun y hy => h y (List.mem_cons_of_mem _ hy)) (some (.p (rat c.t))) (some (.p (rat c.e))) (some (.p (rat c.p))) (some (.p (rat c.v))) (some (.p (rat c.a)))
      refine ⟨δ', c2', c3', c4', c5', c6', ?_⟩
      have e6 : lb_position_0 [c0, some (.p (rat x)), some (.p (rat c.t)), some (.p (rat c.e)), some (.p (rat c.p)), some (.p (rat c.v)), some (.p (rat c.a))] μ
          = some (.nx, [c0, some (.p (rat x)), some (.p (rat c.t)), some (.p (rat c.e)), some (.p (rat c.p)), some (.p (rat c.v)), some (.p (rat c.a))], μ) := by
        simp [lb_position_0, e1, q]
      rw [List.map_cons, forL_nx rfl e6, ih, posL, if_pos q]
    · refine ⟨[c0, some (.p (rat x)), some (.p (rat c.t)), some (.p (rat c.e)), some (.p (rat c.p)), some (.p (rat c.v)), some (.p (rat c.a))], c2, c3, c4, c5, c6, ?_⟩
      have e6 : lb_position_0 [c0, some (.p (rat x)), some (.p (rat c.t)), some (.p (rat c.e)), some (.p (rat c.p)), some (.p (rat c.v)), some (.p (rat c.a))] μ
          = some (.ret (.p (rat (rch c.p c.v c.a (x - c.t)))), [c0, some (.p (rat x)), some (.p (rat c.t)), some (.p (rat c.e)), some (.p (rat c.p)), some (.p (rat c.v)), some (.p (rat c.a))], μ) := by
        simp [lb_position_0, e1, e2, e3, q]
      rw [List.map_cons, forL_ret rfl e6, posL, if_neg q]
      rfl
theorem spd_loop {c0 : Option D} {x : Rat} {nx : Nat} (hx : Bz nx x) (hn : nx ≤ 500) : ∀ (ps : List Pc), (∀ c ∈ ps, PcB c) → ∀ (c2 c3 c4 c5 c6 : Option D), ∃ δ' c2' c3' c4' c5' c6',
    forL (tgT [2, 3, 4, 5, 6]) lb_speed_0 (ps.map Pc.r) [c0, some (.p (rat x)), c2, c3, c4, c5, c6] μ = orR (spdL ps x) δ' [c0, some (.p (rat x)), c2', c3', c4', c5', c6'] μ
  | [], h, c2, c3, c4, c5, c6 => ⟨[], c2, c3, c4, c5, c6, by simp [forL, spdL, orR]⟩
  | c :: ps, h, c2, c3, c4, c5, c6 => by
    have hc := h c List.mem_cons_self
    have e1 := fun ν : Mu => ev_is_less (μ := ν) hc.e hx (by omega)
    have e2 := fun ν : Mu => o_sub' (μ := ν) hx hc.t (by omega)
    have e3 := fun ν : Mu => o_mul' (μ := ν) hc.a (hx.sub hc.t) (by omega)
    have e4 := fun ν : Mu => o_add' (μ := ν) hc.v (hc.a.mul (hx.sub hc.t)) (by omega)
    by_cases q : c.e < x
    · obtain ⟨δ', c2', c3', c4', c5', c6', ih⟩ := spd_loop (c0 := c0) hx hn ps (fun y hy => h y (List.mem_cons_of_mem _ hy)) (some (.p (rat c.t))) (some (.p (rat c.e))) (some (.p (rat c.p))) (some (.p (rat c.v))) (some (.p (rat c.a)))
      refine ⟨δ', c2', c3', c4', c5', c6', ?_⟩
      have e6 : lb_speed_0 [c0, some (.p (rat x)), some (.p (rat c.t)), some (.p (rat c.e)), some (.p (rat c.p)), some (.p (rat c.v)), some (.p (rat c.a))] μ
          = some (.nx, [c0, some (.p (rat x)), some (.p (rat c.t)), some (.p (rat c.e)), some (.p (rat c.p)), some (.p (rat c.v)), some (.p (rat c.a))], μ) := by
        simp [lb_speed_0, e1, q]
      rw [List.map_cons, forL_nx rfl e6, ih, spdL, if_pos q]
    · refine ⟨[c0, some (.p (rat x)), some (.p (rat c.t)), some (.p (rat c.e)), some (.p (rat c.p)), some (.p (rat c.v)), some (.p (rat c.a))], c2, c3, c4, c5, c6, ?_⟩
      have e6 : lb_speed_0 [c0, some (.p (rat x)), some (.p (rat c.t)), some (.p (rat c.e)), some (.p (rat c.p)), some (.p (rat c.v)), some (.p (rat c.a))] μ
          = some (.ret (.p (rat (c.v + c.a * (x - c.t)))), [c0, some (.p (rat x)), some (.p (rat c.t)), some (.p (rat c.e)), some (.p (rat c.p)), some (.p (rat c.v)), some (.p (rat c.a))], μ) := by
        simp [lb_speed_0, e1, e2, e3, e4, q]
      rw [List.map_cons, forL_ret rfl e6, spdL, if_neg q]
      rfl
def posn (rs : List (Rat × Rat)) (x : Rat) : Rat := if x < 0 then 0 else (posL (pcs 0 0 0 rs) x).getD (finP 0 0 rs)
def spd (rs : List (Rat × Rat)) (x : Rat) : Rat := if x < 0 then 0 else (spdL (pcs 0 0 0 rs) x).getD 0
theorem it_pieces {rs : List (Rat × Rat)} {d1 d2 d3 d4 d5 d6 : Option D} (h : GoodM rs) : evIt (evCall m_pieces [] (evCons (evV 0) evNil)) [some (.p (mvR rs)), d1, d2, d3, d4, d5, d6] μ = some (.ok ((pcs 0 0 0 rs).map Pc.r), μ ++ [none]) := by
  have e := ev_pieces (μ := μ) h
  have e2 : cellL (μ ++ [some (MO.lst ((pcs 0 0 0 rs).map Pc.r))]) μ.length = some ((pcs 0 0 0 rs).map Pc.r) := cellL_end rfl
  simp [evIt, e, toP, e2, asList]
theorem ev_position {rs : List (Rat × Rat)} {x : Rat} {nx : Nat} (h : GoodM rs) (h0 : rs ≠ []) (hx : Bz nx x) (hn : nx ≤ 2500) : m_position [.p (mvR rs), .p (rat x)] μ = some (.ok (.p (rat (posn rs x))), μ) := by
  have e1 := fun ν : Mu => ev_is_less (μ := ν) hx bz0 (by omega)
  by_cases q : x < 0
  · simp [-evMake_eq, m_position, arF, bodySem_eq, sv_position, mk0, e1, q, posn]
  · have e2 := it_pieces (μ := μ) (d1 := some (.p (rat x))) (d2 := none) (d3 := none) (d4 := none) (d5 := none) (d6 := none) h
    obtain ⟨δ', c2, c3, c4, c5, c6, e3⟩ := pos_loop (μ := μ ++ [none]) (c0 := some (.p (mvR rs))) hx hn (pcs 0 0 0 rs) (fun c hc => (h.ok c hc).toPcB) none none none none none
    have e4 := fun ν : Mu => ev_way (μ := ν) h h0
    generalize hp : posL (pcs 0 0 0 rs) x = o at e3
    have e5 : posn rs x = o.getD (finP 0 0 rs) := by unfold posn; rw [if_neg q, hp]
    rw [e5]
    have e6 : List.take μ.length (μ ++ [none]) = μ := List.take_left
    cases o with
    | none => simp [-evMake_eq, m_position, arF, bodySem_eq, sv_position, mk0, e1, q, e2, e3, orR, e4, e6]
    | some y => simp [-evMake_eq, m_position, arF, bodySem_eq, sv_position, mk0, e1, q, e2, e3, orR, e6]
theorem ev_speed {rs : List (Rat × Rat)} {x : Rat} {nx : Nat} (h : GoodM rs) (hx : Bz nx x) (hn : nx ≤ 500) : m_speed [.p (mvR rs), .p (rat x)] μ = some (.ok (.p (rat (spd rs x))), μ) := by
  have e1 := fun ν : Mu => ev_is_less (μ := ν) hx bz0 (by omega)
  by_cases q : x < 0
  · simp [-evMake_eq, m_speed, arF, bodySem_eq, sv_speed, mk0, e1, q, spd]
  · have e2 := it_pieces (μ := μ) (d1 := some (.p (rat x))) (d2 := none) (d3 := none) (d4 := none) (d5 := none) (d6 := none) h
    obtain ⟨δ', c2, c3, c4, c5, c6, e3⟩ := spd_loop (μ := μ ++ [none]) (c0 := some (.p (mvR rs))) hx hn (pcs 0 0 0 rs) (fun c hc => (h.ok c hc).toPcB) none none none none none
    generalize hp : spdL (pcs 0 0 0 rs) x = o at e3
    have e5 : spd rs x = o.getD 0 := by unfold spd; rw [if_neg q, hp]
    rw [e5]
    have e6 : List.take μ.length (μ ++ [none]) = μ := List.take_left
    cases o with
    | none => simp [-evMake_eq, m_speed, arF, bodySem_eq, sv_speed, mk0, e1, q, e2, e3, orR, e6]
    | some y => simp [-evMake_eq, m_speed, arF, bodySem_eq, sv_speed, mk0, e1, q, e2, e3, orR, e6]
theorem pos_at : ∀ (rs : List (Rat × Rat)) (t p v : Rat), Good v rs → (posL (pcs t p v rs) t).getD (finP p v rs) = p ∧ (spdL (pcs t p v rs) t).getD 0 = v
  | [], t, p, v, g => ⟨rfl, (show v = 0 from g).symm⟩
  | r :: rs, t, p, v, g => by
    have h : ¬ (t + r.1 < t) := by have := g.2.1; grind
    refine ⟨?_, ?_⟩
    · show (if t + r.1 < t then _ else some (rch p v r.2 (t - t))).getD _ = p
      rw [if_neg h]
      show rch p v r.2 (t - t) = p
      unfold rch
      grind
    · show (if t + r.1 < t then _ else some (v + r.2 * (t - t))).getD _ = v
      rw [if_neg h]
      show v + r.2 * (t - t) = v
      grind
theorem posL_bz {x : Rat} {nx : Nat} (hx : Bz nx x) : ∀ (ps : List Pc), (∀ c ∈ ps, PcB c) → ∀ y, posL ps x = some y → Bz (3767 + 2 * nx) y
  | [], _, _, e => by cases e
  | c :: ps, h, y, e => by
    have hc := h c List.mem_cons_self
    unfold posL at e
    split at e
    · exact posL_bz hx ps (fun z hz => h z (List.mem_cons_of_mem _ hz)) y e
    · cases e
      exact (rch_bz hc.p hc.v hc.a (hx.sub hc.t)).mono (by omega)
theorem spdL_bz {x : Rat} {nx : Nat} (hx : Bz nx x) : ∀ (ps : List Pc), (∀ c ∈ ps, PcB c) → ∀ y, spdL ps x = some y → Bz (571 + nx) y
  | [], _, _, e => by cases e
  | c :: ps, h, y, e => by
    have hc := h c List.mem_cons_self
    unfold spdL at e
    split at e
    · exact spdL_bz hx ps (fun z hz => h z (List.mem_cons_of_mem _ hz)) y e
    · cases e
      exact (hc.v.add (hc.a.mul (hx.sub hc.t))).mono (by omega)
theorem posn_bz {rs : List (Rat × Rat)} {x : Rat} {nx : Nat} (h : GoodM rs) (hx : Bz nx x) : Bz (3767 + 2 * nx) (posn rs x) := by
  unfold posn
  split
  · exact bz0.mono (by omega)
  · cases q : posL (pcs 0 0 0 rs) x with
    | none => exact h.fin.2.mono (by omega)
    | some y => exact posL_bz hx _ (fun c hc => (h.ok c hc).toPcB) y q
theorem spd_bz {rs : List (Rat × Rat)} {x : Rat} {nx : Nat} (h : GoodM rs) (hx : Bz nx x) : Bz (571 + nx) (spd rs x) := by
  unfold spd
  split
  · exact bz0.mono (by omega)
  · cases q : spdL (pcs 0 0 0 rs) x with
    | none => exact bz0.mono (by omega)
    | some y => exact spdL_bz hx _ (fun c hc => (h.ok c hc).toPcB) y q
end
end Vs
namespace Vs
open PySem PySem.Spec PyProof.Rows L2
section
variable {δ : Sl}
theorem lcL_map {A : Type} {ts : Tgt} {e : Ev} {δ0 : Sl} {μ : Mu} (g f : A → P) : ∀ (as : List A) (acc : List P), (∀ a ∈ as, ∃ δ1, ts (g a) δ0 = some δ1 ∧ ∀ ν, e δ1 ν = some (.ok (.p (f a)), ν)) → acc.length + as.length ≤ sizeLine →
    lcL ts evTrue e δ0 μ.length (as.map g) (μ ++ [some (.lst acc)]) = some (μ ++ [some (.lst (acc ++ as.map f))])
  | [], acc, h, hl => by simp [lcL]
  | x :: xs, acc, h, hl => by
    obtain ⟨δ1, h1, h2⟩ := h x List.mem_cons_self
    have hl' : acc.length < sizeLine := by simp at hl; omega
    have ih := lcL_map (e := e) (μ := μ) g f xs (acc ++ [f x]) (fun y hy => h y (List.mem_cons_of_mem _ hy)) (by simp at hl ⊢; omega)
    rw [List.map_cons]
    unfold lcL
    rw [h1]
    dsimp only
    rw [evTrue_eq]
    dsimp only
    rw [h2]
    dsimp only
    rw [toP_p]
    dsimp only
    rw [cellL_end rfl]
    dsimp only
    rw [if_pos hl', set_end rfl, ih, List.append_assoc]
    rfl
theorem lc_map {A : Type} {it : EvG (List P)} {ts : Tgt} {e : Ev} {vs : List Nat} {μ ν : Mu} {as : List A} (g f : A → P) (hi : it δ μ = some (.ok (as.map g), ν)) (h : ∀ a ∈ as, ∃ δ1, ts (g a) (wipeS δ vs) = some δ1 ∧ ∀ ν, e δ1 ν = some (.ok (.p (f a)), ν)) (hl : as.length ≤ sizeLine) :
    evLc it ts evTrue e vs δ μ = some (.ok (.p (.lst (as.map f))), ν) := by
  rw [evLc_eq, hi, bindG_ok, lcL_map g f as [] h (by simpa using hl)]
  unfold lcEnd
  dsimp only
  rw [cellL_end rfl]
  dsimp only
  rw [List.take_left, List.nil_append]
theorem rng_small {v : Int} (h : 0 ≤ v) (h2 : v < 1000) : rngOk v = true := by
  unfold rngOk
  rw [Bool.and_eq_true]
  exact ⟨decide_eq_true (by omega), decide_eq_true (by omega)⟩
end
end Vs
namespace Vs
open PySem PySem.Spec PyProof.Rows L2
section
variable {μ : Mu} {a b : Rat} {n m : Nat}
theorem ev_quotient {s : Nat} (ha : Bz n a) (hb : Bz m b) (hs : Sz s b.num) (h0 : b ≠ 0) (h : n + m ≤ 9000) (h2 : n + s ≤ 9000) : m_quotient [.p (rat a), .p (rat b)] μ = some (.ok (.p (rat (a / b))), μ) := by
  have hb' : b.num ≠ 0 := fun z => h0 (Rat.num_eq_zero.mp z)
  have e := ev_mk' (n := a.num * (b.den : Int)) (d := (a.den : Int) * b.num) (μ := μ) (mul_ne (den_ne a) hb') (ha.2.2.mul hs) h2 (by have := ha.1; omega)
  rw [div_eq _ _ h0] at e
  simp [m_quotient, arF, bodySem_eq, sv_quotient, ok1 ha hb h, ok4 ha hb h, e, rat]
/-- a stopped move's position -/
def stp (rs : List (Rat × Rat)) (b f x : Rat) : Rat :=
  if f < x then rch (posn rs f) (spd rs f) (if spd rs f < 0 then b else -b) (if x - f < ab (spd rs f) / b then x - f else ab (spd rs f) / b) else posn rs x
theorem ev_stopped {rs : List (Rat × Rat)} {b f x : Rat} (h : GoodM rs) (h0 : rs ≠ []) (hb : Dr b) (hp : 0 < b) (hf : Bz 260 f) (hx : Bz 300 x) :
    m_stopped [.p (mvR rs), .p (rat b), .p (rat f), .p (rat x)] μ = some (.ok (.p (rat (stp rs b f x))), μ) := by
  have e1 := fun ν : Mu => ev_is_less (μ := ν) hf hx (by decide)
  have e2 := fun ν : Mu => ev_position (μ := ν) h h0 hx (by decide)
  by_cases q : f < x
  · have hb0 : b ≠ 0 := by grind
    have hv := spd_bz h hf
    have hpp := posn_bz h hf
    have e3 := fun ν : Mu => ev_speed (μ := ν) h hf (by decide)
    have e4 := fun ν : Mu => ev_size (μ := ν) hv (by decide)
    have e5 := fun ν : Mu => ev_quotient (μ := ν) hv.ab hb.bz hb.1 hb0 (by decide) (by decide)
    have hr := hv.ab.div hb.bz hb.1 hb0 (by decide)
    have e6 := fun ν : Mu => o_sub' (μ := ν) hx hf (by decide)
    have hs := hx.sub hf
    have e7 := fun ν : Mu => ev_is_less (μ := ν) hv bz0 (by decide)
    have e8 := fun ν : Mu => o_neg' (μ := ν) hb.bz (by decide)
    have e9 := fun ν : Mu => ev_is_less (μ := ν) hs hr (by decide)
    have e10 := fun ν : Mu => ev_position (μ := ν) h h0 hf (by decide)
    have e11 := fun (ν : Mu) (u : Rat) (s : Rat) (hu : Bz 20 u) (hs : Bz 901 s) => ev_reached (μ := ν) hpp hv hu hs (by decide)
    have hr' := hr.mono (m := 901) (by decide)
    have hs' := hs.mono (m := 901) (by decide)
    have e12 : stp rs b f x = rch (posn rs f) (spd rs f) (if spd rs f < 0 then b else -b) (if x - f < ab (spd rs f) / b then x - f else ab (spd rs f) / b) := by unfold stp; rw [if_pos q]
    rw [e12]
    generalize ab (spd rs f) / b = L at *
    generalize x - f = S at *
    generalize spd rs f = v at *
    generalize posn rs f = p at *
    by_cases q2 : v < 0
    · by_cases q3 : S < L
      · simp [-evMake_eq, m_stopped, arF, bodySem_eq, sv_stopped, mk0, e1, q, e3, e4, e5, e6, e7, q2, e9, q3, e10, e11 _ _ _ hb.bz hs']
      · simp [-evMake_eq, m_stopped, arF, bodySem_eq, sv_stopped, mk0, e1, q, e3, e4, e5, e6, e7, q2, e9, q3, e10, e11 _ _ _ hb.bz hr']
    · by_cases q3 : S < L
      · simp [-evMake_eq, m_stopped, arF, bodySem_eq, sv_stopped, mk0, e1, q, e3, e4, e5, e6, e7, e8, q2, e9, q3, e10, e11 _ _ _ hb.bz.neg hs']
      · simp [-evMake_eq, m_stopped, arF, bodySem_eq, sv_stopped, mk0, e1, q, e3, e4, e5, e6, e7, e8, q2, e9, q3, e10, e11 _ _ _ hb.bz.neg hr']
  · have e12 : stp rs b f x = posn rs x := by unfold stp; rw [if_neg q]
    rw [e12]
    simp [m_stopped, arF, bodySem_eq, sv_stopped, e1, q, e2]
end
end Vs
namespace Vs
open PySem PySem.Spec PyProof.Rows L2
section
@[simp] theorem evV_11 {a0 a1 a2 a3 a4 a5 a6 a7 a8 a9 a10 : Option D} {d : D} {δ : Sl} {μ : Mu} : evV 11 (a0 :: a1 :: a2 :: a3 :: a4 :: a5 :: a6 :: a7 :: a8 :: a9 :: a10 :: some d :: δ) μ = some (.ok d, μ) := rfl
@[simp] theorem evV_12 {a0 a1 a2 a3 a4 a5 a6 a7 a8 a9 a10 a11 : Option D} {d : D} {δ : Sl} {μ : Mu} : evV 12 (a0 :: a1 :: a2 :: a3 :: a4 :: a5 :: a6 :: a7 :: a8 :: a9 :: a10 :: a11 :: some d :: δ) μ = some (.ok d, μ) := rfl
@[simp] theorem evV_13 {a0 a1 a2 a3 a4 a5 a6 a7 a8 a9 a10 a11 a12 : Option D} {d : D} {δ : Sl} {μ : Mu} : evV 13 (a0 :: a1 :: a2 :: a3 :: a4 :: a5 :: a6 :: a7 :: a8 :: a9 :: a10 :: a11 :: a12 :: some d :: δ) μ = some (.ok d, μ) := rfl
@[simp] theorem evV_14 {a0 a1 a2 a3 a4 a5 a6 a7 a8 a9 a10 a11 a12 a13 : Option D} {d : D} {δ : Sl} {μ : Mu} : evV 14 (a0 :: a1 :: a2 :: a3 :: a4 :: a5 :: a6 :: a7 :: a8 :: a9 :: a10 :: a11 :: a12 :: a13 :: some d :: δ) μ = some (.ok d, μ) := rfl
@[simp] theorem evV_15 {a0 a1 a2 a3 a4 a5 a6 a7 a8 a9 a10 a11 a12 a13 a14 : Option D} {d : D} {δ : Sl} {μ : Mu} : evV 15 (a0 :: a1 :: a2 :: a3 :: a4 :: a5 :: a6 :: a7 :: a8 :: a9 :: a10 :: a11 :: a12 :: a13 :: a14 :: some d :: δ) μ = some (.ok d, μ) := rfl
@[simp] theorem evV_16 {a0 a1 a2 a3 a4 a5 a6 a7 a8 a9 a10 a11 a12 a13 a14 a15 : Option D} {d : D} {δ : Sl} {μ : Mu} : evV 16 (a0 :: a1 :: a2 :: a3 :: a4 :: a5 :: a6 :: a7 :: a8 :: a9 :: a10 :: a11 :: a12 :: a13 :: a14 :: a15 :: some d :: δ) μ = some (.ok d, μ) := rfl
@[simp] theorem evV_17 {a0 a1 a2 a3 a4 a5 a6 a7 a8 a9 a10 a11 a12 a13 a14 a15 a16 : Option D} {d : D} {δ : Sl} {μ : Mu} : evV 17 (a0 :: a1 :: a2 :: a3 :: a4 :: a5 :: a6 :: a7 :: a8 :: a9 :: a10 :: a11 :: a12 :: a13 :: a14 :: a15 :: a16 :: some d :: δ) μ = some (.ok d, μ) := rfl
@[simp] theorem evV_18 {a0 a1 a2 a3 a4 a5 a6 a7 a8 a9 a10 a11 a12 a13 a14 a15 a16 a17 : Option D} {d : D} {δ : Sl} {μ : Mu} : evV 18 (a0 :: a1 :: a2 :: a3 :: a4 :: a5 :: a6 :: a7 :: a8 :: a9 :: a10 :: a11 :: a12 :: a13 :: a14 :: a15 :: a16 :: a17 :: some d :: δ) μ = some (.ok d, μ) := rfl
@[simp] theorem evV_19 {a0 a1 a2 a3 a4 a5 a6 a7 a8 a9 a10 a11 a12 a13 a14 a15 a16 a17 a18 : Option D} {d : D} {δ : Sl} {μ : Mu} : evV 19 (a0 :: a1 :: a2 :: a3 :: a4 :: a5 :: a6 :: a7 :: a8 :: a9 :: a10 :: a11 :: a12 :: a13 :: a14 :: a15 :: a16 :: a17 :: a18 :: some d :: δ) μ = some (.ok d, μ) := rfl
@[simp] theorem evV_20 {a0 a1 a2 a3 a4 a5 a6 a7 a8 a9 a10 a11 a12 a13 a14 a15 a16 a17 a18 a19 : Option D} {d : D} {δ : Sl} {μ : Mu} : evV 20 (a0 :: a1 :: a2 :: a3 :: a4 :: a5 :: a6 :: a7 :: a8 :: a9 :: a10 :: a11 :: a12 :: a13 :: a14 :: a15 :: a16 :: a17 :: a18 :: a19 :: some d :: δ) μ = some (.ok d, μ) := rfl
end
section
variable {μ : Mu} {a b : Rat} {n m : Nat}
def posG (t p v : Rat) (rs : List (Rat × Rat)) (x : Rat) : Rat := (posL (pcs t p v rs) x).getD (finP p v rs)
theorem posG_cons {t p v x : Rat} {r : Rat × Rat} {rs : List (Rat × Rat)} : posG t p v (r :: rs) x = if t + r.1 < x then posG (t + r.1) (rch p v r.2 r.1) (v + r.2 * r.1) rs x else rch p v r.2 (x - t) := by
  unfold posG
  show (if t + r.1 < x then posL (pcs (t + r.1) (rch p v r.2 r.1) (v + r.2 * r.1) rs) x else some (rch p v r.2 (x - t))).getD (finP (rch p v r.2 r.1) (v + r.2 * r.1) rs) = _
  split <;> rfl
theorem posG_at {t p v : Rat} {rs : List (Rat × Rat)} (g : Good v rs) : posG t p v rs t = p := (pos_at rs t p v g).1
theorem posn_G {rs : List (Rat × Rat)} {x : Rat} : posn rs x = if x < 0 then 0 else posG 0 0 0 rs x := rfl
end
end Vs
namespace Vs
open PySem PySem.Spec PyProof.Rows L2
/-- the law's walk: place, speed, the time that is left -/
def ssw : Rat → Rat → Rat → List (Rat × Rat) → Rat × Rat
  | p, v, _, [] => (p, v)
  | p, v, x, r :: rs => if x < r.1 then (p + v * x + r.2 * hf * x * x, v + r.2 * x) else ssw (p + v * r.1 + r.2 * hf * r.1 * r.1) (v + r.2 * r.1) (x - r.1) rs
def spdG (t p v : Rat) (rs : List (Rat × Rat)) (x : Rat) : Rat := (spdL (pcs t p v rs) x).getD 0
theorem spdG_cons {t p v x : Rat} {r : Rat × Rat} {rs : List (Rat × Rat)} : spdG t p v (r :: rs) x = if t + r.1 < x then spdG (t + r.1) (rch p v r.2 r.1) (v + r.2 * r.1) rs x else v + r.2 * (x - t) := by
  unfold spdG
  rw [pcs]
  have e : ∀ (c : Pc) (cs : List Pc), spdL (c :: cs) x = if c.e < x then spdL cs x else some (c.v + c.a * (x - c.t)) := fun _ _ => rfl
  rw [e]
  dsimp only
  by_cases h : t + r.1 < x
  · rw [if_pos h, if_pos h]
  · rw [if_neg h, if_neg h]; rfl
theorem rch_ssw {p v a s : Rat} : p + v * s + a * hf * s * s = rch p v a s := by unfold rch; grind
theorem ssw_eq : ∀ (rs : List (Rat × Rat)) (t p v x : Rat), Good v rs → t ≤ x → ssw p v (x - t) rs = (posG t p v rs x, spdG t p v rs x)
  | [], t, p, v, x, g, h => by
    have : v = 0 := g
    subst this
    rfl
  | r :: rs, t, p, v, x, g, h => by
    obtain ⟨g1, g2, g3, g4, g5⟩ := g
    rw [posG_cons, spdG_cons]
    unfold ssw
    by_cases q : x - t < r.1
    · rw [if_pos q, if_neg (by grind), if_neg (by grind), rch_ssw]
    · rw [if_neg q, rch_ssw]
      by_cases e : t + r.1 < x
      · rw [if_pos e, if_pos e]
        have ih := ssw_eq rs (t + r.1) (rch p v r.2 r.1) (v + r.2 * r.1) x g5 (by grind)
        rw [show x - t - r.1 = x - (t + r.1) by grind, ih]
      · have ex : x = t + r.1 := by grind
        rw [if_neg e, if_neg e]
        have ih := ssw_eq rs (t + r.1) (rch p v r.2 r.1) (v + r.2 * r.1) x g5 (by grind)
        rw [show x - t - r.1 = x - (t + r.1) by grind, ih, ex, posG_at g5]
        have := (pos_at rs (t + r.1) (rch p v r.2 r.1) (v + r.2 * r.1) g5).2
        unfold spdG
        rw [this]
        rw [show t + r.1 - t = r.1 by grind]
theorem ssw_all {rs : List (Rat × Rat)} (h : GoodM rs) {x : Rat} (hx : ¬ x < 0) : ssw 0 0 x rs = (posn rs x, spd rs x) := by
  have := ssw_eq rs 0 0 0 x h.1 (by grind)
  rw [show x - 0 = x by grind] at this
  rw [this, posn_G, if_neg hx]
  unfold spd
  rw [if_neg hx]; rfl
theorem spd_neg {rs : List (Rat × Rat)} {x : Rat} (h : GoodM rs) (hx : x ≤ 0) : spd rs x = 0 := by
  unfold spd
  by_cases q : x < 0
  · rw [if_pos q]
  · have : x = 0 := by grind
    subst this
    rw [if_neg q]
    exact (pos_at rs 0 0 0 h.1).2
theorem spdG_end : ∀ (rs : List (Rat × Rat)) (t p v x : Rat), Good v rs → finT t rs < x → spdG t p v rs x = 0
  | [], t, p, v, x, _, _ => rfl
  | r :: rs, t, p, v, x, g, h => by
    obtain ⟨g1, g2, g3, g4, g5⟩ := g
    have le : ∀ (rs : List (Rat × Rat)) (t v : Rat), Good v rs → t ≤ finT t rs := fun rs => by
      induction rs with
      | nil => intro t v _; exact Rat.le_refl
      | cons r rs ih =>
        intro t v g
        have := ih (t + r.1) (v + r.2 * r.1) g.2.2.2.2
        have := g.2.1
        show t ≤ finT (t + r.1) rs
        grind
    have h : finT (t + r.1) rs < x := h
    have := le rs (t + r.1) (v + r.2 * r.1) g5
    rw [spdG_cons, if_pos (by grind)]
    exact spdG_end rs (t + r.1) _ _ x g5 h
theorem spd_end {rs : List (Rat × Rat)} {x : Rat} (h : GoodM rs) (hx : finT 0 rs < x) : spd rs x = 0 := by
  unfold spd
  split
  · rfl
  · exact spdG_end rs 0 0 0 x h.1 hx
theorem finT_nn {rs : List (Rat × Rat)} (h : GoodM rs) : 0 ≤ finT 0 rs := by
  have le : ∀ (rs : List (Rat × Rat)) (t v : Rat), Good v rs → t ≤ finT t rs := fun rs => by
    induction rs with
    | nil => intro t v _; exact Rat.le_refl
    | cons r rs ih =>
      intro t v g
      have := ih (t + r.1) (v + r.2 * r.1) g.2.2.2.2
      have := g.2.1
      show t ≤ finT (t + r.1) rs
      grind
  exact le rs 0 0 h.1
abbrev Ac := Rat × List (Rat × Rat)
/-- each begins when those before it have ended -/
def Seq : List Ac → Prop := List.Pairwise fun x y => x.1 + finT 0 x.2 ≤ y.1
def pSum (x : Rat) (L : List Ac) (s : Rat) : Rat := L.foldl (fun s c => s + posn c.2 (x - c.1)) s
def vSum (x : Rat) (L : List Ac) (s : Rat) : Rat := L.foldl (fun s c => s + spd c.2 (x - c.1)) s
def kSum (b f x : Rat) (L : List Ac) (s : Rat) : Rat := L.foldl (fun s c => s + stp c.2 b (f - c.1) (x - c.1)) s
theorem vSum_0 {x : Rat} : ∀ {L : List Ac} {s : Rat}, (∀ c ∈ L, spd c.2 (x - c.1) = 0) → vSum x L s = s
  | [], s, _ => rfl
  | c :: L, s, h => by
    show vSum x L (s + spd c.2 (x - c.1)) = s
    rw [h c List.mem_cons_self, vSum_0 fun c hc => h c (List.mem_cons_of_mem _ hc)]
    grind
theorem stp_still {rs : List (Rat × Rat)} {b f x : Rat} (hb : 0 < b) (h : spd rs f = 0) (hx : f < x) : stp rs b f x = posn rs f := by
  unfold stp
  rw [if_pos hx, h]
  have a0 : ab (0 : Rat) / b = 0 := by
    unfold ab
    rw [if_neg (by grind), Rat.div_def, Rat.zero_mul]
  rw [a0, if_neg (by grind : ¬ x - f < 0)]
  unfold rch
  grind
theorem kSum_0 {b f x : Rat} (hb : 0 < b) (hx : f < x) : ∀ {L : List Ac} {s : Rat}, (∀ c ∈ L, spd c.2 (f - c.1) = 0) → kSum b f x L s = pSum f L s
  | [], s, _ => rfl
  | c :: L, s, h => by
    show kSum b f x L (s + stp c.2 b (f - c.1) (x - c.1)) = pSum f L (s + posn c.2 (f - c.1))
    rw [stp_still hb (h c List.mem_cons_self) (by grind), kSum_0 hb hx fun c hc => h c (List.mem_cons_of_mem _ hc)]
/-- what the law tells of a machine that is braked -/
def brk (b v f x p : Rat) : Rat := rch p v (if v < 0 then b else -b) (if x - f < ab v / b then x - f else ab v / b)
theorem pSum_add {x : Rat} : ∀ {L : List Ac} {s q : Rat}, pSum x L (s + q) = pSum x L s + q
  | [], s, q => rfl
  | c :: L, s, q => by
    show pSum x L (s + q + posn c.2 (x - c.1)) = pSum x L (s + posn c.2 (x - c.1)) + q
    rw [show s + q + posn c.2 (x - c.1) = s + posn c.2 (x - c.1) + q by grind, pSum_add]
theorem brk_all {b f x : Rat} (hb : 0 < b) (hx : f < x) : ∀ {L : List Ac} {s : Rat}, (∀ c ∈ L, GoodM c.2) → Seq L → kSum b f x L s = brk b (vSum f L 0) f x (pSum f L s)
  | [], s, _, _ => by
    show s = brk b 0 f x s
    unfold brk
    have a0 : ab (0 : Rat) / b = 0 := by
      unfold ab
      rw [if_neg (by grind), Rat.div_def, Rat.zero_mul]
    rw [a0, if_neg (by grind : ¬ x - f < 0)]
    unfold rch
    grind
  | c :: L, s, hG, hS => by
    obtain ⟨s1, s2⟩ := List.pairwise_cons.mp hS
    have gc := hG c List.mem_cons_self
    show kSum b f x L (s + stp c.2 b (f - c.1) (x - c.1)) = brk b (vSum f L (0 + spd c.2 (f - c.1))) f x (pSum f L (s + posn c.2 (f - c.1)))
    by_cases q : spd c.2 (f - c.1) = 0
    · rw [q, show (0 : Rat) + 0 = 0 by grind, stp_still hb q (by grind)]
      exact brk_all hb hx (fun c hc => hG c (List.mem_cons_of_mem _ hc)) s2
    · have z : ∀ d ∈ L, spd d.2 (f - d.1) = 0 := fun d hd => by
        refine spd_neg (hG d (List.mem_cons_of_mem _ hd)) ?_
        have a := s1 d hd
        by_cases y : f - c.1 ≤ finT 0 c.2
        · grind
        · exact absurd (spd_end gc (by grind)) q
      rw [vSum_0 z, kSum_0 hb hx z]
      rw [show s + stp c.2 b (f - c.1) (x - c.1) = s + posn c.2 (f - c.1) + (stp c.2 b (f - c.1) (x - c.1) - posn c.2 (f - c.1)) by grind, pSum_add]
      unfold stp
      rw [if_pos (by grind : f - c.1 < x - c.1)]
      unfold brk
      rw [show x - c.1 - (f - c.1) = x - f by grind, show (0 : Rat) + spd c.2 (f - c.1) = spd c.2 (f - c.1) by grind]
      unfold rch
      grind
end Vs
set_option maxHeartbeats 1000000
namespace Vs
open PySem PySem.Spec PyProof.Rows L2
open PySem.Sem (wp)
abbrev TupAt (h : Heap) (t : Addr) (arr : Array Value) : Prop := h.get? t = some { cls := .type "tuple", data := .seq arr }
/-- what stands outside of cs stays -/
def Kp (cs : List Addr) (h h' : Heap) : Prop := ∀ c o, c ∉ cs → h.get? c = some o → h'.get? c = some o
theorem Kp.trans {cs : List Addr} {h h1 h2 : Heap} (a : Kp cs h h1) (b : Kp cs h1 h2) : Kp cs h h2 := fun c o n e => b c o n (a c o n e)
theorem Kp.ext {cs : List Addr} {t : Addr} {h h' : Heap} (x : Heap.ExtBut t h h') (m : t ∈ cs) : Kp cs h h' := fun c o n e => x c o (fun q => n (by rw [q]; exact m)) e
theorem Kp.same {cs : List Addr} {t : Addr} {h h' : Heap} (x : Heap.SameBut t h h') (m : t ∈ cs) : Kp cs h h' := Kp.ext x.extBut m
theorem Kp.push {cs : List Addr} {h : Heap} (o : Obj) : Kp cs h (h.push o) := fun _ _ _ e => Heap.get?_push_of_some o e
def SIt : Bool → Heap → Addr → Addr → Nat → Prop
  | true, h, i, l, k => h.IsTupleIter i l k
  | false, h, i, l, k => h.IsListIter i l k
def SAt : Bool → Heap → Addr → Array Value → Prop
  | true, h, l, xs => h.IsTuple l xs
  | false, h, l, xs => h.IsList l xs
theorem SIt.get {b : Bool} {h : Heap} {i l : Addr} {k : Nat} (x : SIt b h i l k) : ∃ o, h.get? i = some o ∧ ∀ v, o.data ≠ .cell v := by
  cases b
  · obtain ⟨o, e, _, d⟩ := x; exact ⟨o, e, fun v q => by rw [d] at q; cases q⟩
  · obtain ⟨o, e, _, d⟩ := x; exact ⟨o, e, fun v q => by rw [d] at q; cases q⟩
theorem SIt.to {b : Bool} {h h' : Heap} {i l : Addr} {k : Nat} (x : SIt b h i l k) (e : ∀ o, h.get? i = some o → h'.get? i = some o) : SIt b h' i l k := by
  cases b
  · obtain ⟨o, e1, r⟩ := x; exact ⟨o, e _ e1, r⟩
  · obtain ⟨o, e1, r⟩ := x; exact ⟨o, e _ e1, r⟩
theorem SAt.to {b : Bool} {h h' : Heap} {l : Addr} {xs : Array Value} (x : SAt b h l xs) (e : ∀ o, h.get? l = some o → h'.get? l = some o) : SAt b h' l xs := by
  cases b
  · obtain ⟨o, e1, r⟩ := x; exact ⟨o, e _ e1, r⟩
  · obtain ⟨o, e1, r⟩ := x; exact ⟨o, e _ e1, r⟩
section
variable {prog : Program} {w : World} {A : Around} {E : Value → Shared → Prop} {s : Shared}
theorem src_item {b : Bool} {i l : Addr} {k : Nat} {xs : Array Value} {x : Value} {Q : Value → Shared → Prop} (hi : SIt b s.heap i l k) (hl : SAt b s.heap l xs) (hx : xs[k]? = some x)
    (hQ : ∀ h', SIt b h' i l (k + 1) → Heap.SameBut i s.heap h' → Q x { s with heap := h' }) : wpAny (model prog w) A (Builtin.SmallTypes.nextOf (.ref i)) Q E s := by
  cases b
  · exact wpAny_nextOf_list_item hi hl hx hQ
  · exact RZ.nextOf_tuple_item hi hl hx hQ
theorem src_end {b : Bool} {i l : Addr} {k : Nat} {xs : Array Value} {Q : Value → Shared → Prop} (hh : A.handled = none) (hi : SIt b s.heap i l k) (hl : SAt b s.heap l xs) (hx : xs[k]? = none)
    (hE : ∀ h' e, Heap.ExtBut i s.heap h' → (∃ o, h'.get? e = some o ∧ o.cls = .type "StopIteration") → E (.ref e) { s with heap := h' }) : wpAny (model prog w) A (Builtin.SmallTypes.nextOf (.ref i)) Q E s := by
  cases b
  · exact wpAny_nextOf_list_end hh hi hl hx hE
  · exact RZ.nextOf_tuple_end hh hi hl hx hE
theorem upd_tup2 {t : Addr} {o1 o2 x : Value} {k : Nat} {Q : Unit → Shared → Prop} (hT : TupAt s.heap t #[o1, o2]) (h : ∀ h', TupAt h' t ((#[o1, o2] : Array Value).setIfInBounds k x) → Heap.SameBut t s.heap h' → Q () { s with heap := h' }) :
    wpAny (model prog w) A (updateSeq t (·.setIfInBounds k x)) Q E s := by
  refine wpAny_updateSeq hT rfl (h _ ?_ (Heap.SameBut.update ..))
  show Heap.get? _ _ = _
  rw [Heap.get?_update_self _ hT rfl]; simp [Obj.mapSeq]
theorem znext2 {zp ti ou i1 i2 l1 l2 : Addr} {b1 b2 : Bool} {k : Nat} {xs1 xs2 : Array Value} {o1 o2 : Value} {x1 x2 : Value} {Q : Value → Shared → Prop} (D : ([zp, ti, ou, i1, i2] : List Addr).Nodup) (M : ∀ l ∈ ([l1, l2] : List Addr), l ∉ ([zp, ou, i1, i2] : List Addr)) (hz : IsZip s.heap zp ti ou .none) (hTI : TupAt s.heap ti #[.ref i1, .ref i2]) (hTO : TupAt s.heap ou #[o1, o2]) (h1 : SIt b1 s.heap i1 l1 k) (h2 : SIt b2 s.heap i2 l2 k) (q1 : SAt b1 s.heap l1 xs1) (q2 : SAt b2 s.heap l2 xs2) (e1 : xs1[k]? = some x1) (e2 : xs2[k]? = some x2)
    (hQ : ∀ h', IsZip h' zp ti ou (rawInt s.heap.objs.size) → TupAt h' ou #[x1, x2] → SIt b1 h' i1 l1 (k + 1) → SIt b2 h' i2 l2 (k + 1) → TupAt h' s.heap.objs.size #[x1, x2] → h'.objs.size = s.heap.objs.size + 1 → Kp [zp, ou, i1, i2] s.heap h' → Q (.ref s.heap.objs.size) { s with heap := h' }) :
    wpAny (model prog w) A (Builtin.«zip.__next__» ⟨[.ref zp], []⟩) (fun fin s' => ∃ v, fin = .done (.ret v) ∧ Q v s') E s := by
  have N := D
  simp only [List.nodup_cons, List.mem_cons, not_or, List.not_mem_nil, not_false_eq_true, and_true, List.nodup_nil, true_and] at N
  obtain ⟨⟨nzp_ti, nzp_ou, nzp_i1, nzp_i2⟩, ⟨⟨nti_ou, nti_i1, nti_i2⟩, ⟨⟨nou_i1, nou_i2⟩, ni1_i2⟩⟩⟩ := N
  have M1 := M l1 (by simp)
  simp only [List.mem_cons, not_or, List.not_mem_nil, not_false_eq_true, and_true] at M1
  obtain ⟨m1_zp, m1_ou, m1_i1, m1_i2⟩ := M1
  have M2 := M l2 (by simp)
  simp only [List.mem_cons, not_or, List.not_mem_nil, not_false_eq_true, and_true] at M2
  obtain ⟨m2_zp, m2_ou, m2_i1, m2_i2⟩ := M2
  refine (show wpAny _ _ (field (.ref zp) 2 >>= _) _ _ s from wpAny_bind (wpAny_field hz rfl (x := .bool false) rfl ?_))
  refine (show wpAny _ _ (field (.ref zp) 3 >>= _) _ _ s from wpAny_bind (wpAny_field hz rfl (x := .ref ti) rfl ?_))
  refine (wpAny_bind (wpAny_seqItems hTI rfl ?_))
  refine (show wpAny _ _ (Builtin.SmallTypes.ownedTupleIsFree (.ref zp) >>= _) _ _ s from wpAny_bind ?_)
  unfold Builtin.SmallTypes.ownedTupleIsFree
  refine wpAny_bind (wpAny_field hz rfl (x := .none) rfl (wpAny_pure ?_))
  simp only [if_true]
  refine wpAny_bind (wpAny_rule (wpAny_bind (wpAny_field hz rfl (x := .ref ou) rfl (wpAny_bind (wpAny_setField_rec hz (by simp) fun g0 z0 s0 => ?_)))))
  replace z0 : IsZip g0 zp ti ou .ellipsis := z0
  have t0 : TupAt g0 ou #[o1, o2] := s0.extBut _ _ (Ne.symm nzp_ou) hTO
  have k0 : Kp [zp, ou, i1, i2] s.heap g0 := Kp.same s0 (by simp)
  have h1_0 : SIt b1 g0 i1 l1 k := h1.to fun o e => s0.extBut _ o (Ne.symm nzp_i1) e
  have q1_0 : SAt b1 g0 l1 xs1 := q1.to fun o e => s0.extBut _ o m1_zp e
  have h2_0 : SIt b2 g0 i2 l2 k := h2.to fun o e => s0.extBut _ o (Ne.symm nzp_i2) e
  have q2_0 : SAt b2 g0 l2 xs2 := q2.to fun o e => s0.extBut _ o m2_zp e
  refine wpAny_bind ?_
  simp only [List.zipIdx_cons, List.zipIdx_nil, List.forIn_cons, List.forIn_nil]
  have y0 : g0.objs.size = s.heap.objs.size := s0.1
  refine wpAny_bind (wpAny_bind (wpAny_onRaise (show wpAny _ _ (Builtin.SmallTypes.nextOf (.ref i1) >>= _) _ _ _ from ?_)))
  refine wpAny_bind (src_item h1_0 q1_0 e1 fun u1 j1 c1 => wpAny_pure ?_)
  have v1 : TupAt u1 ou #[o1, o2] := c1.extBut _ _ nou_i1 t0
  refine wpAny_bind (wpAny_seqItems v1 rfl (wpAny_bind (upd_tup2 v1 fun g1 t1 s1 => wpAny_bind (wpAny_letGo (wpAny_pure ?_)))))
  replace t1 : TupAt g1 ou #[x1, o2] := t1
  have z1 : IsZip g1 zp ti ou .ellipsis := s1.extBut _ _ nzp_ou (c1.extBut _ _ nzp_i1 z0)
  have k1 : Kp [zp, ou, i1, i2] s.heap g1 := k0.trans ((Kp.same c1 (by simp)).trans (Kp.same s1 (by simp)))
  have y1 : g1.objs.size = s.heap.objs.size := by rw [s1.1, c1.1]; exact y0
  have h1_1 : SIt b1 g1 i1 l1 (k + 1) := j1.to fun o e => s1.extBut _ o (Ne.symm nou_i1) e
  have q1_1 : SAt b1 g1 l1 xs1 := q1_0.to fun o e => s1.extBut _ o m1_ou (c1.extBut _ o m1_i1 e)
  have h2_1 : SIt b2 g1 i2 l2 k := h2_0.to fun o e => s1.extBut _ o (Ne.symm nou_i2) (c1.extBut _ o (Ne.symm ni1_i2) e)
  have q2_1 : SAt b2 g1 l2 xs2 := q2_0.to fun o e => s1.extBut _ o m2_ou (c1.extBut _ o m2_i1 e)
  refine wpAny_bind (wpAny_bind (wpAny_onRaise (show wpAny _ _ (Builtin.SmallTypes.nextOf (.ref i2) >>= _) _ _ _ from ?_)))
  refine wpAny_bind (src_item h2_1 q2_1 e2 fun u2 j2 c2 => wpAny_pure ?_)
  have v2 : TupAt u2 ou #[x1, o2] := c2.extBut _ _ nou_i2 t1
  refine wpAny_bind (wpAny_seqItems v2 rfl (wpAny_bind (upd_tup2 v2 fun g2 t2 s2 => wpAny_bind (wpAny_letGo (wpAny_pure ?_)))))
  replace t2 : TupAt g2 ou #[x1, x2] := t2
  have z2 : IsZip g2 zp ti ou .ellipsis := s2.extBut _ _ nzp_ou (c2.extBut _ _ nzp_i2 z1)
  have k2 : Kp [zp, ou, i1, i2] s.heap g2 := k1.trans ((Kp.same c2 (by simp)).trans (Kp.same s2 (by simp)))
  have y2 : g2.objs.size = s.heap.objs.size := by rw [s2.1, c2.1]; exact y1
  have h1_2 : SIt b1 g2 i1 l1 (k + 1) := h1_1.to fun o e => s2.extBut _ o (Ne.symm nou_i1) (c2.extBut _ o ni1_i2 e)
  have q1_2 : SAt b1 g2 l1 xs1 := q1_1.to fun o e => s2.extBut _ o m1_ou (c2.extBut _ o m1_i2 e)
  have h2_2 : SIt b2 g2 i2 l2 (k + 1) := j2.to fun o e => s2.extBut _ o (Ne.symm nou_i2) e
  have q2_2 : SAt b2 g2 l2 xs2 := q2_1.to fun o e => s2.extBut _ o m2_ou (c2.extBut _ o m2_i2 e)
  refine wpAny_pure (wpAny_bind (wpAny_seqItems t2 rfl (wpAny_bind (wpAny_newTuple ?_))))
  refine (show wpAny _ _ (Builtin.SmallTypes.ownedTupleHandOut (.ref zp) (.ref g2.objs.size) >>= _) _ _ _ from wpAny_bind ?_)
  unfold Builtin.SmallTypes.ownedTupleHandOut
  have zlt : zp < g2.objs.size := Heap.lt_size z2
  have zf : IsZip (g2.push { cls := .type "tuple", data := .seq #[x1, x2] }) zp ti ou .ellipsis := Heap.get?_push_of_some _ z2
  refine wpAny_bind (wpAny_setField_rec zf (by simp) fun ga za sa => ?_)
  replace za : IsZip ga zp ti ou (rawInt g2.objs.size) := za
  refine wpAny_setField_rec za (by simp) fun gb zb sb => ?_
  replace zb : IsZip gb zp ti ou (rawInt g2.objs.size) := zb
  have up : ∀ c o, c ≠ zp → g2.get? c = some o → gb.get? c = some o := fun c o cn e => sb.extBut _ _ cn (sa.extBut _ _ cn (Heap.get?_push_of_some _ e))
  have nt : TupAt gb g2.objs.size #[x1, x2] := sb.extBut _ _ (Nat.ne_of_gt zlt) (sa.extBut _ _ (Nat.ne_of_gt zlt) (Heap.get?_push_size _ rfl))
  have sz : gb.objs.size = g2.objs.size + 1 := by rw [sb.1, sa.1, Heap.size_push]
  rw [y2] at zb nt sz
  refine wpAny_pure ⟨_, rfl, (show Q (.ref g2.objs.size) _ from ?_)⟩
  rw [y2]
  exact hQ gb zb (up _ _ (Ne.symm nzp_ou) t2) (h1_2.to fun o e => up _ o (Ne.symm nzp_i1) e) (h2_2.to fun o e => up _ o (Ne.symm nzp_i2) e) nt sz (k2.trans fun c o cn e => up c o (fun z => cn (by rw [z]; simp)) e)
theorem zend2 {zp ti ou i1 i2 l1 l2 : Addr} {b1 b2 : Bool} {k : Nat} {xs1 xs2 : Array Value} {o1 o2 : Value} {Q : Fin → Shared → Prop} (hh : A.handled = none) (D : ([zp, ti, ou, i1, i2] : List Addr).Nodup) (M : ∀ l ∈ ([l1, l2] : List Addr), l ∉ ([zp, ou, i1, i2] : List Addr)) (hz : IsZip s.heap zp ti ou .none) (hTI : TupAt s.heap ti #[.ref i1, .ref i2]) (hTO : TupAt s.heap ou #[o1, o2]) (h1 : SIt b1 s.heap i1 l1 k) (h2 : SIt b2 s.heap i2 l2 k) (q1 : SAt b1 s.heap l1 xs1) (q2 : SAt b2 s.heap l2 xs2) (hend : xs1[k]? = none ∨ xs2[k]? = none)
    (hE : ∀ h' e, Kp [zp, ou, i1, i2] s.heap h' → (∃ o, h'.get? e = some o ∧ o.cls = .type "StopIteration") → E (.ref e) { s with heap := h' }) :
    wpAny (model prog w) A (Builtin.«zip.__next__» ⟨[.ref zp], []⟩) Q E s := by
  have N := D
  simp only [List.nodup_cons, List.mem_cons, not_or, List.not_mem_nil, not_false_eq_true, and_true, List.nodup_nil, true_and] at N
  obtain ⟨⟨nzp_ti, nzp_ou, nzp_i1, nzp_i2⟩, ⟨⟨nti_ou, nti_i1, nti_i2⟩, ⟨⟨nou_i1, nou_i2⟩, ni1_i2⟩⟩⟩ := N
  have M1 := M l1 (by simp)
  simp only [List.mem_cons, not_or, List.not_mem_nil, not_false_eq_true, and_true] at M1
  obtain ⟨m1_zp, m1_ou, m1_i1, m1_i2⟩ := M1
  have M2 := M l2 (by simp)
  simp only [List.mem_cons, not_or, List.not_mem_nil, not_false_eq_true, and_true] at M2
  obtain ⟨m2_zp, m2_ou, m2_i1, m2_i2⟩ := M2
  refine (show wpAny _ _ (field (.ref zp) 2 >>= _) _ _ s from wpAny_bind (wpAny_field hz rfl (x := .bool false) rfl ?_))
  refine (show wpAny _ _ (field (.ref zp) 3 >>= _) _ _ s from wpAny_bind (wpAny_field hz rfl (x := .ref ti) rfl ?_))
  refine (wpAny_bind (wpAny_seqItems hTI rfl ?_))
  refine (show wpAny _ _ (Builtin.SmallTypes.ownedTupleIsFree (.ref zp) >>= _) _ _ s from wpAny_bind ?_)
  unfold Builtin.SmallTypes.ownedTupleIsFree
  refine wpAny_bind (wpAny_field hz rfl (x := .none) rfl (wpAny_pure ?_))
  simp only [if_true]
  refine wpAny_bind (wpAny_rule (wpAny_bind (wpAny_field hz rfl (x := .ref ou) rfl (wpAny_bind (wpAny_setField_rec hz (by simp) fun g0 z0 s0 => ?_)))))
  replace z0 : IsZip g0 zp ti ou .ellipsis := z0
  have t0 : TupAt g0 ou #[o1, o2] := s0.extBut _ _ (Ne.symm nzp_ou) hTO
  have k0 : Kp [zp, ou, i1, i2] s.heap g0 := Kp.same s0 (by simp)
  have h1_0 : SIt b1 g0 i1 l1 k := h1.to fun o e => s0.extBut _ o (Ne.symm nzp_i1) e
  have q1_0 : SAt b1 g0 l1 xs1 := q1.to fun o e => s0.extBut _ o m1_zp e
  have h2_0 : SIt b2 g0 i2 l2 k := h2.to fun o e => s0.extBut _ o (Ne.symm nzp_i2) e
  have q2_0 : SAt b2 g0 l2 xs2 := q2.to fun o e => s0.extBut _ o m2_zp e
  refine wpAny_bind ?_
  simp only [List.zipIdx_cons, List.zipIdx_nil, List.forIn_cons, List.forIn_nil]
  have y0 : g0.objs.size = s.heap.objs.size := s0.1
  refine wpAny_bind (wpAny_bind (wpAny_onRaise (show wpAny _ _ (Builtin.SmallTypes.nextOf (.ref i1) >>= _) _ _ _ from ?_)))
  rcases e1 : xs1[k]? with _ | x1
  · refine wpAny_bind (src_end hh h1_0 q1_0 e1 fun u1 e c1 he => ?_)
    obtain ⟨oe, hoe, hce⟩ := he
    have zz : IsZip u1 zp ti ou .ellipsis := c1 _ _ nzp_i1 z0
    have ez : e ≠ zp := fun q => by subst q; rw [zz] at hoe; cases hoe; simp at hce
    exact wpAny_setField_rec zz (by simp) fun ge _ se => hE ge e (k0.trans ((Kp.ext c1 (by simp)).trans (Kp.same se (by simp)))) ⟨oe, se.extBut _ _ ez hoe, hce⟩
  refine wpAny_bind (src_item h1_0 q1_0 e1 fun u1 j1 c1 => wpAny_pure ?_)
  have v1 : TupAt u1 ou #[o1, o2] := c1.extBut _ _ nou_i1 t0
  refine wpAny_bind (wpAny_seqItems v1 rfl (wpAny_bind (upd_tup2 v1 fun g1 t1 s1 => wpAny_bind (wpAny_letGo (wpAny_pure ?_)))))
  replace t1 : TupAt g1 ou #[x1, o2] := t1
  have z1 : IsZip g1 zp ti ou .ellipsis := s1.extBut _ _ nzp_ou (c1.extBut _ _ nzp_i1 z0)
  have k1 : Kp [zp, ou, i1, i2] s.heap g1 := k0.trans ((Kp.same c1 (by simp)).trans (Kp.same s1 (by simp)))
  have y1 : g1.objs.size = s.heap.objs.size := by rw [s1.1, c1.1]; exact y0
  have h1_1 : SIt b1 g1 i1 l1 (k + 1) := j1.to fun o e => s1.extBut _ o (Ne.symm nou_i1) e
  have q1_1 : SAt b1 g1 l1 xs1 := q1_0.to fun o e => s1.extBut _ o m1_ou (c1.extBut _ o m1_i1 e)
  have h2_1 : SIt b2 g1 i2 l2 k := h2_0.to fun o e => s1.extBut _ o (Ne.symm nou_i2) (c1.extBut _ o (Ne.symm ni1_i2) e)
  have q2_1 : SAt b2 g1 l2 xs2 := q2_0.to fun o e => s1.extBut _ o m2_ou (c1.extBut _ o m2_i1 e)
  refine wpAny_bind (wpAny_bind (wpAny_onRaise (show wpAny _ _ (Builtin.SmallTypes.nextOf (.ref i2) >>= _) _ _ _ from ?_)))
  rcases e2 : xs2[k]? with _ | x2
  · refine wpAny_bind (src_end hh h2_1 q2_1 e2 fun u2 e c2 he => ?_)
    obtain ⟨oe, hoe, hce⟩ := he
    have zz : IsZip u2 zp ti ou .ellipsis := c2 _ _ nzp_i2 z1
    have ez : e ≠ zp := fun q => by subst q; rw [zz] at hoe; cases hoe; simp at hce
    exact wpAny_setField_rec zz (by simp) fun ge _ se => hE ge e (k1.trans ((Kp.ext c2 (by simp)).trans (Kp.same se (by simp)))) ⟨oe, se.extBut _ _ ez hoe, hce⟩
  · exfalso; simp [e1, e2] at hend
theorem zpy2 {zp ti ou i1 i2 l1 l2 : Addr} {b1 b2 : Bool} {k : Nat} {xs1 xs2 : Array Value} {o1 o2 : Value} {x1 x2 : Value} {Q : Option Value → Shared → Prop} (D : ([zp, ti, ou, i1, i2] : List Addr).Nodup) (M : ∀ l ∈ ([l1, l2] : List Addr), l ∉ ([zp, ou, i1, i2] : List Addr)) (hz : IsZip s.heap zp ti ou .none) (hTI : TupAt s.heap ti #[.ref i1, .ref i2]) (hTO : TupAt s.heap ou #[o1, o2]) (h1 : SIt b1 s.heap i1 l1 k) (h2 : SIt b2 s.heap i2 l2 k) (q1 : SAt b1 s.heap l1 xs1) (q2 : SAt b2 s.heap l2 xs2) (e1 : xs1[k]? = some x1) (e2 : xs2[k]? = some x2)
    (hQ : ∀ h', IsZip h' zp ti ou (rawInt s.heap.objs.size) → TupAt h' ou #[x1, x2] → SIt b1 h' i1 l1 (k + 1) → SIt b2 h' i2 l2 (k + 1) → TupAt h' s.heap.objs.size #[x1, x2] → h'.objs.size = s.heap.objs.size + 1 → Kp [zp, ou, i1, i2] s.heap h' → Q (some (.ref s.heap.objs.size)) { s with heap := h' }) : wpAny (model prog w) A (pyNext (.ref zp)) Q E s := by
  have tz : s.TypeIs (.ref zp) "zip" := ⟨_, hz, rfl⟩
  unfold pyNext
  refine wpAny_bind (wpAny_attempt (wpAny_callSpecial?_slot (name := Str.ofString "__next__") tz F.slot_zip_next (wpAny_call_entry F.slot_zip_next tz F.entry_zip_next ?_ (F.args_zip_next_1 _))))
  exact znext2 D M hz hTI hTO h1 h2 q1 q2 e1 e2 fun g a0 a1 a2 a3 a4 a5 a6 => wpAny_pure (hQ g a0 a1 a2 a3 a4 a5 a6)
theorem zpyE2 {zp ti ou i1 i2 l1 l2 : Addr} {b1 b2 : Bool} {k : Nat} {xs1 xs2 : Array Value} {o1 o2 : Value} {Q : Option Value → Shared → Prop} (hh : A.handled = none) (D : ([zp, ti, ou, i1, i2] : List Addr).Nodup) (M : ∀ l ∈ ([l1, l2] : List Addr), l ∉ ([zp, ou, i1, i2] : List Addr)) (hz : IsZip s.heap zp ti ou .none) (hTI : TupAt s.heap ti #[.ref i1, .ref i2]) (hTO : TupAt s.heap ou #[o1, o2]) (h1 : SIt b1 s.heap i1 l1 k) (h2 : SIt b2 s.heap i2 l2 k) (q1 : SAt b1 s.heap l1 xs1) (q2 : SAt b2 s.heap l2 xs2) (hend : xs1[k]? = none ∨ xs2[k]? = none)
    (hQ : ∀ h', Kp [zp, ou, i1, i2] s.heap h' → Q none { s with heap := h' }) : wpAny (model prog w) A (pyNext (.ref zp)) Q E s := by
  have tz : s.TypeIs (.ref zp) "zip" := ⟨_, hz, rfl⟩
  unfold pyNext
  refine wpAny_bind (wpAny_attempt (wpAny_callSpecial?_slot (name := Str.ofString "__next__") tz F.slot_zip_next (wpAny_call_entry F.slot_zip_next tz F.entry_zip_next ?_ (F.args_zip_next_1 _))))
  refine zend2 hh D M hz hTI hTO h1 h2 q1 q2 hend fun g e kp ⟨oe, g1, g2⟩ => ?_
  exact wpAny_bind (wpAny_isInstance (T := "StopIteration") (b := true) ⟨oe, g1, g2⟩ isSubtype_stop (wpAny_pure (hQ _ kp)))
abbrev zHTL1 (h : Heap) (l1 l2 : Addr) : Heap := Heap.push (h) { cls := .type "tuple_iterator", data := .fields #[.ref l1, .int 0 0] }
abbrev zHTL2 (h : Heap) (l1 l2 : Addr) : Heap := Heap.push (zHTL1 h l1 l2) { cls := .type "list_iterator", data := .fields #[.ref l2, .int 0 0] }
abbrev zHTL3 (h : Heap) (l1 l2 : Addr) : Heap := Heap.push (zHTL2 h l1 l2) { cls := .type "tuple", data := .seq #[.ref (Heap.objs (h)).size, .ref (Heap.objs (zHTL1 h l1 l2)).size] }
abbrev zHTL4 (h : Heap) (l1 l2 : Addr) : Heap := Heap.push (zHTL3 h l1 l2) { cls := .type "tuple", data := .seq #[.none, .none] }
abbrev zHTL5 (h : Heap) (l1 l2 : Addr) : Heap := Heap.push (zHTL4 h l1 l2) { cls := .type "zip", data := .fields #[.none, .bool false, .bool false, .ref (Heap.objs (zHTL2 h l1 l2)).size, .ref (Heap.objs (zHTL3 h l1 l2)).size] }
theorem zmeetsTL (l1 l2 : Addr) (xs1 xs2 : Array Value) : Meets (Builtin.«zip.__new__» ⟨[.type "zip", .ref l1, .ref l2], []⟩) (fun _ R s => s.heap.IsTuple l1 xs1 ∧ s.heap.IsList l2 xs2 ∧ R (.ok (.ret (.ref (zHTL4 s.heap l1 l2).objs.size))) { s with heap := zHTL5 s.heap l1 l2 }) :=
  .of_wp fun prog w A R s h => by
    obtain ⟨hp, g, d, tk, os⟩ := s
    obtain ⟨q1, q2, h⟩ := h
    have hsub := sub_zip
    have w1 : Heap.IsTuple (Shared.heap ⟨hp, g, d, tk, os⟩) l1 xs1 := q1
    have w2 : Heap.IsList (Shared.heap ⟨Heap.push (hp) { cls := .type "tuple_iterator", data := .fields #[.ref l1, .int 0 0] }, g, d, tk, os⟩) l2 xs2 := Heap.IsList.push (q2) _
    wp_walk using wpAny_pyIter_tuple w1, wpAny_pyIter_list w2
    exact ⟨_, rfl, h⟩
theorem ztcTL (a1 a2 : Value) : checkTypeCall "zip" ⟨[a1, a2], []⟩ = pure () := by kernel_rfl
theorem zncTL (a1 a2 : Value) : checkBuiltinCall "zip.__new__" ⟨[.type "zip", a1, a2], []⟩ = pure () := by kernel_rfl
theorem zoiTL (a0 a1 a2 : Value) : argsOk "object.__init__" ⟨[a0, a1, a2], []⟩ := by
  unfold argsOk; rw [signature?_of (id := "object.__init__") (n := ['_', '_', 't', 'i', 'n', 'i', '_', '_']) (o := ['t', 'c', 'e', 'j', 'b', 'o']) (by kernel_rfl) F.owner_object]; exact (by kernel_rfl)
theorem zcallTL {l1 l2 : Addr} {xs1 xs2 : Array Value} {Q : Value → Shared → Prop} (q1 : s.heap.IsTuple l1 xs1) (q2 : s.heap.IsList l2 xs2)
    (h : ∀ h', IsZip h' (s.heap.objs.size + 4) (s.heap.objs.size + 2) (s.heap.objs.size + 3) .none → TupAt h' (s.heap.objs.size + 2) #[.ref s.heap.objs.size, .ref (s.heap.objs.size + 1)] → TupAt h' (s.heap.objs.size + 3) #[.none, .none] → SIt true h' s.heap.objs.size l1 0 → SIt false h' (s.heap.objs.size + 1) l2 0 → (∀ c o, s.heap.get? c = some o → h'.get? c = some o) → Q (.ref (s.heap.objs.size + 4)) { s with heap := h' }) :
    wpAny (model prog w) A (call (.type "zip") [.ref l1, .ref l2]) Q E s := by
  refine callType_new F.called_zip (by decide) (ztcTL _ _) (zncTL _ _) (fun obj => zoiTL obj _ _) F.entry_zip_new (zmeetsTL l1 l2 xs1 xs2) ⟨q1, q2, ?_⟩
  have c1 : (zHTL1 s.heap l1 l2).objs.size = s.heap.objs.size + 1 := by rw [Heap.size_push]
  have c2 : (zHTL2 s.heap l1 l2).objs.size = s.heap.objs.size + 2 := by rw [Heap.size_push, c1]
  have c3 : (zHTL3 s.heap l1 l2).objs.size = s.heap.objs.size + 3 := by rw [Heap.size_push, c2]
  have c4 : (zHTL4 s.heap l1 l2).objs.size = s.heap.objs.size + 4 := by rw [Heap.size_push, c3]
  have c5 : (zHTL5 s.heap l1 l2).objs.size = s.heap.objs.size + 5 := by rw [Heap.size_push, c4]
  have g1 : (zHTL5 s.heap l1 l2).get? s.heap.objs.size = some _ := Heap.get?_push_of_some _ (Heap.get?_push_of_some _ (Heap.get?_push_of_some _ (Heap.get?_push_of_some _ (Heap.get?_push_size _ rfl))))
  have g2 : (zHTL5 s.heap l1 l2).get? (zHTL1 s.heap l1 l2).objs.size = some _ := Heap.get?_push_of_some _ (Heap.get?_push_of_some _ (Heap.get?_push_of_some _ (Heap.get?_push_size _ rfl)))
  have g3 : (zHTL5 s.heap l1 l2).get? (zHTL2 s.heap l1 l2).objs.size = some _ := Heap.get?_push_of_some _ (Heap.get?_push_of_some _ (Heap.get?_push_size _ rfl))
  have g4 : (zHTL5 s.heap l1 l2).get? (zHTL3 s.heap l1 l2).objs.size = some _ := Heap.get?_push_of_some _ (Heap.get?_push_size _ rfl)
  have g5 : (zHTL5 s.heap l1 l2).get? (zHTL4 s.heap l1 l2).objs.size = some _ := Heap.get?_push_size _ rfl
  simp only [c1, c2, c3, c4] at g2
  simp only [c1, c2, c3, c4] at g3
  simp only [c1, c2, c3, c4] at g4
  simp only [c1, c2, c3, c4] at g5
  refine (show _ ∧ _ from ?_)
  rw [c4]
  exact ⟨⟨_, g5, rfl⟩, h _ g5 g3 g4 ⟨_, g1, rfl, rfl⟩ ⟨_, g2, rfl, rfl⟩ fun c o x => Heap.get?_push_of_some _ (Heap.get?_push_of_some _ (Heap.get?_push_of_some _ (Heap.get?_push_of_some _ (Heap.get?_push_of_some _ (x)))))⟩
end
/-- the items of TL in new tuples -/
def IzTL (K : PySem.W.Frag) (a1 a2 : Addr) : It :=
  ⟨fun i H => ∃ (xs1 xs2 : List V) (x1 x2 : V), SqT K H a1 xs1 ∧ SqL K H a2 xs2 ∧ xs1[i]? = some x1 ∧ xs2[i]? = some x2,
    fun i H v H' => ∃ T x1 x2, v = .ref T ∧ H T = none ∧ H' = upd H T (.tup [x1, x2]) ∧ (∀ xs, SqT K H a1 xs → xs[i]? = some x1) ∧ (∀ xs, SqL K H a2 xs → xs[i]? = some x2),
    fun i H => ∃ (xs1 xs2 : List V), SqT K H a1 xs1 ∧ SqL K H a2 xs2 ∧ (xs1.length ≤ i ∨ xs2.length ≤ i)⟩
theorem turnTL {P : Program} {w : World} {K : PySem.W.Frag} {elts : List Expr} {kk : Nat} {tpos : Pos} {zp ti ou i1 i2 a1 a2 : Addr} (D : ([zp, ti, ou, i1, i2] : List Addr).Nodup) (M : ∀ l ∈ ([a1, a2] : List Addr), l ∉ ([zp, ou, i1, i2] : List Addr)) :
    Turn P w K (.Tuple elts kk tpos) (IzTL K a1 a2) [zp, ti, ou, i1, i2] zp (fun i h => IsZip h zp ti ou .none ∧ TupAt h ti #[.ref i1, .ref i2] ∧ (∃ o1 o2, TupAt h ou #[o1, o2]) ∧ SIt true h i1 a1 i ∧ SIt false h i2 a2 i) where
  mem := by simp
  obj := fun i h st c hc => by
    obtain ⟨hz, hTI, ⟨o1, o2, hTO⟩, h1, h2⟩ := st
    simp only [List.mem_cons, List.not_mem_nil, or_false] at hc
    rcases hc with rfl | rfl | rfl | rfl | rfl
    · exact ⟨_, hz, fun v q => by cases q⟩
    · exact ⟨_, hTI, fun v q => by cases q⟩
    · exact ⟨_, hTO, fun v q => by cases q⟩
    · exact h1.get
    · exact h2.get
  keep := fun i h h' st k => by
    obtain ⟨hz, hTI, ⟨o1, o2, hTO⟩, h1, h2⟩ := st
    exact ⟨k zp (by simp) _ hz, k ti (by simp) _ hTI, ⟨o1, o2, k ou (by simp) _ hTO⟩, h1.to fun o e => k i1 (by simp) o e, h2.to fun o e => k i2 (by simp) o e⟩
  item := by
    intro X hP hw hK hc i pins s σ H E I hf st hg
    subst hP hw hK
    obtain ⟨hz, hTI, ⟨o1, o2, hTO⟩, h1, h2⟩ := st
    obtain ⟨xs1, xs2, x1, x2, hq1, hq2, hx1, hx2⟩ := hg
    obtain ⟨its1, rv1, p1, _⟩ := I.tuple hq1
    obtain ⟨u1, hu1, ru1⟩ := rv1.get hx1
    have at1 : SAt true s.heap a1 its1.toArray := p1
    obtain ⟨its2, rv2, p2, _⟩ := I.list hq2
    obtain ⟨u2, hu2, ru2⟩ := rv2.get hx2
    have at2 : SAt false s.heap a2 its2.toArray := p2.isList
    have hzl : zp < s.heap.objs.size := Heap.lt_size hz
    refine zpy2 D M hz hTI hTO h1 h2 at1 at2 (show its1.toArray[i]? = some u1 by simpa using hu1) (show its2.toArray[i]? = some u2 by simpa using hu2) fun g z1 t1 k1 k2 nt sz kp => ?_
    refine ⟨_, rfl, wpAny_letOwnedTupleGo_zip (s := { s with heap := g }) z1 fun g2 z2 sb => ?_⟩
    have nt2 : TupAt g2 s.heap.objs.size #[u1, u2] := (sb.2 _ (Nat.ne_of_gt hzl)).trans nt
    have new : ObjOk X.prog X.w (upd H s.heap.objs.size (.tup [x1, x2])) g2 s.heap.objs.size (.tup [x1, x2]) := ⟨by show 2 ≤ sizeLine; decide, [u1, u2], .cons ru1 (.cons ru2 (.nil)), ⟨_, nt2, rfl, _, rfl⟩⟩
    have kp2 : Kp [zp, ti, ou, i1, i2] s.heap g2 := fun c o cn e => (sb.2 c (fun q => cn (by simp [q]))).trans (kp c o (fun q => cn (by simp only [List.mem_cons, List.not_mem_nil, or_false] at q ⊢; rcases q with q | q | q | q <;> simp [q])) e)
    have I1 : Inv X pins σ (upd H s.heap.objs.size (.tup [x1, x2])) { s with heap := g2 } := I.turnedNew (t' := s.toks) (ch := [zp, ti, ou, i1, i2]) (fun c o hb q => kp2 c o hb q) hf (Nat.le_refl _) new
    have N := D
    simp only [List.nodup_cons, List.mem_cons, not_or, List.not_mem_nil, not_false_eq_true, and_true, List.nodup_nil, true_and] at N
    refine ⟨.ref s.heap.objs.size, _, I1, rfl, ⟨_, x1, x2, rfl, I.hok.fresh (Nat.le_refl _), rfl, fun l hl => by rw [I.tuple_inj hl hq1]; exact hx1, fun l hl => by rw [I.list_inj hl hq2]; exact hx2⟩, ⟨z2, (sb.2 ti (Ne.symm N.1.1)).trans (kp ti _ (by simp only [List.mem_cons, List.not_mem_nil, or_false, not_or]; exact ⟨Ne.symm N.1.1, N.2.1⟩) hTI), ⟨u1, u2, (sb.2 ou (Ne.symm N.1.2.1)).trans t1⟩, k1.to fun o e => (sb.2 _ (Ne.symm N.1.2.2.1)).trans e, k2.to fun o e => (sb.2 _ (Ne.symm N.1.2.2.2)).trans e⟩, fun c hcm => ?_⟩
    have hlt : c < s.heap.objs.size := by
      simp only [List.mem_cons, List.not_mem_nil, or_false] at hcm
      rcases hcm with rfl | rfl | rfl | rfl | rfl
      · exact hzl
      · exact Heap.lt_size hTI
      · exact Heap.lt_size hTO
      · obtain ⟨_, e1, _⟩ := h1.get; exact Heap.lt_size e1
      · obtain ⟨_, e1, _⟩ := h2.get; exact Heap.lt_size e1
    rw [upd_ne (Nat.ne_of_lt hlt)]; exact (hf c hcm).1
  done := by
    intro X hP hw hK hc i pins s σ H E I hf st hg
    subst hP hw hK
    obtain ⟨hz, hTI, ⟨o1, o2, hTO⟩, h1, h2⟩ := st
    obtain ⟨xs1, xs2, hq1, hq2, hend⟩ := hg
    obtain ⟨its1, rv1, p1, _⟩ := I.tuple hq1
    have at1 : SAt true s.heap a1 its1.toArray := p1
    have m1 := rv1.length
    obtain ⟨its2, rv2, p2, _⟩ := I.list hq2
    have at2 : SAt false s.heap a2 its2.toArray := p2.isList
    have m2 := rv2.length
    have he : its1.toArray[i]? = none ∨ its2.toArray[i]? = none := by
      rcases hend with q | q
      · exact .inl (by simp; omega)
      · exact .inr (by simp; omega)
    refine zpyE2 (I.ok.hd hc) D M hz hTI hTO h1 h2 at1 at2 he fun g kp => ⟨rfl, I.turnedL (t' := s.toks) (ch := [zp, ti, ou, i1, i2]) (fun c o hb q => kp c o (fun z => hb (by simp only [List.mem_cons, List.not_mem_nil, or_false] at z ⊢; rcases z with z | z | z | z <;> simp [z])) q) hf⟩
  self := fun A i s Q E st h => wpAny_pyIter_zip st.1 h
theorem pi_zTL {X : Cx} {e1 e2 : Expr} {ta : TA} {p pos tpos : Pos} {elts : List Expr} {kk : Nat} (hg : Gl X "zip") (hm : X.mg "zip" = none) (ha : PA X [e1, e2] ta)
    (hs : starEach [e1, e2] X.env = (false, eval e1 X.env) :: starEach [e2] X.env := by rfl) (hpl : (backTo pos (starEach [e2] X.env)).any (·.1) = false := by rfl) :
    PI X (.Tuple elts kk tpos) (.Call (.Name "zip" p) [e1, e2] [] pos) (fun σ H R => ta σ H fun vs H1 => ∃ a1 a2, ∃ (xs1 xs2 : List V), vs = [.ref a1, .ref a2] ∧ SqT X.K H1 a1 xs1 ∧ SqL X.K H1 a2 xs2 ∧ R (IzTL X.K a1 a2) H1) := by
  refine ⟨fun pins s σ H R I h => ?_⟩
  refine Call_ (ld_blt I hg hm PyProof.Rows.boot_zip (PyProof.Rows.callWith_type1 (thn (ha.run pos pins s σ H _ I h) fun us s1 ⟨vs, H1, I1, r1, q1⟩ => ?_) hs hpl))
  obtain ⟨a1, a2, xs1, xs2, ex, hq1, hq2, q⟩ := q1
  subst ex
  obtain ⟨us, rfl⟩ : ∃ x, x = us := ⟨us, rfl⟩
  rcases r1 with _ | ⟨r, rr⟩
  cases r
  rcases rr with _ | ⟨r, rr⟩
  cases r
  cases rr
  obtain ⟨its1, rv1, p1, _⟩ := I1.tuple hq1
  have at1 : s1.heap.IsTuple a1 its1.toArray := p1
  have lt1 : a1 < s1.heap.objs.size := by obtain ⟨_, e1, _⟩ := at1; exact Heap.lt_size e1
  obtain ⟨its2, rv2, p2, _⟩ := I1.list hq2
  have at2 : s1.heap.IsList a2 its2.toArray := p2.isList
  have lt2 : a2 < s1.heap.objs.size := by obtain ⟨_, e1, _⟩ := at2; exact Heap.lt_size e1
  refine zcallTL at1 at2 fun g z0 t0 o0 k1 k2 kp => wpAny_pyIter_zip z0 ?_
  have I2 : Inv X pins σ H1 { s1 with heap := g } := I1.kept (t' := s1.toks) kp
  refine ⟨s1.heap.objs.size + 4, [s1.heap.objs.size + 4, s1.heap.objs.size + 2, s1.heap.objs.size + 3, s1.heap.objs.size, s1.heap.objs.size + 1], _, _, H1, rfl, I2, turnTL (by simp) (by intro l hl; simp only [List.mem_cons, List.not_mem_nil, or_false, not_or] at hl ⊢; rcases hl with rfl | rfl; exact ⟨Nat.ne_of_lt (Nat.lt_of_lt_of_le lt1 (Nat.le_add_right _ _)), Nat.ne_of_lt (Nat.lt_of_lt_of_le lt1 (Nat.le_add_right _ _)), Nat.ne_of_lt lt1, Nat.ne_of_lt (Nat.lt_of_lt_of_le lt1 (Nat.le_add_right _ _))⟩; exact ⟨Nat.ne_of_lt (Nat.lt_of_lt_of_le lt2 (Nat.le_add_right _ _)), Nat.ne_of_lt (Nat.lt_of_lt_of_le lt2 (Nat.le_add_right _ _)), Nat.ne_of_lt lt2, Nat.ne_of_lt (Nat.lt_of_lt_of_le lt2 (Nat.le_add_right _ _))⟩), ⟨z0, t0, ⟨_, _, o0⟩, k1, k2⟩, fun c hcm => ?_, q⟩
  have hle : s1.heap.objs.size ≤ c := by
    simp only [List.mem_cons, List.not_mem_nil, or_false] at hcm
    rcases hcm with rfl | rfl | rfl | rfl | rfl <;> omega
  exact I1.fpOk hle (I1.hok.fresh hle)
end Vs
namespace Vs
open PySem PySem.Spec PyProof.Rows L2
section
variable {α : Amb} {W : WX} {X : Cx}
def asTup : P → Option (List P)
  | .tup xs => some xs
  | _ => none
theorem sq_asTup {G : Hp} {v : V} {x : P} {xs : List P} (r : Rep α G v x) (h : asTup x = some xs) : ∃ a vs, v = .ref a ∧ SqT α.K G a vs ∧ Reps α G vs xs := by
  cases r with
  | tup h1 r1 => cases h; exact ⟨_, _, rfl, h1, r1⟩
  | _ => cases h
theorem jok_zTL {K : PySem.W.Frag} {G1 : Hp} {a b : Addr} {vs ws : List V} {xs ys : List P} (h : SqT K G1 a vs) (h2 : SqL K G1 b ws) (r : Reps α G1 vs xs) (r2 : Reps α G1 ws ys) (hK : K = α.K) : JOk α (IzTL K a b) (zipP xs ys) G1 := fun i H G ρ μ s z => by
  have hH : SqT K H a vs := seqT z.sub (seqT s h)
  have hH2 : SqL K H b ws := seqL z.sub (seqL s h2)
  have r := r.mono s
  have r2 := r2.mono s
  refine ⟨fun w hw => ?_, fun hi => ⟨vs, ws, hH, hH2, by rw [r.length, r2.length]; rw [zipP_len] at hi; omega⟩⟩
  obtain ⟨x, y, e1, e2, rfl⟩ := zipP_get _ _ _ _ hw
  obtain ⟨v, h3, h4⟩ := r.get e1
  obtain ⟨u, h5, h6⟩ := r2.get e2
  refine ⟨⟨vs, ws, v, u, hH, hH2, h3, h5⟩, fun q H' yl => ?_⟩
  obtain ⟨T, x', y', rfl, hT, rfl, f1, f2⟩ := yl
  have g1 := f1 vs hH
  have g2 := f2 ws hH2
  rw [h3] at g1
  rw [h5] at g2
  cases g1
  cases g2
  exact ⟨_, up_new (z.free hT), z.new hT _, .tup (SqT.of upd_same) (.cons (h4.mono (same_upd (z.free hT))) (.cons (h6.mono (same_upd (z.free hT))) .nil))⟩
def zipTLEnd (μ : Mu) : List D → Option (Out (List P) × Mu)
  | [d, e] => match toP μ d with
    | some (x, μ1) => match toP μ1 e with
      | some (y, μ2) => match asTup x, asLst y with
        | some xs, some ys => some (.ok (zipP xs ys), μ2)
        | _, _ => none
      | none => none
    | none => none
  | _ => none
def evZipTL (a : EvA) : EvG (List P) := fun δ μ => bindG (a δ μ) fun ds μ1 => zipTLEnd μ1 ds
theorem vi_zipTL {e e2 : Expr} {a : EvA} {p pos tpos : Pos} {elts : List Expr} {kk : Nat} (hK : X.K = α.K) (hm : X.mg "zip" = none) (ha : PA X [e, e2] (tVs α W a)) (hg : Gl X "zip" := by rfl)
    (hs : starEach [e, e2] X.env = (false, eval e X.env) :: starEach [e2] X.env := by rfl) (hpl : (backTo pos (starEach [e2] X.env)).any (·.1) = false := by rfl) :
    VI α W X (.Tuple elts kk tpos) (.Call (.Name "zip" p) [e, e2] [] pos) (evZipTL a) := by
  refine ⟨_, pi_zTL hg hm ha hs hpl, fun σ H G ρ δ μ R z s pq => ⟨G, ρ, δ, μ, z, s, Post.bind pq fun ds μ1 vs H1 G1 ρ1 u z1 r1 p1 => ?_⟩⟩
  unfold zipTLEnd at p1
  split at p1
  · rename_i d d'
    obtain ⟨v, w, rfl, ra, rb⟩ := rds2 r1
    split at p1
    · rename_i x μ2 q1
      obtain ⟨G2, u2, z2, r2⟩ := toP_ok z1 ra q1
      split at p1
      · rename_i y μ3 q2
        obtain ⟨G3, u3, z3, r3⟩ := toP_ok z2 (rb.up u2) q2
        split at p1
        · rename_i xs ys h1 h2
          have r2 := r2.mono u3.1
          obtain ⟨b1, vs1, rfl, s1, t1⟩ := sq_asTup r2 h1
          obtain ⟨b2, vs2, rfl, s2, t2⟩ := sq_asLst r3 h2
          refine ⟨b1, b2, vs1, vs2, rfl, ?_, ?_, ?_⟩
          · rw [hK]; exact seqT z3.sub s1
          · rw [hK]; exact seqL z3.sub s2
          · rw [hK]; exact p1 (IzTL α.K b1 b2) H1 G3 ρ1 (u2.trans u3) z3 (jok_zTL s1 s2 t1 t2 rfl)
        · exact p1.elim
      · exact p1.elim
    · exact p1.elim
  · exact p1.elim
def setAllT : List Tgt → List P → Sl → Option Sl
  | [], [], δ => some δ
  | t :: ts, x :: xs, δ => (t x δ).bind (setAllT ts xs)
  | _, _, _ => none
def tgM (ts : List Tgt) : Tgt := fun x δ => match x with
  | .tup xs => setAllT ts xs δ
  | _ => none
def VGm (α : Amb) (X : Cx) (tgs : List Expr) (ts : List Tgt) : Prop := ∃ g : TGs, PGs X tgs g ∧ ∀ G ρ H μ σ δ vs xs δ' (Q : L2.St → Hp → Prop), Zn α H G ρ μ → Sq α G ρ σ δ → Reps α G vs xs → setAllT ts xs δ = some δ' → (∀ σ', Sq α G ρ σ' δ' → Q σ' H) → g vs σ H Q
theorem vgm_nil : VGm α X [] [] := ⟨gNil, pgs_nil, fun G ρ H μ σ δ vs xs δ' Q z s r e k => by
  cases r with
  | nil => cases e; exact ⟨rfl, k _ s⟩
  | cons _ _ => cases e⟩
theorem vgm_cons {e : Expr} {es : List Expr} {t : Tgt} {ts : List Tgt} (h1 : VG α X e t) (h : VGm α X es ts) (hs : (assignEach (e :: es) X.env).map (·.2) = assign e X.env :: (assignEach es X.env).map (·.2) := by rfl) : VGm α X (e :: es) (t :: ts) := by
  obtain ⟨g1, pg1, hg1⟩ := h1
  obtain ⟨g, pg, hg⟩ := h
  refine ⟨gCons g1 g, pgs_cons pg1 pg hs, fun G ρ H μ σ δ vs xs δ' Q z s r e k => ?_⟩
  cases r with
  | nil => cases e
  | cons r t' =>
    rename_i v vs' x xs'
    have e : (t x δ).bind (setAllT ts xs') = some δ' := e
    obtain ⟨δ1, e1, e2⟩ := Option.bind_eq_some_iff.mp e
    exact ⟨_, _, rfl, hg1 G ρ H μ σ δ v x δ1 _ z s r e1 fun σ' s' => hg G ρ H μ σ' δ1 vs' xs' δ' Q z s' t' e2 k⟩
theorem setAllT_len : ∀ {ts : List Tgt} {xs : List P} {δ δ' : Sl}, setAllT ts xs δ = some δ' → xs.length = ts.length
  | [], [], _, _, _ => rfl
  | t :: ts, x :: xs, δ, δ', e => by
    have e : (t x δ).bind (setAllT ts xs) = some δ' := e
    obtain ⟨δ1, _, e2⟩ := Option.bind_eq_some_iff.mp e
    exact congrArg (· + 1) (setAllT_len e2)
  | [], _ :: _, _, _, e => by cases e
  | _ :: _, [], _, _, e => by cases e
theorem vg_tupM {es : List Expr} {ts : List Tgt} {k : Nat} {pos : Pos} (hK : X.K = α.K) (hc : X.calm = true) (h : VGm α X es ts) (hn : (assignEach es X.env).length = ts.length := by rfl) (hst : (assignEach es X.env).findIdx? (·.1) = none := by rfl) : VG α X (.Tuple es k pos) (tgM ts) := by
  obtain ⟨g, pg, hg⟩ := h
  refine ⟨gTup X.K ts.length g, pg_tup hc pg hn hst, fun G ρ H μ σ δ v x δ' Q z s r e k => ?_⟩
  cases r <;> try (cases e; done)
  rename_i a vs xs hT hr
  have e : setAllT ts xs δ = some δ' := e
  exact ⟨a, vs, rfl, by rw [hK]; exact seqT z.sub hT, by rw [hr.length]; exact setAllT_len e, hg G ρ H μ _ _ _ _ _ Q z s hr e k⟩
@[simp] theorem tgM_eq {ts : List Tgt} {xs : List P} {δ : Sl} : tgM ts (.tup xs) δ = setAllT ts xs δ := rfl
@[simp] theorem setAllT_nil {δ : Sl} : setAllT [] [] δ = some δ := rfl
@[simp] theorem setAllT_cons {t : Tgt} {ts : List Tgt} {x : P} {xs : List P} {δ : Sl} : setAllT (t :: ts) (x :: xs) δ = (t x δ).bind (setAllT ts xs) := rfl
def ratsP (c : Nat) : List P → Bool
  | [] => true
  | .obj c' [.int _, .int _] :: xs => c' == c && ratsP c xs
  | _ => false
end
end Vs
set_option maxHeartbeats 4000000
namespace L2
open PySem PySem.Spec PyProof.Rows
end L2
namespace Vs
open PySem PySem.Spec PyProof.Rows L2
section
variable {α : Amb} {W : WX} {X : Cx}
def evChain (f g : F2) (a b c : Ev) : Ev := fun δ μ => bindG (a δ μ) fun x μ1 => bindG (b δ μ1) fun y μ2 => match f x y μ2 with
  | some (.p (.bl true), μ3) => bindG (c δ μ3) fun w μ4 => okm (g y w μ4)
  | some (.p (.bl false), μ3) => some (.ok (.p (.bl false)), μ3)
  | _ => none
@[simp] theorem evChain_eq {f g : F2} {a b c : Ev} {δ : Sl} {μ : Mu} : evChain f g a b c δ μ = bindG (a δ μ) fun x μ1 => bindG (b δ μ1) fun y μ2 => match f x y μ2 with
  | some (.p (.bl true), μ3) => bindG (c δ μ3) fun w μ4 => okm (g y w μ4)
  | some (.p (.bl false), μ3) => some (.ok (.p (.bl false)), μ3)
  | _ => none := rfl
end
end Vs
namespace L2
open PySem PySem.Spec PyProof.Rows
end L2
set_option maxHeartbeats 1000000
namespace Vs
open PySem PySem.Spec PyProof.Rows L2
/-- a new place at an address that no live place has -/
theorem Zn.adopt {α : Amb} {H G : Hp} {ρ : List Addr} {μ : Mu} (z : Zn α H G ρ μ) {p : Addr} (g : G p = none) (hn : ∀ (l : Nat) (m : MO), μ[l]? = some (some m) → ρ[l]? ≠ some p) {o : HO} {m : MO} (r : MRep α G ρ μ.length (some o) m) : Zn α (upd H p o) G (ρ ++ [p]) (μ ++ [some m]) := by
  have old : ∀ {l : Nat} {m' : MO}, (μ ++ [some m])[l]? = some (some m') → (l < μ.length ∧ μ[l]? = some (some m')) ∨ (l = μ.length ∧ m' = m) := fun {l m'} e => by
    by_cases hl : l < μ.length
    · rw [List.getElem?_append_left hl] at e; exact .inl ⟨hl, e⟩
    · rw [List.getElem?_append_right (by omega)] at e
      by_cases h0 : l - μ.length = 0
      · rw [h0] at e
        simp at e
        exact .inr ⟨by omega, e.symm⟩
      · rw [List.getElem?_eq_none (by simp; omega)] at e; cases e
  have at_old : ∀ {l : Nat}, l < μ.length → (ρ ++ [p])[l]? = ρ[l]? := fun {l} hl => List.getElem?_append_left (by rw [z.len]; exact hl)
  have at_new : (ρ ++ [p])[μ.length]? = some p := by rw [← z.len]; simp
  refine ⟨fun b x e => ?_, by simp [z.len], fun l m' e => ?_, fun l l' m1 m2 a e1 e2 h1 h2 => ?_⟩
  · rw [upd_ne (ne_of_none e g)]; exact z.sub _ _ e
  · rcases old e with ⟨hl, e⟩ | ⟨rfl, rfl⟩
    · obtain ⟨a, h1, h2, h3⟩ := z.cell l m' e
      have hap : a ≠ p := fun q => by subst q; exact hn _ _ e h1
      exact ⟨a, by rw [at_old hl]; exact h1, h2, by rw [upd_ne hap]; exact h3.up up_place⟩
    · exact ⟨p, at_new, g, by rw [upd_same]; exact r.up up_place⟩
  · rcases old e1 with ⟨k1, f1⟩ | ⟨q1, _⟩ <;> rcases old e2 with ⟨k2, f2⟩ | ⟨q2, _⟩
    · rw [at_old k1] at h1; rw [at_old k2] at h2
      exact z.inj _ _ _ _ _ f1 f2 h1 h2
    · subst q2
      rw [at_old k1] at h1; rw [at_new] at h2; cases h2
      exact absurd h1 (hn _ _ f1)
    · subst q1
      rw [at_old k2] at h2; rw [at_new] at h1; cases h1
      exact absurd h2 (hn _ _ f2)
    · rw [q1, q2]
/-- a place is told no more -/
theorem Zn.drop {α : Amb} {H G : Hp} {ρ : List Addr} {μ : Mu} (z : Zn α H G ρ μ) (l : Nat) : Zn α H G ρ (μ.set l none) := by
  have live : ∀ {k : Nat} {mk : MO}, (μ.set l Option.none)[k]? = some (some mk) → l ≠ k ∧ μ[k]? = some (some mk) := fun {k mk} e => by
    by_cases hk : l = k
    · subst hk
      by_cases hl : l < μ.length
      · rw [List.getElem?_set_self hl] at e; cases e
      · rw [List.getElem?_eq_none (by rw [List.length_set]; omega)] at e; cases e
    · rw [List.getElem?_set_ne hk] at e; exact ⟨hk, e⟩
  exact ⟨z.sub, by rw [List.length_set]; exact z.len, fun k mk e => z.cell k mk (live e).2, fun k k' m1 m2 b e1 e2 => z.inj _ _ _ _ _ (live e1).2 (live e2).2⟩
/-- a place is written, and goes to the end -/
theorem Zn.move {α : Amb} {H G : Hp} {ρ : List Addr} {μ : Mu} (z : Zn α H G ρ μ) {l : Nat} {a : Addr} {m m' : MO} (hm : μ[l]? = some (some m)) (ha : ρ[l]? = some a) {o : HO} (r : MRep α G ρ μ.length (some o) m') : Zn α (upd H a o) G (ρ ++ [a]) (μ.set l none ++ [some m']) := by
  obtain ⟨a', h1, h2, h3⟩ := z.cell l m hm
  rw [ha] at h1; cases h1
  refine (z.drop l).adopt h2 (fun k mk e q => ?_) (by rw [List.length_set]; exact r)
  by_cases hk : l = k
  · subst hk
    rw [List.getElem?_set_self (List.getElem?_eq_some_iff.mp hm).1] at e; cases e
  · rw [List.getElem?_set_ne hk] at e
    exact hk (z.inj _ _ _ _ _ hm e ha q)
theorem RepD.blw {α : Amb} {H G : Hp} {ρ : List Addr} {μ : Mu} (z : Zn α H G ρ μ) {v : V} {d : D} (r : RepD α G ρ v d) : Blw μ.length [d] := fun k hk => by
  simp at hk
  subst hk
  obtain ⟨a, _, h⟩ := r
  rw [← z.len]
  exact (List.getElem?_eq_some_iff.mp h).1
theorem Blw.app {l : Nat} {ds es : List D} (h : Blw l ds) (h2 : Blw l es) : Blw l (ds ++ es) := fun k hk => by
  rcases List.mem_append.mp hk with q | q
  · exact h k q
  · exact h2 k q
inductive It2 where
  | one (d : D) | two (d e : D)
def RepI (α : Amb) (G : Hp) (ρ : List Addr) (v : V) : It2 → Prop
  | .one d => RepD α G ρ v d
  | .two d e => ∃ a u w, v = .ref a ∧ SqT α.K G a [u, w] ∧ RepD α G ρ u d ∧ RepD α G ρ w e
/-- the place whose content must stay while a walk goes on -/
abbrev Gd := Option (Nat × MO)
def okG (μ : Mu) : Gd → Prop
  | none => True
  | some (l, m) => μ[l]? = some (some m)
noncomputable def gIf {β : Type} (μ : Mu) (g : Gd) (r : Option β) : Option β := @ite _ (okG μ g) (Classical.propDecidable _) r none
theorem gIf_pos {β : Type} {μ : Mu} {g : Gd} {r : Option β} (h : okG μ g) : gIf μ g r = r := if_pos h
@[simp] theorem gIf_none {β : Type} {μ : Mu} {r : Option β} : gIf μ none r = r := gIf_pos trivial
/-- the items that a value shows: is it a tuple?, the items, the place -/
def items (μ : Mu) : D → Option (Bool × List D × Gd)
  | .p (.tup xs) => some (true, xs.map .p, none)
  | .p (.lst xs) => some (false, xs.map .p, none)
  | .p (.wl xs) => some (false, xs.map .p, none)
  | .p _ => none
  | .loc l => match μ[l]? with
    | some (some (.lst xs)) => some (false, xs.map .p, some (l, .lst xs))
    | some (some (.dl ds)) => some (false, ds, some (l, .dl ds))
    | _ => none
theorem items_ok {α : Amb} {H G : Hp} {ρ : List Addr} {μ : Mu} (z : Zn α H G ρ μ) {v : V} {d : D} {b : Bool} {ds : List D} {g : Gd} (r : RepD α G ρ v d) (e : items μ d = some (b, ds, g)) :
    ∃ a, v = .ref a ∧ okG μ g ∧ ∀ H' G' ρ' μ', Up G ρ G' ρ' → Zn α H' G' ρ' μ' → okG μ' g → ∃ vs, (if b then SqT α.K H' a vs else SqL α.K H' a vs) ∧ RepDs α G' ρ' vs ds := by
  cases d with
  | p x =>
    cases x with
    | tup xs =>
      cases e
      cases r with
      | tup h r => exact ⟨_, rfl, trivial, fun H' G' ρ' μ' u z' _ => ⟨_, seqT z'.sub (seqT u.same h), reps_ds (r.mono u.same)⟩⟩
    | lst xs =>
      cases e
      cases r with
      | lst h r => exact ⟨_, rfl, trivial, fun H' G' ρ' μ' u z' _ => ⟨_, SqL.of (z'.sub _ _ (u.same _ _ h)), reps_ds (r.mono u.same)⟩⟩
    | wl xs =>
      cases e
      cases r with
      | wl h r => exact ⟨_, rfl, trivial, fun H' G' ρ' μ' u z' _ => ⟨_, seqL z'.sub (seqL u.same h), reps_ds (r.mono u.same)⟩⟩
    | _ => cases e
  | loc l =>
    obtain ⟨a, rfl, ha⟩ := r
    unfold items at e
    dsimp only at e
    split at e
    · rename_i xs hm
      cases e
      refine ⟨a, rfl, hm, fun H' G' ρ' μ' u z' ok => ?_⟩
      obtain ⟨a', h1, h2, vs, h3, h4⟩ := z'.cell l _ ok
      rw [u.get ha] at h1; cases h1
      exact ⟨vs, SqL.of h3, reps_ds h4⟩
    · rename_i xs hm
      cases e
      refine ⟨a, rfl, hm, fun H' G' ρ' μ' u z' ok => ?_⟩
      obtain ⟨a', h1, h2, vs, h3, h4, _⟩ := z'.cell l _ ok
      rw [u.get ha] at h1; cases h1
      exact ⟨vs, SqL.of h3, h4⟩
    · cases e
def JOkI (α : Amb) (J : It) (xs : List It2) (g : Gd) (G1 : Hp) (ρ1 : List Addr) : Prop := ∀ i H G ρ μ, Up G1 ρ1 G ρ → Zn α H G ρ μ → okG μ g →
  (∀ x, xs[i]? = some x → J.go i H ∧ ∀ v H', J.yld i H v H' → ∃ G', Up G ρ G' ρ ∧ Zn α H' G' ρ μ ∧ RepI α G' ρ v x) ∧ (xs.length ≤ i → J.stop i H)
abbrev EvI := EvG (List It2 × Gd)
def VII (α : Amb) (W : WX) (X : Cx) (tg iter : Expr) (ev : EvI) : Prop := ∃ wi : TI, PI X tg iter wi ∧ ∀ σ H G ρ δ μ (R : It → Hp → Prop), Zn α H G ρ μ → Sq α G ρ σ δ →
  Post α W (fun G' ρ' (J : It) xg => JOkI α J xg.1 xg.2 G' ρ') G ρ σ R (ev δ μ) → wi σ H R
def evUpI (ev : EvG (List P)) : EvI := fun δ μ => bindG (ev δ μ) fun xs μ1 => some (.ok (xs.map fun x => .one (.p x), none), μ1)
def evItL (e : Ev) : EvI := fun δ μ => bindG (e δ μ) fun d μ1 => match items μ1 d with
  | some (_, ds, g) => some (.ok (ds.map .one, g), μ1)
  | none => none
section
variable {α : Amb} {W : WX} {X : Cx}
theorem vii_of {tg iter : Expr} {ev : EvG (List P)} (h : VI α W X tg iter ev) : VII α W X tg iter (evUpI ev) := by
  obtain ⟨wi, pi, hi⟩ := h
  refine ⟨wi, pi, fun σ H G ρ δ μ R z s p => hi σ H G ρ δ μ R z s (Post.bind p fun xs μ1 J H1 G1 ρ1 u z1 j p1 => p1 J H1 G1 ρ1 Up.refl z1 ?_)⟩
  intro i H2 G2 ρ2 μ2 u2 z2 _
  obtain ⟨j1, j2⟩ := j i H2 G2 ρ2 μ2 u2.same z2
  refine ⟨fun x hx => ?_, fun hl => j2 (by simpa using hl)⟩
  have hx : (xs.map fun x => It2.one (.p x))[i]? = some x := hx
  rw [List.getElem?_map] at hx
  cases q : xs[i]? with
  | none => rw [q] at hx; cases hx
  | some y =>
    rw [q] at hx; cases hx
    exact j1 y q
abbrev TgtI := It2 → Sl → Option Sl
def tgNI (i : Nat) : TgtI := fun x δ => match x with
  | .one d => some (δ.set i (some d))
  | _ => none
def tgTI (i j : Nat) : TgtI := fun x δ => match x with
  | .two d e => some ((δ.set i (some d)).set j (some e))
  | _ => none
def tgUp (ts : Tgt) : TgtI := fun x δ => match x with
  | .one (.p x) => ts x δ
  | _ => none
theorem tgUp_some {ts : Tgt} {x : It2} {δ δ' : Sl} (e : tgUp ts x δ = some δ') : ∃ y, x = .one (.p y) ∧ ts y δ = some δ' := by
  unfold tgUp at e
  split at e
  · exact ⟨_, rfl, e⟩
  · cases e
/-- a target's store, that touches the slots vs alone -/
def GSemI (α : Amb) (g : TG) (ts : TgtI) (vs : List Nat) : Prop := ∀ G ρ H μ σ δ v x δ' (Q : L2.St → Hp → Prop), Zn α H G ρ μ → Sq α G ρ σ δ → RepI α G ρ v x → ts x δ = some δ' → (∀ σ', Sq α G ρ σ' δ' → wipe σ' vs = wipe σ vs → Q σ' H) → g v σ H Q
theorem gsi_of {g : TG} {ts : Tgt} {vs : List Nat} (h : GSem α g ts vs) : GSemI α g (tgUp ts) vs := fun G ρ H μ σ δ v x δ' Q z s r e k => by
  obtain ⟨y, rfl, e⟩ := tgUp_some e
  exact h G ρ H μ σ δ v y δ' Q z s r e k
noncomputable def forI (ts : TgtI) (body : SEv) (g : Gd) : List It2 → SEv
  | [], δ, μ => gIf μ g (some (.nx, δ, μ))
  | x :: xs, δ, μ => gIf μ g (match ts x δ with
    | none => none
    | some δ1 => match body δ1 μ with
      | some (.nx, δ2, μ2) => forI ts body g xs δ2 μ2
      | some (.cont, δ2, μ2) => forI ts body g xs δ2 μ2
      | some (.brk, δ2, μ2) => some (.nx, δ2, μ2)
      | r => r)
noncomputable def sForI (it : EvI) (ts : TgtI) (body : SEv) : SEv := fun δ μ => bindS (it δ μ) δ fun xg μ1 => forI ts body xg.2 xg.1 δ μ1
end
end Vs
namespace Vs
open PySem PySem.Spec PyProof.Rows L2
/-- the kept ones come to a list of places, which goes to the end of the store each time -/
noncomputable def lcD (ts : TgtI) (t : EvT) (e : Ev) (g : Gd) (δ0 : Sl) : Nat → List It2 → Mu → Option (Nat × Mu)
  | l, [], μ => gIf μ g (some (l, μ))
  | l, x :: xs, μ => gIf μ g (match ts x δ0 with
    | none => none
    | some δ1 => match t δ1 μ with
      | some (.ok true, μ1) => match e δ1 μ1 with
        | some (.ok d, μ2) => match μ2[l]? with
          | some (some (.dl acc)) => if acc.length < sizeLine then lcD ts t e g δ0 μ2.length xs (μ2.set l none ++ [some (.dl (acc ++ [d]))]) else none
          | _ => none
        | _ => none
      | some (.ok false, μ1) => lcD ts t e g δ0 l xs μ1
      | _ => none)
def finD : Option (Nat × Mu) → Option (Out D × Mu)
  | some (l, μ) => some (.ok (.loc l), μ)
  | none => none
noncomputable def evLcD (it : EvI) (ts : TgtI) (t : EvT) (e : Ev) (vs : List Nat) : Ev := fun δ μ => bindG (it δ μ) fun xg μ1 => finD (lcD ts t e xg.2 (wipeS δ vs) μ1.length xg.1 (μ1 ++ [some (.dl [])]))
section
variable {α : Amb} {W : WX} {X : Cx}
theorem gIf_fin {β : Type} {rep : Hp → List Addr → V → D → Prop} {G : Hp} {ρ : List Addr} {σ : L2.St} {Q : VK} {μ : Mu} {g : Gd} {r : Option β} {fin : Option β → Option (Out D × Mu)} (hnone : fin none = none) (p : Post α W rep G ρ σ Q (fin (gIf μ g r))) : okG μ g ∧ Post α W rep G ρ σ Q (fin r) := by
  unfold gIf at p
  split at p
  · exact ⟨‹_›, p⟩
  · rw [hnone] at p; exact p.elim
theorem lcD_imp {wi : TI} {g : TG} {tt : TT} {te : TE} {vs : List Nat} {it : EvI} {ts : TgtI} {t : EvT} {e : Ev}
    (hi : ∀ σ H G ρ δ μ (R : It → Hp → Prop), Zn α H G ρ μ → Sq α G ρ σ δ → Post α W (fun G' ρ' (J : It) xg => JOkI α J xg.1 xg.2 G' ρ') G ρ σ R (it δ μ) → wi σ H R)
    (hgs : GSemI α g ts vs) (htt : ∀ σ H Q, tVt α W0 t σ H Q → tt σ H Q) (hte : ∀ σ H Q, tV α W0 e σ H Q → te σ H Q)
    {σ : L2.St} {H : Hp} {Q : VK} {G : Hp} {ρ : List Addr} {δ : Sl} {μ : Mu} (z : Zn α H G ρ μ) (s : Sq α G ρ σ δ)
    (p : Post α W (RepD α) G ρ σ Q (evLcD it ts t e vs δ μ)) : tLc wi g tt te vs σ H Q := by
  refine hi σ H G ρ δ μ _ z s (Post.bind p fun xg μ1 J H1 G1 ρ1 u z1 j1 p1 => ?_)
  obtain ⟨xs, gd⟩ := xg
  dsimp only at p1 j1
  intro Dd hD
  have zp := z1.place (m := .dl []) hD ⟨[], rfl, .nil, fun k hk => by simp at hk⟩
  have hDat : (ρ1 ++ [Dd])[μ1.length]? = some Dd := by rw [← z1.len]; simp
  refine ⟨fun i m H => m + i = xs.length ∧ ∃ G' ρ' μ' l, Up G1 (ρ1 ++ [Dd]) G' ρ' ∧ Zn α H G' ρ' μ' ∧ ρ'[l]? = some Dd ∧ Post α W (RepD α) G1 ρ1 σ Q (finD (lcD ts t e gd (wipeS δ vs) l (xs.drop i) μ')),
    ⟨xs.length, by omega, G1, ρ1 ++ [Dd], _, μ1.length, Up.refl, zp, hDat, by simpa using p1⟩, ?_⟩
  rintro i m H2 ⟨hm, G2, ρ2, μ2, l, u2, z2, hat, p2⟩
  have u12 : Up G1 ρ1 G2 ρ2 := Up.trans up_place u2
  by_cases h : i < xs.length
  · obtain ⟨x, hx⟩ : ∃ x, xs[i]? = some x := ⟨xs[i], List.getElem?_eq_getElem h⟩
    have hd : xs.drop i = x :: xs.drop (i + 1) := by
      rw [List.drop_eq_getElem_cons h]
      rw [List.getElem?_eq_getElem h] at hx
      cases hx; rfl
    rw [hd] at p2
    unfold lcD at p2
    obtain ⟨ok, p2⟩ := gIf_fin (fin := finD) rfl p2
    obtain ⟨jgo, jstop⟩ := j1 i H2 G2 ρ2 μ2 u12 z2 ok
    obtain ⟨go, yl⟩ := jgo x hx
    refine .inr ⟨go, fun H' => ∃ G' ρ' μ' l, Up G1 (ρ1 ++ [Dd]) G' ρ' ∧ Zn α H' G' ρ' μ' ∧ ρ'[l]? = some Dd ∧ Post α W (RepD α) G1 ρ1 σ Q (finD (lcD ts t e gd (wipeS δ vs) l (xs.drop (i + 1)) μ')), fun H' hN => ⟨m - 1, by omega, by omega, hN⟩, fun v H' y => ?_⟩
    obtain ⟨G3, u3, z3, r3⟩ := yl v H' y
    have s3 : Sq α G3 ρ2 (wipe σ vs) (wipeS δ vs) := sq_wipe (((s.up u).up u12).up u3) vs
    cases q : ts x (wipeS δ vs) with
    | none => rw [q] at p2; exact p2.elim
    | some δ3 =>
      rw [q] at p2
      dsimp only at p2
      refine hgs G3 ρ2 H' μ2 _ _ v x δ3 _ z3 s3 r3 q fun σ3 s4 hw => ⟨hw.trans wipe_idem, htt _ _ _ ⟨G3, ρ2, δ3, μ2, z3, s4, ?_⟩⟩
      have u23 : Up G1 (ρ1 ++ [Dd]) G3 ρ2 := u2.trans u3
      match q2 : t δ3 μ2, p2 with
      | none, p2 => exact p2.elim
      | some (.exc c, μ4), p2 => exact p2.elim
      | some (.ok false, μ4), p2 =>
        intro b H4 G4 ρ4 u4 z4 hb
        subst hb
        exact iteF ⟨G4, ρ4, μ4, l, u23.trans u4, z4, u4.get hat, p2⟩
      | some (.ok true, μ4), p2 =>
        intro b H4 G4 ρ4 u4 z4 hb
        subst hb
        refine iteT (hte _ _ _ ⟨G4, ρ4, δ3, μ4, z4, s4.up u4, ?_⟩)
        dsimp only at p2
        match q3 : e δ3 μ4, p2 with
        | none, p2 => exact p2.elim
        | some (.exc c, μ5), p2 => exact p2.elim
        | some (.ok d, μ5), p2 =>
          intro w H5 G5 ρ5 u5 z5 r5
          dsimp only at p2
          have uu : Up G1 (ρ1 ++ [Dd]) G5 ρ5 := (u23.trans u4).trans u5
          have hat5 : ρ5[l]? = some Dd := u5.get (u4.get hat)
          match q6 : μ5[l]?, p2 with
          | some (some (.dl acc)), p2 =>
            dsimp only at p2
            split at p2
            · rename_i hl
              obtain ⟨a', h1, h2, vacc, h3, h4, h5⟩ := z5.cell l _ q6
              rw [hat5] at h1; cases h1
              have hlt : l < μ5.length := (List.getElem?_eq_some_iff.mp q6).1
              have z6 := z5.move (o := .lst (vacc ++ [w])) (m' := .dl (acc ++ [d])) q6 hat5 ⟨_, rfl, h4.append (.cons r5 .nil), (h5.le (Nat.le_of_lt hlt)).app (RepD.blw z5 r5)⟩
              exact ⟨vacc, h3, by rw [h4.length]; exact hl, G5, ρ5 ++ [Dd], _, μ5.length, uu.trans up_place, z6, by rw [← z5.len]; simp, p2⟩
            · exact p2.elim
          | none, p2 => exact p2.elim
          | some none, p2 => exact p2.elim
          | some (some (.lst _)), p2 => exact p2.elim
          | some (some (.ins _ _)), p2 => exact p2.elim
  · have hd : xs.drop i = [] := List.drop_eq_nil_of_le (by omega)
    rw [hd] at p2
    unfold lcD at p2
    obtain ⟨ok, p2⟩ := gIf_fin (fin := finD) rfl p2
    obtain ⟨jgo, jstop⟩ := j1 i H2 G2 ρ2 μ2 u12 z2 ok
    exact .inl ⟨jstop (by omega), p2 _ H2 G2 ρ2 u12 z2 ⟨Dd, rfl, hat⟩⟩
section
variable {elt tg iter : Expr} {ifs : List Expr} {scope : Scope} {own : List (Str × Nat)} {pos : Pos} {g : TG} {it : EvI} {ts : TgtI} {t : EvT} {e : Ev}
theorem v_lcD (hc : X.calm = true) (hN : X.N.Nodup) (hi : VII α W X tg iter it) (ok : BlkOk X.N X.env.scope scope own) (hgs : GSemI α g ts (own.map (·.2)))
    (hg : ∀ (s : Shared) (H : Hp) (C : Addr) (cl : List (Str × Addr)) (fp : List Addr), PG (X.blk s H scope (compEnvC scope cl C X.env) fp) tg g) (ht : ∀ (s : Shared) (H : Hp) (C : Addr) (cl : List (Str × Addr)) (fp : List Addr), PTs (X.blk s H scope (compEnvC scope cl C X.env) fp) ifs (tVt α W0 t))
    (he : ∀ (s : Shared) (H : Hp) (C : Addr) (cl : List (Str × Addr)) (fp : List Addr), PE (X.blk s H scope (compEnvC scope cl C X.env) fp) elt (tV α W0 e)) (hs : ∀ x, foldedSetIterable iter X.env x = pure x := by intro _; rfl) :
    PE X (.ListComp elt [⟨tg, iter, ifs, 0⟩] scope pos) (tV α W (evLcD it ts t e (own.map (·.2)))) := by
  obtain ⟨wi, pi, hi⟩ := hi
  exact PE.imp (pe_lc hc hN pi ok hg ht he hs) fun σ H Q ⟨G, ρ, δ, μ, z, s, p⟩ => lcD_imp hi hgs (fun _ _ _ h => h) (fun _ _ _ h => h) z s p
theorem v_setLcD {i : Nat} {y : Str} {py : Pos} {spos : Pos} (hc : X.calm = true) (hN : X.N.Nodup) (hy : X.N[i]? = some y) (hyl : X.env.scope.names.lookup y = some .local)
    (hsw : swapsWith (.ListComp elt [⟨tg, iter, ifs, 0⟩] scope pos) (some (.Name y py)) spos.line X.env = pure true) (hi : VII α W X tg iter it) (ok : BlkOk X.N X.env.scope scope own) (hgs : GSemI α g ts (own.map (·.2)))
    (hg : ∀ (s : Shared) (H : Hp) (C : Addr) (cl : List (Str × Addr)) (fp : List Addr), PG (X.blk s H scope (compEnvC scope cl C X.env) fp) tg g) (ht : ∀ (s : Shared) (H : Hp) (C : Addr) (cl : List (Str × Addr)) (fp : List Addr), PTs (X.blk s H scope (compEnvC scope cl C X.env) fp) ifs (tVt α W0 t))
    (he : ∀ (s : Shared) (H : Hp) (C : Addr) (cl : List (Str × Addr)) (fp : List Addr), PE (X.blk s H scope (compEnvC scope cl C X.env) fp) elt (tV α W0 e)) (hs : ∀ x, foldedSetIterable iter X.env x = pure x := by intro _; rfl) :
    PS X (.Assign [.Name y py] (.ListComp elt [⟨tg, iter, ifs, 0⟩] scope pos) spos) (tS α W (sSet i (evLcD it ts t e (own.map (·.2))))) := by
  obtain ⟨wi, pi, hi⟩ := hi
  refine PS.imp (ps_setLc (i := i) hc hN hy hyl hsw pi ok hg ht he hs) fun Dn σ H ⟨G, ρ, δ, μ, z, s, p⟩ => ?_
  refine lcD_imp hi hgs (fun _ _ _ h => h) (fun _ _ _ h => h) z s (SPost.bind (m := evLcD it ts t e (own.map (·.2)) δ μ) p s fun d μ1 v H1 G1 ρ1 u z1 r1 p1 => ?_)
  exact p1 _ H1 G1 ρ1 Up.refl z1 ((s.up u).set r1 i)
end
theorem reds_at {G : Hp} {ρ : List Addr} {vs : List V} {ds : List D} {i : Int} {d : D} (r : RepDs α G ρ vs ds) (h : atI ds i = some d) : ∃ v, atI vs i = some v ∧ RepD α G ρ v d := by
  unfold atI at h ⊢
  rw [r.length]
  cases q : ixN ds.length i with
  | none => rw [q] at h; cases h
  | some j =>
    rw [q] at h
    obtain ⟨v, h1, h2⟩ := r.get (show ds[j]? = some d from h)
    exact ⟨v, h1, h2⟩
def fIxD : F2 := fun x y μ => match items μ x, y with
  | some (_, ds, _), .p (.int i) => (atI ds i).map fun d => (d, μ)
  | _, _ => none
theorem o_ixD (hK : X.K = α.K) : IxR X (r2V α fIxD) := IxR.imp ix_seq fun x y H Q h => by
  obtain ⟨G, ρ, μ, dx, dy, z, rx, ry, q⟩ := h
  unfold fIxD at q
  rw [hK]
  split at q
  · rename_i b ds g i hv
    cases hi : atI ds i with
    | none => rw [hi] at q; exact q.elim
    | some d =>
      rw [hi] at q
      obtain ⟨a, rfl, ok, hs⟩ := items_ok z rx hv
      obtain ⟨vs, hv2, r⟩ := hs H G ρ μ Up.refl z ok
      obtain ⟨u, h3, h4⟩ := reds_at r hi
      cases b with
      | true => exact .inr (.inl ⟨a, vs, i, u, rfl, repInt ry, hv2, h3, q u H G ρ Up.refl z h4⟩)
      | false => exact .inl ⟨a, vs, i, u, rfl, repInt ry, hv2, h3, q u H G ρ Up.refl z h4⟩
  · exact q.elim
def fLenD : FA := fun ds μ => match ds with
  | [d] => match items μ d with
    | some (_, es, _) => some (.p (.int es.length), μ)
    | none => none
  | _ => none
theorem c_lenD (hK : X.K = α.K) : CallR X (.builtin "len") (rCV α fLenD) := CallR.imp (call_len_seq.or call_len_str) fun vs H Q ⟨G, ρ, μ, ds, z, r, q⟩ => by
  unfold fLenD at q
  rw [hK]
  split at q
  · rename_i d
    obtain ⟨v, rfl, r1⟩ := rds1 r
    split at q
    · rename_i b es g hv
      obtain ⟨a, rfl, ok, hs⟩ := items_ok z r1 hv
      obtain ⟨ws, h1, h2⟩ := hs H G ρ μ Up.refl z ok
      cases b with
      | true => exact .inl ⟨a, ws, rfl, .inr h1, by rw [h2.length]; exact q _ H G ρ Up.refl z (.int _)⟩
      | false => exact .inl ⟨a, ws, rfl, .inl h1, by rw [h2.length]; exact q _ H G ρ Up.refl z (.int _)⟩
    · exact q.elim
  · exact q.elim
/-- the kind that isinstance sees: a place with a list is one -/
def kindD (μ : Mu) : D → Option P
  | .p x => some x
  | .loc l => match μ[l]? with
    | some (some (.lst _)) => some (.lst [])
    | some (some (.dl _)) => some (.lst [])
    | _ => none
def evIsiD (t : P → Option Bool) (a : Ev) : Ev := fun δ μ => bindG (a δ μ) fun d μ1 => isiVEnd t μ1 (kindD μ1 d)
noncomputable def frzD (μ : Mu) : D → Option (P × Mu)
  | .p x => some (x, μ)
  | .loc l => match μ[l]? with
    | some (some (.lst xs)) => some (.lst xs, μ.set l none)
    | some (some (.dl ds)) => match toPs μ ds with
      | some (xs, μ1) => gIf μ1 (some (l, .dl ds)) (some (.lst xs, μ1.set l none))
      | none => none
    | _ => none
noncomputable def frzEnd : Option (P × Mu) → Option (Out D × Mu)
  | some (x, μ) => some (.ok (.p x), μ)
  | none => none
noncomputable def evFrz (e : Ev) : Ev := fun δ μ => bindG (e δ μ) fun d μ1 => frzEnd (frzD μ1 d)
def retK : Option (Fl × Sl × Mu) → Option (Out D × Mu)
  | some (.ret d, _, μ) => some (.ok d, μ)
  | some (.nx, _, μ) => some (.ok (.p .non), μ)
  | some (.exc c, _, μ) => some (.exc c, μ)
  | _ => none
def bodySemK (N : Nat) (sv : SEv) : FSem := fun ds μ => retK (bodyS N sv ds μ)
theorem retK_ok {E : XK} {Q : VK} {G : Hp} {ρ : List Addr} {r : Option (Fl × Sl × Mu)} (h : Post α (WF E) (RepD α) G ρ [] Q (retK r)) : SPost α (WF E) { nx := fun _ H' => Q .non H', rt := Q } G ρ r := by
  match r, h with
  | some (.ret d, δ, μ), h => exact h
  | some (.nx, δ, μ), h => exact fun σ' H' G' ρ' u z s => h .non H' G' ρ' u z .non
  | some (.exc c, δ, μ), h => exact fun σ' H' G' ρ' u z s => h H' G' ρ' u z
section
variable {P : Program} {w : World} {K : PySem.W.Frag} {mg : Str → Option Value} {base : Heap}
theorem fnVK {x qual : Str} {st : Stmt} {f : Addr} {fd : FuncData} {N ps : List Str} {k : Nat} {sv : SEv} (F : Fun K x qual st f fd) (S : FnScope N ps (defScope st))
    (hb : ∀ (cdv : Value) (A : Around) (outer : List Env) (s : Shared) (H : Hp) (E : XK), Room k (A.deeper (envOfC qual (defScope st) s.heap.objs.size f cdv)) →
      Takes (cxF P w K mg base N qual st f cdv A outer s H E) (WF E) → PassesOwn (model P w) (cxF P w K mg base N qual st f cdv A outer s H E).A (cxF P w K mg base N qual st f cdv A outer s H E).env (cxF P w K mg base N qual st f cdv A outer s H E).xe →
      PSs (cxF P w K mg base N qual st f cdv A outer s H E) (defBody st) (tS α (WF E) sv)) :
    FnOk P w K mg base (L2.CX P w) (k + 1) f fd ps (spF α ps.length (bodySemK N.length sv)) :=
  fnG F S (fun E Q G ρ H ds μ z p => retK_ok p) hb
end
end
end Vs
namespace Vs
open PySem PySem.Spec PyProof.Rows L2
noncomputable abbrev lb_is_timing_0 : SEv := (seqS (sSet 6 (evIf (evB (evBin fEq (evV 2) (evUn fNeg (evC (.int 1))))) (evV 5) (evBin (fOwn 0 m_Ratiou_subu) (evV 5) (evBin fIx (evV 1) (evV 2))))) (sIf (tOrV' (evB (evCall m_is_less [] (evCons (evV 6) (evCons (evV 3) evNil)))) (evB (evCall m_is_less [] (evCons (evV 4) (evCons (evV 6) evNil))))) (sRet (evC (.bl false))) sNil))
noncomputable def sv_is_timing : SEv := (seqS (sIf (evB (evBin fNe (evBI fLen (evCons (evV 1) evNil)) (evBI fLen (evCons (evV 0) evNil)))) (sRet (evC (.bl false))) sNil) (seqS (sFor (evZipTL (evCons (evV 0) (evCons (evV 1) evNil))) (tgM [(tgT [2, 3, 4]), (tgN 5)]) (seqS (sSet 6 (evIf (evB (evBin fEq (evV 2) (evUn fNeg (evC (.int 1))))) (evV 5) (evBin (fOwn 0 m_Ratiou_subu) (evV 5) (evBin fIx (evV 1) (evV 2))))) (sIf (tOrV' (evB (evCall m_is_less [] (evCons (evV 6) (evCons (evV 3) evNil)))) (evB (evCall m_is_less [] (evCons (evV 4) (evCons (evV 6) evNil))))) (sRet (evC (.bl false))) sNil))) (sRet (evC (.bl true)))))
noncomputable def m_is_timing : FSem := arF 2 (bodySem 7 sv_is_timing)
theorem ar_is_timing : Arity m_is_timing 2 := arF_ar
theorem le_is_timing : ∀ ds μ r, m_is_timing ds μ = some r → bodySem 7 sv_is_timing ds μ = some r := arF_le
end Vs
namespace Vs
open PySem PySem.Spec PyProof.Rows L2
section
variable {μ : Mu} {δ : Sl}
structure Cue where
  (p : Int) (lo hi : Rat)
def Cue.r (c : Cue) : P := .tup [.int c.p, rat c.lo, rat c.hi]
structure CueOk (i : Nat) (c : Cue) : Prop where
  p1 : -1 ≤ c.p
  p2 : c.p < i
  lo : Bz 20 c.lo
  hi : Bz 40 c.hi
  lo0 : 0 ≤ c.lo
  le : c.lo ≤ c.hi
def shR (cs : List Cue) : P := .tup (cs.map Cue.r)
def intsP (a n : Nat) : List P := (List.range' a n).map fun (i : Nat) => P.int (i : Int)
theorem range_ints (n : Nat) : rangeP 0 n = intsP 0 n := by
  unfold rangeP intsP
  rw [List.range_eq_range']
  simp
theorem intsP_succ (a n : Nat) : intsP a (n + 1) = .int (a : Int) :: intsP (a + 1) n := by
  unfold intsP
  rw [List.range'_succ, List.map_cons]
theorem rng_n (n : Nat) {e : Ev} {ν : Mu} (he : e δ μ = some (.ok (.p (.int (n : Int))), ν)) (h : n < 1000) : evRng1 e δ μ = some (.ok (intsP 0 n), ν) := by
  have hr := rng_small (v := (n : Int)) (by omega) (by omega)
  rw [evRng1_eq, he, bindG_ok]
  dsimp only
  rw [if_pos hr, Int.toNat_natCast, range_ints]
structure Sheet (cs : List Cue) : Prop where
  ok : ∀ i c, cs[i]? = some c → CueOk i c
  len : cs.length ≤ 8
  pos : 0 < cs.length
def bf (all : List Rat) (p : Int) : Rat := all.getD p.toNat 0
theorem bf_at {all : List Rat} {p : Int} (h0 : 0 ≤ p) (h : p < all.length) : atI (all.map rat) p = some (rat (bf all p)) ∧ atI (all.map pr) p = some (pr (bf all p)) ∧ bf all p ∈ all := by
  have hlt : p.toNat < all.length := by omega
  have e : all[p.toNat]? = some (bf all p) := by
    unfold bf
    rw [List.getD_eq_getElem?_getD, List.getElem?_eq_getElem hlt]
    rfl
  have hp : p = ((p.toNat : Nat) : Int) := by omega
  refine ⟨?_, ?_, List.mem_of_getElem? e⟩
  · rw [hp]
    refine atI_nat ?_
    rw [List.getElem?_map, e, ← hp]
    rfl
  · rw [hp]
    refine atI_nat ?_
    rw [List.getElem?_map, e, ← hp]
    rfl
def wt (all : List Rat) (p : Int) (t : Rat) : Rat := if p = -1 then t else t - bf all p
def okc (all : List Rat) (c : Cue) (t : Rat) : Bool := !(decide (wt all c.p t < c.lo)) && !(decide (c.hi < wt all c.p t))
def allR : Bool → Sl → Sl → Mu → Option (Fl × Sl × Mu)
  | true, _, δ, μ => some (.nx, δ, μ)
  | false, δ, _, μ => some (.ret (.p (.bl false)), δ, μ)
def pairP (x : Cue × Rat) : P := .tup [x.1.r, rat x.2]
theorem zip_pairs : ∀ (cs : List Cue) (ts : List Rat), zipP (cs.map Cue.r) (ts.map rat) = (cs.zip ts).map pairP
  | [], _ => rfl
  | _ :: _, [] => rfl
  | c :: cs, t :: ts => by
    show P.tup [c.r, rat t] :: zipP (cs.map Cue.r) (ts.map rat) = _
    rw [zip_pairs cs ts]
    rfl
theorem timing_loop {all : List Rat} (hall : ∀ t ∈ all, Bz 700 t) {c0 : Option D} : ∀ (xs : List (Cue × Rat)), (∀ x ∈ xs, Bz 20 x.1.lo ∧ Bz 40 x.1.hi ∧ -1 ≤ x.1.p ∧ x.1.p < all.length ∧ Bz 700 x.2) → ∀ (c2 c3 c4 c5 c6 : Option D), ∃ δ' c2' c3' c4' c5' c6',
    forL (tgM [tgT [2, 3, 4], tgN 5]) lb_is_timing_0 (xs.map pairP) [c0, some (.p (.lst (all.map rat))), c2, c3, c4, c5, c6] μ = allR (xs.all fun x => okc all x.1 x.2) δ' [c0, some (.p (.lst (all.map rat))), c2', c3', c4', c5', c6'] μ
  | [], h, c2, c3, c4, c5, c6 => ⟨[], c2, c3, c4, c5, c6, rfl⟩
  | (c, t) :: xs, h, c2, c3, c4, c5, c6 => by
    obtain ⟨b1, b2, p1, p2, b3⟩ := h (c, t) List.mem_cons_self
    dsimp only at b1 b2 p1 p2 b3
    have hw : Bz 1400 (wt all c.p t) := by
      unfold wt
      split
      · exact b3.mono (by decide)
      · rename_i hp
        exact b3.sub (hall _ (bf_at (by omega) p2).2.2)
    have ew : ∀ ν : Mu, evIf (evB (evBin fEq (evV 2) (evUn fNeg (evC (.int 1))))) (evV 5) (evBin (fOwn 0 m_Ratiou_subu) (evV 5) (evBin fIx (evV 1) (evV 2))) [c0, some (.p (.lst (all.map rat))), some (.p (.int c.p)), some (.p (rat c.lo)), some (.p (rat c.hi)), some (.p (rat t)), c6] ν = some (.ok (.p (rat (wt all c.p t))), ν) := fun ν => by
      by_cases hp : c.p = -1
      · simp [hp, wt]
      · obtain ⟨hx, _, hm⟩ := bf_at (all := all) (p := c.p) (by omega) p2
        have e1 := o_sub' (μ := ν) b3 (hall _ hm) (by decide)
        simp [hp, hx, e1, wt]
    have e1 := fun ν : Mu => ev_is_less (μ := ν) hw b1 (by decide)
    have e2 := fun ν : Mu => ev_is_less (μ := ν) b2 hw (by decide)
    obtain ⟨δ', c2', c3', c4', c5', c6', ih⟩ := timing_loop hall (c0 := c0) xs (fun x hx => h x (List.mem_cons_of_mem _ hx)) (some (.p (.int c.p))) (some (.p (rat c.lo))) (some (.p (rat c.hi))) (some (.p (rat t))) (some (.p (rat (wt all c.p t))))
    have ht : tgM [tgT [2, 3, 4], tgN 5] (pairP (c, t)) [c0, some (.p (.lst (all.map rat))), c2, c3, c4, c5, c6] = some [c0, some (.p (.lst (all.map rat))), some (.p (.int c.p)), some (.p (rat c.lo)), some (.p (rat c.hi)), some (.p (rat t)), c6] := rfl
    by_cases q1 : wt all c.p t < c.lo
    · refine ⟨[c0, some (.p (.lst (all.map rat))), some (.p (.int c.p)), some (.p (rat c.lo)), some (.p (rat c.hi)), some (.p (rat t)), some (.p (rat (wt all c.p t)))], c2, c3, c4, c5, c6, ?_⟩
      have e6 : lb_is_timing_0 [c0, some (.p (.lst (all.map rat))), some (.p (.int c.p)), some (.p (rat c.lo)), some (.p (rat c.hi)), some (.p (rat t)), c6] μ
          = some (.ret (.p (.bl false)), [c0, some (.p (.lst (all.map rat))), some (.p (.int c.p)), some (.p (rat c.lo)), some (.p (rat c.hi)), some (.p (rat t)), some (.p (rat (wt all c.p t)))], μ) := by
        unfold lb_is_timing_0
        rw [seqS_eq, sSet_eq, ew]
        simp [e1, q1]
      rw [List.map_cons, forL_ret ht e6]
      simp [okc, q1, allR]
    · by_cases q2 : c.hi < wt all c.p t
      · refine ⟨[c0, some (.p (.lst (all.map rat))), some (.p (.int c.p)), some (.p (rat c.lo)), some (.p (rat c.hi)), some (.p (rat t)), some (.p (rat (wt all c.p t)))], c2, c3, c4, c5, c6, ?_⟩
        have e6 : lb_is_timing_0 [c0, some (.p (.lst (all.map rat))), some (.p (.int c.p)), some (.p (rat c.lo)), some (.p (rat c.hi)), some (.p (rat t)), c6] μ
            = some (.ret (.p (.bl false)), [c0, some (.p (.lst (all.map rat))), some (.p (.int c.p)), some (.p (rat c.lo)), some (.p (rat c.hi)), some (.p (rat t)), some (.p (rat (wt all c.p t)))], μ) := by
          unfold lb_is_timing_0
          rw [seqS_eq, sSet_eq, ew]
          simp [e1, e2, q1, q2]
        rw [List.map_cons, forL_ret ht e6]
        simp [okc, q1, q2, allR]
      · refine ⟨δ', c2', c3', c4', c5', c6', ?_⟩
        have e6 : lb_is_timing_0 [c0, some (.p (.lst (all.map rat))), some (.p (.int c.p)), some (.p (rat c.lo)), some (.p (rat c.hi)), some (.p (rat t)), c6] μ
            = some (.nx, [c0, some (.p (.lst (all.map rat))), some (.p (.int c.p)), some (.p (rat c.lo)), some (.p (rat c.hi)), some (.p (rat t)), some (.p (rat (wt all c.p t)))], μ) := by
          unfold lb_is_timing_0
          rw [seqS_eq, sSet_eq, ew]
          simp [e1, e2, q1, q2]
        rw [List.map_cons, forL_nx ht e6, ih]
        simp [okc, q1, q2]
theorem ev_timing {cs : List Cue} {ts : List Rat} (h : Sheet cs) (ht : ∀ t ∈ ts, Bz 700 t) : m_is_timing [.p (shR cs), .p (.lst (ts.map rat))] μ = some (.ok (.p (.bl (decide (ts.length = cs.length) && (cs.zip ts).all fun x => okc ts x.1 x.2))), μ) := by
  have l1 : fLen [.p (.lst (ts.map rat))] μ = some (.p (.int (ts.length : Int)), μ) := by
    show some (D.p (.int ((ts.map rat).length : Int)), μ) = _
    rw [List.length_map]
  have l2 : fLen [.p (shR cs)] μ = some (.p (.int (cs.length : Int)), μ) := by
    show some (D.p (.int ((cs.map Cue.r).length : Int)), μ) = _
    rw [List.length_map]
  by_cases q : ts.length = cs.length
  · have hx : ∀ x ∈ cs.zip ts, Bz 20 x.1.lo ∧ Bz 40 x.1.hi ∧ -1 ≤ x.1.p ∧ x.1.p < ts.length ∧ Bz 700 x.2 := fun x hx => by
      obtain ⟨i, hi⟩ := List.getElem?_of_mem hx
      rw [List.getElem?_zip_eq_some] at hi
      have k := h.ok i x.1 hi.1
      have hl := (List.getElem?_eq_some_iff.mp hi.1).1
      exact ⟨k.lo, k.hi, k.p1, by have := k.p2; omega, ht _ (List.mem_of_getElem? hi.2)⟩
    obtain ⟨δ', c2, c3, c4, c5, c6, e⟩ := timing_loop (μ := μ) ht (c0 := some (.p (shR cs))) (cs.zip ts) hx none none none none none
    have ez : evZipTL (evCons (evV 0) (evCons (evV 1) evNil)) [some (.p (shR cs)), some (.p (.lst (ts.map rat))), none, none, none, none, none] μ = some (.ok ((cs.zip ts).map pairP), μ) := by
      rw [← zip_pairs]
      rfl
    have hq : (ts.length : Int) = (cs.length : Int) := by omega
    generalize (cs.zip ts).all (fun x => okc ts x.1 x.2) = b at *
    cases b with
    | true => simp [m_is_timing, arF, bodySem_eq, sv_is_timing, l1, l2, q, hq, ez, e, allR]
    | false => simp [m_is_timing, arF, bodySem_eq, sv_is_timing, l1, l2, q, hq, ez, e, allR]
  · have hq : ¬ (ts.length : Int) = (cs.length : Int) := by omega
    simp [m_is_timing, arF, bodySem_eq, sv_is_timing, l1, l2, q, hq]
end
end Vs
namespace Vs
open PySem PySem.Spec PyProof.Rows L2
structure Ext (μ ν : Mu) : Prop where
  len : μ.length ≤ ν.length
  get : ∀ j, j < μ.length → ν[j]? = μ[j]?
theorem Ext.refl {μ : Mu} : Ext μ μ := ⟨Nat.le_refl _, fun _ _ => rfl⟩
theorem Ext.trans {μ ν ξ : Mu} (a : Ext μ ν) (b : Ext ν ξ) : Ext μ ξ := ⟨Nat.le_trans a.len b.len, fun j h => (b.get j (Nat.lt_of_lt_of_le h a.len)).trans (a.get j h)⟩
theorem Ext.app {μ : Mu} (r : Mu) : Ext μ (μ ++ r) := ⟨by simp, fun j h => List.getElem?_append_left h⟩
theorem Ext.set {μ ν : Mu} (e : Ext μ ν) {l : Nat} (h : μ.length ≤ l) (o : Option MO) : Ext μ (ν.set l o) := ⟨by rw [List.length_set]; exact e.len, fun j hj => by rw [List.getElem?_set_ne (by omega)]; exact e.get j hj⟩
theorem Ext.take {μ ν : Mu} (e : Ext μ ν) : ν.take μ.length = μ := by
  apply List.ext_getElem?
  intro j
  by_cases h : j < μ.length
  · rw [List.getElem?_take_of_lt h, e.get j h]
  · rw [List.getElem?_eq_none (by rw [List.length_take]; have := e.len; omega), List.getElem?_eq_none (by omega)]
theorem Ext.at {μ ν : Mu} (e : Ext μ ν) {l : Nat} {m : Option MO} (h : μ[l]? = some m) : ν[l]? = some m := by
  rw [e.get l (List.getElem?_eq_some_iff.mp h).1]; exact h
theorem Ext.ok {μ ν : Mu} (e : Ext μ ν) {g : Gd} (h : okG μ g) : okG ν g := by
  cases g with
  | none => trivial
  | some x => exact e.at h
theorem Ext.of {μ ν : Mu} (h : μ.length ≤ ν.length) (g : ∀ j, j < μ.length → ν[j]? = μ[j]?) : Ext μ ν := ⟨h, g⟩
theorem Ext.eq {μ ν : Mu} (e : Ext μ ν) (h : ν.length = μ.length) : ν = μ := by
  have := e.take
  rwa [← h, List.take_length] at this
structure Live (n0 : Nat) (μ : Mu) (l : Nat) (Rs : List (List P)) (ks : List Nat) : Prop where
  len : ks.length = Rs.length
  pw : ks.Pairwise (· < ·)
  lo : ∀ k ∈ ks, n0 ≤ k
  hi : ∀ k ∈ ks, k < l
  l0 : n0 ≤ l
  at' : μ[l]? = some (some (.dl (ks.map .loc)))
  row : ∀ (i k : Nat) (R : List P), ks[i]? = some k → Rs[i]? = some R → μ[k]? = some (some (.lst R))
theorem Live.ext {n0 : Nat} {μ ν : Mu} {l : Nat} {Rs : List (List P)} {ks : List Nat} (L : Live n0 μ l Rs ks) (e : Ext μ ν) : Live n0 ν l Rs ks :=
  ⟨L.len, L.pw, L.lo, L.hi, L.l0, e.at L.at', fun i k R h h2 => e.at (L.row i k R h h2)⟩
theorem Live.le {n0 n1 : Nat} {μ : Mu} {l : Nat} {Rs : List (List P)} {ks : List Nat} (L : Live n0 μ l Rs ks) (h : n1 ≤ n0) : Live n1 μ l Rs ks :=
  ⟨L.len, L.pw, fun k hk => Nat.le_trans h (L.lo k hk), L.hi, Nat.le_trans h L.l0, L.at', L.row⟩
theorem Live.get {n0 : Nat} {μ : Mu} {l : Nat} {Rs : List (List P)} {ks : List Nat} (L : Live n0 μ l Rs ks) {i : Nat} {R : List P} (h : Rs[i]? = some R) : ∃ k, ks[i]? = some k ∧ μ[k]? = some (some (.lst R)) := by
  have hi : i < ks.length := by rw [L.len]; exact (List.getElem?_eq_some_iff.mp h).1
  exact ⟨ks[i], List.getElem?_eq_getElem hi, L.row i _ R (List.getElem?_eq_getElem hi) h⟩
theorem Live.lt {n0 : Nat} {μ : Mu} {l : Nat} {Rs : List (List P)} {ks : List Nat} (L : Live n0 μ l Rs ks) : l < μ.length := (List.getElem?_eq_some_iff.mp L.at').1
theorem pw_ne {ks : List Nat} (h : ks.Pairwise (· < ·)) {i j k : Nat} (h1 : ks[i]? = some k) (h2 : ks[j]? = some k) : i = j := by
  have a := List.getElem?_eq_some_iff.mp h1
  have b := List.getElem?_eq_some_iff.mp h2
  obtain ⟨a1, a2⟩ := a
  obtain ⟨b1, b2⟩ := b
  rw [List.pairwise_iff_getElem] at h
  rcases Nat.lt_trichotomy i j with q | q | q
  · have := h i j a1 b1 q; omega
  · exact q
  · have := h j i b1 a1 q; omega
/-- a row is written -/
theorem Live.set {n0 : Nat} {μ : Mu} {l : Nat} {Rs : List (List P)} {ks : List Nat} (L : Live n0 μ l Rs ks) {i k : Nat} (h : ks[i]? = some k) (R : List P) : Live n0 (μ.set k (some (.lst R))) l (Rs.set i R) ks := by
  have hk := List.mem_of_getElem? h
  have hlt := L.hi k hk
  refine ⟨by rw [List.length_set]; exact L.len, L.pw, L.lo, L.hi, L.l0, by rw [List.getElem?_set_ne (by omega)]; exact L.at', fun j k' R' h1 h2 => ?_⟩
  by_cases q : i = j
  · subst q
    rw [h] at h1; cases h1
    rw [List.getElem?_set_self (by have := (List.getElem?_eq_some_iff.mp h).1; have := L.len; omega)] at h2
    cases h2
    exact List.getElem?_set_self (Nat.lt_trans hlt L.lt)
  · rw [List.getElem?_set_ne q] at h2
    have hne : k ≠ k' := fun z => by subst z; exact q (pw_ne L.pw h h1)
    rw [List.getElem?_set_ne hne]
    exact L.row j k' R' h1 h2
theorem items_live {n0 : Nat} {μ : Mu} {l : Nat} {Rs : List (List P)} {ks : List Nat} (L : Live n0 μ l Rs ks) : items μ (.loc l) = some (false, ks.map .loc, some (l, .dl (ks.map .loc))) := by
  unfold items; dsimp only; rw [L.at']
@[simp] theorem items_plst {μ : Mu} {R : List P} : items μ (.p (.lst R)) = some (false, R.map .p, none) := rfl
section
variable {δ : Sl} {μ ν : Mu} {e : Ev}
@[simp] theorem evFrz_eq : evFrz e δ μ = bindG (e δ μ) fun d μ1 => frzEnd (frzD μ1 d) := rfl
@[simp] theorem frzEnd_some {x : P} : frzEnd (some (x, μ)) = some (.ok (.p x), μ) := rfl
@[simp] theorem frzD_p {x : P} : frzD μ (.p x) = some (x, μ) := rfl
@[simp] theorem evIsiD_eq {t : P → Option Bool} : evIsiD t e δ μ = bindG (e δ μ) fun d μ1 => isiVEnd t μ1 (kindD μ1 d) := rfl
@[simp] theorem evItL_eq : evItL e δ μ = bindG (e δ μ) fun d μ1 => match items μ1 d with
  | some (_, ds, g) => some (.ok (ds.map .one, g), μ1)
  | none => none := rfl
@[simp] theorem evUpI_eq {it : EvG (List P)} : evUpI it δ μ = bindG (it δ μ) fun xs μ1 => some (.ok (xs.map fun x => .one (.p x), none), μ1) := rfl
theorem bodySemK_eq {N : Nat} {a : SEv} {ds : List D} : bodySemK N a ds μ = retK (a (ds.map some ++ List.replicate (N - ds.length) none) μ) := rfl
@[simp] theorem retK_ret {d : D} : retK (some (.ret d, δ, μ)) = some (.ok d, μ) := rfl
@[simp] theorem retK_nx : retK (some (.nx, δ, μ)) = some (.ok (.p .non), μ) := rfl
@[simp] theorem retK_exc {c : Nat} : retK (some (.exc c, δ, μ)) = some (.exc c, μ) := rfl
/-- a comprehension that makes one list that may change -/
theorem lcC_map {A : Type} {it : EvG (List P)} {ts : Tgt} {vs : List Nat} {as : List A} (g f : A → P) (hi : it δ μ = some (.ok (as.map g), ν)) (h : ∀ a ∈ as, ∃ δ1, ts (g a) (wipeS δ vs) = some δ1 ∧ ∀ ξ, e δ1 ξ = some (.ok (.p (f a)), ξ)) (hl : as.length ≤ sizeLine) :
    evLcC it ts evTrue e vs δ μ = some (.ok (.loc ν.length), ν ++ [some (.lst (as.map f))]) := by
  show bindG (it δ μ) (fun xs μ1 => lcEndC μ1.length (lcL ts evTrue e (wipeS δ vs) μ1.length xs (μ1 ++ [some (.lst [])]))) = _
  rw [hi, bindG_ok, lcL_map g f as [] h (by simpa using hl)]
  unfold lcEndC
  dsimp only
  rw [cellL_end rfl, List.nil_append]
  dsimp only
  rw [show ν.length + 1 = (ν ++ [some (MO.lst (as.map f))]).length by simp, List.take_length]
/-- a comprehension that makes a list of places, each a new list -/
theorem lcD_loop {A : Type} {ts : TgtI} {δ0 : Sl} (g : A → It2) (F : A → List P) {n0 : Nat} {gd : Gd} : ∀ (as : List A) (acc : List (List P)) (ks : List Nat) (μ : Mu) (l : Nat), (∀ a ∈ as, ∃ δ1, ts (g a) δ0 = some δ1 ∧ ∀ ξ, Ext ν ξ → e δ1 ξ = some (.ok (.loc ξ.length), ξ ++ [some (.lst (F a))])) → Ext ν μ → okG ν gd → n0 ≤ ν.length → ν.length ≤ l → Live n0 μ l acc ks → acc.length + as.length ≤ sizeLine →
    ∃ μ' l' ks', lcD ts evTrue e gd δ0 l (as.map g) μ = some (l', μ') ∧ Ext ν μ' ∧ Live n0 μ' l' (acc ++ as.map F) ks' ∧ ν.length ≤ l'
  | [], acc, ks, μ, l, h, ex, ok, h0, hl, L, hs => by
    refine ⟨μ, l, ks, ?_, ex, by simpa using L, hl⟩
    simp only [List.map_nil]
    unfold lcD
    exact gIf_pos (ex.ok ok)
  | a :: as, acc, ks, μ, l, h, ex, ok, h0, hl, L, hs => by
    obtain ⟨δ1, h1, h2⟩ := h a List.mem_cons_self
    have h3 := h2 μ ex
    have hL := L.lt
    have exA : Ext μ (μ ++ [some (MO.lst (F a))]) := Ext.app _
    have L2 := L.ext exA
    have ex2 : Ext ν ((μ ++ [some (MO.lst (F a))]).set l none ++ [some (.dl (ks.map .loc ++ [.loc μ.length]))]) := ((ex.trans exA).set hl none).trans (Ext.app _)
    have hlen : ((μ ++ [some (MO.lst (F a))]).set l none).length = μ.length + 1 := by simp
    have L3 : Live n0 ((μ ++ [some (MO.lst (F a))]).set l none ++ [some (.dl (ks.map .loc ++ [.loc μ.length]))]) (μ ++ [some (MO.lst (F a))]).length (acc ++ [F a]) (ks ++ [μ.length]) := by
      have hm : ∀ k ∈ ks, k < μ.length := fun k hk => Nat.lt_trans (L.hi k hk) hL
      refine ⟨by simp [L.len], ?_, fun k hk => ?_, fun k hk => ?_, by simp; have := L.l0; omega, ?_, fun i k R e1 e2 => ?_⟩
      · rw [List.pairwise_append]
        exact ⟨L.pw, by simp, fun x hx y hy => by simp at hy; subst hy; exact hm x hx⟩
      · rcases List.mem_append.mp hk with q | q
        · exact L.lo k q
        · simp at q; have := L.l0; omega
      · rcases List.mem_append.mp hk with q | q
        · have := hm k q; simp; omega
        · simp at q; simp; omega
      · rw [List.getElem?_append_right (by simp)]
        simp
      · by_cases hi : i < ks.length
        · rw [List.getElem?_append_left hi] at e1
          rw [List.getElem?_append_left (by rw [← L.len]; exact hi)] at e2
          have hk := List.mem_of_getElem? e1
          have := L.hi k hk
          have := hm k hk
          rw [List.getElem?_append_left (by rw [hlen]; omega), List.getElem?_set_ne (by omega)]
          exact L2.row i k R e1 e2
        · rw [List.getElem?_append_right (by omega)] at e1
          rw [List.getElem?_append_right (by rw [← L.len]; omega)] at e2
          by_cases h0 : i - ks.length = 0
          · rw [h0] at e1
            rw [show i - acc.length = 0 by rw [← L.len]; exact h0] at e2
            simp at e1 e2
            subst e1; subst e2
            rw [List.getElem?_append_left (by rw [hlen]; omega), List.getElem?_set_ne (by omega)]
            simp
          · rw [List.getElem?_eq_none (by simp; omega)] at e1; cases e1
    obtain ⟨μ', l', ks', r1, r2, r3, r4⟩ := lcD_loop g F as (acc ++ [F a]) (ks ++ [μ.length]) _ _ (fun b hb => h b (List.mem_cons_of_mem _ hb)) ex2 ok h0 (by simp; have := ex.len; omega) L3 (by simp at hs ⊢; omega)
    refine ⟨μ', l', ks', ?_, r2, by simpa using r3, r4⟩
    rw [List.map_cons]
    unfold lcD
    rw [gIf_pos (ex.ok ok), h1]
    dsimp only
    rw [evTrue_eq]
    dsimp only
    rw [h3]
    dsimp only
    rw [L2.at']
    dsimp only
    rw [if_pos (by have := L.len; simp at hs ⊢; omega)]
    exact r1
theorem lcD_map {A : Type} {it : EvI} {ts : TgtI} {vs : List Nat} {as : List A} {gd : Gd} (g : A → It2) (F : A → List P) (hi : it δ μ = some (.ok (as.map g, gd), ν)) (hg : okG ν gd) (h : ∀ a ∈ as, ∃ δ1, ts (g a) (wipeS δ vs) = some δ1 ∧ ∀ ξ, Ext ν ξ → e δ1 ξ = some (.ok (.loc ξ.length), ξ ++ [some (.lst (F a))])) (hl : as.length ≤ sizeLine) :
    ∃ μ' l ks, evLcD it ts evTrue e vs δ μ = some (.ok (.loc l), μ') ∧ Ext ν μ' ∧ Live ν.length μ' l (as.map F) ks := by
  have L0 : Live ν.length (ν ++ [some (MO.dl [])]) ν.length [] [] := ⟨rfl, .nil, fun k hk => by simp at hk, fun k hk => by simp at hk, Nat.le_refl _, by simp, fun i k R h => by simp at h⟩
  obtain ⟨μ', l, ks, r1, r2, r3, r4⟩ := lcD_loop (e := e) (δ0 := wipeS δ vs) g F as [] [] (ν ++ [some (MO.dl [])]) ν.length h (Ext.app _) hg (Nat.le_refl _) (Nat.le_refl _) L0 (by simpa using hl)
  refine ⟨μ', l, ks, ?_, r2, by simpa using r3⟩
  show bindG (it δ μ) (fun xg μ1 => finD (lcD ts evTrue e xg.2 (wipeS δ vs) μ1.length xg.1 (μ1 ++ [some (.dl [])]))) = _
  rw [hi, bindG_ok]
  dsimp only
  rw [r1]
  rfl
@[simp] theorem sForI_eq {it : EvI} {ts : TgtI} {a : SEv} : sForI it ts a δ μ = bindS (it δ μ) δ fun xg μ1 => forI ts a xg.2 xg.1 δ μ1 := rfl
@[simp] theorem tgNI_one {i : Nat} {d : D} : tgNI i (.one d) δ = some (δ.set i (some d)) := rfl
@[simp] theorem tgTI_two {i j : Nat} {d f : D} : tgTI i j (.two d f) δ = some ((δ.set i (some d)).set j (some f)) := rfl
@[simp] theorem tgUp_one {ts : Tgt} {x : P} : tgUp ts (.one (.p x)) δ = ts x δ := rfl
end
end Vs
namespace Vs
open PySem PySem.Spec PyProof.Rows L2
structure Nok (N : Nat) : Prop where
  pos : 0 < N
  lt : N < 2 ^ 3000
def Cz (N m : Nat) (q : Rat) : Prop := ∃ t : Int, q = Rat.divInt t (N : Int) ∧ Sz m t
section
variable {N m k : Nat} {a b : Rat}
theorem Cz.bz (hN : Nok N) (h : Cz N m a) (hm : m ≤ 200000 := by omega) : Bz 3000 a := by
  obtain ⟨t, rfl, ht⟩ := h
  have h0 : (N : Int) ≠ 0 := by have := hN.pos; omega
  exact ⟨by decide, (num_sz ht).mono (by omega), den_sz (show Sz 3000 (N : Int) by unfold Sz; rw [Int.natAbs_natCast]; exact hN.lt) h0⟩
theorem Cz.mono (h : Cz N m a) (e : m ≤ k) : Cz N k a := by
  obtain ⟨t, e1, ht⟩ := h
  exact ⟨t, e1, ht.mono e⟩
theorem Cz.add (hN : Nok N) (ha : Cz N m a) (hb : Cz N m b) : Cz N (m + 1) (a + b) := by
  obtain ⟨t, rfl, ht⟩ := ha
  obtain ⟨u, rfl, hu⟩ := hb
  have h0 : (N : Int) ≠ 0 := by have := hN.pos; omega
  refine ⟨t + u, ?_, by simpa using ht.add hu⟩
  rw [Rat.divInt_add_divInt _ _ h0 h0, ← Int.add_mul]
  exact Rat.divInt_mul_right h0
theorem Cz.neg (hN : Nok N) (ha : Cz N m a) : Cz N m (-a) := by
  obtain ⟨t, rfl, ht⟩ := ha
  exact ⟨-t, by rw [Rat.neg_divInt], ht.neg⟩
theorem cz0 : Cz N m 0 := ⟨0, by rw [Rat.zero_divInt], by unfold Sz; simpa using Nat.two_pow_pos m⟩
end
def opR : Option Rat → P
  | none => .non
  | some q => rat q
def opQ : Option Rat → P
  | none => .non
  | some q => pr q
@[simp] theorem opR_some {q : Rat} : opR (some q) = rat q := rfl
@[simp] theorem opQ_some {q : Rat} : opQ (some q) = pr q := rfl
@[simp] theorem opR_none : opR none = .non := rfl
@[simp] theorem opQ_none : opQ none = .non := rfl
def omin : Option Rat → Option Rat → Option Rat
  | none, b => b
  | a, none => a
  | some x, some y => some (if y < x then y else x)
def osum : Option Rat → Option Rat → Option Rat
  | some x, some y => some (x + y)
  | _, _ => none
def CzO (N m : Nat) (o : Option Rat) : Prop := ∀ q, o = some q → Cz N m q
section
variable {N m k : Nat} {a b : Option Rat} {μ : Mu}
theorem CzO.mono (h : CzO N m a) (e : m ≤ k) : CzO N k a := fun q hq => (h q hq).mono e
theorem czo_some {q : Rat} (h : Cz N m q) : CzO N m (some q) := fun r e => by cases e; exact h
theorem CzO.min (ha : CzO N m a) (hb : CzO N m b) : CzO N m (omin a b) := fun q h => by
  unfold omin at h
  split at h
  · exact hb q h
  · exact ha q h
  · rename_i x y
    cases h
    split
    · exact hb _ rfl
    · exact ha _ rfl
theorem CzO.sum (hN : Nok N) (ha : CzO N m a) (hb : CzO N m b) : CzO N (m + 1) (osum a b) := fun q h => by
  unfold osum at h
  split at h
  · cases h
    exact (ha _ rfl).add hN (hb _ rfl)
  · cases h
@[simp] theorem isNon_rat {q : Rat} : isNon (.p (rat q)) = false := rfl
@[simp] theorem isNon_pr {q : Rat} : isNon (.p (pr q)) = false := rfl
end
abbrev Tf := Nat → Nat → Option Rat
def rwL (n : Nat) (F : Nat → P) : List P := (List.range n).map F
def rwP (n : Nat) (f : Tf) (i : Nat) : List P := rwL n fun j => opR (f i j)
def tbR (n : Nat) (f : Tf) : List (List P) := (List.range n).map (rwP n f)
theorem rwL_get {n i : Nat} {F : Nat → P} (h : i < n) : (rwL n F)[i]? = some (F i) := by
  unfold rwL; rw [List.getElem?_map, List.getElem?_range h]; rfl
theorem rwL_len {n : Nat} {F : Nat → P} : (rwL n F).length = n := by simp [rwL]
theorem rwP_get {n i j : Nat} {f : Tf} (h : j < n) : (rwP n f i)[j]? = some (opR (f i j)) := rwL_get h
theorem rwP_len {n i : Nat} {f : Tf} : (rwP n f i).length = n := rwL_len
theorem tbR_get {n i : Nat} {f : Tf} (h : i < n) : (tbR n f)[i]? = some (rwP n f i) := by
  unfold tbR; rw [List.getElem?_map, List.getElem?_range h]; rfl
theorem tbR_len {n : Nat} {f : Tf} : (tbR n f).length = n := by simp [tbR]
def CzT (N m n : Nat) (f : Tf) : Prop := ∀ i j, i < n → j < n → CzO N m (f i j)
theorem CzT.mono {N m k n : Nat} {f : Tf} (h : CzT N m n f) (e : m ≤ k) : CzT N k n f := fun i j hi hj => (h i j hi hj).mono e
/-- each way may also go to i, on to j for c, and on from there -/
def bw (f : Tf) (i j : Nat) (c : Option Rat) : Tf := fun a b => omin (f a b) (osum (f a i) (osum c (f j b)))
end Vs
namespace Vs
open PySem PySem.Spec PyProof.Rows L2
def f0 (f : Tf) : Tf := fun i j => if i = j then omin (f i i) (some 0) else f i j
def ng (o : Option Rat) : Bool := match o with
  | some q => decide (q < 0)
  | none => false
def neg (n : Nat) (g : Tf) : Bool := (List.range n).any fun i => ng (g i i)
def fwL (n : Nat) : Nat → Nat → Tf → Option Tf
  | 0, _, g => some g
  | m + 1, a, g => if neg n (bw g a a (some 0)) = true then none else fwL n m (a + 1) (bw g a a (some 0))
def fw (n : Nat) (f : Tf) : Option Tf := fwL n n 0 (f0 f)
section
variable {μ : Mu} {N m n : Nat} {f : Tf}
theorem CzT.f0 (h : CzT N m n f) : CzT N m n (f0 f) := fun i j hi hj => by
  unfold Vs.f0
  split
  · exact (h i i hi hi).min (czo_some cz0)
  · exact h i j hi hj
theorem ixN_nat {k j : Nat} (h : j < k) : ixN k (j : Int) = some j := by
  unfold ixN
  rw [if_pos (by omega)]
  simp [h]
end
end Vs
namespace Vs
open PySem PySem.Spec PyProof.Rows L2
def rwQ (n : Nat) (h : Nat → Option Rat) : List P := rwL n fun j => opQ (h j)
def tbQ (n : Nat) (f : Tf) : List (List P) := (List.range n).map fun i => rwQ n (f i)
def tqP (n : Nat) (f : Tf) : P := .lst ((tbQ n f).map .lst)
theorem tbQ_get {n i : Nat} {f : Tf} (h : i < n) : (tbQ n f)[i]? = some (rwQ n (f i)) := by
  unfold tbQ; rw [List.getElem?_map, List.getElem?_range h]; rfl
section
variable {μ ν : Mu} {N m n : Nat} {f : Tf} {a b : Option Rat}
/-- a value that shows the table -/
def FAt (μ : Mu) (n : Nat) (d : D) (f : Tf) : Prop := view μ d = some (tqP n f)
theorem FAt.ext {d : D} (h : FAt μ n d f) (e : Ext μ ν) : FAt ν n d f := by
  cases d with
  | p x => exact h
  | loc l =>
    obtain ⟨xs, e1, e2⟩ := view_loc h
    exact (view_l (e.at e2)).trans (by rw [← e1])
theorem FAt.row {d : D} (h : FAt μ n d f) {i : Nat} (hi : i < n) : fIx d (.p (.int (i : Int))) μ = some (.p (.lst (rwQ n (f i))), μ) := by
  rw [fIx_lst h, atI_nat (j := i) (by rw [List.getElem?_map, tbQ_get hi]; rfl)]
  rfl
@[simp] theorem isNon_opQ {o : Option Rat} : isNon (.p (opQ o)) = !o.isSome := by cases o <;> rfl
end
end Vs
namespace Vs
open PySem PySem.Spec PyProof.Rows L2
section
variable {μ ν : Mu} {N m n : Nat} {f fd fs : Tf} {δ : Sl}
/-- a comprehension with a test -/
theorem lcL_filt {A : Type} {ts : Tgt} {t : EvT} {e : Ev} {δ0 : Sl} (g f : A → P) (tst : A → Bool) : ∀ (as : List A) (acc : List P), (∀ a ∈ as, ∃ δ1, ts (g a) δ0 = some δ1 ∧ ∀ ξ, Ext ν ξ → t δ1 ξ = some (.ok (tst a), ξ) ∧ e δ1 ξ = some (.ok (.p (f a)), ξ)) → acc.length + as.length ≤ sizeLine →
    lcL ts t e δ0 ν.length (as.map g) (ν ++ [some (.lst acc)]) = some (ν ++ [some (.lst (acc ++ (as.filter tst).map f))])
  | [], acc, h, hl => by simp [lcL]
  | a :: as, acc, h, hl => by
    obtain ⟨δ1, h1, h2⟩ := h a List.mem_cons_self
    obtain ⟨h3, h4⟩ := h2 (ν ++ [some (.lst acc)]) (Ext.app _)
    have hl' : acc.length < sizeLine := by simp at hl; omega
    rw [List.map_cons]
    unfold lcL
    rw [h1]
    dsimp only
    rw [h3]
    cases q : tst a with
    | false =>
      dsimp only
      rw [lcL_filt g f tst as acc (fun y hy => h y (List.mem_cons_of_mem _ hy)) (by simp at hl ⊢; omega)]
      simp [q]
    | true =>
      dsimp only
      rw [h4]
      dsimp only
      rw [toP_p]
      dsimp only
      rw [cellL_end rfl]
      dsimp only
      rw [if_pos hl', set_end rfl, lcL_filt g f tst as (acc ++ [f a]) (fun y hy => h y (List.mem_cons_of_mem _ hy)) (by simp at hl ⊢; omega)]
      simp [q]
theorem lc_filt {A : Type} {it : EvG (List P)} {ts : Tgt} {t : EvT} {e : Ev} {vs : List Nat} {as : List A} (g f : A → P) (tst : A → Bool) (hi : it δ μ = some (.ok (as.map g), ν)) (h : ∀ a ∈ as, ∃ δ1, ts (g a) (wipeS δ vs) = some δ1 ∧ ∀ ξ, Ext ν ξ → t δ1 ξ = some (.ok (tst a), ξ) ∧ e δ1 ξ = some (.ok (.p (f a)), ξ)) (hl : as.length ≤ sizeLine) :
    evLc it ts t e vs δ μ = some (.ok (.p (.lst ((as.filter tst).map f))), ν) := by
  rw [evLc_eq, hi, bindG_ok, lcL_filt g f tst as [] h (by simpa using hl)]
  unfold lcEnd
  dsimp only
  rw [cellL_end rfl]
  dsimp only
  rw [List.take_left, List.nil_append]
def oT (n : Nat) : Option Tf → P
  | none => .non
  | some g => tqP n g
end
end Vs
namespace Vs
open PySem PySem.Spec PyProof.Rows L2
def RowAt (μ : Mu) (d : D) (R : List P) : Prop := d = .p (.lst R) ∨ ∃ k, d = .loc k ∧ μ[k]? = some (some (.lst R))
def TabAt (μ : Mu) (d : D) (Rs : List (List P)) : Prop := d = .p (.lst (Rs.map .lst)) ∨ (∃ k, d = .loc k ∧ μ[k]? = some (some (.lst (Rs.map .lst)))) ∨ ∃ n0 l ks, d = .loc l ∧ Live n0 μ l Rs ks
section
variable {μ ν : Mu} {d : D} {R : List P} {Rs : List (List P)}
theorem RowAt.ext (h : RowAt μ d R) (e : Ext μ ν) : RowAt ν d R := h.elim .inl fun ⟨k, h1, h2⟩ => .inr ⟨k, h1, e.at h2⟩
theorem TabAt.ext (h : TabAt μ d Rs) (e : Ext μ ν) : TabAt ν d Rs := h.elim .inl fun h => .inr (h.elim (fun ⟨k, h1, h2⟩ => .inl ⟨k, h1, e.at h2⟩) fun ⟨n0, l, ks, h1, h2⟩ => .inr ⟨n0, l, ks, h1, h2.ext e⟩)
@[simp] theorem isNon_opR {o : Option Rat} : isNon (.p (opR o)) = !o.isSome := by cases o <;> rfl
end
end Vs
namespace Vs
inductive Wk (n : Nat) (f : Tf) : Nat → Nat → Nat → Rat → Prop
  | nil {i : Nat} : i < n → Wk n f 0 i i 0
  | cons {m i k j : Nat} {x w : Rat} : i < n → f i k = some x → Wk n f m k j w → Wk n f (m + 1) i j (x + w)
/-- a is at most w -/
def ole (a : Option Rat) (w : Rat) : Prop := ∃ x, a = some x ∧ x ≤ w
section
variable {n : Nat} {f g h : Tf}
theorem ole.le {a : Option Rat} {v w : Rat} (h : ole a v) (e : v ≤ w) : ole a w := let ⟨x, h1, h2⟩ := h; ⟨x, h1, by grind⟩
theorem ole_omin_l {a b : Option Rat} {w : Rat} (h : ole a w) : ole (omin a b) w := by
  obtain ⟨x, rfl, h⟩ := h
  cases b with
  | none => exact ⟨x, rfl, h⟩
  | some y =>
    refine ⟨_, rfl, ?_⟩
    split <;> grind
theorem ole_omin_r {a b : Option Rat} {w : Rat} (h : ole b w) : ole (omin a b) w := by
  obtain ⟨x, rfl, h⟩ := h
  cases a with
  | none => exact ⟨x, rfl, h⟩
  | some y =>
    refine ⟨_, rfl, ?_⟩
    split <;> grind
theorem Wk.lt {m i j : Nat} {w : Rat} (h : Wk n f m i j w) : i < n := by cases h <;> assumption
theorem Wk.lt2 {m i j : Nat} {w : Rat} (h : Wk n f m i j w) : j < n := by
  induction h with
  | nil h => exact h
  | cons _ _ _ ih => exact ih
theorem Wk.app {m m' i k j : Nat} {w w' : Rat} (h : Wk n f m i k w) (h2 : Wk n f m' k j w') : Wk n f (m + m') i j (w + w') := by
  induction h with
  | nil h => rw [Nat.zero_add, Rat.zero_add]; exact h2
  | cons h1 h3 h4 ih =>
    rename_i m i k' j x w
    have := Wk.cons h1 h3 (ih h2)
    rw [show m + 1 + m' = m + m' + 1 by omega, Rat.add_assoc]
    exact this
theorem Wk.one {i j : Nat} {x : Rat} (hi : i < n) (hj : j < n) (h : f i j = some x) : Wk n f 1 i j x := by
  have := Wk.cons hi h (Wk.nil hj)
  rwa [Rat.add_zero] at this
/-- each entry is the sum of a way -/
def Snd (n : Nat) (f g : Tf) : Prop := ∀ i j x, i < n → j < n → g i j = some x → ∃ m, Wk n f m i j x
/-- no entry is greater than the sum by way of a k before K -/
def Tri (n K : Nat) (g : Tf) : Prop := ∀ i j k x y, i < n → j < n → k < K → g i k = some x → g k j = some y → ole (g i j) (x + y)
def LeT (n : Nat) (f g : Tf) : Prop := ∀ i j x, i < n → j < n → f i j = some x → ole (g i j) x
theorem LeT.trans (h1 : LeT n f g) (h2 : LeT n g h) : LeT n f h := fun i j x hi hj e => by
  obtain ⟨y, e1, l1⟩ := h1 i j x hi hj e
  exact (h2 i j y hi hj e1).le l1
structure Cl (n : Nat) (f g : Tf) : Prop where
  snd : Snd n f g
  low : ∀ m i j w, Wk n f m i j w → ole (g i j) w
theorem f0_le : LeT n f (f0 f) := fun i j x hi hj h => by
  unfold f0
  split
  · rename_i q; subst q; exact ole_omin_l ⟨x, h, by grind⟩
  · exact ⟨x, h, by grind⟩
theorem f0_diag {i : Nat} : ole (f0 f i i) 0 := by
  unfold f0
  rw [if_pos rfl]
  exact ole_omin_r ⟨0, rfl, by grind⟩
/-- what the program's closing gives -/
structure FinT (n : Nat) (f g : Tf) : Prop where
  snd : Snd n f g
  tri : Tri n n g
  le : LeT n (f0 f) g
  nn : ∀ i, i < n → ∃ q, g i i = some q ∧ 0 ≤ q
theorem FinT.cl (F : FinT n f g) : Cl n f g := ⟨F.snd, fun m i j w h => by
  induction h with
  | nil h =>
    obtain ⟨x, e, l⟩ := f0_diag (f := f)
    exact (F.le _ _ x h h e).le l
  | cons h1 h2 h3 ih =>
    obtain ⟨x, e, l⟩ := f0_le _ _ _ h1 h3.lt h2
    obtain ⟨y, e1, l1⟩ := F.le _ _ x h1 h3.lt e
    obtain ⟨z, e2, l2⟩ := ih
    exact (F.tri _ _ _ y z h1 h3.lt2 h3.lt e1 e2).le (by grind)⟩
end
end Vs
namespace Vs
open PySem PySem.Spec PyProof.Rows L2
/-- plain data that is equal to itself -/
def Pln (k : Nat) (x : P) : Prop := ∃ d, toPD x = some d ∧ PyData.canLay0 d = true ∧ d.depth ≤ k ∧ PyData.eqv d d = true
theorem Pln.mono {k m : Nat} {x : P} (h : Pln k x) (e : k ≤ m) : Pln m x := let ⟨d, a, b, c, f⟩ := h; ⟨d, a, b, Nat.le_trans c e, f⟩
theorem draw0 {s : SS} (many : Int) (hs : s.Ok) (hm : 0 < many := by decide) (hz : many.natAbs.log2 < 9000 := by decide) :
    ∃ v s', SS.Ok s' ∧ 0 ≤ v ∧ v < many ∧ ∀ r : Mu, m__law_draw [.loc 0, .p (.int many)] (st s :: r) = some (.ok (.p (.int v)), st s' :: r) := by
  obtain ⟨v, s', o, l, u, e⟩ := draw_ex many hs hm hz
  exact ⟨v, s', o, l, u, fun r => e (μ := none :: r) (l := 0) (by simp)⟩
theorem draw0n {s : SS} {n : Nat} (hs : s.Ok) (hn : 0 < n) (h2 : n < 1000) :
    ∃ v : Nat, ∃ s', SS.Ok s' ∧ v < n ∧ ∀ r : Mu, m__law_draw [.loc 0, .p (.int (n : Int))] (st s :: r) = some (.ok (.p (.int (v : Int))), st s' :: r) := by
  obtain ⟨v, s', o, l, u, e⟩ := draw0 (n : Int) hs (by omega) (Nat.lt_of_lt_of_le (PySem.Flt.log2_lt_of (k := 10) (by decide) (by omega)) (by decide))
  exact ⟨v.toNat, s', o, by omega, fun r => by rw [e r, show ((v.toNat : Nat) : Int) = v by omega]⟩
end Vs
namespace Vs
open PySem PySem.Spec PyProof.Rows L2
variable {α : Amb} {W : WX} {X : Cx}
theorem Sq.here {G : Hp} {ρ : List Addr} {σ : L2.St} {δ : Sl} (s : Sq α G ρ σ δ) {v : V} {d : D} {i : Nat} (h : σ[i]? = some (some v)) (r : RepD α G ρ v d) : Sq α G ρ σ (δ.set i (some d)) := by
  refine ⟨by rw [List.length_set]; exact s.len, fun j x e => ?_⟩
  by_cases q : i = j
  · subst q
    have hl : i < δ.length := by
      have := (List.getElem?_eq_some_iff.mp e).1
      rw [List.length_set] at this
      exact this
    rw [List.getElem?_set_self hl] at e
    cases e
    exact ⟨v, h, r⟩
  · rw [List.getElem?_set_ne q] at e
    exact s.get j x e
end Vs
namespace Vs
open PySem PySem.Spec PyProof.Rows L2
section
variable {α : Amb} {W : WX} {X : Cx}
/-- a list, as a test -/
def evTruL (a : Ev) : EvT := fun δ μ => bindG (a δ μ) fun x μ1 => match lstOf μ1 x with
  | some xs => some (.ok (!xs.isEmpty), μ1)
  | none => none
theorem v_truL {e : Expr} {ea : Ev} (hK : X.K = α.K) (h : PE X e (tV α W ea)) (he : ∀ whole, isTrue e X.env whole = (do let v ← whole; standAt e.pos; holding [v] (truthy v)) := by intro _; rfl) : PT X e (tVt α W (evTruL ea)) :=
  PT.imp (pt_truth h he) fun σ H Q ⟨G, ρ, δ, μ, z, s, p⟩ => ⟨G, ρ, δ, μ, z, s, Post.bind p fun x μ1 v H1 G1 ρ1 u z1 r1 p1 => by
    split at p1
    · rename_i xs hx
      obtain ⟨a, vs, rfl, h1, h2⟩ := lst_of z1 r1 hx
      exact ⟨!xs.isEmpty, .inl ⟨vs, by rw [hK]; exact h1, by rw [reps_empty h2]⟩, p1 _ H1 G1 ρ1 Up.refl z1 rfl⟩
    · exact p1.elim⟩
/-- xs[::-1] -/
def evRevL (a : Ev) : Ev := fun δ μ => bindG (a δ μ) fun x μ1 => match lstOf μ1 x with
  | some xs => some (.ok (.p (.lst xs.reverse)), μ1)
  | none => none
theorem Reps.reverse {G : Hp} : ∀ {vs : List V} {xs : List P}, Reps α G vs xs → Reps α G vs.reverse xs.reverse
  | _, _, .nil => .nil
  | _, _, .cons h t => by
    rw [List.reverse_cons, List.reverse_cons]
    exact Reps.append (Reps.reverse t) (.cons h .nil)
end
section
variable {δ : Sl} {μ : Mu} {e : Ev}
def truLEnd (μ : Mu) : Option (List P) → Option (Out Bool × Mu)
  | some xs => some (.ok (!xs.isEmpty), μ)
  | none => none
@[simp] theorem evTruL_eq : evTruL e δ μ = bindG (e δ μ) fun x μ1 => truLEnd μ1 (lstOf μ1 x) := rfl
@[simp] theorem truLEnd_some {xs : List P} : truLEnd μ (some xs) = some (.ok (!xs.isEmpty), μ) := rfl
def revLEnd (μ : Mu) : Option (List P) → Option (Out D × Mu)
  | some xs => some (.ok (.p (.lst xs.reverse)), μ)
  | none => none
@[simp] theorem evRevL_eq : evRevL e δ μ = bindG (e δ μ) fun x μ1 => revLEnd μ1 (lstOf μ1 x) := rfl
@[simp] theorem revLEnd_some {xs : List P} : revLEnd μ (some xs) = some (.ok (.p (.lst xs.reverse)), μ) := rfl
end
end Vs
namespace Vs
open PySem PySem.Spec PyProof.Rows L2
section
variable {α : Amb} {W : WX} {X : Cx}
/-- a tuple, as a test -/
def evTruT (a : Ev) : EvT := fun δ μ => bindG (a δ μ) fun x μ1 => match x with
  | .p (.tup xs) => some (.ok (!xs.isEmpty), μ1)
  | _ => none
end
section
variable {δ : Sl} {μ : Mu} {e : Ev}
def truTEnd (μ : Mu) : D → Option (Out Bool × Mu)
  | .p (.tup xs) => some (.ok (!xs.isEmpty), μ)
  | _ => none
@[simp] theorem evTruT_eq : evTruT e δ μ = bindG (e δ μ) fun x μ1 => truTEnd μ1 x := rfl
@[simp] theorem truTEnd_tup {xs : List P} : truTEnd μ (.p (.tup xs)) = some (.ok (!xs.isEmpty), μ) := rfl
end
end Vs
set_option maxHeartbeats 1000000
set_option maxHeartbeats 1000000
set_option maxHeartbeats 1000000
namespace Vs
open PySem PySem.Spec PyProof.Rows L2
open AutoSeq1 (wpAny_loadPart')
local macro_rules | `((coNx)) => return Lean.mkIdent (Lean.mkPrivateNameCore `PySem.Builtin.Itertools.W3Part1 `PySem.Builtin.nextCombination)
end Vs
set_option maxHeartbeats 1000000
namespace Vs
open PySem PySem.Spec PyProof.Rows L2
open AutoSeq1 (wpAny_loadPart')
local macro_rules | `((coNx)) => return Lean.mkIdent (Lean.mkPrivateNameCore `PySem.Builtin.Itertools.W3Part1 `PySem.Builtin.nextCombination)
end Vs
set_option maxHeartbeats 1000000
namespace Vs
open PySem PySem.Spec PyProof.Rows L2
local macro_rules | `((coNx)) => return Lean.mkIdent (Lean.mkPrivateNameCore `PySem.Builtin.Itertools.W3Part1 `PySem.Builtin.nextCombination)
end Vs
set_option maxHeartbeats 1000000
set_option maxHeartbeats 1000000
set_option maxHeartbeats 1000000
namespace Vs
open PySem PySem.Spec PyProof.Rows L2
open PySem.SeqAt MeetsSeq MeetsSeq2 MeetsSeq3 SeqRoads2
open AutoSeq1 (wpAny_loadPart')
section
variable {prog : Program} {w : World} {A : Around} {R : Result → Shared → Prop}
/-- at each turn the two lists are read anew; e tells which items are equal -/
def NeI (prog : Program) (w : World) (A : Around) (E : Value → Shared → Prop) (l b : Addr) (N : Nat) (e : Nat → Bool) (I : Shared → Prop) : Prop :=
  ∀ s, I s → ∃ (xs ys : Array Value) (m n : Nat), s.heap.get? l = some { cls := .type "list", data := .seq xs m } ∧ s.heap.get? b = some { cls := .type "list", data := .seq ys n } ∧ xs.size = N ∧ ys.size = N ∧
    ∀ i (h1 : i < xs.size) (h2 : i < ys.size), wpAny (model prog w) A.in1 (eqBool xs[i] ys[i]) (fun r s' => r = e i ∧ I s') E s
theorem ne_loop (l b : Addr) (N : Nat) (e : Nat → Bool) (I : Shared → Prop) (hl : NeI prog w A (fun x s' => R (.error x) s') l b N e I)
    (finF : (∀ j, j < N → e j = true) → ∀ s, I s → R (.ok (.ret (.bool false))) s) (finT : (∃ j, j < N ∧ e j = false) → ∀ s, I s → R (.ok (.ret (.bool true))) s) (k : Nat) :
    ∀ i : Nat, N - i = k → i ≤ N → (∀ j, j < i → e j = true) → ∀ s, I s →
      wpAny (model prog w) A.in1 (Builtin.«list.__eq__.loop» ⟨[.ref l, .ref b, rawInt i, rawInt 3], []⟩) (GQ.FinOf prog w A R) (fun x s' => R (.error x) s') s := by
  induction k with
  | zero =>
    intro i hk hi hp s h
    obtain ⟨xs, ys, m, n, hl1, hb1, hs1, hs2, _⟩ := hl _ h
    have iN : i = N := by omega
    have hR := finF (fun j hj => hp j (by omega)) s h
    obtain ⟨hp', g, d, tk, os⟩ := s
    wp_walk using wpAny_loadPart' hl1, wpAny_loadPart' hb1
    have hi1 : xs[((i : Nat) : Int).toNat]? = none := by simp; omega
    have hi2 : ys[((i : Nat) : Int).toNat]? = none := by simp; omega
    rw [hi1, hi2]
    wp_walk using wpAny_loadPart' hl1, wpAny_loadPart' hb1
    show R (.ok (.ret (.bool (xs.size != ys.size)))) _
    rw [hs1, hs2]
    simpa using hR
  | succ k ih =>
    intro i hk hi hp s h
    obtain ⟨xs, ys, m, n, hl1, hb1, hs1, hs2, turn⟩ := hl _ h
    have hlt : i < xs.size := by omega
    have hlt2 : i < ys.size := by omega
    have ht := turn i hlt hlt2
    obtain ⟨hp', g, d, tk, os⟩ := s
    wp_walk using wpAny_loadPart' hl1, wpAny_loadPart' hb1
    have hi1 : xs[((i : Nat) : Int).toNat]? = some xs[i] := by simp [hlt]
    have hi2 : ys[((i : Nat) : Int).toNat]? = some ys[i] := by simp [hlt2]
    have hc : ((i : Int) + 1) = ((i + 1 : Nat) : Int) := by omega
    rw [hi1, hi2]
    refine wpAny_bind ?_
    refine wpAny_mono ht (fun r s2 h2 => ?_) fun _ _ x => x
    obtain ⟨hr, h2⟩ := h2
    cases q : e i with
    | true =>
      rw [q] at hr
      subst hr
      have hrec := ih (i + 1) (by omega) (by omega) (fun j hj => by
        by_cases z : j = i
        · subst z; exact q
        · exact hp j (by omega)) s2 h2
      obtain ⟨hp2, g2, d2, tk2, os2⟩ := s2
      wp_walk
      rw [hc]
      refine ⟨plainId_quiet plain_eq_loop _, codeAny_builtin entry_eq_loop ?_⟩
      rw [Around.under_plainId plain_eq_loop _]
      exact hrec
    | false =>
      rw [q] at hr
      subst hr
      have hR := finT ⟨i, by omega, q⟩ s2 h2
      obtain ⟨xs2, ys2, m2, n2, hl2, hb2, hs3, hs4, _⟩ := hl _ h2
      obtain ⟨hp2, g2, d2, tk2, os2⟩ := s2
      wp_walk using wpAny_loadPart' hl2, wpAny_loadPart' hb2
      have hi3 : xs2[((i : Nat) : Int).toNat]? = some (xs2[i]'(by omega)) := by
        rw [Int.toNat_natCast]; exact Array.getElem?_eq_getElem _
      have hi4 : ys2[((i : Nat) : Int).toNat]? = some (ys2[i]'(by omega)) := by
        rw [Int.toNat_natCast]; exact Array.getElem?_eq_getElem _
      rw [hi3, hi4]
      wp_walk
      exact hR
theorem ne_list (l b : Addr) (N : Nat) (e : Nat → Bool) (I : Shared → Prop) (hl : NeI prog w A (fun x s' => R (.error x) s') l b N e I)
    (finF : (∀ j, j < N → e j = true) → ∀ s, I s → R (.ok (.ret (.bool false))) s) (finT : (∃ j, j < N ∧ e j = false) → ∀ s, I s → R (.ok (.ret (.bool true))) s) {s : Shared} (h : I s) :
    wpAny (model prog w) A.in1 (Builtin.«list.__ne__» ⟨[.ref l, .ref b], []⟩) (GQ.FinOf prog w A R) (fun x s' => R (.error x) s') s := by
  obtain ⟨xs, ys, m, n, hl1, hb1, hs1, hs2, _⟩ := hl _ h
  have hrec := ne_loop (A := A) (R := R) l b N e I hl finF finT _ 0 rfl (Nat.zero_le _) (fun j hj => by omega) s h
  obtain ⟨hp', g, d, tk, os⟩ := s
  have f3 := AutoSeq1.sub_list_list
  have hne : ¬ (xs.size != ys.size) = true := by simp [hs1, hs2]
  wp_walk using wpAny_loadPart' hl1, wpAny_loadPart' hb1
  refine ⟨plainId_quiet plain_eq_loop _, codeAny_builtin entry_eq_loop ?_⟩
  rw [Around.under_plainId plain_eq_loop _]
  exact hrec
end
section
variable {prog : Program} {w : World} {A : Around} {E : Value → Shared → Prop} {s : Shared}
theorem rc_ne {l b : Addr} {N : Nat} {e : Nat → Bool} {Q : Value → Shared → Prop} (hu : A.units < cLine) (I : Shared → Prop) (hl : NeI prog w A E l b N e I)
    (finF : (∀ j, j < N → e j = true) → ∀ s, I s → Q (.bool false) s) (finT : (∃ j, j < N ∧ e j = false) → ∀ s, I s → Q (.bool true) s) (h : I s) : wpAny (model prog w) A (richCompare .NotEq (.ref l) (.ref b)) Q E s := by
  obtain ⟨xs, ys, m, n, hl1, hb1, _, _, _⟩ := hl _ h
  refine wpAny_richCompare_same_room (op := .NotEq) ⟨_, hl1, rfl⟩ ⟨_, hb1, rfl⟩ F.slot_list_ne (GQ.call_here F.slot_list_ne ⟨_, hl1, rfl⟩ F.entry_list_ne (F.args_list_ne_2 _ _) ?_) hu
  exact ne_list (R := wants (fun v s' => v ≠ .notImplemented ∧ Q v s') E) l b N e I hl (fun a s' q => ⟨(fun x => nomatch x), finF a s' q⟩) (fun a s' q => ⟨(fun x => nomatch x), finT a s' q⟩) h
end
end Vs
set_option maxHeartbeats 1000000
namespace Vs
open PySem PySem.Spec PyProof.Rows L2
/-- what an own == promises that may also say False -/
def spEqB (R : Addr → Addr → Hp → Bool → Prop) : Sp := fun vs H Q _ => ∃ a b r, vs = [.ref a, .ref b] ∧ R a b H r ∧ ∀ H', L2.Ext H H' → Q (.bl r) H'
section
variable {X : Cx} {n : Nat}
theorem rcB_ins {CX : CXT} {C f : Addr} {fd : FuncData} {ps : List Str} {R : Addr → Addr → Hp → Bool → Prop} {E : XK} (F : FnOk X.prog X.w X.K X.mg X.base CX n f fd ps (spEqB R))
    (hs : PySem.W.findIn X.K (.ref C) "__eq__" = some (some (.ref f))) (hf : PySem.W.isFn X.K (.ref f) = true) (hb : Binds X.K fd ps []) (hx : Passes CX X E)
    {A : Around} {pins : List (Addr × Obj)} {s : Shared} {σ : L2.St} {H : Hp} {a b dx dy : Addr} {fs gs : List (Str × V)} {r : Bool} (sb : Sub X n A) (I : Inv X pins σ H s) (ha : H a = some (.ins C dx fs)) (hb' : H b = some (.ins C dy gs)) (hr : R a b H r) :
    wpAny (model X.prog X.w) A (richCompare .Eq (.ref a) (.ref b)) (fun v s' => v = .bool r ∧ ∃ H', Inv X pins σ H' s' ∧ L2.Ext H H') X.xe s := by
  obtain ⟨mA, J, _⟩ := ins_get I.hok ha
  obtain ⟨mB, K2, _⟩ := ins_get I.hok hb'
  obtain ⟨od, J, _⟩ := J.look
  obtain ⟨od2, K2, _⟩ := K2.look
  obtain ⟨m, hF⟩ := I.fr
  refine PySem.W.cmp_K (op := .Eq) (tb := .ref C) sb.room.units0 hF I.ok.mod.kin J K2.type (by simp [PySem.W.notFirst]) hs hf ?_
  have hsp : spEqB R [.ref a, .ref b] H (fun v H' => v = .bl r ∧ L2.Ext H H') E := ⟨a, b, r, rfl, hr, fun H' e => ⟨rfl, e⟩⟩
  have e0 : Env0 X.prog X.w X.K X.mg X.base A X.stack s H := by
    have ev := I.env0
    refine ⟨?_, ev.mod, ev.bs, ev.bsz, ev.funs, ev.frf, ev.hok, ev.bare⟩
    rw [sb.fr]; exact ev.frames
  have vs2 : Vals [V.ref a, V.ref b] [Value.ref a, Value.ref b] := .cons rfl (.cons rfl .nil)
  have bd : _ := hb s [.ref a, .ref b] I.kIn (by simpa using F.len _ _ _ _ hsp)
  refine wpAny_call ?_
  refine codeAny_mono (F.run A X.stack s H ⟨[.ref a, .ref b], []⟩ [.ref a, .ref b] [.ref a, .ref b] _ E sb.room e0 (by simpa using bd) vs2 hsp) fun u s' hq => ?_
  cases u with
  | error e => exact hx pins σ H s e s' I hq
  | ok fl =>
    cases fl with
    | ret w =>
      obtain ⟨z, H', I', rz, ez, ex⟩ := I.after hq
      subst ez
      cases rz
      exact ⟨rfl, H', I', ex⟩
    | next => exact hq.elim
    | brk => exact hq.elim
    | cont => exact hq.elim
theorem eqB_ins {CX : CXT} {C f : Addr} {fd : FuncData} {ps : List Str} {R : Addr → Addr → Hp → Bool → Prop} {E : XK} (F : FnOk X.prog X.w X.K X.mg X.base CX n f fd ps (spEqB R))
    (hs : PySem.W.findIn X.K (.ref C) "__eq__" = some (some (.ref f))) (hf : PySem.W.isFn X.K (.ref f) = true) (hb : Binds X.K fd ps []) (hx : Passes CX X E) (hsame : ∀ a H r, R a a H r → r = true)
    {A : Around} {pins : List (Addr × Obj)} {s : Shared} {σ : L2.St} {H : Hp} {a b dx dy : Addr} {fs gs : List (Str × V)} {r : Bool} (sb : Sub X n A) (I : Inv X pins σ H s) (ha : H a = some (.ins C dx fs)) (hb' : H b = some (.ins C dy gs)) (hr : R a b H r) :
    wpAny (model X.prog X.w) A (eqBool (.ref a) (.ref b)) (fun v s' => v = r ∧ ∃ H', Inv X pins σ H' s' ∧ L2.Ext H H') X.xe s := by
  by_cases q : a = b
  · subst q
    have e := hsame a H r hr
    subst e
    exact PySem.SeqAt.EqAt.same (A := A) (s := s) (.ref a) X.prog X.w X.xe _ ⟨rfl, H, I, L2.Ext.rfl'⟩
  · refine GQ.eqBool_refG q (wpAny_mono (rcB_ins F hs hf hb hx sb I ha hb' hr) (fun v s' z => ?_) fun _ _ x => x)
    exact ⟨r, z.1, rfl, z.2⟩
end
section
variable {X : Cx} {α : Amb} {W : WX}
def RatB (α : Amb) (c : Nat) (a b : Addr) (H : Hp) (r : Bool) : Prop := ∃ (i j k l : Int) (dx dy : Addr), H a = some (.ins (α.cl c) dx ((α.fl c).zip [.int i, .int j])) ∧ H b = some (.ins (α.cl c) dy ((α.fl c).zip [.int k, .int l])) ∧ r = decide (i = k ∧ j = l)
open Classical in
noncomputable def fNeLst (c : Nat) : F2 := fun x y μ => match x, y with
  | .p (.lst xs), .p (.lst ys) => if ratsP c xs = true ∧ ratsP c ys = true ∧ xs.length = ys.length then some (.p (.bl (decide (xs ≠ ys))), μ) else none
  | _, _ => none
theorem ratsP_at {c : Nat} : ∀ {xs : List P} {i : Nat} {x : P}, ratsP c xs = true → xs[i]? = some x → ∃ a b : Int, x = .obj c [.int a, .int b]
  | [], i, x, _, h => by simp at h
  | x :: xs, i, y, h, e => by
    unfold ratsP at h
    split at h
    · rename_i q; cases q
    · rename_i c' a b ys q
      cases q
      rw [Bool.and_eq_true, beq_iff_eq] at h
      cases i with
      | zero => simp at e; subst e; exact ⟨a, b, by rw [h.1]⟩
      | succ i => exact ratsP_at h.2 (by simpa using e)
    · cases h
end
end Vs
set_option maxHeartbeats 1000000
namespace Vs
open PySem PySem.Spec PyProof.Rows L2
section
variable {X : Cx} {α : Amb} {W : WX}
theorem rep_obj2 {c : Nat} {G : Hp} {v : V} {i j : Int} (hl : (α.fl c).length = 2) (r : Rep α G v (.obj c [.int i, .int j])) : ∃ (p dx : Addr), v = .ref p ∧ G p = some (.ins (α.cl c) dx ((α.fl c).zip [.int i, .int j])) := by
  cases r with
  | obj g l q =>
    cases q with
    | cons a1 q =>
      cases q with
      | cons a2 q =>
        cases q
        cases a1
        cases a2
        exact ⟨_, _, rfl, g⟩
open Classical in
theorem o_neLst {c k : Nat} {sem : FSem} (hr : Room (k + 1) X.A) (F : Mt X.prog X.w X.K X.mg X.base α k (α.cl c) "__eq__" 2 sem) (hl : (α.fl c).length = 2)
    (he : ∀ i j k l : Int, sem [.p (.obj c [.int i, .int j]), .p (.obj c [.int k, .int l])] [] = some (.ok (.p (.bl (decide (i = k ∧ j = l)))), [])) : OpR X (compareOp .NotEq) (r2V α (fNeLst c)) := by
  obtain ⟨⟨f, fd, ps, h1, h2, h3, hb, F⟩, ar⟩ := F
  have F2 : FnOk X.prog X.w X.K X.mg X.base (L2.CX X.prog X.w) k f fd ps (spEqB (RatB α c)) := F.imp fun vs H Q E ⟨a, b, r, e, q, hq⟩ => by
    subst e
    obtain ⟨i, j, k, l, dx, dy, g1, g2, rfl⟩ := q
    have rp : ∀ (a dx : Addr) (x y : Int), H a = some (.ins (α.cl c) dx ((α.fl c).zip [.int x, .int y])) → Rep α H (.ref a) (.obj c [.int x, .int y]) := fun a dx x y g => .obj g (by rw [hl]; rfl) (.cons (.int x) (.cons (.int y) .nil))
    refine ⟨rfl, H, [], [], _, ⟨Same.refl H, rfl, fun l m e => by simp at e, fun l l' m m' a e => by simp at e⟩, .cons (x := .p (.obj c [.int i, .int j])) (rp a dx i j g1) (.cons (x := .p (.obj c [.int k, .int l])) (rp b dy k l g2) .nil), ?_⟩
    rw [he i j k l]
    intro v H' G' ρ' u z r
    cases r
    exact hq H' (u.same.trans z.sub)
  have hp : Passes (L2.CX X.prog X.w) X (fun _ _ _ => False) := passes_call takes0 fun _ _ _ _ h => h
  have hsame : ∀ a H r, RatB α c a a H r → r = true := fun a H r ⟨i, j, k, l, dx, dy, g1, g2, e⟩ => by
    rw [g1] at g2
    have g3 := Option.some.inj g2
    injection g3 with _ _ g4
    have : i = k ∧ j = l := by
      match hfl : α.fl c, hl with
      | [p, q], _ =>
        rw [hfl] at g4
        simp at g4
        exact g4
    rw [e, decide_eq_true this]
  intro pins s σ H x y v u Q I rv ru ⟨G, ρ, μ, dx, dy, z, rx, ry, q⟩
  unfold fNeLst at q
  split at q
  · rename_i xs ys
    split at q
    · rename_i hc
      obtain ⟨c1, c2, c3⟩ := hc
      cases rx with
      | lst g1 r1 =>
        rename_i a vs
        cases ry with
        | lst g2 r2 =>
          rename_i b ws
          cases rv
          cases ru
          have l1 := r1.length
          have l2 := r2.length
          have fin : ∀ (t : Bool) s', t = decide (xs ≠ ys) → (∃ H', Inv X pins σ H' s' ∧ L2.Ext H H') → EP X pins σ Q (.bool t) s' := fun t s' ht ⟨H', I', e⟩ => by
            subst ht
            exact ⟨.bl _, H', I', rfl, q _ H' G ρ Up.refl (z.grow e) (.bl _)⟩
          show wpAny (model X.prog X.w) X.A (richCompare .NotEq (.ref a) (.ref b)) (EP X pins σ Q) X.xe s
          have sb : Sub X (k + 1) X.A := ⟨hr, rfl⟩
          refine rc_ne (N := vs.length) (e := fun i => decide (xs[i]? = ys[i]?)) hr.units0 (fun s' => ∃ H', Inv X pins σ H' s' ∧ L2.Ext H H') (fun s' ⟨H1, I1, e1⟩ => ?_) (fun hall s' h => fin _ s' ?_ h) (fun hex s' h => fin _ s' ?_ h) ⟨H, I, L2.Ext.rfl'⟩
          · obtain ⟨_, its, k1, t1, w1⟩ := I1.hok a _ (e1 _ _ (z.sub _ _ g1))
            obtain ⟨_, its2, k2, t2, w2⟩ := I1.hok b _ (e1 _ _ (z.sub _ _ g2))
            refine ⟨its.toArray, its2.toArray, k1, k2, w1, w2, by rw [List.size_toArray, ← t1.length], by rw [List.size_toArray, ← t2.length]; omega, fun i i1 i2 => ?_⟩
            have j1 : i < its.length := by simpa using i1
            have j2 : i < its2.length := by simpa using i2
            have m1 : i < xs.length := by rw [← l1, t1.length]; exact j1
            have m2 : i < ys.length := by rw [← l2, t2.length]; exact j2
            obtain ⟨p, q', ex⟩ := ratsP_at c1 (List.getElem?_eq_getElem m1)
            obtain ⟨p2, q2, ey⟩ := ratsP_at c2 (List.getElem?_eq_getElem m2)
            obtain ⟨v1, n1, o1⟩ := r1.get (List.getElem?_eq_getElem m1)
            obtain ⟨v2, n2, o2⟩ := r2.get (List.getElem?_eq_getElem m2)
            rw [ex] at o1
            rw [ey] at o2
            obtain ⟨A1, D1, rfl, G1⟩ := rep_obj2 hl o1
            obtain ⟨A2, D2, rfl, G2⟩ := rep_obj2 hl o2
            obtain ⟨u1, b1, d1⟩ := t1.get n1
            obtain ⟨u2, b2, d2⟩ := t2.get n2
            cases d1
            cases d2
            have s1 : its.toArray[i] = Value.ref A1 := by
              have : its[i] = Value.ref A1 := by
                rw [List.getElem?_eq_getElem j1] at b1; exact Option.some.inj b1
              simpa using this
            have s2 : its2.toArray[i] = Value.ref A2 := by
              have : its2[i] = Value.ref A2 := by
                rw [List.getElem?_eq_getElem j2] at b2; exact Option.some.inj b2
              simpa using this
            rw [s1, s2]
            refine wpAny_mono (eqB_ins F2 h1 h2 hb hp hsame sb.in1 I1 (e1 _ _ (z.sub _ _ G1)) (e1 _ _ (z.sub _ _ G2)) ⟨p, q', p2, q2, D1, D2, e1 _ _ (z.sub _ _ G1), e1 _ _ (z.sub _ _ G2), rfl⟩) (fun t s2 ht => ?_) fun _ _ x => x
            obtain ⟨ht, H2, I2, e2⟩ := ht
            refine ⟨?_, H2, I2, e1.trans e2⟩
            rw [ht, decide_eq_decide, List.getElem?_eq_getElem m1, List.getElem?_eq_getElem m2, ex, ey]
            simp
          · have : xs = ys := by
              apply List.ext_getElem?
              intro i
              by_cases hi : i < vs.length
              · exact of_decide_eq_true (hall i hi)
              · rw [List.getElem?_eq_none (by omega), List.getElem?_eq_none (by omega)]
            rw [decide_eq_false (by rw [this]; simp)]
          · obtain ⟨i, hi, hd⟩ := hex
            have : xs ≠ ys := fun e => by
              subst e
              simp at hd
            rw [decide_eq_true this]
    · exact q.elim
  · exact q.elim
open Classical in
theorem fNeLst_ok {c : Nat} {xs ys : List P} {μ : Mu} {t : Bool} (h1 : ratsP c xs = true) (h2 : ratsP c ys = true) (h3 : xs.length = ys.length) (ht : (xs ≠ ys) ↔ t = true) : fNeLst c (.p (.lst xs)) (.p (.lst ys)) μ = some (.p (.bl t), μ) := by
  unfold fNeLst
  dsimp only
  rw [if_pos ⟨h1, h2, h3⟩]
  congr 4
  cases t with
  | true => exact decide_eq_true (ht.mpr rfl)
  | false => exact decide_eq_false fun z => by have := ht.mp z; cases this
end
end Vs
set_option maxHeartbeats 1000000
namespace Vs
open PySem PySem.Spec PyProof.Rows L2
theorem eq_two (i j k l : Int) : m_Ratiou_equ [.p (.obj 0 [.int i, .int j]), .p (.obj 0 [.int k, .int l])] [] = some (.ok (.p (.bl (decide (i = k ∧ j = l)))), []) := by
  have h : isiVEnd (isiO 0) ([] : Mu) (some (.obj 0 [.int k, .int l])) = some (.ok (.p (.bl true)), []) := isiVEnd_some rfl
  by_cases h1 : i = k
  · by_cases h2 : j = l
    · simp [m_Ratiou_equ, arF, bodySem_eq, sv_Ratiou_equ, h, h1, h2]
    · simp [m_Ratiou_equ, arF, bodySem_eq, sv_Ratiou_equ, h, h1, h2]
  · simp [m_Ratiou_equ, arF, bodySem_eq, sv_Ratiou_equ, h, h1]
end Vs
set_option maxHeartbeats 1000000
set_option maxHeartbeats 1000000
set_option maxHeartbeats 1000000
namespace Vs
open PySem PySem.Spec PyProof.Rows L2
/-- 0 Ratio, 1 ByZero .. 6 BadCall, 7 TraproomError, 8 Run -/
def ambR (K : PySem.W.Frag) (cs : List Addr) : Amb := ⟨K, fun i => cs.getD i 0, fun i => if i = 0 then ["top", "bottom"] else if i = 8 then ["_show", "_times", "_latest"] else []⟩
structure ExcF (K : PySem.W.Frag) (mg : Str → Option Value) (C : Addr) (x : Str) : Prop where
  xc : PySem.W.excIn K C [.type "ValueError", .type "Exception", .type "BaseException", .type "object"] "ValueError.__new__" = true
  g : mg x = some (.ref C)
  k : PySem.W.keepIn K (.ref C) = true
  p : PySem.W.subIn K (.ref C) (.type "BaseException") = some true
  t : PySem.W.typeIn K (.ref C) = some (.type "type")
  ec : ExcC K C
  iV : PySem.W.kitOne K (.ref C) (.type "ValueError") = some true
structure TxE (K : PySem.W.Frag) (mg : Str → Option Value) (cs : List Addr) : Prop where
  own0 : Own (ambR K cs) 0
  c0 : mg "Ratio" = some (.ref ((ambR K cs).cl 0))
  sf0 : PySem.W.selfFirst K ((ambR K cs).cl 0) = true
  nf0 : ∀ T ∈ eqTys, PySem.W.notFirst K ((ambR K cs).cl 0) (.type T) = true
  ne0 : NeOwn K ((ambR K cs).cl 0)
  isi0 : IsiO K (ambR K cs) 0
  isib_bool : ∀ c, c < 1 → PySem.W.kitOne K (.ref ((ambR K cs).cl c)) (.type "bool") = some false ∧ InsOwn K ((ambR K cs).cl c)
  isib_list : ∀ c, c < 1 → PySem.W.kitOne K (.ref ((ambR K cs).cl c)) (.type "list") = some false ∧ InsOwn K ((ambR K cs).cl c)
  isib_tuple : ∀ c, c < 1 → PySem.W.kitOne K (.ref ((ambR K cs).cl c)) (.type "tuple") = some false ∧ InsOwn K ((ambR K cs).cl c)
  isib_int : ∀ c, c < 1 → PySem.W.kitOne K (.ref ((ambR K cs).cl c)) (.type "int") = some false ∧ InsOwn K ((ambR K cs).cl c)
  own8 : Own (ambR K cs) 8
  cls8 : Cls K ((ambR K cs).cl 8)
  c8 : mg "Run" = some (.ref ((ambR K cs).cl 8))
  e1 : ExcF K mg ((ambR K cs).cl 1) "ByZero"
  e2 : ExcF K mg ((ambR K cs).cl 2) "BadMove"
  e3 : ExcF K mg ((ambR K cs).cl 3) "BadSheet"
  e4 : ExcF K mg ((ambR K cs).cl 4) "BadShow"
  e5 : ExcF K mg ((ambR K cs).cl 5) "BadFault"
  e6 : ExcF K mg ((ambR K cs).cl 6) "BadCall"
  gT : mg "TraproomError" = some (.ref ((ambR K cs).cl 7))
  exs : ∀ b ∈ [1, 2, 3, 4, 5, 6], PySem.W.exmOne K (.ref ((ambR K cs).cl b)) (.ref ((ambR K cs).cl 7)) = some true
  iT : ∀ b ∈ [1, 2, 3, 4, 5, 6], PySem.W.kitOne K (.ref ((ambR K cs).cl b)) (.ref ((ambR K cs).cl 7)) = some true
  is : ∀ b ∈ [1, 2, 3, 4, 5, 6], ∀ c ∈ [1, 2, 3, 4, 5, 6], PySem.W.kitOne K (.ref ((ambR K cs).cl b)) (.ref ((ambR K cs).cl c)) = some (decide (b = c))
  bV : mg "ValueError" = none
  b_gcd : mg "gcd" = some (.builtin "math.gcd")
  b_abs : mg "abs" = none
  b_len : mg "len" = none
  b_int : mg "int" = none
  b_list : mg "list" = none
  b_tuple : mg "tuple" = none
  b_bool : mg "bool" = none
  b_isinstance : mg "isinstance" = none
  b_range : mg "range" = none
  b_zip : mg "zip" = none
  b_enumerate : mg "enumerate" = none
  b_any : mg "any" = none
  b_all : mg "all" = none
  b_sum : mg "sum" = none
theorem TxE.inj {K : PySem.W.Frag} {mg : Str → Option Value} {cs : List Addr} (T : TxE K mg cs) : ∀ b ∈ [1, 2, 3, 4, 5, 6], ∀ b' ∈ [1, 2, 3, 4, 5, 6], (ambR K cs).cl b = (ambR K cs).cl b' → b = b' := fun b hb b' hb' e => by
  have h1 := T.is b hb b hb
  have h2 := T.is b' hb' b hb
  rw [e] at h1 h2
  rw [h1] at h2
  have := Option.some.inj h2
  simp at this
  exact this.symm
end Vs
set_option maxHeartbeats 1000000
namespace Vs
open PySem PySem.Spec PyProof.Rows L2
section
variable {α : Amb} {W : WX} {X : Cx}
def fIsB (neg : Bool) : F2 := fun x y μ => match x, y with
  | .p (.bl a), .p (.bl b) => some (.p (.bl (if neg then !decide (a = b) else decide (a = b))), μ)
  | _, _ => none
theorem o_isB : OpR X (compareOp .Is) (r2V α (fIsB false)) := OpR.imp op_is_bl fun x y H Q h => by
  obtain ⟨G, ρ, μ, dx, dy, z, rx, ry, q⟩ := h
  unfold fIsB at q
  split at q
  · cases rx; cases ry
    exact ⟨_, _, rfl, rfl, q _ H G ρ Up.refl z (.bl _)⟩
  · exact q.elim
theorem o_isnotB : OpR X (compareOp .IsNot) (r2V α (fIsB true)) := OpR.imp op_isnot_bl fun x y H Q h => by
  obtain ⟨G, ρ, μ, dx, dy, z, rx, ry, q⟩ := h
  unfold fIsB at q
  split at q
  · cases rx; cases ry
    exact ⟨_, _, rfl, rfl, q _ H G ρ Up.refl z (.bl _)⟩
  · exact q.elim
end
end Vs
namespace Vs
open PySem PySem.Spec PyProof.Rows L2
structure TxS (K : PySem.W.Frag) (mg : Str → Option Value) (cs : List Addr) : Prop extends Tx K mg cs where
  b_zip : mg "zip" = none
  b_enumerate : mg "enumerate" = none
  b_any : mg "any" = none
  b_all : mg "all" = none
  b_sum : mg "sum" = none
  b_repr : mg "repr" = none
  b_max : mg "max" = none
section
variable {α : Amb} {W : WX} {X : Cx}
def fMax : FA := fun ds μ => match ds with
  | [.p (.int i), .p (.int j)] => some (.p (.int (if j > i then j else i)), μ)
  | _ => none
theorem c_max (hc : X.calm = true) : CallR X (.builtin "max") (rCV α fMax) := CallR.imp (call_max2 hc) fun vs H Q ⟨G, ρ, μ, ds, z, r, q⟩ => by
  unfold fMax at q
  split at q
  · rename_i i j
    obtain ⟨v, w, rfl, r1, r2⟩ := rds2 r
    exact ⟨i, j, by rw [repInt r1, repInt r2], q _ H G ρ Up.refl z (.int _)⟩
  · exact q.elim
end
end Vs
namespace Vs
open PySem PySem.Spec PyProof.Rows L2
noncomputable def sv__law_slength : SEv := (seqS (sSet 1 (evMake 0 2 m_Ratiou_initu [.int 1] (evCons (evC (.int 0)) evNil))) (seqS (sFor (evIt (evV 0)) (tgT [2, 3]) (sSet 1 (evBin (fOwn 0 m_Ratiou_addu) (evV 1) (evV 2)))) (sRet (evV 1))))
noncomputable def m__law_slength : FSem := arF 1 (bodySem 4 sv__law_slength)
theorem ar__law_slength : Arity m__law_slength 1 := arF_ar
theorem le__law_slength : ∀ ds μ r, m__law_slength ds μ = some r → bodySem 4 sv__law_slength ds μ = some r := arF_le
noncomputable abbrev lb__law_ssheet_0 : SEv := (seqS (sSet 4 (evBin fSub (evCall m__law_draw [] (evCons (evV 0) (evCons (evBin fAdd (evV 3) (evC (.int 1))) evNil))) (evC (.int 1)))) (seqS (sSet 5 (evMake 0 2 m_Ratiou_initu [] (evCons (evCall m__law_draw [] (evCons (evV 0) (evCons (evC (.int 4)) evNil))) (evCons (evBin fAdd (evC (.int 1)) (evCall m__law_draw [] (evCons (evV 0) (evCons (evC (.int 2)) evNil)))) evNil)))) (seqS (sIf (tAndV' (evB (evBin fGt (evV 3) (evC (.int 0)))) (evB (evBin fEq (evCall m__law_draw [] (evCons (evV 0) (evCons (evC (.int 2)) evNil))) (evC (.int 0))))) (seqS (sSet 5 (evBin (fOwn 0 m_Ratiou_addu) (evV 5) (evCall m__law_slength [] (evCons (evBin fIx (evV 1) (evBin fSub (evV 3) (evC (.int 1)))) evNil)))) (sSet 4 (evBin fIx (evLst (evCons (evBin fSub (evV 3) (evC (.int 1))) (evCons (evV 4) evNil))) (evCall m__law_draw [] (evCons (evV 0) (evCons (evC (.int 2)) evNil)))))) sNil) (seqS (sIf (evB (evBin fEq (evCall m__law_draw [] (evCons (evV 0) (evCons (evC (.int 12)) evNil))) (evC (.int 0)))) (sSet 5 (evBin (fOwn 0 m_Ratiou_addu) (evV 5) (evMake 0 2 m_Ratiou_initu [.int 1] (evCons (evC (.int 2000)) evNil)))) sNil) (seqS (sSet 6 (evMake 0 2 m_Ratiou_initu [] (evCons (evCall m__law_draw [] (evCons (evV 0) (evCons (evC (.int 4)) evNil))) (evCons (evBin fAdd (evC (.int 1)) (evCall m__law_draw [] (evCons (evV 0) (evCons (evC (.int 2)) evNil)))) evNil)))) (sExpr (evBM isLst fApp (evV 2) (evCons (evTup (evCons (evV 4) (evCons (evV 5) (evCons (evBin (fOwn 0 m_Ratiou_addu) (evV 5) (evBin (fOwn 0 m_Ratiou_mulu) (evV 6) (evMake 0 2 m_Ratiou_initu [.int 1] (evCons (evBin fIx (evLst (evCons (evC (.int 1)) (evCons (evC (.int 1)) (evCons (evC (.int 1)) (evCons (evC (.int 20)) evNil))))) (evCall m__law_draw [] (evCons (evV 0) (evCons (evC (.int 4)) evNil)))) evNil)))) evNil)))) evNil))))))))
noncomputable def sv__law_ssheet : SEv := (seqS (sSet 2 (evLstC evNil)) (seqS (sFor (evRng1 (evBI fLen (evCons (evV 1) evNil))) (tgN 3) (seqS (sSet 4 (evBin fSub (evCall m__law_draw [] (evCons (evV 0) (evCons (evBin fAdd (evV 3) (evC (.int 1))) evNil))) (evC (.int 1)))) (seqS (sSet 5 (evMake 0 2 m_Ratiou_initu [] (evCons (evCall m__law_draw [] (evCons (evV 0) (evCons (evC (.int 4)) evNil))) (evCons (evBin fAdd (evC (.int 1)) (evCall m__law_draw [] (evCons (evV 0) (evCons (evC (.int 2)) evNil)))) evNil)))) (seqS (sIf (tAndV' (evB (evBin fGt (evV 3) (evC (.int 0)))) (evB (evBin fEq (evCall m__law_draw [] (evCons (evV 0) (evCons (evC (.int 2)) evNil))) (evC (.int 0))))) (seqS (sSet 5 (evBin (fOwn 0 m_Ratiou_addu) (evV 5) (evCall m__law_slength [] (evCons (evBin fIx (evV 1) (evBin fSub (evV 3) (evC (.int 1)))) evNil)))) (sSet 4 (evBin fIx (evLst (evCons (evBin fSub (evV 3) (evC (.int 1))) (evCons (evV 4) evNil))) (evCall m__law_draw [] (evCons (evV 0) (evCons (evC (.int 2)) evNil)))))) sNil) (seqS (sIf (evB (evBin fEq (evCall m__law_draw [] (evCons (evV 0) (evCons (evC (.int 12)) evNil))) (evC (.int 0)))) (sSet 5 (evBin (fOwn 0 m_Ratiou_addu) (evV 5) (evMake 0 2 m_Ratiou_initu [.int 1] (evCons (evC (.int 2000)) evNil)))) sNil) (seqS (sSet 6 (evMake 0 2 m_Ratiou_initu [] (evCons (evCall m__law_draw [] (evCons (evV 0) (evCons (evC (.int 4)) evNil))) (evCons (evBin fAdd (evC (.int 1)) (evCall m__law_draw [] (evCons (evV 0) (evCons (evC (.int 2)) evNil)))) evNil)))) (sExpr (evBM isLst fApp (evV 2) (evCons (evTup (evCons (evV 4) (evCons (evV 5) (evCons (evBin (fOwn 0 m_Ratiou_addu) (evV 5) (evBin (fOwn 0 m_Ratiou_mulu) (evV 6) (evMake 0 2 m_Ratiou_initu [.int 1] (evCons (evBin fIx (evLst (evCons (evC (.int 1)) (evCons (evC (.int 1)) (evCons (evC (.int 1)) (evCons (evC (.int 20)) evNil))))) (evCall m__law_draw [] (evCons (evV 0) (evCons (evC (.int 4)) evNil)))) evNil)))) evNil)))) evNil))))))))) (sRet (evBI fTupOf (evCons (evV 2) evNil)))))
noncomputable def m__law_ssheet : FSem := arF 2 (bodySem 7 sv__law_ssheet)
theorem ar__law_ssheet : Arity m__law_ssheet 2 := arF_ar
theorem le__law_ssheet : ∀ ds μ r, m__law_ssheet ds μ = some r → bodySem 7 sv__law_ssheet ds μ = some r := arF_le
noncomputable def sv__law_sless : SEv := (sRet (evBin fLt (evBin fMul (evUn (fFld 0 0) (evV 0)) (evUn (fFld 0 1) (evV 1))) (evBin fMul (evUn (fFld 0 0) (evV 1)) (evUn (fFld 0 1) (evV 0)))))
noncomputable def m__law_sless : FSem := arF 2 (bodySem 2 sv__law_sless)
theorem ar__law_sless : Arity m__law_sless 2 := arF_ar
theorem le__law_sless : ∀ ds μ r, m__law_sless ds μ = some r → bodySem 2 sv__law_sless ds μ = some r := arF_le
noncomputable abbrev lb__law_sbounds_0 : SEv := (sSetIx (evBin fIxD (evV 2) (evV 4)) (evV 4) (evMake 0 2 m_Ratiou_initu [.int 1] (evCons (evC (.int 0)) evNil)))
noncomputable abbrev lb__law_sbounds_1 : SEv := (seqS (sAsgT (tgT [6, 7, 8]) (evBin fIx (evV 0) (evV 5))) (seqS (sSetIx (evBin fIxD (evV 2) (evV 5)) (evBin fMod (evBI fInt (evCons (evV 6) evNil)) (evV 1)) (evV 8)) (sSetIx (evBin fIxD (evV 2) (evBin fMod (evBI fInt (evCons (evV 6) evNil)) (evV 1))) (evV 5) (evUn (fOwn1 0 m_Ratiou_negu) (evV 7)))))
noncomputable abbrev lb__law_sbounds_2 : SEv := (sIf (evB (evCall m__law_sless [] (evCons (evBin (fOwn 0 m_Ratiou_addu) (evBin fIx (evBin fIxD (evV 2) (evV 4)) (evV 9)) (evBin fIx (evBin fIxD (evV 2) (evV 9)) (evV 3))) (evCons (evBin fIx (evBin fIxD (evV 2) (evV 4)) (evV 3)) evNil)))) (sSetIx (evBin fIxD (evV 2) (evV 4)) (evV 3) (evBin (fOwn 0 m_Ratiou_addu) (evBin fIx (evBin fIxD (evV 2) (evV 4)) (evV 9)) (evBin fIx (evBin fIxD (evV 2) (evV 9)) (evV 3)))) sNil)
noncomputable abbrev lb__law_sbounds_3 : SEv := (sFor (evRng1 (evV 1)) (tgN 3) (sIf (evB (evCall m__law_sless [] (evCons (evBin (fOwn 0 m_Ratiou_addu) (evBin fIx (evBin fIxD (evV 2) (evV 4)) (evV 9)) (evBin fIx (evBin fIxD (evV 2) (evV 9)) (evV 3))) (evCons (evBin fIx (evBin fIxD (evV 2) (evV 4)) (evV 3)) evNil)))) (sSetIx (evBin fIxD (evV 2) (evV 4)) (evV 3) (evBin (fOwn 0 m_Ratiou_addu) (evBin fIx (evBin fIxD (evV 2) (evV 4)) (evV 9)) (evBin fIx (evBin fIxD (evV 2) (evV 9)) (evV 3)))) sNil))
noncomputable abbrev lb__law_sbounds_4 : SEv := (sFor (evRng1 (evV 1)) (tgN 4) (sFor (evRng1 (evV 1)) (tgN 3) (sIf (evB (evCall m__law_sless [] (evCons (evBin (fOwn 0 m_Ratiou_addu) (evBin fIx (evBin fIxD (evV 2) (evV 4)) (evV 9)) (evBin fIx (evBin fIxD (evV 2) (evV 9)) (evV 3))) (evCons (evBin fIx (evBin fIxD (evV 2) (evV 4)) (evV 3)) evNil)))) (sSetIx (evBin fIxD (evV 2) (evV 4)) (evV 3) (evBin (fOwn 0 m_Ratiou_addu) (evBin fIx (evBin fIxD (evV 2) (evV 4)) (evV 9)) (evBin fIx (evBin fIxD (evV 2) (evV 9)) (evV 3)))) sNil)))
noncomputable def sv__law_sbounds : SEv := (seqS (sSet 1 (evBin fAdd (evBI fLen (evCons (evV 0) evNil)) (evC (.int 1)))) (seqS (sSet 2 (evLcD (evUpI (evRng1 (evV 1))) (tgUp (tgN 4)) evTrue (evLcC (evRng1 (evV 1)) (tgN 3) evTrue (evMake 0 2 m_Ratiou_initu [.int 1] (evCons (evC (.int 100000)) evNil)) [3]) [4])) (seqS (sFor (evRng1 (evV 1)) (tgN 4) (sSetIx (evBin fIxD (evV 2) (evV 4)) (evV 4) (evMake 0 2 m_Ratiou_initu [.int 1] (evCons (evC (.int 0)) evNil)))) (seqS (sFor (evRng1 (evBI fLen (evCons (evV 0) evNil))) (tgN 5) (seqS (sAsgT (tgT [6, 7, 8]) (evBin fIx (evV 0) (evV 5))) (seqS (sSetIx (evBin fIxD (evV 2) (evV 5)) (evBin fMod (evBI fInt (evCons (evV 6) evNil)) (evV 1)) (evV 8)) (sSetIx (evBin fIxD (evV 2) (evBin fMod (evBI fInt (evCons (evV 6) evNil)) (evV 1))) (evV 5) (evUn (fOwn1 0 m_Ratiou_negu) (evV 7)))))) (seqS (sFor (evRng1 (evV 1)) (tgN 9) (sFor (evRng1 (evV 1)) (tgN 4) (sFor (evRng1 (evV 1)) (tgN 3) (sIf (evB (evCall m__law_sless [] (evCons (evBin (fOwn 0 m_Ratiou_addu) (evBin fIx (evBin fIxD (evV 2) (evV 4)) (evV 9)) (evBin fIx (evBin fIxD (evV 2) (evV 9)) (evV 3))) (evCons (evBin fIx (evBin fIxD (evV 2) (evV 4)) (evV 3)) evNil)))) (sSetIx (evBin fIxD (evV 2) (evV 4)) (evV 3) (evBin (fOwn 0 m_Ratiou_addu) (evBin fIx (evBin fIxD (evV 2) (evV 4)) (evV 9)) (evBin fIx (evBin fIxD (evV 2) (evV 9)) (evV 3)))) sNil)))) (sRet (evV 2)))))))
noncomputable def m__law_sbounds : FSem := arF 1 (bodySemK 10 sv__law_sbounds)
theorem ar__law_sbounds : Arity m__law_sbounds 1 := arF_ar
theorem le__law_sbounds : ∀ ds μ r, m__law_sbounds ds μ = some r → bodySemK 10 sv__law_sbounds ds μ = some r := arF_le
noncomputable def sv__law_sover : SEv := (sRet (evMake 0 2 m_Ratiou_initu [] (evCons (evBin fMul (evUn (fFld 0 0) (evV 0)) (evUn (fFld 0 1) (evV 1))) (evCons (evBin fMul (evUn (fFld 0 1) (evV 0)) (evUn (fFld 0 0) (evV 1))) evNil))))
noncomputable def m__law_sover : FSem := arF 2 (bodySem 2 sv__law_sover)
theorem ar__law_sover : Arity m__law_sover 2 := arF_ar
theorem le__law_sover : ∀ ds μ r, m__law_sover ds μ = some r → bodySem 2 sv__law_sover ds μ = some r := arF_le
noncomputable def sv__law_smove : SEv := (seqS (sSet 1 (evMake 0 2 m_Ratiou_initu [] (evCons (evBin fAdd (evC (.int 1)) (evCall m__law_draw [] (evCons (evV 0) (evCons (evC (.int 3)) evNil)))) (evCons (evBin fAdd (evC (.int 1)) (evCall m__law_draw [] (evCons (evV 0) (evCons (evC (.int 2)) evNil)))) evNil)))) (seqS (sSet 2 (evMake 0 2 m_Ratiou_initu [] (evCons (evBin fAdd (evC (.int 1)) (evCall m__law_draw [] (evCons (evV 0) (evCons (evC (.int 3)) evNil)))) (evCons (evBin fAdd (evC (.int 1)) (evCall m__law_draw [] (evCons (evV 0) (evCons (evC (.int 2)) evNil)))) evNil)))) (seqS (sSet 3 (evMake 0 2 m_Ratiou_initu [.int 1] (evCons (evBin fIx (evLst (evCons (evUn fNeg (evC (.int 3))) (evCons (evUn fNeg (evC (.int 2))) (evCons (evUn fNeg (evC (.int 1))) (evCons (evC (.int 1)) (evCons (evC (.int 2)) (evCons (evC (.int 3)) evNil))))))) (evCall m__law_draw [] (evCons (evV 0) (evCons (evC (.int 6)) evNil)))) evNil))) (seqS (sSet 4 (evTup (evCons (evMake 0 2 m_Ratiou_initu [.int 1] (evCons (evBin fAdd (evC (.int 1)) (evCall m__law_draw [] (evCons (evV 0) (evCons (evC (.int 2)) evNil)))) evNil)) (evCons (evMake 0 2 m_Ratiou_initu [.int 1] (evCons (evC (.int 0)) evNil)) evNil)))) (seqS (sSet 5 (evCall m__law_draw [] (evCons (evV 0) (evCons (evC (.int 6)) evNil)))) (seqS (sIf (evB (evBin fEq (evV 5) (evC (.int 0)))) (sRet (evTup (evCons (evTup (evCons (evV 1) (evCons (evV 3) evNil))) (evCons (evTup (evCons (evBin (fOwn 0 m_Ratiou_addu) (evV 1) (evV 1)) (evCons (evUn (fOwn1 0 m_Ratiou_negu) (evV 3)) evNil))) (evCons (evTup (evCons (evV 1) (evCons (evV 3) evNil))) evNil))))) sNil) (seqS (sSet 6 (evLstC (evCons (evTup (evCons (evV 1) (evCons (evV 3) evNil))) (evCons (evTup (evCons (evV 2) (evCons (evUn (fOwn1 0 m_Ratiou_negu) (evCall m__law_sover [] (evCons (evBin (fOwn 0 m_Ratiou_mulu) (evV 3) (evV 1)) (evCons (evV 2) evNil)))) evNil))) evNil)))) (seqS (sIf (evB (evBin fLt (evV 5) (evC (.int 3)))) (sExpr (evBM isLst fIns (evV 6) (evCons (evC (.int 1)) (evCons (evV 4) evNil)))) (sIf (evB (evBin fEq (evV 5) (evC (.int 3)))) (sExpr (evBM isLst fIns (evV 6) (evCons (evC (.int 0)) (evCons (evV 4) evNil)))) (sIf (evB (evBin fEq (evV 5) (evC (.int 4)))) (sExpr (evBM isLst fApp (evV 6) (evCons (evV 4) evNil))) sNil))) (sRet (evBI fTupOf (evCons (evV 6) evNil)))))))))))
noncomputable def m__law_smove : FSem := arF 1 (bodySem 7 sv__law_smove)
theorem ar__law_smove : Arity m__law_smove 1 := arF_ar
theorem le__law_smove : ∀ ds μ r, m__law_smove ds μ = some r → bodySem 7 sv__law_smove ds μ = some r := arF_le
noncomputable def sv__law_snumber : SEv := (sRet (evMake 0 2 m_Ratiou_initu [] (evCons (evBin fSub (evCall m__law_draw [] (evCons (evV 0) (evCons (evC (.int 13)) evNil))) (evC (.int 6))) (evCons (evBin fIx (evLst (evCons (evC (.int 1)) (evCons (evC (.int 1)) (evCons (evC (.int 2)) (evCons (evC (.int 3)) evNil))))) (evCall m__law_draw [] (evCons (evV 0) (evCons (evC (.int 4)) evNil)))) evNil))))
noncomputable def m__law_snumber : FSem := arF 1 (bodySem 1 sv__law_snumber)
theorem ar__law_snumber : Arity m__law_snumber 1 := arF_ar
theorem le__law_snumber : ∀ ds μ r, m__law_snumber ds μ = some r → bodySem 1 sv__law_snumber ds μ = some r := arF_le
noncomputable def sv__law_weigh : SEv := (seqS (sSet 2 (evCall m__law_draw [] (evCons (evV 0) (evCons (evV 1) evNil)))) (seqS (sSet 3 (evBin fMod (evBI fInt (evCons (evBin fAdd (evBin fAdd (evV 2) (evC (.int 1))) (evCall m__law_draw [] (evCons (evV 0) (evCons (evBin fSub (evV 1) (evC (.int 1))) evNil)))) evNil)) (evV 1))) (seqS (sSet 4 (evLc (evRng1 (evC (.int 2))) (tgN 5) evTrue (evMake 0 2 m_Ratiou_initu [] (evCons (evBin fSub (evCall m__law_draw [] (evCons (evV 0) (evCons (evC (.int 5)) evNil))) (evC (.int 2))) (evCons (evBin fAdd (evC (.int 1)) (evCall m__law_draw [] (evCons (evV 0) (evCons (evC (.int 3)) evNil)))) evNil))) [5])) (seqS (sIf (evB (evBin fEq (evCall m__law_draw [] (evCons (evV 0) (evCons (evC (.int 2)) evNil))) (evC (.int 0)))) (sSet 4 (evLst (evCons (evMake 0 2 m_Ratiou_initu [.int 1] (evCons (evUn fNeg (evC (.int 1))) evNil)) (evCons (evMake 0 2 m_Ratiou_initu [.int 1] (evCons (evC (.int 1)) evNil)) evNil)))) sNil) (sRet (evTup (evCons (evC (.str "weigh")) (evCons (evV 2) (evCons (evBin fIx (evV 4) (evC (.int 0))) (evCons (evV 3) (evCons (evBin fIx (evV 4) (evC (.int 1))) (evCons (evBin (fOwn 0 m_Ratiou_addu) (evCall m__law_snumber [] (evCons (evV 0) evNil)) (evCall m__law_snumber [] (evCons (evV 0) evNil))) evNil))))))))))))
noncomputable def m__law_weigh : FSem := arF 2 (bodySem 6 sv__law_weigh)
theorem ar__law_weigh : Arity m__law_weigh 2 := arF_ar
theorem le__law_weigh : ∀ ds μ r, m__law_weigh ds μ = some r → bodySem 6 sv__law_weigh ds μ = some r := arF_le
noncomputable abbrev lb__law_zone_0 : SEv := (sSet 3 (evBin fCatL (evV 3) (evLc (evRng1 (evBin fSub (evBI fLenD (evCons (evV 2) evNil)) (evC (.int 1)))) (tgN 5) (tAndV' (evB (evBin fNe (evV 4) (evV 5))) (evB (evBin fLe (evUn (fFld 0 0) (evBin fIx (evBin fIxD (evV 2) (evV 4)) (evV 5))) (evC (.int 0))))) (evTup (evCons (evV 4) (evCons (evV 5) evNil))) [5])))
noncomputable def sv__law_zone : SEv := (seqS (sSet 3 (evLc (evRng1 (evBin fSub (evBI fLenD (evCons (evV 2) evNil)) (evC (.int 1)))) (tgN 4) evTrue (evTup (evCons (evV 4) (evCons (evV 4) evNil))) [4])) (seqS (sFor (evRng1 (evBin fSub (evBI fLenD (evCons (evV 2) evNil)) (evC (.int 1)))) (tgN 4) (sSet 3 (evBin fCatL (evV 3) (evLc (evRng1 (evBin fSub (evBI fLenD (evCons (evV 2) evNil)) (evC (.int 1)))) (tgN 5) (tAndV' (evB (evBin fNe (evV 4) (evV 5))) (evB (evBin fLe (evUn (fFld 0 0) (evBin fIx (evBin fIxD (evV 2) (evV 4)) (evV 5))) (evC (.int 0))))) (evTup (evCons (evV 4) (evCons (evV 5) evNil))) [5])))) (seqS (sAsgT (tgT [4, 5]) (evBin fIx (evV 3) (evBin fSub (evUn fNeg (evC (.int 1))) (evCall m__law_draw [] (evCons (evV 0) (evCons (evBI fLen (evCons (evV 3) evNil)) evNil)))))) (seqS (sSet 6 (evCall m__law_snumber [] (evCons (evV 0) evNil))) (sRet (evTup (evCons (evC (.str "zone")) (evCons (evCall m__law_draw [] (evCons (evV 0) (evCons (evV 1) evNil))) (evCons (evV 6) (evCons (evBin (fOwn 0 m_Ratiou_addu) (evV 6) (evMake 0 2 m_Ratiou_initu [.int 1] (evCons (evBin fAdd (evC (.int 1)) (evCall m__law_draw [] (evCons (evV 0) (evCons (evC (.int 6)) evNil)))) evNil))) (evCons (evV 4) (evCons (evV 5) evNil))))))))))))
noncomputable def m__law_zone : FSem := arF 3 (bodySem 7 sv__law_zone)
theorem ar__law_zone : Arity m__law_zone 3 := arF_ar
theorem le__law_zone : ∀ ds μ r, m__law_zone ds μ = some r → bodySem 7 sv__law_zone ds μ = some r := arF_le
noncomputable def sv__law_fits : SEv := (sRet (evUn fNot (evCall m__law_sless [] (evCons (evUn (fOwn1 0 m_Ratiou_negu) (evCall m__law_slength [] (evCons (evBin fIx (evV 1) (evC (.int 1))) evNil))) (evCons (evBin fIx (evBin fIxD (evV 0) (evBin fIx (evV 1) (evC (.int 0)))) (evV 2)) evNil)))))
noncomputable def m__law_fits : FSem := arF 3 (bodySem 3 sv__law_fits)
theorem ar__law_fits : Arity m__law_fits 3 := arF_ar
theorem le__law_fits : ∀ ds μ r, m__law_fits ds μ = some r → bodySem 3 sv__law_fits ds μ = some r := arF_le
noncomputable abbrev lb__law_show_0 : SEv := (seqS (sSet 10 (evBin fMod (evBI fInt (evCons (evBin fAdd (evV 8) (evCall m__law_draw [] (evCons (evV 0) (evCons (evBI fMax (evCons (evV 2) (evCons (evC (.int 1)) evNil))) evNil)))) evNil)) (evV 7))) (sIf (tAndV' (evB (evBin fGt (evV 2) (evC (.int 0)))) (tOrV' (tNotV (evTruL (evBin fIxD (evV 9) (evV 10)))) (evB (evCall m__law_fits [] (evCons (evV 6) (evCons (evBin fIx (evBin fIxD (evV 9) (evV 10)) (evUn fNeg (evC (.int 1)))) (evCons (evV 4) evNil))))))) (sExpr (evBM isLst fApp (evBin fIxD (evV 9) (evV 10)) (evCons (evTup (evCons (evV 4) (evCons (evBin fIx (evV 3) (evV 4)) evNil))) evNil))) sNil))
noncomputable abbrev lb__law_show_1 : SEv := (seqS (sSet 13 (evMake 0 2 m_Ratiou_initu [] (evCons (evBin fAdd (evC (.int 1)) (evCall m__law_draw [] (evCons (evV 0) (evCons (evC (.int 4)) evNil)))) (evCons (evBin fAdd (evC (.int 1)) (evCall m__law_draw [] (evCons (evV 0) (evCons (evC (.int 2)) evNil)))) evNil)))) (sExpr (evBM isLst fApp (evV 12) (evCons (evTup (evCons (evBin (fOwn 0 m_Ratiou_addu) (evCall m__law_snumber [] (evCons (evV 0) evNil)) (evMake 0 2 m_Ratiou_initu [.int 1] (evCons (evBin fMul (evC (.int 8)) (evCall m__law_draw [] (evCons (evV 0) (evCons (evC (.int 2)) evNil)))) evNil))) (evCons (evV 13) (evCons (evBI fTupOf (evCons (evBin fIxD (evV 9) (evV 10)) evNil)) evNil)))) evNil))))
noncomputable def sv__law_show : SEv := (seqS (sSet 3 (evLc (evRng1 (evV 1)) (tgN 4) evTrue (evCall m__law_smove [] (evCons (evV 0) evNil)) [4])) (seqS (sSet 5 (evCall m__law_ssheet [] (evCons (evV 0) (evCons (evV 3) evNil)))) (seqS (sSet 6 (evCall m__law_sbounds [] (evCons (evV 5) evNil))) (seqS (sSet 7 (evBin fIx (evLst (evCons (evC (.int 2)) (evCons (evC (.int 2)) (evCons (evC (.int 3)) (evCons (evC (.int 4)) evNil))))) (evCall m__law_draw [] (evCons (evV 0) (evCons (evC (.int 4)) evNil))))) (seqS (sSet 8 (evCall m__law_draw [] (evCons (evV 0) (evCons (evV 7) evNil)))) (seqS (sSet 9 (evLcD (evUpI (evRng1 (evV 7))) (tgUp (tgN 4)) evTrue (evLstC evNil) [4])) (seqS (sFor (evRng1 (evV 1)) (tgN 4) (seqS (sSet 10 (evBin fMod (evBI fInt (evCons (evBin fAdd (evV 8) (evCall m__law_draw [] (evCons (evV 0) (evCons (evBI fMax (evCons (evV 2) (evCons (evC (.int 1)) evNil))) evNil)))) evNil)) (evV 7))) (sIf (tAndV' (evB (evBin fGt (evV 2) (evC (.int 0)))) (tOrV' (tNotV (evTruL (evBin fIxD (evV 9) (evV 10)))) (evB (evCall m__law_fits [] (evCons (evV 6) (evCons (evBin fIx (evBin fIxD (evV 9) (evV 10)) (evUn fNeg (evC (.int 1)))) (evCons (evV 4) evNil))))))) (sExpr (evBM isLst fApp (evBin fIxD (evV 9) (evV 10)) (evCons (evTup (evCons (evV 4) (evCons (evBin fIx (evV 3) (evV 4)) evNil))) evNil))) sNil))) (seqS (sSet 11 (evBin fMod (evBI fInt (evCons (evBin fAdd (evV 8) (evC (.int 1))) evNil)) (evV 7))) (seqS (sIf (tAndV' (evB (evBin fGt (evV 2) (evC (.int 1)))) (tAndV' (evB (evBin fLt (evV 1) (evC (.int 3)))) (tAndV' (tNotV (evTruL (evBin fIxD (evV 9) (evV 11)))) (evTruL (evBin fIxD (evV 9) (evV 8)))))) (sExpr (evBM isLst fApp (evBin fIxD (evV 9) (evV 11)) (evCons (evTup (evCons (evBin fIx (evBin fIx (evBin fIxD (evV 9) (evV 8)) (evUn fNeg (evC (.int 1)))) (evC (.int 0))) (evCons (evBin fIx (evV 3) (evC (.int 0))) evNil))) evNil))) sNil) (seqS (sSet 12 (evLstC evNil)) (seqS (sFor (evRng1 (evV 7)) (tgN 10) (seqS (sSet 13 (evMake 0 2 m_Ratiou_initu [] (evCons (evBin fAdd (evC (.int 1)) (evCall m__law_draw [] (evCons (evV 0) (evCons (evC (.int 4)) evNil)))) (evCons (evBin fAdd (evC (.int 1)) (evCall m__law_draw [] (evCons (evV 0) (evCons (evC (.int 2)) evNil)))) evNil)))) (sExpr (evBM isLst fApp (evV 12) (evCons (evTup (evCons (evBin (fOwn 0 m_Ratiou_addu) (evCall m__law_snumber [] (evCons (evV 0) evNil)) (evMake 0 2 m_Ratiou_initu [.int 1] (evCons (evBin fMul (evC (.int 8)) (evCall m__law_draw [] (evCons (evV 0) (evCons (evC (.int 2)) evNil)))) evNil))) (evCons (evV 13) (evCons (evBI fTupOf (evCons (evBin fIxD (evV 9) (evV 10)) evNil)) evNil)))) evNil))))) (seqS (sSet 14 (evLst (evCons (evCall m__law_weigh [] (evCons (evV 0) (evCons (evV 7) evNil))) (evCons (evCall m__law_zone [] (evCons (evV 0) (evCons (evV 7) (evCons (evV 6) evNil)))) (evCons (evCall m__law_weigh [] (evCons (evV 0) (evCons (evV 7) evNil))) evNil))))) (seqS (sSet 10 (evCall m__law_draw [] (evCons (evV 0) (evCons (evC (.int 3)) evNil)))) (sRet (evTup (evCons (evV 5) (evCons (evBI fTupOf (evCons (evV 12) evNil)) (evCons (evBI fTupOf (evCons (evBin fCatL (evSl (evV 14) (evPt (evV 10)) evNoP) (evSl (evV 14) evNoP (evPt (evV 10)))) evNil)) evNil))))))))))))))))))
noncomputable def m__law_show : FSem := arF 3 (bodySem 15 sv__law_show)
theorem ar__law_show : Arity m__law_show 3 := arF_ar
theorem le__law_show : ∀ ds μ r, m__law_show ds μ = some r → bodySem 15 sv__law_show ds μ = some r := arF_le
noncomputable def sv__law_sfault : SEv := (seqS (sIf (evB (evBin fEq (evV 2) (evC (.int 0)))) (sRet (evTup (evCons (evC (.str "none")) evNil))) sNil) (seqS (sIf (evB (evBin fEq (evV 2) (evC (.int 1)))) (sRet (evTup (evCons (evC (.str "stop")) evNil))) sNil) (seqS (sSet 3 (evBin fIx (evLst (evCons (evC (.int 0)) (evCons (evC (.int 1)) (evCons (evC (.int 2)) (evCons (evC (.int 3)) (evCons (evC (.int 9)) evNil)))))) (evCall m__law_draw [] (evCons (evV 0) (evCons (evC (.int 5)) evNil))))) (sRet (evTup (evCons (evC (.str "seize")) (evCons (evCall m__law_draw [] (evCons (evV 0) (evCons (evBI fLen (evCons (evBin fIx (evV 1) (evC (.int 1))) evNil)) evNil))) (evCons (evMake 0 2 m_Ratiou_initu [] (evCons (evV 3) (evCons (evBin fAdd (evC (.int 1)) (evCall m__law_draw [] (evCons (evV 0) (evCons (evC (.int 2)) evNil)))) evNil))) evNil))))))))
noncomputable def m__law_sfault : FSem := arF 3 (bodySem 4 sv__law_sfault)
theorem ar__law_sfault : Arity m__law_sfault 3 := arF_ar
theorem le__law_sfault : ∀ ds μ r, m__law_sfault ds μ = some r → bodySem 4 sv__law_sfault ds μ = some r := arF_le
noncomputable abbrev lb__law_stimes_0 : SEv := (seqS (sSet 6 (evBin (fOwn 0 m_Ratiou_addu) (evV 4) (evBin (fOwn 0 m_Ratiou_mulu) (evBin (fOwn 0 m_Ratiou_subu) (evV 5) (evV 4)) (evMake 0 2 m_Ratiou_initu [] (evCons (evCall m__law_draw [] (evCons (evV 0) (evCons (evC (.int 5)) evNil))) (evCons (evC (.int 4)) evNil)))))) (seqS (sIf (evB (evBin fGe (evV 3) (evC (.int 0)))) (sSet 6 (evBin (fOwn 0 m_Ratiou_addu) (evV 6) (evBin fIx (evV 2) (evV 3)))) sNil) (sExpr (evBM isLst fApp (evV 2) (evCons (evV 6) evNil)))))
noncomputable def sv__law_stimes : SEv := (seqS (sSet 2 (evLstC evNil)) (seqS (sFor (evIt (evV 1)) (tgT [3, 4, 5]) (seqS (sSet 6 (evBin (fOwn 0 m_Ratiou_addu) (evV 4) (evBin (fOwn 0 m_Ratiou_mulu) (evBin (fOwn 0 m_Ratiou_subu) (evV 5) (evV 4)) (evMake 0 2 m_Ratiou_initu [] (evCons (evCall m__law_draw [] (evCons (evV 0) (evCons (evC (.int 5)) evNil))) (evCons (evC (.int 4)) evNil)))))) (seqS (sIf (evB (evBin fGe (evV 3) (evC (.int 0)))) (sSet 6 (evBin (fOwn 0 m_Ratiou_addu) (evV 6) (evBin fIx (evV 2) (evV 3)))) sNil) (sExpr (evBM isLst fApp (evV 2) (evCons (evV 6) evNil)))))) (sRet (evV 2))))
noncomputable def m__law_stimes : FSem := arF 2 (bodySem 7 sv__law_stimes)
theorem ar__law_stimes : Arity m__law_stimes 2 := arF_ar
theorem le__law_stimes : ∀ ds μ r, m__law_stimes ds μ = some r → bodySem 7 sv__law_stimes ds μ = some r := arF_le
noncomputable def sv__law_smoment : SEv := (seqS (sSet 3 (evCall m__law_stimes [] (evCons (evV 0) (evCons (evBin fIx (evV 1) (evC (.int 0))) evNil)))) (seqS (sSet 4 (evMake 0 2 m_Ratiou_initu [.int 1] (evCons (evC (.int 0)) evNil))) (seqS (sIf (evB (evBin fNe (evBin fIx (evV 2) (evC (.int 0))) (evC (.str "none")))) (seqS (sSet 4 (evBin (fOwn 0 m_Ratiou_addu) (evBin fIx (evV 3) (evCall m__law_draw [] (evCons (evV 0) (evCons (evBI fLen (evCons (evV 3) evNil)) evNil)))) (evMake 0 2 m_Ratiou_initu [] (evCons (evCall m__law_draw [] (evCons (evV 0) (evCons (evC (.int 17)) evNil))) (evCons (evC (.int 4)) evNil))))) (sIf (evB (evBin fEq (evCall m__law_draw [] (evCons (evV 0) (evCons (evC (.int 6)) evNil))) (evC (.int 0)))) (sSet 4 (evMake 0 2 m_Ratiou_initu [] (evCons (evCall m__law_draw [] (evCons (evV 0) (evCons (evC (.int 9)) evNil))) (evCons (evC (.int 2)) evNil)))) sNil)) sNil) (seqS (sSet 5 (evBin (fOwn 0 m_Ratiou_addu) (evV 4) (evMake 0 2 m_Ratiou_initu [] (evCons (evCall m__law_draw [] (evCons (evV 0) (evCons (evC (.int 13)) evNil))) (evCons (evC (.int 4)) evNil))))) (seqS (sIf (evB (evBin fEq (evBin fIx (evV 2) (evC (.int 0))) (evC (.str "none")))) (sSet 5 (evBin (fOwn 0 m_Ratiou_addu) (evBin fIx (evV 3) (evCall m__law_draw [] (evCons (evV 0) (evCons (evBI fLen (evCons (evV 3) evNil)) evNil)))) (evMake 0 2 m_Ratiou_initu [] (evCons (evCall m__law_draw [] (evCons (evV 0) (evCons (evC (.int 25)) evNil))) (evCons (evC (.int 4)) evNil))))) sNil) (sRet (evTup (evCons (evV 3) (evCons (evV 4) (evCons (evV 5) evNil))))))))))
noncomputable def m__law_smoment : FSem := arF 3 (bodySem 6 sv__law_smoment)
theorem ar__law_smoment : Arity m__law_smoment 3 := arF_ar
theorem le__law_smoment : ∀ ds μ r, m__law_smoment ds μ = some r → bodySem 6 sv__law_smoment ds μ = some r := arF_le
noncomputable def sv_is_moment : SEv := (seqS (sAsgT (tgT [3, 4, 5]) (evV 2)) (seqS (sIf (tAndV' (evB (evBin fEq (evBin fIx (evV 1) (evC (.int 0))) (evC (.str "none")))) (evB (evBin (fNeO 0 m_Ratiou_equ) (evV 4) (evMake 0 2 m_Ratiou_initu [.int 1] (evCons (evC (.int 0)) evNil))))) (sRet (evC (.bl false))) sNil) (sRet (evAnd (evCall m_is_timing [] (evCons (evBin fIx (evV 0) (evC (.int 0))) (evCons (evV 3) evNil))) (evAnd (evUn fNot (evCall m_is_less [] (evCons (evV 4) (evCons (evMake 0 2 m_Ratiou_initu [.int 1] (evCons (evC (.int 0)) evNil)) evNil)))) (evUn fNot (evCall m_is_less [] (evCons (evV 5) (evCons (evV 4) evNil)))))))))
noncomputable def m_is_moment : FSem := arF 3 (bodySem 6 sv_is_moment)
theorem ar_is_moment : Arity m_is_moment 3 := arF_ar
theorem le_is_moment : ∀ ds μ r, m_is_moment ds μ = some r → bodySem 6 sv_is_moment ds μ = some r := arF_le
noncomputable abbrev lb__braked_0 : SEv := (sSet 7 (evBin (fOwn 0 m_Ratiou_addu) (evV 7) (evCall m_stopped [] (evCons (evV 9) (evCons (evV 5) (evCons (evBin (fOwn 0 m_Ratiou_subu) (evV 2) (evBin fIx (evV 1) (evV 8))) (evCons (evBin (fOwn 0 m_Ratiou_subu) (evV 3) (evBin fIx (evV 1) (evV 8))) evNil)))))))
noncomputable def sv__braked : SEv := (seqS (sAsgT (tgT [4, 5, 6]) (evV 0)) (seqS (sSet 7 (evV 4)) (seqS (sFor (evIt (evV 6)) (tgT [8, 9]) (sSet 7 (evBin (fOwn 0 m_Ratiou_addu) (evV 7) (evCall m_stopped [] (evCons (evV 9) (evCons (evV 5) (evCons (evBin (fOwn 0 m_Ratiou_subu) (evV 2) (evBin fIx (evV 1) (evV 8))) (evCons (evBin (fOwn 0 m_Ratiou_subu) (evV 3) (evBin fIx (evV 1) (evV 8))) evNil)))))))) (sRet (evV 7)))))
noncomputable def m__braked : FSem := arF 4 (bodySem 10 sv__braked)
theorem ar__braked : Arity m__braked 4 := arF_ar
theorem le__braked : ∀ ds μ r, m__braked ds μ = some r → bodySem 10 sv__braked ds μ = some r := arF_le
noncomputable abbrev lb__undisturbed_0 : SEv := (sSet 6 (evBin (fOwn 0 m_Ratiou_addu) (evV 6) (evCall m_position [] (evCons (evV 8) (evCons (evBin (fOwn 0 m_Ratiou_subu) (evV 2) (evBin fIx (evV 1) (evV 7))) evNil)))))
noncomputable def sv__undisturbed : SEv := (seqS (sAsgT (tgT [3, 4, 5]) (evV 0)) (seqS (sSet 6 (evV 3)) (seqS (sFor (evIt (evV 5)) (tgT [7, 8]) (sSet 6 (evBin (fOwn 0 m_Ratiou_addu) (evV 6) (evCall m_position [] (evCons (evV 8) (evCons (evBin (fOwn 0 m_Ratiou_subu) (evV 2) (evBin fIx (evV 1) (evV 7))) evNil)))))) (sRet (evV 6)))))
noncomputable def m__undisturbed : FSem := arF 3 (bodySem 9 sv__undisturbed)
theorem ar__undisturbed : Arity m__undisturbed 3 := arF_ar
theorem le__undisturbed : ∀ ds μ r, m__undisturbed ds μ = some r → bodySem 9 sv__undisturbed ds μ = some r := arF_le
noncomputable def sv_place : SEv := (seqS (sAsgT (tgT [4, 5, 6]) (evV 2)) (seqS (sSet 7 (evBin fIx (evBin fIx (evV 0) (evC (.int 1))) (evV 3))) (seqS (sIf (evB (evBin fEq (evBin fIx (evV 1) (evC (.int 0))) (evC (.str "none")))) (sRet (evCall m__undisturbed [] (evCons (evV 7) (evCons (evV 4) (evCons (evV 6) evNil))))) sNil) (seqS (sIf (evB (evBin fEq (evBin fIx (evV 1) (evC (.int 0))) (evC (.str "stop")))) (sRet (evCall m__braked [] (evCons (evV 7) (evCons (evV 4) (evCons (evV 5) (evCons (evV 6) evNil)))))) sNil) (seqS (sAsgT (tgT [8, 9, 10]) (evV 1)) (seqS (sIf (evB (evBin fEq (evV 3) (evV 9))) (sRet (evCall m__undisturbed [] (evCons (evV 7) (evCons (evV 4) (evCons (evV 5) evNil))))) sNil) (sRet (evCall m__braked [] (evCons (evV 7) (evCons (evV 4) (evCons (evBin (fOwn 0 m_Ratiou_addu) (evV 5) (evV 10)) (evCons (evV 6) evNil))))))))))))
noncomputable def m_place : FSem := arF 4 (bodySem 11 sv_place)
theorem ar_place : Arity m_place 4 := arF_ar
theorem le_place : ∀ ds μ r, m_place ds μ = some r → bodySem 11 sv_place ds μ = some r := arF_le
noncomputable def sv_is_kept : SEv := (seqS (sSet 4 (evBin fIx (evBin fIx (evV 0) (evC (.int 2))) (evV 1))) (seqS (sIf (evB (evBin fEq (evBin fIx (evV 4) (evC (.int 0))) (evC (.str "weigh")))) (seqS (sAsgT (tgT [5, 6, 7, 8, 9, 10]) (evV 4)) (seqS (sSet 11 (evBin (fOwn 0 m_Ratiou_addu) (evBin (fOwn 0 m_Ratiou_mulu) (evV 7) (evCall m_place [] (evCons (evV 0) (evCons (evV 2) (evCons (evV 3) (evCons (evV 6) evNil)))))) (evBin (fOwn 0 m_Ratiou_mulu) (evV 9) (evCall m_place [] (evCons (evV 0) (evCons (evV 2) (evCons (evV 3) (evCons (evV 8) evNil)))))))) (sRet (evUn fNot (evCall m_is_less [] (evCons (evV 11) (evCons (evV 10) evNil))))))) sNil) (seqS (sAsgT (tgT [5, 6, 12, 13, 14, 15]) (evV 4)) (seqS (sAsgT (tgT [16, 5, 17]) (evV 3)) (seqS (sIf (tOrV' (evB (evCall m_is_less [] (evCons (evV 17) (evCons (evBin fIx (evV 16) (evV 14)) evNil)))) (evB (evCall m_is_less [] (evCons (evBin fIx (evV 16) (evV 15)) (evCons (evV 17) evNil))))) (sRet (evC (.bl true))) sNil) (seqS (sSet 18 (evCall m_place [] (evCons (evV 0) (evCons (evV 2) (evCons (evV 3) (evCons (evV 6) evNil)))))) (sRet (evOr (evUn fNot (evCall m_is_less [] (evCons (evV 12) (evCons (evV 18) evNil)))) (evUn fNot (evCall m_is_less [] (evCons (evV 18) (evCons (evV 13) evNil))))))))))))
noncomputable def m_is_kept : FSem := arF 4 (bodySem 19 sv_is_kept)
theorem ar_is_kept : Arity m_is_kept 4 := arF_ar
theorem le_is_kept : ∀ ds μ r, m_is_kept ds μ = some r → bodySem 19 sv_is_kept ds μ = some r := arF_le
noncomputable abbrev lb__law_sstate_0 : SEv := (seqS (sSet 6 (evV 4)) (seqS (sIf (evB (evCall m__law_sless [] (evCons (evV 1) (evCons (evV 4) evNil)))) (sSet 6 (evV 1)) sNil) (seqS (sSet 2 (evBin (fOwn 0 m_Ratiou_addu) (evBin (fOwn 0 m_Ratiou_addu) (evV 2) (evBin (fOwn 0 m_Ratiou_mulu) (evV 3) (evV 6))) (evBin (fOwn 0 m_Ratiou_mulu) (evBin (fOwn 0 m_Ratiou_mulu) (evBin (fOwn 0 m_Ratiou_mulu) (evV 5) (evMake 0 2 m_Ratiou_initu [] (evCons (evC (.int 1)) (evCons (evC (.int 2)) evNil)))) (evV 6)) (evV 6)))) (seqS (sSet 3 (evBin (fOwn 0 m_Ratiou_addu) (evV 3) (evBin (fOwn 0 m_Ratiou_mulu) (evV 5) (evV 6)))) (seqS (sSet 1 (evBin (fOwn 0 m_Ratiou_subu) (evV 1) (evV 6))) (sIf (evB (evBin (fNeO 0 m_Ratiou_equ) (evV 6) (evV 4))) (sRet (evTup (evCons (evV 2) (evCons (evV 3) evNil)))) sNil))))))
noncomputable def sv__law_sstate : SEv := (seqS (sSet 2 (evMake 0 2 m_Ratiou_initu [.int 1] (evCons (evC (.int 0)) evNil))) (seqS (sSet 3 (evMake 0 2 m_Ratiou_initu [.int 1] (evCons (evC (.int 0)) evNil))) (seqS (sIf (evB (evCall m__law_sless [] (evCons (evV 1) (evCons (evMake 0 2 m_Ratiou_initu [.int 1] (evCons (evC (.int 0)) evNil)) evNil)))) (sRet (evTup (evCons (evV 2) (evCons (evV 3) evNil)))) sNil) (seqS (sFor (evIt (evV 0)) (tgT [4, 5]) (seqS (sSet 6 (evV 4)) (seqS (sIf (evB (evCall m__law_sless [] (evCons (evV 1) (evCons (evV 4) evNil)))) (sSet 6 (evV 1)) sNil) (seqS (sSet 2 (evBin (fOwn 0 m_Ratiou_addu) (evBin (fOwn 0 m_Ratiou_addu) (evV 2) (evBin (fOwn 0 m_Ratiou_mulu) (evV 3) (evV 6))) (evBin (fOwn 0 m_Ratiou_mulu) (evBin (fOwn 0 m_Ratiou_mulu) (evBin (fOwn 0 m_Ratiou_mulu) (evV 5) (evMake 0 2 m_Ratiou_initu [] (evCons (evC (.int 1)) (evCons (evC (.int 2)) evNil)))) (evV 6)) (evV 6)))) (seqS (sSet 3 (evBin (fOwn 0 m_Ratiou_addu) (evV 3) (evBin (fOwn 0 m_Ratiou_mulu) (evV 5) (evV 6)))) (seqS (sSet 1 (evBin (fOwn 0 m_Ratiou_subu) (evV 1) (evV 6))) (sIf (evB (evBin (fNeO 0 m_Ratiou_equ) (evV 6) (evV 4))) (sRet (evTup (evCons (evV 2) (evCons (evV 3) evNil)))) sNil))))))) (sRet (evTup (evCons (evV 2) (evCons (evV 3) evNil))))))))
noncomputable def m__law_sstate : FSem := arF 2 (bodySem 7 sv__law_sstate)
theorem ar__law_sstate : Arity m__law_sstate 2 := arF_ar
theorem le__law_sstate : ∀ ds μ r, m__law_sstate ds μ = some r → bodySem 7 sv__law_sstate ds μ = some r := arF_le
noncomputable abbrev lb__law_moving_0 : SEv := (seqS (sAsgT (tgT [7, 8]) (evCall m__law_sstate [] (evCons (evV 6) (evCons (evBin (fOwn 0 m_Ratiou_subu) (evV 2) (evBin fIx (evV 1) (evV 5))) evNil)))) (seqS (sSet 3 (evBin (fOwn 0 m_Ratiou_addu) (evV 3) (evV 7))) (sSet 4 (evBin (fOwn 0 m_Ratiou_addu) (evV 4) (evV 8)))))
noncomputable def sv__law_moving : SEv := (seqS (sSet 3 (evBin fIx (evV 0) (evC (.int 0)))) (seqS (sSet 4 (evMake 0 2 m_Ratiou_initu [.int 1] (evCons (evC (.int 0)) evNil))) (seqS (sFor (evIt (evBin fIx (evV 0) (evC (.int 2)))) (tgT [5, 6]) (seqS (sAsgT (tgT [7, 8]) (evCall m__law_sstate [] (evCons (evV 6) (evCons (evBin (fOwn 0 m_Ratiou_subu) (evV 2) (evBin fIx (evV 1) (evV 5))) evNil)))) (seqS (sSet 3 (evBin (fOwn 0 m_Ratiou_addu) (evV 3) (evV 7))) (sSet 4 (evBin (fOwn 0 m_Ratiou_addu) (evV 4) (evV 8)))))) (sRet (evTup (evCons (evV 3) (evCons (evV 4) evNil)))))))
noncomputable def m__law_moving : FSem := arF 3 (bodySem 9 sv__law_moving)
theorem ar__law_moving : Arity m__law_moving 3 := arF_ar
theorem le__law_moving : ∀ ds μ r, m__law_moving ds μ = some r → bodySem 9 sv__law_moving ds μ = some r := arF_le
noncomputable def sv__law_braked : SEv := (seqS (sAsgT (tgT [4, 5]) (evCall m__law_moving [] (evCons (evV 0) (evCons (evV 1) (evCons (evV 2) evNil))))) (seqS (sSet 6 (evMake 0 2 m_Ratiou_initu [.int 1] (evCons (evC (.int 1)) evNil))) (seqS (sIf (evB (evBin fLt (evUn (fFld 0 0) (evV 5)) (evC (.int 0)))) (sSet 6 (evMake 0 2 m_Ratiou_initu [.int 1] (evCons (evUn fNeg (evC (.int 1))) evNil))) sNil) (seqS (sSet 7 (evBin (fOwn 0 m_Ratiou_subu) (evV 3) (evV 2))) (seqS (sSet 8 (evCall m__law_sover [] (evCons (evBin (fOwn 0 m_Ratiou_mulu) (evV 5) (evV 6)) (evCons (evBin fIx (evV 0) (evC (.int 1))) evNil)))) (seqS (sIf (evB (evCall m__law_sless [] (evCons (evV 8) (evCons (evV 7) evNil)))) (sSet 7 (evV 8)) sNil) (sRet (evBin (fOwn 0 m_Ratiou_subu) (evBin (fOwn 0 m_Ratiou_addu) (evV 4) (evBin (fOwn 0 m_Ratiou_mulu) (evV 5) (evV 7))) (evBin (fOwn 0 m_Ratiou_mulu) (evBin (fOwn 0 m_Ratiou_mulu) (evBin (fOwn 0 m_Ratiou_mulu) (evBin (fOwn 0 m_Ratiou_mulu) (evV 6) (evBin fIx (evV 0) (evC (.int 1)))) (evMake 0 2 m_Ratiou_initu [] (evCons (evC (.int 1)) (evCons (evC (.int 2)) evNil)))) (evV 7)) (evV 7))))))))))
noncomputable def m__law_braked : FSem := arF 4 (bodySem 9 sv__law_braked)
theorem ar__law_braked : Arity m__law_braked 4 := arF_ar
theorem le__law_braked : ∀ ds μ r, m__law_braked ds μ = some r → bodySem 9 sv__law_braked ds μ = some r := arF_le
noncomputable def sv__law_place : SEv := (seqS (sAsgT (tgT [4, 5, 6]) (evV 2)) (seqS (sSet 7 (evBin fIx (evBin fIx (evV 0) (evC (.int 1))) (evV 3))) (seqS (sIf (evB (evBin fEq (evBin fIx (evV 1) (evC (.int 0))) (evC (.str "stop")))) (sRet (evCall m__law_braked [] (evCons (evV 7) (evCons (evV 4) (evCons (evV 5) (evCons (evV 6) evNil)))))) sNil) (seqS (sIf (tAndV' (evB (evBin fEq (evBin fIx (evV 1) (evC (.int 0))) (evC (.str "seize")))) (evB (evBin fEq (evV 3) (evBin fIx (evV 1) (evC (.int 1)))))) (sRet (evBin fIx (evCall m__law_moving [] (evCons (evV 7) (evCons (evV 4) (evCons (evV 5) evNil)))) (evC (.int 0)))) sNil) (seqS (sIf (tAndV' (evB (evBin fEq (evBin fIx (evV 1) (evC (.int 0))) (evC (.str "seize")))) (evB (evCall m__law_sless [] (evCons (evBin (fOwn 0 m_Ratiou_addu) (evV 5) (evBin fIx (evV 1) (evC (.int 2)))) (evCons (evV 6) evNil))))) (sRet (evCall m__law_braked [] (evCons (evV 7) (evCons (evV 4) (evCons (evBin (fOwn 0 m_Ratiou_addu) (evV 5) (evBin fIx (evV 1) (evC (.int 2)))) (evCons (evV 6) evNil)))))) sNil) (sRet (evBin fIx (evCall m__law_moving [] (evCons (evV 7) (evCons (evV 4) (evCons (evV 6) evNil)))) (evC (.int 0)))))))))
noncomputable def m__law_place : FSem := arF 4 (bodySem 8 sv__law_place)
theorem ar__law_place : Arity m__law_place 4 := arF_ar
theorem le__law_place : ∀ ds μ r, m__law_place ds μ = some r → bodySem 8 sv__law_place ds μ = some r := arF_le
noncomputable def sv__law_weighed : SEv := (seqS (sAsgT (tgT [4, 5, 6, 7, 8, 9]) (evBin fIx (evBin fIx (evV 0) (evC (.int 2))) (evV 1))) (sRet (evBin (fOwn 0 m_Ratiou_subu) (evBin (fOwn 0 m_Ratiou_addu) (evBin (fOwn 0 m_Ratiou_mulu) (evV 6) (evCall m__law_place [] (evCons (evV 0) (evCons (evV 2) (evCons (evV 3) (evCons (evV 5) evNil)))))) (evBin (fOwn 0 m_Ratiou_mulu) (evV 8) (evCall m__law_place [] (evCons (evV 0) (evCons (evV 2) (evCons (evV 3) (evCons (evV 7) evNil))))))) (evV 9))))
noncomputable def m__law_weighed : FSem := arF 4 (bodySem 10 sv__law_weighed)
theorem ar__law_weighed : Arity m__law_weighed 4 := arF_ar
theorem le__law_weighed : ∀ ds μ r, m__law_weighed ds μ = some r → bodySem 10 sv__law_weighed ds μ = some r := arF_le
noncomputable def sv__law_kept : SEv := (seqS (sAsgT (tgT [4, 5, 6, 7, 8, 9]) (evBin fIx (evBin fIx (evV 0) (evC (.int 2))) (evV 1))) (seqS (sIf (evB (evBin fEq (evV 4) (evC (.str "weigh")))) (sRet (evBin fGe (evUn (fFld 0 0) (evCall m__law_weighed [] (evCons (evV 0) (evCons (evV 1) (evCons (evV 2) (evCons (evV 3) evNil)))))) (evC (.int 0)))) sNil) (seqS (sAsgT (tgT [10, 11, 12]) (evV 3)) (seqS (sIf (tOrV' (evB (evCall m__law_sless [] (evCons (evV 12) (evCons (evBin fIx (evV 10) (evV 8)) evNil)))) (evB (evCall m__law_sless [] (evCons (evBin fIx (evV 10) (evV 9)) (evCons (evV 12) evNil))))) (sRet (evC (.bl true))) sNil) (seqS (sSet 13 (evCall m__law_place [] (evCons (evV 0) (evCons (evV 2) (evCons (evV 3) (evCons (evV 5) evNil)))))) (sRet (evOr (evUn fNot (evCall m__law_sless [] (evCons (evV 6) (evCons (evV 13) evNil)))) (evUn fNot (evCall m__law_sless [] (evCons (evV 13) (evCons (evV 7) evNil)))))))))))
noncomputable def m__law_kept : FSem := arF 4 (bodySem 14 sv__law_kept)
theorem ar__law_kept : Arity m__law_kept 4 := arF_ar
theorem le__law_kept : ∀ ds μ r, m__law_kept ds μ = some r → bodySem 14 sv__law_kept ds μ = some r := arF_le
end Vs
namespace Vs
open PySem PySem.Spec PyProof.Rows L2
section
variable {δ : Sl}
theorem set_self {ν : Mu} {l : Nat} {o : Option MO} (h : ν[l]? = some o) : ν.set l o = ν := by
  apply List.ext_getElem?
  intro i
  by_cases hi : l = i
  · subst hi
    rw [List.getElem?_set_self (List.getElem?_eq_some_iff.mp h).1, h]
  · rw [List.getElem?_set_ne hi]
theorem take_of_set {ν : Mu} {l n : Nat} {o : Option MO} : (ν.set l o).take n = (ν.take n).set l o := by
  apply List.ext_getElem?
  intro i
  by_cases hn : i < n
  · rw [List.getElem?_take_of_lt hn]
    by_cases hi : l = i
    · subst hi
      rw [List.getElem?_set, List.getElem?_set]
      simp only [if_true, List.length_take]
      by_cases q : l < ν.length
      · rw [if_pos q, if_pos (by omega)]
      · rw [if_neg q, if_neg (by omega)]
    · rw [List.getElem?_set_ne hi, List.getElem?_set_ne hi, List.getElem?_take_of_lt hn]
  · rw [List.getElem?_eq_none (by rw [List.length_take]; omega), List.getElem?_eq_none (by rw [List.length_set, List.length_take]; omega)]
/-- the state of the outer loop: its squares stand behind what was -/
structure Iv (μ : Mu) (l : Nat) (s : SS) (ν : Mu) (acc : List P) : Prop where
  t : ν.take μ.length = μ.set l (st s)
  p : ν[μ.length]? = some (some (.lst acc))
theorem Iv.lt {μ ν : Mu} {l : Nat} {s : SS} {acc : List P} (h : Iv μ l s ν acc) : μ.length < ν.length := (List.getElem?_eq_some_iff.mp h.p).1
theorem Iv.at {μ ν : Mu} {l : Nat} {s : SS} {acc : List P} (h : Iv μ l s ν acc) (hl : l < μ.length) : ν.set l (st s) = ν := by
  refine set_self ?_
  have e : (ν.take μ.length)[l]? = some (st s) := by rw [h.t, List.getElem?_set_self hl]
  rwa [List.getElem?_take_of_lt hl] at e
theorem Iv.draw {μ ν : Mu} {l : Nat} {s s' : SS} {acc : List P} (h : Iv μ l s ν acc) (hl : l < μ.length) : Iv μ l s' (ν.set l (st s')) acc :=
  ⟨by rw [take_of_set, h.t]; exact st_set, by rw [List.getElem?_set_ne (by omega)]; exact h.p⟩
end
end Vs
namespace Vs.Bar
abbrev Vec := Nat → Int
abbrev Mat := Nat → Vec
/-- a sum of c terms -/
def S : Nat → (Nat → Int) → Int
  | 0, _ => 0
  | c + 1, f => S c f + f c
theorem S_congr : ∀ {c : Nat} {f g : Nat → Int}, (∀ l, l < c → f l = g l) → S c f = S c g
  | 0, _, _, _ => rfl
  | c + 1, f, g, h => by
    show S c f + f c = S c g + g c
    rw [S_congr (fun l hl => h l (by omega)), h c (by omega)]
theorem S_zero : ∀ {c : Nat} {f : Nat → Int}, (∀ l, l < c → f l = 0) → S c f = 0
  | 0, _, _ => rfl
  | c + 1, f, h => by
    show S c f + f c = 0
    rw [S_zero (fun l hl => h l (by omega)), h c (by omega)]; rfl
theorem S_lin (a b : Int) : ∀ (c : Nat) (f g : Nat → Int), S c (fun l => a * f l + b * g l) = a * S c f + b * S c g
  | 0, _, _ => by simp [S]
  | c + 1, f, g => by
    show S c _ + _ = a * (S c f + f c) + b * (S c g + g c)
    rw [S_lin a b c f g]; grind
theorem S_mul (a : Int) (c : Nat) (f : Nat → Int) : S c (fun l => a * f l) = a * S c f := by
  have := S_lin a 0 c f (fun _ => 0)
  simpa using this
theorem S_one {i : Nat} : ∀ {c : Nat} {f : Nat → Int}, i < c → (∀ l, l < c → l ≠ i → f l = 0) → S c f = f i
  | 0, _, h, _ => by omega
  | c + 1, f, h, k => by
    show S c f + f c = f i
    by_cases e : i = c
    · subst e
      rw [S_zero fun l hl => k l (by omega) (by omega)]; omega
    · rw [S_one (i := i) (by omega) fun l hl n => k l (by omega) n, k c (by omega) (by omega)]; omega
theorem S_if {i : Nat} {c : Nat} (h : i < c) (x : Int) : S c (fun m => if m = i then x else 0) = x := by
  rw [S_one (f := fun m => if m = i then x else 0) h (fun m _ h => by simp [h])]; simp
theorem S_two {i m : Nat} {c : Nat} {f : Nat → Int} (hi : i < c) (hm : m < c) (n : i ≠ m) (k : ∀ l, l < c → l ≠ i → l ≠ m → f l = 0) : S c f = f i + f m := by
  have e : S c f = S c (fun l => 1 * (if l = i then f i else 0) + 1 * (if l = m then f m else 0)) := by
    refine S_congr fun l hl => ?_
    by_cases h1 : l = i
    · subst h1; simp [n]
    · by_cases h2 : l = m
      · subst h2; simp [h1]
      · rw [k l hl h1 h2]; simp [h1, h2]
  rw [e, S_lin, S_one hi (fun l _ h => by simp [h]), S_one hm (fun l _ h => by simp [h])]
  simp
/-- a row replaced -/
def upd (v : Mat) (l : Nat) (x : Vec) : Mat := fun i => if i = l then x else v i
theorem upd_self (v : Mat) (l : Nat) (x : Vec) : upd v l x l = x := by simp [upd]
theorem upd_ne (v : Mat) {l i : Nat} (x : Vec) (h : i ≠ l) : upd v l x i = v i := by simp [upd, h]
theorem upd_id (v : Mat) (l : Nat) : upd v l (v l) = v := by funext i; by_cases h : i = l <;> simp [upd, h]
theorem upd_upd (v : Mat) (l : Nat) (x y : Vec) : upd (upd v l x) l y = upd v l y := by funext i; by_cases h : i = l <;> simp [upd, h]
theorem upd_comm (v : Mat) {l m : Nat} (x y : Vec) (h : l ≠ m) : upd (upd v l x) m y = upd (upd v m y) l x := by
  funext i
  by_cases h1 : i = l
  · subst h1; simp [upd, h]
  · by_cases h2 : i = m
    · subst h2; simp [upd, h1]
    · simp [upd, h1, h2]
/-- the determinant of the first c columns of the first c rows -/
def Dt : Nat → Mat → Int
  | 0, _ => 1
  | c + 1, v => Dt c v * v c c - S c (fun l => Dt c (upd v l (v c)) * v l c)
theorem Dt_congr : ∀ {c : Nat} {v w : Mat}, (∀ i j, i < c → j < c → v i j = w i j) → Dt c v = Dt c w
  | 0, _, _, _ => rfl
  | c + 1, v, w, h => by
    show Dt c v * v c c - _ = Dt c w * w c c - _
    rw [Dt_congr (fun i j hi hj => h i j (by omega) (by omega)), h c c (by omega) (by omega)]
    congr 1
    refine S_congr fun l hl => ?_
    rw [h l c (by omega) (by omega)]
    congr 1
    refine Dt_congr fun i j hi hj => ?_
    by_cases e : i = l
    · subst e; rw [upd_self, upd_self]; exact h c j (by omega) (by omega)
    · rw [upd_ne _ _ e, upd_ne _ _ e]; exact h i j (by omega) (by omega)
theorem Dt_lin (a b : Int) (x y : Vec) : ∀ {c : Nat} {v : Mat} {l : Nat}, l < c → Dt c (upd v l (fun j => a * x j + b * y j)) = a * Dt c (upd v l x) + b * Dt c (upd v l y)
  | 0, _, _, h => by omega
  | c + 1, v, l, h => by
    by_cases e : l = c
    · subst e
      have f : ∀ z : Vec, Dt (l + 1) (upd v l z) = Dt l v * z l - S l (fun m => Dt l (upd v m z) * v m l) := fun z => by
        show Dt l (upd v l z) * (upd v l z) l l - _ = _
        rw [upd_self]
        rw [Dt_congr (w := v) fun i j hi hj => by rw [upd_ne _ _ (by omega)]]
        congr 1
        refine S_congr fun m hm => ?_
        rw [upd_ne _ _ (show m ≠ l by omega)]
        rw [Dt_congr (w := upd v m z) fun i j hi hj => by
          by_cases e : i = m
          · subst e; rw [upd_self, upd_self]
          · rw [upd_ne _ _ e, upd_ne _ _ e, upd_ne _ _ (by omega)]]
      rw [f, f, f]
      have : S l (fun m => Dt l (upd v m fun j => a * x j + b * y j) * v m l) = a * S l (fun m => Dt l (upd v m x) * v m l) + b * S l (fun m => Dt l (upd v m y) * v m l) := by
        rw [← S_lin]
        refine S_congr fun m hm => ?_
        rw [Dt_lin a b x y hm]; grind
      rw [this]; grind
    · have hl : l < c := by omega
      have f : ∀ z : Vec, Dt (c + 1) (upd v l z) = Dt c (upd v l z) * v c c - (S c (fun m => if m = l then 0 else Dt c (upd (upd v m (v c)) l z) * v m c) + Dt c (upd v l (v c)) * z c) := fun z => by
        show Dt c (upd v l z) * (upd v l z) c c - S c (fun m => Dt c (upd (upd v l z) m ((upd v l z) c)) * (upd v l z) m c) = _
        rw [upd_ne _ _ (show c ≠ l by omega)]
        congr 1
        have e1 : S c (fun m => Dt c (upd (upd v l z) m (v c)) * (upd v l z) m c) = S c (fun m => 1 * (if m = l then 0 else Dt c (upd (upd v m (v c)) l z) * v m c) + 1 * (if m = l then Dt c (upd v l (v c)) * z c else 0)) := by
          refine S_congr fun m hm => ?_
          by_cases e : m = l
          · subst e; rw [upd_upd, upd_self]; simp
          · rw [upd_ne _ _ e, upd_comm _ _ _ (fun q => e q.symm)]; simp [e]
        rw [e1, S_lin, S_if hl]
        simp
      rw [f, f, f, Dt_lin a b x y hl]
      have : S c (fun m => if m = l then 0 else Dt c (upd (upd v m (v c)) l fun j => a * x j + b * y j) * v m c) = a * S c (fun m => if m = l then 0 else Dt c (upd (upd v m (v c)) l x) * v m c) + b * S c (fun m => if m = l then 0 else Dt c (upd (upd v m (v c)) l y) * v m c) := by
        rw [← S_lin]
        refine S_congr fun m hm => ?_
        by_cases e : m = l
        · simp [e]
        · simp only [if_neg e]
          rw [Dt_lin a b x y hl]; grind
      rw [this]; grind
/-- two rows turned about, if equal rows give 0 -/
theorem Dt_swap' {c : Nat} (alt : ∀ (v : Mat) (i j : Nat), i < c → j < c → i ≠ j → v i = v j → Dt c v = 0) (v : Mat) {i j : Nat} (hi : i < c) (hj : j < c) (n : i ≠ j) (x y : Vec) : Dt c (upd (upd v i x) j y) = - Dt c (upd (upd v i y) j x) := by
  have z := alt (upd (upd v i (fun k => 1 * x k + 1 * y k)) j (fun k => 1 * x k + 1 * y k)) i j hi hj n (by rw [upd_ne _ _ n, upd_self, upd_self])
  rw [Dt_lin 1 1 x y hj, upd_comm _ _ _ n, Dt_lin 1 1 x y hi, upd_comm (v := v) _ _ n, Dt_lin 1 1 x y hi] at z
  have z1 := alt (upd (upd v i x) j x) i j hi hj n (by rw [upd_ne _ _ n, upd_self, upd_self])
  have z2 := alt (upd (upd v i y) j y) i j hi hj n (by rw [upd_ne _ _ n, upd_self, upd_self])
  rw [upd_comm _ _ _ n] at z1 z2
  rw [upd_comm _ _ _ n, upd_comm _ y x n]
  omega
theorem Dt_alt : ∀ {c : Nat} (v : Mat) (i j : Nat), i < c → j < c → i ≠ j → v i = v j → Dt c v = 0
  | 0, _, _, _, h, _, _, _ => by omega
  | c + 1, v, i, j, hi, hj, n, e => by
    have main : ∀ (i j : Nat), i < c + 1 → j < c + 1 → i < j → v i = v j → Dt (c + 1) v = 0 := fun i j hi hj n e => by
      show Dt c v * v c c - S c (fun l => Dt c (upd v l (v c)) * v l c) = 0
      by_cases hc : j = c
      · subst hc
        rw [S_one (i := i) n (fun l hl h => by
          rw [Dt_alt (upd v l (v j)) l i hl (by omega) h (by rw [upd_self, upd_ne _ _ (Ne.symm h)]; exact e.symm)]; simp)]
        rw [← e, upd_id]; omega
      · rw [Dt_alt v i j (by omega) (by omega) (by omega) e]
        rw [S_two (i := i) (m := j) (by omega) (by omega) (by omega) (fun l hl h1 h2 => by
          rw [Dt_alt (upd v l (v c)) i j (by omega) (by omega) (by omega) (by rw [upd_ne _ _ (Ne.symm h1), upd_ne _ _ (Ne.symm h2)]; exact e)]; simp)]
        have s := Dt_swap' (c := c) (fun v i j => Dt_alt v i j) v (i := i) (j := j) (by omega) (by omega) (by omega) (v c) (v i)
        rw [upd_comm _ _ _ (show i ≠ j by omega), show upd (upd v j (v i)) i (v c) = upd v i (v c) by rw [e, upd_id], upd_id] at s
        rw [s, e]; grind
    rcases Nat.lt_or_gt_of_ne n with h | h
    · exact main i j hi hj h e
    · exact main j i hj hi h e.symm
theorem Dt_swap {c : Nat} (v : Mat) {i j : Nat} (hi : i < c) (hj : j < c) (n : i ≠ j) (x y : Vec) : Dt c (upd (upd v i x) j y) = - Dt c (upd (upd v i y) j x) := Dt_swap' (fun v i j => Dt_alt v i j) v hi hj n x y
theorem Dt_sum {c : Nat} {v : Mat} {i : Nat} (hi : i < c) (a : Nat → Int) (w : Mat) : ∀ (m : Nat), Dt c (upd v i (fun j => S m (fun k => a k * w k j))) = S m (fun k => a k * Dt c (upd v i (w k)))
  | 0 => by
    have := Dt_lin 0 0 (fun _ => 0) (fun _ => 0) (v := v) hi
    simpa [S] using this
  | m + 1 => by
    have := Dt_lin 1 (a m) (fun j => S m (fun k => a k * w k j)) (w m) (v := v) hi
    rw [Dt_sum hi a w m] at this
    simpa [S] using this
/-- the row u less its part in the first c rows -/
def W (c : Nat) (v : Mat) (u : Vec) : Vec := fun j => Dt c v * u j - S c (fun l => Dt c (upd v l u) * v l j)
theorem W_congr {c : Nat} {v w : Mat} {u : Vec} (h : ∀ i, i < c → v i = w i) (j : Nat) : W c v u j = W c w u j := by
  unfold W
  rw [Dt_congr (w := w) fun i j hi _ => by rw [h i hi]]
  congr 1
  refine S_congr fun l hl => ?_
  rw [h l hl, Dt_congr (w := upd w l u) fun i j hi _ => by
    by_cases e : i = l
    · subst e; rw [upd_self, upd_self]
    · rw [upd_ne _ _ e, upd_ne _ _ e, h i hi]]
theorem Dt_W (c : Nat) (v : Mat) (u : Vec) : Dt (c + 1) (upd v c u) = W c v u c := by
  show Dt c (upd v c u) * (upd v c u) c c - S c (fun l => Dt c (upd (upd v c u) l ((upd v c u) c)) * (upd v c u) l c) = _
  unfold W
  rw [upd_self, Dt_congr (w := v) fun i j hi _ => by rw [upd_ne _ _ (by omega)]]
  congr 1
  refine S_congr fun l hl => ?_
  rw [upd_ne _ _ (show l ≠ c by omega), Dt_congr (w := upd v l u) fun i j hi _ => by
    by_cases e : i = l
    · subst e; rw [upd_self, upd_self]
    · rw [upd_ne _ _ e, upd_ne _ _ e, upd_ne _ _ (by omega)]]
def Cramer (c : Nat) (v : Mat) : Prop := ∀ u j, j < c → W c v u j = 0
theorem pluecker {c : Nat} {v : Mat} (h : Cramer c v) (u r : Vec) {l i : Nat} (hl : l < c) (hi : i < c) (n : l ≠ i) : Dt c v * Dt c (upd (upd v l u) i r) = Dt c (upd v l u) * Dt c (upd v i r) - Dt c (upd v l r) * Dt c (upd v i u) := by
  have e1 : Dt c v * Dt c (upd (upd v l u) i r) = Dt c (upd (upd v l u) i (fun j => S c (fun m => Dt c (upd v m r) * v m j))) := by
    have := Dt_lin (Dt c v) 0 r r (v := upd v l u) hi
    rw [Int.zero_mul, Int.add_zero] at this
    rw [← this]
    refine Dt_congr fun a j ha hj => ?_
    by_cases e : a = i
    · subst e
      rw [upd_self, upd_self]
      have := h r j hj
      unfold W at this
      omega
    · rw [upd_ne _ _ e, upd_ne _ _ e]
  rw [e1, Dt_sum hi]
  rw [S_two (i := i) (m := l) hi hl (Ne.symm n) (fun m hm h1 h2 => by
    rw [Dt_alt (upd (upd v l u) i (v m)) m i hm hi h1 (by rw [upd_self, upd_ne _ _ h1, upd_ne _ _ h2])]; simp)]
  rw [Dt_swap v hl hi n u (v l), upd_id, upd_comm _ _ _ n, upd_id]
  grind
theorem star {c : Nat} {v : Mat} (h : Cramer c v) (r u : Vec) (j : Nat) : Dt c v * W (c + 1) (upd v c r) u j = W c v r c * W c v u j - W c v u c * W c v r j := by
  have d : ∀ l, l < c → Dt c v * Dt (c + 1) (upd (upd v c r) l u) = Dt c (upd v l u) * W c v r c - Dt c (upd v l r) * W c v u c := fun l hl => by
    rw [← upd_comm _ _ _ (show l ≠ c by omega), Dt_W]
    have e2 : Dt c v * S c (fun m => Dt c (upd (upd v l u) m r) * upd v l u m c) = S c (fun m => 1 * ((Dt c (upd v l u) * Dt c (upd v m r) - Dt c (upd v l r) * Dt c (upd v m u)) * v m c) + 1 * (if m = l then Dt c v * Dt c (upd v l r) * u c else 0)) := by
      rw [← S_mul]
      refine S_congr fun m hm => ?_
      by_cases e : m = l
      · subst e; rw [upd_upd, upd_self, if_pos rfl]; grind
      · rw [upd_ne _ _ e, if_neg e, ← pluecker h u r hl hm (Ne.symm e)]; grind
    have e3 : S c (fun m => (Dt c (upd v l u) * Dt c (upd v m r) - Dt c (upd v l r) * Dt c (upd v m u)) * v m c) = Dt c (upd v l u) * S c (fun m => Dt c (upd v m r) * v m c) + (- Dt c (upd v l r)) * S c (fun m => Dt c (upd v m u) * v m c) := by
      rw [← S_lin]
      refine S_congr fun m hm => ?_
      grind
    rw [S_lin, e3, S_if hl] at e2
    have e4 : Dt c v * W c (upd v l u) r c = Dt c v * (Dt c (upd v l u) * r c) - Dt c v * S c (fun m => Dt c (upd (upd v l u) m r) * upd v l u m c) := by
      unfold W; grind
    rw [e4, e2]
    unfold W
    grind
  have e5 : Dt c v * S (c + 1) (fun l => Dt (c + 1) (upd (upd v c r) l u) * upd v c r l j) = W c v r c * S c (fun l => Dt c (upd v l u) * v l j) + (- W c v u c) * S c (fun l => Dt c (upd v l r) * v l j) + Dt c v * (W c v u c * r j) := by
    show Dt c v * (S c (fun l => Dt (c + 1) (upd (upd v c r) l u) * upd v c r l j) + Dt (c + 1) (upd (upd v c r) c u) * upd v c r c j) = _
    rw [upd_upd, Dt_W, upd_self, ← S_lin, Int.mul_add, ← S_mul]
    congr 1
    refine S_congr fun l hl => ?_
    rw [upd_ne _ _ (show l ≠ c by omega), ← Int.mul_assoc, d l hl]; grind
  have e6 : Dt c v * W (c + 1) (upd v c r) u j = Dt c v * (W c v r c * u j) - Dt c v * S (c + 1) (fun l => Dt (c + 1) (upd (upd v c r) l u) * upd v c r l j) := by
    show Dt c v * (Dt (c + 1) (upd v c r) * u j - _) = _
    rw [Dt_W]; grind
  rw [e6, e5]
  have e7 : W c v u j = Dt c v * u j - S c (fun l => Dt c (upd v l u) * v l j) := rfl
  have e8 : W c v r j = Dt c v * r j - S c (fun l => Dt c (upd v l r) * v l j) := rfl
  rw [e7, e8]
  grind
theorem cramer0 (v : Mat) : Cramer 0 v := fun _ _ h => by omega
theorem cramer_succ {c : Nat} {v : Mat} (h : Cramer c v) (hd : Dt c v ≠ 0) (r : Vec) : Cramer (c + 1) (upd v c r) := fun u j hj => by
  have s := star h r u j
  have z : Dt c v * W (c + 1) (upd v c r) u j = 0 := by
    rw [s]
    by_cases e : j = c
    · subst e; grind
    · rw [h u j (by omega), h r j (by omega)]; simp
  exact (Int.mul_eq_zero.mp z).resolve_left hd
/-- a unit row -/
def un (i : Nat) : Vec := fun j => if j = i then 1 else 0
theorem W_un {c : Nat} {v : Mat} (i : Nat) (hi : c ≤ i) (j : Nat) : W c v (un i) j = Dt c v * un i j := by
  unfold W
  rw [S_zero fun l hl => by
    have : Dt c (upd v l (un i)) = 0 := by
      have z := Dt_lin 0 0 (un i) (un i) (v := v) hl
      simp only [Int.zero_mul, Int.add_zero] at z
      rw [← z]
      refine Dt_congr fun a k ha hk => ?_
      by_cases e : a = l
      · subst e; rw [upd_self, upd_self]; simp [un]; omega
      · rw [upd_ne _ _ e, upd_ne _ _ e]
    rw [this]; simp]
  omega
end Vs.Bar
namespace Vs.Bar
def SR : Nat → (Nat → Rat) → Rat
  | 0, _ => 0
  | c + 1, f => SR c f + f c
theorem SR_congr : ∀ {c : Nat} {f g : Nat → Rat}, (∀ l, l < c → f l = g l) → SR c f = SR c g
  | 0, _, _, _ => rfl
  | c + 1, f, g, h => by
    show SR c f + f c = SR c g + g c
    rw [SR_congr (fun l hl => h l (by omega)), h c (by omega)]
theorem SR_zero : ∀ {c : Nat} {f : Nat → Rat}, (∀ l, l < c → f l = 0) → SR c f = 0
  | 0, _, _ => rfl
  | c + 1, f, h => by
    show SR c f + f c = 0
    rw [SR_zero (fun l hl => h l (by omega)), h c (by omega)]; grind
theorem SR_lin (a b : Rat) : ∀ (c : Nat) (f g : Nat → Rat), SR c (fun l => a * f l + b * g l) = a * SR c f + b * SR c g
  | 0, _, _ => by simp only [SR]; grind
  | c + 1, f, g => by
    show SR c _ + _ = a * (SR c f + f c) + b * (SR c g + g c)
    rw [SR_lin a b c f g]; grind
theorem SR_add (c : Nat) (f g : Nat → Rat) : SR c (fun l => f l + g l) = SR c f + SR c g := by
  have := SR_lin 1 1 c f g
  simp only [Rat.one_mul] at this
  exact this
theorem SR_mul (a : Rat) (c : Nat) (f : Nat → Rat) : SR c (fun l => a * f l) = a * SR c f := by
  have := SR_lin a 0 c f (fun _ => 0)
  simp only [Rat.zero_mul, Rat.add_zero] at this
  exact this
abbrev Row := List Int
def gt (r : Row) (j : Nat) : Int := r.getD j 0
/-- the value of a row at a place whose last entry is 1 -/
def ev (n : Nat) (r : Row) (x : Nat → Rat) : Rat := SR n (fun j => (gt r j : Rat) * x j) + (gt r n : Rat)
def Sol (n : Nat) (rows : List Row) (x : Nat → Rat) : Prop := ∀ r ∈ rows, ev n r x = 0
def clr (head factor div : Int) (row pivot : Row) : Row := List.zipWith (fun a b => (head * a - factor * b).fdiv div) row pivot
theorem gt_lt {r : Row} {j : Nat} (h : j < r.length) : gt r j = r[j] := by simp [gt, List.getD, h]
theorem clr_len {h f d : Int} {r p : Row} {n : Nat} (hr : r.length = n) (hp : p.length = n) : (clr h f d r p).length = n := by
  simp [clr, hr, hp]
theorem clr_gt {h f d : Int} {r p : Row} {n j : Nat} (hr : r.length = n) (hp : p.length = n) (hj : j < n) : gt (clr h f d r p) j = (h * gt r j - f * gt p j).fdiv d := by
  rw [gt_lt (by rw [clr_len hr hp]; exact hj), gt_lt (by omega), gt_lt (by omega)]
  simp [clr]
theorem ev_clr {n : Nat} {h f d : Int} {r p : Row} (hr : r.length = n + 1) (hp : p.length = n + 1) (ex : ∀ j, j < n + 1 → h * gt r j - f * gt p j = d * gt (clr h f d r p) j) (x : Nat → Rat) : (d : Rat) * ev n (clr h f d r p) x = (h : Rat) * ev n r x - (f : Rat) * ev n p x := by
  have k : ∀ j, j < n + 1 → (d : Rat) * (gt (clr h f d r p) j : Rat) = (h : Rat) * (gt r j : Rat) - (f : Rat) * (gt p j : Rat) := fun j hj => by
    have := ex j hj
    rw [← Rat.intCast_mul, ← Rat.intCast_mul, ← Rat.intCast_mul, ← Rat.intCast_sub, this]
  have e : (d : Rat) * SR n (fun j => (gt (clr h f d r p) j : Rat) * x j) = (h : Rat) * SR n (fun j => (gt r j : Rat) * x j) + (-(f : Rat)) * SR n (fun j => (gt p j : Rat) * x j) := by
    rw [← SR_mul, ← SR_lin]
    refine SR_congr fun j hj => ?_
    have := k j (by omega)
    grind
  have := k n (by omega)
  unfold ev
  grind
/-- the state when c columns are done -/
structure Inv (n c : Nat) (left : List Row) (bottom : Int) : Prop where
  len : ∀ r ∈ left, r.length = n + 1
  ge : c ≤ left.length
  ne : bottom ≠ 0
  ex : ∃ v : Mat, Cramer c v ∧ bottom = Dt c v ∧ (∀ i r, left[i]? = some r → i < c → ∀ j, j < n + 1 → gt r j = bottom * un i j - W c v (un i) j) ∧ (∀ i r, left[i]? = some r → c ≤ i → ∃ u, ∀ j, j < n + 1 → gt r j = W c v u j)
theorem Inv.start {n : Nat} {rows : List Row} (h : ∀ r ∈ rows, r.length = n + 1) : Inv n 0 rows 1 :=
  ⟨h, Nat.zero_le _, by decide, fun _ _ => 0, cramer0 _, rfl, fun i r _ h => by omega, fun i r _ _ => ⟨fun j => gt r j, fun j _ => by simp [W, Dt, S]⟩⟩
/-- zeros in the columns that are done -/
theorem Inv.low {n c : Nat} {left : List Row} {bottom : Int} (h : Inv n c left bottom) (hc : c ≤ n) {i : Nat} {r : Row} (e : left[i]? = some r) {j : Nat} (hj : j < c) : gt r j = if i = j then bottom else 0 := by
  obtain ⟨v, h1, h2, h3, h4⟩ := h.ex
  by_cases hi : i < c
  · rw [h3 i r e hi j (by omega), h1 _ _ hj]
    by_cases q : i = j
    · subst q; simp [un]
    · simp [un, q, Ne.symm q]
  · obtain ⟨u, hu⟩ := h4 i r e (by omega)
    rw [hu j (by omega), h1 _ _ hj, if_neg (by omega)]
/-- the row p is moved to the position c -/
def mv (left : List Row) (c k : Nat) (p : Row) : List Row := left.take c ++ [p] ++ (left.drop c).take (k - c) ++ left.drop (k + 1)
theorem mv_mem {left : List Row} {c k : Nat} {p : Row} (hk : c ≤ k) (e : left[k]? = some p) (r : Row) : r ∈ mv left c k p ↔ r ∈ left := by
  have hl := (List.getElem?_eq_some_iff.mp e).1
  have e1 : left = left.take c ++ ((left.drop c).take (k - c) ++ left.drop k) := by
    have : (left.drop c).drop (k - c) = left.drop k := by rw [List.drop_drop]; congr 1; omega
    rw [← this, List.take_append_drop, List.take_append_drop]
  have e2 : left.drop k = p :: left.drop (k + 1) := by
    rw [List.drop_eq_getElem_cons hl]
    congr 1
    exact (List.getElem?_eq_some_iff.mp e).2
  rw [e2] at e1
  have : r ∈ left ↔ r ∈ left.take c ++ ((left.drop c).take (k - c) ++ p :: left.drop (k + 1)) := by rw [← e1]
  rw [this]
  simp only [mv, List.mem_append, List.mem_cons, List.mem_nil_iff, or_false]
  grind
theorem mv_lo {left : List Row} {c k : Nat} {p : Row} (hk : c ≤ k) (e : left[k]? = some p) {i : Nat} (hi : i < c) : (mv left c k p)[i]? = left[i]? := by
  have hl := (List.getElem?_eq_some_iff.mp e).1
  simp only [mv, List.append_assoc]
  rw [List.getElem?_append_left (by simp; omega), List.getElem?_take_of_lt hi]
theorem mv_hi {left : List Row} {c k : Nat} {p : Row} (hk : c ≤ k) (e : left[k]? = some p) {i : Nat} {r : Row} (hi : c ≤ i) (h : (mv left c k p)[i]? = some r) : ∃ i', c ≤ i' ∧ left[i']? = some r := by
  have hl := (List.getElem?_eq_some_iff.mp e).1
  simp only [mv, List.append_assoc] at h
  rw [List.getElem?_append_right (by simp; omega)] at h
  have : r ∈ [p] ++ ((left.drop c).take (k - c) ++ left.drop (k + 1)) := List.mem_iff_getElem?.mpr ⟨_, h⟩
  simp only [List.mem_append, List.mem_cons, List.mem_nil_iff, or_false] at this
  rcases this with rfl | h | h
  · exact ⟨k, hk, e⟩
  · obtain ⟨j, hj⟩ := List.mem_iff_getElem?.mp (List.mem_of_mem_take h)
    rw [List.getElem?_drop] at hj
    exact ⟨_, Nat.le_add_right _ _, hj⟩
  · obtain ⟨j, hj⟩ := List.mem_iff_getElem?.mp h
    rw [List.getElem?_drop] at hj
    exact ⟨_, by omega, hj⟩
theorem mv_len {left : List Row} {c k : Nat} {p : Row} (hk : c ≤ k) (e : left[k]? = some p) : (mv left c k p).length = left.length := by
  have hl := (List.getElem?_eq_some_iff.mp e).1
  simp [mv]; omega
/-- one column -/
def stepRow (c : Nat) (p : Row) (bottom : Int) (i : Nat) (r : Row) : Row := if i = c then r else clr (gt p c) (gt r c) bottom r p
def stepL (left : List Row) (c : Nat) (p : Row) (bottom : Int) : List Row := left.mapIdx (stepRow c p bottom)
theorem Inv.mv {n c : Nat} {left : List Row} {bottom : Int} (h : Inv n c left bottom) {k : Nat} {p : Row} (hk : c ≤ k) (e : left[k]? = some p) : Inv n c (mv left c k p) bottom := by
  obtain ⟨v, h1, h2, h3, h4⟩ := h.ex
  refine ⟨fun r hr => h.len r ((mv_mem hk e r).mp hr), by rw [mv_len hk e]; exact h.ge, h.ne, v, h1, h2, fun i r hr hi => h3 i r (by rw [← mv_lo hk e hi]; exact hr) hi, fun i r hr hi => ?_⟩
  obtain ⟨i', a, b⟩ := mv_hi hk e hi hr
  exact h4 i' r b a
theorem Inv.exact {n c : Nat} {left : List Row} {bottom : Int} (h : Inv n c left bottom) (hc : c < n) {p : Row} (e : left[c]? = some p) (hp : gt p c ≠ 0) :
    Inv n (c + 1) (stepL left c p bottom) (gt p c) ∧ (∀ i r, left[i]? = some r → i ≠ c → ∀ j, j < n + 1 → gt p c * gt r j - gt r c * gt p j = bottom * gt (clr (gt p c) (gt r c) bottom r p) j) := by
  obtain ⟨v, h1, h2, h3, h4⟩ := h.ex
  have hl := (List.getElem?_eq_some_iff.mp e).1
  have lp : p.length = n + 1 := h.len p (List.mem_of_getElem? e)
  obtain ⟨r0, hr0⟩ := h4 c p e (Nat.le_refl _)
  have hd : Dt c v ≠ 0 := h2 ▸ h.ne
  have hh : gt p c = W c v r0 c := hr0 c (by omega)
  have hD : Dt (c + 1) (upd v c r0) = gt p c := by rw [Dt_W, hh]
  -- what stands in the new rows
  have hi' : ∀ i r, left[i]? = some r → c < i → ∃ u, ∀ j, j < n + 1 → gt p c * gt r j - gt r c * gt p j = bottom * W (c + 1) (upd v c r0) u j := fun i r hr hci => by
    obtain ⟨u, hu⟩ := h4 i r hr (by omega)
    refine ⟨u, fun j hj => ?_⟩
    rw [h2, star h1 r0 u j, hu j hj, hu c (by omega), hr0 j hj, hh]
  have lo' : ∀ i r, left[i]? = some r → i < c → ∀ j, j < n + 1 → gt p c * gt r j - gt r c * gt p j = bottom * (gt p c * un i j - W (c + 1) (upd v c r0) (un i) j) := fun i r hr hci j hj => by
    rw [Int.mul_sub, h2, star h1 r0 (un i) j, h3 i r hr hci j hj, h3 i r hr hci c (by omega), hr0 j hj, hh, h2]
    have : un i c = 0 := by simp [un]; omega
    rw [this]; grind
  have at' : ∀ j, j < n + 1 → gt p j = gt p c * un c j - W (c + 1) (upd v c r0) (un c) j := fun j hj => by
    have s := star h1 r0 (un c) j
    rw [W_un c (Nat.le_refl _), W_un c (Nat.le_refl _), ← hh, ← hr0 j hj] at s
    have u1 : un c c = 1 := by simp [un]
    rw [u1] at s
    have : Dt c v * (gt p j - (gt p c * un c j - W (c + 1) (upd v c r0) (un c) j)) = 0 := by grind
    have := (Int.mul_eq_zero.mp this).resolve_left hd
    omega
  have ex' : ∀ i r, left[i]? = some r → i ≠ c → ∀ j, j < n + 1 → gt p c * gt r j - gt r c * gt p j = bottom * gt (clr (gt p c) (gt r c) bottom r p) j := fun i r hr n j hj => by
    have lr : r.length = _ := h.len r (List.mem_of_getElem? hr)
    rw [clr_gt lr lp hj]
    have : ∃ q, gt p c * gt r j - gt r c * gt p j = bottom * q := by
      rcases Nat.lt_or_gt_of_ne n with q | q
      · exact ⟨_, lo' i r hr q j hj⟩
      · obtain ⟨u, hu⟩ := hi' i r hr q; exact ⟨_, hu j hj⟩
    obtain ⟨q, hq⟩ := this
    rw [hq, Int.mul_comm bottom q, Int.mul_fdiv_cancel _ h.ne, Int.mul_comm]
  refine ⟨⟨fun r hr => ?_, by simp [stepL]; omega, hp, upd v c r0, cramer_succ h1 hd r0, hD.symm, fun i r hr hi j hj => ?_, fun i r hr hi => ?_⟩, ex'⟩
  · obtain ⟨i, hi⟩ := List.mem_iff_getElem?.mp hr
    rw [stepL, List.getElem?_mapIdx] at hi
    cases q : left[i]? with
    | none => rw [q] at hi; cases hi
    | some r' =>
      rw [q] at hi; cases hi
      have lr := h.len r' (List.mem_of_getElem? q)
      unfold stepRow
      split
      · exact lr
      · exact clr_len lr lp
  · rw [stepL, List.getElem?_mapIdx] at hr
    cases q : left[i]? with
    | none => rw [q] at hr; cases hr
    | some r' =>
      rw [q] at hr; cases hr
      unfold stepRow
      by_cases ec : i = c
      · subst ec
        rw [if_pos rfl]
        rw [e] at q; cases q
        exact at' j hj
      · rw [if_neg ec]
        have a := ex' i r' q ec j hj
        rw [lo' i r' q (by omega) j hj] at a
        exact (Int.eq_of_mul_eq_mul_left h.ne a).symm
  · rw [stepL, List.getElem?_mapIdx] at hr
    cases q : left[i]? with
    | none => rw [q] at hr; cases hr
    | some r' =>
      rw [q] at hr; cases hr
      unfold stepRow
      rw [if_neg (by omega)]
      obtain ⟨u, hu⟩ := hi' i r' q (by omega)
      refine ⟨u, fun j hj => ?_⟩
      have a := ex' i r' q (by omega) j hj
      rw [hu j hj] at a
      exact (Int.eq_of_mul_eq_mul_left h.ne a).symm
/-- the solutions stay -/
theorem Inv.sol {n c : Nat} {left : List Row} {bottom : Int} (h : Inv n c left bottom) (hc : c < n) {p : Row} (e : left[c]? = some p) (hp : gt p c ≠ 0) (x : Nat → Rat) : Sol n (stepL left c p bottom) x ↔ Sol n left x := by
  have ex := (h.exact hc e hp).2
  have lp : p.length = n + 1 := h.len p (List.mem_of_getElem? e)
  have hb : (bottom : Rat) ≠ 0 := fun q => h.ne (by exact_mod_cast q)
  have hg : (gt p c : Rat) ≠ 0 := fun q => hp (by exact_mod_cast q)
  have pm : p ∈ stepL left c p bottom := by
    refine List.mem_iff_getElem?.mpr ⟨c, ?_⟩
    rw [stepL, List.getElem?_mapIdx, e]
    simp [stepRow]
  constructor
  · intro s r hr
    obtain ⟨i, hi⟩ := List.mem_iff_getElem?.mp hr
    have sp := s p pm
    by_cases ec : i = c
    · subst ec; rw [e] at hi; cases hi; exact sp
    · have lr := h.len r hr
      have s2 := s (clr (gt p c) (gt r c) bottom r p) (List.mem_iff_getElem?.mpr ⟨i, by rw [stepL, List.getElem?_mapIdx, hi]; simp [stepRow, ec]⟩)
      have := ev_clr lr lp (ex i r hi ec) x
      rw [s2, sp, Rat.mul_zero, Rat.mul_zero] at this
      have : (gt p c : Rat) * ev n r x = 0 := by grind
      exact (Rat.mul_eq_zero.mp this).resolve_left hg
  · intro s r hr
    obtain ⟨i, hi⟩ := List.mem_iff_getElem?.mp hr
    rw [stepL, List.getElem?_mapIdx] at hi
    cases q : left[i]? with
    | none => rw [q] at hi; cases hi
    | some r' =>
      rw [q] at hi; cases hi
      unfold stepRow
      by_cases ec : i = c
      · rw [if_pos ec]; exact s r' (List.mem_of_getElem? q)
      · rw [if_neg ec]
        have := ev_clr (h.len r' (List.mem_of_getElem? q)) lp (ex i r' q ec) x
        rw [s r' (List.mem_of_getElem? q), s p (List.mem_of_getElem? e)] at this
        have : (bottom : Rat) * ev n (clr (gt p c) (gt r' c) bottom r' p) x = 0 := by rw [this]; grind
        exact (Rat.mul_eq_zero.mp this).resolve_left hb
end Vs.Bar
namespace Vs.Bar
def findK (left : List Row) (c : Nat) : Option Nat := (List.range' c (left.length - c)).find? (fun k => decide (gt (left.getD k []) c ≠ 0))
def wpv (left : List Row) (c : Nat) : Option (List Row) := match findK left c with
  | some k => some (mv left c k (left.getD k []))
  | none => none
def red : Nat → Nat → List Row → Int → Option (List Row × Int)
  | 0, _, left, b => some (left, b)
  | m + 1, c, left, b => match wpv left c with
    | none => none
    | some l1 => red m (c + 1) (stepL l1 c (l1.getD c []) b) (gt (l1.getD c []) c)
def cz (rows : List Row) (n : Nat) : Option Row := match red n 0 rows 1 with
  | none => none
  | some (left, b) => if (left.drop n).any (fun r => decide (gt r n ≠ 0)) = true then none else if b < 0 then some ((left.take n).map (fun r => gt r n) ++ [-b]) else some ((left.take n).map (fun r => - gt r n) ++ [b])
def Bd (B : Nat) (r : Row) : Prop := ∀ j, (gt r j).natAbs < 2 ^ B
theorem Bd.mono {B C : Nat} {r : Row} (h : Bd B r) (e : B ≤ C) : Bd C r := fun j => Nat.lt_of_lt_of_le (h j) (Nat.pow_le_pow_right (by decide) e)
end Vs.Bar
namespace Vs
open PySem PySem.Spec PyProof.Rows L2
open Bar (gt cz red wpv findK mv stepL stepRow clr Inv Sol Bd)
section
variable {μ : Mu} {δ : Sl}
def slEnd (μ : Mu) (l h : Option Int) : Option (List P) → Option (Out D × Mu)
  | some xs => some (.ok (.p (.lst (cutP xs l h))), μ)
  | none => none
@[simp] theorem evSl_eq {e : Ev} {lo hi : EvO} : evSl e lo hi δ μ = bindG (e δ μ) fun x μ1 => bindG (lo δ μ1) fun l μ2 => bindG (hi δ μ2) fun h μ3 => slEnd μ3 l h (lstOf μ3 x) := rfl
@[simp] theorem slEnd_some {l h : Option Int} {xs : List P} : slEnd μ l h (some xs) = some (.ok (.p (.lst (cutP xs l h))), μ) := rfl
@[simp] theorem evNoP_eq : evNoP δ μ = some (.ok none, μ) := rfl
def ptEnd (μ : Mu) : D → Option (Out (Option Int) × Mu)
  | .p (.int i) => some (.ok (some i), μ)
  | _ => none
@[simp] theorem evPt_eq {e : Ev} : evPt e δ μ = bindG (e δ μ) fun d μ1 => ptEnd μ1 d := rfl
@[simp] theorem ptEnd_int {i : Int} : ptEnd μ (.p (.int i)) = some (.ok (some i), μ) := rfl
@[simp] theorem lstOf_lst {xs : List P} : lstOf μ (.p (.lst xs)) = some xs := rfl
theorem cut_lo {xs : List P} {k : Nat} : cutP xs none (some (k : Int)) = xs.take k := by
  unfold cutP
  rw [HT.sIx_nat]
  show (xs.drop 0).take (min k xs.length - 0) = _
  rw [List.drop_zero, Nat.sub_zero]
  rw [List.take_eq_take_iff]
  omega
theorem cut_hi {xs : List P} {k : Nat} : cutP xs (some (k : Int)) none = xs.drop k := by
  unfold cutP
  rw [HT.sIx_nat]
  show (xs.drop (min k xs.length)).take (xs.length - min k xs.length) = _
  rw [List.take_of_length_le (by rw [List.length_drop]; omega)]
  by_cases h : k ≤ xs.length
  · rw [Nat.min_eq_left h]
  · rw [Nat.min_eq_right (by omega), List.drop_of_length_le (by omega), List.drop_of_length_le (by omega)]
theorem cut_last {xs : List P} {x : P} : cutP (xs ++ [x]) none (some (-1)) = xs := by
  unfold cutP
  have : HT.sIx (xs ++ [x]).length (xs ++ [x]).length (some (-1)) = xs.length := by
    show (if (-1 : Int) < 0 then ((-1 : Int) + ((xs ++ [x]).length : Int)).toNat else min ((-1 : Int)).toNat (xs ++ [x]).length) = _
    rw [if_pos (by decide), List.length_append]
    simp; omega
  rw [this]
  show ((xs ++ [x]).drop 0).take (xs.length - 0) = _
  simp
theorem fCatL_p {xs ys : List P} (h : xs.length + ys.length ≤ sizeLine) : fCatL (.p (.lst xs)) (.p (.lst ys)) μ = some (.p (.lst (xs ++ ys)), μ) := by
  unfold fCatL
  simp only [view_p]
  rw [if_pos h]
abbrev IRow := List Int
end
end Vs
namespace Vs
open PySem PySem.Spec PyProof.Rows L2
open Bar (gt cz red wpv findK mv stepL stepRow clr Inv Sol Bd)
section
variable {μ : Mu} {δ : Sl}
theorem getD_mem {A : Type} {l : List A} {k : Nat} {d : A} (h : k < l.length) : l.getD k d ∈ l := by
  rw [List.getD_eq_getElem?_getD, List.getElem?_eq_getElem h]
  exact List.getElem_mem h
end
end Vs
namespace Vs
open PySem PySem.Spec PyProof.Rows L2
open Bar (gt cz red wpv findK mv stepL stepRow clr Inv Sol Bd)
section
variable {μ : Mu} {δ : Sl}
theorem arF2 {s : SEv} {N : Nat} {a b : D} : arF 2 (bodySem N s) [a, b] μ = retF μ.length (s ([some a, some b] ++ List.replicate (N - 2) none) μ) := by
  unfold arF
  rw [if_pos (show [a, b].length = 2 from rfl), bodySem_eq]
  rfl
theorem arF1 {s : SEv} {N : Nat} {a : D} : arF 1 (bodySem N s) [a] μ = retF μ.length (s ([some a] ++ List.replicate (N - 1) none) μ) := by
  unfold arF
  rw [if_pos (show [a].length = 1 from rfl), bodySem_eq]
  rfl
theorem arF3 {s : SEv} {N : Nat} {a b c : D} : arF 3 (bodySem N s) [a, b, c] μ = retF μ.length (s ([some a, some b, some c] ++ List.replicate (N - 3) none) μ) := by
  unfold arF
  rw [if_pos (show [a, b, c].length = 3 from rfl), bodySem_eq]
  rfl
theorem lt_int {i j : Int} : fLt (.p (.int i)) (.p (.int j)) μ = some (.p (.bl (decide (i < j))), μ) := by simp
end
end Vs
namespace Vs
open PySem PySem.Spec PyProof.Rows L2
open Bar (gt cz red wpv findK mv stepL stepRow clr Inv Sol Bd SR)
section
variable {μ : Mu} {δ : Sl}
def scl : List Rat → Nat → Nat
  | [], s => s
  | q :: qs, s => scl qs (Nat.lcm s q.den)
def sc (qs : List Rat) : Nat := scl qs 1
def whole (qs : List Rat) : IRow := qs.map fun q => q.num * ((sc qs : Int).fdiv (q.den : Int))
theorem ev_fld0 {q : Rat} : fFld 0 0 (.p (rat q)) μ = some (.p (.int q.num), μ) := by unfold rat; simp
theorem mul_int {i j : Int} (h : mulOk i j = true) : fMul (.p (.int i)) (.p (.int j)) μ = some (.p (.int (i * j)), μ) := by
  show (if mulOk i j = true then some (D.p (P.int (i * j)), μ) else none) = _
  rw [if_pos h]
/-- a form: its coefficients and its constant -/
abbrev Fm := List Rat × Rat
def fmL (f : Fm) : List Rat := f.1 ++ [f.2]
end
end Vs
namespace Vs.Bar
def fac : Nat → Nat
  | 0 => 1
  | n + 1 => (n + 1) * fac n
/-- the column x of the row u less its part in the rows R, that the columns `lead` find -/
def WY (c : Nat) (lead : Nat → Nat) (R : Mat) (u : Vec) (x : Nat) : Int := Dt c (fun i j => R i (lead j)) * u x - S c (fun l => Dt c (upd (fun i j => R i (lead j)) l (fun j => u (lead j))) * R l x)
def DX (c : Nat) (lead : Nat → Nat) (R : Mat) : Int := Dt c (fun i j => R i (lead j))
def CramerX (c : Nat) (lead : Nat → Nat) (R : Mat) : Prop := ∀ u j, j < c → WY c lead R u (lead j) = 0
def updN (lead : Nat → Nat) (c l : Nat) : Nat → Nat := fun j => if j = c then l else lead j
/-- WY as W, for any columns that begin with the leads -/
theorem WY_W {c : Nat} {lead κ : Nat → Nat} {R : Mat} {u : Vec} {j : Nat} (h : ∀ a, a < c → κ a = lead a) : W c (fun i a => R i (κ a)) (fun a => u (κ a)) j = WY c lead R u (κ j) := by
  unfold W WY
  rw [Dt_congr (w := fun i j => R i (lead j)) fun i a hi ha => by show R i (κ a) = _; rw [h a ha]]
  congr 1
  refine S_congr fun l hl => ?_
  congr 1
  refine Dt_congr fun i a hi ha => ?_
  by_cases e : i = l
  · subst e; rw [upd_self, upd_self]; show u (κ a) = _; rw [h a ha]
  · rw [upd_ne _ _ e, upd_ne _ _ e]; show R i (κ a) = _; rw [h a ha]
/-- Cramer's for free vectors: the leading columns alone matter -/
theorem cramer_of {c : Nat} {lead : Nat → Nat} {R : Mat} (hinj : ∀ a b, a < c → b < c → lead a = lead b → a = b) (h : CramerX c lead R) {κ : Nat → Nat} (hk : ∀ a, a < c → κ a = lead a) : Cramer c (fun i a => R i (κ a)) := fun u j hj => by
  -- a vector over all columns that is u at the leads
  let u' : Vec := fun x => S c (fun a => if lead a = x then u a else 0)
  have hu : ∀ a, a < c → u' (lead a) = u a := fun a ha => by
    show S c (fun b => if lead b = lead a then u b else 0) = u a
    rw [S_one (i := a) ha fun b hb n => if_neg fun e => n (hinj b a hb ha e), if_pos rfl]
  have e := h u' j hj
  rw [← hk j hj, ← WY_W hk] at e
  rw [← e]
  unfold W
  have e1 : u j = u' (κ j) := by rw [hk j hj, hu j hj]
  rw [e1]
  congr 1
  refine S_congr fun l hl => ?_
  congr 1
  refine Dt_congr fun i a hi ha => ?_
  by_cases q : i = l
  · subst q; rw [upd_self, upd_self, hk a ha, hu a ha]
  · rw [upd_ne _ _ q, upd_ne _ _ q]
theorem DX_succ {c : Nat} {lead : Nat → Nat} {R : Mat} {r : Vec} {l : Nat} : DX (c + 1) (updN lead c l) (upd R c r) = WY c lead R r l := by
  have e := Dt_W c (fun i a => R i (updN lead c l a)) (fun a => r (updN lead c l a))
  rw [WY_W (lead := lead) fun a ha => by unfold updN; rw [if_neg (by omega)]] at e
  rw [show updN lead c l c = l by unfold updN; rw [if_pos rfl]] at e
  rw [← e]
  unfold DX
  refine Dt_congr fun i j hi hj => ?_
  by_cases q : i = c
  · subst q; rw [upd_self, upd_self]
  · rw [upd_ne _ _ q, upd_ne _ _ q]
theorem starX {c : Nat} {lead : Nat → Nat} {R : Mat} (hinj : ∀ a b, a < c → b < c → lead a = lead b → a = b) (h : CramerX c lead R) (r u : Vec) (l x : Nat) :
    DX c lead R * WY (c + 1) (updN lead c l) (upd R c r) u x = WY c lead R r l * WY c lead R u x - WY c lead R u l * WY c lead R r x := by
  let κ : Nat → Nat := fun j => if j < c then lead j else if j = c then l else x
  have k1 : ∀ a, a < c → κ a = lead a := fun a ha => if_pos ha
  have kc : κ c = l := by show (if c < c then _ else if c = c then _ else _) = _; rw [if_neg (by omega), if_pos rfl]
  have kx : κ (c + 1) = x := by show (if c + 1 < c then _ else if c + 1 = c then _ else _) = _; rw [if_neg (by omega), if_neg (by omega)]
  have k2 : ∀ a, a < c + 1 → κ a = updN lead c l a := fun a ha => by
    unfold updN
    by_cases q : a = c
    · subst q; rw [if_pos rfl]; exact kc
    · rw [if_neg q]; exact k1 a (by omega)
  have s := star (cramer_of hinj h k1) (fun a => r (κ a)) (fun a => u (κ a)) (c + 1)
  rw [WY_W k1, WY_W k1, WY_W k1, WY_W k1, kc, kx] at s
  have e1 : W (c + 1) (upd (fun i a => R i (κ a)) c (fun a => r (κ a))) (fun a => u (κ a)) (c + 1) = WY (c + 1) (updN lead c l) (upd R c r) u x := by
    rw [← kx, ← WY_W k2]
    refine W_congr (fun i hi => ?_) _
    by_cases q : i = c
    · subst q; rw [upd_self]; funext a; rw [upd_self]
    · rw [upd_ne _ _ q]; funext a; rw [upd_ne _ _ q]
  rw [e1] at s
  rw [← s]
  congr 1
  unfold DX
  exact Dt_congr fun i j hi hj => by rw [k1 j hj]
theorem cramerX0 (lead : Nat → Nat) (R : Mat) : CramerX 0 lead R := fun _ _ h => by omega
theorem cramerX_succ {c : Nat} {lead : Nat → Nat} {R : Mat} (hinj : ∀ a b, a < c → b < c → lead a = lead b → a = b) (h : CramerX c lead R) (hd : DX c lead R ≠ 0) (r : Vec) (l : Nat) : CramerX (c + 1) (updN lead c l) (upd R c r) := fun u j hj => by
  have s := starX hinj h r u l (updN lead c l j)
  have z : DX c lead R * WY (c + 1) (updN lead c l) (upd R c r) u (updN lead c l j) = 0 := by
    rw [s]
    by_cases e : j = c
    · subst e
      rw [show updN lead j l j = l by unfold updN; rw [if_pos rfl]]; grind
    · rw [show updN lead c l j = lead j by unfold updN; rw [if_neg e], h u j (by omega), h r j (by omega)]; simp
  exact (Int.mul_eq_zero.mp z).resolve_left hd
theorem WY_un {c : Nat} {lead : Nat → Nat} {R : Mat} {l : Nat} (h : ∀ a, a < c → lead a ≠ l) (x : Nat) : WY c lead R (un l) x = DX c lead R * un l x := by
  unfold WY DX
  rw [S_zero fun a ha => by
    have : Dt c (upd (fun i j => R i (lead j)) a (fun j => un l (lead j))) = 0 := by
      have z := Dt_lin 0 0 (un l) (un l) (v := fun i j => R i (lead j)) ha
      simp only [Int.zero_mul, Int.add_zero] at z
      rw [← z]
      refine Dt_congr fun i j hi hj => ?_
      by_cases e : i = a
      · subst e; rw [upd_self, upd_self]; simp [un, h j hj]
      · rw [upd_ne _ _ e, upd_ne _ _ e]
    rw [this]; simp]
  omega
end Vs.Bar
namespace Vs.Bar
abbrev QRow := List Rat
def rg (r : QRow) (j : Nat) : Rat := r.getD j 0
theorem rg_lt {r : QRow} {j : Nat} (h : j < r.length) : rg r j = r[j] := by simp [rg, List.getD, h]
/-- the row without its part in `one` -/
def wo (c : Nat) (one row : QRow) : QRow := if rg row c = 0 then row else (List.range row.length).map fun k => rg row k - rg row c * rg one k
theorem wo_len {c : Nat} {one row : QRow} : (wo c one row).length = row.length := by
  unfold wo; split <;> simp
theorem wo_rg {c : Nat} {one row : QRow} {k : Nat} (h : k < row.length) : rg (wo c one row) k = rg row k - rg row c * rg one k := by
  unfold wo
  split
  · rename_i e; rw [e]; grind
  · rw [rg_lt (by simpa using h)]; simp
def dv (p : QRow) (c : Nat) : QRow := p.map fun q => q / rg p c
theorem dv_len {p : QRow} {c : Nat} : (dv p c).length = p.length := by simp [dv]
theorem dv_rg {p : QRow} {c k : Nat} (h : k < p.length) : rg (dv p c) k = rg p k / rg p c := by
  rw [rg_lt (by rw [dv_len]; exact h), rg_lt h]; simp [dv]
def pks (left : List QRow) (c : Nat) : List Nat := (List.range left.length).filter fun k => decide (rg (left.getD k []) c ≠ 0)
def dropAt (left : List QRow) (k : Nat) : List QRow := ((List.range left.length).filter fun i => decide (i ≠ k)).map fun i => left.getD i []
structure GS where
  left : List QRow
  done : List QRow
  leads : List Nat
def gst (c : Nat) (s : GS) : GS := match pks s.left c with
  | [] => s
  | k :: _ => ⟨(dropAt s.left k).map (wo c (dv (s.left.getD k []) c)), s.done.map (wo c (dv (s.left.getD k []) c)) ++ [dv (s.left.getD k []) c], s.leads ++ [c]⟩
def gredL : Nat → Nat → GS → GS
  | 0, _, s => s
  | m + 1, c, s => gredL m (c + 1) (gst c s)
theorem pks_none {left : List QRow} {c : Nat} (h : pks left c = []) {r : QRow} (hr : r ∈ left) : rg r c = 0 := by
  obtain ⟨k, hk⟩ := List.mem_iff_getElem?.mp hr
  have hl := (List.getElem?_eq_some_iff.mp hk).1
  by_cases z : rg r c = 0
  · exact z
  · have : k ∈ pks left c := List.mem_filter.mpr ⟨List.mem_range.mpr hl, decide_eq_true (by rw [List.getD_eq_getElem?_getD, hk]; exact z)⟩
    rw [h] at this; cases this
theorem pks_some {left : List QRow} {c k : Nat} {ks : List Nat} (h : pks left c = k :: ks) : k < left.length ∧ left[k]? = some (left.getD k []) ∧ rg (left.getD k []) c ≠ 0 := by
  have : k ∈ pks left c := by rw [h]; exact List.mem_cons_self
  obtain ⟨h1, h2⟩ := List.mem_filter.mp this
  have h1 := List.mem_range.mp h1
  exact ⟨h1, by rw [List.getD_eq_getElem?_getD, List.getElem?_eq_getElem h1]; rfl, of_decide_eq_true h2⟩
theorem drop_mem {left : List QRow} {k : Nat} {r : QRow} (h : r ∈ dropAt left k) : r ∈ left := by
  obtain ⟨i, hi, rfl⟩ := List.mem_map.mp h
  have := List.mem_range.mp (List.mem_filter.mp hi).1
  rw [List.getD_eq_getElem?_getD, List.getElem?_eq_getElem this]
  exact List.getElem_mem this
theorem mem_drop {left : List QRow} {k : Nat} {r : QRow} (h : r ∈ left) : r = left.getD k [] ∨ r ∈ dropAt left k := by
  obtain ⟨i, hi⟩ := List.mem_iff_getElem?.mp h
  have hl := (List.getElem?_eq_some_iff.mp hi).1
  by_cases e : i = k
  · subst e; left; rw [List.getD_eq_getElem?_getD, hi]; rfl
  · right
    refine List.mem_map.mpr ⟨i, List.mem_filter.mpr ⟨List.mem_range.mpr hl, decide_eq_true e⟩, ?_⟩
    rw [List.getD_eq_getElem?_getD, hi]; rfl
/-- the solutions of the homogeneous equations -/
def HS (w : Nat) (rows : List QRow) (y : Nat → Rat) : Prop := ∀ r ∈ rows, SR w (fun j => rg r j * y j) = 0
structure GI (w M S : Nat) (rows0 : List QRow) (col : Nat) (s : GS) : Prop where
  ll : ∀ r ∈ s.left, r.length = w
  dl : ∀ r ∈ s.done, r.length = w
  n : s.done.length = s.leads.length
  asc : s.leads.Pairwise (· < ·)
  lt : ∀ l ∈ s.leads, l < col
  lz : ∀ r ∈ s.left, ∀ j, j < col → rg r j = 0
  ec : ∀ i r, s.done[i]? = some r → ∀ x, x < s.leads.getD i 0 → rg r x = 0
  sol : ∀ y, HS w (s.left ++ s.done) y ↔ HS w rows0 y
  sz : ∃ R : Mat, (∀ i x, (R i x).natAbs ≤ M) ∧ CramerX s.leads.length (s.leads.getD · 0) R ∧ DX s.leads.length (s.leads.getD · 0) R ≠ 0 ∧
    (∀ i r, s.done[i]? = some r → ∀ x, x < w → (DX s.leads.length (s.leads.getD · 0) R : Rat) * rg r x = ((DX s.leads.length (s.leads.getD · 0) R * un (s.leads.getD i 0) x - WY s.leads.length (s.leads.getD · 0) R (un (s.leads.getD i 0)) x : Int) : Rat)) ∧
    (∀ r ∈ s.left, ∃ (u : Vec) (t : Int), (∀ x, (u x).natAbs ≤ M) ∧ 0 < t ∧ t < 2 ^ S ∧ ∀ x, x < w → (t : Rat) * (DX s.leads.length (s.leads.getD · 0) R : Rat) * rg r x = ((WY s.leads.length (s.leads.getD · 0) R u x : Int) : Rat))
/-- rows that can be told by integers of at most M over integers of less than 2^S -/
def RowIn (w M S : Nat) (r : QRow) : Prop := r.length = w ∧ ∃ (u : Vec) (t : Int), (∀ x, (u x).natAbs ≤ M) ∧ 0 < t ∧ t < 2 ^ S ∧ ∀ x, x < w → (t : Rat) * rg r x = ((u x : Int) : Rat)
theorem GI.start {w M S : Nat} {rows : List QRow} (h : ∀ r ∈ rows, RowIn w M S r) : GI w M S rows 0 ⟨rows, [], []⟩ := by
  refine ⟨fun r hr => (h r hr).1, by simp, rfl, .nil, by simp, fun r _ j hj => by omega, by simp, fun y => by rw [List.append_nil], fun _ _ => 0, by simp, cramerX0 _ _, by simp [DX, Dt], by simp, fun r hr => ?_⟩
  obtain ⟨_, u, t, h1, h2, h3, h4⟩ := h r hr
  refine ⟨u, t, h1, h2, h3, fun x hx => ?_⟩
  have e1 : WY ([] : List Nat).length (([] : List Nat).getD · 0) (fun _ _ => 0) u x = u x := by simp [WY, Dt, Bar.S]
  have e2 : DX ([] : List Nat).length (([] : List Nat).getD · 0) (fun _ _ => 0) = 1 := by simp [DX, Dt]
  show (t : Rat) * ((DX ([] : List Nat).length (([] : List Nat).getD · 0) (fun _ _ => 0) : Int) : Rat) * rg r x = ((WY ([] : List Nat).length (([] : List Nat).getD · 0) (fun _ _ => 0) u x : Int) : Rat)
  rw [e1, e2, ← h4 x hx]
  simp only [Rat.intCast_one]; grind
theorem leads_inj {ls : List Nat} (h : ls.Pairwise (· < ·)) : ∀ a b, a < ls.length → b < ls.length → ls.getD a 0 = ls.getD b 0 → a = b := fun a b ha hb e => by
  rw [List.getD_eq_getElem?_getD, List.getD_eq_getElem?_getD, List.getElem?_eq_getElem ha, List.getElem?_eq_getElem hb] at e
  have e : ls[a] = ls[b] := e
  rcases Nat.lt_trichotomy a b with q | q | q
  · have := List.pairwise_iff_getElem.mp h a b ha hb q; omega
  · exact q
  · have := List.pairwise_iff_getElem.mp h b a hb ha q; omega
theorem getD_app1 {A : Type} {l : List A} {x d : A} {i : Nat} (h : i < l.length) : (l ++ [x]).getD i d = l.getD i d := by
  rw [List.getD_eq_getElem?_getD, List.getD_eq_getElem?_getD, List.getElem?_append_left h]
theorem getD_app2 {A : Type} {l : List A} {x d : A} : (l ++ [x]).getD l.length d = x := by
  rw [List.getD_eq_getElem?_getD, List.getElem?_append_right (Nat.le_refl _), Nat.sub_self]; rfl
theorem WY_lead {c : Nat} {lead lead' : Nat → Nat} {R : Mat} {u : Vec} (h : ∀ a, a < c → lead a = lead' a) (x : Nat) : WY c lead R u x = WY c lead' R u x := by
  unfold WY
  rw [Dt_congr (w := fun i j => R i (lead' j)) fun i a hi ha => by show R i _ = R i _; rw [h a ha]]
  congr 1
  refine S_congr fun l hl => ?_
  congr 1
  refine Dt_congr fun i a hi ha => ?_
  by_cases e : i = l
  · subst e; rw [upd_self, upd_self]; show u _ = u _; rw [h a ha]
  · rw [upd_ne _ _ e, upd_ne _ _ e]; show R i _ = R i _; rw [h a ha]
theorem DX_lead {c : Nat} {lead lead' : Nat → Nat} {R : Mat} (h : ∀ a, a < c → lead a = lead' a) : DX c lead R = DX c lead' R := by
  unfold DX
  exact Dt_congr fun i a hi ha => by rw [h a ha]
theorem GI.skip {w M S : Nat} {rows0 : List QRow} {col : Nat} {s : GS} (h : GI w M S rows0 col s) (e : pks s.left col = []) : GI w M S rows0 (col + 1) s :=
  ⟨h.ll, h.dl, h.n, h.asc, fun l hl => Nat.lt_succ_of_lt (h.lt l hl), fun r hr j hj => by
    by_cases q : j = col
    · subst q; exact pks_none e hr
    · exact h.lz r hr j (by omega), h.ec, h.sol, h.sz⟩
theorem GI.step {w M S : Nat} {rows0 : List QRow} {col : Nat} {s : GS} (h : GI w M S rows0 col s) (hw : col < w) (hM : 1 ≤ M) {k : Nat} {ks : List Nat} (e : pks s.left col = k :: ks) : GI w M S rows0 (col + 1) (gst col s) := by
  obtain ⟨hk, hp, hz⟩ := pks_some e
  have hg : gst col s = ⟨(dropAt s.left k).map (wo col (dv (s.left.getD k []) col)), s.done.map (wo col (dv (s.left.getD k []) col)) ++ [dv (s.left.getD k []) col], s.leads ++ [col]⟩ := by
    unfold gst; rw [e]
  rw [hg]
  generalize s.left.getD k [] = p at *
  have pm : p ∈ s.left := List.mem_of_getElem? hp
  have pl : p.length = w := h.ll p pm
  have ol : (dv p col).length = w := by rw [dv_len, pl]
  have o1 : rg (dv p col) col = 1 := by rw [dv_rg (by omega)]; grind
  have orr : ∀ x, x < w → rg (dv p col) x = rg p x / rg p col := fun x hx => dv_rg (by omega)
  obtain ⟨R, hR, hC, hD, hd, hl⟩ := h.sz
  obtain ⟨rv, t, hrM, ht0, htS, hrv⟩ := hl p pm
  have inj := leads_inj h.asc
  -- the new ones
  have lead_eq : ∀ a, a < s.leads.length + 1 → updN (s.leads.getD · 0) s.leads.length col a = (s.leads ++ [col]).getD a 0 := fun a ha => by
    unfold updN
    by_cases q : a = s.leads.length
    · subst q; rw [if_pos rfl, getD_app2]
    · rw [if_neg q, getD_app1 (by omega)]
  have ln : (s.leads ++ [col]).length = s.leads.length + 1 := by simp
  have D' : DX (s.leads.length + 1) (updN (s.leads.getD · 0) s.leads.length col) (upd R s.leads.length rv) = WY s.leads.length (s.leads.getD · 0) R rv col := DX_succ
  have tD : (t : Rat) * (DX s.leads.length (s.leads.getD · 0) R : Rat) ≠ 0 := by
    have h1 : (t : Rat) ≠ 0 := fun q => by have : t = 0 := by exact_mod_cast q
                                           omega
    have h2 : (DX s.leads.length (s.leads.getD · 0) R : Rat) ≠ 0 := fun q => hD (by exact_mod_cast q)
    grind
  have Dr : (DX s.leads.length (s.leads.getD · 0) R : Rat) ≠ 0 := fun q => hD (by exact_mod_cast q)
  have hW : (WY s.leads.length (s.leads.getD · 0) R rv col : Rat) ≠ 0 := by rw [← hrv col hw]; grind
  have hW' : WY s.leads.length (s.leads.getD · 0) R rv col ≠ 0 := fun q => hW (by rw [q]; rfl)
  -- the new row over the new determinant
  have one_eq : ∀ x, x < w → (WY s.leads.length (s.leads.getD · 0) R rv col : Rat) * rg (dv p col) x = (WY s.leads.length (s.leads.getD · 0) R rv x : Rat) := fun x hx => by
    rw [orr x hx, ← hrv col hw, ← hrv x hx]; grind
  have star' := fun (u : Vec) (x : Nat) => congrArg (fun z : Int => (z : Rat)) (starX inj hC rv u col x)
  refine ⟨fun r hr => ?_, fun r hr => ?_, by simp [h.n], ?_, fun l hl' => ?_, fun r hr j hj => ?_, fun i r hr x hx => ?_, fun y => ?_, upd R s.leads.length rv, fun i x => ?_, ?_, ?_, fun i r hr x hx => ?_, fun r hr => ?_⟩
  · obtain ⟨r', hr', rfl⟩ := List.mem_map.mp hr
    rw [wo_len]; exact h.ll r' (drop_mem hr')
  · rcases List.mem_append.mp hr with hr | hr
    · obtain ⟨r', hr', rfl⟩ := List.mem_map.mp hr
      rw [wo_len]; exact h.dl r' hr'
    · simp at hr; subst hr; exact ol
  · refine List.pairwise_append.mpr ⟨h.asc, List.pairwise_singleton _ _, fun a ha b hb => ?_⟩
    simp at hb; subst hb; exact h.lt a ha
  · rcases List.mem_append.mp hl' with q | q
    · exact Nat.lt_succ_of_lt (h.lt l q)
    · simp at q; subst q; exact Nat.lt_succ_self _
  · obtain ⟨r', hr', rfl⟩ := List.mem_map.mp hr
    have hr' := drop_mem hr'
    rw [wo_rg (by rw [h.ll r' hr']; omega)]
    by_cases q : j = col
    · subst q; rw [o1]; grind
    · rw [orr j (by omega), h.lz r' hr' j (by omega), h.lz p pm j (by omega)]; grind
  · by_cases hi : i < s.done.length
    · rw [List.getElem?_append_left (by simpa using hi), List.getElem?_map] at hr
      cases q : s.done[i]? with
      | none => rw [q] at hr; cases hr
      | some r' =>
        rw [q] at hr; cases hr
        have il : i < s.leads.length := by rw [← h.n]; exact hi
        have hx : x < (s.leads ++ [col]).getD i 0 := hx
        rw [getD_app1 il] at hx
        have hm : s.leads.getD i 0 ∈ s.leads := by rw [List.getD_eq_getElem?_getD, List.getElem?_eq_getElem il]; exact List.getElem_mem il
        have hlc := h.lt _ hm
        rw [wo_rg (by rw [h.dl r' (List.mem_of_getElem? q)]; omega), h.ec i r' q x hx, orr x (by omega), h.lz p pm x (by omega)]; grind
    · rw [List.getElem?_append_right (by simpa using hi)] at hr
      have hi0 : i = s.done.length := by
        by_cases q : i - (List.map (wo col (dv p col)) s.done).length = 0
        · simp at q; omega
        · rw [List.getElem?_eq_none (by simp at q ⊢; omega)] at hr; cases hr
      subst hi0
      simp at hr
      subst hr
      have hx : x < (s.leads ++ [col]).getD s.done.length 0 := hx
      rw [h.n, getD_app2] at hx
      rw [orr x (by omega), h.lz p pm x hx]; grind
  · rw [← h.sol y]
    have lin : ∀ r : QRow, r.length = w → SR w (fun j => rg (wo col (dv p col) r) j * y j) = SR w (fun j => rg r j * y j) + (- rg r col) * SR w (fun j => rg (dv p col) j * y j) := fun r hr => by
      rw [← SR_mul, ← SR_add]
      exact SR_congr fun j hj => by rw [wo_rg (by omega)]; grind
    have one' : SR w (fun j => rg (dv p col) j * y j) = (1 / rg p col) * SR w (fun j => rg p j * y j) := by
      rw [← SR_mul]
      exact SR_congr fun j hj => by rw [orr j hj]; grind
    constructor
    · intro hy
      have zo : SR w (fun j => rg (dv p col) j * y j) = 0 := hy _ (by simp)
      have zp : SR w (fun j => rg p j * y j) = 0 := by
        rw [one'] at zo
        rcases Rat.mul_eq_zero.mp zo with q | q
        · exfalso; grind
        · exact q
      intro r hr
      rcases List.mem_append.mp hr with hr | hr
      · rcases mem_drop (k := k) hr with q | q
        · have : s.left.getD k [] = p := by rw [List.getD_eq_getElem?_getD, hp]; rfl
          rw [this] at q; subst q; exact zp
        · have := hy _ (List.mem_append_left _ (List.mem_map.mpr ⟨r, q, rfl⟩))
          rw [lin r (h.ll r hr), zo] at this; grind
      · have := hy _ (List.mem_append_right _ (List.mem_append_left _ (List.mem_map.mpr ⟨r, hr, rfl⟩)))
        rw [lin r (h.dl r hr), zo] at this; grind
    · intro hy
      have zp : SR w (fun j => rg p j * y j) = 0 := hy p (List.mem_append_left _ pm)
      have zo : SR w (fun j => rg (dv p col) j * y j) = 0 := by rw [one', zp]; grind
      intro r hr
      rcases List.mem_append.mp hr with hr | hr
      · obtain ⟨r', hr', rfl⟩ := List.mem_map.mp hr
        have hm := drop_mem hr'
        rw [lin r' (h.ll r' hm), zo, hy r' (List.mem_append_left _ hm)]; grind
      · rcases List.mem_append.mp hr with hr | hr
        · obtain ⟨r', hr', rfl⟩ := List.mem_map.mp hr
          rw [lin r' (h.dl r' hr'), zo, hy r' (List.mem_append_right _ hr')]; grind
        · simp at hr; subst hr; exact zo
  · by_cases q : i = s.leads.length
    · subst q; rw [upd_self]; exact hrM x
    · rw [upd_ne _ _ q]; exact hR i x
  · intro u j hj
    have hj : j < s.leads.length + 1 := by rw [← ln]; exact hj
    have c := cramerX_succ inj hC hD rv col u j hj
    rw [lead_eq j hj] at c
    rw [ln, ← c]
    exact (WY_lead lead_eq _).symm
  · rw [ln, ← DX_lead lead_eq, D']; exact hW'
  · rw [ln, ← DX_lead lead_eq, ← WY_lead lead_eq, D']
    have hsu : ∀ u, (DX s.leads.length (s.leads.getD · 0) R : Rat) * (WY (s.leads.length + 1) (updN (s.leads.getD · 0) s.leads.length col) (upd R s.leads.length rv) u x : Rat) = (WY s.leads.length (s.leads.getD · 0) R rv col : Rat) * (WY s.leads.length (s.leads.getD · 0) R u x : Rat) - (WY s.leads.length (s.leads.getD · 0) R u col : Rat) * (WY s.leads.length (s.leads.getD · 0) R rv x : Rat) := fun u => by
      have := star' u x
      simp only [Rat.intCast_mul, Rat.intCast_sub] at this
      exact this
    have ne_col : ∀ a, a < s.leads.length → s.leads.getD a 0 ≠ col := fun a ha => by
      have : s.leads.getD a 0 ∈ s.leads := by rw [List.getD_eq_getElem?_getD, List.getElem?_eq_getElem ha]; exact List.getElem_mem ha
      have := h.lt _ this; omega
    by_cases hi : i < s.done.length
    · rw [List.getElem?_append_left (by simpa using hi), List.getElem?_map] at hr
      cases q : s.done[i]? with
      | none => rw [q] at hr; cases hr
      | some r' =>
        rw [q] at hr; cases hr
        have hr'l := h.dl r' (List.mem_of_getElem? q)
        have e1 := hd i r' q x hx
        have e2 := hd i r' q col hw
        have il : i < s.leads.length := by rw [← h.n]; exact hi
        rw [getD_app1 il]
        have u0 : un (s.leads.getD i 0) col = 0 := by simp only [un]; rw [if_neg fun z => ne_col i il z.symm]
        rw [u0] at e2
        rw [wo_rg (by omega)]
        have o := one_eq x hx
        have sx := hsu (un (s.leads.getD i 0))
        simp only [Rat.intCast_mul, Rat.intCast_sub, Rat.intCast_zero] at e1 e2 ⊢
        have key : (DX s.leads.length (s.leads.getD · 0) R : Rat) * ((WY s.leads.length (s.leads.getD · 0) R rv col : Rat) * (rg r' x - rg r' col * rg (dv p col) x) - ((WY s.leads.length (s.leads.getD · 0) R rv col : Rat) * ((un (s.leads.getD i 0) x : Int) : Rat) - (WY (s.leads.length + 1) (updN (s.leads.getD · 0) s.leads.length col) (upd R s.leads.length rv) (un (s.leads.getD i 0)) x : Rat))) = 0 := by
          grind
        have := (Rat.mul_eq_zero.mp key).resolve_left Dr
        grind
    · rw [List.getElem?_append_right (by simpa using hi)] at hr
      have hi0 : i = s.done.length := by
        by_cases q : i - (List.map (wo col (dv p col)) s.done).length = 0
        · simp at q; omega
        · rw [List.getElem?_eq_none (by simp at q ⊢; omega)] at hr; cases hr
      subst hi0
      simp at hr
      subst hr
      rw [h.n, getD_app2]
      have o := one_eq x hx
      have sx := hsu (un col)
      rw [WY_un ne_col, WY_un ne_col] at sx
      have u1 : un col col = 1 := by simp [un]
      rw [u1] at sx
      simp only [Rat.intCast_mul, Rat.intCast_sub, Int.mul_one] at sx ⊢
      rw [o]
      have key : (DX s.leads.length (s.leads.getD · 0) R : Rat) * ((WY s.leads.length (s.leads.getD · 0) R rv x : Rat) - ((WY s.leads.length (s.leads.getD · 0) R rv col : Rat) * ((un col x : Int) : Rat) - (WY (s.leads.length + 1) (updN (s.leads.getD · 0) s.leads.length col) (upd R s.leads.length rv) (un col) x : Rat))) = 0 := by
        grind
      have := (Rat.mul_eq_zero.mp key).resolve_left Dr
      grind
  · obtain ⟨r', hr', rfl⟩ := List.mem_map.mp hr
    have hm := drop_mem hr'
    obtain ⟨u, t', hu, ht', htS', hur⟩ := hl r' hm
    refine ⟨u, t', hu, ht', htS', fun x hx => ?_⟩
    rw [ln, ← DX_lead lead_eq, ← WY_lead lead_eq, D']
    rw [wo_rg (by rw [h.ll r' hm]; exact hx)]
    have o := one_eq x hx
    have e1 := hur x hx
    have e2 := hur col hw
    have sx := star' u x
    simp only [Rat.intCast_mul, Rat.intCast_sub] at sx
    have key : (DX s.leads.length (s.leads.getD · 0) R : Rat) * ((t' : Rat) * (WY s.leads.length (s.leads.getD · 0) R rv col : Rat) * (rg r' x - rg r' col * rg (dv p col) x) - (WY (s.leads.length + 1) (updN (s.leads.getD · 0) s.leads.length col) (upd R s.leads.length rv) u x : Rat)) = 0 := by
      grind
    have := (Rat.mul_eq_zero.mp key).resolve_left Dr
    grind
end Vs.Bar
namespace Vs.Bar
def gred (w : Nat) (rows : List QRow) : GS := gredL w 0 ⟨rows, [], []⟩
/-- the equations r(0) x(0) + .. + r(n-1) x(n-1) = r(n) -/
def ESol (n : Nat) (rows : List QRow) (x : Nat → Rat) : Prop := ∀ r ∈ rows, SR n (fun j => rg r j * x j) = rg r n
def gsol (n : Nat) (rows : List QRow) : Option QRow := if (gred (n + 1) rows).leads = List.range n then some ((gred (n + 1) rows).done.map fun r => rg r n) else none
end Vs.Bar
namespace Vs
open PySem PySem.Spec PyProof.Rows L2
open Bar (rg wo dv pks dropAt GS gst gredL gred gsol GI RowIn fac WY DX un SR)
section
variable {μ : Mu} {δ : Sl}
/-- numerator and denominator of less than b bits -/
def Qz (b : Nat) (q : Rat) : Prop := 1 ≤ b ∧ Sz b q.num ∧ Sz b (q.den : Int)
theorem Qz.bz {b : Nat} {q : Rat} (h : Qz b q) : Bz b q := ⟨h.1, h.2.1.mono (by omega), h.2.2⟩
theorem Qz.mono {a b : Nat} {q : Rat} (h : Qz a q) (e : a ≤ b) : Qz b q := ⟨Nat.le_trans h.1 e, h.2.1.mono e, h.2.2.mono e⟩
theorem qz_of {x y : Int} {a : Nat} (h1 : 1 ≤ a) (h0 : y ≠ 0) (hx : Sz a x) (hy : Sz a y) : Qz a (Rat.divInt x y) := ⟨h1, num_sz hx, den_sz hy h0⟩
theorem Qz.add {a b : Nat} {x y : Rat} (hx : Qz a x) (hy : Qz b y) : Qz (a + b + 1) (x + y) := by
  rw [← add_eq]
  have h1 := (hx.2.1.mul hy.2.2).add (hy.2.1.mul hx.2.2)
  exact qz_of (by omega) (mul_ne (den_ne x) (den_ne y)) (h1.mono (by omega)) ((hx.2.2.mul hy.2.2).mono (by omega))
theorem Qz.mul {a b : Nat} {x y : Rat} (hx : Qz a x) (hy : Qz b y) : Qz (a + b) (x * y) := by
  rw [← mul_eq]
  have := hx.1
  exact qz_of (by omega) (mul_ne (den_ne x) (den_ne y)) (hx.2.1.mul hy.2.1) (hx.2.2.mul hy.2.2)
theorem Qz.neg {a : Nat} {x : Rat} (hx : Qz a x) : Qz a (-x) := by
  rw [← neg_eq]
  exact qz_of hx.1 (den_ne x) hx.2.1.neg hx.2.2
theorem Qz.sub {a b : Nat} {x y : Rat} (hx : Qz a x) (hy : Qz b y) : Qz (a + b + 1) (x - y) := by
  rw [show x - y = x + -y from Rat.sub_eq_add_neg _ _]; exact hx.add hy.neg
variable {a b : Rat} {n m : Nat}
theorem intsP_map (n : Nat) : intsP 0 n = (List.range n).map fun (i : Nat) => P.int (i : Int) := by
  unfold intsP; rw [List.range_eq_range']
theorem eq_int {i j : Int} : fEq (.p (.int i)) (.p (.int j)) μ = some (.p (.bl (decide (i = j))), μ) := by simp
theorem ne_int {i j : Int} : fNe (.p (.int i)) (.p (.int j)) μ = some (.p (.bl (!decide (i = j))), μ) := by simp
end
end Vs
namespace Vs
open PySem PySem.Spec PyProof.Rows L2
mutual
def nb : P → Bool
  | .non => true
  | .int _ => true
  | .str _ => true
  | .tup xs => nbs xs
  | .lst xs => nbs xs
  | _ => false
def nbs : List P → Bool
  | [] => true
  | x :: xs => nb x && nbs xs
end
end Vs
namespace Vs
open PySem PySem.Spec PyProof.Rows L2
open Bar (gt cz Sol Bd rg gsol RowIn ESol SR)
section
variable {μ : Mu} {δ : Sl}
def Tq (s A : Nat) (q : Rat) : Prop := 0 < s ∧ ∃ z : Int, (s : Rat) * q = (z : Rat) ∧ z.natAbs ≤ s * A
theorem Tq.eq {s A : Nat} {q : Rat} (h : Tq s A q) : ∃ z : Int, q = Rat.divInt z (s : Int) ∧ z.natAbs ≤ s * A := by
  obtain ⟨h0, z, e, hz⟩ := h
  refine ⟨z, ?_, hz⟩
  rw [Rat.divInt_eq_div, ← e, Rat.intCast_natCast]
  have : (s : Rat) ≠ 0 := fun q => by have : s = 0 := by exact_mod_cast q
                                      omega
  grind
theorem Tq.den {s A : Nat} {q : Rat} (h : Tq s A q) : q.den ∣ s := by
  obtain ⟨z, e, _⟩ := h.eq
  have h0 := h.1
  rw [e, Rat.den_divInt, if_neg (by omega), Int.natAbs_natCast]
  refine Nat.div_dvd_of_dvd ?_
  exact Nat.gcd_dvd_left _ _
theorem Tq.num {s A : Nat} {q : Rat} (h : Tq s A q) : q.num.natAbs ≤ s * A := by
  obtain ⟨z, e, hz⟩ := h.eq
  have h0 := h.1
  rw [e, Rat.num_divInt]
  refine Nat.le_trans (Int.natAbs_ediv_le_natAbs _ _) ?_
  rw [Int.natAbs_mul, Int.sign_eq_one_of_pos (by omega)]
  simpa using hz
theorem Tq.mono {s A B : Nat} {q : Rat} (h : Tq s A q) (e : A ≤ B) : Tq s B q := let ⟨h0, z, a, b⟩ := h; ⟨h0, z, a, Nat.le_trans b (Nat.mul_le_mul_left _ e)⟩
theorem Tq.add {s A B : Nat} {q r : Rat} (h : Tq s A q) (h2 : Tq s B r) : Tq s (A + B) (q + r) := by
  obtain ⟨h0, z, e, hz⟩ := h
  obtain ⟨_, y, e2, hy⟩ := h2
  refine ⟨h0, z + y, by rw [Rat.intCast_add, ← e, ← e2]; grind, ?_⟩
  rw [Nat.mul_add]; omega
theorem Tq.neg {s A : Nat} {q : Rat} (h : Tq s A q) : Tq s A (-q) := by
  obtain ⟨h0, z, e, hz⟩ := h
  exact ⟨h0, -z, by rw [Rat.intCast_neg, ← e]; grind, by omega⟩
theorem Tq.mul {s t A B : Nat} {q r : Rat} (h : Tq s A q) (h2 : Tq t B r) : Tq (s * t) (A * B) (q * r) := by
  obtain ⟨h0, z, e, hz⟩ := h
  obtain ⟨h1, y, e2, hy⟩ := h2
  refine ⟨Nat.mul_pos h0 h1, z * y, by rw [Rat.intCast_mul, ← e, ← e2, Rat.natCast_mul]; grind, ?_⟩
  rw [Int.natAbs_mul]
  calc z.natAbs * y.natAbs ≤ (s * A) * (t * B) := Nat.mul_le_mul hz hy
    _ = s * t * (A * B) := by grind
theorem Tq.up {s A : Nat} {q : Rat} (h : Tq s A q) (t : Nat) (ht : 0 < t) : Tq (s * t) A q := by
  obtain ⟨h0, z, e, hz⟩ := h
  refine ⟨Nat.mul_pos h0 ht, z * t, by rw [Rat.intCast_mul, ← e, Rat.natCast_mul, Rat.intCast_natCast]; grind, ?_⟩
  rw [Int.natAbs_mul, Int.natAbs_natCast]
  calc z.natAbs * t ≤ (s * A) * t := Nat.mul_le_mul_right _ hz
    _ = s * t * A := by grind
theorem Tq.row {s A w M S : Nat} {r : List Rat} (hr : r.length = w) (hs : 0 < s) (h : ∀ q ∈ r, Tq s A q) (h1 : s * A ≤ M) (h2 : s < 2 ^ S) : RowIn w M S r := by
  have key : ∀ x, x < w → ∃ z : Int, (s : Rat) * rg r x = (z : Rat) ∧ z.natAbs ≤ s * A := fun x hx => by
    rw [Bar.rg_lt (by omega)]
    exact (h _ (List.getElem_mem (by omega))).2
  refine ⟨hr, fun x => ((s : Rat) * rg r x).num, (s : Int), fun x => ?_, by omega, by exact_mod_cast h2, fun x hx => ?_⟩
  · show ((s : Rat) * rg r x).num.natAbs ≤ M
    by_cases hx : x < w
    · obtain ⟨z, e, hz⟩ := key x hx
      rw [e]
      exact Nat.le_trans hz h1
    · have : rg r x = 0 := by simp [rg, List.getD, List.getElem?_eq_none (show r.length ≤ x by omega)]
      rw [this, Rat.mul_zero]
      exact Nat.zero_le _
  · obtain ⟨z, e, hz⟩ := key x hx
    show ((s : Int) : Rat) * rg r x = ((((s : Rat) * rg r x).num : Int) : Rat)
    rw [Rat.intCast_natCast, e]
    rfl
end
end Vs
namespace Vs
open PySem PySem.Spec PyProof.Rows L2
open Bar (gt cz Sol Bd rg gsol RowIn ESol SR QRow)
section
variable {μ : Mu} {δ : Sl}
theorem lcdL {A : Type} {B : A → Prop} (f : A → P) {ts : Tgt} {e : Ev} (Cond : Sl → Prop) (step : ∀ s : SS, s.Ok → ∃ a s', SS.Ok s' ∧ B a ∧ ∀ (δ1 : Sl) (r : Mu), Cond δ1 → e δ1 (st s :: r) = some (.ok (.p (f a)), st s' :: r)) :
    ∀ (k : Nat) (s : SS), s.Ok → ∃ (as : List A) (s' : SS), SS.Ok s' ∧ (∀ a ∈ as, B a) ∧ as.length = k ∧ ∀ (δ0 : Sl) (xs : List P) (r : Mu) (acc : List P), xs.length = k → (∀ x ∈ xs, ∃ δ1, ts x δ0 = some δ1 ∧ Cond δ1) → acc.length + k ≤ 900 →
      lcL ts evTrue e δ0 (r.length + 1) xs (st s :: (r ++ [some (.lst acc)])) = some (st s' :: (r ++ [some (.lst (acc ++ as.map f))]))
  | 0, s, hs => ⟨[], s, hs, (by intro a h; cases h), rfl, fun δ0 xs r acc hx _ _ => by
      have : xs = [] := List.length_eq_zero_iff.mp hx
      subst this
      simp [lcL]⟩
  | k + 1, s, hs => by
    obtain ⟨a, s1, o1, b1, h1⟩ := step s hs
    obtain ⟨as, s', o', b', l', ih⟩ := lcdL f Cond step k s1 o1
    refine ⟨a :: as, s', o', ?_, by simp [l'], fun δ0 xs r acc hx ht ha => ?_⟩
    · intro y hy
      rcases List.mem_cons.mp hy with rfl | hy
      · exact b1
      · exact b' y hy
    · cases xs with
      | nil => simp at hx
      | cons x xs =>
        obtain ⟨δ1, t1, c1⟩ := ht x List.mem_cons_self
        have hl' : acc.length < sizeLine := line_k (by omega)
        have e1 := h1 δ1 (r ++ [some (.lst acc)]) c1
        have hc : cellL (st s1 :: (r ++ [some (.lst acc)])) (r.length + 1) = some acc := by
          unfold cellL
          simp
        have hset : (st s1 :: (r ++ [some (MO.lst acc)])).set (r.length + 1) (some (.lst (acc ++ [f a]))) = st s1 :: (r ++ [some (.lst (acc ++ [f a]))]) := by
          rw [List.set_cons_succ, set_end rfl]
        unfold lcL
        rw [t1]
        dsimp only
        rw [evTrue_eq]
        dsimp only
        rw [e1]
        dsimp only
        rw [toP_p]
        dsimp only
        rw [hc]
        dsimp only
        rw [if_pos hl', hset, ih δ0 xs r (acc ++ [f a]) (by simpa using hx) (fun y hy => ht y (List.mem_cons_of_mem _ hy)) (by simp; omega), List.append_assoc]
        rfl
theorem lcd {A : Type} {B : A → Prop} (f : A → P) {ts : Tgt} {e : Ev} {vs : List Nat} (Cond : Sl → Prop) (step : ∀ s : SS, s.Ok → ∃ a s', SS.Ok s' ∧ B a ∧ ∀ (δ1 : Sl) (r : Mu), Cond δ1 → e δ1 (st s :: r) = some (.ok (.p (f a)), st s' :: r)) (k : Nat) (hk : k ≤ 800) {s : SS} (hs : s.Ok) :
    ∃ (as : List A) (s' : SS), SS.Ok s' ∧ (∀ a ∈ as, B a) ∧ as.length = k ∧ ∀ (δ : Sl) (it : EvG (List P)) (xs : List P) (r : Mu), it δ (st s :: r) = some (.ok xs, st s :: r) → xs.length = k → (∀ x ∈ xs, ∃ δ1, ts x (wipeS δ vs) = some δ1 ∧ Cond δ1) →
      evLc it ts evTrue e vs δ (st s :: r) = some (.ok (.p (.lst (as.map f))), st s' :: r) ∧ evLcC it ts evTrue e vs δ (st s :: r) = some (.ok (.loc (r.length + 1)), st s' :: (r ++ [some (.lst (as.map f))])) := by
  obtain ⟨as, s', o', b', l', h⟩ := lcdL f (ts := ts) Cond step k s hs
  refine ⟨as, s', o', b', l', fun δ it xs r hi hx ht => ?_⟩
  have h := h (wipeS δ vs) xs r [] hx ht (by simp; omega)
  have hc : cellL (st s' :: (r ++ [some (.lst (as.map f))])) (r.length + 1) = some (as.map f) := by
    unfold cellL; simp
  rw [List.nil_append] at h
  constructor
  · rw [evLc_eq, hi, bindG_ok]
    rw [show (st s :: r).length = r.length + 1 from rfl, show (st s :: r) ++ [some (MO.lst [])] = st s :: (r ++ [some (MO.lst [])]) from rfl, h]
    unfold lcEnd
    dsimp only
    rw [hc]
    dsimp only
    rw [List.take_succ_cons, List.take_left]
  · show bindG (it δ (st s :: r)) (fun xs μ1 => lcEndC μ1.length (lcL ts evTrue e (wipeS δ vs) μ1.length xs (μ1 ++ [some (.lst [])]))) = _
    rw [hi, bindG_ok]
    rw [show (st s :: r).length = r.length + 1 from rfl, show (st s :: r) ++ [some (MO.lst [])] = st s :: (r ++ [some (MO.lst [])]) from rfl, h]
    unfold lcEndC
    dsimp only
    rw [hc]
    dsimp only
    rw [List.take_of_length_le (by simp)]
theorem tq_int {s A : Nat} {k : Int} (hs : 0 < s) (h : k.natAbs ≤ A) : Tq s A (k : Rat) := ⟨hs, s * k, by rw [Rat.intCast_mul, Rat.intCast_natCast], by rw [Int.natAbs_mul, Int.natAbs_natCast]; exact Nat.mul_le_mul_left _ h⟩
theorem tq_div {s A : Nat} {x y : Int} (hs : 0 < s) (hy : 0 < y) (hd : y ∣ (s : Int)) (hx : x.natAbs ≤ A) : Tq s A (Rat.divInt x y) := by
  obtain ⟨k, hk⟩ := hd
  have hy' : (y : Rat) ≠ 0 := fun q => by have : y = 0 := by exact_mod_cast q
                                          omega
  refine ⟨hs, x * k, ?_, ?_⟩
  · rw [Rat.divInt_eq_div, Rat.intCast_mul, ← Rat.intCast_natCast, hk, Rat.intCast_mul]; grind
  · rw [Int.natAbs_mul]
    have h1 : k.natAbs ≤ s := by
      have : (s : Int).natAbs = y.natAbs * k.natAbs := by rw [hk, Int.natAbs_mul]
      rw [Int.natAbs_natCast] at this
      rw [this]
      exact Nat.le_mul_of_pos_left _ (by omega)
    rw [Nat.mul_comm]
    exact Nat.mul_le_mul h1 hx
structure FmT (n : Nat) (f : Fm) : Prop where
  len : f.1.length = n
  co : ∀ q ∈ f.1, Tq 60 2 q
  c : Tq 60 15 f.2
  ci : ∀ q ∈ f.1, ∃ z : Int, (z : Rat) = q
theorem FmT.all {n : Nat} {f : Fm} (h : FmT n f) : ∀ q ∈ fmL f, Tq 60 15 q := fun q hq => by
  rcases List.mem_append.mp hq with h' | h'
  · exact (h.co q h').mono (by decide)
  · simp at h'; subst h'; exact h.c
theorem ap0 {acc : List P} {y : P} {s : SS} {r : Mu} (h : acc.length ≤ 900) : fApp (.loc (r.length + 1)) [.p y] (st s :: (r ++ [some (.lst acc)])) = some (.p .non, st s :: (r ++ [some (.lst (acc ++ [y]))])) := by
  have := ap1 (μ := st s :: r) (acc := acc) (y := y) (line_k (by omega))
  exact this
theorem is0 {acc : List P} {s : SS} {r : Mu} : isLst (st s :: (r ++ [some (.lst acc)])) (.loc (r.length + 1)) = true := is1 (μ := st s :: r)
theorem tup2 {x y : P} : tupEnd (some ([x, y], μ)) = some (.ok (.p (.tup [x, y])), μ) := by
  rw [tupEnd_some, if_pos (show [x, y].length ≤ sizeLine from line_2)]
end
end Vs
namespace Vs
open PySem PySem.Spec PyProof.Rows L2
open Bar (gt cz Sol Bd rg gsol RowIn ESol SR QRow)
section
variable {μ : Mu} {δ : Sl}
def LsD (μ : Mu) (d : D) (xs : List P) : Prop := d = .p (.lst xs) ∨ ∃ l, d = .loc l ∧ μ[l]? = some (some (.lst xs))
theorem LsD.view {d : D} {xs : List P} (h : LsD μ d xs) : view μ d = some (.lst xs) := by
  rcases h with rfl | ⟨l, rfl, h⟩
  · rfl
  · exact view_l h
theorem LsD.ext {d : D} {xs : List P} {ξ : Mu} (h : LsD μ d xs) (e : Ext μ ξ) : LsD ξ d xs := by
  rcases h with rfl | ⟨l, rfl, h⟩
  · exact .inl rfl
  · exact .inr ⟨l, rfl, by rw [e.get l (List.getElem?_eq_some_iff.mp h).1]; exact h⟩
theorem LsD.len {d : D} {xs : List P} {n : Nat} (h : LsD μ d xs) (hn : xs.length = n) : fLen [d] μ = some (.p (.int (n : Int)), μ) := by
  rcases h with rfl | ⟨l, rfl, h⟩
  · rw [fLen_lst, hn]
  · unfold fLen
    simp [view_l h, hn]
theorem LsD.ix {d : D} {xs : List P} {j : Nat} {x : P} (h : LsD μ d xs) (hx : xs[j]? = some x) : fIx d (.p (.int (j : Int))) μ = some (.p x, μ) := by
  rw [fIx_lst h.view, atI_nat hx]; rfl
theorem ge_int {i j : Int} : fGe (.p (.int i)) (.p (.int j)) μ = some (.p (.bl (decide (j ≤ i))), μ) := by simp
end
end Vs
namespace Vs
open PySem PySem.Spec PyProof.Rows L2
open Bar (gt cz Sol Bd rg gsol RowIn ESol SR QRow)
section
variable {μ : Mu} {δ : Sl}
theorem gt_int {i j : Int} : fGt (.p (.int i)) (.p (.int j)) μ = some (.p (.bl (decide (j < i))), μ) := by simp
end
end Vs
namespace Vs.Bar
def dq (n : Nat) (r : QRow) (d : Nat → Rat) : Rat := SR n (fun j => rg r j * d j)
def IndP (n : Nat) (rows : List QRow) : Prop := ∀ pre r post, rows = pre ++ r :: post → ∃ d, HS n pre d ∧ dq n r d ≠ 0
end Vs.Bar
namespace Vs.Bar
/-- sums of multiples -/
def InSp (n : Nat) : List Row → (Nat → Rat) → Prop
  | [], d => ∀ x, x < n → d x = 0
  | v :: vs, d => ∃ s : Rat, InSp n vs (fun x => d x - s * (gt v x : Rat))
theorem InSp.congr {n : Nat} : ∀ {vs : List Row} {d e : Nat → Rat}, (∀ x, x < n → d x = e x) → InSp n vs d → InSp n vs e
  | [], d, e, h, hd => fun x hx => by rw [← h x hx]; exact hd x hx
  | v :: vs, d, e, h, ⟨s, hs⟩ => ⟨s, InSp.congr (fun x hx => by rw [h x hx]) hs⟩
/-- a linear function that vanishes on some rows vanishes on their sums -/
theorem InSp.lin {n : Nat} {g : Nat → Rat} : ∀ {vs : List Row} {d : Nat → Rat}, InSp n vs d → (∀ v ∈ vs, SR n (fun x => g x * (gt v x : Rat)) = 0) → SR n (fun x => g x * d x) = 0
  | [], d, h, _ => SR_zero fun x hx => by rw [h x hx]; grind
  | v :: vs, d, ⟨s, h⟩, k => by
    have ih := InSp.lin h fun w hw => k w (List.mem_cons_of_mem _ hw)
    have e : SR n (fun x => g x * (d x - s * (gt v x : Rat))) = SR n (fun x => g x * d x) + (-s) * SR n (fun x => g x * (gt v x : Rat)) := by
      rw [← SR_mul, ← SR_add]
      exact SR_congr fun x _ => by grind
    rw [e, k v List.mem_cons_self] at ih
    grind
theorem InSp.zero {n : Nat} : ∀ {vs : List Row}, InSp n vs (fun _ => 0)
  | [] => fun _ _ => rfl
  | v :: vs => ⟨0, (InSp.zero (vs := vs)).congr fun x _ => by grind⟩
theorem InSp.mem {n : Nat} : ∀ {vs : List Row} {v : Row}, v ∈ vs → InSp n vs (fun x => (gt v x : Rat))
  | w :: vs, v, h => by
    rcases List.mem_cons.mp h with rfl | h
    · exact ⟨1, (InSp.zero (vs := vs)).congr fun x _ => by grind⟩
    · exact ⟨0, (InSp.mem h).congr fun x _ => by grind⟩
/-- the sum of products, as the program works it out -/
def dotI (d r : Row) : Int := (List.zipWith (· * ·) d r).sum
def chgK (D : List Row) (r : Row) : Option Nat := (List.range D.length).find? fun k => decide (dotI (D.getD k []) r ≠ 0)
def wrow (D : List Row) (r : Row) (k : Nat) : List Row := ((List.range D.length).filter fun j => decide (j ≠ k)).map fun j => List.zipWith (fun a b => dotI (D.getD k []) r * a - dotI (D.getD j []) r * b) (D.getD j []) (D.getD k [])
def withRow (D : List Row) (r : Row) : Option (List Row) := match chgK D r with
  | some k => some (wrow D r k)
  | none => none
structure Span (n : Nat) (names : List QRow) (D : List Row) : Prop where
  len : ∀ d ∈ D, d.length = n
  iff : ∀ d, HS n names d ↔ InSp n D d
/-- a row of integers for one of fractions -/
def RowOf (n : Nat) (r : Row) (q : QRow) : Prop := r.length = n + 1 ∧ ∃ t : Rat, t ≠ 0 ∧ ∀ x, x < n → (gt r x : Rat) = t * rg q x
theorem RowOf.dq {n : Nat} {r : Row} {q : QRow} (h : RowOf n r q) (d : Nat → Rat) : (SR n (fun x => (gt r x : Rat) * d x) = 0 ↔ Bar.dq n q d = 0) := by
  obtain ⟨_, t, ht, e⟩ := h
  have : SR n (fun x => (gt r x : Rat) * d x) = t * Bar.dq n q d := by
    unfold Bar.dq
    rw [← SR_mul]
    exact SR_congr fun x hx => by rw [e x hx]; grind
  rw [this]
  constructor
  · intro z; exact (Rat.mul_eq_zero.mp z).resolve_left ht
  · intro z; rw [z]; grind
/-- all directions -/
def units (n : Nat) : List Row := (List.range n).map fun i => (List.range n).map fun j => if i = j then 1 else 0
end Vs.Bar
namespace Vs.Bar
/-- the face's equations with directions: v k the values of the forms, g the slopes -/
def PSol (n m : Nat) (v : Nat → (Nat → Rat) → Rat) (g : (Nat → Rat) → Nat → Rat) (D : List Row) (x : Nat → Rat) : Prop := (∀ k, k < m → v k x = 0) ∧ ∀ d ∈ D, SR n (fun i => (gt d i : Rat) * g x i) = 0
/-- with multipliers -/
def LSol (n m : Nat) (coefs : List QRow) (v : Nat → (Nat → Rat) → Rat) (g : (Nat → Rat) → Nat → Rat) (y : Nat → Rat) : Prop := (∀ i, i < n → g y i = SR m (fun k => y (n + k) * rg (coefs.getD k []) i)) ∧ ∀ k, k < m → v k y = 0
end Vs.Bar
namespace Vs
open PySem PySem.Spec PyProof.Rows L2
open Bar (gt cz Sol Bd rg gsol RowIn ESol SR QRow InSp Span IndP withRow wrow chgK dotI PSol LSol RowOf HS)
section
variable {μ : Mu} {δ : Sl}
theorem add_ints {i j : Int} : fAdd (.p (.int i)) (.p (.int j)) μ = some (.p (.int (i + j)), μ) := by simp
end
end Vs
namespace Vs
open PySem PySem.Spec PyProof.Rows L2
open Bar (gt cz Sol Bd rg gsol RowIn ESol SR QRow InSp Span IndP withRow wrow chgK dotI PSol LSol RowOf HS)
section
variable {μ : Mu} {δ : Sl}
/-- a quadratic with small numbers; the total may be great -/
structure QuT (n : Nat) (sq : List (List Rat)) (co : List Rat) (tot : Rat) : Prop where
  n3 : n ≤ 3
  sl : sq.length = n
  sr : ∀ r ∈ sq, r.length = n ∧ ∀ q ∈ r, Tq 60 9 q
  cl : co.length = n
  cb : ∀ q ∈ co, Tq 60 9 q
  tb : Qz 150 tot
theorem at_D {A : Type} {f : A → P} {xs : List A} {a : Nat} (d : A) (h : a < xs.length) : atI (xs.map f) (a : Int) = some (f (xs.getD a d)) := atI_nat (by rw [List.getElem?_map, List.getElem?_eq_getElem h, List.getD_eq_getElem?_getD, List.getElem?_eq_getElem h]; rfl)
theorem tix {A : Type} {f : A → P} {xs : List A} {a : Nat} (d : A) (h : a < xs.length) : fIx (.p (.tup (xs.map f))) (.p (.int (a : Int))) μ = some (.p (f (xs.getD a d)), μ) := by rw [fIx_tup, at_D d h]; rfl
theorem lix {A : Type} {f : A → P} {xs : List A} {a : Nat} (d : A) (h : a < xs.length) : fIx (.p (.lst (xs.map f))) (.p (.int (a : Int))) μ = some (.p (f (xs.getD a d)), μ) := by rw [fIx_lstp, at_D d h]; rfl
theorem QuT.at {n : Nat} {sq : List (List Rat)} {co : List Rat} {tot : Rat} (h : QuT n sq co tot) {i j : Nat} (hi : i < n) (hj : j < n) : (sq.getD i []).length = n ∧ Tq 60 9 (rg (sq.getD i []) j) := by
  have m := h.sr _ (getD_mem (d := []) (show i < sq.length by rw [h.sl]; exact hi))
  exact ⟨m.1, m.2 _ (getD_mem (by rw [m.1]; exact hj))⟩
end
end Vs
namespace Vs
open PySem PySem.Spec PyProof.Rows L2
open Bar (gt cz Sol Bd rg gsol RowIn ESol SR QRow)
section
variable {μ : Mu} {δ : Sl}
theorem eq_rat2 {a b : Rat} : (a.num = b.num ∧ a.den = b.den) ↔ a = b := ⟨fun ⟨h1, h2⟩ => Rat.ext h1 h2, fun h => by subst h; exact ⟨rfl, rfl⟩⟩
theorem ev_req2 {a b : Rat} : m_Ratiou_equ [.p (rat a), .p (rat b)] μ = some (.ok (.p (.bl (decide (a = b)))), μ) := by
  have h : isiVEnd (isiO 0) μ (some (rat b)) = some (.ok (.p (.bl true)), μ) := isiVEnd_some rfl
  by_cases h1 : a.num = b.num
  · by_cases h2 : a.den = b.den
    · have e := eq_rat2.mp ⟨h1, h2⟩
      unfold rat at h ⊢
      simp [m_Ratiou_equ, arF, bodySem_eq, sv_Ratiou_equ, h, e]
    · have e : ¬ a = b := fun q => h2 (eq_rat2.mpr q).2
      unfold rat at h ⊢
      have h2' : ¬ (a.den : Int) = (b.den : Int) := by omega
      simp [m_Ratiou_equ, arF, bodySem_eq, sv_Ratiou_equ, h, e, h1, h2']
  · have e : ¬ a = b := fun q => h1 (eq_rat2.mpr q).1
    unfold rat at h ⊢
    simp [m_Ratiou_equ, arF, bodySem_eq, sv_Ratiou_equ, h, e, h1]
theorem ne_ratG {a b : Rat} : fNeO 0 m_Ratiou_equ (.p (rat a)) (.p (rat b)) μ = some (.p (.bl (!decide (a = b))), μ) := by
  have hc : (isObj 0 (.p (rat a)) && okSide 0 (.p (rat b))) = true := rfl
  unfold fNeO
  rw [if_pos hc, semD_ok ev_req2]
  rfl
end
end Vs
namespace Vs
open PySem PySem.Spec PyProof.Rows L2
section
variable {μ ν : Mu} {δ : Sl}
theorem mkD {a : EvA} {n d : Int} (h : a δ μ = some (.ok [.p (.int n), .p (.int d)], ν)) (h0 : d ≠ 0) (hs : Sz 100 d) : evMake 0 2 m_Ratiou_initu [] a δ μ = some (.ok (.p (rat (Rat.divInt n d))), ν) := by
  rw [evMake_eq, h, bindG_ok]
  exact e_mk h0 hs
theorem mkI {a : EvA} {n : Int} (h : a δ μ = some (.ok [.p (.int n)], ν)) : evMake 0 2 m_Ratiou_initu [.int 1] a δ μ = some (.ok (.p (rat (n : Rat))), ν) := by
  rw [evMake_eq, h, bindG_ok]
  exact ev_mk1
end
structure Pc4 (c : Pc) : Prop where
  t : Bz 8 c.t
  p : Bz 90 c.p
  v : Bz 20 c.v
  a : Bz 5 c.a
/-- rows of small numbers -/
structure Row4 (r : Rat × Rat) : Prop where
  d : Bz 2 r.1
  pos : 0 < r.1
  a : Bz 5 r.2
  tq : Tq 2 6 r.1
structure Mv4 (rs : List (Rat × Rat)) : Prop where
  good : GoodM rs
  ne : rs ≠ []
  sm : ∀ c ∈ pcs 0 0 0 rs, Pc4 c
  fin : Bz 97 (finP 0 0 rs)
  len : Tq 2 18 (finT 0 rs)
  rows : ∀ r ∈ rs, Row4 r
  few : rs.length ≤ 3
theorem posL_bz4 {x : Rat} {nx : Nat} (hx : Bz nx x) : ∀ (ps : List Pc), (∀ c ∈ ps, Pc4 c) → ∀ y, posL ps x = some y → Bz (133 + 2 * nx) y
  | [], _, y, h => by cases h
  | c :: cs, hp, y, h => by
    have e : posL (c :: cs) x = if c.e < x then posL cs x else some (rch c.p c.v c.a (x - c.t)) := rfl
    rw [e] at h
    split at h
    · exact posL_bz4 hx cs (fun d hd => hp d (List.mem_cons_of_mem _ hd)) y h
    · cases h
      have k := hp c List.mem_cons_self
      exact (rch_bz k.p k.v k.a (hx.sub k.t)).mono (by omega)
theorem posn_bz4 {rs : List (Rat × Rat)} {x : Rat} {nx : Nat} (h : Mv4 rs) (hx : Bz nx x) : Bz (133 + 2 * nx) (posn rs x) := by
  unfold posn
  split
  · exact bz0.mono (by omega)
  · cases q : posL (pcs 0 0 0 rs) x with
    | none => exact h.fin.mono (by omega)
    | some y => exact posL_bz4 hx _ h.sm y q
theorem spdL_bz4 {x : Rat} {nx : Nat} (hx : Bz nx x) : ∀ (ps : List Pc), (∀ c ∈ ps, Pc4 c) → ∀ y, spdL ps x = some y → Bz (33 + nx) y
  | [], _, y, h => by cases h
  | c :: cs, hp, y, h => by
    have e : spdL (c :: cs) x = if c.e < x then spdL cs x else some (c.v + c.a * (x - c.t)) := rfl
    rw [e] at h
    split at h
    · exact spdL_bz4 hx cs (fun d hd => hp d (List.mem_cons_of_mem _ hd)) y h
    · cases h
      have k := hp c List.mem_cons_self
      exact (k.v.add (k.a.mul (hx.sub k.t))).mono (by omega)
theorem spd_bz4 {rs : List (Rat × Rat)} {x : Rat} {nx : Nat} (h : Mv4 rs) (hx : Bz nx x) : Bz (33 + nx) (spd rs x) := by
  unfold spd
  split
  · exact bz0.mono (by omega)
  · cases q : spdL (pcs 0 0 0 rs) x with
    | none => exact bz0.mono (by omega)
    | some y => exact spdL_bz4 hx _ h.sm y q
theorem mv4_of : ∀ (rs : List (Rat × Rat)) (t p v : Rat) (i j k : Nat), (∀ r ∈ rs, Row4 r) → finV v rs = 0 → Bz i t → Bz j p → Bz k v → i + 2 * rs.length ≤ 8 → k + 7 * rs.length ≤ 22 → j + 31 * rs.length ≤ 97 → Good v rs ∧ (∀ c ∈ pcs t p v rs, Pc4 c) ∧ Bz 97 (finP p v rs)
  | [], t, p, v, i, j, k, _, h0, ht, hp, hv, _, _, hj => ⟨h0, (fun c hc => by cases hc), hp.mono (by simpa using hj)⟩
  | r :: rs, t, p, v, i, j, k, hr, h0, ht, hp, hv, hi, hk, hj => by
    rw [List.length_cons] at hi hk hj
    have h := hr r List.mem_cons_self
    have t1 : Bz (i + 2) (t + r.1) := ht.add h.d
    have v1 : Bz (k + 7) (v + r.2 * r.1) := (hv.add (h.a.mul h.d)).mono (by omega)
    have p1 : Bz (j + 31) (rch p v r.2 r.1) := (rch_bz hp hv h.a h.d).mono (by omega)
    obtain ⟨g1, g2, g3⟩ := mv4_of rs (t + r.1) (rch p v r.2 r.1) (v + r.2 * r.1) (i + 2) (j + 31) (k + 7) (fun x hx => hr x (List.mem_cons_of_mem _ hx)) h0 t1 p1 v1 (by omega) (by omega) (by omega)
    refine ⟨⟨h.d.mono (by decide), h.pos, h.a.mono (by decide), hv.mono (by omega), g1⟩, fun c hc => ?_, g3⟩
    rcases List.mem_cons.mp hc with rfl | hc
    · exact ⟨ht.mono (by omega), hp.mono (by omega), hv.mono (by omega), h.a⟩
    · exact g2 c hc
theorem finT_tq : ∀ (rs : List (Rat × Rat)) (t : Rat) (A : Nat), (∀ r ∈ rs, Tq 2 6 r.1) → Tq 2 A t → Tq 2 (A + 6 * rs.length) (finT t rs)
  | [], t, A, _, h => h
  | r :: rs, t, A, hr, h => by
    have := finT_tq rs (t + r.1) (A + 6) (fun x hx => hr x (List.mem_cons_of_mem _ hx)) (h.add (hr r List.mem_cons_self))
    rw [List.length_cons]
    exact this.mono (by omega)
theorem mv4_ok {rs : List (Rat × Rat)} (hr : ∀ r ∈ rs, Row4 r) (h0 : finV 0 rs = 0) (hl : rs.length ≤ 3) (hn : rs ≠ []) : Mv4 rs := by
  obtain ⟨a, b, c⟩ := mv4_of rs 0 0 0 1 1 1 hr h0 bz0 bz0 bz0 (by omega) (by omega) (by omega)
  have t := finT_tq rs 0 0 (fun r h => (hr r h).tq) ⟨by decide, 0, by rw [Rat.mul_zero]; rfl, by decide⟩
  exact ⟨⟨a, by omega⟩, hn, b, c, t.mono (by omega), hr, hl⟩
section
variable {μ ν : Mu} {δ : Sl}
theorem o4 {n d : Int} {k : Nat} (h0 : 0 < d) (hd : d ∣ (2 : Int)) (hn : n.natAbs ≤ k) : Tq 2 k (Rat.divInt n d) := tq_div (by decide) h0 hd hn
theorem drC {s s' : SS} {k x : Int} {r : Mu} (e : ∀ r : Mu, m__law_draw [.loc 0, .p (.int k)] (st s :: r) = some (.ok (.p (.int x)), st s' :: r)) (hd : δ[0]? = some (some (.loc 0))) : evCall m__law_draw [] (evCons (evV 0) (evCons (evC (.int k)) evNil)) δ (st s :: r) = some (.ok (.p (.int x)), st s' :: r) := by
  rw [evCall_eq, evCons_eq, evV_at hd, bindG_ok, evCons_eq, evC_eq, bindG_ok, evNil_eq, bindG_ok, bindG_ok, bindG_ok, List.map_nil, List.append_nil, e]
theorem drC1 {s s' : SS} {k x : Int} {r : Mu} (e : ∀ r : Mu, m__law_draw [.loc 0, .p (.int k)] (st s :: r) = some (.ok (.p (.int x)), st s' :: r)) (hd : δ[0]? = some (some (.loc 0))) : evBin fAdd (evC (.int 1)) (evCall m__law_draw [] (evCons (evV 0) (evCons (evC (.int k)) evNil))) δ (st s :: r) = some (.ok (.p (.int (1 + x))), st s' :: r) := by
  rw [evBin_eq, evC_eq, bindG_ok, drC e hd, bindG_ok, add_ints, okm_some]
/-- 1 + draw over 1 + draw -/
theorem dur_ex {s : SS} (hs : s.Ok) : ∃ q s', SS.Ok s' ∧ Bz 2 q ∧ 0 < q ∧ Tq 2 3 q ∧ q.num.natAbs ≤ 3 ∧ ∀ (r : Mu) (δ : Sl), δ[0]? = some (some (.loc 0)) → evMake 0 2 m_Ratiou_initu [] (evCons (evBin fAdd (evC (.int 1)) (evCall m__law_draw [] (evCons (evV 0) (evCons (evC (.int 3)) evNil)))) (evCons (evBin fAdd (evC (.int 1)) (evCall m__law_draw [] (evCons (evV 0) (evCons (evC (.int 2)) evNil)))) evNil)) δ (st s :: r) = some (.ok (.p (rat q)), st s' :: r) := by
  obtain ⟨x, s1, o1, l1, u1, e1⟩ := draw0 3 hs
  obtain ⟨y, s2, o2, l2, u2, e2⟩ := draw0 2 o1
  refine ⟨Rat.divInt (1 + x) (1 + y), s2, o2, ?_, ?_, ?_, ?_, fun r δ hd => ?_⟩
  · exact bz_of (k := 2) (by omega) (by decide) (sz_lt 3 (by omega)) (by decide) (sz_lt 2 (by omega))
  · have : x = 0 ∨ x = 1 ∨ x = 2 := by omega
    have : y = 0 ∨ y = 1 := by omega
    rcases ‹x = 0 ∨ x = 1 ∨ x = 2› with rfl | rfl | rfl <;> rcases ‹y = 0 ∨ y = 1› with rfl | rfl <;> decide +kernel
  · have : y = 0 ∨ y = 1 := by omega
    exact o4 (by omega) (by rcases this with rfl | rfl <;> decide) (by omega)
  · have : x = 0 ∨ x = 1 ∨ x = 2 := by omega
    have : y = 0 ∨ y = 1 := by omega
    rcases ‹x = 0 ∨ x = 1 ∨ x = 2› with rfl | rfl | rfl <;> rcases ‹y = 0 ∨ y = 1› with rfl | rfl <;> decide +kernel
  · refine mkD ?_ (by omega) (sz_lt 2 (by omega))
    rw [evCons_eq, evBin_eq, evC_eq, bindG_ok, evCall_eq, evCons_eq, evV_at hd, bindG_ok, evCons_eq, evC_eq, bindG_ok, evNil_eq, bindG_ok, bindG_ok, bindG_ok, List.map_nil, List.append_nil, e1, bindG_ok, add_ints, okm_some, bindG_ok, evCons_eq, evBin_eq, evC_eq, bindG_ok, evCall_eq, evCons_eq, evV_at hd, bindG_ok, evCons_eq, evC_eq, bindG_ok, evNil_eq, bindG_ok, bindG_ok, bindG_ok, List.map_nil, List.append_nil, e2, bindG_ok, add_ints, okm_some, bindG_ok, evNil_eq, bindG_ok, bindG_ok]
theorem ev_sover {a b : Rat} {n m s : Nat} (ha : Bz n a) (hb : Bz m b) (hs : Sz s b.num) (h0 : b ≠ 0) (h : n + m ≤ 9000) (h2 : n + s ≤ 9000) : m__law_sover [.p (rat a), .p (rat b)] μ = some (.ok (.p (rat (a / b))), μ) := ev_quotient ha hb hs h0 h h2
theorem ev_sless {a b : Rat} {n m : Nat} (ha : Bz n a) (hb : Bz m b) (h : n + m ≤ 9000) : m__law_sless [.p (rat a), .p (rat b)] μ = some (.ok (.p (.bl (decide (a < b)))), μ) := ev_is_less ha hb h
theorem ev_slength {rs : List (Rat × Rat)} (h : GoodM rs) : m__law_slength [.p (mvR rs)] μ = some (.ok (.p (rat (finT 0 rs))), μ) := ev_length h
theorem idiv {x l : Rat} (h : l ≠ 0) : x / l * l = x := by
  rw [Rat.div_def, Rat.mul_assoc, Rat.inv_mul_cancel l h, Rat.mul_one]
theorem Tq.bz2 {q : Rat} (h : Tq 2 6 q) : Bz 2 q := ⟨by decide, Nat.lt_of_le_of_lt h.num (by decide), by
  have := Nat.le_of_dvd (by decide) h.den
  unfold Sz
  rw [Int.natAbs_natCast]
  omega⟩
theorem row4 {d a : Rat} (h : Tq 2 6 d) (h0 : 0 < d) (ha : Bz 5 a) : Row4 (d, a) := ⟨h.bz2, h0, ha, h⟩
theorem all3 {A : Type} {p : A → Prop} {x y z : A} (h1 : p x) (h2 : p y) (h3 : p z) : ∀ r ∈ [x, y, z], p r := fun r h => by
  simp only [List.mem_cons, List.mem_nil_iff, or_false] at h
  rcases h with rfl | rfl | rfl <;> assumption
/-- the rows that may be drawn -/
theorem rows_ok {f l a k : Rat} (hf : Tq 2 3 f) (f0 : 0 < f) (hl : Tq 2 3 l) (l0 : 0 < l) (hn : l.num.natAbs ≤ 3) (hk : Tq 2 3 k) (k0 : 0 < k) (ha : Bz 1 a) :
    Mv4 [(f, a), (f + f, -a), (f, a)] ∧ Mv4 [(f, a), (l, -(a * f / l))] ∧ Mv4 [(f, a), (k, 0), (l, -(a * f / l))] ∧ Mv4 [(k, 0), (f, a), (l, -(a * f / l))] ∧ Mv4 [(f, a), (l, -(a * f / l)), (k, 0)] := by
  have ln : l ≠ 0 := by grind
  have lb := (hl.mono (B := 6) (by decide)).bz2
  have fb := (hf.mono (B := 6) (by decide)).bz2
  have q : Bz 5 (-(a * f / l)) := (((ha.mul fb).mono (m := 3) (by decide)).div lb (s := 2) (sz_lt 3 hn) ln (by decide)).neg
  have e := idiv (x := a * f) ln
  generalize a * f / l = z at *
  have r1 := row4 (hf.mono (B := 6) (by decide)) f0 (ha.mono (m := 5) (by decide))
  have r2 := row4 (hl.mono (B := 6) (by decide)) l0 q
  have r3 := row4 (hk.mono (B := 6) (by decide)) k0 (bz0.mono (m := 5) (by decide))
  have r4 := row4 ((hf.add hf).mono (B := 6) (by decide)) (by grind : 0 < f + f) (ha.neg.mono (m := 5) (by decide))
  refine ⟨mv4_ok (all3 r1 r4 r1) ?_ (by simp) (by simp), mv4_ok (fun r h => all3 r1 r2 r2 r (by simp at h ⊢; exact h)) ?_ (by simp) (by simp), mv4_ok (all3 r1 r3 r2) ?_ (by simp) (by simp), mv4_ok (all3 r3 r1 r2) ?_ (by simp) (by simp), mv4_ok (all3 r1 r2 r3) ?_ (by simp) (by simp)⟩
  all_goals (unfold finV; repeat unfold finV)
  all_goals grind
theorem six_l (δ : Sl) (κ : Mu) : evLst (evCons (evUn fNeg (evC (.int 3))) (evCons (evUn fNeg (evC (.int 2))) (evCons (evUn fNeg (evC (.int 1))) (evCons (evC (.int 1)) (evCons (evC (.int 2)) (evCons (evC (.int 3)) evNil)))))) δ κ = some (.ok (.p (.lst [.int (-3), .int (-2), .int (-1), .int 1, .int 2, .int 3])), κ) := by
  have l6 : ([P.int (-3), .int (-2), .int (-1), .int 1, .int 2, .int 3] : List P).length ≤ sizeLine := Nat.le_of_lt (line_k (by decide))
  have n3 : fNeg (.p (.int 3)) κ = some (.p (.int (-3)), κ) := rfl
  have n2 : fNeg (.p (.int 2)) κ = some (.p (.int (-2)), κ) := rfl
  have n1 : fNeg (.p (.int 1)) κ = some (.p (.int (-1)), κ) := rfl
  rw [evLst_eq, evCons_eq, evUn_eq, evC_eq, bindG_ok, n3, okm_some, bindG_ok, evCons_eq, evUn_eq, evC_eq, bindG_ok, n2, okm_some, bindG_ok, evCons_eq, evUn_eq, evC_eq, bindG_ok, n1, okm_some, bindG_ok, evCons_eq, evC_eq, bindG_ok, evCons_eq, evC_eq, bindG_ok, evCons_eq, evC_eq, bindG_ok, evNil_eq, bindG_ok, bindG_ok, bindG_ok, bindG_ok, bindG_ok, bindG_ok, bindG_ok, toPs_cons, toPs_cons, toPs_cons, toPs_cons, toPs_cons, toPs_cons, toPs_nil, consP_some, consP_some, consP_some, consP_some, consP_some, consP_some, lstEnd_some, if_pos l6]
theorem six_i {v : Int} (h0 : 0 ≤ v) (h6 : v < 6) : ∃ a : Int, a.natAbs ≤ 3 ∧ ∀ κ : Mu, fIx (.p (.lst [.int (-3), .int (-2), .int (-1), .int 1, .int 2, .int 3])) (.p (.int v)) κ = some (.p (.int a), κ) := by
  have : v = 0 ∨ v = 1 ∨ v = 2 ∨ v = 3 ∨ v = 4 ∨ v = 5 := by omega
  rcases this with rfl | rfl | rfl | rfl | rfl | rfl
  · exact ⟨-3, by decide, fun _ => rfl⟩
  · exact ⟨-2, by decide, fun _ => rfl⟩
  · exact ⟨-1, by decide, fun _ => rfl⟩
  · exact ⟨1, by decide, fun _ => rfl⟩
  · exact ⟨2, by decide, fun _ => rfl⟩
  · exact ⟨3, by decide, fun _ => rfl⟩
theorem tup2r {x y : Rat} {μ : Mu} : tupEnd (some ([rat x, rat y], μ)) = some (.ok (.p (rowR (x, y))), μ) := tup2
theorem tup3 {x y z : P} : tupEnd (some ([x, y, z], μ)) = some (.ok (.p (.tup [x, y, z])), μ) := by
  rw [tupEnd_some, if_pos (Nat.le_of_lt (line_k (by simp)))]
theorem row_e {i j : Nat} {x y : Rat} (h1 : evV i δ μ = some (.ok (.p (rat x)), μ)) (h2 : evV j δ μ = some (.ok (.p (rat y)), μ)) : evTup (evCons (evV i) (evCons (evV j) evNil)) δ μ = some (.ok (.p (rowR (x, y))), μ) := by
  rw [evTup_eq, evCons_eq, h1, bindG_ok, evCons_eq, h2, bindG_ok, evNil_eq, bindG_ok, bindG_ok, bindG_ok, toPs_cons, toPs_cons, toPs_nil, consP_some, consP_some, tup2r]
/-- the pause -/
theorem pause_e {s s' : SS} {x : Int} {r : Mu} (e : ∀ r : Mu, m__law_draw [.loc 0, .p (.int 2)] (st s :: r) = some (.ok (.p (.int x)), st s' :: r)) (hd : δ[0]? = some (some (.loc 0))) : evTup (evCons (evMake 0 2 m_Ratiou_initu [.int 1] (evCons (evBin fAdd (evC (.int 1)) (evCall m__law_draw [] (evCons (evV 0) (evCons (evC (.int 2)) evNil)))) evNil)) (evCons (evMake 0 2 m_Ratiou_initu [.int 1] (evCons (evC (.int 0)) evNil)) evNil)) δ (st s :: r) = some (.ok (.p (rowR (((1 + x : Int) : Rat), 0))), st s' :: r) := by
  have m1 := mkI (δ := δ) (μ := st s :: r) (ν := st s' :: r) (a := evCons (evBin fAdd (evC (.int 1)) (evCall m__law_draw [] (evCons (evV 0) (evCons (evC (.int 2)) evNil)))) evNil) (n := 1 + x) (by
    rw [evCons_eq, drC1 e hd, bindG_ok, evNil_eq, bindG_ok])
  rw [evTup_eq, evCons_eq, m1, bindG_ok, evCons_eq, mk0, bindG_ok, evNil_eq, bindG_ok, bindG_ok, bindG_ok, toPs_cons, toPs_cons, toPs_nil, consP_some, consP_some, tup2r]
end
end Vs
namespace Vs
open PySem PySem.Spec PyProof.Rows L2
section
variable {μ ν : Mu} {δ : Sl}
theorem int_bz {a : Int} (h : a.natAbs ≤ 3) : Bz 1 (a : Rat) := ⟨by decide, by
  rw [Rat.num_intCast]
  exact sz_lt 3 h, by
  rw [Rat.den_intCast]
  exact sz_lt 1 (by decide)⟩
theorem fIns_end {xs : List P} {y : P} {i : Nat} (hl : xs.length < 900) (hi : i < 900) : fIns (.loc μ.length) [.p (.int (i : Int)), .p y] (μ ++ [some (.lst xs)]) = some (.p .non, μ ++ [some (.lst (xs.take i ++ [y] ++ xs.drop i))]) := by
  have hc : cellL (μ ++ [some (.lst xs)]) μ.length = some xs := cellL_end rfl
  unfold fIns
  dsimp only
  rw [toP_p]
  dsimp only
  rw [hc]
  dsimp only
  rw [if_pos ⟨line_k (by omega), by omega, by omega⟩, Int.toNat_natCast, set_end rfl]
theorem tup_end {xs : List P} {i : Nat} (h : evV i δ (μ ++ [some (.lst xs)]) = some (.ok (.loc μ.length), μ ++ [some (.lst xs)])) : evBI fTupOf (evCons (evV i) evNil) δ (μ ++ [some (.lst xs)]) = some (.ok (.p (.tup xs)), μ ++ [some (.lst xs)]) := by
  have hl : lstOf (μ ++ [some (.lst xs)]) (.loc μ.length) = some xs := by
    unfold lstOf
    rw [view_l get_end]
  rw [evBI_eq, evCons_eq, h, bindG_ok, evNil_eq, bindG_ok, bindG_ok]
  unfold fTupOf
  dsimp only
  rw [hl]; rfl
/-- the rows behind the pick -/
def pick4 (f l a k : Rat) (pk : Int) : List (Rat × Rat) := if pk = 0 then [(f, a), (f + f, -a), (f, a)] else if pk < 3 then [(f, a), (k, 0), (l, -(a * f / l))] else if pk = 3 then [(k, 0), (f, a), (l, -(a * f / l))] else if pk = 4 then [(f, a), (l, -(a * f / l)), (k, 0)] else [(f, a), (l, -(a * f / l))]
theorem smove_ex {s : SS} (hs : s.Ok) : ∃ rs s', SS.Ok s' ∧ Mv4 rs ∧ ∀ r : Mu, m__law_smove [.loc 0] (st s :: r) = some (.ok (.p (mvR rs)), st s' :: r) := by
  obtain ⟨f, s1, o1, fb, f0, ft, fn, ef⟩ := dur_ex hs
  obtain ⟨l, s2, o2, lb, l0, lt, ln, el⟩ := dur_ex o1
  obtain ⟨v, s3, o3, v0, v6, e3⟩ := draw0 6 o2
  obtain ⟨a, ha, ia⟩ := six_i v0 v6
  obtain ⟨x, s4, o4, x0, x2, e4⟩ := draw0 2 o3
  obtain ⟨pk, s5, o5, p0, p6, e5⟩ := draw0 6 o4
  have kt : Tq 2 3 ((1 + x : Int) : Rat) := tq_int (by decide) (by omega)
  have k0 : (0 : Rat) < ((1 + x : Int) : Rat) := by
    have : (0 : Int) < 1 + x := by omega
    exact_mod_cast this
  have ab := int_bz ha
  obtain ⟨r1, r2, r3, r4, r5⟩ := rows_ok ft f0 lt l0 ln kt k0 ab
  generalize hA : (a : Rat) = A at *
  generalize hK : ((1 + x : Int) : Rat) = k at *
  refine ⟨pick4 f l A k pk, s5, o5, ?_, fun r => ?_⟩
  · unfold pick4
    split
    · exact r1
    · split
      · exact r3
      · split
        · exact r4
        · split
          · exact r5
          · exact r2
  · have lne : l ≠ 0 := by grind
    have m3 : ∀ (δ : Sl), δ[0]? = some (some (.loc 0)) → evMake 0 2 m_Ratiou_initu [.int 1] (evCons (evBin fIx (evLst (evCons (evUn fNeg (evC (.int 3))) (evCons (evUn fNeg (evC (.int 2))) (evCons (evUn fNeg (evC (.int 1))) (evCons (evC (.int 1)) (evCons (evC (.int 2)) (evCons (evC (.int 3)) evNil))))))) (evCall m__law_draw [] (evCons (evV 0) (evCons (evC (.int 6)) evNil)))) evNil) δ (st s2 :: r) = some (.ok (.p (rat A)), st s3 :: r) := fun δ hd => by
      rw [← hA]
      refine mkI ?_
      rw [evCons_eq, evBin_eq, six_l, bindG_ok, drC e3 hd, bindG_ok, ia, okm_some, bindG_ok, evNil_eq, bindG_ok]
    have m4 := fun (δ : Sl) (hd : δ[0]? = some (some (.loc 0))) => pause_e (δ := δ) (r := r) e4 hd
    rw [hK] at m4
    have am := fun κ : Mu => o_mul' (μ := κ) ab fb (by decide)
    have so := fun κ : Mu => ev_sover (μ := κ) (ab.mul fb) lb (s := 2) (sz_lt 3 ln) lne (by decide) (by decide)
    have zb : Bz 5 (A * f / l) := ((ab.mul fb).mono (m := 3) (by decide)).div lb (s := 2) (sz_lt 3 ln) lne (by decide)
    have ng := fun κ : Mu => o_neg' (μ := κ) zb (by decide)
    have na := fun κ : Mu => o_neg' (μ := κ) ab (by decide)
    have ff := fun κ : Mu => o_add' (μ := κ) fb fb (by decide)
    unfold m__law_smove
    rw [arF1]
    unfold sv__law_smove
    simp only [List.replicate, List.cons_append, List.nil_append]
    rw [seqS_eq, sSet_eq, ef r _ rfl, bindS_ok, andThen_nx]
    simp only [List.set_cons_succ, List.set_cons_zero]
    rw [seqS_eq, sSet_eq, el r _ rfl, bindS_ok, andThen_nx]
    simp only [List.set_cons_succ, List.set_cons_zero]
    rw [seqS_eq, sSet_eq, m3 _ rfl, bindS_ok, andThen_nx]
    simp only [List.set_cons_succ, List.set_cons_zero]
    rw [seqS_eq, sSet_eq, m4 _ rfl, bindS_ok, andThen_nx]
    simp only [List.set_cons_succ, List.set_cons_zero]
    rw [seqS_eq, sSet_eq, drC e5 rfl, bindS_ok, andThen_nx]
    simp only [List.set_cons_succ, List.set_cons_zero]
    rw [seqS_eq, sIf_eq, evB_eq', evBin_eq, evV_5, bindG_ok, evC_eq, bindG_ok, eq_int, okm_some, bindG_ok, toB_bl, bindS_ok]
    unfold pick4
    by_cases q0 : pk = 0
    · rw [if_pos (decide_eq_true q0), if_pos q0, sRet_eq, evTup_eq, evCons_eq, row_e (i := 1) (j := 3) rfl rfl, bindG_ok, evCons_eq, evTup_eq, evCons_eq, evBin_eq, evV_1, bindG_ok, evV_1, bindG_ok, ff, okm_some, bindG_ok, evCons_eq, evUn_eq, evV_3, bindG_ok, na, okm_some, bindG_ok, evNil_eq, bindG_ok, bindG_ok, bindG_ok, toPs_cons, toPs_cons, toPs_nil, consP_some, consP_some, tup2r, bindG_ok, evCons_eq, row_e (i := 1) (j := 3) rfl rfl, bindG_ok, evNil_eq, bindG_ok, bindG_ok, bindG_ok, bindG_ok, toPs_cons, toPs_cons, toPs_cons, toPs_nil, consP_some, consP_some, consP_some, tup3, bindS_ok, andThen_ret, retF_p]
      show some (Out.ok (D.p (mvR [(f, A), (f + f, -A), (f, A)])), (st s5 :: r).take (st s :: r).length) = _
      rw [show (st s :: r).length = (st s5 :: r).length from rfl, List.take_length]
    · rw [if_neg (by simpa using q0), if_neg q0, sNil_eq, andThen_nx]
      have lst : evLstC (evCons (evTup (evCons (evV 1) (evCons (evV 3) evNil))) (evCons (evTup (evCons (evV 2) (evCons (evUn (fOwn1 0 m_Ratiou_negu) (evCall m__law_sover [] (evCons (evBin (fOwn 0 m_Ratiou_mulu) (evV 3) (evV 1)) (evCons (evV 2) evNil)))) evNil))) evNil)) [some (.loc 0), some (.p (rat f)), some (.p (rat l)), some (.p (rat A)), some (.p (rowR (k, 0))), some (.p (.int pk)), none] (st s5 :: r) = some (.ok (.loc (st s5 :: r).length), (st s5 :: r) ++ [some (.lst [rowR (f, A), rowR (l, -(A * f / l))])]) := by
        rw [evLstC_eq, evCons_eq, row_e (i := 1) (j := 3) rfl rfl, bindG_ok, evCons_eq, evTup_eq, evCons_eq, evV_2, bindG_ok, evCons_eq, evUn_eq, evCall_eq, evCons_eq, evBin_eq, evV_3, bindG_ok, evV_1, bindG_ok, am, okm_some, bindG_ok, evCons_eq, evV_2, bindG_ok, evNil_eq, bindG_ok, bindG_ok, bindG_ok, List.map_nil, List.append_nil, so, bindG_ok, ng, okm_some, bindG_ok, evNil_eq, bindG_ok, bindG_ok, bindG_ok, toPs_cons, toPs_cons, toPs_nil, consP_some, consP_some, tup2r, bindG_ok, evNil_eq, bindG_ok, bindG_ok, bindG_ok, toPs_cons, toPs_cons, toPs_nil, consP_some, consP_some, lstEndC_some, if_pos (Nat.le_of_lt (line_k (by simp)))]
      have it : isLst ((st s5 :: r) ++ [some (MO.lst [rowR (f, A), rowR (l, -(A * f / l))])]) (.loc (st s5 :: r).length) = true := is1
      have en : ∀ xs : List P, retF (st s :: r).length (sRet (evBI fTupOf (evCons (evV 6) evNil)) [some (.loc 0), some (.p (rat f)), some (.p (rat l)), some (.p (rat A)), some (.p (rowR (k, 0))), some (.p (.int pk)), some (.loc (st s5 :: r).length)] ((st s5 :: r) ++ [some (.lst xs)])) = some (.ok (.p (.tup xs)), st s5 :: r) := fun xs => by
        rw [sRet_eq, tup_end (i := 6) rfl, bindS_ok, retF_p, show (st s :: r).length = (st s5 :: r).length from rfl, List.take_left]
      rw [seqS_eq, sSet_eq, lst, bindS_ok, andThen_nx]
      simp only [List.set_cons_succ, List.set_cons_zero]
      rw [seqS_eq, sIf_eq, evB_eq', evBin_eq, evV_5, bindG_ok, evC_eq, bindG_ok, lt_int, okm_some, bindG_ok, toB_bl, bindS_ok]
      by_cases q1 : pk < 3
      · have i1 := fIns_end (μ := st s5 :: r) (xs := [rowR (f, A), rowR (l, -(A * f / l))]) (y := rowR (k, 0)) (i := 1) (by simp) (by decide)
        rw [if_pos (decide_eq_true q1), if_pos q1, sExpr_eq, evBM_eq, evV_6, bindG_ok, if_pos it, evCons_eq, evC_eq, bindG_ok, evCons_eq, evV_4, bindG_ok, evNil_eq, bindG_ok, bindG_ok, bindG_ok, show P.int 1 = P.int ((1 : Nat) : Int) from rfl, i1, okm_some, bindS_ok, andThen_nx, en]
        rfl
      · rw [if_neg (by simpa using q1), if_neg q1, sIf_eq, evB_eq', evBin_eq, evV_5, bindG_ok, evC_eq, bindG_ok, eq_int, okm_some, bindG_ok, toB_bl, bindS_ok]
        by_cases q2 : pk = 3
        · have i1 := fIns_end (μ := st s5 :: r) (xs := [rowR (f, A), rowR (l, -(A * f / l))]) (y := rowR (k, 0)) (i := 0) (by simp) (by decide)
          rw [if_pos (decide_eq_true q2), if_pos q2, sExpr_eq, evBM_eq, evV_6, bindG_ok, if_pos it, evCons_eq, evC_eq, bindG_ok, evCons_eq, evV_4, bindG_ok, evNil_eq, bindG_ok, bindG_ok, bindG_ok, show P.int 0 = P.int ((0 : Nat) : Int) from rfl, i1, okm_some, bindS_ok, andThen_nx, en]
          rfl
        · rw [if_neg (by simpa using q2), if_neg q2, sIf_eq, evB_eq', evBin_eq, evV_5, bindG_ok, evC_eq, bindG_ok, eq_int, okm_some, bindG_ok, toB_bl, bindS_ok]
          by_cases q3 : pk = 4
          · have a1 := ap1 (μ := st s5 :: r) (acc := [rowR (f, A), rowR (l, -(A * f / l))]) (y := rowR (k, 0)) (line_k (by simp))
            rw [if_pos (decide_eq_true q3), if_pos q3, sExpr_eq, evBM_eq, evV_6, bindG_ok, if_pos it, evCons_eq, evV_4, bindG_ok, evNil_eq, bindG_ok, bindG_ok, a1, okm_some, bindS_ok, andThen_nx, en]
            rfl
          · rw [if_neg (by simpa using q3), if_neg q3, sNil_eq, andThen_nx, en]
            rfl
end
end Vs
namespace Vs
open PySem PySem.Spec PyProof.Rows L2
open Bar (rg)
abbrev At := Nat × List (Rat × Rat)
def actR (a : At) : P := .tup [.int (a.1 : Int), mvR a.2]
structure Mc where
  base : Rat
  brake : Rat
  acts : List At
def Mc.r (m : Mc) : P := .tup [rat m.base, rat m.brake, .tup (m.acts.map actR)]
def tsP (ts : List Rat) : P := .lst (ts.map rat)
structure McOk (w : Nat) (m : Mc) : Prop where
  base : Bz 20 m.base
  br : Dr m.brake
  b0 : 0 < m.brake
  len : m.acts.length ≤ 4
  act : ∀ a ∈ m.acts, a.1 < w ∧ Mv4 a.2
def acs (ts : List Rat) (L : List At) : List Ac := L.map fun a => (rg ts a.1, a.2)
section
variable {μ ν : Mu} {δ : Sl}
theorem arF4w (N : Nat) {s : SEv} {a b c d : D} {rest : Sl} (h : rest = List.replicate (N - 4) none) : arF 4 (bodySem N s) [a, b, c, d] μ = retF μ.length (s (some a :: some b :: some c :: some d :: rest) μ) := by
  unfold arF
  rw [if_pos (show [a, b, c, d].length = 4 from rfl), bodySem_eq, h]; rfl
theorem ts_ix {ts : List Rat} {k : Nat} (h : k < ts.length) : fIx (.p (tsP ts)) (.p (.int (k : Int))) μ = some (.p (rat (rg ts k)), μ) := lix (f := rat) 0 h
theorem und_loop {ts : List Rat} {x : Rat} (ht : ∀ t ∈ ts, Bz 20 t) (hx : Bz 20 x) {c0 c3 c4 c5 : Option D} : ∀ (L : List At) (s : Rat) (n : Nat) (c7 c8 : Option D), (∀ a ∈ L, a.1 < ts.length ∧ Mv4 a.2) → Bz n s → n + 213 * L.length ≤ 8000 → ∃ c7' c8',
    forL (tgT [7, 8]) lb__undisturbed_0 (L.map actR) [c0, some (.p (tsP ts)), some (.p (rat x)), c3, c4, c5, some (.p (rat s)), c7, c8] μ = some (.nx, [c0, some (.p (tsP ts)), some (.p (rat x)), c3, c4, c5, some (.p (rat (pSum x (acs ts L) s))), c7', c8'], μ) ∧ Bz (n + 213 * L.length) (pSum x (acs ts L) s)
  | [], s, n, c7, c8, _, hs, _ => ⟨c7, c8, rfl, hs⟩
  | a :: L, s, n, c7, c8, h, hs, hn => by
    rw [List.length_cons] at hn
    obtain ⟨h1, h2⟩ := h a List.mem_cons_self
    have tb : Bz 20 (rg ts a.1) := ht _ (getD_mem h1)
    have xb := hx.sub tb
    have i1 := ts_ix (μ := μ) h1
    have sb := o_sub' (μ := μ) hx tb (by decide)
    have po := ev_position (μ := μ) h2.good h2.ne xb (by decide)
    have pb : Bz 213 (posn a.2 (x - rg ts a.1)) := (posn_bz4 h2 xb).mono (by decide)
    have ad := o_add' (μ := μ) hs pb (by omega)
    obtain ⟨c7', c8', e, b⟩ := und_loop (c0 := c0) (c3 := c3) (c4 := c4) (c5 := c5) ht hx L (s + posn a.2 (x - rg ts a.1)) (n + 213) (some (.p (.int (a.1 : Int)))) (some (.p (mvR a.2))) (fun y hy => h y (List.mem_cons_of_mem _ hy)) (hs.add pb) (by omega)
    refine ⟨c7', c8', ?_, b.mono (by rw [List.length_cons]; omega)⟩
    rw [List.map_cons, forL_nx (show tgT [7, 8] (actR a) [c0, some (.p (tsP ts)), some (.p (rat x)), c3, c4, c5, some (.p (rat s)), c7, c8] = some [c0, some (.p (tsP ts)), some (.p (rat x)), c3, c4, c5, some (.p (rat s)), some (.p (.int (a.1 : Int))), some (.p (mvR a.2))] from rfl) (δ2 := [c0, some (.p (tsP ts)), some (.p (rat x)), c3, c4, c5, some (.p (rat (s + posn a.2 (x - rg ts a.1)))), some (.p (.int (a.1 : Int))), some (.p (mvR a.2))]) (μ2 := μ) (by
      unfold lb__undisturbed_0
      rw [sSet_eq, evBin_eq, evV_6, bindG_ok, evCall_eq, evCons_eq, evV_8, bindG_ok, evCons_eq, evBin_eq, evV_2, bindG_ok, evBin_eq, evV_1, bindG_ok, evV_7, bindG_ok, i1, okm_some, bindG_ok, sb, okm_some, bindG_ok, evNil_eq, bindG_ok, bindG_ok, bindG_ok, List.map_nil, List.append_nil, po, bindG_ok, ad, okm_some, bindS_ok]
      rfl), e]
    rfl
theorem ev_undisturbed {ts : List Rat} {x : Rat} {m : Mc} (hm : McOk ts.length m) (ht : ∀ t ∈ ts, Bz 20 t) (hx : Bz 20 x) : m__undisturbed [.p m.r, .p (tsP ts), .p (rat x)] μ = some (.ok (.p (rat (pSum x (acs ts m.acts) m.base))), μ) ∧ Bz 872 (pSum x (acs ts m.acts) m.base) := by
  have l4 := hm.len
  obtain ⟨c7, c8, e, b⟩ := und_loop (μ := μ) (c0 := some (.p m.r)) (c3 := some (.p (rat m.base))) (c4 := some (.p (rat m.brake))) (c5 := some (.p (.tup (m.acts.map actR)))) ht hx m.acts m.base 20 none none hm.act hm.base (by omega)
  refine ⟨?_, b.mono (by omega)⟩
  unfold m__undisturbed
  rw [arF3]
  unfold sv__undisturbed
  simp only [List.replicate, List.cons_append, List.nil_append]
  unfold lb__undisturbed_0 at e
  rw [seqS_eq]
  have a1 : sAsgT (tgT [3, 4, 5]) (evV 0) [some (.p m.r), some (.p (tsP ts)), some (.p (rat x)), none, none, none, none, none, none] μ = some (.nx, [some (.p m.r), some (.p (tsP ts)), some (.p (rat x)), some (.p (rat m.base)), some (.p (rat m.brake)), some (.p (.tup (m.acts.map actR))), none, none, none], μ) := rfl
  rw [a1, andThen_nx, seqS_eq, sSet_eq, evV_3, bindS_ok, andThen_nx]
  simp only [List.set_cons_succ, List.set_cons_zero]
  have it : evIt (evV 5) [some (.p m.r), some (.p (tsP ts)), some (.p (rat x)), some (.p (rat m.base)), some (.p (rat m.brake)), some (.p (.tup (m.acts.map actR))), some (.p (rat m.base)), none, none] μ = some (.ok (m.acts.map actR), μ) := rfl
  rw [seqS_eq, sFor_eq, it, bindS_ok, e, andThen_nx, sRet_eq, evV_6, bindS_ok, retF_p, List.take_length]
theorem stp_bz4 {rs : List (Rat × Rat)} {b f x : Rat} (h : Mv4 rs) (hb : Dr b) (hp : 0 < b) (hf : Bz 40 f) (hx : Bz 40 x) : Bz 514 (stp rs b f x) := by
  have hb0 : b ≠ 0 := by grind
  have pf := posn_bz4 h hf
  have vf := spd_bz4 h hf
  have dv : Bz 103 (ab (spd rs f) / b) := (vf.ab.div hb.bz hb.1 hb0 (by decide)).mono (by decide)
  have sx : Bz 103 (x - f) := (hx.sub hf).mono (by decide)
  have bb : Bz 20 (if spd rs f < 0 then b else -b) := by
    split
    · exact hb.bz
    · exact hb.bz.neg
  unfold stp
  split
  · refine (rch_bz pf vf bb (ns := 103) ?_).mono (by decide)
    split
    · exact sx
    · exact dv
  · exact (posn_bz4 h hx).mono (by decide)
theorem brk_loop {ts : List Rat} {b f x : Rat} (hb : Dr b) (hp : 0 < b) (ht : ∀ t ∈ ts, Bz 20 t) (hf : Bz 20 f) (hx : Bz 20 x) {c0 c4 c6 : Option D} : ∀ (L : List At) (s : Rat) (n : Nat) (c8 c9 : Option D), (∀ a ∈ L, a.1 < ts.length ∧ Mv4 a.2) → Bz n s → n + 514 * L.length ≤ 8000 → ∃ c8' c9',
    forL (tgT [8, 9]) lb__braked_0 (L.map actR) [c0, some (.p (tsP ts)), some (.p (rat f)), some (.p (rat x)), c4, some (.p (rat b)), c6, some (.p (rat s)), c8, c9] μ = some (.nx, [c0, some (.p (tsP ts)), some (.p (rat f)), some (.p (rat x)), c4, some (.p (rat b)), c6, some (.p (rat (kSum b f x (acs ts L) s))), c8', c9'], μ) ∧ Bz (n + 514 * L.length) (kSum b f x (acs ts L) s)
  | [], s, n, c8, c9, _, hs, _ => ⟨c8, c9, rfl, hs⟩
  | a :: L, s, n, c8, c9, h, hs, hn => by
    rw [List.length_cons] at hn
    obtain ⟨h1, h2⟩ := h a List.mem_cons_self
    have tb : Bz 20 (rg ts a.1) := ht _ (getD_mem h1)
    have xb := hx.sub tb
    have fb := hf.sub tb
    have i1 := ts_ix (μ := μ) h1
    have sb := o_sub' (μ := μ) hx tb (by decide)
    have sf := o_sub' (μ := μ) hf tb (by decide)
    have po := ev_stopped (μ := μ) h2.good h2.ne hb hp (fb.mono (m := 260) (by decide)) (xb.mono (m := 300) (by decide))
    have pb := stp_bz4 h2 hb hp fb xb
    have ad := o_add' (μ := μ) hs pb (by omega)
    obtain ⟨c8', c9', e, bz⟩ := brk_loop (c0 := c0) (c4 := c4) (c6 := c6) hb hp ht hf hx L (s + stp a.2 b (f - rg ts a.1) (x - rg ts a.1)) (n + 514) (some (.p (.int (a.1 : Int)))) (some (.p (mvR a.2))) (fun y hy => h y (List.mem_cons_of_mem _ hy)) (hs.add pb) (by omega)
    refine ⟨c8', c9', ?_, bz.mono (by rw [List.length_cons]; omega)⟩
    rw [List.map_cons, forL_nx (show tgT [8, 9] (actR a) [c0, some (.p (tsP ts)), some (.p (rat f)), some (.p (rat x)), c4, some (.p (rat b)), c6, some (.p (rat s)), c8, c9] = some [c0, some (.p (tsP ts)), some (.p (rat f)), some (.p (rat x)), c4, some (.p (rat b)), c6, some (.p (rat s)), some (.p (.int (a.1 : Int))), some (.p (mvR a.2))] from rfl) (δ2 := [c0, some (.p (tsP ts)), some (.p (rat f)), some (.p (rat x)), c4, some (.p (rat b)), c6, some (.p (rat (s + stp a.2 b (f - rg ts a.1) (x - rg ts a.1)))), some (.p (.int (a.1 : Int))), some (.p (mvR a.2))]) (μ2 := μ) (by
      unfold lb__braked_0
      rw [sSet_eq, evBin_eq, evV_7, bindG_ok, evCall_eq, evCons_eq, evV_9, bindG_ok, evCons_eq, evV_5, bindG_ok, evCons_eq, evBin_eq, evV_2, bindG_ok, evBin_eq, evV_1, bindG_ok, evV_8, bindG_ok, i1, okm_some, bindG_ok, sf, okm_some, bindG_ok, evCons_eq, evBin_eq, evV_3, bindG_ok, evBin_eq, evV_1, bindG_ok, evV_8, bindG_ok, i1, okm_some, bindG_ok, sb, okm_some, bindG_ok, evNil_eq, bindG_ok, bindG_ok, bindG_ok, bindG_ok, bindG_ok, List.map_nil, List.append_nil, po, bindG_ok, ad, okm_some, bindS_ok]
      rfl), e]
    rfl
theorem ev_brakedP {ts : List Rat} {f x : Rat} {m : Mc} (hm : McOk ts.length m) (ht : ∀ t ∈ ts, Bz 20 t) (hf : Bz 20 f) (hx : Bz 20 x) : m__braked [.p m.r, .p (tsP ts), .p (rat f), .p (rat x)] μ = some (.ok (.p (rat (kSum m.brake f x (acs ts m.acts) m.base))), μ) ∧ Bz 2076 (kSum m.brake f x (acs ts m.acts) m.base) := by
  have l4 := hm.len
  obtain ⟨c8, c9, e, b⟩ := brk_loop (μ := μ) (c0 := some (.p m.r)) (c4 := some (.p (rat m.base))) (c6 := some (.p (.tup (m.acts.map actR)))) hm.br hm.b0 ht hf hx m.acts m.base 20 none none hm.act hm.base (by omega)
  refine ⟨?_, b.mono (by omega)⟩
  unfold m__braked
  rw [arF4w 10 (rest := [none, none, none, none, none, none]) rfl]
  unfold sv__braked
  unfold lb__braked_0 at e
  rw [seqS_eq]
  have a1 : sAsgT (tgT [4, 5, 6]) (evV 0) [some (.p m.r), some (.p (tsP ts)), some (.p (rat f)), some (.p (rat x)), none, none, none, none, none, none] μ = some (.nx, [some (.p m.r), some (.p (tsP ts)), some (.p (rat f)), some (.p (rat x)), some (.p (rat m.base)), some (.p (rat m.brake)), some (.p (.tup (m.acts.map actR))), none, none, none], μ) := rfl
  rw [a1, andThen_nx, seqS_eq, sSet_eq, evV_4, bindS_ok, andThen_nx]
  simp only [List.set_cons_succ, List.set_cons_zero]
  have it : evIt (evV 6) [some (.p m.r), some (.p (tsP ts)), some (.p (rat f)), some (.p (rat x)), some (.p (rat m.base)), some (.p (rat m.brake)), some (.p (.tup (m.acts.map actR))), some (.p (rat m.base)), none, none] μ = some (.ok (m.acts.map actR), μ) := rfl
  rw [seqS_eq, sFor_eq, it, bindS_ok, e, andThen_nx, sRet_eq, evV_7, bindS_ok, retF_p, List.take_length]
end
end Vs
namespace Vs
open PySem PySem.Spec PyProof.Rows L2
open Bar (rg)
section
variable {μ ν : Mu} {δ : Sl}
theorem mkHf {δ : Sl} {μ : Mu} : evMake 0 2 m_Ratiou_initu [] (evCons (evC (.int 1)) (evCons (evC (.int 2)) evNil)) δ μ = some (.ok (.p (rat hf)), μ) := by
  refine mkD ?_ (by decide) (sz_lt 2 (by decide))
  rw [evCons_eq, evC_eq, bindG_ok, evCons_eq, evC_eq, bindG_ok, evNil_eq, bindG_ok, bindG_ok]
theorem sst_step {p v x d a : Rat} {i k n : Nat} (hp : Bz i p) (hv : Bz k v) (hx : Bz n x) (hd : Bz 2 d) (ha : Bz 5 a) (hi : i ≤ 6000) (hk : k ≤ 500) (hn : n ≤ 100) (h1 : 2 ≤ n) {c0 c6 : Option D} :
    lb__law_sstate_0 [c0, some (.p (rat x)), some (.p (rat p)), some (.p (rat v)), some (.p (rat d)), some (.p (rat a)), c6] μ = some (if x < d then Fl.ret (.p (.tup [rat (p + v * x + a * hf * x * x), rat (v + a * x)])) else Fl.nx, [c0, some (.p (rat (x - (if x < d then x else d)))), some (.p (rat (p + v * (if x < d then x else d) + a * hf * (if x < d then x else d) * (if x < d then x else d)))), some (.p (rat (v + a * (if x < d then x else d)))), some (.p (rat d)), some (.p (rat a)), some (.p (rat (if x < d then x else d)))], μ) := by
  have ls := ev_sless (μ := μ) hx hd (by omega)
  unfold lb__law_sstate_0
  rw [seqS_eq, sSet_eq, evV_4, bindS_ok, andThen_nx]
  simp only [List.set_cons_succ, List.set_cons_zero]
  have st2 : ∀ X : SEv, seqS (sIf (evB (evCall m__law_sless [] (evCons (evV 1) (evCons (evV 4) evNil)))) (sSet 6 (evV 1)) sNil) X [c0, some (.p (rat x)), some (.p (rat p)), some (.p (rat v)), some (.p (rat d)), some (.p (rat a)), some (.p (rat d))] μ = X [c0, some (.p (rat x)), some (.p (rat p)), some (.p (rat v)), some (.p (rat d)), some (.p (rat a)), some (.p (rat (if x < d then x else d)))] μ := fun X => by
    rw [seqS_eq, sIf_eq, evB_eq', evCall_eq, evCons_eq, evV_1, bindG_ok, evCons_eq, evV_4, bindG_ok, evNil_eq, bindG_ok, bindG_ok, bindG_ok, List.map_nil, List.append_nil, ls, bindG_ok, toB_bl, bindS_ok]
    by_cases q : x < d
    · rw [if_pos (decide_eq_true q), if_pos q, sSet_eq, evV_1, bindS_ok, andThen_nx]; rfl
    · rw [if_neg (by simpa using q), if_neg q, sNil_eq, andThen_nx]
  rw [st2]
  have hs : Bz n (if x < d then x else d) := by
    split
    · exact hx
    · exact hd.mono h1
  have ne := ne_ratG (μ := μ) (a := if x < d then x else d) (b := d)
  have q1 : (if x < d then x else d) = d ↔ ¬ x < d := by
    by_cases q : x < d
    · rw [if_pos q]; exact ⟨fun e => by grind, fun z => absurd q z⟩
    · rw [if_neg q]; exact ⟨fun _ => q, fun _ => rfl⟩
  have q2 : x < d → (if x < d then x else d) = x := fun q => if_pos q
  generalize (if x < d then x else d) = s at *
  have m1 := o_mul' (μ := μ) hv hs (by omega)
  have a1 := o_add' (μ := μ) hp (hv.mul hs) (by omega)
  have m2 := o_mul' (μ := μ) ha hf_bz (by decide)
  have m3 := o_mul' (μ := μ) (ha.mul hf_bz) hs (by omega)
  have m4 := o_mul' (μ := μ) ((ha.mul hf_bz).mul hs) hs (by omega)
  have a2 := o_add' (μ := μ) (hp.add (hv.mul hs)) (((ha.mul hf_bz).mul hs).mul hs) (by omega)
  have m5 := o_mul' (μ := μ) ha hs (by omega)
  have a3 := o_add' (μ := μ) hv (ha.mul hs) (by omega)
  have s1 := o_sub' (μ := μ) hx hs (by omega)
  rw [seqS_eq, sSet_eq, evBin_eq, evBin_eq, evV_2, bindG_ok, evBin_eq, evV_3, bindG_ok, evV_6, bindG_ok, m1, okm_some, bindG_ok, a1, okm_some, bindG_ok, evBin_eq, evBin_eq, evBin_eq, evV_5, bindG_ok, mkHf, bindG_ok, m2, okm_some, bindG_ok, evV_6, bindG_ok, m3, okm_some, bindG_ok, evV_6, bindG_ok, m4, okm_some, bindG_ok, a2, okm_some, bindS_ok, andThen_nx]
  simp only [List.set_cons_succ, List.set_cons_zero]
  rw [seqS_eq, sSet_eq, evBin_eq, evV_3, bindG_ok, evBin_eq, evV_5, bindG_ok, evV_6, bindG_ok, m5, okm_some, bindG_ok, a3, okm_some, bindS_ok, andThen_nx]
  simp only [List.set_cons_succ, List.set_cons_zero]
  rw [seqS_eq, sSet_eq, evBin_eq, evV_1, bindG_ok, evV_6, bindG_ok, s1, okm_some, bindS_ok, andThen_nx]
  simp only [List.set_cons_succ, List.set_cons_zero]
  rw [sIf_eq, evB_eq', evBin_eq, evV_6, bindG_ok, evV_4, bindG_ok, ne, okm_some, bindG_ok, toB_bl, bindS_ok]
  by_cases q : x < d
  · have nq : ¬ s = d := fun e => (q1.mp e) q
    rw [if_pos (by rw [decide_eq_false nq]; rfl), if_pos q, sRet_eq, evTup_eq, evCons_eq, evV_2, bindG_ok, evCons_eq, evV_3, bindG_ok, evNil_eq, bindG_ok, bindG_ok, bindG_ok, toPs_cons, toPs_cons, toPs_nil, consP_some, consP_some, tup2, bindS_ok, ← q2 q]
  · have nq : s = d := q1.mpr q
    rw [if_neg (by rw [decide_eq_true nq]; decide), if_neg q, sNil_eq]
theorem sst_loop {c0 : Option D} : ∀ (rs : List (Rat × Rat)) (p v x : Rat) (i k n : Nat) (c4 c5 c6 : Option D), (∀ r ∈ rs, Row4 r) → Bz i p → Bz k v → Bz n x → i + 1000 * rs.length ≤ 6000 → k + 10 * rs.length ≤ 500 → n + 2 * rs.length ≤ 100 → 2 ≤ n → ∃ fl δ',
    forL (tgT [4, 5]) lb__law_sstate_0 (rs.map rowR) [c0, some (.p (rat x)), some (.p (rat p)), some (.p (rat v)), c4, c5, c6] μ = some (fl, δ', μ) ∧ (fl = Fl.ret (.p (.tup [rat (ssw p v x rs).1, rat (ssw p v x rs).2])) ∨ (fl = Fl.nx ∧ δ'[2]? = some (some (.p (rat (ssw p v x rs).1))) ∧ δ'[3]? = some (some (.p (rat (ssw p v x rs).2)))))
  | [], p, v, x, i, k, n, c4, c5, c6, _, _, _, _, _, _, _, _ => ⟨_, _, rfl, .inr ⟨rfl, rfl, rfl⟩⟩
  | r :: rs, p, v, x, i, k, n, c4, c5, c6, hr, hp, hv, hx, hi, hk, hn, h2 => by
    rw [List.length_cons] at hi hk hn
    have h := hr r List.mem_cons_self
    have e := sst_step (μ := μ) (c0 := c0) (c6 := c6) hp hv hx h.d h.a (by omega) (by omega) (by omega) h2
    have tg : tgT [4, 5] (rowR r) [c0, some (.p (rat x)), some (.p (rat p)), some (.p (rat v)), c4, c5, c6] = some [c0, some (.p (rat x)), some (.p (rat p)), some (.p (rat v)), some (.p (rat r.1)), some (.p (rat r.2)), c6] := rfl
    unfold ssw
    by_cases q : x < r.1
    · rw [if_pos q] at e
      rw [if_pos q]
      exact ⟨_, _, by rw [List.map_cons, forL_ret tg e], .inl rfl⟩
    · simp only [if_neg q] at e
      rw [if_neg q]
      have p1 : Bz (i + 1000) (p + v * r.1 + r.2 * hf * r.1 * r.1) := ((hp.add (hv.mul h.d)).add (((h.a.mul hf_bz).mul h.d).mul h.d)).mono (by omega)
      have v1 : Bz (k + 10) (v + r.2 * r.1) := (hv.add (h.a.mul h.d)).mono (by omega)
      obtain ⟨fl, δ', e2, c⟩ := sst_loop (c0 := c0) rs _ _ (x - r.1) (i + 1000) (k + 10) (n + 2) (some (.p (rat r.1))) (some (.p (rat r.2))) (some (.p (rat r.1))) (fun y hy => hr y (List.mem_cons_of_mem _ hy)) p1 v1 (hx.sub h.d) (by omega) (by omega) (by omega) (by omega)
      exact ⟨fl, δ', by rw [List.map_cons, forL_nx tg e, e2], c⟩
theorem ev_sstate {rs : List (Rat × Rat)} {x : Rat} {n : Nat} (h : Mv4 rs) (hx : Bz n x) (hn : n ≤ 60) (h2 : 2 ≤ n) : m__law_sstate [.p (mvR rs), .p (rat x)] μ = some (.ok (.p (.tup [rat (posn rs x), rat (spd rs x)])), μ) := by
  have l3 := h.few
  have ls := ev_sless (μ := μ) hx bz0 (by omega)
  obtain ⟨fl, δ', e, c⟩ := sst_loop (μ := μ) (c0 := some (.p (mvR rs))) rs 0 0 x 1 1 n none none none h.rows bz0 bz0 hx (by omega) (by omega) (by omega) h2
  unfold m__law_sstate
  rw [arF2]
  unfold sv__law_sstate
  simp only [List.replicate, List.cons_append, List.nil_append]
  unfold lb__law_sstate_0 at e
  rw [seqS_eq, sSet_eq, mk0, bindS_ok, andThen_nx]
  simp only [List.set_cons_succ, List.set_cons_zero]
  rw [seqS_eq, sSet_eq, mk0, bindS_ok, andThen_nx]
  simp only [List.set_cons_succ, List.set_cons_zero]
  rw [seqS_eq, sIf_eq, evB_eq', evCall_eq, evCons_eq, evV_1, bindG_ok, evCons_eq, mk0, bindG_ok, evNil_eq, bindG_ok, bindG_ok, bindG_ok, List.map_nil, List.append_nil, ls, bindG_ok, toB_bl, bindS_ok]
  by_cases q : x < 0
  · rw [if_pos (decide_eq_true q), sRet_eq, evTup_eq, evCons_eq, evV_2, bindG_ok, evCons_eq, evV_3, bindG_ok, evNil_eq, bindG_ok, bindG_ok, bindG_ok, toPs_cons, toPs_cons, toPs_nil, consP_some, consP_some, tup2, bindS_ok, andThen_ret, retF_p, List.take_length]
    unfold posn spd
    rw [if_pos q, if_pos q]
  · rw [if_neg (by simpa using q), sNil_eq, andThen_nx]
    have it : evIt (evV 0) [some (.p (mvR rs)), some (.p (rat x)), some (.p (rat 0)), some (.p (rat 0)), none, none, none] μ = some (.ok (rs.map rowR), μ) := rfl
    rw [ssw_all h.good q] at c
    rw [seqS_eq, sFor_eq, it, bindS_ok, e]
    rcases c with rfl | ⟨rfl, d2, d3⟩
    · rw [andThen_ret, retF_p, List.take_length]
    · rw [andThen_nx, sRet_eq, evTup_eq, evCons_eq, evV_at d2, bindG_ok, evCons_eq, evV_at d3, bindG_ok, evNil_eq, bindG_ok, bindG_ok, bindG_ok, toPs_cons, toPs_cons, toPs_nil, consP_some, consP_some, tup2, bindS_ok, retF_p, List.take_length]
end
end Vs
namespace Vs
open PySem PySem.Spec PyProof.Rows L2
open Bar (rg)
section
variable {μ ν : Mu} {δ : Sl}
theorem mov_loop {ts : List Rat} {x : Rat} (ht : ∀ t ∈ ts, Bz 20 t) (hx : Bz 20 x) {c0 : Option D} : ∀ (L : List At) (s v : Rat) (n k : Nat) (c5 c6 c7 c8 : Option D), (∀ a ∈ L, a.1 < ts.length ∧ Mv4 a.2) → Bz n s → Bz k v → n + 213 * L.length ≤ 8000 → k + 73 * L.length ≤ 8000 → ∃ c5' c6' c7' c8',
    forL (tgT [5, 6]) lb__law_moving_0 (L.map actR) [c0, some (.p (tsP ts)), some (.p (rat x)), some (.p (rat s)), some (.p (rat v)), c5, c6, c7, c8] μ = some (.nx, [c0, some (.p (tsP ts)), some (.p (rat x)), some (.p (rat (pSum x (acs ts L) s))), some (.p (rat (vSum x (acs ts L) v))), c5', c6', c7', c8'], μ) ∧ Bz (n + 213 * L.length) (pSum x (acs ts L) s) ∧ Bz (k + 73 * L.length) (vSum x (acs ts L) v)
  | [], s, v, n, k, c5, c6, c7, c8, _, hs, hv, _, _ => ⟨c5, c6, c7, c8, rfl, hs, hv⟩
  | a :: L, s, v, n, k, c5, c6, c7, c8, h, hs, hv, hn, hk => by
    rw [List.length_cons] at hn hk
    obtain ⟨h1, h2⟩ := h a List.mem_cons_self
    have tb : Bz 20 (rg ts a.1) := ht _ (getD_mem h1)
    have xb := hx.sub tb
    have i1 := ts_ix (μ := μ) h1
    have sb := o_sub' (μ := μ) hx tb (by decide)
    have po := ev_sstate (μ := μ) h2 xb (by decide) (by decide)
    have pb : Bz 213 (posn a.2 (x - rg ts a.1)) := (posn_bz4 h2 xb).mono (by decide)
    have vb : Bz 73 (spd a.2 (x - rg ts a.1)) := (spd_bz4 h2 xb).mono (by decide)
    have ad := o_add' (μ := μ) hs pb (by omega)
    have av := o_add' (μ := μ) hv vb (by omega)
    obtain ⟨c5', c6', c7', c8', e, b, b2⟩ := mov_loop (c0 := c0) ht hx L (s + posn a.2 (x - rg ts a.1)) (v + spd a.2 (x - rg ts a.1)) (n + 213) (k + 73) (some (.p (.int (a.1 : Int)))) (some (.p (mvR a.2))) (some (.p (rat (posn a.2 (x - rg ts a.1))))) (some (.p (rat (spd a.2 (x - rg ts a.1))))) (fun y hy => h y (List.mem_cons_of_mem _ hy)) (hs.add pb) (hv.add vb) (by omega) (by omega)
    refine ⟨c5', c6', c7', c8', ?_, b.mono (by rw [List.length_cons]; omega), b2.mono (by rw [List.length_cons]; omega)⟩
    rw [List.map_cons, forL_nx (show tgT [5, 6] (actR a) [c0, some (.p (tsP ts)), some (.p (rat x)), some (.p (rat s)), some (.p (rat v)), c5, c6, c7, c8] = some [c0, some (.p (tsP ts)), some (.p (rat x)), some (.p (rat s)), some (.p (rat v)), some (.p (.int (a.1 : Int))), some (.p (mvR a.2)), c7, c8] from rfl) (δ2 := [c0, some (.p (tsP ts)), some (.p (rat x)), some (.p (rat (s + posn a.2 (x - rg ts a.1)))), some (.p (rat (v + spd a.2 (x - rg ts a.1)))), some (.p (.int (a.1 : Int))), some (.p (mvR a.2)), some (.p (rat (posn a.2 (x - rg ts a.1)))), some (.p (rat (spd a.2 (x - rg ts a.1))))]) (μ2 := μ) (by
      unfold lb__law_moving_0
      rw [seqS_eq, sAsgT_eq, evCall_eq, evCons_eq, evV_6, bindG_ok, evCons_eq, evBin_eq, evV_2, bindG_ok, evBin_eq, evV_1, bindG_ok, evV_5, bindG_ok, i1, okm_some, bindG_ok, sb, okm_some, bindG_ok, evNil_eq, bindG_ok, bindG_ok, bindG_ok, List.map_nil, List.append_nil, po, bindS_ok]
      show andThen _ (some (Fl.nx, [c0, some (D.p (tsP ts)), some (D.p (rat x)), some (D.p (rat s)), some (D.p (rat v)), some (D.p (.int (a.1 : Int))), some (D.p (mvR a.2)), some (D.p (rat (posn a.2 (x - rg ts a.1)))), some (D.p (rat (spd a.2 (x - rg ts a.1))))], μ)) = _
      rw [andThen_nx, seqS_eq, sSet_eq, evBin_eq, evV_3, bindG_ok, evV_7, bindG_ok, ad, okm_some, bindS_ok, andThen_nx]
      simp only [List.set_cons_succ, List.set_cons_zero]
      rw [sSet_eq, evBin_eq, evV_4, bindG_ok, evV_8, bindG_ok, av, okm_some, bindS_ok]
      rfl), e]
    rfl
theorem ev_moving {ts : List Rat} {x : Rat} {m : Mc} (hm : McOk ts.length m) (ht : ∀ t ∈ ts, Bz 20 t) (hx : Bz 20 x) : m__law_moving [.p m.r, .p (tsP ts), .p (rat x)] μ = some (.ok (.p (.tup [rat (pSum x (acs ts m.acts) m.base), rat (vSum x (acs ts m.acts) 0)])), μ) ∧ Bz 872 (pSum x (acs ts m.acts) m.base) ∧ Bz 293 (vSum x (acs ts m.acts) 0) := by
  have l4 := hm.len
  obtain ⟨c5, c6, c7, c8, e, b, b2⟩ := mov_loop (μ := μ) (c0 := some (.p m.r)) ht hx m.acts m.base 0 20 1 none none none none hm.act hm.base bz0 (by omega) (by omega)
  refine ⟨?_, b.mono (by omega), b2.mono (by omega)⟩
  unfold m__law_moving
  rw [arF3]
  unfold sv__law_moving
  simp only [List.replicate, List.cons_append, List.nil_append]
  unfold lb__law_moving_0 at e
  have i0 : fIx (.p m.r) (.p (.int 0)) μ = some (.p (rat m.base), μ) := rfl
  have i2 : fIx (.p m.r) (.p (.int 2)) μ = some (.p (.tup (m.acts.map actR)), μ) := rfl
  rw [seqS_eq, sSet_eq, evBin_eq, evV_0, bindG_ok, evC_eq, bindG_ok, i0, okm_some, bindS_ok, andThen_nx]
  simp only [List.set_cons_succ, List.set_cons_zero]
  rw [seqS_eq, sSet_eq, mk0, bindS_ok, andThen_nx]
  simp only [List.set_cons_succ, List.set_cons_zero]
  have it : evIt (evBin fIx (evV 0) (evC (.int 2))) [some (.p m.r), some (.p (tsP ts)), some (.p (rat x)), some (.p (rat m.base)), some (.p (rat 0)), none, none, none, none] μ = some (.ok (m.acts.map actR), μ) := rfl
  rw [seqS_eq, sFor_eq, it, bindS_ok, e, andThen_nx, sRet_eq, evTup_eq, evCons_eq, evV_3, bindG_ok, evCons_eq, evV_4, bindG_ok, evNil_eq, bindG_ok, bindG_ok, bindG_ok, toPs_cons, toPs_cons, toPs_nil, consP_some, consP_some, tup2, bindS_ok, retF_p, List.take_length]
theorem num_neg' {v : Rat} : v.num < 0 ↔ v < 0 := by
  have := Rat.num_nonneg (q := v)
  constructor
  · intro h
    by_cases q : v < 0
    · exact q
    · exact absurd (this.mpr (by grind)) (by omega)
  · intro h
    by_cases q : v.num < 0
    · exact q
    · have := this.mp (by omega)
      grind
theorem ev_lbraked {ts : List Rat} {f x : Rat} {m : Mc} (hm : McOk ts.length m) (ht : ∀ t ∈ ts, Bz 20 t) (hf : Bz 20 f) (hx : Bz 20 x) : m__law_braked [.p m.r, .p (tsP ts), .p (rat f), .p (rat x)] μ = some (.ok (.p (rat (brk m.brake (vSum f (acs ts m.acts) 0) f x (pSum f (acs ts m.acts) m.base)))), μ) := by
  obtain ⟨mo, pb, vb⟩ := ev_moving (μ := μ) hm ht hf
  generalize pSum f (acs ts m.acts) m.base = p at *
  generalize vSum f (acs ts m.acts) 0 = v at *
  have b0 : m.brake ≠ 0 := by have := hm.b0; grind
  have i1 : fIx (.p m.r) (.p (.int 1)) μ = some (.p (rat m.brake), μ) := rfl
  unfold m__law_braked
  rw [arF4w 9 (rest := [none, none, none, none, none]) rfl]
  unfold sv__law_braked
  rw [seqS_eq, sAsgT_eq, evCall_eq, evCons_eq, evV_0, bindG_ok, evCons_eq, evV_1, bindG_ok, evCons_eq, evV_2, bindG_ok, evNil_eq, bindG_ok, bindG_ok, bindG_ok, bindG_ok, List.map_nil, List.append_nil, mo, bindS_ok]
  show retF _ (andThen _ (some (Fl.nx, [some (D.p m.r), some (D.p (tsP ts)), some (D.p (rat f)), some (D.p (rat x)), some (D.p (rat p)), some (D.p (rat v)), none, none, none], μ))) = _
  rw [andThen_nx, seqS_eq, sSet_eq]
  have mk1 : ∀ (δ : Sl) (n : Int), evMake 0 2 m_Ratiou_initu [.int 1] (evCons (evC (.int n)) evNil) δ μ = some (.ok (.p (rat (n : Rat))), μ) := fun δ n => mkI (by rw [evCons_eq, evC_eq, bindG_ok, evNil_eq, bindG_ok])
  have mkn : ∀ (δ : Sl), evMake 0 2 m_Ratiou_initu [.int 1] (evCons (evUn fNeg (evC (.int 1))) evNil) δ μ = some (.ok (.p (rat ((-1 : Int) : Rat))), μ) := fun δ => mkI (by rw [evCons_eq, evUn_eq, evC_eq, bindG_ok, show fNeg (.p (.int 1)) μ = some (.p (.int (-1)), μ) from rfl, okm_some, bindG_ok, evNil_eq, bindG_ok])
  rw [mk1, bindS_ok, andThen_nx]
  simp only [List.set_cons_succ, List.set_cons_zero]
  have st : ∀ X : SEv, seqS (sIf (evB (evBin fLt (evUn (fFld 0 0) (evV 5)) (evC (.int 0)))) (sSet 6 (evMake 0 2 m_Ratiou_initu [.int 1] (evCons (evUn fNeg (evC (.int 1))) evNil))) sNil) X [some (.p m.r), some (.p (tsP ts)), some (.p (rat f)), some (.p (rat x)), some (.p (rat p)), some (.p (rat v)), some (.p (rat ((1 : Int) : Rat))), none, none] μ = X [some (.p m.r), some (.p (tsP ts)), some (.p (rat f)), some (.p (rat x)), some (.p (rat p)), some (.p (rat v)), some (.p (rat (((if v < 0 then -1 else 1) : Int) : Rat))), none, none] μ := fun X => by
    rw [seqS_eq, sIf_eq, evB_eq', evBin_eq, evUn_eq, evV_5, bindG_ok, ev_fld0, okm_some, bindG_ok, evC_eq, bindG_ok, lt_int, okm_some, bindG_ok, toB_bl, bindS_ok]
    by_cases q : v < 0
    · rw [if_pos (decide_eq_true (num_neg'.mpr q)), if_pos q, sSet_eq, mkn, bindS_ok, andThen_nx]; rfl
    · rw [if_neg (by rw [decide_eq_false fun z => q (num_neg'.mp z)]; decide), if_neg q, sNil_eq, andThen_nx]
  rw [st]
  have sgb : Bz 1 (((if v < 0 then -1 else 1) : Int) : Rat) := int_bz (by split <;> decide)
  have sg1 : v * (((if v < 0 then -1 else 1) : Int) : Rat) = ab v := by
    unfold ab
    by_cases q : v < 0
    · rw [if_pos q, if_pos q, show ((-1 : Int) : Rat) = -1 by rw [Rat.intCast_neg]; rfl]; grind
    · rw [if_neg q, if_neg q, show ((1 : Int) : Rat) = 1 from rfl]; grind
  have sg2 : (((if v < 0 then -1 else 1) : Int) : Rat) * m.brake = -(if v < 0 then m.brake else -m.brake) := by
    by_cases q : v < 0
    · rw [if_pos q, if_pos q, show ((-1 : Int) : Rat) = -1 by rw [Rat.intCast_neg]; rfl]; grind
    · rw [if_neg q, if_neg q, show ((1 : Int) : Rat) = 1 from rfl]; grind
  generalize (((if v < 0 then -1 else 1) : Int) : Rat) = sg at *
  have s1 := o_sub' (μ := μ) hx hf (by decide)
  have m1 := o_mul' (μ := μ) vb sgb (by decide)
  have so := ev_sover (μ := μ) (vb.mul sgb) hm.br.bz hm.br.1 b0 (by decide) (by decide)
  have Lb : Bz 324 (v * sg / m.brake) := ((vb.mul sgb).div hm.br.bz hm.br.1 b0 (by decide)).mono (by decide)
  have ls := ev_sless (μ := μ) Lb (hx.sub hf) (by decide)
  rw [seqS_eq, sSet_eq, evBin_eq, evV_3, bindG_ok, evV_2, bindG_ok, s1, okm_some, bindS_ok, andThen_nx]
  simp only [List.set_cons_succ, List.set_cons_zero]
  rw [seqS_eq, sSet_eq, evCall_eq, evCons_eq, evBin_eq, evV_5, bindG_ok, evV_6, bindG_ok, m1, okm_some, bindG_ok, evCons_eq, evBin_eq, evV_0, bindG_ok, evC_eq, bindG_ok, i1, okm_some, bindG_ok, evNil_eq, bindG_ok, bindG_ok, bindG_ok, List.map_nil, List.append_nil, so, bindS_ok, andThen_nx]
  simp only [List.set_cons_succ, List.set_cons_zero]
  have st2 : ∀ X : SEv, seqS (sIf (evB (evCall m__law_sless [] (evCons (evV 8) (evCons (evV 7) evNil)))) (sSet 7 (evV 8)) sNil) X [some (.p m.r), some (.p (tsP ts)), some (.p (rat f)), some (.p (rat x)), some (.p (rat p)), some (.p (rat v)), some (.p (rat sg)), some (.p (rat (x - f))), some (.p (rat (v * sg / m.brake)))] μ = X [some (.p m.r), some (.p (tsP ts)), some (.p (rat f)), some (.p (rat x)), some (.p (rat p)), some (.p (rat v)), some (.p (rat sg)), some (.p (rat (if v * sg / m.brake < x - f then v * sg / m.brake else x - f))), some (.p (rat (v * sg / m.brake)))] μ := fun X => by
    rw [seqS_eq, sIf_eq, evB_eq', evCall_eq, evCons_eq, evV_8, bindG_ok, evCons_eq, evV_7, bindG_ok, evNil_eq, bindG_ok, bindG_ok, bindG_ok, List.map_nil, List.append_nil, ls, bindG_ok, toB_bl, bindS_ok]
    by_cases q : v * sg / m.brake < x - f
    · rw [if_pos (decide_eq_true q), if_pos q, sSet_eq, evV_8, bindS_ok, andThen_nx]; rfl
    · rw [if_neg (by simpa using q), if_neg q, sNil_eq, andThen_nx]
  rw [st2]
  have rb : Bz 324 (if v * sg / m.brake < x - f then v * sg / m.brake else x - f) := by
    split
    · exact Lb
    · exact (hx.sub hf).mono (by decide)
  have re : (if v * sg / m.brake < x - f then v * sg / m.brake else x - f) = (if x - f < ab v / m.brake then x - f else ab v / m.brake) := by
    rw [sg1]
    by_cases q : ab v / m.brake < x - f
    · rw [if_pos q, if_neg (by grind)]
    · rw [if_neg q]
      by_cases q2 : x - f < ab v / m.brake
      · rw [if_pos q2]
      · rw [if_neg q2]; grind
  rw [re] at rb ⊢
  unfold brk
  generalize (if x - f < ab v / m.brake then x - f else ab v / m.brake) = rest at *
  have bb := hm.br.bz
  have o1 := o_mul' (μ := μ) vb rb (by decide)
  have o2 := o_add' (μ := μ) pb (vb.mul rb) (by decide)
  have o3 := o_mul' (μ := μ) sgb bb (by decide)
  have o4 := o_mul' (μ := μ) (sgb.mul bb) hf_bz (by decide)
  have o5 := o_mul' (μ := μ) ((sgb.mul bb).mul hf_bz) rb (by decide)
  have o6 := o_mul' (μ := μ) (((sgb.mul bb).mul hf_bz).mul rb) rb (by decide)
  have o7 := o_sub' (μ := μ) (pb.add (vb.mul rb)) ((((sgb.mul bb).mul hf_bz).mul rb).mul rb) (by decide)
  rw [sRet_eq, evBin_eq, evBin_eq, evV_4, bindG_ok, evBin_eq, evV_5, bindG_ok, evV_7, bindG_ok, o1, okm_some, bindG_ok, o2, okm_some, bindG_ok, evBin_eq, evBin_eq, evBin_eq, evBin_eq, evV_6, bindG_ok, evBin_eq, evV_0, bindG_ok, evC_eq, bindG_ok, i1, okm_some, bindG_ok, o3, okm_some, bindG_ok, mkHf, bindG_ok, o4, okm_some, bindG_ok, evV_7, bindG_ok, o5, okm_some, bindG_ok, evV_7, bindG_ok, o6, okm_some, bindG_ok, o7, okm_some, bindS_ok, retF_p, List.take_length]
  have fin : p + v * rest - sg * m.brake * Vs.hf * rest * rest = rch p v (if v < 0 then m.brake else -m.brake) rest := by
    rw [sg2]
    unfold rch
    grind
  rw [fin]
end
end Vs
namespace Vs
open PySem PySem.Spec PyProof.Rows L2
open Bar (rg)
inductive Ft where
  | non | stop | seize (k : Nat) (lag : Rat)
def Ft.r : Ft → P
  | .non => .tup [.str "none"]
  | .stop => .tup [.str "stop"]
  | .seize k lag => .tup [.str "seize", .int (k : Int), rat lag]
def shwP (sheet : P) (ms : List Mc) (rules : P) : P := .tup [sheet, .tup (ms.map Mc.r), rules]
def momP (ts : List Rat) (f t : Rat) : P := .tup [tsP ts, rat f, rat t]
def plV (ts : List Rat) (F : Ft) (f t : Rat) (j : Nat) (m : Mc) : Rat := match F with
  | .non => pSum t (acs ts m.acts) m.base
  | .stop => kSum m.brake f t (acs ts m.acts) m.base
  | .seize k lag => if j = k then pSum f (acs ts m.acts) m.base else kSum m.brake (f + lag) t (acs ts m.acts) m.base
/-- a moment's sizes -/
structure MoOk (ts : List Rat) (F : Ft) (f t : Rat) : Prop where
  hts : ∀ x ∈ ts, Bz 20 x
  hf' : Bz 20 f
  ht' : Bz 20 t
  lag : ∀ k lag, F = .seize k lag → Bz 20 lag ∧ Bz 20 (f + lag)
section
variable {μ ν : Mu} {δ : Sl}
theorem eqS {a b : Str} : fEq (.p (.str a)) (.p (.str b)) μ = some (.p (.bl (decide (a = b))), μ) := rfl
theorem nonN : (decide (("none" : Str) = "none")) = true := by decide
theorem stopN : (decide (("stop" : Str) = "none")) = false := by decide
theorem seizeN : (decide (("seize" : Str) = "none")) = false := by decide
theorem nonS : (decide (("none" : Str) = "stop")) = false := by decide
theorem stopS : (decide (("stop" : Str) = "stop")) = true := by decide
theorem seizeS : (decide (("seize" : Str) = "stop")) = false := by decide
theorem nonZ : (decide (("none" : Str) = "seize")) = false := by decide
theorem seizeZ : (decide (("seize" : Str) = "seize")) = true := by decide
def Mc0 : Mc := ⟨0, 0, []⟩
theorem mc_ix {ms : List Mc} {j : Nat} (h : j < ms.length) : fIx (.p (.tup (ms.map Mc.r))) (.p (.int (j : Int))) μ = some (.p (ms.getD j Mc0).r, μ) := tix (f := Mc.r) Mc0 h
theorem ev_place {sheet rules : P} {ms : List Mc} {ts : List Rat} {F : Ft} {f t : Rat} {j : Nat} (hj : j < ms.length) (hm : McOk ts.length (ms.getD j Mc0)) (hM : MoOk ts F f t) : m_place [.p (shwP sheet ms rules), .p F.r, .p (momP ts f t), .p (.int (j : Int))] μ = some (.ok (.p (rat (plV ts F f t j (ms.getD j Mc0)))), μ) ∧ Bz 2076 (plV ts F f t j (ms.getD j Mc0)) := by
  have ix := mc_ix (μ := μ) hj
  generalize ms.getD j Mc0 = m at *
  have i1 : fIx (.p (shwP sheet ms rules)) (.p (.int 1)) μ = some (.p (.tup (ms.map Mc.r)), μ) := rfl
  have pre : ∀ X : SEv, seqS (sAsgT (tgT [4, 5, 6]) (evV 2)) (seqS (sSet 7 (evBin fIx (evBin fIx (evV 0) (evC (.int 1))) (evV 3))) X) [some (.p (shwP sheet ms rules)), some (.p F.r), some (.p (momP ts f t)), some (.p (.int (j : Int))), none, none, none, none, none, none, none] μ = X [some (.p (shwP sheet ms rules)), some (.p F.r), some (.p (momP ts f t)), some (.p (.int (j : Int))), some (.p (tsP ts)), some (.p (rat f)), some (.p (rat t)), some (.p m.r), none, none, none] μ := fun X => by
    have a1 : sAsgT (tgT [4, 5, 6]) (evV 2) [some (.p (shwP sheet ms rules)), some (.p F.r), some (.p (momP ts f t)), some (.p (.int (j : Int))), none, none, none, none, none, none, none] μ = some (.nx, [some (.p (shwP sheet ms rules)), some (.p F.r), some (.p (momP ts f t)), some (.p (.int (j : Int))), some (.p (tsP ts)), some (.p (rat f)), some (.p (rat t)), none, none, none, none], μ) := rfl
    rw [seqS_eq, a1, andThen_nx, seqS_eq, sSet_eq, evBin_eq, evBin_eq, evV_0, bindG_ok, evC_eq, bindG_ok, i1, okm_some, bindG_ok, evV_3, bindG_ok, ix, okm_some, bindS_ok, andThen_nx]
    rfl
  unfold m_place
  rw [arF4w 11 (rest := [none, none, none, none, none, none, none]) rfl]
  unfold sv_place
  rw [pre]
  cases F with
  | non =>
    obtain ⟨e, b⟩ := ev_undisturbed (μ := μ) hm hM.hts hM.ht'
    refine ⟨?_, b.mono (by decide)⟩
    have i0 : fIx (.p Ft.non.r) (.p (.int 0)) μ = some (.p (.str "none"), μ) := rfl
    rw [seqS_eq, sIf_eq, evB_eq', evBin_eq, evBin_eq, evV_1, bindG_ok, evC_eq, bindG_ok, i0, okm_some, bindG_ok, evC_eq, bindG_ok, eqS, nonN, okm_some, bindG_ok, toB_bl, bindS_ok, if_pos rfl, sRet_eq, evCall_eq, evCons_eq, evV_7, bindG_ok, evCons_eq, evV_4, bindG_ok, evCons_eq, evV_6, bindG_ok, evNil_eq, bindG_ok, bindG_ok, bindG_ok, bindG_ok, List.map_nil, List.append_nil, e, bindS_ok, andThen_ret, retF_p, List.take_length]
    rfl
  | stop =>
    obtain ⟨e, b⟩ := ev_brakedP (μ := μ) hm hM.hts hM.hf' hM.ht'
    refine ⟨?_, b⟩
    have i0 : fIx (.p Ft.stop.r) (.p (.int 0)) μ = some (.p (.str "stop"), μ) := rfl
    rw [seqS_eq, sIf_eq, evB_eq', evBin_eq, evBin_eq, evV_1, bindG_ok, evC_eq, bindG_ok, i0, okm_some, bindG_ok, evC_eq, bindG_ok, eqS, stopN, okm_some, bindG_ok, toB_bl, bindS_ok, if_neg (by decide), sNil_eq, andThen_nx, seqS_eq, sIf_eq, evB_eq', evBin_eq, evBin_eq, evV_1, bindG_ok, evC_eq, bindG_ok, i0, okm_some, bindG_ok, evC_eq, bindG_ok, eqS, stopS, okm_some, bindG_ok, toB_bl, bindS_ok, if_pos rfl, sRet_eq, evCall_eq, evCons_eq, evV_7, bindG_ok, evCons_eq, evV_4, bindG_ok, evCons_eq, evV_5, bindG_ok, evCons_eq, evV_6, bindG_ok, evNil_eq, bindG_ok, bindG_ok, bindG_ok, bindG_ok, bindG_ok, List.map_nil, List.append_nil, e, bindS_ok, andThen_ret, retF_p, List.take_length]
    rfl
  | seize k lag =>
    obtain ⟨lb, flb⟩ := hM.lag k lag rfl
    have i0 : fIx (.p (Ft.seize k lag).r) (.p (.int 0)) μ = some (.p (.str "seize"), μ) := rfl
    have a2 : sAsgT (tgT [8, 9, 10]) (evV 1) [some (.p (shwP sheet ms rules)), some (.p (Ft.seize k lag).r), some (.p (momP ts f t)), some (.p (.int (j : Int))), some (.p (tsP ts)), some (.p (rat f)), some (.p (rat t)), some (.p m.r), none, none, none] μ = some (.nx, [some (.p (shwP sheet ms rules)), some (.p (Ft.seize k lag).r), some (.p (momP ts f t)), some (.p (.int (j : Int))), some (.p (tsP ts)), some (.p (rat f)), some (.p (rat t)), some (.p m.r), some (.p (.str "seize")), some (.p (.int (k : Int))), some (.p (rat lag))], μ) := rfl
    rw [seqS_eq, sIf_eq, evB_eq', evBin_eq, evBin_eq, evV_1, bindG_ok, evC_eq, bindG_ok, i0, okm_some, bindG_ok, evC_eq, bindG_ok, eqS, seizeN, okm_some, bindG_ok, toB_bl, bindS_ok, if_neg (by decide), sNil_eq, andThen_nx, seqS_eq, sIf_eq, evB_eq', evBin_eq, evBin_eq, evV_1, bindG_ok, evC_eq, bindG_ok, i0, okm_some, bindG_ok, evC_eq, bindG_ok, eqS, seizeS, okm_some, bindG_ok, toB_bl, bindS_ok, if_neg (by decide), sNil_eq, andThen_nx, seqS_eq, a2, andThen_nx, seqS_eq, sIf_eq, evB_eq', evBin_eq, evV_3, bindG_ok, evV_9, bindG_ok, eq_int, okm_some, bindG_ok, toB_bl, bindS_ok]
    by_cases q : j = k
    · obtain ⟨e, b⟩ := ev_undisturbed (μ := μ) hm hM.hts hM.hf'
      have pe : plV ts (.seize k lag) f t j m = pSum f (acs ts m.acts) m.base := if_pos q
      rw [pe]
      refine ⟨?_, b.mono (by decide)⟩
      rw [if_pos (decide_eq_true (by omega)), sRet_eq, evCall_eq, evCons_eq, evV_7, bindG_ok, evCons_eq, evV_4, bindG_ok, evCons_eq, evV_5, bindG_ok, evNil_eq, bindG_ok, bindG_ok, bindG_ok, bindG_ok, List.map_nil, List.append_nil, e, bindS_ok, andThen_ret, retF_p, List.take_length]
    · obtain ⟨e, b⟩ := ev_brakedP (μ := μ) hm hM.hts flb hM.ht'
      have ad := o_add' (μ := μ) hM.hf' lb (by decide)
      have pe : plV ts (.seize k lag) f t j m = kSum m.brake (f + lag) t (acs ts m.acts) m.base := if_neg q
      rw [pe]
      refine ⟨?_, b⟩
      rw [if_neg (by simp; omega), sNil_eq, andThen_nx, sRet_eq, evCall_eq, evCons_eq, evV_7, bindG_ok, evCons_eq, evV_4, bindG_ok, evCons_eq, evBin_eq, evV_5, bindG_ok, evV_10, bindG_ok, ad, okm_some, bindG_ok, evCons_eq, evV_6, bindG_ok, evNil_eq, bindG_ok, bindG_ok, bindG_ok, bindG_ok, bindG_ok, List.map_nil, List.append_nil, e, bindS_ok, retF_p, List.take_length]
theorem kSum_late {b f x : Rat} (h : ¬ f < x) : ∀ {L : List Ac} {s : Rat}, kSum b f x L s = pSum x L s
  | [], s => rfl
  | c :: L, s => by
    show kSum b f x L (s + stp c.2 b (f - c.1) (x - c.1)) = pSum x L (s + posn c.2 (x - c.1))
    have : stp c.2 b (f - c.1) (x - c.1) = posn c.2 (x - c.1) := by
      unfold stp
      rw [if_neg (by grind)]
    rw [this, kSum_late h]
theorem brk_zero {b v f p : Rat} (hb : 0 < b) : brk b v f f p = p := by
  have h : 0 ≤ ab v / b := by
    rw [Rat.div_def]
    exact Rat.mul_nonneg ab_nonneg (Rat.le_of_lt (Rat.inv_pos.mpr hb))
  unfold brk rch
  by_cases q : f - f < ab v / b
  · rw [if_pos q]; grind
  · rw [if_neg q]
    have : ab v / b = 0 := by grind
    rw [this]; grind
/-- braked at f, told at t, not before f -/
theorem brk_k {b f t base : Rat} {L : List Ac} (hb : 0 < b) (hG : ∀ c ∈ L, GoodM c.2) (hS : Seq L) (h : f ≤ t) : brk b (vSum f L 0) f t (pSum f L base) = kSum b f t L base := by
  by_cases q : f < t
  · exact (brk_all hb q hG hS).symm
  · have : t = f := by grind
    subst this
    rw [brk_zero hb, kSum_late q]
end
end Vs
namespace Vs
open PySem PySem.Spec PyProof.Rows L2
open Bar (rg)
section
variable {μ ν : Mu} {δ : Sl}
theorem acs_good {ts : List Rat} {w : Nat} {m : Mc} (hm : McOk w m) : ∀ c ∈ acs ts m.acts, GoodM c.2 := fun c hc => by
  obtain ⟨a, ha, rfl⟩ := List.mem_map.mp hc
  exact (hm.act a ha).2.good
theorem ev_lplace {sheet rules : P} {ms : List Mc} {ts : List Rat} {F : Ft} {f t : Rat} {j : Nat} (hj : j < ms.length) (hm : McOk ts.length (ms.getD j Mc0)) (hM : MoOk ts F f t) (hS : Seq (acs ts (ms.getD j Mc0).acts)) (hft : f ≤ t) : m__law_place [.p (shwP sheet ms rules), .p F.r, .p (momP ts f t), .p (.int (j : Int))] μ = some (.ok (.p (rat (plV ts F f t j (ms.getD j Mc0)))), μ) := by
  have ix := mc_ix (μ := μ) hj
  generalize ms.getD j Mc0 = m at *
  have i1 : fIx (.p (shwP sheet ms rules)) (.p (.int 1)) μ = some (.p (.tup (ms.map Mc.r)), μ) := rfl
  have pre : ∀ X : SEv, seqS (sAsgT (tgT [4, 5, 6]) (evV 2)) (seqS (sSet 7 (evBin fIx (evBin fIx (evV 0) (evC (.int 1))) (evV 3))) X) [some (.p (shwP sheet ms rules)), some (.p F.r), some (.p (momP ts f t)), some (.p (.int (j : Int))), none, none, none, none] μ = X [some (.p (shwP sheet ms rules)), some (.p F.r), some (.p (momP ts f t)), some (.p (.int (j : Int))), some (.p (tsP ts)), some (.p (rat f)), some (.p (rat t)), some (.p m.r)] μ := fun X => by
    have a1 : sAsgT (tgT [4, 5, 6]) (evV 2) [some (.p (shwP sheet ms rules)), some (.p F.r), some (.p (momP ts f t)), some (.p (.int (j : Int))), none, none, none, none] μ = some (.nx, [some (.p (shwP sheet ms rules)), some (.p F.r), some (.p (momP ts f t)), some (.p (.int (j : Int))), some (.p (tsP ts)), some (.p (rat f)), some (.p (rat t)), none], μ) := rfl
    rw [seqS_eq, a1, andThen_nx, seqS_eq, sSet_eq, evBin_eq, evBin_eq, evV_0, bindG_ok, evC_eq, bindG_ok, i1, okm_some, bindG_ok, evV_3, bindG_ok, ix, okm_some, bindS_ok, andThen_nx]
    rfl
  unfold m__law_place
  rw [arF4w 8 (rest := [none, none, none, none]) rfl]
  unfold sv__law_place
  rw [pre]
  obtain ⟨mt, _, _⟩ := ev_moving (μ := μ) hm hM.hts hM.ht'
  have p0 : ∀ a b : Rat, fIx (.p (.tup [rat a, rat b])) (.p (.int 0)) μ = some (.p (rat a), μ) := fun a b => rfl
  have gd := acs_good (ts := ts) hm
  cases F with
  | non =>
    have i0 : fIx (.p Ft.non.r) (.p (.int 0)) μ = some (.p (.str "none"), μ) := rfl
    rw [seqS_eq, sIf_eq, evB_eq', evBin_eq, evBin_eq, evV_1, bindG_ok, evC_eq, bindG_ok, i0, okm_some, bindG_ok, evC_eq, bindG_ok, eqS, nonS, okm_some, bindG_ok, toB_bl, bindS_ok, if_neg (by decide), sNil_eq, andThen_nx]
    rw [seqS_eq, sIf_eq, tAndV_eq, evB_eq', evBin_eq, evBin_eq, evV_1, bindG_ok, evC_eq, bindG_ok, i0, okm_some, bindG_ok, evC_eq, bindG_ok, eqS, nonZ, okm_some, bindG_ok, toB_bl, bindG_ok, if_neg (by decide), bindS_ok, if_neg (by decide), sNil_eq, andThen_nx]
    rw [seqS_eq, sIf_eq, tAndV_eq, evB_eq', evBin_eq, evBin_eq, evV_1, bindG_ok, evC_eq, bindG_ok, i0, okm_some, bindG_ok, evC_eq, bindG_ok, eqS, nonZ, okm_some, bindG_ok, toB_bl, bindG_ok, if_neg (by decide), bindS_ok, if_neg (by decide), sNil_eq, andThen_nx]
    rw [sRet_eq, evBin_eq, evCall_eq, evCons_eq, evV_7, bindG_ok, evCons_eq, evV_4, bindG_ok, evCons_eq, evV_6, bindG_ok, evNil_eq, bindG_ok, bindG_ok, bindG_ok, bindG_ok, List.map_nil, List.append_nil, mt, bindG_ok, evC_eq, bindG_ok, p0, okm_some, bindS_ok, retF_p, List.take_length]
    rfl
  | stop =>
    have lb := ev_lbraked (μ := μ) hm hM.hts hM.hf' hM.ht'
    rw [brk_k hm.b0 gd hS hft] at lb
    have i0 : fIx (.p Ft.stop.r) (.p (.int 0)) μ = some (.p (.str "stop"), μ) := rfl
    rw [seqS_eq, sIf_eq, evB_eq', evBin_eq, evBin_eq, evV_1, bindG_ok, evC_eq, bindG_ok, i0, okm_some, bindG_ok, evC_eq, bindG_ok, eqS, stopS, okm_some, bindG_ok, toB_bl, bindS_ok, if_pos rfl, sRet_eq, evCall_eq, evCons_eq, evV_7, bindG_ok, evCons_eq, evV_4, bindG_ok, evCons_eq, evV_5, bindG_ok, evCons_eq, evV_6, bindG_ok, evNil_eq, bindG_ok, bindG_ok, bindG_ok, bindG_ok, bindG_ok, List.map_nil, List.append_nil, lb, bindS_ok, andThen_ret, retF_p, List.take_length]
    rfl
  | seize k lag =>
    obtain ⟨lb, flb⟩ := hM.lag k lag rfl
    obtain ⟨mf, _, _⟩ := ev_moving (μ := μ) hm hM.hts hM.hf'
    have i0 : fIx (.p (Ft.seize k lag).r) (.p (.int 0)) μ = some (.p (.str "seize"), μ) := rfl
    have i1' : fIx (.p (Ft.seize k lag).r) (.p (.int 1)) μ = some (.p (.int (k : Int)), μ) := rfl
    have i2' : fIx (.p (Ft.seize k lag).r) (.p (.int 2)) μ = some (.p (rat lag), μ) := rfl
    rw [seqS_eq, sIf_eq, evB_eq', evBin_eq, evBin_eq, evV_1, bindG_ok, evC_eq, bindG_ok, i0, okm_some, bindG_ok, evC_eq, bindG_ok, eqS, seizeS, okm_some, bindG_ok, toB_bl, bindS_ok, if_neg (by decide), sNil_eq, andThen_nx]
    rw [seqS_eq, sIf_eq, tAndV_eq, evB_eq', evBin_eq, evBin_eq, evV_1, bindG_ok, evC_eq, bindG_ok, i0, okm_some, bindG_ok, evC_eq, bindG_ok, eqS, seizeZ, okm_some, bindG_ok, toB_bl, bindG_ok, if_pos rfl, evB_eq', evBin_eq, evV_3, bindG_ok, evBin_eq, evV_1, bindG_ok, evC_eq, bindG_ok, i1', okm_some, bindG_ok, eq_int, okm_some, bindG_ok, toB_bl, bindS_ok]
    by_cases q : j = k
    · have pe : plV ts (.seize k lag) f t j m = pSum f (acs ts m.acts) m.base := if_pos q
      rw [pe, if_pos (decide_eq_true (by omega)), sRet_eq, evBin_eq, evCall_eq, evCons_eq, evV_7, bindG_ok, evCons_eq, evV_4, bindG_ok, evCons_eq, evV_5, bindG_ok, evNil_eq, bindG_ok, bindG_ok, bindG_ok, bindG_ok, List.map_nil, List.append_nil, mf, bindG_ok, evC_eq, bindG_ok, p0, okm_some, bindS_ok, andThen_ret, retF_p, List.take_length]
    · have ad := o_add' (μ := μ) hM.hf' lb (by decide)
      have ls := ev_sless (μ := μ) flb hM.ht' (by decide)
      have pe : plV ts (.seize k lag) f t j m = kSum m.brake (f + lag) t (acs ts m.acts) m.base := if_neg q
      rw [pe, if_neg (by simp; omega), sNil_eq, andThen_nx]
      rw [seqS_eq, sIf_eq, tAndV_eq, evB_eq', evBin_eq, evBin_eq, evV_1, bindG_ok, evC_eq, bindG_ok, i0, okm_some, bindG_ok, evC_eq, bindG_ok, eqS, seizeZ, okm_some, bindG_ok, toB_bl, bindG_ok, if_pos rfl, evB_eq', evCall_eq, evCons_eq, evBin_eq, evV_5, bindG_ok, evBin_eq, evV_1, bindG_ok, evC_eq, bindG_ok, i2', okm_some, bindG_ok, ad, okm_some, bindG_ok, evCons_eq, evV_6, bindG_ok, evNil_eq, bindG_ok, bindG_ok, bindG_ok, List.map_nil, List.append_nil, ls, bindG_ok, toB_bl, bindS_ok]
      by_cases q2 : f + lag < t
      · have lbk := ev_lbraked (μ := μ) hm hM.hts flb hM.ht'
        rw [brk_k hm.b0 gd hS (Rat.le_of_lt q2)] at lbk
        rw [if_pos (decide_eq_true q2), sRet_eq, evCall_eq, evCons_eq, evV_7, bindG_ok, evCons_eq, evV_4, bindG_ok, evCons_eq, evBin_eq, evV_5, bindG_ok, evBin_eq, evV_1, bindG_ok, evC_eq, bindG_ok, i2', okm_some, bindG_ok, ad, okm_some, bindG_ok, evCons_eq, evV_6, bindG_ok, evNil_eq, bindG_ok, bindG_ok, bindG_ok, bindG_ok, bindG_ok, List.map_nil, List.append_nil, lbk, bindS_ok, andThen_ret, retF_p, List.take_length]
      · rw [kSum_late q2, if_neg (by simpa using q2), sNil_eq, andThen_nx, sRet_eq, evBin_eq, evCall_eq, evCons_eq, evV_7, bindG_ok, evCons_eq, evV_4, bindG_ok, evCons_eq, evV_6, bindG_ok, evNil_eq, bindG_ok, bindG_ok, bindG_ok, bindG_ok, List.map_nil, List.append_nil, mt, bindG_ok, evC_eq, bindG_ok, p0, okm_some, bindS_ok, retF_p, List.take_length]
end
end Vs
namespace Vs
open PySem PySem.Spec PyProof.Rows L2
open Bar (rg)
inductive Rl where
  | weigh (a : Nat) (u : Rat) (b : Nat) (w lim : Rat)
  | zone (a : Nat) (low high : Rat) (i j : Nat)
def Rl.r : Rl → P
  | .weigh a u b w lim => .tup [.str "weigh", .int (a : Int), rat u, .int (b : Int), rat w, rat lim]
  | .zone a low high i j => .tup [.str "zone", .int (a : Int), rat low, rat high, .int (i : Int), .int (j : Int)]
def RlOk (c w : Nat) : Rl → Prop
  | .weigh a u b v lim => a < c ∧ b < c ∧ Bz 20 u ∧ Bz 20 v ∧ Bz 20 lim
  | .zone a low high i j => a < c ∧ Bz 20 low ∧ Bz 20 high ∧ i < w ∧ j < w
def kpV (ms : List Mc) (ts : List Rat) (F : Ft) (f t : Rat) : Rl → Bool
  | .weigh a u b w lim => !decide (u * plV ts F f t a (ms.getD a Mc0) + w * plV ts F f t b (ms.getD b Mc0) < lim)
  | .zone a low high i j => if (decide (t < rg ts i) || decide (rg ts j < t)) = true then true else (!decide (low < plV ts F f t a (ms.getD a Mc0)) || !decide (plV ts F f t a (ms.getD a Mc0) < high))
def Rl0 : Rl := .weigh 0 0 0 0 0
structure ShOk (ms : List Mc) (ts : List Rat) (F : Ft) (f t : Rat) : Prop where
  mo : MoOk ts F f t
  mc : ∀ j, j < ms.length → McOk ts.length (ms.getD j Mc0)
  sq : ∀ j, j < ms.length → Seq (acs ts (ms.getD j Mc0).acts)
  le : f ≤ t
section
variable {μ ν : Mu} {δ : Sl}
theorem weighW : (decide (("weigh" : Str) = "weigh")) = true := by decide
theorem zoneW : (decide (("zone" : Str) = "weigh")) = false := by decide
theorem rl_ix {rls : List Rl} {k : Nat} (h : k < rls.length) : fIx (.p (.tup (rls.map Rl.r))) (.p (.int (k : Int))) μ = some (.p (rls.getD k Rl0).r, μ) := tix (f := Rl.r) Rl0 h
theorem ev_is_kept {sheet : P} {ms : List Mc} {rls : List Rl} {ts : List Rat} {F : Ft} {f t : Rat} {k : Nat} (hk : k < rls.length) (hr : RlOk ms.length ts.length (rls.getD k Rl0)) (hS : ShOk ms ts F f t) :
    m_is_kept [.p (shwP sheet ms (.tup (rls.map Rl.r))), .p (.int (k : Int)), .p F.r, .p (momP ts f t)] μ = some (.ok (.p (.bl (kpV ms ts F f t (rls.getD k Rl0)))), μ) := by
  have ix := rl_ix (μ := μ) hk
  have pl := fun (κ : Mu) (j : Nat) (hj : j < ms.length) => ev_place (μ := κ) (sheet := sheet) (rules := .tup (rls.map Rl.r)) hj (hS.mc j hj) hS.mo
  have i2 : fIx (.p (shwP sheet ms (.tup (rls.map Rl.r)))) (.p (.int 2)) μ = some (.p (.tup (rls.map Rl.r)), μ) := rfl
  generalize rls.getD k Rl0 = r at *
  generalize hW : shwP sheet ms (.tup (rls.map Rl.r)) = W at *
  unfold m_is_kept
  rw [arF4w 19 (rest := [none, none, none, none, none, none, none, none, none, none, none, none, none, none, none]) rfl]
  unfold sv_is_kept
  rw [seqS_eq, sSet_eq, evBin_eq, evBin_eq, evV_0, bindG_ok, evC_eq, bindG_ok, i2, okm_some, bindG_ok, evV_1, bindG_ok, ix, okm_some, bindS_ok, andThen_nx]
  simp only [List.set_cons_succ, List.set_cons_zero]
  cases r with
  | weigh a u b w lim =>
    obtain ⟨ha, hb, hu, hw, hl⟩ := hr
    obtain ⟨p1, b1⟩ := pl μ a ha
    obtain ⟨p2, b2⟩ := pl μ b hb
    have i0 : fIx (.p (Rl.weigh a u b w lim).r) (.p (.int 0)) μ = some (.p (.str "weigh"), μ) := rfl
    rw [show kpV ms ts F f t (.weigh a u b w lim) = !decide (u * plV ts F f t a (ms.getD a Mc0) + w * plV ts F f t b (ms.getD b Mc0) < lim) from rfl]
    generalize plV ts F f t a (ms.getD a Mc0) = x at *
    generalize plV ts F f t b (ms.getD b Mc0) = y at *
    have m1 := o_mul' (μ := μ) hu b1 (by decide)
    have m2 := o_mul' (μ := μ) hw b2 (by decide)
    have ad := o_add' (μ := μ) (hu.mul b1) (hw.mul b2) (by decide)
    have ls := ev_is_less (μ := μ) ((hu.mul b1).add (hw.mul b2)) hl (by decide)
    have a1 : sAsgT (tgT [5, 6, 7, 8, 9, 10]) (evV 4) [some (.p W), some (.p (.int (k : Int))), some (.p F.r), some (.p (momP ts f t)), some (.p (Rl.weigh a u b w lim).r), none, none, none, none, none, none, none, none, none, none, none, none, none, none] μ = some (.nx, [some (.p W), some (.p (.int (k : Int))), some (.p F.r), some (.p (momP ts f t)), some (.p (Rl.weigh a u b w lim).r), some (.p (.str "weigh")), some (.p (.int (a : Int))), some (.p (rat u)), some (.p (.int (b : Int))), some (.p (rat w)), some (.p (rat lim)), none, none, none, none, none, none, none, none], μ) := rfl
    rw [seqS_eq, sIf_eq, evB_eq', evBin_eq, evBin_eq, evV_4, bindG_ok, evC_eq, bindG_ok, i0, okm_some, bindG_ok, evC_eq, bindG_ok, eqS, weighW, okm_some, bindG_ok, toB_bl, bindS_ok, if_pos rfl, seqS_eq, a1, andThen_nx, seqS_eq, sSet_eq, evBin_eq, evBin_eq, evV_7, bindG_ok, evCall_eq, evCons_eq, evV_0, bindG_ok, evCons_eq, evV_2, bindG_ok, evCons_eq, evV_3, bindG_ok, evCons_eq, evV_6, bindG_ok, evNil_eq, bindG_ok, bindG_ok, bindG_ok, bindG_ok, bindG_ok, List.map_nil, List.append_nil, p1, bindG_ok, m1, okm_some, bindG_ok, evBin_eq, evV_9, bindG_ok, evCall_eq, evCons_eq, evV_0, bindG_ok, evCons_eq, evV_2, bindG_ok, evCons_eq, evV_3, bindG_ok, evCons_eq, evV_8, bindG_ok, evNil_eq, bindG_ok, bindG_ok, bindG_ok, bindG_ok, bindG_ok, List.map_nil, List.append_nil, p2, bindG_ok, m2, okm_some, bindG_ok, ad, okm_some, bindS_ok, andThen_nx]
    simp only [List.set_cons_succ, List.set_cons_zero]
    rw [sRet_eq, evUn_eq, evCall_eq, evCons_eq, evV_at (i := 11) (d := .p (rat (u * x + w * y))) rfl, bindG_ok, evCons_eq, evV_10, bindG_ok, evNil_eq, bindG_ok, bindG_ok, bindG_ok, List.map_nil, List.append_nil, ls, bindG_ok, fNot_bl, okm_some, bindS_ok, andThen_ret, retF_p, List.take_length]
  | zone a low high i j =>
    obtain ⟨ha, hl, hh, hi, hj⟩ := hr
    obtain ⟨p1, b1⟩ := pl μ a ha
    have i0 : fIx (.p (Rl.zone a low high i j).r) (.p (.int 0)) μ = some (.p (.str "zone"), μ) := rfl
    rw [show kpV ms ts F f t (.zone a low high i j) = if (decide (t < rg ts i) || decide (rg ts j < t)) = true then true else (!decide (low < plV ts F f t a (ms.getD a Mc0)) || !decide (plV ts F f t a (ms.getD a Mc0) < high)) from rfl]
    generalize plV ts F f t a (ms.getD a Mc0) = x at *
    have ti := ts_ix (μ := μ) hi
    have tj := ts_ix (μ := μ) hj
    have l1 := ev_is_less (μ := μ) hS.mo.ht' (hS.mo.hts _ (getD_mem (d := 0) hi)) (by decide)
    have l2 := ev_is_less (μ := μ) (hS.mo.hts _ (getD_mem (d := 0) hj)) hS.mo.ht' (by decide)
    rw [show ts.getD i 0 = rg ts i from rfl] at l1
    rw [show ts.getD j 0 = rg ts j from rfl] at l2
    have l3 := ev_is_less (μ := μ) hl b1 (by decide)
    have l4 := ev_is_less (μ := μ) b1 hh (by decide)
    have a1 : sAsgT (tgT [5, 6, 12, 13, 14, 15]) (evV 4) [some (.p W), some (.p (.int (k : Int))), some (.p F.r), some (.p (momP ts f t)), some (.p (Rl.zone a low high i j).r), none, none, none, none, none, none, none, none, none, none, none, none, none, none] μ = some (.nx, [some (.p W), some (.p (.int (k : Int))), some (.p F.r), some (.p (momP ts f t)), some (.p (Rl.zone a low high i j).r), some (.p (.str "zone")), some (.p (.int (a : Int))), none, none, none, none, none, some (.p (rat low)), some (.p (rat high)), some (.p (.int (i : Int))), some (.p (.int (j : Int))), none, none, none], μ) := rfl
    have a2 : sAsgT (tgT [16, 5, 17]) (evV 3) [some (.p W), some (.p (.int (k : Int))), some (.p F.r), some (.p (momP ts f t)), some (.p (Rl.zone a low high i j).r), some (.p (.str "zone")), some (.p (.int (a : Int))), none, none, none, none, none, some (.p (rat low)), some (.p (rat high)), some (.p (.int (i : Int))), some (.p (.int (j : Int))), none, none, none] μ = some (.nx, [some (.p W), some (.p (.int (k : Int))), some (.p F.r), some (.p (momP ts f t)), some (.p (Rl.zone a low high i j).r), some (.p (rat f)), some (.p (.int (a : Int))), none, none, none, none, none, some (.p (rat low)), some (.p (rat high)), some (.p (.int (i : Int))), some (.p (.int (j : Int))), some (.p (tsP ts)), some (.p (rat t)), none], μ) := rfl
    have cond : tOrV' (evB (evCall m_is_less [] (evCons (evV 17) (evCons (evBin fIx (evV 16) (evV 14)) evNil)))) (evB (evCall m_is_less [] (evCons (evBin fIx (evV 16) (evV 15)) (evCons (evV 17) evNil)))) [some (.p W), some (.p (.int (k : Int))), some (.p F.r), some (.p (momP ts f t)), some (.p (Rl.zone a low high i j).r), some (.p (rat f)), some (.p (.int (a : Int))), none, none, none, none, none, some (.p (rat low)), some (.p (rat high)), some (.p (.int (i : Int))), some (.p (.int (j : Int))), some (.p (tsP ts)), some (.p (rat t)), none] μ = some (.ok (decide (t < rg ts i) || decide (rg ts j < t)), μ) := by
      rw [tOrV_eq, evB_eq', evCall_eq, evCons_eq, evV_at (i := 17) (d := .p (rat t)) rfl, bindG_ok, evCons_eq, evBin_eq, evV_at (i := 16) (d := .p (tsP ts)) rfl, bindG_ok, evV_at (i := 14) (d := .p (.int (i : Int))) rfl, bindG_ok, ti, okm_some, bindG_ok, evNil_eq, bindG_ok, bindG_ok, bindG_ok, List.map_nil, List.append_nil, l1, bindG_ok, toB_bl, bindG_ok]
      cases decide (t < rg ts i) with
      | true => rfl
      | false =>
        rw [if_neg (by decide), evB_eq', evCall_eq, evCons_eq, evBin_eq, evV_at (i := 16) (d := .p (tsP ts)) rfl, bindG_ok, evV_at (i := 15) (d := .p (.int (j : Int))) rfl, bindG_ok, tj, okm_some, bindG_ok, evCons_eq, evV_at (i := 17) (d := .p (rat t)) rfl, bindG_ok, evNil_eq, bindG_ok, bindG_ok, bindG_ok, List.map_nil, List.append_nil, l2, bindG_ok, toB_bl]
        rfl
    rw [seqS_eq, sIf_eq, evB_eq', evBin_eq, evBin_eq, evV_4, bindG_ok, evC_eq, bindG_ok, i0, okm_some, bindG_ok, evC_eq, bindG_ok, eqS, zoneW, okm_some, bindG_ok, toB_bl, bindS_ok, if_neg (by decide), sNil_eq, andThen_nx, seqS_eq, a1, andThen_nx, seqS_eq, a2, andThen_nx, seqS_eq, sIf_eq, cond, bindS_ok]
    cases (decide (t < rg ts i) || decide (rg ts j < t)) with
    | true => rw [if_pos rfl, if_pos rfl, sRet_eq, evC_eq, bindS_ok, andThen_ret, retF_p, List.take_length]
    | false =>
      rw [if_neg (by decide), if_neg (by decide), sNil_eq, andThen_nx, seqS_eq, sSet_eq, evCall_eq, evCons_eq, evV_0, bindG_ok, evCons_eq, evV_2, bindG_ok, evCons_eq, evV_3, bindG_ok, evCons_eq, evV_6, bindG_ok, evNil_eq, bindG_ok, bindG_ok, bindG_ok, bindG_ok, bindG_ok, List.map_nil, List.append_nil, p1, bindS_ok, andThen_nx]
      simp only [List.set_cons_succ, List.set_cons_zero]
      rw [sRet_eq, evOr_eq, evUn_eq, evCall_eq, evCons_eq, evV_at (i := 12) (d := .p (rat low)) rfl, bindG_ok, evCons_eq, evV_at (i := 18) (d := .p (rat x)) rfl, bindG_ok, evNil_eq, bindG_ok, bindG_ok, bindG_ok, List.map_nil, List.append_nil, l3, bindG_ok, fNot_bl, okm_some, bindG_ok, orD_bl]
      cases decide (low < x) with
      | false => rw [if_pos (by decide), bindS_ok, retF_p, List.take_length]; rfl
      | true =>
        rw [if_neg (by decide), evUn_eq, evCall_eq, evCons_eq, evV_at (i := 18) (d := .p (rat x)) rfl, bindG_ok, evCons_eq, evV_at (i := 13) (d := .p (rat high)) rfl, bindG_ok, evNil_eq, bindG_ok, bindG_ok, bindG_ok, List.map_nil, List.append_nil, l4, bindG_ok, fNot_bl, okm_some, bindS_ok, retF_p, List.take_length]
        rfl
theorem ev_lweighed {sheet : P} {ms : List Mc} {rls : List Rl} {ts : List Rat} {F : Ft} {f t : Rat} {k a b : Nat} {u w lim : Rat} (hk : k < rls.length) (he : rls.getD k Rl0 = .weigh a u b w lim) (hr : RlOk ms.length ts.length (.weigh a u b w lim)) (hS : ShOk ms ts F f t) :
    m__law_weighed [.p (shwP sheet ms (.tup (rls.map Rl.r))), .p (.int (k : Int)), .p F.r, .p (momP ts f t)] μ = some (.ok (.p (rat (u * plV ts F f t a (ms.getD a Mc0) + w * plV ts F f t b (ms.getD b Mc0) - lim))), μ) := by
  have ix := rl_ix (μ := μ) hk
  rw [he] at ix
  obtain ⟨ha, hb, hu, hw, hl⟩ := hr
  have lp := fun (κ : Mu) (j : Nat) (hj : j < ms.length) => ev_lplace (μ := κ) (sheet := sheet) (rules := .tup (rls.map Rl.r)) hj (hS.mc j hj) hS.mo (hS.sq j hj) hS.le
  have p1 := lp μ a ha
  have p2 := lp μ b hb
  have b1 := (ev_place (μ := μ) (sheet := sheet) (rules := .tup (rls.map Rl.r)) ha (hS.mc a ha) hS.mo).2
  have b2 := (ev_place (μ := μ) (sheet := sheet) (rules := .tup (rls.map Rl.r)) hb (hS.mc b hb) hS.mo).2
  have i2 : fIx (.p (shwP sheet ms (.tup (rls.map Rl.r)))) (.p (.int 2)) μ = some (.p (.tup (rls.map Rl.r)), μ) := rfl
  generalize hW : shwP sheet ms (.tup (rls.map Rl.r)) = W at *
  generalize plV ts F f t a (ms.getD a Mc0) = x at *
  generalize plV ts F f t b (ms.getD b Mc0) = y at *
  have m1 := o_mul' (μ := μ) hu b1 (by decide)
  have m2 := o_mul' (μ := μ) hw b2 (by decide)
  have ad := o_add' (μ := μ) (hu.mul b1) (hw.mul b2) (by decide)
  have sb := o_sub' (μ := μ) ((hu.mul b1).add (hw.mul b2)) hl (by decide)
  unfold m__law_weighed
  rw [arF4w 10 (rest := [none, none, none, none, none, none]) rfl]
  unfold sv__law_weighed
  have a1 : ∀ {δ : Sl}, asgEnd (tgT [4, 5, 6, 7, 8, 9]) [some (.p W), some (.p (.int (k : Int))), some (.p F.r), some (.p (momP ts f t)), none, none, none, none, none, none] μ (.p (Rl.weigh a u b w lim).r) = some (.nx, [some (.p W), some (.p (.int (k : Int))), some (.p F.r), some (.p (momP ts f t)), some (.p (.str "weigh")), some (.p (.int (a : Int))), some (.p (rat u)), some (.p (.int (b : Int))), some (.p (rat w)), some (.p (rat lim))], μ) := rfl
  rw [seqS_eq, sAsgT_eq, evBin_eq, evBin_eq, evV_0, bindG_ok, evC_eq, bindG_ok, i2, okm_some, bindG_ok, evV_1, bindG_ok, ix, okm_some, bindS_ok, a1 (δ := []), andThen_nx]
  rw [sRet_eq, evBin_eq, evBin_eq, evBin_eq, evV_6, bindG_ok, evCall_eq, evCons_eq, evV_0, bindG_ok, evCons_eq, evV_2, bindG_ok, evCons_eq, evV_3, bindG_ok, evCons_eq, evV_5, bindG_ok, evNil_eq, bindG_ok, bindG_ok, bindG_ok, bindG_ok, bindG_ok, List.map_nil, List.append_nil, p1, bindG_ok, m1, okm_some, bindG_ok, evBin_eq, evV_8, bindG_ok, evCall_eq, evCons_eq, evV_0, bindG_ok, evCons_eq, evV_2, bindG_ok, evCons_eq, evV_3, bindG_ok, evCons_eq, evV_7, bindG_ok, evNil_eq, bindG_ok, bindG_ok, bindG_ok, bindG_ok, bindG_ok, List.map_nil, List.append_nil, p2, bindG_ok, m2, okm_some, bindG_ok, ad, okm_some, bindG_ok, evV_9, bindG_ok, sb, okm_some, bindS_ok, retF_p, List.take_length]
theorem ge0 {q l : Rat} : decide (0 ≤ (q - l).num) = !decide (q < l) := by
  by_cases h : q < l
  · rw [decide_eq_true h, decide_eq_false]
    · rfl
    · intro z
      have := Rat.num_nonneg.mp z
      grind
  · rw [decide_eq_false h, decide_eq_true]
    · rfl
    · exact Rat.num_nonneg.mpr (by grind)
theorem ev_lkept {sheet : P} {ms : List Mc} {rls : List Rl} {ts : List Rat} {F : Ft} {f t : Rat} {k : Nat} (hk : k < rls.length) (hr : RlOk ms.length ts.length (rls.getD k Rl0)) (hS : ShOk ms ts F f t) :
    m__law_kept [.p (shwP sheet ms (.tup (rls.map Rl.r))), .p (.int (k : Int)), .p F.r, .p (momP ts f t)] μ = some (.ok (.p (.bl (kpV ms ts F f t (rls.getD k Rl0)))), μ) := by
  have ix := rl_ix (μ := μ) hk
  have lw := fun (a b : Nat) (u w lim : Rat) (he : rls.getD k Rl0 = .weigh a u b w lim) => ev_lweighed (μ := μ) (sheet := sheet) hk he (he ▸ hr) hS
  have lp := fun (κ : Mu) (j : Nat) (hj : j < ms.length) => ev_lplace (μ := κ) (sheet := sheet) (rules := .tup (rls.map Rl.r)) hj (hS.mc j hj) hS.mo (hS.sq j hj) hS.le
  have pb := fun (j : Nat) (hj : j < ms.length) => (ev_place (μ := μ) (sheet := sheet) (rules := .tup (rls.map Rl.r)) hj (hS.mc j hj) hS.mo).2
  have i2 : fIx (.p (shwP sheet ms (.tup (rls.map Rl.r)))) (.p (.int 2)) μ = some (.p (.tup (rls.map Rl.r)), μ) := rfl
  generalize rls.getD k Rl0 = r at *
  generalize hW : shwP sheet ms (.tup (rls.map Rl.r)) = W at *
  unfold m__law_kept
  rw [arF4w 14 (rest := [none, none, none, none, none, none, none, none, none, none]) rfl]
  unfold sv__law_kept
  rw [seqS_eq, sAsgT_eq, evBin_eq, evBin_eq, evV_0, bindG_ok, evC_eq, bindG_ok, i2, okm_some, bindG_ok, evV_1, bindG_ok, ix, okm_some, bindS_ok]
  cases r with
  | weigh a u b w lim =>
    have e := lw a b u w lim rfl
    rw [show kpV ms ts F f t (.weigh a u b w lim) = !decide (u * plV ts F f t a (ms.getD a Mc0) + w * plV ts F f t b (ms.getD b Mc0) < lim) from rfl, ← ge0]
    generalize u * plV ts F f t a (ms.getD a Mc0) + w * plV ts F f t b (ms.getD b Mc0) - lim = z at *
    have a1 : asgEnd (tgT [4, 5, 6, 7, 8, 9]) [some (.p W), some (.p (.int (k : Int))), some (.p F.r), some (.p (momP ts f t)), none, none, none, none, none, none, none, none, none, none] μ (.p (Rl.weigh a u b w lim).r) = some (.nx, [some (.p W), some (.p (.int (k : Int))), some (.p F.r), some (.p (momP ts f t)), some (.p (.str "weigh")), some (.p (.int (a : Int))), some (.p (rat u)), some (.p (.int (b : Int))), some (.p (rat w)), some (.p (rat lim)), none, none, none, none], μ) := rfl
    rw [a1, andThen_nx, seqS_eq, sIf_eq, evB_eq', evBin_eq, evV_4, bindG_ok, evC_eq, bindG_ok, eqS, weighW, okm_some, bindG_ok, toB_bl, bindS_ok, if_pos rfl, sRet_eq, evBin_eq, evUn_eq, evCall_eq, evCons_eq, evV_0, bindG_ok, evCons_eq, evV_1, bindG_ok, evCons_eq, evV_2, bindG_ok, evCons_eq, evV_3, bindG_ok, evNil_eq, bindG_ok, bindG_ok, bindG_ok, bindG_ok, bindG_ok, List.map_nil, List.append_nil, e, bindG_ok, ev_fld0, okm_some, bindG_ok, evC_eq, bindG_ok, ge_int, okm_some, bindS_ok, andThen_ret, retF_p, List.take_length]
  | zone a low high i j =>
    obtain ⟨ha, hl, hh, hi, hj⟩ := hr
    have p1 := lp μ a ha
    have b1 := pb a ha
    rw [show kpV ms ts F f t (.zone a low high i j) = if (decide (t < rg ts i) || decide (rg ts j < t)) = true then true else (!decide (low < plV ts F f t a (ms.getD a Mc0)) || !decide (plV ts F f t a (ms.getD a Mc0) < high)) from rfl]
    generalize plV ts F f t a (ms.getD a Mc0) = x at *
    have ti := ts_ix (μ := μ) hi
    have tj := ts_ix (μ := μ) hj
    have l1 := ev_sless (μ := μ) hS.mo.ht' (hS.mo.hts _ (getD_mem (d := 0) hi)) (by decide)
    have l2 := ev_sless (μ := μ) (hS.mo.hts _ (getD_mem (d := 0) hj)) hS.mo.ht' (by decide)
    rw [show ts.getD i 0 = rg ts i from rfl] at l1
    rw [show ts.getD j 0 = rg ts j from rfl] at l2
    have l3 := ev_sless (μ := μ) hl b1 (by decide)
    have l4 := ev_sless (μ := μ) b1 hh (by decide)
    have a1 : asgEnd (tgT [4, 5, 6, 7, 8, 9]) [some (.p W), some (.p (.int (k : Int))), some (.p F.r), some (.p (momP ts f t)), none, none, none, none, none, none, none, none, none, none] μ (.p (Rl.zone a low high i j).r) = some (.nx, [some (.p W), some (.p (.int (k : Int))), some (.p F.r), some (.p (momP ts f t)), some (.p (.str "zone")), some (.p (.int (a : Int))), some (.p (rat low)), some (.p (rat high)), some (.p (.int (i : Int))), some (.p (.int (j : Int))), none, none, none, none], μ) := rfl
    have a2 : sAsgT (tgT [10, 11, 12]) (evV 3) [some (.p W), some (.p (.int (k : Int))), some (.p F.r), some (.p (momP ts f t)), some (.p (.str "zone")), some (.p (.int (a : Int))), some (.p (rat low)), some (.p (rat high)), some (.p (.int (i : Int))), some (.p (.int (j : Int))), none, none, none, none] μ = some (.nx, [some (.p W), some (.p (.int (k : Int))), some (.p F.r), some (.p (momP ts f t)), some (.p (.str "zone")), some (.p (.int (a : Int))), some (.p (rat low)), some (.p (rat high)), some (.p (.int (i : Int))), some (.p (.int (j : Int))), some (.p (tsP ts)), some (.p (rat f)), some (.p (rat t)), none], μ) := rfl
    have cond : tOrV' (evB (evCall m__law_sless [] (evCons (evV 12) (evCons (evBin fIx (evV 10) (evV 8)) evNil)))) (evB (evCall m__law_sless [] (evCons (evBin fIx (evV 10) (evV 9)) (evCons (evV 12) evNil)))) [some (.p W), some (.p (.int (k : Int))), some (.p F.r), some (.p (momP ts f t)), some (.p (.str "zone")), some (.p (.int (a : Int))), some (.p (rat low)), some (.p (rat high)), some (.p (.int (i : Int))), some (.p (.int (j : Int))), some (.p (tsP ts)), some (.p (rat f)), some (.p (rat t)), none] μ = some (.ok (decide (t < rg ts i) || decide (rg ts j < t)), μ) := by
      rw [tOrV_eq, evB_eq', evCall_eq, evCons_eq, evV_at (i := 12) (d := .p (rat t)) rfl, bindG_ok, evCons_eq, evBin_eq, evV_at (i := 10) (d := .p (tsP ts)) rfl, bindG_ok, evV_8, bindG_ok, ti, okm_some, bindG_ok, evNil_eq, bindG_ok, bindG_ok, bindG_ok, List.map_nil, List.append_nil, l1, bindG_ok, toB_bl, bindG_ok]
      cases decide (t < rg ts i) with
      | true => rfl
      | false =>
        rw [if_neg (by decide), evB_eq', evCall_eq, evCons_eq, evBin_eq, evV_at (i := 10) (d := .p (tsP ts)) rfl, bindG_ok, evV_9, bindG_ok, tj, okm_some, bindG_ok, evCons_eq, evV_at (i := 12) (d := .p (rat t)) rfl, bindG_ok, evNil_eq, bindG_ok, bindG_ok, bindG_ok, List.map_nil, List.append_nil, l2, bindG_ok, toB_bl]
        rfl
    rw [a1, andThen_nx, seqS_eq, sIf_eq, evB_eq', evBin_eq, evV_4, bindG_ok, evC_eq, bindG_ok, eqS, zoneW, okm_some, bindG_ok, toB_bl, bindS_ok, if_neg (by decide), sNil_eq, andThen_nx, seqS_eq, a2, andThen_nx, seqS_eq, sIf_eq, cond, bindS_ok]
    cases (decide (t < rg ts i) || decide (rg ts j < t)) with
    | true => rw [if_pos rfl, if_pos rfl, sRet_eq, evC_eq, bindS_ok, andThen_ret, retF_p, List.take_length]
    | false =>
      rw [if_neg (by decide), if_neg (by decide), sNil_eq, andThen_nx, seqS_eq, sSet_eq, evCall_eq, evCons_eq, evV_0, bindG_ok, evCons_eq, evV_2, bindG_ok, evCons_eq, evV_3, bindG_ok, evCons_eq, evV_5, bindG_ok, evNil_eq, bindG_ok, bindG_ok, bindG_ok, bindG_ok, bindG_ok, List.map_nil, List.append_nil, p1, bindS_ok, andThen_nx]
      simp only [List.set_cons_succ, List.set_cons_zero]
      rw [sRet_eq, evOr_eq, evUn_eq, evCall_eq, evCons_eq, evV_6, bindG_ok, evCons_eq, evV_at (i := 13) (d := .p (rat x)) rfl, bindG_ok, evNil_eq, bindG_ok, bindG_ok, bindG_ok, List.map_nil, List.append_nil, l3, bindG_ok, fNot_bl, okm_some, bindG_ok, orD_bl]
      cases decide (low < x) with
      | false => rw [if_pos (by decide), bindS_ok, retF_p, List.take_length]; rfl
      | true =>
        rw [if_neg (by decide), evUn_eq, evCall_eq, evCons_eq, evV_at (i := 13) (d := .p (rat x)) rfl, bindG_ok, evCons_eq, evV_7, bindG_ok, evNil_eq, bindG_ok, bindG_ok, bindG_ok, List.map_nil, List.append_nil, l4, bindG_ok, fNot_bl, okm_some, bindS_ok, retF_p, List.take_length]
        rfl
end
end Vs
namespace Vs
open PySem PySem.Spec PyProof.Rows L2
open Bar (gt cz Sol Bd rg gsol RowIn ESol SR QRow InSp Span IndP withRow wrow chgK dotI PSol LSol RowOf HS)
section
variable {μ : Mu} {δ : Sl}
theorem sub_ints {i j : Int} : fSub (.p (.int i)) (.p (.int j)) μ = some (.p (.int (i - j)), μ) := by simp
end
end Vs
namespace Vs
open PySem PySem.Spec PyProof.Rows L2
open Bar (rg)
structure Cue4 (i : Nat) (c : Cue) : Prop where
  p1 : -1 ≤ c.p
  p2 : c.p < i
  lo : Tq 2 2021 c.lo
  hi : Tq 2 2081 c.hi
  lo0 : 0 ≤ c.lo
  le : c.lo ≤ c.hi
def mvsP (ms : List (List (Rat × Rat))) : P := .lst (ms.map mvR)
theorem Tq.bz20 {s A : Nat} {q : Rat} (h : Tq s A q) (h1 : s * A < 2 ^ 2000) (h2 : s < 2 ^ 20) : Bz 20 q := ⟨by decide, Nat.lt_of_le_of_lt h.num h1, by
  have := Nat.le_of_dvd h.1 h.den
  unfold Sz
  rw [Int.natAbs_natCast]
  omega⟩
section
variable {μ ν : Mu} {δ : Sl}
/-- draw over 1 + draw -/
theorem frac_ex {k : Nat} {s : SS} (hs : s.Ok) (k0 : 0 < k) (kb : k < 100) : ∃ q s', SS.Ok s' ∧ 0 ≤ q ∧ Tq 2 (k - 1) q ∧ ∀ (r : Mu) (δ : Sl), δ[0]? = some (some (.loc 0)) → evMake 0 2 m_Ratiou_initu [] (evCons (evCall m__law_draw [] (evCons (evV 0) (evCons (evC (.int (k : Int))) evNil))) (evCons (evBin fAdd (evC (.int 1)) (evCall m__law_draw [] (evCons (evV 0) (evCons (evC (.int 2)) evNil)))) evNil)) δ (st s :: r) = some (.ok (.p (rat q)), st s' :: r) := by
  obtain ⟨x, s1, o1, l1, e1⟩ := draw0n (n := k) hs k0 (by omega)
  obtain ⟨y, s2, o2, l2, u2, e2⟩ := draw0 2 o1
  have hy : y = 0 ∨ y = 1 := by omega
  refine ⟨Rat.divInt x (1 + y), s2, o2, ?_, ?_, fun r δ hd => ?_⟩
  · rcases hy with rfl | rfl
    · exact Rat.divInt_nonneg (by omega) (by decide)
    · exact Rat.divInt_nonneg (by omega) (by decide)
  · exact o4 (by omega) (by rcases hy with rfl | rfl <;> decide) (by omega)
  · refine mkD ?_ (by omega) (sz_lt 2 (by omega))
    rw [evCons_eq, drC e1 hd, bindG_ok, evCons_eq, drC1 e2 hd, bindG_ok, evNil_eq, bindG_ok, bindG_ok]
theorem one20_i {v : Int} (h0 : 0 ≤ v) (h4 : v < 4) : ∃ a : Int, (a = 1 ∨ a = 20) ∧ ∀ κ : Mu, fIx (.p (.lst [.int 1, .int 1, .int 1, .int 20])) (.p (.int v)) κ = some (.p (.int a), κ) := by
  have : v = 0 ∨ v = 1 ∨ v = 2 ∨ v = 3 := by omega
  rcases this with rfl | rfl | rfl | rfl
  · exact ⟨1, .inl rfl, fun _ => rfl⟩
  · exact ⟨1, .inl rfl, fun _ => rfl⟩
  · exact ⟨1, .inl rfl, fun _ => rfl⟩
  · exact ⟨20, .inr rfl, fun _ => rfl⟩
theorem four_l {a b c d : Int} (δ : Sl) (κ : Mu) : evLst (evCons (evC (.int a)) (evCons (evC (.int b)) (evCons (evC (.int c)) (evCons (evC (.int d)) evNil)))) δ κ = some (.ok (.p (.lst [.int a, .int b, .int c, .int d])), κ) := by
  rw [evLst_eq, evCons_eq, evC_eq, bindG_ok, evCons_eq, evC_eq, bindG_ok, evCons_eq, evC_eq, bindG_ok, evCons_eq, evC_eq, bindG_ok, evNil_eq, bindG_ok, bindG_ok, bindG_ok, bindG_ok, bindG_ok, toPs_cons, toPs_cons, toPs_cons, toPs_cons, toPs_nil, consP_some, consP_some, consP_some, consP_some, lstEnd_some, if_pos (Nat.le_of_lt (line_k (by simp)))]
theorem mkC {δ : Sl} {μ : Mu} (n : Int) : evMake 0 2 m_Ratiou_initu [.int 1] (evCons (evC (.int n)) evNil) δ μ = some (.ok (.p (rat (n : Rat))), μ) := mkI (by rw [evCons_eq, evC_eq, bindG_ok, evNil_eq, bindG_ok])
/-- the parent, the wait that is drawn; and what the move in front adds -/
theorem ssh_a {ms : List (List (Rat × Rat))} (hms : ∀ m ∈ ms, Mv4 m) {k : Nat} (hk : k < ms.length) (k4 : k < 100) {s : SS} (hs : s.Ok) : ∃ (p : Int) (w : Rat) (s' : SS), SS.Ok s' ∧ -1 ≤ p ∧ p < k ∧ Tq 2 21 w ∧ 0 ≤ w ∧ ∀ (X : SEv) (c2 c4 c5 c6 : Option D) (r : Mu),
    seqS (sSet 4 (evBin fSub (evCall m__law_draw [] (evCons (evV 0) (evCons (evBin fAdd (evV 3) (evC (.int 1))) evNil))) (evC (.int 1)))) (seqS (sSet 5 (evMake 0 2 m_Ratiou_initu [] (evCons (evCall m__law_draw [] (evCons (evV 0) (evCons (evC (.int 4)) evNil))) (evCons (evBin fAdd (evC (.int 1)) (evCall m__law_draw [] (evCons (evV 0) (evCons (evC (.int 2)) evNil)))) evNil)))) (seqS (sIf (tAndV' (evB (evBin fGt (evV 3) (evC (.int 0)))) (evB (evBin fEq (evCall m__law_draw [] (evCons (evV 0) (evCons (evC (.int 2)) evNil))) (evC (.int 0))))) (seqS (sSet 5 (evBin (fOwn 0 m_Ratiou_addu) (evV 5) (evCall m__law_slength [] (evCons (evBin fIx (evV 1) (evBin fSub (evV 3) (evC (.int 1)))) evNil)))) (sSet 4 (evBin fIx (evLst (evCons (evBin fSub (evV 3) (evC (.int 1))) (evCons (evV 4) evNil))) (evCall m__law_draw [] (evCons (evV 0) (evCons (evC (.int 2)) evNil)))))) sNil) X)) [some (.loc 0), some (.p (mvsP ms)), c2, some (.p (.int (k : Int))), c4, c5, c6] (st s :: r) = X [some (.loc 0), some (.p (mvsP ms)), c2, some (.p (.int (k : Int))), some (.p (.int p)), some (.p (rat w)), c6] (st s' :: r) := by
  obtain ⟨x, s1, o1, x1, e1⟩ := draw0n (n := k + 1) hs (by omega) (by omega)
  obtain ⟨w, s2, o2, w0, wt, e2⟩ := frac_ex (k := 4) o1 (by decide) (by decide)
  have st1 : ∀ (X : SEv) (c2 c4 c5 c6 : Option D) (r : Mu), seqS (sSet 4 (evBin fSub (evCall m__law_draw [] (evCons (evV 0) (evCons (evBin fAdd (evV 3) (evC (.int 1))) evNil))) (evC (.int 1)))) (seqS (sSet 5 (evMake 0 2 m_Ratiou_initu [] (evCons (evCall m__law_draw [] (evCons (evV 0) (evCons (evC (.int 4)) evNil))) (evCons (evBin fAdd (evC (.int 1)) (evCall m__law_draw [] (evCons (evV 0) (evCons (evC (.int 2)) evNil)))) evNil)))) X) [some (.loc 0), some (.p (mvsP ms)), c2, some (.p (.int (k : Int))), c4, c5, c6] (st s :: r) = X [some (.loc 0), some (.p (mvsP ms)), c2, some (.p (.int (k : Int))), some (.p (.int ((x : Int) - 1))), some (.p (rat w)), c6] (st s2 :: r) := fun X c2 c4 c5 c6 r => by
    have e1' := e1 r
    rw [show ((k + 1 : Nat) : Int) = (k : Int) + 1 by omega] at e1'
    rw [seqS_eq, sSet_eq, evBin_eq, evCall_eq, evCons_eq, evV_0, bindG_ok, evCons_eq, evBin_eq, evV_3, bindG_ok, evC_eq, bindG_ok, add_ints, okm_some, bindG_ok, evNil_eq, bindG_ok, bindG_ok, bindG_ok, List.map_nil, List.append_nil, e1', bindG_ok, evC_eq, bindG_ok, sub_ints, okm_some, bindS_ok, andThen_nx]
    simp only [List.set_cons_succ, List.set_cons_zero]
    rw [seqS_eq, sSet_eq, show (4 : Int) = ((4 : Nat) : Int) from rfl, e2 r _ rfl, bindS_ok, andThen_nx]
    rfl
  by_cases k0 : k = 0
  · refine ⟨(x : Int) - 1, w, s2, o2, by omega, by omega, wt.mono (by decide), w0, fun X c2 c4 c5 c6 r => ?_⟩
    rw [st1, seqS_eq, sIf_eq, tAndV_eq, evB_eq', evBin_eq, evV_3, bindG_ok, evC_eq, bindG_ok, gt_int, okm_some, bindG_ok, toB_bl, bindG_ok, decide_eq_false (by omega), if_neg (by decide), bindS_ok, if_neg (by decide), sNil_eq, andThen_nx]
  · obtain ⟨y, s3, o3, y0, y2, e3⟩ := draw0 2 o2
    have cond : ∀ (c2 c4 c5 c6 : Option D) (r : Mu), tAndV' (evB (evBin fGt (evV 3) (evC (.int 0)))) (evB (evBin fEq (evCall m__law_draw [] (evCons (evV 0) (evCons (evC (.int 2)) evNil))) (evC (.int 0)))) [some (.loc 0), some (.p (mvsP ms)), c2, some (.p (.int (k : Int))), c4, c5, c6] (st s2 :: r) = some (.ok (decide (y = 0)), st s3 :: r) := fun c2 c4 c5 c6 r => by
      rw [tAndV_eq, evB_eq', evBin_eq, evV_3, bindG_ok, evC_eq, bindG_ok, gt_int, okm_some, bindG_ok, toB_bl, bindG_ok, decide_eq_true (by omega), if_pos rfl, evB_eq', evBin_eq, drC e3 rfl, bindG_ok, evC_eq, bindG_ok, eq_int, okm_some, bindG_ok, toB_bl]
    by_cases q : y = 0
    · obtain ⟨z, s4, o4', z0, z2, e4⟩ := draw0 2 o3
      have hm := hms _ (getD_mem (d := []) (show k - 1 < ms.length by omega))
      have lt := hm.len
      have lb : Bz 20 (finT 0 (ms.getD (k - 1) [])) := lt.bz20 (by decide +kernel) (by decide)
      have wb : Bz 20 w := wt.bz20 (by decide +kernel) (by decide)
      have ln := fun κ : Mu => ev_slength (μ := κ) hm.good
      have ad := fun κ : Mu => o_add' (μ := κ) wb lb (by decide)
      have ix : ∀ κ : Mu, fIx (.p (mvsP ms)) (.p (.int ((k - 1 : Nat) : Int))) κ = some (.p (mvR (ms.getD (k - 1) [])), κ) := fun κ => lix (f := mvR) [] (by omega)
      have pz : ∃ p : Int, -1 ≤ p ∧ p < k ∧ ∀ κ : Mu, fIx (.p (.lst [.int ((k : Int) - 1), .int ((x : Int) - 1)])) (.p (.int z)) κ = some (.p (.int p), κ) := by
        have : z = 0 ∨ z = 1 := by omega
        rcases this with rfl | rfl
        · exact ⟨(k : Int) - 1, by omega, by omega, fun _ => rfl⟩
        · exact ⟨(x : Int) - 1, by omega, by omega, fun _ => rfl⟩
      obtain ⟨p, p1, p2, pe⟩ := pz
      refine ⟨p, w + finT 0 (ms.getD (k - 1) []), s4, o4', p1, p2, (wt.add lt).mono (by decide), by have := finT_nn hm.good; grind, fun X c2 c4 c5 c6 r => ?_⟩
      have l2 : ∀ (δ : Sl) (κ : Mu), δ[3]? = some (some (.p (.int (k : Int)))) → δ[4]? = some (some (.p (.int ((x : Int) - 1)))) → evLst (evCons (evBin fSub (evV 3) (evC (.int 1))) (evCons (evV 4) evNil)) δ κ = some (.ok (.p (.lst [.int ((k : Int) - 1), .int ((x : Int) - 1)])), κ) := fun δ κ h1 h2 => by
        rw [evLst_eq, evCons_eq, evBin_eq, evV_at h1, bindG_ok, evC_eq, bindG_ok, sub_ints, okm_some, bindG_ok, evCons_eq, evV_at h2, bindG_ok, evNil_eq, bindG_ok, bindG_ok, bindG_ok, toPs_cons, toPs_cons, toPs_nil, consP_some, consP_some, lstEnd_some, if_pos (Nat.le_of_lt (line_k (by simp)))]
      rw [st1, seqS_eq, sIf_eq, cond, bindS_ok, if_pos (decide_eq_true q), seqS_eq, sSet_eq, evBin_eq, evV_5, bindG_ok, evCall_eq, evCons_eq, evBin_eq, evV_1, bindG_ok, evBin_eq, evV_3, bindG_ok, evC_eq, bindG_ok, sub_ints, okm_some, bindG_ok, show (k : Int) - 1 = ((k - 1 : Nat) : Int) by omega, ix, okm_some, bindG_ok, evNil_eq, bindG_ok, bindG_ok, List.map_nil, List.append_nil, ln, bindG_ok, ad, okm_some, bindS_ok, andThen_nx]
      simp only [List.set_cons_succ, List.set_cons_zero]
      rw [sSet_eq, evBin_eq, l2 _ _ rfl rfl, bindG_ok, drC e4 rfl, bindG_ok, pe, okm_some, bindS_ok, andThen_nx]
      rfl
    · refine ⟨(x : Int) - 1, w, s3, o3, by omega, by omega, wt.mono (by decide), w0, fun X c2 c4 c5 c6 r => ?_⟩
      rw [st1, seqS_eq, sIf_eq, cond, bindS_ok, if_neg (by simpa using q), sNil_eq, andThen_nx]
/-- what may be added; and how much more the greatest wait is -/
theorem ssh_b {s : SS} (hs : s.Ok) {w : Rat} (wt : Tq 2 21 w) (w0 : 0 ≤ w) {c1 : Option D} : ∃ (lo hi : Rat) (s' : SS), SS.Ok s' ∧ Tq 2 2021 lo ∧ Tq 2 2081 hi ∧ 0 ≤ lo ∧ lo ≤ hi ∧ ∀ (c3 c6 : Option D) (p : Int) (r : Mu) (acc : List P), acc.length ≤ 900 → ∃ c5' c6', 
    seqS (sIf (evB (evBin fEq (evCall m__law_draw [] (evCons (evV 0) (evCons (evC (.int 12)) evNil))) (evC (.int 0)))) (sSet 5 (evBin (fOwn 0 m_Ratiou_addu) (evV 5) (evMake 0 2 m_Ratiou_initu [.int 1] (evCons (evC (.int 2000)) evNil)))) sNil) (seqS (sSet 6 (evMake 0 2 m_Ratiou_initu [] (evCons (evCall m__law_draw [] (evCons (evV 0) (evCons (evC (.int 4)) evNil))) (evCons (evBin fAdd (evC (.int 1)) (evCall m__law_draw [] (evCons (evV 0) (evCons (evC (.int 2)) evNil)))) evNil)))) (sExpr (evBM isLst fApp (evV 2) (evCons (evTup (evCons (evV 4) (evCons (evV 5) (evCons (evBin (fOwn 0 m_Ratiou_addu) (evV 5) (evBin (fOwn 0 m_Ratiou_mulu) (evV 6) (evMake 0 2 m_Ratiou_initu [.int 1] (evCons (evBin fIx (evLst (evCons (evC (.int 1)) (evCons (evC (.int 1)) (evCons (evC (.int 1)) (evCons (evC (.int 20)) evNil))))) (evCall m__law_draw [] (evCons (evV 0) (evCons (evC (.int 4)) evNil)))) evNil)))) evNil)))) evNil)))) [some (.loc 0), c1, some (.loc (r.length + 1)), c3, some (.p (.int p)), some (.p (rat w)), c6] (st s :: (r ++ [some (.lst acc)])) = some (.nx, [some (.loc 0), c1, some (.loc (r.length + 1)), c3, some (.p (.int p)), c5', c6'], st s' :: (r ++ [some (.lst (acc ++ [Cue.r ⟨p, lo, hi⟩]))])) := by
  obtain ⟨x, s1, o1, x0, x1, e1⟩ := draw0 12 hs
  have wb : Bz 20 w := wt.bz20 (by decide +kernel) (by decide)
  have t2 : Tq 2 2000 ((2000 : Int) : Rat) := tq_int (by decide) (by decide)
  have t2b : Bz 20 ((2000 : Int) : Rat) := t2.bz20 (by decide +kernel) (by decide)
  have p2 : (0 : Rat) ≤ ((2000 : Int) : Rat) := by exact_mod_cast (show (0 : Int) ≤ 2000 by decide)
  have ad := fun κ : Mu => o_add' (μ := κ) wb t2b (by decide)
  obtain ⟨v, v0, vt, ve⟩ : ∃ v : Rat, 0 ≤ v ∧ Tq 2 2021 v ∧ ∀ (X : SEv) (c1 c2 c3 c4 c6 : Option D) (r : Mu), seqS (sIf (evB (evBin fEq (evCall m__law_draw [] (evCons (evV 0) (evCons (evC (.int 12)) evNil))) (evC (.int 0)))) (sSet 5 (evBin (fOwn 0 m_Ratiou_addu) (evV 5) (evMake 0 2 m_Ratiou_initu [.int 1] (evCons (evC (.int 2000)) evNil)))) sNil) X [some (.loc 0), c1, c2, c3, c4, some (.p (rat w)), c6] (st s :: r) = X [some (.loc 0), c1, c2, c3, c4, some (.p (rat v)), c6] (st s1 :: r) := by
    by_cases q : x = 0
    · refine ⟨w + ((2000 : Int) : Rat), by grind, (wt.add t2).mono (by decide), fun X c1 c2 c3 c4 c6 r => ?_⟩
      rw [seqS_eq, sIf_eq, evB_eq', evBin_eq, drC e1 rfl, bindG_ok, evC_eq, bindG_ok, eq_int, okm_some, bindG_ok, toB_bl, bindS_ok, if_pos (decide_eq_true q), sSet_eq, evBin_eq, evV_5, bindG_ok, mkC, bindG_ok, ad, okm_some, bindS_ok, andThen_nx]
      rfl
    · refine ⟨w, w0, wt.mono (by decide), fun X c1 c2 c3 c4 c6 r => ?_⟩
      rw [seqS_eq, sIf_eq, evB_eq', evBin_eq, drC e1 rfl, bindG_ok, evC_eq, bindG_ok, eq_int, okm_some, bindG_ok, toB_bl, bindS_ok, if_neg (by simpa using q), sNil_eq, andThen_nx]
  obtain ⟨m, s2, o2, m0, mt, e2⟩ := frac_ex (k := 4) o1 (by decide) (by decide)
  obtain ⟨y, s3, o3, y0, y4, e3⟩ := draw0 4 o2
  obtain ⟨a, ha, ia⟩ := one20_i y0 y4
  have at' : Tq 1 20 (a : Rat) := tq_int (by decide) (by rcases ha with rfl | rfl <;> decide)
  have a0 : (0 : Rat) ≤ (a : Rat) := by exact_mod_cast (show (0 : Int) ≤ a by rcases ha with rfl | rfl <;> decide)
  have ab : Bz 20 (a : Rat) := at'.bz20 (by decide +kernel) (by decide)
  have mb : Bz 20 m := mt.bz20 (by decide +kernel) (by decide)
  have vb : Bz 20 v := vt.bz20 (by decide +kernel) (by decide)
  have o5 := fun κ : Mu => o_mul' (μ := κ) mb ab (by decide)
  have o6 := fun κ : Mu => o_add' (μ := κ) vb (mb.mul ab) (by decide)
  have mt' : Tq 2 60 (m * (a : Rat)) := (mt.mul at').mono (by decide)
  refine ⟨v, v + m * (a : Rat), s3, o3, vt, (vt.add mt').mono (by decide), v0, by have := Rat.mul_nonneg m0 a0; grind, fun c3 c6 p r acc hl => ⟨some (.p (rat v)), some (.p (rat m)), ?_⟩⟩
  rw [ve, seqS_eq, sSet_eq, show (4 : Int) = ((4 : Nat) : Int) from rfl, e2 _ _ rfl, bindS_ok, andThen_nx]
  simp only [List.set_cons_succ, List.set_cons_zero]
  have tu : evTup (evCons (evV 4) (evCons (evV 5) (evCons (evBin (fOwn 0 m_Ratiou_addu) (evV 5) (evBin (fOwn 0 m_Ratiou_mulu) (evV 6) (evMake 0 2 m_Ratiou_initu [.int 1] (evCons (evBin fIx (evLst (evCons (evC (.int 1)) (evCons (evC (.int 1)) (evCons (evC (.int 1)) (evCons (evC (.int 20)) evNil))))) (evCall m__law_draw [] (evCons (evV 0) (evCons (evC (.int ((4 : Nat) : Int))) evNil)))) evNil)))) evNil))) [some (.loc 0), c1, some (.loc (r.length + 1)), c3, some (.p (.int p)), some (.p (rat v)), some (.p (rat m))] (st s2 :: (r ++ [some (.lst acc)])) = some (.ok (.p (Cue.r ⟨p, v, v + m * (a : Rat)⟩)), st s3 :: (r ++ [some (.lst acc)])) := by
    have mk := mkI (δ := [some (.loc 0), c1, some (.loc (r.length + 1)), c3, some (.p (.int p)), some (.p (rat v)), some (.p (rat m))]) (μ := st s2 :: (r ++ [some (.lst acc)])) (ν := st s3 :: (r ++ [some (.lst acc)])) (n := a) (a := evCons (evBin fIx (evLst (evCons (evC (.int 1)) (evCons (evC (.int 1)) (evCons (evC (.int 1)) (evCons (evC (.int 20)) evNil))))) (evCall m__law_draw [] (evCons (evV 0) (evCons (evC (.int ((4 : Nat) : Int))) evNil)))) evNil) (by
      rw [evCons_eq, evBin_eq, four_l, bindG_ok, drC (k := ((4 : Nat) : Int)) e3 rfl, bindG_ok, ia, okm_some, bindG_ok, evNil_eq, bindG_ok])
    rw [evTup_eq, evCons_eq, evV_4, bindG_ok, evCons_eq, evV_5, bindG_ok, evCons_eq, evBin_eq, evV_5, bindG_ok, evBin_eq, evV_6, bindG_ok, mk, bindG_ok, o5, okm_some, bindG_ok, o6, okm_some, bindG_ok, evNil_eq, bindG_ok, bindG_ok, bindG_ok, bindG_ok, toPs_cons, toPs_cons, toPs_cons, toPs_nil, consP_some, consP_some, consP_some, tup3]
    rfl
  rw [sExpr_eq, evBM_eq, evV_2, bindG_ok, if_pos is0, evCons_eq, tu, bindG_ok, evNil_eq, bindG_ok, bindG_ok, ap0 hl, okm_some, bindS_ok]
end
end Vs
namespace Vs
open PySem PySem.Spec PyProof.Rows L2
open Bar (rg)
section
variable {μ ν : Mu} {δ : Sl}
theorem ssh_loop {ms : List (List (Rat × Rat))} (hms : ∀ m ∈ ms, Mv4 m) (h4 : ms.length ≤ 4) : ∀ (m a : Nat) (s : SS), s.Ok → a + m = ms.length → ∃ (cs : List Cue) (s' : SS), SS.Ok s' ∧ cs.length = m ∧ (∀ i c, cs[i]? = some c → Cue4 (a + i) c) ∧
    ∀ (r : Mu) (acc : List P) (c3 c4 c5 c6 : Option D), acc.length + m ≤ 900 → ∃ c3' c4' c5' c6', forL (tgN 3) lb__law_ssheet_0 (intsP a m) [some (.loc 0), some (.p (mvsP ms)), some (.loc (r.length + 1)), c3, c4, c5, c6] (st s :: (r ++ [some (.lst acc)])) = some (.nx, [some (.loc 0), some (.p (mvsP ms)), some (.loc (r.length + 1)), c3', c4', c5', c6'], st s' :: (r ++ [some (.lst (acc ++ cs.map Cue.r))])) := by
  intro m
  induction m with
  | zero => intro a s hs _; exact ⟨[], s, hs, rfl, (fun i c h => by simp at h), fun r acc c3 c4 c5 c6 _ => ⟨c3, c4, c5, c6, by rw [List.map_nil, List.append_nil]; rfl⟩⟩
  | succ m ih =>
    intro a s hs hl
    obtain ⟨p, w, s1, o1, p1, p2, wt, w0, e1⟩ := ssh_a hms (k := a) (by omega) (by omega) hs
    obtain ⟨lo, hi, s2, o2, lt, ht, l0, le, e2⟩ := ssh_b o1 wt w0 (c1 := some (.p (mvsP ms)))
    obtain ⟨cs, s3, o3, cl, co, e3⟩ := ih (a + 1) s2 o2 (by omega)
    refine ⟨⟨p, lo, hi⟩ :: cs, s3, o3, by rw [List.length_cons, cl], fun i c h => ?_, fun r acc c3 c4 c5 c6 ha => ?_⟩
    · cases i with
      | zero => cases h; exact ⟨p1, by simpa using p2, lt, ht, l0, le⟩
      | succ i =>
        have := co i c (by simpa using h)
        rwa [show a + 1 + i = a + (i + 1) by omega] at this
    · obtain ⟨c5', c6', f2⟩ := e2 (some (.p (.int (a : Int)))) c6 p r acc (by omega)
      have body : lb__law_ssheet_0 [some (.loc 0), some (.p (mvsP ms)), some (.loc (r.length + 1)), some (.p (.int (a : Int))), c4, c5, c6] (st s :: (r ++ [some (.lst acc)])) = some (.nx, [some (.loc 0), some (.p (mvsP ms)), some (.loc (r.length + 1)), some (.p (.int (a : Int))), some (.p (.int p)), c5', c6'], st s2 :: (r ++ [some (.lst (acc ++ [Cue.r ⟨p, lo, hi⟩]))])) := by
        unfold lb__law_ssheet_0
        rw [e1, f2]
      obtain ⟨d3, d4, d5, d6, e⟩ := e3 r (acc ++ [Cue.r ⟨p, lo, hi⟩]) (some (.p (.int (a : Int)))) (some (.p (.int p))) c5' c6' (by rw [List.length_append]; simp; omega)
      refine ⟨d3, d4, d5, d6, ?_⟩
      rw [intsP_succ, forL_nx rfl body, e, List.append_assoc]
      rfl
structure Sh4 (w : Nat) (cs : List Cue) : Prop where
  len : cs.length = w
  ok : ∀ i c, cs[i]? = some c → Cue4 i c
theorem ssheet_ex {ms : List (List (Rat × Rat))} (hms : ∀ m ∈ ms, Mv4 m) (h4 : ms.length ≤ 4) {s : SS} (hs : s.Ok) : ∃ (cs : List Cue) (s' : SS), SS.Ok s' ∧ Sh4 ms.length cs ∧ ∀ r : Mu, m__law_ssheet [.loc 0, .p (mvsP ms)] (st s :: r) = some (.ok (.p (shR cs)), st s' :: r) := by
  obtain ⟨cs, s', o', cl, co, e⟩ := ssh_loop hms h4 ms.length 0 s hs (by omega)
  refine ⟨cs, s', o', ⟨cl, fun i c h => by have := co i c h; rwa [Nat.zero_add] at this⟩, fun r => ?_⟩
  obtain ⟨c3, c4, c5, c6, e⟩ := e r [] none none none none (by simp; omega)
  have ln : fLen [.p (mvsP ms)] (st s :: (r ++ [some (.lst [])])) = some (.p (.int (ms.length : Int)), st s :: (r ++ [some (.lst [])])) := by unfold mvsP; rw [fLen_lst, List.length_map]
  have rn : evRng1 (evBI fLen (evCons (evV 1) evNil)) [some (.loc 0), some (.p (mvsP ms)), some (.loc (r.length + 1)), none, none, none, none] (st s :: (r ++ [some (.lst [])])) = some (.ok (intsP 0 ms.length), st s :: (r ++ [some (.lst [])])) := rng_n ms.length (by
    rw [evBI_eq, evCons_eq, evV_1, bindG_ok, evNil_eq, bindG_ok, bindG_ok, ln, okm_some]) (by omega)
  have te := tup_end (δ := [some (.loc 0), some (.p (mvsP ms)), some (.loc (r.length + 1)), c3, c4, c5, c6]) (μ := st s' :: r) (xs := cs.map Cue.r) (i := 2) rfl
  rw [show (st s' :: r) ++ [some (MO.lst (cs.map Cue.r))] = st s' :: (r ++ [some (MO.lst (cs.map Cue.r))]) from rfl] at te
  rw [List.nil_append] at e
  have l0 : evLstC evNil [some (.loc 0), some (.p (mvsP ms)), none, none, none, none, none] (st s :: r) = some (.ok (.loc (r.length + 1)), st s :: (r ++ [some (.lst [])])) := by
    rw [evLstC_eq, evNil_eq, bindG_ok, toPs_nil, lstEndC_some, if_pos (show ([] : List P).length ≤ sizeLine from line_0)]
    rfl
  unfold m__law_ssheet
  rw [arF2]
  unfold sv__law_ssheet
  simp only [List.replicate, List.cons_append, List.nil_append]
  unfold lb__law_ssheet_0 at e
  rw [seqS_eq, sSet_eq, l0, bindS_ok, andThen_nx]
  simp only [List.set_cons_succ, List.set_cons_zero]
  rw [seqS_eq, sFor_eq, rn, bindS_ok, e, andThen_nx, sRet_eq, te, bindS_ok, retF_p]
  have tk : (st s' :: (r ++ [some (MO.lst (cs.map Cue.r))])).take (st s :: r).length = st s' :: r := by
    show ((st s' :: r) ++ [some (MO.lst (cs.map Cue.r))]).take (st s' :: r).length = _
    rw [List.take_left]
  rw [tk]
  rfl
/-- the sheet of k28 -/
theorem Sh4.sheet {w : Nat} {cs : List Cue} (h : Sh4 w cs) (w0 : 0 < w) (w4 : w ≤ 4) : Sheet cs := ⟨fun i c hc => by
  have k := h.ok i c hc
  exact ⟨k.p1, k.p2, k.lo.bz20 (by decide +kernel) (by decide), (k.hi.bz20 (by decide +kernel) (by decide)).mono (by decide), k.lo0, k.le⟩, by rw [h.len]; omega, by rw [h.len]; exact w0⟩
end
end Vs
namespace Vs
open PySem PySem.Spec PyProof.Rows L2
def cLo (cs : List Cue) (k : Int) : Rat := (cs[k.toNat]?.map Cue.lo).getD 0
def cHi (cs : List Cue) (k : Int) : Rat := (cs[k.toNat]?.map Cue.hi).getD 0
def cPa (cs : List Cue) (k : Int) : Int := (cs[k.toNat]?.map Cue.p).getD (-1)
def chn (cs : List Cue) : Nat → Int → List Int
  | 0, _ => []
  | f + 1, i => if 0 ≤ i ∧ i < cs.length then i :: chn cs f (cPa cs i) else []
def CH (cs : List Cue) (i : Int) : List Int := chn cs (cs.length + 1) i
def isIn (D : List Int) (k : Int) : Bool := D.any fun n => n == k
def sumF (h : Int → Rat) (D : List Int) : List Int → Rat
  | [] => 0
  | k :: U => (if isIn D k = true then 0 else h k) + sumF h D U
def Gz (cs : List Cue) (i j : Int) : Rat := sumF (cHi cs) (CH cs j) (CH cs i) + sumF (fun k => -cLo cs k) (CH cs i) (CH cs j)
section
variable {cs : List Cue}
def Gt (cs : List Cue) : Tf := fun a b => some (Gz cs a b)
end
end Vs
namespace Vs
open PySem PySem.Spec PyProof.Rows L2
section
variable {μ ν : Mu} {cs : List Cue} {N m : Nat}
theorem tbR_set {n i j : Nat} {f : Tf} {o : Option Rat} (hi : i < n) (hj : j < n) : (tbR n f).set i ((rwP n f i).set j (opR o)) = tbR n fun a b => if a = i ∧ b = j then o else f a b := by
  apply List.ext_getElem?
  intro a
  by_cases ha : a < n
  · rw [tbR_get ha]
    by_cases q : i = a
    · subst q
      rw [List.getElem?_set_self (by rw [tbR_len]; exact ha)]
      congr 1
      apply List.ext_getElem?
      intro b
      by_cases hb : b < n
      · rw [rwP_get hb]
        by_cases q2 : j = b
        · subst q2
          rw [List.getElem?_set_self (by rw [rwP_len]; exact hb)]
          simp
        · have q3 : ¬ b = j := fun z => q2 z.symm
          rw [List.getElem?_set_ne q2, rwP_get hb]
          simp [q3]
      · rw [List.getElem?_eq_none (by rw [List.length_set, rwP_len]; omega), List.getElem?_eq_none (by rw [rwP_len]; omega)]
    · have q3 : ¬ a = i := fun z => q z.symm
      rw [List.getElem?_set_ne q, tbR_get ha]
      congr 1
      apply List.ext_getElem?
      intro b
      by_cases hb : b < n
      · rw [rwP_get hb, rwP_get hb]
        simp [q3]
      · rw [List.getElem?_eq_none (by rw [rwP_len]; omega), List.getElem?_eq_none (by rw [rwP_len]; omega)]
  · rw [List.getElem?_eq_none (by rw [List.length_set, tbR_len]; omega), List.getElem?_eq_none (by rw [tbR_len]; omega)]
/-- t[i][j] = e of a live table -/
theorem live_put {n0 n l i j : Nat} {f : Tf} {ks : List Nat} {o : Option Rat} (L : Live n0 μ l (tbR n f) ks) (hi : i < n) (hj : j < n) :
    ∃ k ν, fIxD (.loc l) (.p (.int (i : Int))) μ = some (.loc k, μ) ∧ (∀ δ : Sl, setIxEnd δ μ (.loc k) (.p (.int (j : Int))) (.p (opR o)) = some (.nx, δ, ν)) ∧ Live n0 ν l (tbR n fun a b => if a = i ∧ b = j then o else f a b) ks ∧ ν.length = μ.length ∧ ∀ x, x < n0 → ν[x]? = μ[x]? := by
  obtain ⟨k, hk, hc⟩ := L.get (tbR_get hi)
  refine ⟨k, μ.set k (some (.lst ((rwP n f i).set j (opR o)))), ?_, fun δ => setIxEnd_l hc (by rw [rwP_len]; exact ixN_nat hj), ?_, List.length_set .., fun x hx => ?_⟩
  · unfold fIxD
    rw [items_live L]
    dsimp only
    rw [atI_nat (j := i) (by rw [List.getElem?_map, hk]; rfl)]
    rfl
  · rw [← tbR_set hi hj]
    exact L.set hk _
  · have := L.lo k (List.mem_of_getElem? hk)
    rw [List.getElem?_set_ne (by omega)]
end
end Vs
namespace Vs
open PySem PySem.Spec PyProof.Rows L2
open Bar (rg)
theorem nok2 : Nok 2 := ⟨by decide, by decide +kernel⟩
/-- all entries are there, over the denominator 2, and bound what B tells -/
def SbI (n m : Nat) (B : (Nat → Rat) → Prop) (f : Tf) : Prop := ∀ i j, i < n → j < n → ∃ q, f i j = some q ∧ Cz 2 m q ∧ ∀ T, B T → T i - T j ≤ q
theorem SbI.mono {n m k : Nat} {B : (Nat → Rat) → Prop} {f : Tf} (h : SbI n m B f) (e : m ≤ k) : SbI n k B f := fun i j hi hj => by
  obtain ⟨q, a, b, c⟩ := h i j hi hj
  exact ⟨q, a, b.mono e, c⟩
theorem SbI.put {n m : Nat} {B : (Nat → Rat) → Prop} {f : Tf} (h : SbI n m B f) {a b : Nat} {q : Rat} (hq : Cz 2 m q) (hb : ∀ T, B T → T a - T b ≤ q) : SbI n m B (fun i j => if i = a ∧ j = b then some q else f i j) := fun i j hi hj => by
  by_cases e : i = a ∧ j = b
  · obtain ⟨rfl, rfl⟩ := e
    exact ⟨q, if_pos ⟨rfl, rfl⟩, hq, hb⟩
  · obtain ⟨r, x, y, z⟩ := h i j hi hj
    exact ⟨r, (if_neg e).trans x, y, z⟩
section
variable {μ ν : Mu} {δ : Sl}
theorem tb_get {n0 n l i : Nat} {f : Tf} {ks : List Nat} (L : Live n0 μ l (tbR n f) ks) (hi : i < n) : ∃ kk, fIxD (.loc l) (.p (.int (i : Int))) μ = some (.loc kk, μ) ∧ ∀ j, j < n → fIx (.loc kk) (.p (.int (j : Int))) μ = some (.p (opR (f i j)), μ) := by
  obtain ⟨k, hk, hc⟩ := L.get (tbR_get hi)
  refine ⟨k, ?_, fun j hj => ?_⟩
  · unfold fIxD
    rw [items_live L]
    dsimp only
    rw [atI_nat (j := i) (by rw [List.getElem?_map, hk]; rfl)]
    rfl
  · exact LsD.ix (.inr ⟨k, rfl, hc⟩) (rwP_get hj)
theorem sb_in {n0 n m l i j k : Nat} {f : Tf} {ks : List Nat} {B : (Nat → Rat) → Prop} (L : Live n0 μ l (tbR n f) ks) (S : SbI n m B f) (hi : i < n) (hj : j < n) (hk : k < n) (hm : m ≤ 1000) {c0 c1 c5 c6 c7 c8 : Option D} : ∃ ν f',
    lb__law_sbounds_2 [c0, c1, some (.loc l), some (.p (.int (j : Int))), some (.p (.int (i : Int))), c5, c6, c7, c8, some (.p (.int (k : Int)))] μ = some (.nx, [c0, c1, some (.loc l), some (.p (.int (j : Int))), some (.p (.int (i : Int))), c5, c6, c7, c8, some (.p (.int (k : Int)))], ν) ∧ Live n0 ν l (tbR n f') ks ∧ SbI n (m + 1) B f' ∧ ν.length = μ.length ∧ ∀ x, x < n0 → ν[x]? = μ[x]? := by
  obtain ⟨ki, xi, ri⟩ := tb_get L hi
  obtain ⟨kk, xk, rk⟩ := tb_get L hk
  obtain ⟨a, a1, a2, a3⟩ := S i k hi hk
  obtain ⟨b, b1, b2, b3⟩ := S k j hk hj
  obtain ⟨c, c1', c2, c3⟩ := S i j hi hj
  have r1 := ri k hk
  have r2 := rk j hj
  have r3 := ri j hj
  rw [a1, opR_some] at r1
  rw [b1, opR_some] at r2
  rw [c1', opR_some] at r3
  have ab := a2.bz nok2 (by omega)
  have bb := b2.bz nok2 (by omega)
  have cb := c2.bz nok2 (by omega)
  have sb := (a2.add nok2 b2).bz nok2 (by omega)
  have ad := o_add' (μ := μ) ab bb (by decide)
  have ls := ev_sless (μ := μ) sb cb (by decide)
  have sum : evBin (fOwn 0 m_Ratiou_addu) (evBin fIx (evBin fIxD (evV 2) (evV 4)) (evV 9)) (evBin fIx (evBin fIxD (evV 2) (evV 9)) (evV 3)) [c0, c1, some (.loc l), some (.p (.int (j : Int))), some (.p (.int (i : Int))), c5, c6, c7, c8, some (.p (.int (k : Int)))] μ = some (.ok (.p (rat (a + b))), μ) := by
    rw [evBin_eq, evBin_eq, evBin_eq, evV_2, bindG_ok, evV_4, bindG_ok, xi, okm_some, bindG_ok, evV_9, bindG_ok, r1, okm_some, bindG_ok, evBin_eq, evBin_eq, evV_2, bindG_ok, evV_9, bindG_ok, xk, okm_some, bindG_ok, evV_3, bindG_ok, r2, okm_some, bindG_ok, ad, okm_some]
  unfold lb__law_sbounds_2
  rw [sIf_eq, evB_eq', evCall_eq, evCons_eq, sum, bindG_ok, evCons_eq, evBin_eq, evBin_eq, evV_2, bindG_ok, evV_4, bindG_ok, xi, okm_some, bindG_ok, evV_3, bindG_ok, r3, okm_some, bindG_ok, evNil_eq, bindG_ok, bindG_ok, bindG_ok, List.map_nil, List.append_nil, ls, bindG_ok, toB_bl, bindS_ok]
  by_cases q : a + b < c
  · obtain ⟨k1, ν1, p1, p2, p3, p4, p5⟩ := live_put (o := some (a + b)) (j := j) L hi hj
    rw [opR_some] at p2
    refine ⟨ν1, _, ?_, p3, (S.mono (Nat.le_succ m)).put (a2.add nok2 b2) fun T hT => ?_, p4, p5⟩
    · rw [if_pos (decide_eq_true q), sSetIx_eq, sum, bindS_ok, evBin_eq, evV_2, bindG_ok, evV_4, bindG_ok, p1, okm_some, bindS_ok, evV_3, bindS_ok, p2]
    · have := a3 T hT
      have := b3 T hT
      grind
  · exact ⟨μ, f, by rw [if_neg (by simpa using q), sNil_eq], L, S.mono (Nat.le_succ m), rfl, fun _ _ => rfl⟩
/-- the innermost loop -/
theorem sb_l3 {n0 n l i k : Nat} {ks : List Nat} {B : (Nat → Rat) → Prop} (hi : i < n) (hk : k < n) {c0 c1 c5 c6 c7 c8 : Option D} : ∀ (r a m : Nat) (f : Tf) (μ : Mu) (c3 : Option D), a + r = n → m + r ≤ 1000 → Live n0 μ l (tbR n f) ks → SbI n m B f → ∃ ν f' c3',
    forL (tgN 3) lb__law_sbounds_2 (intsP a r) [c0, c1, some (.loc l), c3, some (.p (.int (i : Int))), c5, c6, c7, c8, some (.p (.int (k : Int)))] μ = some (.nx, [c0, c1, some (.loc l), c3', some (.p (.int (i : Int))), c5, c6, c7, c8, some (.p (.int (k : Int)))], ν) ∧ Live n0 ν l (tbR n f') ks ∧ SbI n (m + r) B f' ∧ ν.length = μ.length ∧ ∀ x, x < n0 → ν[x]? = μ[x]? := by
  intro r
  induction r with
  | zero => intro a m f μ c3 _ _ L S; exact ⟨μ, f, c3, rfl, L, S, rfl, fun _ _ => rfl⟩
  | succ r ih =>
    intro a m f μ c3 ha hm L S
    obtain ⟨ν1, f1, e1, L1, S1, l1, g1⟩ := sb_in (c0 := c0) (c1 := c1) (c5 := c5) (c6 := c6) (c7 := c7) (c8 := c8) L S hi (show a < n by omega) hk (by omega)
    obtain ⟨ν2, f2, c3', e2, L2, S2, l2, g2⟩ := ih (a + 1) (m + 1) f1 ν1 (some (.p (.int (a : Int)))) (by omega) (by omega) L1 S1
    refine ⟨ν2, f2, c3', ?_, L2, S2.mono (by omega), by rw [l2, l1], fun x hx => (g2 x hx).trans (g1 x hx)⟩
    rw [intsP_succ, forL_nx rfl e1, e2]
theorem sb_l4 {n0 n l k : Nat} {ks : List Nat} {B : (Nat → Rat) → Prop} (hk : k < n) (hn : n ≤ 5) {c0 c5 c6 c7 c8 : Option D} : ∀ (r a m : Nat) (f : Tf) (μ : Mu) (c3 c4 : Option D), a + r = n → m + 5 * r ≤ 1000 → Live n0 μ l (tbR n f) ks → SbI n m B f → ∃ ν f' c3' c4',
    forL (tgN 4) lb__law_sbounds_3 (intsP a r) [c0, some (.p (.int (n : Int))), some (.loc l), c3, c4, c5, c6, c7, c8, some (.p (.int (k : Int)))] μ = some (.nx, [c0, some (.p (.int (n : Int))), some (.loc l), c3', c4', c5, c6, c7, c8, some (.p (.int (k : Int)))], ν) ∧ Live n0 ν l (tbR n f') ks ∧ SbI n (m + 5 * r) B f' ∧ ν.length = μ.length ∧ ∀ x, x < n0 → ν[x]? = μ[x]? := by
  intro r
  induction r with
  | zero => intro a m f μ c3 c4 _ _ L S; exact ⟨μ, f, c3, c4, rfl, L, S, rfl, fun _ _ => rfl⟩
  | succ r ih =>
    intro a m f μ c3 c4 ha hm L S
    obtain ⟨ν1, f1, d3, e1, L1, S1, l1, g1⟩ := sb_l3 (c0 := c0) (c1 := some (.p (.int (n : Int)))) (c5 := c5) (c6 := c6) (c7 := c7) (c8 := c8) (show a < n by omega) hk n 0 m f μ c3 (by omega) (by omega) L S
    obtain ⟨ν2, f2, c3', c4', e2, L2, S2, l2, g2⟩ := ih (a + 1) (m + 5) f1 ν1 d3 (some (.p (.int (a : Int)))) (by omega) (by omega) L1 (S1.mono (by omega))
    refine ⟨ν2, f2, c3', c4', ?_, L2, S2.mono (by omega), by rw [l2, l1], fun x hx => (g2 x hx).trans (g1 x hx)⟩
    have rn := rng_n n (e := evV 1) (δ := [c0, some (.p (.int (n : Int))), some (.loc l), c3, some (.p (.int (a : Int))), c5, c6, c7, c8, some (.p (.int (k : Int)))]) (ν := μ) rfl (by omega)
    unfold lb__law_sbounds_2 at e1
    rw [intsP_succ, forL_nx rfl (show lb__law_sbounds_3 [c0, some (.p (.int (n : Int))), some (.loc l), c3, some (.p (.int (a : Int))), c5, c6, c7, c8, some (.p (.int (k : Int)))] μ = some (.nx, [c0, some (.p (.int (n : Int))), some (.loc l), d3, some (.p (.int (a : Int))), c5, c6, c7, c8, some (.p (.int (k : Int)))], ν1) by
      unfold lb__law_sbounds_3
      rw [sFor_eq, rn, bindS_ok, e1]), e2]
theorem sb_l9 {n0 n l : Nat} {ks : List Nat} {B : (Nat → Rat) → Prop} (hn : n ≤ 5) {c0 c5 c6 c7 c8 : Option D} : ∀ (r a m : Nat) (f : Tf) (μ : Mu) (c3 c4 c9 : Option D), a + r = n → m + 25 * r ≤ 900 → Live n0 μ l (tbR n f) ks → SbI n m B f → ∃ ν f' c3' c4' c9',
    forL (tgN 9) lb__law_sbounds_4 (intsP a r) [c0, some (.p (.int (n : Int))), some (.loc l), c3, c4, c5, c6, c7, c8, c9] μ = some (.nx, [c0, some (.p (.int (n : Int))), some (.loc l), c3', c4', c5, c6, c7, c8, c9'], ν) ∧ Live n0 ν l (tbR n f') ks ∧ SbI n (m + 25 * r) B f' ∧ ν.length = μ.length ∧ ∀ x, x < n0 → ν[x]? = μ[x]? := by
  intro r
  induction r with
  | zero => intro a m f μ c3 c4 c9 _ _ L S; exact ⟨μ, f, c3, c4, c9, rfl, L, S, rfl, fun _ _ => rfl⟩
  | succ r ih =>
    intro a m f μ c3 c4 c9 ha hm L S
    obtain ⟨ν1, f1, d3, d4, e1, L1, S1, l1, g1⟩ := sb_l4 (c0 := c0) (c5 := c5) (c6 := c6) (c7 := c7) (c8 := c8) (show a < n by omega) hn n 0 m f μ c3 c4 (by omega) (by omega) L S
    obtain ⟨ν2, f2, c3', c4', c9', e2, L2, S2, l2, g2⟩ := ih (a + 1) (m + 25) f1 ν1 d3 d4 (some (.p (.int (a : Int)))) (by omega) (by omega) L1 (S1.mono (by omega))
    refine ⟨ν2, f2, c3', c4', c9', ?_, L2, S2.mono (by omega), by rw [l2, l1], fun x hx => (g2 x hx).trans (g1 x hx)⟩
    have rn := rng_n n (e := evV 1) (δ := [c0, some (.p (.int (n : Int))), some (.loc l), c3, c4, c5, c6, c7, c8, some (.p (.int (a : Int)))]) (ν := μ) rfl (by omega)
    unfold lb__law_sbounds_3 at e1
    rw [intsP_succ, forL_nx rfl (show lb__law_sbounds_4 [c0, some (.p (.int (n : Int))), some (.loc l), c3, c4, c5, c6, c7, c8, some (.p (.int (a : Int)))] μ = some (.nx, [c0, some (.p (.int (n : Int))), some (.loc l), d3, d4, c5, c6, c7, c8, some (.p (.int (a : Int)))], ν1) by
      unfold lb__law_sbounds_4
      rw [sFor_eq, rn, bindS_ok, e1]), e2]
/-- the diagonal -/
theorem sb_l0 {n0 n l : Nat} {ks : List Nat} {B : (Nat → Rat) → Prop} {c0 c1 c3 c5 c6 c7 c8 c9 : Option D} : ∀ (r a m : Nat) (f : Tf) (μ : Mu) (c4 : Option D), a + r = n → Live n0 μ l (tbR n f) ks → SbI n m B f → ∃ ν f' c4',
    forL (tgN 4) lb__law_sbounds_0 (intsP a r) [c0, c1, some (.loc l), c3, c4, c5, c6, c7, c8, c9] μ = some (.nx, [c0, c1, some (.loc l), c3, c4', c5, c6, c7, c8, c9], ν) ∧ Live n0 ν l (tbR n f') ks ∧ SbI n m B f' ∧ ν.length = μ.length ∧ ∀ x, x < n0 → ν[x]? = μ[x]? := by
  intro r
  induction r with
  | zero => intro a m f μ c4 _ L S; exact ⟨μ, f, c4, rfl, L, S, rfl, fun _ _ => rfl⟩
  | succ r ih =>
    intro a m f μ c4 ha L S
    obtain ⟨k1, ν1, p1, p2, p3, p4, p5⟩ := live_put (o := some (0 : Rat)) (j := a) L (show a < n by omega) (show a < n by omega)
    rw [opR_some] at p2
    have z : Cz 2 m (0 : Rat) := ⟨0, by rw [Rat.zero_divInt], by unfold Sz; exact Nat.two_pow_pos m⟩
    obtain ⟨ν2, f2, c4', e2, L2, S2, l2, g2⟩ := ih (a + 1) m _ ν1 (some (.p (.int (a : Int)))) (by omega) p3 (S.put z fun T _ => by grind)
    refine ⟨ν2, f2, c4', ?_, L2, S2, by rw [l2, p4], fun x hx => (g2 x hx).trans (p5 x hx)⟩
    rw [intsP_succ, forL_nx rfl (show lb__law_sbounds_0 [c0, c1, some (.loc l), c3, some (.p (.int (a : Int))), c5, c6, c7, c8, c9] μ = some (.nx, [c0, c1, some (.loc l), c3, some (.p (.int (a : Int))), c5, c6, c7, c8, c9], ν1) by
      unfold lb__law_sbounds_0
      rw [sSetIx_eq, mk0, bindS_ok, evBin_eq, evV_2, bindG_ok, evV_4, bindG_ok, p1, okm_some, bindS_ok, evV_4, bindS_ok, p2]), e2]
end
end Vs
namespace Vs
open PySem PySem.Spec PyProof.Rows L2
open Bar (rg)
def pm (w : Nat) (p : Int) : Nat := if p = -1 then w else p.toNat
/-- the times of a sheet: the time 0 is the last one -/
def BT (cs : List Cue) (T : Nat → Rat) : Prop := T cs.length = 0 ∧ ∀ i c, cs[i]? = some c → c.lo ≤ T i - T (pm cs.length c.p) ∧ T i - T (pm cs.length c.p) ≤ c.hi
theorem Tq.le2 {q : Rat} {A : Nat} (h : Tq 2 A q) : q ≤ (A : Rat) := by
  obtain ⟨_, z, e, hz⟩ := h
  have h1 : z ≤ 2 * (A : Int) := by omega
  have h2 : (z : Rat) ≤ 2 * (A : Rat) := by exact_mod_cast h1
  have e : (2 : Rat) * q = (z : Rat) := e
  grind
theorem bt_lim {cs : List Cue} {w : Nat} (S : Sh4 w cs) {T : Nat → Rat} (h : BT cs T) : ∀ i, i < cs.length → 0 ≤ T i ∧ T i ≤ 2081 * ((i : Rat) + 1) := fun i => by
  induction i using Nat.strongRecOn with
  | ind i ih =>
    intro hi
    have hc : cs[i]? = some cs[i] := List.getElem?_eq_getElem hi
    have k := S.ok i _ hc
    obtain ⟨a, b⟩ := h.2 i _ hc
    have hl := k.hi.le2
    have i0 : (0 : Rat) ≤ (i : Rat) := by exact_mod_cast Nat.zero_le i
    have c81 : ((2081 : Nat) : Rat) = 2081 := rfl
    rw [c81] at hl
    have l0 := k.lo0
    by_cases q : cs[i].p = -1
    · have e : pm cs.length cs[i].p = cs.length := if_pos q
      rw [e, h.1] at a b
      constructor <;> grind
    · have p1 := k.p1
      have p2 := k.p2
      have e : pm cs.length cs[i].p = cs[i].p.toNat := if_neg q
      obtain ⟨x, y⟩ := ih cs[i].p.toNat (by omega) (by omega)
      rw [e] at a b
      have le : (cs[i].p.toNat : Rat) + 1 ≤ (i : Rat) := by
        have : cs[i].p.toNat + 1 ≤ i := by omega
        exact_mod_cast this
      constructor <;> grind
theorem bt_far {cs : List Cue} {w : Nat} (S : Sh4 w cs) (w4 : w ≤ 4) {T : Nat → Rat} (h : BT cs T) {i j : Nat} (hi : i < cs.length + 1) (hj : j < cs.length + 1) : T i - T j ≤ ((100000 : Int) : Rat) := by
  have up : ∀ i, i < cs.length + 1 → 0 ≤ T i ∧ T i ≤ 10405 := fun i hi => by
    by_cases q : i = cs.length
    · rw [q, h.1]; constructor <;> grind
    · obtain ⟨a, b⟩ := bt_lim S h i (by omega)
      have : (i : Rat) ≤ 4 := by
        have l := S.len
        have : i ≤ 4 := by omega
        exact_mod_cast this
      exact ⟨a, by grind⟩
  have e : ((100000 : Int) : Rat) = 100000 := rfl
  rw [e]
  have a := (up i hi).2
  have b := (up j hj).1
  grind
section
variable {μ ν : Mu} {δ : Sl}
theorem mod_int {i j : Int} (h : j ≠ 0) : fMod (.p (.int i)) (.p (.int j)) μ = some (.p (.int (i.fmod j)), μ) := by simp [h]
theorem pm_mod {w : Nat} {p : Int} (h1 : -1 ≤ p) (h2 : p < w) : p.fmod ((w : Int) + 1) = ((pm w p : Nat) : Int) := by
  unfold pm
  by_cases q : p = -1
  · rw [if_pos q, q, Int.fmod_eq_emod_of_nonneg _ (by omega)]
    have : (-1 : Int) % ((w : Int) + 1) = (w : Int) := by
      rw [show (-1 : Int) = (w : Int) + ((w : Int) + 1) * (-1) by omega, Int.add_mul_emod_self_left, Int.emod_eq_of_lt (by omega) (by omega)]
    exact this
  · rw [if_neg q, Int.fmod_eq_emod_of_nonneg _ (by omega), Int.emod_eq_of_lt (by omega) (by omega)]
    omega
theorem cz_tq {q : Rat} {A m : Nat} (h : Tq 2 A q) (hm : 2 * A < 2 ^ m) : Cz 2 m q := by
  obtain ⟨z, e, hz⟩ := h.eq
  exact ⟨z, e, Nat.lt_of_le_of_lt hz hm⟩
/-- the entries of a cue -/
theorem sb_cue {n0 w l a m : Nat} {cs : List Cue} {ks : List Nat} {f : Tf} (S : Sh4 w cs) (h : a < cs.length) (L : Live n0 μ l (tbR (cs.length + 1) f) ks) (I : SbI (cs.length + 1) m (BT cs) f) (hm : 20 ≤ m) {c3 c4 c6 c7 c8 c9 : Option D} : ∃ ν f' c6' c7' c8',
    lb__law_sbounds_1 [some (.p (shR cs)), some (.p (.int ((cs.length : Int) + 1))), some (.loc l), c3, c4, some (.p (.int (a : Int))), c6, c7, c8, c9] μ = some (.nx, [some (.p (shR cs)), some (.p (.int ((cs.length : Int) + 1))), some (.loc l), c3, c4, some (.p (.int (a : Int))), c6', c7', c8', c9], ν) ∧ Live n0 ν l (tbR (cs.length + 1) f') ks ∧ SbI (cs.length + 1) m (BT cs) f' ∧ ν.length = μ.length ∧ ∀ x, x < n0 → ν[x]? = μ[x]? := by
  have hc : cs[a]? = some cs[a] := List.getElem?_eq_getElem h
  have k := S.ok a _ hc
  generalize cs[a] = c at *
  have ix : fIx (.p (shR cs)) (.p (.int (a : Int))) μ = some (.p c.r, μ) := by
    unfold shR
    rw [tix (f := Cue.r) ⟨0, 0, 0⟩ h, List.getD_eq_getElem?_getD, hc]; rfl
  have pl : pm cs.length c.p < cs.length + 1 := by
    have := k.p2
    have := k.p1
    unfold pm
    split <;> omega
  have md := fun κ : Mu => mod_int (μ := κ) (i := c.p) (j := (cs.length : Int) + 1) (by omega)
  rw [pm_mod k.p1 (by have := k.p2; omega)] at md
  have iint : ∀ κ : Mu, fInt [.p (.int c.p)] κ = some (.p (.int c.p), κ) := fun κ => rfl
  obtain ⟨k1, ν1, p1, p2, p3, p4, p5⟩ := live_put (o := some c.hi) (j := pm cs.length c.p) L (show a < cs.length + 1 by omega) pl
  rw [opR_some] at p2
  obtain ⟨k2, ν2, r1, r2, r3, r4, r5⟩ := live_put (o := some (-c.lo)) (i := pm cs.length c.p) (j := a) p3 pl (by omega)
  rw [opR_some] at r2
  have ng := fun κ : Mu => o_neg' (μ := κ) (k.lo.bz20 (by decide +kernel) (by decide)) (by decide)
  have czh : Cz 2 m c.hi := (cz_tq k.hi (m := 20) (by decide)).mono hm
  have czl : Cz 2 m (-c.lo) := ((cz_tq k.lo (m := 20) (by decide)).neg nok2).mono hm
  refine ⟨ν2, _, some (.p (.int c.p)), some (.p (rat c.lo)), some (.p (rat c.hi)), ?_, r3, (I.put czh fun T hT => (hT.2 a c hc).2).put czl fun T hT => ?_, by rw [r4, p4], fun x hx => (r5 x hx).trans (p5 x hx)⟩
  · have a1 : asgEnd (tgT [6, 7, 8]) [some (.p (shR cs)), some (.p (.int ((cs.length : Int) + 1))), some (.loc l), c3, c4, some (.p (.int (a : Int))), c6, c7, c8, c9] μ (.p c.r) = some (.nx, [some (.p (shR cs)), some (.p (.int ((cs.length : Int) + 1))), some (.loc l), c3, c4, some (.p (.int (a : Int))), some (.p (.int c.p)), some (.p (rat c.lo)), some (.p (rat c.hi)), c9], μ) := rfl
    have me : ∀ κ : Mu, evBin fMod (evBI fInt (evCons (evV 6) evNil)) (evV 1) [some (.p (shR cs)), some (.p (.int ((cs.length : Int) + 1))), some (.loc l), c3, c4, some (.p (.int (a : Int))), some (.p (.int c.p)), some (.p (rat c.lo)), some (.p (rat c.hi)), c9] κ = some (.ok (.p (.int ((pm cs.length c.p : Nat) : Int))), κ) := fun κ => by
      rw [evBin_eq, evBI_eq, evCons_eq, evV_6, bindG_ok, evNil_eq, bindG_ok, bindG_ok, iint, okm_some, bindG_ok, evV_1, bindG_ok, md, okm_some]
    unfold lb__law_sbounds_1
    rw [seqS_eq, sAsgT_eq, evBin_eq, evV_0, bindG_ok, evV_5, bindG_ok, ix, okm_some, bindS_ok, a1, andThen_nx, seqS_eq, sSetIx_eq, evV_8, bindS_ok, evBin_eq, evV_2, bindG_ok, evV_5, bindG_ok, p1, okm_some, bindS_ok, me, bindS_ok, p2, andThen_nx, sSetIx_eq, evUn_eq, evV_7, bindG_ok, ng, okm_some, bindS_ok, evBin_eq, evV_2, bindG_ok, me, bindG_ok, r1, okm_some, bindS_ok, evV_5, bindS_ok, r2]
  · have := (hT.2 a c hc).1
    grind
theorem sb_l1 {n0 w l m : Nat} {cs : List Cue} {ks : List Nat} (S : Sh4 w cs) (hm : 20 ≤ m) {c3 c4 c9 : Option D} : ∀ (r a : Nat) (f : Tf) (μ : Mu) (c5 c6 c7 c8 : Option D), a + r = cs.length → Live n0 μ l (tbR (cs.length + 1) f) ks → SbI (cs.length + 1) m (BT cs) f → ∃ ν f' c5' c6' c7' c8',
    forL (tgN 5) lb__law_sbounds_1 (intsP a r) [some (.p (shR cs)), some (.p (.int ((cs.length : Int) + 1))), some (.loc l), c3, c4, c5, c6, c7, c8, c9] μ = some (.nx, [some (.p (shR cs)), some (.p (.int ((cs.length : Int) + 1))), some (.loc l), c3, c4, c5', c6', c7', c8', c9], ν) ∧ Live n0 ν l (tbR (cs.length + 1) f') ks ∧ SbI (cs.length + 1) m (BT cs) f' ∧ ν.length = μ.length ∧ ∀ x, x < n0 → ν[x]? = μ[x]? := by
  intro r
  induction r with
  | zero => intro a f μ c5 c6 c7 c8 _ L I; exact ⟨μ, f, c5, c6, c7, c8, rfl, L, I, rfl, fun _ _ => rfl⟩
  | succ r ih =>
    intro a f μ c5 c6 c7 c8 ha L I
    obtain ⟨ν1, f1, d6, d7, d8, e1, L1, I1, l1, g1⟩ := sb_cue (c3 := c3) (c4 := c4) (c6 := c6) (c7 := c7) (c8 := c8) (c9 := c9) S (show a < cs.length by omega) L I hm
    obtain ⟨ν2, f2, d5', d6', d7', d8', e2, L2, I2, l2, g2⟩ := ih (a + 1) f1 ν1 (some (.p (.int (a : Int)))) d6 d7 d8 (by omega) L1 I1
    refine ⟨ν2, f2, d5', d6', d7', d8', ?_, L2, I2, by rw [l2, l1], fun x hx => (g2 x hx).trans (g1 x hx)⟩
    rw [intsP_succ, forL_nx rfl e1, e2]
end
end Vs
namespace Vs
open PySem PySem.Spec PyProof.Rows L2
open Bar (rg)
section
variable {μ ν : Mu} {δ : Sl}
theorem ev_sbounds {w : Nat} {cs : List Cue} (S : Sh4 w cs) (w4 : w ≤ 4) : ∃ μ' l ks f, m__law_sbounds [.p (shR cs)] μ = some (.ok (.loc l), μ') ∧ Ext μ μ' ∧ Live μ.length μ' l (tbR (cs.length + 1) f) ks ∧ SbI (cs.length + 1) 200 (BT cs) f := by
  have hl := S.len
  have en : ((cs.length + 1 : Nat) : Int) = (cs.length : Int) + 1 := by omega
  have ln : fLen [.p (shR cs)] μ = some (.p (.int (cs.length : Int)), μ) := by
    show some (D.p (.int ((cs.map Cue.r).length : Int)), μ) = _
    rw [List.length_map]
  have hn : ∀ (ξ : Mu) (δ : Sl), δ[1]? = some (some (.p (.int ((cs.length : Int) + 1)))) → evRng1 (evV 1) δ ξ = some (.ok (intsP 0 (cs.length + 1)), ξ) := fun ξ δ hd => rng_n (cs.length + 1) (by rw [evV_at hd, en]) (by omega)
  obtain ⟨μ1, l1, ks1, e2, x2, L2⟩ := lcD_map (it := evUpI (evRng1 (evV 1))) (ts := tgUp (tgN 4)) (vs := [4]) (gd := none) (ν := μ) (μ := μ)
    (δ := [some (.p (shR cs)), some (.p (.int ((cs.length : Int) + 1))), none, none, none, none, none, none, none, none]) (e := evLcC (evRng1 (evV 1)) (tgN 3) evTrue (evMake 0 2 m_Ratiou_initu [.int 1] (evCons (evC (.int 100000)) evNil)) [3])
    (as := List.range (cs.length + 1)) (fun (a : Nat) => .one (.p (.int (a : Int)))) (fun a => rwP (cs.length + 1) (fun _ _ => some ((100000 : Int) : Rat)) a) (by rw [evUpI_eq, hn μ _ rfl, bindG_ok, intsP_map, List.map_map]; rfl) trivial (fun a ha => ⟨_, rfl, fun ξ _ => by
      have := lcC_map (δ := [some (.p (shR cs)), some (.p (.int ((cs.length : Int) + 1))), none, none, some (.p (.int (a : Int))), none, none, none, none, none]) (μ := ξ) (ν := ξ) (it := evRng1 (evV 1)) (ts := tgN 3) (e := evMake 0 2 m_Ratiou_initu [.int 1] (evCons (evC (.int 100000)) evNil)) (vs := [3]) (as := List.range (cs.length + 1)) (fun (k : Nat) => P.int (k : Int)) (fun _ => rat ((100000 : Int) : Rat)) (by rw [hn ξ _ rfl, intsP_map]) (fun k hk => ⟨_, rfl, fun κ => mkC 100000⟩) (Nat.le_of_lt (line_k (by rw [List.length_range]; omega)))
      exact this⟩) (Nat.le_of_lt (line_k (by rw [List.length_range]; omega)))
  have L2 : Live μ.length μ1 l1 (tbR (cs.length + 1) fun _ _ => some ((100000 : Int) : Rat)) ks1 := L2
  have I2 : SbI (cs.length + 1) 20 (BT cs) fun _ _ => some ((100000 : Int) : Rat) := fun i j hi hj => ⟨_, rfl, cz_tq (A := 100000) (tq_int (by decide) (by decide)) (by decide), fun T hT => bt_far S w4 hT hi hj⟩
  obtain ⟨μ3, f3, c4, e3, L3, I3, s3, g3⟩ := sb_l0 (c0 := some (.p (shR cs))) (c1 := some (.p (.int ((cs.length : Int) + 1)))) (c3 := none) (c5 := none) (c6 := none) (c7 := none) (c8 := none) (c9 := none) (cs.length + 1) 0 20 _ μ1 none (by omega) L2 I2
  obtain ⟨μ4, f4, c5, c6, c7, c8, e4, L4, I4, s4, g4⟩ := sb_l1 (c3 := none) (c4 := c4) (c9 := none) S (Nat.le_refl 20) cs.length 0 f3 μ3 none none none none (by omega) L3 I3
  obtain ⟨μ5, f5, d3, d4, d9, e5, L5, I5, s5, g5⟩ := sb_l9 (n := cs.length + 1) (by omega) (c0 := some (.p (shR cs))) (c5 := c5) (c6 := c6) (c7 := c7) (c8 := c8) (cs.length + 1) 0 20 f4 μ4 none c4 none (by omega) (by omega) L4 I4
  rw [en] at e5
  have h3 := hn μ1 [some (.p (shR cs)), some (.p (.int ((cs.length : Int) + 1))), some (.loc l1), none, none, none, none, none, none, none] rfl
  have h5 := hn μ4 [some (.p (shR cs)), some (.p (.int ((cs.length : Int) + 1))), some (.loc l1), none, c4, c5, c6, c7, c8, none] rfl
  have ln3 : fLen [.p (shR cs)] μ3 = some (.p (.int (cs.length : Int)), μ3) := by
    show some (D.p (.int ((cs.map Cue.r).length : Int)), μ3) = _
    rw [List.length_map]
  have h4 : evRng1 (evBI fLen (evCons (evV 0) evNil)) [some (.p (shR cs)), some (.p (.int ((cs.length : Int) + 1))), some (.loc l1), none, c4, none, none, none, none, none] μ3 = some (.ok (intsP 0 cs.length), μ3) := rng_n cs.length (by rw [evBI_eq, evCons_eq, evV_0, bindG_ok, evNil_eq, bindG_ok, bindG_ok, ln3, okm_some]) (by omega)
  refine ⟨μ5, l1, ks1, f5, ?_, ⟨by rw [s5, s4, s3]; exact x2.len, fun j hj => by rw [g5 j hj, g4 j hj, g3 j hj]; exact x2.get j hj⟩, L5, I5.mono (by omega)⟩
  unfold lb__law_sbounds_0 at e3
  unfold lb__law_sbounds_1 at e4
  unfold lb__law_sbounds_4 at e5
  unfold m__law_sbounds
  show bodySemK 10 sv__law_sbounds [.p (shR cs)] μ = _
  rw [bodySemK_eq]
  unfold sv__law_sbounds
  show retK ((seqS _ _) [some (.p (shR cs)), none, none, none, none, none, none, none, none, none] μ) = _
  rw [seqS_eq, sSet_eq, evBin_eq, evBI_eq, evCons_eq, evV_0, bindG_ok, evNil_eq, bindG_ok, bindG_ok, ln, okm_some, bindG_ok, evC_eq, bindG_ok, add_ints, okm_some, bindS_ok, andThen_nx]
  simp only [List.set_cons_succ, List.set_cons_zero]
  rw [seqS_eq, sSet_eq, e2, bindS_ok, andThen_nx]
  simp only [List.set_cons_succ, List.set_cons_zero]
  rw [seqS_eq, sFor_eq, h3, bindS_ok, e3, andThen_nx, seqS_eq, sFor_eq, h4, bindS_ok, e4, andThen_nx, seqS_eq, sFor_eq, h5, bindS_ok, e5, andThen_nx, sRet_eq, evV_2, bindS_ok, retK_ret]
end
end Vs
namespace Vs
open PySem PySem.Spec PyProof.Rows L2
open Bar (rg)
section
variable {μ ν : Mu} {δ : Sl}
theorem ev_fits {n0 n l m cue : Nat} {f : Tf} {ks : List Nat} {B : (Nat → Rat) → Prop} {a : At} (L : Live n0 μ l (tbR n f) ks) (S : SbI n m B f) (hm : m ≤ 1000) (ha : a.1 < n) (hc : cue < n) (hv : Mv4 a.2) : ∃ b : Bool, m__law_fits [.loc l, .p (actR a), .p (.int (cue : Int))] μ = some (.ok (.p (.bl b)), μ) ∧ (b = true → ∀ T, B T → T a.1 + finT 0 a.2 ≤ T cue) := by
  obtain ⟨ki, xi, ri⟩ := tb_get L ha
  obtain ⟨q, q1, q2, q3⟩ := S a.1 cue ha hc
  have r1 := ri cue hc
  rw [q1, opR_some] at r1
  have qb := q2.bz nok2 (by omega)
  have lb : Bz 20 (finT 0 a.2) := hv.len.bz20 (by decide +kernel) (by decide)
  have ln := ev_slength (μ := μ) hv.good
  have ng := o_neg' (μ := μ) lb (by decide)
  have ls := ev_sless (μ := μ) lb.neg qb (by decide)
  have i0 : fIx (.p (actR a)) (.p (.int 0)) μ = some (.p (.int (a.1 : Int)), μ) := rfl
  have i1 : fIx (.p (actR a)) (.p (.int 1)) μ = some (.p (mvR a.2), μ) := rfl
  refine ⟨!decide (-(finT 0 a.2) < q), ?_, fun hb T hT => ?_⟩
  · unfold m__law_fits
    rw [arF3]
    unfold sv__law_fits
    simp only [List.replicate, Nat.sub_self, List.cons_append, List.nil_append]
    rw [sRet_eq, evUn_eq, evCall_eq, evCons_eq, evUn_eq, evCall_eq, evCons_eq, evBin_eq, evV_1, bindG_ok, evC_eq, bindG_ok, i1, okm_some, bindG_ok, evNil_eq, bindG_ok, bindG_ok, List.map_nil, List.append_nil, ln, bindG_ok, ng, okm_some, bindG_ok, evCons_eq, evBin_eq, evBin_eq, evV_0, bindG_ok, evBin_eq, evV_1, bindG_ok, evC_eq, bindG_ok, i0, okm_some, bindG_ok, xi, okm_some, bindG_ok, evV_2, bindG_ok, r1, okm_some, bindG_ok, evNil_eq, bindG_ok, bindG_ok, bindG_ok, List.append_nil, ls, bindG_ok, fNot_bl, okm_some, bindS_ok, retF_p, List.take_length]
  · have h : ¬ -(finT 0 a.2) < q := by simpa using hb
    have := q3 T hT
    grind
theorem d3_i {v : Int} (h0 : 0 ≤ v) (h4 : v < 4) : ∃ a : Int, 0 < a ∧ a ≤ 3 ∧ ∀ κ : Mu, fIx (.p (.lst [.int 1, .int 1, .int 2, .int 3])) (.p (.int v)) κ = some (.p (.int a), κ) := by
  have : v = 0 ∨ v = 1 ∨ v = 2 ∨ v = 3 := by omega
  rcases this with rfl | rfl | rfl | rfl
  · exact ⟨1, by decide, by decide, fun _ => rfl⟩
  · exact ⟨1, by decide, by decide, fun _ => rfl⟩
  · exact ⟨2, by decide, by decide, fun _ => rfl⟩
  · exact ⟨3, by decide, by decide, fun _ => rfl⟩
theorem snum_ex {s : SS} (hs : s.Ok) : ∃ q s', SS.Ok s' ∧ Bz 2 q ∧ ∀ r : Mu, m__law_snumber [.loc 0] (st s :: r) = some (.ok (.p (rat q)), st s' :: r) := by
  obtain ⟨x, s1, o1, x0, x1, e1⟩ := draw0 13 hs
  obtain ⟨y, s2, o2, y0, y1, e2⟩ := draw0 4 o1
  obtain ⟨d, d0, d3, id⟩ := d3_i y0 y1
  refine ⟨Rat.divInt (x - 6) d, s2, o2, bz_of (k := 4) (by omega) (by decide) (sz_lt 12 (by omega)) (by decide) (sz_lt 3 (by omega)), fun r => ?_⟩
  have mk := mkD (δ := [some (.loc 0)]) (μ := st s :: r) (ν := st s2 :: r) (n := x - 6) (d := d) (a := evCons (evBin fSub (evCall m__law_draw [] (evCons (evV 0) (evCons (evC (.int 13)) evNil))) (evC (.int 6))) (evCons (evBin fIx (evLst (evCons (evC (.int 1)) (evCons (evC (.int 1)) (evCons (evC (.int 2)) (evCons (evC (.int 3)) evNil))))) (evCall m__law_draw [] (evCons (evV 0) (evCons (evC (.int 4)) evNil)))) evNil)) (by
    rw [evCons_eq, evBin_eq, drC e1 rfl, bindG_ok, evC_eq, bindG_ok, sub_ints, okm_some, bindG_ok, evCons_eq, evBin_eq, four_l, bindG_ok, drC e2 rfl, bindG_ok, id, okm_some, bindG_ok, evNil_eq, bindG_ok, bindG_ok]) (by omega) (sz_lt 3 (by omega))
  unfold m__law_snumber
  rw [arF1]
  unfold sv__law_snumber
  simp only [List.replicate, Nat.sub_self, List.cons_append, List.nil_append]
  rw [sRet_eq, mk, bindS_ok, retF_p, show (st s :: r).length = (st s2 :: r).length from rfl, List.take_length]
/-- a weight -/
theorem wgt_ex {s : SS} (hs : s.Ok) : ∃ q s', SS.Ok s' ∧ Bz 2 q ∧ ∀ (r : Mu) (δ : Sl), δ[0]? = some (some (.loc 0)) → evMake 0 2 m_Ratiou_initu [] (evCons (evBin fSub (evCall m__law_draw [] (evCons (evV 0) (evCons (evC (.int 5)) evNil))) (evC (.int 2))) (evCons (evBin fAdd (evC (.int 1)) (evCall m__law_draw [] (evCons (evV 0) (evCons (evC (.int 3)) evNil)))) evNil)) δ (st s :: r) = some (.ok (.p (rat q)), st s' :: r) := by
  obtain ⟨x, s1, o1, x0, x1, e1⟩ := draw0 5 hs
  obtain ⟨y, s2, o2, y0, y1, e2⟩ := draw0 3 o1
  refine ⟨Rat.divInt (x - 2) (1 + y), s2, o2, bz_of (k := 4) (by omega) (by decide) (sz_lt 4 (by omega)) (by decide) (sz_lt 3 (by omega)), fun r δ hd => ?_⟩
  refine mkD ?_ (by omega) (sz_lt 3 (by omega))
  rw [evCons_eq, evBin_eq, drC e1 hd, bindG_ok, evC_eq, bindG_ok, sub_ints, okm_some, bindG_ok, evCons_eq, drC1 e2 hd, bindG_ok, evNil_eq, bindG_ok, bindG_ok]
end
end Vs
namespace Vs
open PySem PySem.Spec PyProof.Rows L2
open Bar (rg)
section
variable {μ ν : Mu} {δ : Sl}
theorem drN {s s' : SS} {n x : Nat} {i : Nat} {r : Mu} (e : ∀ r : Mu, m__law_draw [.loc 0, .p (.int (n : Int))] (st s :: r) = some (.ok (.p (.int (x : Int))), st s' :: r)) (hd : δ[0]? = some (some (.loc 0))) (hi : δ[i]? = some (some (.p (.int (n : Int))))) : evCall m__law_draw [] (evCons (evV 0) (evCons (evV i) evNil)) δ (st s :: r) = some (.ok (.p (.int (x : Int))), st s' :: r) := by
  rw [evCall_eq, evCons_eq, evV_at hd, bindG_ok, evCons_eq, evV_at hi, bindG_ok, evNil_eq, bindG_ok, bindG_ok, bindG_ok, List.map_nil, List.append_nil, e]
theorem two_rats {a b : Ev} {x y : Rat} {ν ξ : Mu} (h1 : a δ μ = some (.ok (.p (rat x)), ν)) (h2 : b δ ν = some (.ok (.p (rat y)), ξ)) : evLst (evCons a (evCons b evNil)) δ μ = some (.ok (.p (.lst [rat x, rat y])), ξ) := by
  rw [evLst_eq, evCons_eq, h1, bindG_ok, evCons_eq, h2, bindG_ok, evNil_eq, bindG_ok, bindG_ok, bindG_ok, toPs_cons, toPs_cons, toPs_nil, consP_some, consP_some, lstEnd_some, if_pos (Nat.le_of_lt (line_k (by simp)))]
theorem weigh_ex {n : Nat} (n2 : 2 ≤ n) (n4 : n ≤ 4) {s : SS} (hs : s.Ok) : ∃ (a b : Nat) (u w lim : Rat) (s' : SS), SS.Ok s' ∧ a < n ∧ b < n ∧ Bz 20 u ∧ Bz 20 w ∧ Bz 20 lim ∧ ∀ r : Mu, m__law_weigh [.loc 0, .p (.int (n : Int))] (st s :: r) = some (.ok (.p (Rl.weigh a u b w lim).r), st s' :: r) := by
  obtain ⟨a, s1, o1, a1, e1⟩ := draw0n (n := n) hs (by omega) (by omega)
  obtain ⟨x, s2, o2, x1, e2⟩ := draw0n (n := n - 1) o1 (by omega) (by omega)
  obtain ⟨xs, s4, o4', xb, xl, e4⟩ := lcd (B := fun q : Rat => Bz 2 q) rat (ts := tgN 5) (vs := [5]) (e := evMake 0 2 m_Ratiou_initu [] (evCons (evBin fSub (evCall m__law_draw [] (evCons (evV 0) (evCons (evC (.int 5)) evNil))) (evC (.int 2))) (evCons (evBin fAdd (evC (.int 1)) (evCall m__law_draw [] (evCons (evV 0) (evCons (evC (.int 3)) evNil)))) evNil))) (fun δ1 => δ1[0]? = some (some (.loc 0))) (fun s hs => by
    obtain ⟨q, s1, o1, b1, e1⟩ := wgt_ex hs
    exact ⟨q, s1, o1, b1, fun δ1 r hd => e1 r δ1 hd⟩) 2 (by decide) o2
  obtain ⟨u, w, rfl⟩ : ∃ u w, xs = [u, w] := by
    match xs, xl with
    | [u, w], _ => exact ⟨u, w, rfl⟩
  have ub := xb u (by simp)
  have wb := xb w (by simp)
  obtain ⟨y, s5, o5, y0, y2, e5⟩ := draw0 2 o4'
  obtain ⟨p, s6, o6, pb, e6⟩ := snum_ex o5
  obtain ⟨q, s7, o7, qb, e7⟩ := snum_ex o6
  have mb : ((a : Int) + 1 + (x : Int)).fmod (n : Int) = (((a + 1 + x) % n : Nat) : Int) := by
    rw [Int.fmod_eq_emod_of_nonneg _ (by omega), Int.natCast_emod, show ((a + 1 + x : Nat) : Int) = (a : Int) + 1 + (x : Int) by omega]
  have md := fun κ : Mu => mod_int (μ := κ) (i := (a : Int) + 1 + (x : Int)) (j := (n : Int)) (by omega)
  rw [mb] at md
  have bl : (a + 1 + x) % n < n := Nat.mod_lt _ (by omega)
  generalize (a + 1 + x) % n = b at *
  have iint : ∀ (i : Int) (κ : Mu), fInt [.p (.int i)] κ = some (.p (.int i), κ) := fun _ _ => rfl
  have ad := fun κ : Mu => o_add' (μ := κ) pb qb (by decide)
  have pre : ∀ (X : SEv) (r : Mu), seqS (sSet 2 (evCall m__law_draw [] (evCons (evV 0) (evCons (evV 1) evNil)))) (seqS (sSet 3 (evBin fMod (evBI fInt (evCons (evBin fAdd (evBin fAdd (evV 2) (evC (.int 1))) (evCall m__law_draw [] (evCons (evV 0) (evCons (evBin fSub (evV 1) (evC (.int 1))) evNil)))) evNil)) (evV 1))) X) [some (.loc 0), some (.p (.int (n : Int))), none, none, none, none] (st s :: r) = X [some (.loc 0), some (.p (.int (n : Int))), some (.p (.int (a : Int))), some (.p (.int (b : Int))), none, none] (st s2 :: r) := fun X r => by
    have e2' := e2 r
    rw [show ((n - 1 : Nat) : Int) = (n : Int) - 1 by omega] at e2'
    rw [seqS_eq, sSet_eq, drN e1 rfl rfl, bindS_ok, andThen_nx]
    simp only [List.set_cons_succ, List.set_cons_zero]
    rw [seqS_eq, sSet_eq, evBin_eq, evBI_eq, evCons_eq, evBin_eq, evBin_eq, evV_2, bindG_ok, evC_eq, bindG_ok, add_ints, okm_some, bindG_ok, evCall_eq, evCons_eq, evV_0, bindG_ok, evCons_eq, evBin_eq, evV_1, bindG_ok, evC_eq, bindG_ok, sub_ints, okm_some, bindG_ok, evNil_eq, bindG_ok, bindG_ok, bindG_ok, List.map_nil, List.append_nil, e2', bindG_ok, add_ints, okm_some, bindG_ok, evNil_eq, bindG_ok, bindG_ok, iint, okm_some, bindG_ok, evV_1, bindG_ok, md, okm_some, bindS_ok, andThen_nx]
    rfl
  have ev6 : ∀ (δ : Sl) (r : Mu), δ[0]? = some (some (.loc 0)) → evBin (fOwn 0 m_Ratiou_addu) (evCall m__law_snumber [] (evCons (evV 0) evNil)) (evCall m__law_snumber [] (evCons (evV 0) evNil)) δ (st s5 :: r) = some (.ok (.p (rat (p + q))), st s7 :: r) := fun δ r hd => by
    rw [evBin_eq, evCall_eq, evCons_eq, evV_at hd, bindG_ok, evNil_eq, bindG_ok, bindG_ok, List.map_nil, List.append_nil, e6, bindG_ok, evCall_eq, evCons_eq, evV_at hd, bindG_ok, evNil_eq, bindG_ok, bindG_ok, List.map_nil, List.append_nil, e7, bindG_ok, ad, okm_some]
  have last : ∀ (u w : Rat) (r : Mu), evTup (evCons (evC (.str "weigh")) (evCons (evV 2) (evCons (evBin fIx (evV 4) (evC (.int 0))) (evCons (evV 3) (evCons (evBin fIx (evV 4) (evC (.int 1))) (evCons (evBin (fOwn 0 m_Ratiou_addu) (evCall m__law_snumber [] (evCons (evV 0) evNil)) (evCall m__law_snumber [] (evCons (evV 0) evNil))) evNil)))))) [some (.loc 0), some (.p (.int (n : Int))), some (.p (.int (a : Int))), some (.p (.int (b : Int))), some (.p (.lst [rat u, rat w])), none] (st s5 :: r) = some (.ok (.p (Rl.weigh a u b w (p + q)).r), st s7 :: r) := fun u w r => by
    have i0 : fIx (.p (.lst [rat u, rat w])) (.p (.int 0)) (st s5 :: r) = some (.p (rat u), st s5 :: r) := rfl
    have i1 : fIx (.p (.lst [rat u, rat w])) (.p (.int 1)) (st s5 :: r) = some (.p (rat w), st s5 :: r) := rfl
    rw [evTup_eq, evCons_eq, evC_eq, bindG_ok, evCons_eq, evV_2, bindG_ok, evCons_eq, evBin_eq, evV_4, bindG_ok, evC_eq, bindG_ok, i0, okm_some, bindG_ok, evCons_eq, evV_3, bindG_ok, evCons_eq, evBin_eq, evV_4, bindG_ok, evC_eq, bindG_ok, i1, okm_some, bindG_ok, evCons_eq, ev6 _ r rfl, bindG_ok, evNil_eq, bindG_ok, bindG_ok, bindG_ok, bindG_ok, bindG_ok, bindG_ok, bindG_ok, toPs_cons, toPs_cons, toPs_cons, toPs_cons, toPs_cons, toPs_cons, toPs_nil, consP_some, consP_some, consP_some, consP_some, consP_some, consP_some, tupEnd_some, if_pos (Nat.le_of_lt (line_k (by simp)))]
    rfl
  have lcE : ∀ r : Mu, evLc (evRng1 (evC (.int 2))) (tgN 5) evTrue (evMake 0 2 m_Ratiou_initu [] (evCons (evBin fSub (evCall m__law_draw [] (evCons (evV 0) (evCons (evC (.int 5)) evNil))) (evC (.int 2))) (evCons (evBin fAdd (evC (.int 1)) (evCall m__law_draw [] (evCons (evV 0) (evCons (evC (.int 3)) evNil)))) evNil))) [5] [some (.loc 0), some (.p (.int (n : Int))), some (.p (.int (a : Int))), some (.p (.int (b : Int))), none, none] (st s2 :: r) = some (.ok (.p (.lst [rat u, rat w])), st s4 :: r) := fun r =>
    (e4 [some (.loc 0), some (.p (.int (n : Int))), some (.p (.int (a : Int))), some (.p (.int (b : Int))), none, none] (evRng1 (evC (.int 2))) (intsP 0 2) r (rng_n 2 (e := evC (.int 2)) rfl (by decide)) (by unfold intsP; simp) (fun x hx => ⟨_, rfl, rfl⟩)).1
  have o1b : Bz 2 ((1 : Int) : Rat) := (int_bz (by decide)).mono (by decide)
  have o2b : Bz 2 ((-1 : Int) : Rat) := (int_bz (by decide)).mono (by decide)
  have pm2 : ∀ (δ : Sl) (κ : Mu), evLst (evCons (evMake 0 2 m_Ratiou_initu [.int 1] (evCons (evUn fNeg (evC (.int 1))) evNil)) (evCons (evMake 0 2 m_Ratiou_initu [.int 1] (evCons (evC (.int 1)) evNil)) evNil)) δ κ = some (.ok (.p (.lst [rat ((-1 : Int) : Rat), rat ((1 : Int) : Rat)])), κ) := fun δ κ => two_rats (mkI (by rw [evCons_eq, evUn_eq, evC_eq, bindG_ok, show fNeg (.p (.int 1)) κ = some (.p (.int (-1)), κ) from rfl, okm_some, bindG_ok, evNil_eq, bindG_ok])) (mkC 1)
  have tk : ∀ r : Mu, (st s7 :: r).take (st s :: r).length = st s7 :: r := fun r => by
    rw [show (st s :: r).length = (st s7 :: r).length from rfl, List.take_length]
  by_cases z : y = 0
  · refine ⟨a, b, ((-1 : Int) : Rat), ((1 : Int) : Rat), p + q, s7, o7, a1, bl, o2b.mono (by decide), o1b.mono (by decide), (pb.add qb).mono (by decide), fun r => ?_⟩
    unfold m__law_weigh
    rw [arF2]
    unfold sv__law_weigh
    simp only [List.replicate, List.cons_append, List.nil_append]
    rw [pre, seqS_eq, sSet_eq, lcE, bindS_ok, andThen_nx]
    simp only [List.set_cons_succ, List.set_cons_zero]
    rw [seqS_eq, sIf_eq, evB_eq', evBin_eq, drC e5 rfl, bindG_ok, evC_eq, bindG_ok, eq_int, okm_some, bindG_ok, toB_bl, bindS_ok, if_pos (decide_eq_true z), sSet_eq, pm2, bindS_ok, andThen_nx]
    simp only [List.set_cons_succ, List.set_cons_zero]
    rw [sRet_eq, last, bindS_ok, retF_p, tk]
  · refine ⟨a, b, u, w, p + q, s7, o7, a1, bl, ub.mono (by decide), wb.mono (by decide), (pb.add qb).mono (by decide), fun r => ?_⟩
    unfold m__law_weigh
    rw [arF2]
    unfold sv__law_weigh
    simp only [List.replicate, List.cons_append, List.nil_append]
    rw [pre, seqS_eq, sSet_eq, lcE, bindS_ok, andThen_nx]
    simp only [List.set_cons_succ, List.set_cons_zero]
    rw [seqS_eq, sIf_eq, evB_eq', evBin_eq, drC e5 rfl, bindG_ok, evC_eq, bindG_ok, eq_int, okm_some, bindG_ok, toB_bl, bindS_ok, if_neg (by simpa using z), sNil_eq, andThen_nx, sRet_eq, last, bindS_ok, retF_p, tk]
end
end Vs
namespace Vs
open PySem PySem.Spec PyProof.Rows L2
open Bar (rg)
theorem Live.st {n0 : Nat} {a b : Option MO} {r : Mu} {l : Nat} {Rs : List (List P)} {ks : List Nat} (L : Live n0 (a :: r) l Rs ks) (h : 1 ≤ n0) : Live n0 (b :: r) l Rs ks := by
  have g : ∀ k, 1 ≤ k → (b :: r)[k]? = (a :: r)[k]? := fun k hk => by
    cases k with
    | zero => omega
    | succ k => rfl
  exact ⟨L.len, L.pw, L.lo, L.hi, L.l0, by rw [g _ (Nat.le_trans h L.l0)]; exact L.at', fun i k R h1 h2 => by
    rw [g k (Nat.le_trans h (L.lo k (List.mem_of_getElem? h1)))]
    exact L.row i k R h1 h2⟩
def prP (x : Nat × Nat) : P := .tup [.int (x.1 : Int), .int (x.2 : Int)]
def prsP (ps : List (Nat × Nat)) : P := .lst (ps.map prP)
def PrOk (w : Nat) (ps : List (Nat × Nat)) : Prop := ∀ x ∈ ps, x.1 < w ∧ x.2 < w
section
variable {μ ν : Mu} {δ : Sl}
theorem le_int {i j : Int} : fLe (.p (.int i)) (.p (.int j)) μ = some (.p (.bl (decide (i ≤ j))), μ) := by simp
theorem len_tb {n0 n l : Nat} {f : Tf} {ks : List Nat} (L : Live n0 μ l (tbR n f) ks) : fLenD [.loc l] μ = some (.p (.int (n : Int)), μ) := by
  unfold fLenD
  dsimp only
  rw [items_live L]
  dsimp only
  rw [List.length_map, L.len, tbR_len]
theorem rng_tb {n0 w l : Nat} {f : Tf} {ks : List Nat} (L : Live n0 μ l (tbR (w + 1) f) ks) (hw : w < 900) {δ : Sl} (h2 : δ[2]? = some (some (.loc l))) : evRng1 (evBin fSub (evBI fLenD (evCons (evV 2) evNil)) (evC (.int 1))) δ μ = some (.ok (intsP 0 w), μ) := rng_n w (by
  rw [evBin_eq, evBI_eq, evCons_eq, evV_at h2, bindG_ok, evNil_eq, bindG_ok, bindG_ok, len_tb L, okm_some, bindG_ok, evC_eq, bindG_ok, sub_ints, okm_some]
  rw [show ((w + 1 : Nat) : Int) - 1 = (w : Int) by omega]) (by omega)
/-- one row of the table -/
theorem zn_row {n0 w l m i : Nat} {f : Tf} {ks : List Nat} {B : (Nat → Rat) → Prop} (L : Live n0 μ l (tbR (w + 1) f) ks) (S : SbI (w + 1) m B f) (hw : w < 900) (hi : i < w) {c0 c1 c5 c6 : Option D} {ps : List (Nat × Nat)} (hp : PrOk w ps) (hl : ps.length + w ≤ 900) : ∃ ps', PrOk w ps' ∧ ps'.length ≤ ps.length + w ∧ ps.length ≤ ps'.length ∧
    lb__law_zone_0 [c0, c1, some (.loc l), some (.p (prsP ps)), some (.p (.int (i : Int))), c5, c6] μ = some (.nx, [c0, c1, some (.loc l), some (.p (prsP ps')), some (.p (.int (i : Int))), c5, c6], μ) := by
  have q : ∀ j, j < w → ∃ q, f i j = some q := fun j hj => by
    obtain ⟨q, h, _⟩ := S i j (by omega) (by omega)
    exact ⟨q, h⟩
  have lf := lc_filt (δ := [c0, c1, some (.loc l), some (.p (prsP ps)), some (.p (.int (i : Int))), c5, c6]) (μ := μ) (ν := μ) (it := evRng1 (evBin fSub (evBI fLenD (evCons (evV 2) evNil)) (evC (.int 1)))) (ts := tgN 5) (t := tAndV' (evB (evBin fNe (evV 4) (evV 5))) (evB (evBin fLe (evUn (fFld 0 0) (evBin fIx (evBin fIxD (evV 2) (evV 4)) (evV 5))) (evC (.int 0))))) (e := evTup (evCons (evV 4) (evCons (evV 5) evNil))) (vs := [5]) (as := List.range w) (fun (j : Nat) => P.int (j : Int)) (fun (j : Nat) => prP (i, j)) (fun (j : Nat) => !decide ((i : Int) = (j : Int)) && decide (((f i j).getD 0).num ≤ 0)) (by rw [rng_tb L hw rfl, intsP_map]) (fun j hj => ⟨_, rfl, fun ξ ex => by
      have hj := List.mem_range.mp hj
      obtain ⟨v, hv⟩ := q j hj
      obtain ⟨kk, x1, x2⟩ := tb_get (L.ext ex) (show i < w + 1 by omega)
      have r1 := x2 j (by omega)
      rw [hv, opR_some] at r1
      constructor
      · show tAndV' (evB (evBin fNe (evV 4) (evV 5))) (evB (evBin fLe (evUn (fFld 0 0) (evBin fIx (evBin fIxD (evV 2) (evV 4)) (evV 5))) (evC (.int 0)))) [c0, c1, some (.loc l), some (.p (prsP ps)), some (.p (.int (i : Int))), some (.p (.int (j : Int))), c6] ξ = _
        rw [tAndV_eq, evB_eq', evBin_eq, evV_4, bindG_ok, evV_5, bindG_ok, ne_int, okm_some, bindG_ok, toB_bl, bindG_ok, hv]
        cases decide ((i : Int) = (j : Int)) with
        | true => rfl
        | false =>
          rw [if_pos (by decide), evB_eq', evBin_eq, evUn_eq, evBin_eq, evBin_eq, evV_2, bindG_ok, evV_4, bindG_ok, x1, okm_some, bindG_ok, evV_5, bindG_ok, r1, okm_some, bindG_ok, ev_fld0, okm_some, bindG_ok, evC_eq, bindG_ok, le_int, okm_some, bindG_ok, toB_bl]
          rfl
      · show evTup (evCons (evV 4) (evCons (evV 5) evNil)) [c0, c1, some (.loc l), some (.p (prsP ps)), some (.p (.int (i : Int))), some (.p (.int (j : Int))), c6] ξ = _
        rw [evTup_eq, evCons_eq, evV_4, bindG_ok, evCons_eq, evV_5, bindG_ok, evNil_eq, bindG_ok, bindG_ok, bindG_ok, toPs_cons, toPs_cons, toPs_nil, consP_some, consP_some, tup2]
        rfl⟩) (Nat.le_of_lt (line_k (by rw [List.length_range]; omega)))
  generalize hN : (List.range w).filter (fun (j : Nat) => !decide ((i : Int) = (j : Int)) && decide (((f i j).getD 0).num ≤ 0)) = N at *
  have nl : N.length ≤ w := by
    rw [← hN]
    refine Nat.le_trans (List.length_filter_le _ _) (by rw [List.length_range]; exact Nat.le_refl _)
  have nm : ∀ j ∈ N, j < w := fun j hj => by
    rw [← hN] at hj
    exact List.mem_range.mp (List.mem_filter.mp hj).1
  refine ⟨ps ++ N.map fun j => (i, j), fun x hx => ?_, by rw [List.length_append, List.length_map]; omega, by rw [List.length_append]; omega, ?_⟩
  · rcases List.mem_append.mp hx with h | h
    · exact hp x h
    · obtain ⟨j, hj, rfl⟩ := List.mem_map.mp h
      exact ⟨hi, nm j hj⟩
  · have ct : fCatL (.p (prsP ps)) (.p (.lst (N.map fun j => prP (i, j)))) μ = some (.p (prsP (ps ++ N.map fun j => (i, j))), μ) := by
      unfold prsP
      rw [fCatL_p (Nat.le_of_lt (line_k (by simp; omega))), List.map_append, List.map_map]
      rfl
    unfold lb__law_zone_0
    rw [sSet_eq, evBin_eq, evV_3, bindG_ok, lf, bindG_ok, ct, okm_some, bindS_ok]
    rfl
theorem zn_loop {n0 w l m : Nat} {f : Tf} {ks : List Nat} {B : (Nat → Rat) → Prop} (L : Live n0 μ l (tbR (w + 1) f) ks) (S : SbI (w + 1) m B f) (hw : w ≤ 4) {c0 c1 c5 c6 : Option D} : ∀ (r a : Nat) (ps : List (Nat × Nat)) (c4 : Option D), a + r = w → PrOk w ps → ps.length + 4 * r ≤ 100 → ∃ ps' c4', PrOk w ps' ∧ ps'.length ≤ 100 ∧ ps.length ≤ ps'.length ∧
    forL (tgN 4) lb__law_zone_0 (intsP a r) [c0, c1, some (.loc l), some (.p (prsP ps)), c4, c5, c6] μ = some (.nx, [c0, c1, some (.loc l), some (.p (prsP ps')), c4', c5, c6], μ) := by
  intro r
  induction r with
  | zero => intro a ps c4 _ hp hl; exact ⟨ps, c4, hp, by omega, Nat.le_refl _, rfl⟩
  | succ r ih =>
    intro a ps c4 ha hp hl
    obtain ⟨p1, h1, h2, h3, e1⟩ := zn_row L S (by omega) (show a < w by omega) hp (by omega) (c0 := c0) (c1 := c1) (c5 := c5) (c6 := c6)
    obtain ⟨p2, c4', g1, g2, g3, e2⟩ := ih (a + 1) p1 (some (.p (.int (a : Int)))) (by omega) h1 (by omega)
    refine ⟨p2, c4', g1, g2, by omega, ?_⟩
    rw [intsP_succ, forL_nx rfl e1, e2]
end
end Vs
namespace Vs
open PySem PySem.Spec PyProof.Rows L2
open Bar (rg)
section
variable {μ ν : Mu} {δ : Sl}
theorem pr_back {ps : List (Nat × Nat)} {d : Nat} (h : d < ps.length) : ∃ x ∈ ps, ∀ κ : Mu, fIx (.p (prsP ps)) (.p (.int (-1 - (d : Int)))) κ = some (.p (prP x), κ) := by
  have hi : ps.length - 1 - d < ps.length := by omega
  refine ⟨ps[ps.length - 1 - d], List.getElem_mem hi, fun κ => ?_⟩
  have ix : ixN (ps.map prP).length (-1 - (d : Int)) = some (ps.length - 1 - d) := by
    rw [List.length_map]
    unfold ixN
    rw [if_neg (by omega), if_pos (by omega)]
    congr 1
    omega
  have : atI (ps.map prP) (-1 - (d : Int)) = some (prP ps[ps.length - 1 - d]) := by
    unfold atI
    rw [ix]
    show (ps.map prP)[ps.length - 1 - d]? = _
    rw [List.getElem?_map, List.getElem?_eq_getElem hi]; rfl
  unfold prsP
  rw [fIx_lstp, this]; rfl
theorem zone_ex {w l m n : Nat} {f : Tf} {ks : List Nat} {B : (Nat → Rat) → Prop} {s : SS} {r : Mu} (L : Live 1 (st s :: r) l (tbR (w + 1) f) ks) (S : SbI (w + 1) m B f) (w1 : 1 ≤ w) (w4 : w ≤ 4) (n2 : 2 ≤ n) (n4 : n ≤ 4) (hs : s.Ok) : ∃ (a i j : Nat) (low high : Rat) (s' : SS), SS.Ok s' ∧ a < n ∧ i < w ∧ j < w ∧ Bz 20 low ∧ Bz 20 high ∧ m__law_zone [.loc 0, .p (.int (n : Int)), .loc l] (st s :: r) = some (.ok (.p (Rl.zone a low high i j).r), st s' :: r) := by
  have r0 := rng_tb L (by omega) (δ := [some (.loc 0), some (.p (.int (n : Int))), some (.loc l), none, none, none, none]) rfl
  have lc := lc_map (δ := [some (.loc 0), some (.p (.int (n : Int))), some (.loc l), none, none, none, none]) (μ := st s :: r) (ν := st s :: r) (it := evRng1 (evBin fSub (evBI fLenD (evCons (evV 2) evNil)) (evC (.int 1)))) (ts := tgN 4) (e := evTup (evCons (evV 4) (evCons (evV 4) evNil))) (vs := [4]) (as := List.range w) (fun (j : Nat) => P.int (j : Int)) (fun (j : Nat) => prP (j, j)) (by rw [r0, intsP_map]) (fun j hj => ⟨_, rfl, fun ξ => by
    show evTup (evCons (evV 4) (evCons (evV 4) evNil)) [some (.loc 0), some (.p (.int (n : Int))), some (.loc l), none, some (.p (.int (j : Int))), none, none] ξ = _
    rw [evTup_eq, evCons_eq, evV_4, bindG_ok, evCons_eq, evV_4, bindG_ok, evNil_eq, bindG_ok, bindG_ok, bindG_ok, toPs_cons, toPs_cons, toPs_nil, consP_some, consP_some, tup2]
    rfl⟩) (Nat.le_of_lt (line_k (by rw [List.length_range]; omega)))
  have e0 : P.lst ((List.range w).map fun (j : Nat) => prP (j, j)) = prsP ((List.range w).map fun j => (j, j)) := by unfold prsP; rw [List.map_map]; rfl
  rw [e0] at lc
  obtain ⟨ps, c4, hp, pl, p0, e1⟩ := zn_loop L S w4 (c0 := some (.loc 0)) (c1 := some (.p (.int (n : Int)))) (c5 := none) (c6 := none) w 0 ((List.range w).map fun j => (j, j)) none (by omega) (fun x hx => by
    obtain ⟨j, hj, rfl⟩ := List.mem_map.mp hx
    have := List.mem_range.mp hj
    exact ⟨this, this⟩) (by rw [List.length_map, List.length_range]; omega)
  rw [List.length_map, List.length_range] at p0
  obtain ⟨d, s1, o1, d1, e2⟩ := draw0n (n := ps.length) hs (by omega) (by omega)
  obtain ⟨x, hx, ix⟩ := pr_back d1
  obtain ⟨i, j⟩ := x
  obtain ⟨hi, hj⟩ := hp _ hx
  obtain ⟨q, s2, o2, qb, e3⟩ := snum_ex o1
  obtain ⟨a, s3, o3, a1, e4⟩ := draw0n (n := n) o2 (by omega) (by omega)
  obtain ⟨y, s4, o4', y0, y6, e5⟩ := draw0 6 o3
  have yb : Bz 3 ((1 + y : Int) : Rat) := ⟨by decide, by rw [Rat.num_intCast]; exact sz_lt 6 (by omega), by rw [Rat.den_intCast]; exact sz_lt 1 (by decide)⟩
  have ad := fun κ : Mu => o_add' (μ := κ) qb yb (by decide)
  have ln : fLen [.p (prsP ps)] (st s :: r) = some (.p (.int (ps.length : Int)), st s :: r) := by unfold prsP; rw [fLen_lst, List.length_map]
  have n1 : fNeg (.p (.int 1)) (st s :: r) = some (.p (.int (-1)), st s :: r) := rfl
  refine ⟨a, i, j, q, q + ((1 + y : Int) : Rat), s4, o4', a1, hi, hj, qb.mono (by decide), (qb.add yb).mono (by decide), ?_⟩
  unfold m__law_zone
  rw [arF3]
  unfold sv__law_zone
  simp only [List.replicate, List.cons_append, List.nil_append]
  unfold lb__law_zone_0 at e1
  rw [seqS_eq, sSet_eq, lc, bindS_ok, andThen_nx]
  simp only [List.set_cons_succ, List.set_cons_zero]
  have r1 := rng_tb L (by omega) (δ := [some (.loc 0), some (.p (.int (n : Int))), some (.loc l), some (.p (prsP ((List.range w).map fun j => (j, j)))), none, none, none]) rfl
  rw [seqS_eq, sFor_eq, r1, bindS_ok, e1, andThen_nx]
  have dr : evCall m__law_draw [] (evCons (evV 0) (evCons (evBI fLen (evCons (evV 3) evNil)) evNil)) [some (.loc 0), some (.p (.int (n : Int))), some (.loc l), some (.p (prsP ps)), c4, none, none] (st s :: r) = some (.ok (.p (.int (d : Int))), st s1 :: r) := by
    rw [evCall_eq, evCons_eq, evV_0, bindG_ok, evCons_eq, evBI_eq, evCons_eq, evV_3, bindG_ok, evNil_eq, bindG_ok, bindG_ok, ln, okm_some, bindG_ok, evNil_eq, bindG_ok, bindG_ok, bindG_ok, List.map_nil, List.append_nil, e2]
  have a2 : asgEnd (tgT [4, 5]) [some (.loc 0), some (.p (.int (n : Int))), some (.loc l), some (.p (prsP ps)), c4, none, none] (st s1 :: r) (.p (prP (i, j))) = some (.nx, [some (.loc 0), some (.p (.int (n : Int))), some (.loc l), some (.p (prsP ps)), some (.p (.int (i : Int))), some (.p (.int (j : Int))), none], st s1 :: r) := rfl
  rw [seqS_eq, sAsgT_eq, evBin_eq, evV_3, bindG_ok, evBin_eq, evUn_eq, evC_eq, bindG_ok, n1, okm_some, bindG_ok, dr, bindG_ok, sub_ints, okm_some, bindG_ok, ix, okm_some, bindS_ok, a2, andThen_nx]
  rw [seqS_eq, sSet_eq, evCall_eq, evCons_eq, evV_0, bindG_ok, evNil_eq, bindG_ok, bindG_ok, List.map_nil, List.append_nil, e3, bindS_ok, andThen_nx]
  simp only [List.set_cons_succ, List.set_cons_zero]
  have mk := mkI (δ := [some (.loc 0), some (.p (.int (n : Int))), some (.loc l), some (.p (prsP ps)), some (.p (.int (i : Int))), some (.p (.int (j : Int))), some (.p (rat q))]) (μ := st s3 :: r) (ν := st s4 :: r) (n := 1 + y) (a := evCons (evBin fAdd (evC (.int 1)) (evCall m__law_draw [] (evCons (evV 0) (evCons (evC (.int 6)) evNil)))) evNil) (by
    rw [evCons_eq, drC1 e5 rfl, bindG_ok, evNil_eq, bindG_ok])
  rw [sRet_eq, evTup_eq, evCons_eq, evC_eq, bindG_ok, evCons_eq, drN e4 rfl rfl, bindG_ok, evCons_eq, evV_6, bindG_ok, evCons_eq, evBin_eq, evV_6, bindG_ok, mk, bindG_ok, ad, okm_some, bindG_ok, evCons_eq, evV_4, bindG_ok, evCons_eq, evV_5, bindG_ok, evNil_eq, bindG_ok, bindG_ok, bindG_ok, bindG_ok, bindG_ok, bindG_ok, bindG_ok, toPs_cons, toPs_cons, toPs_cons, toPs_cons, toPs_cons, toPs_cons, toPs_nil, consP_some, consP_some, consP_some, consP_some, consP_some, consP_some, tupEnd_some, if_pos (Nat.le_of_lt (line_k (by simp))), bindS_ok, retF_p, show (st s :: r).length = (st s4 :: r).length from rfl, List.take_length]
  rfl
end
end Vs
namespace Vs
open PySem PySem.Spec PyProof.Rows L2
open Bar (rg)
section
variable {μ ν : Mu} {δ : Sl}
theorem lag_i {v : Int} (h0 : 0 ≤ v) (h4 : v < 5) : ∃ a : Int, a.natAbs ≤ 9 ∧ 0 ≤ a ∧ ∀ κ : Mu, fIx (.p (.lst [.int 0, .int 1, .int 2, .int 3, .int 9])) (.p (.int v)) κ = some (.p (.int a), κ) := by
  have : v = 0 ∨ v = 1 ∨ v = 2 ∨ v = 3 ∨ v = 4 := by omega
  rcases this with rfl | rfl | rfl | rfl | rfl
  · exact ⟨0, by decide, by decide, fun _ => rfl⟩
  · exact ⟨1, by decide, by decide, fun _ => rfl⟩
  · exact ⟨2, by decide, by decide, fun _ => rfl⟩
  · exact ⟨3, by decide, by decide, fun _ => rfl⟩
  · exact ⟨9, by decide, by decide, fun _ => rfl⟩
theorem five_l (δ : Sl) (κ : Mu) : evLst (evCons (evC (.int 0)) (evCons (evC (.int 1)) (evCons (evC (.int 2)) (evCons (evC (.int 3)) (evCons (evC (.int 9)) evNil))))) δ κ = some (.ok (.p (.lst [.int 0, .int 1, .int 2, .int 3, .int 9])), κ) := by
  rw [evLst_eq, evCons_eq, evC_eq, bindG_ok, evCons_eq, evC_eq, bindG_ok, evCons_eq, evC_eq, bindG_ok, evCons_eq, evC_eq, bindG_ok, evCons_eq, evC_eq, bindG_ok, evNil_eq, bindG_ok, bindG_ok, bindG_ok, bindG_ok, bindG_ok, bindG_ok, toPs_cons, toPs_cons, toPs_cons, toPs_cons, toPs_cons, toPs_nil, consP_some, consP_some, consP_some, consP_some, consP_some, lstEnd_some, if_pos (Nat.le_of_lt (line_k (by simp)))]
theorem str1 (x : Str) (δ : Sl) (κ : Mu) : evTup (evCons (evC (.str x)) evNil) δ κ = some (.ok (.p (.tup [.str x])), κ) := by
  rw [evTup_eq, evCons_eq, evC_eq, bindG_ok, evNil_eq, bindG_ok, bindG_ok, toPs_cons, toPs_nil, consP_some, tupEnd_some, if_pos (Nat.le_of_lt (line_k (by simp)))]
theorem sfault_ex {sheet rules : P} {ms : List Mc} (h0 : 0 < ms.length) (h4 : ms.length ≤ 4) {s : SS} (hs : s.Ok) (many : Int) : ∃ (F : Ft) (s' : SS), SS.Ok s' ∧ (∀ k lag, F = .seize k lag → k < ms.length ∧ 0 ≤ lag ∧ Tq 2 9 lag) ∧ ∀ r : Mu, m__law_sfault [.loc 0, .p (shwP sheet ms rules), .p (.int many)] (st s :: r) = some (.ok (.p F.r), st s' :: r) := by
  have pre : ∀ (F : Ft) (s' : SS), (∀ r : Mu, retF (st s :: r).length (sv__law_sfault [some (.loc 0), some (.p (shwP sheet ms rules)), some (.p (.int many)), none] (st s :: r)) = some (.ok (.p F.r), st s' :: r)) → ∀ r : Mu, m__law_sfault [.loc 0, .p (shwP sheet ms rules), .p (.int many)] (st s :: r) = some (.ok (.p F.r), st s' :: r) := fun F s' h r => by
    unfold m__law_sfault
    rw [arF3]
    simp only [List.replicate, List.cons_append, List.nil_append]
    exact h r
  by_cases q0 : many = 0
  · refine ⟨.non, s, hs, (fun k lag h => by cases h), pre .non s fun r => ?_⟩
    unfold sv__law_sfault
    rw [seqS_eq, sIf_eq, evB_eq', evBin_eq, evV_2, bindG_ok, evC_eq, bindG_ok, eq_int, okm_some, bindG_ok, toB_bl, bindS_ok, if_pos (decide_eq_true q0), sRet_eq, str1, bindS_ok, andThen_ret, retF_p, List.take_length]
    rfl
  · by_cases q1 : many = 1
    · refine ⟨.stop, s, hs, (fun k lag h => by cases h), pre .stop s fun r => ?_⟩
      unfold sv__law_sfault
      rw [seqS_eq, sIf_eq, evB_eq', evBin_eq, evV_2, bindG_ok, evC_eq, bindG_ok, eq_int, okm_some, bindG_ok, toB_bl, bindS_ok, if_neg (by simpa using q0), sNil_eq, andThen_nx, seqS_eq, sIf_eq, evB_eq', evBin_eq, evV_2, bindG_ok, evC_eq, bindG_ok, eq_int, okm_some, bindG_ok, toB_bl, bindS_ok, if_pos (decide_eq_true q1), sRet_eq, str1, bindS_ok, andThen_ret, retF_p, List.take_length]
      rfl
    · obtain ⟨x, s1, o1, x0, x5, e1⟩ := draw0 5 hs
      obtain ⟨a, a9, a0, ia⟩ := lag_i x0 x5
      obtain ⟨k, s2, o2, k1, e2⟩ := draw0n (n := ms.length) o1 h0 (by omega)
      obtain ⟨y, s3, o3, y0, y2, e3⟩ := draw0 2 o2
      have hy : y = 0 ∨ y = 1 := by omega
      refine ⟨.seize k (Rat.divInt a (1 + y)), s3, o3, (fun k' lag h => by
        cases h
        exact ⟨k1, Rat.divInt_nonneg a0 (by omega), o4 (by omega) (by rcases hy with rfl | rfl <;> decide) a9⟩), pre _ s3 fun r => ?_⟩
      have i1 : fIx (.p (shwP sheet ms rules)) (.p (.int 1)) (st s1 :: r) = some (.p (.tup (ms.map Mc.r)), st s1 :: r) := rfl
      have ln : fLen [.p (.tup (ms.map Mc.r))] (st s1 :: r) = some (.p (.int (ms.length : Int)), st s1 :: r) := by
        show some (D.p (.int ((ms.map Mc.r).length : Int)), st s1 :: r) = _
        rw [List.length_map]
      have mk := mkD (δ := [some (.loc 0), some (.p (shwP sheet ms rules)), some (.p (.int many)), some (.p (.int a))]) (μ := st s2 :: r) (ν := st s3 :: r) (n := a) (d := 1 + y) (a := evCons (evV 3) (evCons (evBin fAdd (evC (.int 1)) (evCall m__law_draw [] (evCons (evV 0) (evCons (evC (.int 2)) evNil)))) evNil)) (by
        rw [evCons_eq, evV_3, bindG_ok, evCons_eq, drC1 e3 rfl, bindG_ok, evNil_eq, bindG_ok, bindG_ok]) (by omega) (sz_lt 2 (by omega))
      unfold sv__law_sfault
      rw [seqS_eq, sIf_eq, evB_eq', evBin_eq, evV_2, bindG_ok, evC_eq, bindG_ok, eq_int, okm_some, bindG_ok, toB_bl, bindS_ok, if_neg (by simpa using q0), sNil_eq, andThen_nx, seqS_eq, sIf_eq, evB_eq', evBin_eq, evV_2, bindG_ok, evC_eq, bindG_ok, eq_int, okm_some, bindG_ok, toB_bl, bindS_ok, if_neg (by simpa using q1), sNil_eq, andThen_nx, seqS_eq, sSet_eq, evBin_eq, five_l, bindG_ok, drC e1 rfl, bindG_ok, ia, okm_some, bindS_ok, andThen_nx]
      simp only [List.set_cons_succ, List.set_cons_zero]
      rw [sRet_eq, evTup_eq, evCons_eq, evC_eq, bindG_ok, evCons_eq, evCall_eq, evCons_eq, evV_0, bindG_ok, evCons_eq, evBI_eq, evCons_eq, evBin_eq, evV_1, bindG_ok, evC_eq, bindG_ok, i1, okm_some, bindG_ok, evNil_eq, bindG_ok, bindG_ok, ln, okm_some, bindG_ok, evNil_eq, bindG_ok, bindG_ok, bindG_ok, List.map_nil, List.append_nil, e2, bindG_ok, evCons_eq, mk, bindG_ok, evNil_eq, bindG_ok, bindG_ok, bindG_ok, bindG_ok, toPs_cons, toPs_cons, toPs_cons, toPs_nil, consP_some, consP_some, consP_some, tup3, bindS_ok, retF_p, show (st s :: r).length = (st s3 :: r).length from rfl, List.take_length]
      rfl
end
end Vs
namespace Vs
open PySem PySem.Spec PyProof.Rows L2
open Bar (rg)
/-- the times of the first cues -/
structure Tm4 (cs : List Cue) (ts : List Rat) : Prop where
  tq : ∀ (i : Nat) (t : Rat), ts[i]? = some t → Tq 8 (18500 * (i + 1)) t
  ok : ∀ (i : Nat) (c : Cue) (t : Rat), cs[i]? = some c → ts[i]? = some t → c.lo ≤ wt ts c.p t ∧ wt ts c.p t ≤ c.hi
theorem bf_app {ts us : List Rat} {p : Int} (h : p.toNat < ts.length) : bf (ts ++ us) p = bf ts p := by
  unfold bf
  rw [List.getD_eq_getElem?_getD, List.getD_eq_getElem?_getD, List.getElem?_append_left h]
theorem wt_app {ts us : List Rat} {p : Int} {t : Rat} (h : p = -1 ∨ p.toNat < ts.length) : wt (ts ++ us) p t = wt ts p t := by
  unfold wt
  rcases h with h | h
  · rw [if_pos h, if_pos h]
  · rw [bf_app h]
section
variable {μ ν : Mu} {δ : Sl}
theorem stm_loop {w : Nat} {cs : List Cue} (S : Sh4 w cs) (w4 : w ≤ 4) {c1 : Option D} : ∀ (L : List Cue) (ts : List Rat) (s : SS), s.Ok → cs.drop ts.length = L → ts.length ≤ cs.length → Tm4 cs ts → ∃ (ts' : List Rat) (s' : SS), SS.Ok s' ∧ ts'.length = cs.length ∧ Tm4 cs ts' ∧
    ∀ (r : Mu) (c3 c4 c5 c6 : Option D), ∃ c3' c4' c5' c6', forL (tgT [3, 4, 5]) lb__law_stimes_0 (L.map Cue.r) [some (.loc 0), c1, some (.loc (r.length + 1)), c3, c4, c5, c6] (st s :: (r ++ [some (.lst (ts.map rat))])) = some (.nx, [some (.loc 0), c1, some (.loc (r.length + 1)), c3', c4', c5', c6'], st s' :: (r ++ [some (.lst (ts'.map rat))])) := by
  intro L
  induction L with
  | nil =>
    intro ts s hs hL hl T
    have : cs.length ≤ ts.length := List.drop_eq_nil_iff.mp hL
    exact ⟨ts, s, hs, by omega, T, fun r c3 c4 c5 c6 => ⟨c3, c4, c5, c6, rfl⟩⟩
  | cons c L ih =>
    intro ts s hs hL hl T
    have lt : ts.length < cs.length := by
      by_cases q : ts.length < cs.length
      · exact q
      · rw [List.drop_eq_nil_of_le (by omega)] at hL; cases hL
    have hc : cs[ts.length]? = some c := by
      have := List.drop_eq_getElem_cons lt
      rw [hL] at this
      rw [List.getElem?_eq_getElem lt]
      exact congrArg some (List.cons.inj this).1.symm
    have hL' : cs.drop (ts.length + 1) = L := by
      have := List.drop_eq_getElem_cons lt
      rw [hL] at this
      exact (List.cons.inj this).2.symm
    have k := S.ok _ _ hc
    have sl := S.len
    obtain ⟨x, s1, o1, x0, x5, e1⟩ := draw0 5 hs
    have ft : Tq 4 4 (Rat.divInt x 4) := tq_div (by decide) (by decide) ⟨1, by decide⟩ (by omega)
    have f0 : 0 ≤ Rat.divInt x 4 := Rat.divInt_nonneg x0 (by decide)
    have f1 : Rat.divInt x 4 ≤ 1 := by
      have : x = 0 ∨ x = 1 ∨ x = 2 ∨ x = 3 ∨ x = 4 := by omega
      rcases this with rfl | rfl | rfl | rfl | rfl <;> decide +kernel
    have fb : Bz 20 (Rat.divInt x 4) := ft.bz20 (by decide +kernel) (by decide)
    have lob : Bz 20 c.lo := k.lo.bz20 (by decide +kernel) (by decide)
    have hib : Bz 20 c.hi := k.hi.bz20 (by decide +kernel) (by decide)
    have dt : Tq 2 4102 (c.hi - c.lo) := by
      have := (k.hi.add k.lo.neg).mono (B := 4102) (by decide)
      rwa [show c.hi + -c.lo = c.hi - c.lo by grind] at this
    have d0 : 0 ≤ c.hi - c.lo := by have := k.le; grind
    have wq : Tq 8 18500 (c.lo + (c.hi - c.lo) * Rat.divInt x 4) := ((k.lo.up 4 (by decide)).add (dt.mul ft)).mono (B := 18500) (by decide)
    have wlo : c.lo ≤ c.lo + (c.hi - c.lo) * Rat.divInt x 4 := by have := Rat.mul_nonneg d0 f0; grind
    have whi : c.lo + (c.hi - c.lo) * Rat.divInt x 4 ≤ c.hi := by
      have := Rat.mul_nonneg d0 (show 0 ≤ 1 - Rat.divInt x 4 by grind)
      grind
    have o2 := fun κ : Mu => o_sub' (μ := κ) hib lob (by decide)
    have o3 := fun κ : Mu => o_mul' (μ := κ) (hib.sub lob) fb (by decide)
    have o4' := fun κ : Mu => o_add' (μ := κ) lob ((hib.sub lob).mul fb) (by decide)
    generalize hV : c.lo + (c.hi - c.lo) * Rat.divInt x 4 = v at *
    have vb : Bz 20 v := wq.bz20 (by decide +kernel) (by decide)
    have pc : c.p = -1 ∨ c.p.toNat < ts.length := by
      have := k.p1
      have := k.p2
      omega
    -- the time of this cue
    obtain ⟨t, tq, tw, te⟩ : ∃ t : Rat, Tq 8 (18500 * (ts.length + 1)) t ∧ wt ts c.p t = v ∧ ∀ (X : SEv) (c3 c4 c5 : Option D) (r : Mu), c3 = some (.p (.int c.p)) → seqS (sIf (evB (evBin fGe (evV 3) (evC (.int 0)))) (sSet 6 (evBin (fOwn 0 m_Ratiou_addu) (evV 6) (evBin fIx (evV 2) (evV 3)))) sNil) X [some (.loc 0), c1, some (.loc (r.length + 1)), c3, c4, c5, some (.p (rat v))] (st s1 :: (r ++ [some (.lst (ts.map rat))])) = X [some (.loc 0), c1, some (.loc (r.length + 1)), c3, c4, c5, some (.p (rat t))] (st s1 :: (r ++ [some (.lst (ts.map rat))])) := by
      by_cases q : c.p = -1
      · refine ⟨v, wq.mono (by omega), by unfold wt; rw [if_pos q], fun X c3 c4 c5 r h3 => ?_⟩
        subst h3
        rw [seqS_eq, sIf_eq, evB_eq', evBin_eq, evV_3, bindG_ok, evC_eq, bindG_ok, ge_int, okm_some, bindG_ok, toB_bl, bindS_ok, if_neg (by simp; omega), sNil_eq, andThen_nx]
      · have p0 : 0 ≤ c.p := by have := k.p1; omega
        have pl := pc.resolve_left q
        have bq : Tq 8 (18500 * (c.p.toNat + 1)) (bf ts c.p) := T.tq c.p.toNat _ (by unfold bf; rw [List.getD_eq_getElem?_getD, List.getElem?_eq_getElem pl]; rfl)
        have bq : Tq 8 (18500 * ts.length) (bf ts c.p) := bq.mono (Nat.mul_le_mul_left _ (by omega))
        have bb : Bz 20 (bf ts c.p) := (bq.mono (B := 74000) (by omega)).bz20 (by decide +kernel) (by decide)
        have ad := fun κ : Mu => o_add' (μ := κ) vb bb (by decide)
        refine ⟨v + bf ts c.p, (wq.add bq).mono (by omega), by unfold wt; rw [if_neg q]; grind, fun X c3 c4 c5 r h3 => ?_⟩
        subst h3
        have ix : fIx (.loc (r.length + 1)) (.p (.int c.p)) (st s1 :: (r ++ [some (.lst (ts.map rat))])) = some (.p (rat (bf ts c.p)), st s1 :: (r ++ [some (.lst (ts.map rat))])) := by
          have hd : LsD (st s1 :: (r ++ [some (MO.lst (ts.map rat))])) (.loc (r.length + 1)) (ts.map rat) := .inr ⟨_, rfl, by simp⟩
          have := hd.ix (j := c.p.toNat) (x := rat (bf ts c.p)) (by rw [List.getElem?_map]; unfold bf; rw [List.getD_eq_getElem?_getD, List.getElem?_eq_getElem pl]; rfl)
          rwa [show ((c.p.toNat : Nat) : Int) = c.p by omega] at this
        rw [seqS_eq, sIf_eq, evB_eq', evBin_eq, evV_3, bindG_ok, evC_eq, bindG_ok, ge_int, okm_some, bindG_ok, toB_bl, bindS_ok, if_pos (decide_eq_true p0), sSet_eq, evBin_eq, evV_6, bindG_ok, evBin_eq, evV_2, bindG_ok, evV_3, bindG_ok, ix, okm_some, bindG_ok, ad, okm_some, bindS_ok, andThen_nx]
        rfl
    have T' : Tm4 cs (ts ++ [t]) := ⟨fun i u hu => by
      by_cases q : i < ts.length
      · rw [List.getElem?_append_left q] at hu; exact T.tq i u hu
      · rw [List.getElem?_append_right (by omega)] at hu
        have : i = ts.length := by
          have := (List.getElem?_eq_some_iff.mp hu).1
          simp at this; omega
        subst this
        simp at hu; subst hu; exact tq, fun i c' u hc' hu => by
      have k' := S.ok i c' hc'
      by_cases q : i < ts.length
      · rw [List.getElem?_append_left q] at hu
        rw [wt_app (by have := k'.p1; have := k'.p2; omega)]
        exact T.ok i c' u hc' hu
      · rw [List.getElem?_append_right (by omega)] at hu
        have : i = ts.length := by
          have := (List.getElem?_eq_some_iff.mp hu).1
          simp at this; omega
        subst this
        simp at hu; subst hu
        rw [hc] at hc'; cases hc'
        rw [wt_app pc, tw]
        exact ⟨wlo, whi⟩⟩
    obtain ⟨ts', s', o', l', T2, e2⟩ := ih (ts ++ [t]) s1 o1 (by rw [List.length_append]; exact hL') (by rw [List.length_append]; exact lt) T'
    refine ⟨ts', s', o', l', T2, fun r c3 c4 c5 c6 => ?_⟩
    have mk := mkD (δ := [some (.loc 0), c1, some (.loc (r.length + 1)), some (.p (.int c.p)), some (.p (rat c.lo)), some (.p (rat c.hi)), c6]) (μ := st s :: (r ++ [some (.lst (ts.map rat))])) (ν := st s1 :: (r ++ [some (.lst (ts.map rat))])) (n := x) (d := 4) (a := evCons (evCall m__law_draw [] (evCons (evV 0) (evCons (evC (.int 5)) evNil))) (evCons (evC (.int 4)) evNil)) (by
      rw [evCons_eq, drC e1 rfl, bindG_ok, evCons_eq, evC_eq, bindG_ok, evNil_eq, bindG_ok, bindG_ok]) (by decide) (sz_lt 4 (by decide))
    have body : lb__law_stimes_0 [some (.loc 0), c1, some (.loc (r.length + 1)), some (.p (.int c.p)), some (.p (rat c.lo)), some (.p (rat c.hi)), c6] (st s :: (r ++ [some (.lst (ts.map rat))])) = some (.nx, [some (.loc 0), c1, some (.loc (r.length + 1)), some (.p (.int c.p)), some (.p (rat c.lo)), some (.p (rat c.hi)), some (.p (rat t))], st s1 :: (r ++ [some (.lst ((ts ++ [t]).map rat))])) := by
      unfold lb__law_stimes_0
      rw [seqS_eq, sSet_eq, evBin_eq, evV_4, bindG_ok, evBin_eq, evBin_eq, evV_5, bindG_ok, evV_4, bindG_ok, o2, okm_some, bindG_ok, mk, bindG_ok, o3, okm_some, bindG_ok, o4', okm_some, bindS_ok, andThen_nx]
      simp only [List.set_cons_succ, List.set_cons_zero]
      rw [te _ _ _ _ r rfl, sExpr_eq, evBM_eq, evV_2, bindG_ok, if_pos is0, evCons_eq, evV_6, bindG_ok, evNil_eq, bindG_ok, bindG_ok, ap0 (by rw [List.length_map]; omega), okm_some, bindS_ok, List.map_append]
      rfl
    obtain ⟨d3, d4, d5, d6, e⟩ := e2 r (some (.p (.int c.p))) (some (.p (rat c.lo))) (some (.p (rat c.hi))) (some (.p (rat t)))
    refine ⟨d3, d4, d5, d6, ?_⟩
    rw [List.map_cons, forL_nx (show tgT [3, 4, 5] (Cue.r c) [some (.loc 0), c1, some (.loc (r.length + 1)), c3, c4, c5, c6] = some [some (.loc 0), c1, some (.loc (r.length + 1)), some (.p (.int c.p)), some (.p (rat c.lo)), some (.p (rat c.hi)), c6] from rfl) body, e]
end
end Vs
namespace Vs
open PySem PySem.Spec PyProof.Rows L2
open Bar (rg)
section
variable {μ ν : Mu} {δ : Sl}
theorem stimes_ex {w : Nat} {cs : List Cue} (S : Sh4 w cs) (w4 : w ≤ 4) {s : SS} (hs : s.Ok) : ∃ (ts : List Rat) (s' : SS), SS.Ok s' ∧ ts.length = cs.length ∧ Tm4 cs ts ∧ ∀ r : Mu, m__law_stimes [.loc 0, .p (shR cs)] (st s :: r) = some (.ok (.p (tsP ts)), st s' :: r) := by
  obtain ⟨ts, s', o', l', T, e⟩ := stm_loop S w4 (c1 := some (.p (shR cs))) cs [] s hs rfl (Nat.zero_le _) ⟨(fun i t h => by simp at h), (fun i c t _ h => by simp at h)⟩
  refine ⟨ts, s', o', l', T, fun r => ?_⟩
  obtain ⟨c3, c4, c5, c6, e⟩ := e r none none none none
  rw [List.map_nil] at e
  have l0 : evLstC evNil [some (.loc 0), some (.p (shR cs)), none, none, none, none, none] (st s :: r) = some (.ok (.loc (r.length + 1)), st s :: (r ++ [some (.lst [])])) := by
    rw [evLstC_eq, evNil_eq, bindG_ok, toPs_nil, lstEndC_some, if_pos (show ([] : List P).length ≤ sizeLine from line_0)]
    rfl
  have it : evIt (evV 1) [some (.loc 0), some (.p (shR cs)), some (.loc (r.length + 1)), none, none, none, none] (st s :: (r ++ [some (.lst [])])) = some (.ok (cs.map Cue.r), st s :: (r ++ [some (.lst [])])) := rfl
  unfold m__law_stimes
  rw [arF2]
  unfold sv__law_stimes
  simp only [List.replicate, List.cons_append, List.nil_append]
  unfold lb__law_stimes_0 at e
  rw [seqS_eq, sSet_eq, l0, bindS_ok, andThen_nx]
  simp only [List.set_cons_succ, List.set_cons_zero]
  rw [seqS_eq, sFor_eq, it, bindS_ok, e, andThen_nx, sRet_eq, evV_2, bindS_ok]
  unfold retF
  dsimp only
  unfold retL
  have hc : cellL (st s' :: (r ++ [some (MO.lst (ts.map rat))])) (r.length + 1) = some (ts.map rat) := cellL_l (by simp)
  rw [if_neg (by simp), hc]
  dsimp only
  have tk : (st s' :: (r ++ [some (MO.lst (ts.map rat))])).take (st s :: r).length = st s' :: r := by
    show ((st s' :: r) ++ [some (MO.lst (ts.map rat))]).take (st s' :: r).length = _
    rw [List.take_left]
  rw [tk]
  rfl
/-- the drawn times keep what the table bounds -/
theorem tm_bt {w : Nat} {cs : List Cue} {ts : List Rat} (S : Sh4 w cs) (hl : ts.length = cs.length) (T : Tm4 cs ts) : BT cs (rg ts) := by
  refine ⟨?_, fun i c hc => ?_⟩
  · unfold rg
    rw [List.getD_eq_getElem?_getD, List.getElem?_eq_none (by omega)]; rfl
  · have il : i < ts.length := by rw [hl]; exact (List.getElem?_eq_some_iff.mp hc).1
    have k := S.ok i c hc
    have ht : ts[i]? = some (rg ts i) := by
      unfold rg
      rw [List.getD_eq_getElem?_getD, List.getElem?_eq_getElem il]; rfl
    obtain ⟨a, b⟩ := T.ok i c _ hc ht
    have e : wt ts c.p (rg ts i) = rg ts i - rg ts (pm cs.length c.p) := by
      unfold wt pm
      by_cases q : c.p = -1
      · rw [if_pos q, if_pos q]
        have : rg ts cs.length = 0 := by
          unfold rg
          rw [List.getD_eq_getElem?_getD, List.getElem?_eq_none (by omega)]; rfl
        rw [this]; grind
      · rw [if_neg q, if_neg q]; rfl
    rw [e] at a b
    exact ⟨a, b⟩
end
end Vs
namespace Vs
open PySem PySem.Spec PyProof.Rows L2
open Bar (rg)
section
variable {μ ν : Mu} {δ : Sl}
/-- draw over 2 or 4 -/
theorem quo_ex {k : Nat} {d : Int} {s : SS} (hs : s.Ok) (k0 : 0 < k) (kb : k < 100) (hd : d = 2 ∨ d = 4) : ∃ q s', SS.Ok s' ∧ 0 ≤ q ∧ Tq 4 (k - 1) q ∧ ∀ (r : Mu) (δ : Sl), δ[0]? = some (some (.loc 0)) → evMake 0 2 m_Ratiou_initu [] (evCons (evCall m__law_draw [] (evCons (evV 0) (evCons (evC (.int (k : Int))) evNil))) (evCons (evC (.int d)) evNil)) δ (st s :: r) = some (.ok (.p (rat q)), st s' :: r) := by
  obtain ⟨x, s1, o1, l1, e1⟩ := draw0n (n := k) hs k0 (by omega)
  refine ⟨Rat.divInt x d, s1, o1, Rat.divInt_nonneg (by omega) (by omega), tq_div (by decide) (by omega) (by rcases hd with rfl | rfl <;> decide) (by omega), fun r δ h0 => ?_⟩
  refine mkD ?_ (by omega) (sz_lt 4 (by omega))
  rw [evCons_eq, drC e1 h0, bindG_ok, evCons_eq, evC_eq, bindG_ok, evNil_eq, bindG_ok, bindG_ok]
/-- one of the times -/
theorem oft_ex {ts : List Rat} (h0 : 0 < ts.length) (h4 : ts.length ≤ 8) {s : SS} (hs : s.Ok) : ∃ (i : Nat) (s' : SS), SS.Ok s' ∧ i < ts.length ∧ ∀ (r : Mu) (δ : Sl), δ[0]? = some (some (.loc 0)) → δ[3]? = some (some (.p (tsP ts))) → evBin fIx (evV 3) (evCall m__law_draw [] (evCons (evV 0) (evCons (evBI fLen (evCons (evV 3) evNil)) evNil))) δ (st s :: r) = some (.ok (.p (rat (rg ts i))), st s' :: r) := by
  obtain ⟨i, s1, o1, l1, e1⟩ := draw0n (n := ts.length) hs h0 (by omega)
  refine ⟨i, s1, o1, l1, fun r δ hd h3 => ?_⟩
  have ln : fLen [.p (tsP ts)] (st s :: r) = some (.p (.int (ts.length : Int)), st s :: r) := by unfold tsP; rw [fLen_lst, List.length_map]
  have ix := ts_ix (μ := st s1 :: r) l1
  rw [evBin_eq, evV_at h3, bindG_ok, evCall_eq, evCons_eq, evV_at hd, bindG_ok, evCons_eq, evBI_eq, evCons_eq, evV_at h3, bindG_ok, evNil_eq, bindG_ok, bindG_ok, ln, okm_some, bindG_ok, evNil_eq, bindG_ok, bindG_ok, bindG_ok, List.map_nil, List.append_nil, e1, bindG_ok, ix, okm_some]
theorem tm_nn {w : Nat} {cs : List Cue} {ts : List Rat} (S : Sh4 w cs) (hl : ts.length = cs.length) (T : Tm4 cs ts) {i : Nat} (hi : i < ts.length) : 0 ≤ rg ts i := (bt_lim S (tm_bt S hl T) i (by omega)).1
theorem tm_tq {cs : List Cue} {ts : List Rat} (T : Tm4 cs ts) (h4 : ts.length ≤ 4) {i : Nat} (hi : i < ts.length) : Tq 8 74000 (rg ts i) := (T.tq i _ (by unfold rg; rw [List.getD_eq_getElem?_getD, List.getElem?_eq_getElem hi]; rfl)).mono (by omega)
theorem tm_bz {cs : List Cue} {ts : List Rat} (T : Tm4 cs ts) (h4 : ts.length ≤ 4) : ∀ t ∈ ts, Bz 20 t := fun t ht => by
  obtain ⟨i, hi⟩ := List.mem_iff_getElem?.mp ht
  have il := (List.getElem?_eq_some_iff.mp hi).1
  exact ((T.tq i t hi).mono (B := 74000) (by omega)).bz20 (by decide +kernel) (by decide)
/-- a time and a quarter more -/
theorem add_ex {cs : List Cue} {ts : List Rat} {k : Nat} (T : Tm4 cs ts) (h0 : 0 < ts.length) (h4 : ts.length ≤ 4) (k0 : 0 < k) (kb : k < 100) {s : SS} (hs : s.Ok) : ∃ (i : Nat) (q : Rat) (s' : SS), SS.Ok s' ∧ i < ts.length ∧ 0 ≤ q ∧ Tq 8 75000 (rg ts i + q) ∧ ∀ (r : Mu) (δ : Sl), δ[0]? = some (some (.loc 0)) → δ[3]? = some (some (.p (tsP ts))) → evBin (fOwn 0 m_Ratiou_addu) (evBin fIx (evV 3) (evCall m__law_draw [] (evCons (evV 0) (evCons (evBI fLen (evCons (evV 3) evNil)) evNil)))) (evMake 0 2 m_Ratiou_initu [] (evCons (evCall m__law_draw [] (evCons (evV 0) (evCons (evC (.int (k : Int))) evNil))) (evCons (evC (.int 4)) evNil))) δ (st s :: r) = some (.ok (.p (rat (rg ts i + q))), st s' :: r) := by
  obtain ⟨i, s1, o1, il, e1⟩ := oft_ex h0 (by omega) hs
  obtain ⟨q, s2, o2, q0, qt, e2⟩ := quo_ex (k := k) (d := 4) o1 k0 kb (.inr rfl)
  have tt := tm_tq T h4 il
  have tb : Bz 20 (rg ts i) := tt.bz20 (by decide +kernel) (by decide)
  have qb : Bz 20 q := (qt.mono (B := 100) (by omega)).bz20 (by decide +kernel) (by decide)
  have ad := fun κ : Mu => o_add' (μ := κ) tb qb (by decide)
  refine ⟨i, q, s2, o2, il, q0, (tt.add ((qt.up 2 (by decide)).mono (B := 1000) (by omega))).mono (by decide), fun r δ hd h3 => ?_⟩
  rw [evBin_eq, e1 r δ hd h3, bindG_ok, e2 r δ hd, bindG_ok, ad, okm_some]
end
end Vs
namespace Vs
open PySem PySem.Spec PyProof.Rows L2
open Bar (rg)
structure Mo4 (F : Ft) (f t : Rat) : Prop where
  ftq : Tq 8 75000 f
  ttq : Tq 8 76000 t
  f0 : 0 ≤ f
  le : f ≤ t
  non : F = .non → f = 0
section
variable {μ ν : Mu} {δ : Sl}
theorem neS {a b : Str} : fNe (.p (.str a)) (.p (.str b)) μ = some (.p (.bl (!decide (a = b))), μ) := rfl
theorem fault0 (F : Ft) : ∃ x : Str, (∀ κ : Mu, fIx (.p F.r) (.p (.int 0)) κ = some (.p (.str x), κ)) ∧ decide (x = "none") = (match F with | .non => true | _ => false) := by
  cases F with
  | non => exact ⟨"none", fun _ => rfl, by decide⟩
  | stop => exact ⟨"stop", fun _ => rfl, by decide⟩
  | seize k lag => exact ⟨"seize", fun _ => rfl, by show decide (("seize" : Str) = "none") = false; decide⟩
theorem smoment_ex {w : Nat} {cs : List Cue} (S : Sh4 w cs) (w1 : 1 ≤ w) (w4 : w ≤ 4) {ms : List Mc} {rules : P} {F : Ft} {s : SS} (hs : s.Ok) : ∃ (ts : List Rat) (f t : Rat) (s' : SS), SS.Ok s' ∧ ts.length = cs.length ∧ Tm4 cs ts ∧ Mo4 F f t ∧ ∀ r : Mu, m__law_smoment [.loc 0, .p (shwP (shR cs) ms rules), .p F.r] (st s :: r) = some (.ok (.p (momP ts f t)), st s' :: r) := by
  have cl := S.len
  obtain ⟨ts, s1, o1, tl, T, e1⟩ := stimes_ex S w4 hs
  obtain ⟨x, fx, fd⟩ := fault0 F
  have i0 : ∀ κ : Mu, fIx (.p (shwP (shR cs) ms rules)) (.p (.int 0)) κ = some (.p (shR cs), κ) := fun _ => rfl
  have pre : ∀ (X : SEv) (r : Mu), seqS (sSet 3 (evCall m__law_stimes [] (evCons (evV 0) (evCons (evBin fIx (evV 1) (evC (.int 0))) evNil)))) (seqS (sSet 4 (evMake 0 2 m_Ratiou_initu [.int 1] (evCons (evC (.int 0)) evNil))) X) [some (.loc 0), some (.p (shwP (shR cs) ms rules)), some (.p F.r), none, none, none] (st s :: r) = X [some (.loc 0), some (.p (shwP (shR cs) ms rules)), some (.p F.r), some (.p (tsP ts)), some (.p (rat 0)), none] (st s1 :: r) := fun X r => by
    rw [seqS_eq, sSet_eq, evCall_eq, evCons_eq, evV_0, bindG_ok, evCons_eq, evBin_eq, evV_1, bindG_ok, evC_eq, bindG_ok, i0, okm_some, bindG_ok, evNil_eq, bindG_ok, bindG_ok, bindG_ok, List.map_nil, List.append_nil, e1, bindS_ok, andThen_nx]
    simp only [List.set_cons_succ, List.set_cons_zero]
    rw [seqS_eq, sSet_eq, mk0, bindS_ok, andThen_nx]
    rfl
  have fin : ∀ (f t : Rat) (κ : Mu) (n : Nat), retF n (sRet (evTup (evCons (evV 3) (evCons (evV 4) (evCons (evV 5) evNil)))) [some (.loc 0), some (.p (shwP (shR cs) ms rules)), some (.p F.r), some (.p (tsP ts)), some (.p (rat f)), some (.p (rat t))] κ) = some (.ok (.p (momP ts f t)), κ.take n) := fun f t κ n => by
    rw [sRet_eq, evTup_eq, evCons_eq, evV_3, bindG_ok, evCons_eq, evV_4, bindG_ok, evCons_eq, evV_5, bindG_ok, evNil_eq, bindG_ok, bindG_ok, bindG_ok, bindG_ok, toPs_cons, toPs_cons, toPs_cons, toPs_nil, consP_some, consP_some, consP_some, tup3, bindS_ok, retF_p]
    rfl
  -- f
  obtain ⟨f, s2, o2, f0, ft, fn, e2⟩ : ∃ (f : Rat) (s2 : SS), s2.Ok ∧ 0 ≤ f ∧ Tq 8 75000 f ∧ (F = .non → f = 0) ∧ ∀ (X : SEv) (r : Mu), seqS (sIf (evB (evBin fNe (evBin fIx (evV 2) (evC (.int 0))) (evC (.str "none")))) (seqS (sSet 4 (evBin (fOwn 0 m_Ratiou_addu) (evBin fIx (evV 3) (evCall m__law_draw [] (evCons (evV 0) (evCons (evBI fLen (evCons (evV 3) evNil)) evNil)))) (evMake 0 2 m_Ratiou_initu [] (evCons (evCall m__law_draw [] (evCons (evV 0) (evCons (evC (.int 17)) evNil))) (evCons (evC (.int 4)) evNil))))) (sIf (evB (evBin fEq (evCall m__law_draw [] (evCons (evV 0) (evCons (evC (.int 6)) evNil))) (evC (.int 0)))) (sSet 4 (evMake 0 2 m_Ratiou_initu [] (evCons (evCall m__law_draw [] (evCons (evV 0) (evCons (evC (.int 9)) evNil))) (evCons (evC (.int 2)) evNil)))) sNil)) sNil) X [some (.loc 0), some (.p (shwP (shR cs) ms rules)), some (.p F.r), some (.p (tsP ts)), some (.p (rat 0)), none] (st s1 :: r) = X [some (.loc 0), some (.p (shwP (shR cs) ms rules)), some (.p F.r), some (.p (tsP ts)), some (.p (rat f)), none] (st s2 :: r) := by
    have hd : ∀ (X : SEv) (A : SEv) (r : Mu), seqS (sIf (evB (evBin fNe (evBin fIx (evV 2) (evC (.int 0))) (evC (.str "none")))) A sNil) X [some (.loc 0), some (.p (shwP (shR cs) ms rules)), some (.p F.r), some (.p (tsP ts)), some (.p (rat 0)), none] (st s1 :: r) = if decide (x = "none") = true then X [some (.loc 0), some (.p (shwP (shR cs) ms rules)), some (.p F.r), some (.p (tsP ts)), some (.p (rat 0)), none] (st s1 :: r) else seqS A X [some (.loc 0), some (.p (shwP (shR cs) ms rules)), some (.p F.r), some (.p (tsP ts)), some (.p (rat 0)), none] (st s1 :: r) := fun X A r => by
      rw [seqS_eq, sIf_eq, evB_eq', evBin_eq, evBin_eq, evV_2, bindG_ok, evC_eq, bindG_ok, fx, okm_some, bindG_ok, evC_eq, bindG_ok, neS, okm_some, bindG_ok, toB_bl, bindS_ok]
      cases decide (x = "none") with
      | true => rw [if_neg (by decide), if_pos rfl, sNil_eq, andThen_nx]
      | false => rw [if_pos (by decide), if_neg (by decide), seqS_eq]
    by_cases q : decide (x = "none") = true
    · refine ⟨0, s1, o1, Rat.le_refl, ⟨by decide, 0, by rw [Rat.mul_zero]; rfl, by decide⟩, fun _ => rfl, fun X r => ?_⟩
      rw [hd, if_pos q]
    · have nn : F ≠ .non := fun h => by rw [h] at fd; exact q fd
      obtain ⟨i, q1, s2, o2, il, q10, qt, e2⟩ := add_ex (k := 17) T (by omega) (by omega) (by decide) (by decide) o1
      obtain ⟨y, s3, o3, y0, y6, e3⟩ := draw0 6 o2
      have t0 := tm_nn S tl T il
      by_cases z : y = 0
      · obtain ⟨q2, s4, o4', q20, q2t, e4⟩ := quo_ex (k := 9) (d := 2) o3 (by decide) (by decide) (.inl rfl)
        refine ⟨q2, s4, o4', q20, (q2t.up 2 (by decide)).mono (B := 75000) (by decide), fun h => absurd h nn, fun X r => ?_⟩
        rw [hd, if_neg q, seqS_eq, seqS_eq, sSet_eq, show (17 : Int) = ((17 : Nat) : Int) from rfl, e2 r _ rfl rfl, bindS_ok, andThen_nx]
        simp only [List.set_cons_succ, List.set_cons_zero]
        rw [sIf_eq, evB_eq', evBin_eq, drC e3 rfl, bindG_ok, evC_eq, bindG_ok, eq_int, okm_some, bindG_ok, toB_bl, bindS_ok, if_pos (decide_eq_true z), sSet_eq, show (9 : Int) = ((9 : Nat) : Int) from rfl, e4 r _ rfl, bindS_ok, andThen_nx]
        rfl
      · refine ⟨rg ts i + q1, s3, o3, by grind, qt, fun h => absurd h nn, fun X r => ?_⟩
        rw [hd, if_neg q, seqS_eq, seqS_eq, sSet_eq, show (17 : Int) = ((17 : Nat) : Int) from rfl, e2 r _ rfl rfl, bindS_ok, andThen_nx]
        simp only [List.set_cons_succ, List.set_cons_zero]
        rw [sIf_eq, evB_eq', evBin_eq, drC e3 rfl, bindG_ok, evC_eq, bindG_ok, eq_int, okm_some, bindG_ok, toB_bl, bindS_ok, if_neg (by simpa using z), sNil_eq, andThen_nx]
  have fb : Bz 20 f := ft.bz20 (by decide +kernel) (by decide)
  obtain ⟨q3, s3, o3, q30, q3t, e3⟩ := quo_ex (k := 13) (d := 4) o2 (by decide) (by decide) (.inr rfl)
  have q3b : Bz 20 q3 := (q3t.mono (B := 100) (by decide)).bz20 (by decide +kernel) (by decide)
  have ad := fun κ : Mu => o_add' (μ := κ) fb q3b (by decide)
  have tq1 : Tq 8 76000 (f + q3) := (ft.add ((q3t.up 2 (by decide)).mono (B := 1000) (by decide))).mono (by decide)
  have go : ∀ (X : SEv) (r : Mu), seqS (sSet 5 (evBin (fOwn 0 m_Ratiou_addu) (evV 4) (evMake 0 2 m_Ratiou_initu [] (evCons (evCall m__law_draw [] (evCons (evV 0) (evCons (evC (.int 13)) evNil))) (evCons (evC (.int 4)) evNil))))) X [some (.loc 0), some (.p (shwP (shR cs) ms rules)), some (.p F.r), some (.p (tsP ts)), some (.p (rat f)), none] (st s2 :: r) = X [some (.loc 0), some (.p (shwP (shR cs) ms rules)), some (.p F.r), some (.p (tsP ts)), some (.p (rat f)), some (.p (rat (f + q3)))] (st s3 :: r) := fun X r => by
    rw [seqS_eq, sSet_eq, evBin_eq, evV_4, bindG_ok, show (13 : Int) = ((13 : Nat) : Int) from rfl, e3 r _ rfl, bindG_ok, ad, okm_some, bindS_ok, andThen_nx]
    rfl
  by_cases q : decide (x = "none") = true
  · obtain ⟨j, q4, s4, o4', jl, q40, qt, e4⟩ := add_ex (k := 25) T (by omega) (by omega) (by decide) (by decide) o3
    have t0 := tm_nn S tl T jl
    have fz : F = .non := by
      cases F with
      | non => rfl
      | stop => rw [q] at fd; cases fd
      | seize k lag => rw [q] at fd; cases fd
    have f00 := fn fz
    refine ⟨ts, f, rg ts j + q4, s4, o4', tl, T, ⟨ft, qt.mono (by decide), f0, by rw [f00]; grind, fn⟩, fun r => ?_⟩
    unfold m__law_smoment
    rw [arF3]
    unfold sv__law_smoment
    simp only [List.replicate, List.cons_append, List.nil_append]
    rw [pre, e2, go, seqS_eq, sIf_eq, evB_eq', evBin_eq, evBin_eq, evV_2, bindG_ok, evC_eq, bindG_ok, fx, okm_some, bindG_ok, evC_eq, bindG_ok, eqS, okm_some, bindG_ok, toB_bl, bindS_ok, if_pos q, sSet_eq, show (25 : Int) = ((25 : Nat) : Int) from rfl, e4 r _ rfl rfl, bindS_ok, andThen_nx]
    simp only [List.set_cons_succ, List.set_cons_zero]
    rw [fin, show (st s :: r).length = (st s4 :: r).length from rfl, List.take_length]
  · refine ⟨ts, f, f + q3, s3, o3, tl, T, ⟨ft, tq1, f0, by grind, fn⟩, fun r => ?_⟩
    unfold m__law_smoment
    rw [arF3]
    unfold sv__law_smoment
    simp only [List.replicate, List.cons_append, List.nil_append]
    rw [pre, e2, go, seqS_eq, sIf_eq, evB_eq', evBin_eq, evBin_eq, evV_2, bindG_ok, evC_eq, bindG_ok, fx, okm_some, bindG_ok, evC_eq, bindG_ok, eqS, okm_some, bindG_ok, toB_bl, bindS_ok, if_neg q, sNil_eq, andThen_nx]
    rw [fin, show (st s :: r).length = (st s3 :: r).length from rfl, List.take_length]
end
end Vs
namespace Vs
open PySem PySem.Spec PyProof.Rows L2
open Bar (rg)
def Ft.nonB : Ft → Bool
  | .non => true
  | _ => false
def tmV (cs : List Cue) (ts : List Rat) : Bool := decide (ts.length = cs.length) && (cs.zip ts).all fun x => okc ts x.1 x.2
def imV (cs : List Cue) (ts : List Rat) (n : Bool) (f t : Rat) : Bool := !(n && !decide (f = 0)) && (tmV cs ts && (!decide (f < 0) && !decide (t < f)))
section
variable {μ ν : Mu} {δ : Sl}
theorem ev_is_moment {cs : List Cue} {ts : List Rat} {ms : List Mc} {rules : P} {F : Ft} {f t : Rat} (S : Sheet cs) (hts : ∀ t ∈ ts, Bz 20 t) (hf : Bz 20 f) (ht : Bz 20 t) : m_is_moment [.p (shwP (shR cs) ms rules), .p F.r, .p (momP ts f t)] μ = some (.ok (.p (.bl (imV cs ts F.nonB f t))), μ) := by
  obtain ⟨x, fx, fd⟩ := fault0 F
  have fd : decide (x = "none") = F.nonB := by cases F <;> exact fd
  rw [← fd]
  have et : m_is_timing [.p (shR cs), .p (tsP ts)] μ = some (.ok (.p (.bl (tmV cs ts))), μ) := ev_timing S fun t h => (hts t h).mono (by decide)
  have i0 : fIx (.p (shwP (shR cs) ms rules)) (.p (.int 0)) μ = some (.p (shR cs), μ) := rfl
  have ne := ne_ratG (μ := μ) (a := f) (b := 0)
  have l1 := ev_is_less (μ := μ) hf bz0 (by decide)
  have l2 := ev_is_less (μ := μ) ht hf (by decide)
  have a1 : sAsgT (tgT [3, 4, 5]) (evV 2) [some (.p (shwP (shR cs) ms rules)), some (.p F.r), some (.p (momP ts f t)), none, none, none] μ = some (.nx, [some (.p (shwP (shR cs) ms rules)), some (.p F.r), some (.p (momP ts f t)), some (.p (tsP ts)), some (.p (rat f)), some (.p (rat t))], μ) := rfl
  have cond : tAndV' (evB (evBin fEq (evBin fIx (evV 1) (evC (.int 0))) (evC (.str "none")))) (evB (evBin (fNeO 0 m_Ratiou_equ) (evV 4) (evMake 0 2 m_Ratiou_initu [.int 1] (evCons (evC (.int 0)) evNil)))) [some (.p (shwP (shR cs) ms rules)), some (.p F.r), some (.p (momP ts f t)), some (.p (tsP ts)), some (.p (rat f)), some (.p (rat t))] μ = some (.ok (decide (x = "none") && !decide (f = 0)), μ) := by
    rw [tAndV_eq, evB_eq', evBin_eq, evBin_eq, evV_1, bindG_ok, evC_eq, bindG_ok, fx, okm_some, bindG_ok, evC_eq, bindG_ok, eqS, okm_some, bindG_ok, toB_bl, bindG_ok]
    cases decide (x = "none") with
    | false => rfl
    | true =>
      rw [if_pos rfl, evB_eq', evBin_eq, evV_4, bindG_ok, mk0, bindG_ok, ne, okm_some, bindG_ok, toB_bl]
      rfl
  unfold m_is_moment
  rw [arF3]
  unfold sv_is_moment
  simp only [List.replicate, List.cons_append, List.nil_append]
  rw [seqS_eq, a1, andThen_nx, seqS_eq, sIf_eq, cond, bindS_ok]
  unfold imV
  cases decide (x = "none") && !decide (f = 0) with
  | true => rw [if_pos rfl, sRet_eq, evC_eq, bindS_ok, andThen_ret, retF_p, List.take_length]; rfl
  | false =>
    rw [if_neg (by decide), sNil_eq, andThen_nx, sRet_eq, evAnd_eq, evCall_eq, evCons_eq, evBin_eq, evV_0, bindG_ok, evC_eq, bindG_ok, i0, okm_some, bindG_ok, evCons_eq, evV_3, bindG_ok, evNil_eq, bindG_ok, bindG_ok, bindG_ok, List.map_nil, List.append_nil, et, bindG_ok, andD_bl]
    cases tmV cs ts with
    | false => rw [if_neg (by decide), bindS_ok, retF_p, List.take_length]; rfl
    | true =>
      rw [if_pos rfl, evAnd_eq, evUn_eq, evCall_eq, evCons_eq, evV_4, bindG_ok, evCons_eq, mk0, bindG_ok, evNil_eq, bindG_ok, bindG_ok, bindG_ok, List.map_nil, List.append_nil, l1, bindG_ok, fNot_bl, okm_some, bindG_ok, andD_bl]
      cases decide (f < 0) with
      | true => rw [if_neg (by decide), bindS_ok, retF_p, List.take_length]; rfl
      | false =>
        rw [if_pos (by decide), evUn_eq, evCall_eq, evCons_eq, evV_5, bindG_ok, evCons_eq, evV_4, bindG_ok, evNil_eq, bindG_ok, bindG_ok, bindG_ok, List.map_nil, List.append_nil, l2, bindG_ok, fNot_bl, okm_some, bindS_ok, retF_p, List.take_length]
        rfl
end
end Vs
namespace Vs
open PySem PySem.Spec PyProof.Rows L2
open Bar (rg)
def rwA (As : List (List At)) : List (List P) := As.map fun R => R.map actR
structure RowA (w : Nat) (B : (Nat → Rat) → Prop) (k : Nat) (R : List At) : Prop where
  len : R.length ≤ k
  act : ∀ a ∈ R, a.1 < w ∧ Mv4 a.2
  sq : ∀ T, B T → R.Pairwise fun x y => T x.1 + finT 0 x.2 ≤ T y.1
theorem RowA.mono {w k k2 : Nat} {B : (Nat → Rat) → Prop} {R : List At} (h : RowA w B k R) (e : k ≤ k2) : RowA w B k2 R := ⟨Nat.le_trans h.len e, h.act, h.sq⟩
theorem RowA.nil {w k : Nat} {B : (Nat → Rat) → Prop} : RowA w B k [] := ⟨Nat.zero_le _, fun a h => by simp at h, fun T _ => .nil⟩
theorem RowA.one {w k : Nat} {B : (Nat → Rat) → Prop} {a : At} (h1 : a.1 < w) (h2 : Mv4 a.2) : RowA w B (k + 1) [a] := ⟨by simp, fun b hb => by simp at hb; subst hb; exact ⟨h1, h2⟩, fun T _ => by simp⟩
theorem RowA.app {w k : Nat} {B : (Nat → Rat) → Prop} {R : List At} {l a : At} (h : RowA w B k (R ++ [l])) (h1 : a.1 < w) (h2 : Mv4 a.2) (hf : ∀ T, B T → T l.1 + finT 0 l.2 ≤ T a.1) : RowA w B (k + 1) (R ++ [l] ++ [a]) := by
  have hl := h.act l (by simp)
  refine ⟨by have := h.len; simp at this ⊢; omega, fun b hb => ?_, fun T hT => ?_⟩
  · rcases List.mem_append.mp hb with q | q
    · exact h.act b q
    · simp at q; subst q; exact ⟨h1, h2⟩
  · have p := h.sq T hT
    rw [List.pairwise_append]
    refine ⟨p, by simp, fun x hx y hy => ?_⟩
    simp at hy; subst hy
    have f := hf T hT
    rcases List.mem_append.mp hx with q | q
    · have := (List.pairwise_append.mp p).2.2 x q l (by simp)
      have n := finT_nn hl.2.good
      grind
    · simp at q; subst q; exact f
theorem RowA.seq {w k : Nat} {B : (Nat → Rat) → Prop} {R : List At} (h : RowA w B k R) {ts : List Rat} (hB : B (rg ts)) : Seq (acs ts R) := by
  unfold Seq acs
  rw [List.pairwise_map]
  exact h.sq _ hB
def ActsA (w : Nat) (B : (Nat → Rat) → Prop) (k : Nat) (As : List (List At)) : Prop := ∀ R ∈ As, RowA w B k R
theorem ActsA.get {w k i : Nat} {B : (Nat → Rat) → Prop} {As : List (List At)} (h : ActsA w B k As) (hi : i < As.length) : RowA w B k (As.getD i []) := h _ (by
  rw [List.getD_eq_getElem?_getD, List.getElem?_eq_getElem hi]; exact List.getElem_mem hi)
theorem ActsA.set {w k i : Nat} {B : (Nat → Rat) → Prop} {As : List (List At)} (h : ActsA w B k As) {R : List At} (hR : RowA w B (k + 1) R) : ActsA w B (k + 1) (As.set i R) := fun S hS => by
  rcases List.mem_or_eq_of_mem_set hS with q | rfl
  · exact (h S q).mono (Nat.le_succ _)
  · exact hR
theorem Live.agree {n0 : Nat} {μ ν : Mu} {l : Nat} {Rs : List (List P)} {ks : List Nat} (L : Live n0 μ l Rs ks) (h : ∀ x, n0 ≤ x → x ≤ l → ν[x]? = μ[x]?) : Live n0 ν l Rs ks :=
  ⟨L.len, L.pw, L.lo, L.hi, L.l0, by rw [h l L.l0 (Nat.le_refl _)]; exact L.at', fun i k R h1 h2 => by
    have m := List.mem_of_getElem? h1
    rw [h k (L.lo k m) (Nat.le_of_lt (L.hi k m))]
    exact L.row i k R h1 h2⟩
theorem atP_last {xs : List P} {x : P} : atI (xs ++ [x]) (-1) = some x := by
  have ix : ixN (xs ++ [x]).length (-1) = some xs.length := by
    unfold ixN
    rw [if_neg (by omega), if_pos (by simp; omega)]
    congr 1
    simp; omega
  unfold atI
  rw [ix]
  show (xs ++ [x])[xs.length]? = _
  simp
section
variable {μ ν : Mu} {δ : Sl}
theorem ac_get {n0 la i : Nat} {As : List (List At)} {ks : List Nat} (L : Live n0 μ la (rwA As) ks) (hi : i < As.length) : ∃ kk, ks[i]? = some kk ∧ n0 ≤ kk ∧ kk < la ∧ fIxD (.loc la) (.p (.int (i : Int))) μ = some (.loc kk, μ) ∧ μ[kk]? = some (some (.lst ((As.getD i []).map actR))) := by
  obtain ⟨k, hk, hc⟩ := L.get (i := i) (R := (As.getD i []).map actR) (by
    unfold rwA
    rw [List.getElem?_map, List.getD_eq_getElem?_getD, List.getElem?_eq_getElem hi]; rfl)
  have m := List.mem_of_getElem? hk
  refine ⟨k, hk, L.lo k m, L.hi k m, ?_, hc⟩
  unfold fIxD
  rw [items_live L]
  dsimp only
  rw [atI_nat (j := i) (by rw [List.getElem?_map, hk]; rfl)]
  rfl
theorem lst_at {k : Nat} {xs : List P} (h : μ[k]? = some (some (.lst xs))) : lstOf μ (.loc k) = some xs := by
  unfold lstOf
  rw [view_l h]
theorem isl_at {k : Nat} {xs : List P} (h : μ[k]? = some (some (.lst xs))) : isLst μ (.loc k) = true := by
  unfold isLst
  rw [view_l h]
theorem ix_last {k : Nat} {R : List At} {a : At} (h : μ[k]? = some (some (.lst ((R ++ [a]).map actR)))) : fIx (.loc k) (.p (.int (-1))) μ = some (.p (actR a), μ) := by
  unfold fIx
  rw [view_l h]
  dsimp only
  rw [List.map_append, List.map_cons, List.map_nil, atP_last]
  rfl
theorem mvs_ix {ms : List (List (Rat × Rat))} {k : Nat} (h : k < ms.length) : fIx (.p (mvsP ms)) (.p (.int (k : Int))) μ = some (.p (mvR (ms.getD k [])), μ) := lix (f := mvR) [] h
/-- the store with a row set -/
theorem st_set1 {s : SS} {r : Mu} {k : Nat} (h : 1 ≤ k) (X : Option MO) : (st s :: r).set k X = st s :: r.set (k - 1) X := by
  cases k with
  | zero => omega
  | succ k => rfl
end
end Vs
namespace Vs
open PySem PySem.Spec PyProof.Rows L2
open Bar (rg)
section
variable {μ ν : Mu} {δ : Sl}
theorem ac_put {s : SS} {r : Mu} {l la n1 kk i : Nat} {T : List (List P)} {As : List (List At)} {ks ka : List Nat} (L : Live 1 (st s :: r) l T ks) (La : Live n1 (st s :: r) la (rwA As) ka) (hl : l < n1) (hk : ka[i]? = some kk) (R : List At) :
    (st s :: r).set kk (some (.lst (R.map actR))) = st s :: r.set (kk - 1) (some (.lst (R.map actR))) ∧ Live 1 (st s :: r.set (kk - 1) (some (.lst (R.map actR)))) l T ks ∧ Live n1 (st s :: r.set (kk - 1) (some (.lst (R.map actR)))) la (rwA (As.set i R)) ka ∧ (r.set (kk - 1) (some (.lst (R.map actR)))).length = r.length ∧ ∀ x, x + 1 < n1 → (r.set (kk - 1) (some (.lst (R.map actR))))[x]? = r[x]? := by
  have lo := La.lo kk (List.mem_of_getElem? hk)
  have e := st_set1 (s := s) (r := r) (k := kk) (by omega) (some (.lst (R.map actR)))
  refine ⟨e, ?_, ?_, List.length_set, fun x hx => List.getElem?_set_ne (by omega)⟩
  · rw [← e]
    exact L.agree fun x _ hx => List.getElem?_set_ne (by omega)
  · rw [← e]
    have := La.set hk (R.map actR)
    unfold rwA at this ⊢
    rwa [List.map_set]
theorem max1 {mv : Nat} (h : mv ≤ 900) : ∃ x : Nat, 0 < x ∧ x ≤ 900 ∧ ∀ κ : Mu, fMax [.p (.int (mv : Int)), .p (.int 1)] κ = some (.p (.int (x : Int)), κ) := by
  by_cases q : mv = 0
  · subst q
    exact ⟨1, by decide, by decide, fun _ => rfl⟩
  · refine ⟨mv, by omega, h, fun κ => ?_⟩
    show some (D.p (.int (if (1 : Int) > (mv : Int) then 1 else (mv : Int))), κ) = _
    rw [if_neg (by omega)]
theorem act_e {i j : Nat} {ms : List (List (Rat × Rat))} {k : Nat} (hk : k < ms.length) (h1 : δ[i]? = some (some (.p (.int (k : Int))))) (h2 : δ[j]? = some (some (.p (mvsP ms)))) : evTup (evCons (evV i) (evCons (evBin fIx (evV j) (evV i)) evNil)) δ μ = some (.ok (.p (actR (k, ms.getD k []))), μ) := by
  rw [evTup_eq, evCons_eq, evV_at h1, bindG_ok, evCons_eq, evBin_eq, evV_at h2, bindG_ok, evV_at h1, bindG_ok, mvs_ix hk, okm_some, bindG_ok, evNil_eq, bindG_ok, bindG_ok, bindG_ok, toPs_cons, toPs_cons, toPs_nil, consP_some, consP_some, tup2]
  rfl
theorem sw_row {w n n1 l la m k mv first : Nat} {f : Tf} {ks ka : List Nat} {B : (Nat → Rat) → Prop} {ms : List (List (Rat × Rat))} {As : List (List At)} {s : SS} {r : Mu}
    (L : Live 1 (st s :: r) l (tbR (w + 1) f) ks) (S : SbI (w + 1) m B f) (hm : m ≤ 1000) (La : Live n1 (st s :: r) la (rwA As) ka) (hl : l < n1)
    (hA : ActsA w B k As) (hn : As.length = n) (n2 : 2 ≤ n) (n4 : n ≤ 4) (hms : ∀ x ∈ ms, Mv4 x) (hml : ms.length = w) (hk : k < w) (w4 : w ≤ 4) (hmv : mv ≤ 900) (hs : s.Ok) {c1 c5 c10 c11 c12 c13 c14 : Option D} :
    ∃ (s' : SS) (r' : Mu) (As' : List (List At)) (c10' : Option D), s'.Ok ∧ lb__law_show_0 [some (.loc 0), c1, some (.p (.int (mv : Int))), some (.p (mvsP ms)), some (.p (.int (k : Int))), c5, some (.loc l), some (.p (.int (n : Int))), some (.p (.int (first : Int))), some (.loc la), c10, c11, c12, c13, c14] (st s :: r) = some (.nx, [some (.loc 0), c1, some (.p (.int (mv : Int))), some (.p (mvsP ms)), some (.p (.int (k : Int))), c5, some (.loc l), some (.p (.int (n : Int))), some (.p (.int (first : Int))), some (.loc la), c10', c11, c12, c13, c14], st s' :: r') ∧ Live 1 (st s' :: r') l (tbR (w + 1) f) ks ∧ Live n1 (st s' :: r') la (rwA As') ka ∧ ActsA w B (k + 1) As' ∧ As'.length = n ∧ r'.length = r.length ∧ ∀ x, x + 1 < n1 → r'[x]? = r[x]? := by
  obtain ⟨X, X0, X9, eX⟩ := max1 hmv
  obtain ⟨x, s1, o1, x1, e1⟩ := draw0n (n := X) hs X0 (by omega)
  have mb : ((first : Int) + (x : Int)).fmod (n : Int) = (((first + x) % n : Nat) : Int) := by
    rw [Int.fmod_eq_emod_of_nonneg _ (by omega), Int.natCast_emod, show ((first + x : Nat) : Int) = (first : Int) + (x : Int) by omega]
  have md := fun κ : Mu => mod_int (μ := κ) (i := (first : Int) + (x : Int)) (j := (n : Int)) (by omega)
  rw [mb] at md
  have al : (first + x) % n < n := Nat.mod_lt _ (by omega)
  generalize (first + x) % n = i at *
  have iint : ∀ (i : Int) (κ : Mu), fInt [.p (.int i)] κ = some (.p (.int i), κ) := fun _ _ => rfl
  have L1 := L.st (b := st s1) (Nat.le_refl 1)
  have La1 := La.st (b := st s1) (by omega)
  obtain ⟨kk, hk1, lo, hi, ix, cell⟩ := ac_get La1 (i := i) (by omega)
  have pre : ∀ X : SEv, seqS (sSet 10 (evBin fMod (evBI fInt (evCons (evBin fAdd (evV 8) (evCall m__law_draw [] (evCons (evV 0) (evCons (evBI fMax (evCons (evV 2) (evCons (evC (.int 1)) evNil))) evNil)))) evNil)) (evV 7))) X [some (.loc 0), c1, some (.p (.int (mv : Int))), some (.p (mvsP ms)), some (.p (.int (k : Int))), c5, some (.loc l), some (.p (.int (n : Int))), some (.p (.int (first : Int))), some (.loc la), c10, c11, c12, c13, c14] (st s :: r) = X [some (.loc 0), c1, some (.p (.int (mv : Int))), some (.p (mvsP ms)), some (.p (.int (k : Int))), c5, some (.loc l), some (.p (.int (n : Int))), some (.p (.int (first : Int))), some (.loc la), some (.p (.int (i : Int))), c11, c12, c13, c14] (st s1 :: r) := fun X => by
    rw [seqS_eq, sSet_eq, evBin_eq, evBI_eq, evCons_eq, evBin_eq, evV_8, bindG_ok, evCall_eq, evCons_eq, evV_0, bindG_ok, evCons_eq, evBI_eq, evCons_eq, evV_2, bindG_ok, evCons_eq, evC_eq, bindG_ok, evNil_eq, bindG_ok, bindG_ok, bindG_ok, eX, okm_some, bindG_ok, evNil_eq, bindG_ok, bindG_ok, bindG_ok, List.map_nil, List.append_nil, e1, bindG_ok, add_ints, okm_some, bindG_ok, evNil_eq, bindG_ok, bindG_ok, iint, okm_some, bindG_ok, evV_7, bindG_ok, md, okm_some, bindS_ok, andThen_nx]
    rfl
  generalize hδ : ([some (.loc 0), c1, some (.p (.int (mv : Int))), some (.p (mvsP ms)), some (.p (.int (k : Int))), c5, some (.loc l), some (.p (.int (n : Int))), some (.p (.int (first : Int))), some (.loc la), some (.p (.int (i : Int))), c11, c12, c13, c14] : Sl) = δ at pre
  have v2 : δ[2]? = some (some (.p (.int (mv : Int)))) := by rw [← hδ]; rfl
  have v3 : δ[3]? = some (some (.p (mvsP ms))) := by rw [← hδ]; rfl
  have v4 : δ[4]? = some (some (.p (.int (k : Int)))) := by rw [← hδ]; rfl
  have v6 : δ[6]? = some (some (.loc l)) := by rw [← hδ]; rfl
  have v9 : δ[9]? = some (some (.loc la)) := by rw [← hδ]; rfl
  have v10 : δ[10]? = some (some (.p (.int (i : Int)))) := by rw [← hδ]; rfl
  have row : evBin fIxD (evV 9) (evV 10) δ (st s1 :: r) = some (.ok (.loc kk), st s1 :: r) := by
    rw [evBin_eq, evV_at v9, bindG_ok, evV_at v10, bindG_ok, ix, okm_some]
  have hR := hA.get (i := i) (by omega)
  have mk : Mv4 (ms.getD k []) := hms _ (getD_mem (by omega))
  -- the append
  have ap : sExpr (evBM isLst fApp (evBin fIxD (evV 9) (evV 10)) (evCons (evTup (evCons (evV 4) (evCons (evBin fIx (evV 3) (evV 4)) evNil))) evNil)) δ (st s1 :: r) = some (.nx, δ, st s1 :: r.set (kk - 1) (some (.lst ((As.getD i [] ++ [(k, ms.getD k [])]).map actR)))) := by
    have a1 := fApp_l (y := actR (k, ms.getD k [])) cell (line_k (by rw [List.length_map]; have := hR.len; omega))
    rw [sExpr_eq, evBM_eq, row, bindG_ok, if_pos (isl_at cell), evCons_eq, act_e (by omega) v4 v3, bindG_ok, evNil_eq, bindG_ok, bindG_ok, a1, okm_some, bindS_ok, st_set1 (by omega), List.map_append, List.map_cons, List.map_nil]
  have fin : RowA w B (k + 1) (As.getD i [] ++ [(k, ms.getD k [])]) → ∀ c : EvT, c δ (st s1 :: r) = some (.ok true, st s1 :: r) → ∃ (s' : SS) (r' : Mu) (As' : List (List At)) (c10' : Option D), s'.Ok ∧ sIf c (sExpr (evBM isLst fApp (evBin fIxD (evV 9) (evV 10)) (evCons (evTup (evCons (evV 4) (evCons (evBin fIx (evV 3) (evV 4)) evNil))) evNil))) sNil δ (st s1 :: r) = some (.nx, [some (.loc 0), c1, some (.p (.int (mv : Int))), some (.p (mvsP ms)), some (.p (.int (k : Int))), c5, some (.loc l), some (.p (.int (n : Int))), some (.p (.int (first : Int))), some (.loc la), c10', c11, c12, c13, c14], st s' :: r') ∧ Live 1 (st s' :: r') l (tbR (w + 1) f) ks ∧ Live n1 (st s' :: r') la (rwA As') ka ∧ ActsA w B (k + 1) As' ∧ As'.length = n ∧ r'.length = r.length ∧ ∀ x, x + 1 < n1 → r'[x]? = r[x]? := fun hr c hc => by
    obtain ⟨_, p2, p3, p4, p5⟩ := ac_put L1 La1 hl hk1 (As.getD i [] ++ [(k, ms.getD k [])])
    refine ⟨s1, _, As.set i (As.getD i [] ++ [(k, ms.getD k [])]), some (.p (.int (i : Int))), o1, ?_, p2, p3, hA.set hr, by rw [List.length_set]; exact hn, p4, p5⟩
    rw [sIf_eq, hc, bindS_ok, if_pos rfl, ap, ← hδ]
  have non : ∀ c : EvT, c δ (st s1 :: r) = some (.ok false, st s1 :: r) → ∃ (s' : SS) (r' : Mu) (As' : List (List At)) (c10' : Option D), s'.Ok ∧ sIf c (sExpr (evBM isLst fApp (evBin fIxD (evV 9) (evV 10)) (evCons (evTup (evCons (evV 4) (evCons (evBin fIx (evV 3) (evV 4)) evNil))) evNil))) sNil δ (st s1 :: r) = some (.nx, [some (.loc 0), c1, some (.p (.int (mv : Int))), some (.p (mvsP ms)), some (.p (.int (k : Int))), c5, some (.loc l), some (.p (.int (n : Int))), some (.p (.int (first : Int))), some (.loc la), c10', c11, c12, c13, c14], st s' :: r') ∧ Live 1 (st s' :: r') l (tbR (w + 1) f) ks ∧ Live n1 (st s' :: r') la (rwA As') ka ∧ ActsA w B (k + 1) As' ∧ As'.length = n ∧ r'.length = r.length ∧ ∀ x, x + 1 < n1 → r'[x]? = r[x]? := fun c hc => by
    refine ⟨s1, r, As, some (.p (.int (i : Int))), o1, ?_, L1, La1, fun R hR => (hA R hR).mono (Nat.le_succ _), hn, rfl, fun _ _ => rfl⟩
    rw [sIf_eq, hc, bindS_ok, if_neg (by decide), sNil_eq, ← hδ]
  unfold lb__law_show_0
  rw [pre]
  by_cases q0 : mv = 0
  · apply non
    rw [tAndV_eq, evB_eq', evBin_eq, evV_at v2, bindG_ok, evC_eq, bindG_ok, gt_int, okm_some, bindG_ok, toB_bl, bindG_ok, if_neg (by simp; omega)]
  · have go : ∀ c : EvT, tAndV' (evB (evBin fGt (evV 2) (evC (.int 0)))) c δ (st s1 :: r) = c δ (st s1 :: r) := fun c => by
      rw [tAndV_eq, evB_eq', evBin_eq, evV_at v2, bindG_ok, evC_eq, bindG_ok, gt_int, okm_some, bindG_ok, toB_bl, bindG_ok, if_pos (by simp; omega)]
    have tru : tNotV (evTruL (evBin fIxD (evV 9) (evV 10))) δ (st s1 :: r) = some (.ok (!(!((As.getD i []).map actR).isEmpty)), st s1 :: r) := by
      rw [tNotV_eq, evTruL_eq, row, bindG_ok, lst_at cell, truLEnd_some, bindG_ok]
    rcases List.eq_nil_or_concat (As.getD i []) with e | ⟨R', lst, e⟩
    · refine fin (by rw [e]; exact RowA.one hk mk) _ ?_
      rw [go, tOrV_eq, tru, bindG_ok, e]
      rfl
    · rw [List.concat_eq_append] at e
      rw [e] at cell hR tru
      have la1 := hR.act lst (by simp)
      obtain ⟨b, eb, hb⟩ := ev_fits (μ := st s1 :: r) (a := lst) (cue := k) L1 S hm (by omega) (by omega) la1.2
      have n1' : fNeg (.p (.int 1)) (st s1 :: r) = some (.p (.int (-1)), st s1 :: r) := rfl
      have cond : tAndV' (evB (evBin fGt (evV 2) (evC (.int 0)))) (tOrV' (tNotV (evTruL (evBin fIxD (evV 9) (evV 10)))) (evB (evCall m__law_fits [] (evCons (evV 6) (evCons (evBin fIx (evBin fIxD (evV 9) (evV 10)) (evUn fNeg (evC (.int 1)))) (evCons (evV 4) evNil)))))) δ (st s1 :: r) = some (.ok b, st s1 :: r) := by
        rw [go, tOrV_eq, tru, bindG_ok, if_neg (by simp), evB_eq', evCall_eq, evCons_eq, evV_at v6, bindG_ok, evCons_eq, evBin_eq, row, bindG_ok, evUn_eq, evC_eq, bindG_ok, n1', okm_some, bindG_ok, ix_last cell, okm_some, bindG_ok, evCons_eq, evV_at v4, bindG_ok, evNil_eq, bindG_ok, bindG_ok, bindG_ok, bindG_ok, List.map_nil, List.append_nil, eb, bindG_ok, toB_bl]
      cases b with
      | false => exact non _ cond
      | true => exact fin (by rw [e]; exact hR.app hk mk (hb rfl)) _ cond
end
end Vs
namespace Vs
open PySem PySem.Spec PyProof.Rows L2
open Bar (rg)
section
variable {μ ν : Mu} {δ : Sl}
theorem sw_loop {w n n1 l la m mv first : Nat} {f : Tf} {ks ka : List Nat} {B : (Nat → Rat) → Prop} {ms : List (List (Rat × Rat))}
    (S : SbI (w + 1) m B f) (hm : m ≤ 1000) (hl : l < n1) (n2 : 2 ≤ n) (n4 : n ≤ 4) (hms : ∀ x ∈ ms, Mv4 x) (hml : ms.length = w) (w4 : w ≤ 4) (hmv : mv ≤ 900) {c1 c5 c11 c12 c13 c14 : Option D} :
    ∀ (q k : Nat) (As : List (List At)) (s : SS) (r : Mu) (c4 c10 : Option D), k + q = w → s.Ok → Live 1 (st s :: r) l (tbR (w + 1) f) ks → Live n1 (st s :: r) la (rwA As) ka → ActsA w B k As → As.length = n →
    ∃ (s' : SS) (r' : Mu) (As' : List (List At)) (c4' c10' : Option D), s'.Ok ∧ forL (tgN 4) lb__law_show_0 (intsP k q) [some (.loc 0), c1, some (.p (.int (mv : Int))), some (.p (mvsP ms)), c4, c5, some (.loc l), some (.p (.int (n : Int))), some (.p (.int (first : Int))), some (.loc la), c10, c11, c12, c13, c14] (st s :: r) = some (.nx, [some (.loc 0), c1, some (.p (.int (mv : Int))), some (.p (mvsP ms)), c4', c5, some (.loc l), some (.p (.int (n : Int))), some (.p (.int (first : Int))), some (.loc la), c10', c11, c12, c13, c14], st s' :: r') ∧ Live 1 (st s' :: r') l (tbR (w + 1) f) ks ∧ Live n1 (st s' :: r') la (rwA As') ka ∧ ActsA w B w As' ∧ As'.length = n ∧ r'.length = r.length ∧ ∀ x, x + 1 < n1 → r'[x]? = r[x]?
  | 0, k, As, s, r, c4, c10, e, hs, L, La, hA, hn => ⟨s, r, As, c4, c10, hs, rfl, L, La, by
      obtain rfl : k = w := by omega
      exact hA, hn, rfl, fun _ _ => rfl⟩
  | q + 1, k, As, s, r, c4, c10, e, hs, L, La, hA, hn => by
    obtain ⟨s1, r1, As1, d10, o1, e1, L1, La1, hA1, hn1, rl1, g1⟩ := sw_row (first := first) (c1 := c1) (c5 := c5) (c10 := c10) (c11 := c11) (c12 := c12) (c13 := c13) (c14 := c14) L S hm La hl hA hn n2 n4 hms hml (by omega) w4 hmv hs
    obtain ⟨s2, r2, As2, d4, f10, o2, e2, L2, La2, hA2, hn2, rl2, g2⟩ := sw_loop S hm hl n2 n4 hms hml w4 hmv q (k + 1) As1 s1 r1 (some (.p (.int (k : Int)))) d10 (by omega) o1 L1 La1 hA1 hn1
    refine ⟨s2, r2, As2, d4, f10, o2, ?_, L2, La2, hA2, hn2, by omega, fun x hx => by rw [g2 x hx, g1 x hx]⟩
    rw [intsP_succ, forL_nx rfl (by exact e1), e2]
/-- a cue that starts two -/
theorem sw_two {w n n1 l la mv first : Nat} {f : Tf} {ks ka : List Nat} {B : (Nat → Rat) → Prop} {ms : List (List (Rat × Rat))} {As : List (List At)} {s : SS} {r : Mu}
    (L : Live 1 (st s :: r) l (tbR (w + 1) f) ks) (La : Live n1 (st s :: r) la (rwA As) ka) (hl : l < n1) (hA : ActsA w B w As) (hn : As.length = n) (n2 : 2 ≤ n) (n4 : n ≤ 4) (hf : first < n) (hms : ∀ x ∈ ms, Mv4 x) (hml : ms.length = w) (w1 : 1 ≤ w) (w4 : w ≤ 4) {c4 c5 c10 c11 c12 c13 c14 : Option D} {X : SEv} :
    ∃ (r' : Mu) (As' : List (List At)) (c11' : Option D), seqS (sSet 11 (evBin fMod (evBI fInt (evCons (evBin fAdd (evV 8) (evC (.int 1))) evNil)) (evV 7))) (seqS (sIf (tAndV' (evB (evBin fGt (evV 2) (evC (.int 1)))) (tAndV' (evB (evBin fLt (evV 1) (evC (.int 3)))) (tAndV' (tNotV (evTruL (evBin fIxD (evV 9) (evV 11)))) (evTruL (evBin fIxD (evV 9) (evV 8)))))) (sExpr (evBM isLst fApp (evBin fIxD (evV 9) (evV 11)) (evCons (evTup (evCons (evBin fIx (evBin fIx (evBin fIxD (evV 9) (evV 8)) (evUn fNeg (evC (.int 1)))) (evC (.int 0))) (evCons (evBin fIx (evV 3) (evC (.int 0))) evNil))) evNil))) sNil) X) [some (.loc 0), some (.p (.int (w : Int))), some (.p (.int (mv : Int))), some (.p (mvsP ms)), c4, c5, some (.loc l), some (.p (.int (n : Int))), some (.p (.int (first : Int))), some (.loc la), c10, c11, c12, c13, c14] (st s :: r) = X [some (.loc 0), some (.p (.int (w : Int))), some (.p (.int (mv : Int))), some (.p (mvsP ms)), c4, c5, some (.loc l), some (.p (.int (n : Int))), some (.p (.int (first : Int))), some (.loc la), c10, c11', c12, c13, c14] (st s :: r') ∧ Live 1 (st s :: r') l (tbR (w + 1) f) ks ∧ Live n1 (st s :: r') la (rwA As') ka ∧ ActsA w B w As' ∧ As'.length = n ∧ r'.length = r.length ∧ ∀ x, x + 1 < n1 → r'[x]? = r[x]? := by
  have mb : ((first : Int) + 1).fmod (n : Int) = (((first + 1) % n : Nat) : Int) := by
    rw [Int.fmod_eq_emod_of_nonneg _ (by omega), Int.natCast_emod, show ((first + 1 : Nat) : Int) = (first : Int) + 1 by omega]
  have md := fun κ : Mu => mod_int (μ := κ) (i := (first : Int) + 1) (j := (n : Int)) (by omega)
  rw [mb] at md
  have al : (first + 1) % n < n := Nat.mod_lt _ (by omega)
  generalize (first + 1) % n = i at *
  have iint : ∀ (i : Int) (κ : Mu), fInt [.p (.int i)] κ = some (.p (.int i), κ) := fun _ _ => rfl
  obtain ⟨kk, hk1, lo, hi, ix, cell⟩ := ac_get La (i := i) (by omega)
  obtain ⟨kf, hk2, lo2, hi2, ix2, cell2⟩ := ac_get La (i := first) (by omega)
  have pre : ∀ X : SEv, seqS (sSet 11 (evBin fMod (evBI fInt (evCons (evBin fAdd (evV 8) (evC (.int 1))) evNil)) (evV 7))) X [some (.loc 0), some (.p (.int (w : Int))), some (.p (.int (mv : Int))), some (.p (mvsP ms)), c4, c5, some (.loc l), some (.p (.int (n : Int))), some (.p (.int (first : Int))), some (.loc la), c10, c11, c12, c13, c14] (st s :: r) = X [some (.loc 0), some (.p (.int (w : Int))), some (.p (.int (mv : Int))), some (.p (mvsP ms)), c4, c5, some (.loc l), some (.p (.int (n : Int))), some (.p (.int (first : Int))), some (.loc la), c10, some (.p (.int (i : Int))), c12, c13, c14] (st s :: r) := fun X => by
    rw [seqS_eq, sSet_eq, evBin_eq, evBI_eq, evCons_eq, evBin_eq, evV_8, bindG_ok, evC_eq, bindG_ok, add_ints, okm_some, bindG_ok, evNil_eq, bindG_ok, bindG_ok, iint, okm_some, bindG_ok, evV_7, bindG_ok, md, okm_some, bindS_ok, andThen_nx]
    rfl
  rw [pre]
  have non : ∀ (c : EvT) (A : SEv) (δ : Sl), c δ (st s :: r) = some (.ok false, st s :: r) → seqS (sIf c A sNil) X δ (st s :: r) = X δ (st s :: r) := fun c A δ hc => by
    rw [seqS_eq, sIf_eq, hc, bindS_ok, if_neg (by decide), sNil_eq, andThen_nx]
  generalize hδ : ([some (.loc 0), some (.p (.int (w : Int))), some (.p (.int (mv : Int))), some (.p (mvsP ms)), c4, c5, some (.loc l), some (.p (.int (n : Int))), some (.p (.int (first : Int))), some (.loc la), c10, some (.p (.int (i : Int))), c12, c13, c14] : Sl) = δ
  have v1 : δ[1]? = some (some (.p (.int (w : Int)))) := by rw [← hδ]; rfl
  have v2 : δ[2]? = some (some (.p (.int (mv : Int)))) := by rw [← hδ]; rfl
  have v3 : δ[3]? = some (some (.p (mvsP ms))) := by rw [← hδ]; rfl
  have v8 : δ[8]? = some (some (.p (.int (first : Int)))) := by rw [← hδ]; rfl
  have v9 : δ[9]? = some (some (.loc la)) := by rw [← hδ]; rfl
  have v11 : δ[11]? = some (some (.p (.int (i : Int)))) := by rw [← hδ]; rfl
  have row : evBin fIxD (evV 9) (evV 11) δ (st s :: r) = some (.ok (.loc kk), st s :: r) := by
    rw [evBin_eq, evV_at v9, bindG_ok, evV_at v11, bindG_ok, ix, okm_some]
  have row2 : evBin fIxD (evV 9) (evV 8) δ (st s :: r) = some (.ok (.loc kf), st s :: r) := by
    rw [evBin_eq, evV_at v9, bindG_ok, evV_at v8, bindG_ok, ix2, okm_some]
  have tru : tNotV (evTruL (evBin fIxD (evV 9) (evV 11))) δ (st s :: r) = some (.ok (!(!((As.getD i []).map actR).isEmpty)), st s :: r) := by
    rw [tNotV_eq, evTruL_eq, row, bindG_ok, lst_at cell, truLEnd_some, bindG_ok]
  have tru2 : evTruL (evBin fIxD (evV 9) (evV 8)) δ (st s :: r) = some (.ok (!((As.getD first []).map actR).isEmpty), st s :: r) := by
    rw [evTruL_eq, row2, bindG_ok, lst_at cell2, truLEnd_some]
  have stay : tAndV' (evB (evBin fGt (evV 2) (evC (.int 1)))) (tAndV' (evB (evBin fLt (evV 1) (evC (.int 3)))) (tAndV' (tNotV (evTruL (evBin fIxD (evV 9) (evV 11)))) (evTruL (evBin fIxD (evV 9) (evV 8))))) δ (st s :: r) = some (.ok (decide (1 < (mv : Int)) && (decide ((w : Int) < 3) && ((!(!((As.getD i []).map actR).isEmpty)) && !((As.getD first []).map actR).isEmpty))), st s :: r) := by
    rw [tAndV_eq, evB_eq', evBin_eq, evV_at v2, bindG_ok, evC_eq, bindG_ok, gt_int, okm_some, bindG_ok, toB_bl, bindG_ok]
    cases decide (1 < (mv : Int)) with
    | false => rfl
    | true =>
      rw [if_pos rfl, tAndV_eq, evB_eq', evBin_eq, evV_at v1, bindG_ok, evC_eq, bindG_ok, lt_int, okm_some, bindG_ok, toB_bl, bindG_ok]
      cases decide ((w : Int) < 3) with
      | false => rfl
      | true =>
        rw [if_pos rfl, tAndV_eq, tru, bindG_ok]
        cases !(!((As.getD i []).map actR).isEmpty) with
        | false => rfl
        | true => rw [if_pos rfl, tru2]; rfl
  by_cases q : (decide (1 < (mv : Int)) && (decide ((w : Int) < 3) && ((!(!((As.getD i []).map actR).isEmpty)) && !((As.getD first []).map actR).isEmpty))) = true
  · rw [q] at stay
    rw [Bool.and_eq_true, Bool.and_eq_true, Bool.and_eq_true] at q
    obtain ⟨_, _, q1, q2⟩ := q
    have e1 : As.getD i [] = [] := by
      cases h : As.getD i [] with
      | nil => rfl
      | cons a b => rw [h] at q1; cases q1
    rcases List.eq_nil_or_concat (As.getD first []) with e | ⟨R', lst, e⟩
    · rw [e] at q2; cases q2
    · rw [List.concat_eq_append] at e
      have hR := hA.get (i := first) (by omega)
      rw [e] at hR cell2
      rw [e1] at cell
      have la1 := hR.act lst (by simp)
      have mk : Mv4 (ms.getD 0 []) := hms _ (getD_mem (by omega))
      have n1' : fNeg (.p (.int 1)) (st s :: r) = some (.p (.int (-1)), st s :: r) := rfl
      have i0 : fIx (.p (actR lst)) (.p (.int 0)) (st s :: r) = some (.p (.int (lst.1 : Int)), st s :: r) := rfl
      have m0 := mvs_ix (μ := st s :: r) (ms := ms) (k := 0) (by omega)
      rw [show ((0 : Nat) : Int) = 0 from rfl] at m0
      have te : evTup (evCons (evBin fIx (evBin fIx (evBin fIxD (evV 9) (evV 8)) (evUn fNeg (evC (.int 1)))) (evC (.int 0))) (evCons (evBin fIx (evV 3) (evC (.int 0))) evNil)) δ (st s :: r) = some (.ok (.p (actR (lst.1, ms.getD 0 []))), st s :: r) := by
        rw [evTup_eq, evCons_eq, evBin_eq, evBin_eq, row2, bindG_ok, evUn_eq, evC_eq, bindG_ok, n1', okm_some, bindG_ok, ix_last cell2, okm_some, bindG_ok, evC_eq, bindG_ok, i0, okm_some, bindG_ok, evCons_eq, evBin_eq, evV_at v3, bindG_ok, evC_eq, bindG_ok, m0, okm_some, bindG_ok, evNil_eq, bindG_ok, bindG_ok, bindG_ok, toPs_cons, toPs_cons, toPs_nil, consP_some, consP_some, tup2]
        rfl
      have a1 := fApp_l (y := actR (lst.1, ms.getD 0 [])) cell (line_k (by simp))
      obtain ⟨p1, p2, p3, p4, p5⟩ := ac_put L La hl hk1 [(lst.1, ms.getD 0 [])]
      refine ⟨_, As.set i [(lst.1, ms.getD 0 [])], some (.p (.int (i : Int))), ?_, p2, p3, fun R hR => ?_, by rw [List.length_set]; exact hn, p4, p5⟩
      · rw [seqS_eq, sIf_eq, stay, bindS_ok, if_pos rfl, sExpr_eq, evBM_eq, row, bindG_ok, if_pos (isl_at cell), evCons_eq, te, bindG_ok, evNil_eq, bindG_ok, bindG_ok, a1, okm_some, bindS_ok, andThen_nx]
        rw [List.map_nil, List.nil_append]
        rw [show [actR (lst.1, ms.getD 0 [])] = [(lst.1, ms.getD 0 [])].map actR from rfl, p1, ← hδ]
      · rcases List.mem_or_eq_of_mem_set hR with z | rfl
        · exact hA R z
        · exact (RowA.one (k := 0) (a := (lst.1, ms.getD 0 [])) la1.1 mk).mono (by omega)
  · rw [Bool.not_eq_true] at q
    rw [q] at stay
    exact ⟨r, As, some (.p (.int (i : Int))), by rw [non _ _ _ stay, ← hδ], L, La, hA, hn, rfl, fun _ _ => rfl⟩
end
end Vs
namespace Vs
open PySem PySem.Spec PyProof.Rows L2
open Bar (rg)
section
variable {μ ν : Mu} {δ : Sl}
theorem brk_ex {s : SS} (hs : s.Ok) : ∃ q s', SS.Ok s' ∧ Dr q ∧ 0 < q ∧ ∀ (r : Mu) (δ : Sl), δ[0]? = some (some (.loc 0)) → evMake 0 2 m_Ratiou_initu [] (evCons (evBin fAdd (evC (.int 1)) (evCall m__law_draw [] (evCons (evV 0) (evCons (evC (.int 4)) evNil)))) (evCons (evBin fAdd (evC (.int 1)) (evCall m__law_draw [] (evCons (evV 0) (evCons (evC (.int 2)) evNil)))) evNil)) δ (st s :: r) = some (.ok (.p (rat q)), st s' :: r) := by
  obtain ⟨x, s1, o1, l1, u1, e1⟩ := draw0 4 hs
  obtain ⟨y, s2, o2, l2, u2, e2⟩ := draw0 2 o1
  refine ⟨Rat.divInt (1 + x) (1 + y), s2, o2, dr_of (sz_lt 4 (by omega)) (sz_lt 2 (by omega)) (by omega), ?_, fun r δ hd => ?_⟩
  · have : x = 0 ∨ x = 1 ∨ x = 2 ∨ x = 3 := by omega
    have : y = 0 ∨ y = 1 := by omega
    rcases ‹x = 0 ∨ x = 1 ∨ x = 2 ∨ x = 3› with rfl | rfl | rfl | rfl <;> rcases ‹y = 0 ∨ y = 1› with rfl | rfl <;> decide +kernel
  · refine mkD ?_ (by omega) (sz_lt 2 (by omega))
    rw [evCons_eq, drC1 e1 hd, bindG_ok, evCons_eq, drC1 e2 hd, bindG_ok, evNil_eq, bindG_ok, bindG_ok]
theorem base_ex {s : SS} (hs : s.Ok) : ∃ q s', SS.Ok s' ∧ Bz 20 q ∧ ∀ (r : Mu) (δ : Sl), δ[0]? = some (some (.loc 0)) → evBin (fOwn 0 m_Ratiou_addu) (evCall m__law_snumber [] (evCons (evV 0) evNil)) (evMake 0 2 m_Ratiou_initu [.int 1] (evCons (evBin fMul (evC (.int 8)) (evCall m__law_draw [] (evCons (evV 0) (evCons (evC (.int 2)) evNil)))) evNil)) δ (st s :: r) = some (.ok (.p (rat q)), st s' :: r) := by
  obtain ⟨p, s1, o1, pb, e1⟩ := snum_ex hs
  obtain ⟨y, s2, o2, l2, u2, e2⟩ := draw0 2 o1
  have mo : mulOk 8 y = true := by
    have : y = 0 ∨ y = 1 := by omega
    rcases this with rfl | rfl <;> decide
  have yb : Bz 4 ((8 * y : Int) : Rat) := ⟨by decide, by rw [Rat.num_intCast]; exact sz_lt 8 (by omega), by rw [Rat.den_intCast]; exact sz_lt 1 (by decide)⟩
  have ad := fun κ : Mu => o_add' (μ := κ) pb yb (by decide)
  have mu := fun κ : Mu => mul_int (μ := κ) mo
  refine ⟨p + ((8 * y : Int) : Rat), s2, o2, (pb.add yb).mono (by decide), fun r δ hd => ?_⟩
  have mk := mkI (δ := δ) (μ := st s1 :: r) (ν := st s2 :: r) (n := 8 * y) (a := evCons (evBin fMul (evC (.int 8)) (evCall m__law_draw [] (evCons (evV 0) (evCons (evC (.int 2)) evNil)))) evNil) (by
    rw [evCons_eq, evBin_eq, evC_eq, bindG_ok, drC e2 hd, bindG_ok, mu, okm_some, bindG_ok, evNil_eq, bindG_ok])
  rw [evBin_eq, evCall_eq, evCons_eq, evV_at hd, bindG_ok, evNil_eq, bindG_ok, bindG_ok, List.map_nil, List.append_nil, e1, bindG_ok, mk, bindG_ok, ad, okm_some]
theorem tup_at {i j : Nat} {la kk : Nat} {x : P} {xs : List P} (h1 : δ[i]? = some (some (.loc la))) (h2 : δ[j]? = some (some (.p x))) (ix : fIxD (.loc la) (.p x) μ = some (.loc kk, μ)) (hc : μ[kk]? = some (some (.lst xs))) : evBI fTupOf (evCons (evBin fIxD (evV i) (evV j)) evNil) δ μ = some (.ok (.p (.tup xs)), μ) := by
  rw [evBI_eq, evCons_eq, evBin_eq, evV_at h1, bindG_ok, evV_at h2, bindG_ok, ix, okm_some, bindG_ok, evNil_eq, bindG_ok, bindG_ok]
  unfold fTupOf
  dsimp only
  rw [lst_at hc]
  rfl
theorem mc_loop {w n n1 la k : Nat} {ka : List Nat} {B : (Nat → Rat) → Prop} {As : List (List At)} {r : Mu} {s0 : SS} (La : Live n1 (st s0 :: r) la (rwA As) ka) (h1 : 1 ≤ n1) (hA : ActsA w B k As) (k4 : k ≤ 4) (hn : As.length = n) {c1 c2 c3 c4 c5 c6 c7 c8 c11 c14 : Option D} : ∀ (q i : Nat) (s : SS), s.Ok → i + q = n → ∃ (ms : List Mc) (s' : SS), s'.Ok ∧ ms.length = q ∧ (∀ j m, ms[j]? = some m → McOk w m ∧ m.acts = As.getD (i + j) []) ∧
    ∀ (acc : List Mc) (c10 c13 : Option D), acc.length + q ≤ 900 → ∃ c10' c13', forL (tgN 10) lb__law_show_1 (intsP i q) [some (.loc 0), c1, c2, c3, c4, c5, c6, c7, c8, some (.loc la), c10, c11, some (.loc (r.length + 1)), c13, c14] (st s :: (r ++ [some (.lst (acc.map Mc.r))])) = some (.nx, [some (.loc 0), c1, c2, c3, c4, c5, c6, c7, c8, some (.loc la), c10', c11, some (.loc (r.length + 1)), c13', c14], st s' :: (r ++ [some (.lst ((acc ++ ms).map Mc.r))])) := by
  intro q
  induction q with
  | zero => intro i s hs _; exact ⟨[], s, hs, rfl, (fun j m h => by simp at h), fun acc c10 c13 _ => ⟨c10, c13, by rw [List.append_nil]; rfl⟩⟩
  | succ q ih =>
    intro i s hs hi
    obtain ⟨bk, s1, o1, bd, b0, e1⟩ := brk_ex hs
    obtain ⟨bs, s2, o2, bb, e2⟩ := base_ex o1
    obtain ⟨ms, s3, o3, ml, mo, e3⟩ := ih (i + 1) s2 o2 (by omega)
    have hR := hA.get (i := i) (by omega)
    refine ⟨⟨bs, bk, As.getD i []⟩ :: ms, s3, o3, by rw [List.length_cons, ml], fun j m h => ?_, fun acc c10 c13 ha => ?_⟩
    · cases j with
      | zero => cases h; exact ⟨⟨bb, bd, b0, Nat.le_trans hR.len k4, hR.act⟩, rfl⟩
      | succ j =>
        have := mo j m (by simpa using h)
        rwa [show i + 1 + j = i + (j + 1) by omega] at this
    · have La2 : Live n1 (st s2 :: (r ++ [some (MO.lst (acc.map Mc.r))])) la (rwA As) ka := (La.st (b := st s2) h1).ext (Ext.app (μ := st s2 :: r) [some (MO.lst (acc.map Mc.r))])
      obtain ⟨kk, hk1, lo, hi', ix, cell⟩ := ac_get La2 (i := i) (by omega)
      have body : lb__law_show_1 [some (.loc 0), c1, c2, c3, c4, c5, c6, c7, c8, some (.loc la), some (.p (.int (i : Int))), c11, some (.loc (r.length + 1)), c13, c14] (st s :: (r ++ [some (.lst (acc.map Mc.r))])) = some (.nx, [some (.loc 0), c1, c2, c3, c4, c5, c6, c7, c8, some (.loc la), some (.p (.int (i : Int))), c11, some (.loc (r.length + 1)), some (.p (rat bk)), c14], st s2 :: (r ++ [some (.lst ((acc ++ [Mc.mk bs bk (As.getD i [])]).map Mc.r))])) := by
        have te : evTup (evCons (evBin (fOwn 0 m_Ratiou_addu) (evCall m__law_snumber [] (evCons (evV 0) evNil)) (evMake 0 2 m_Ratiou_initu [.int 1] (evCons (evBin fMul (evC (.int 8)) (evCall m__law_draw [] (evCons (evV 0) (evCons (evC (.int 2)) evNil)))) evNil))) (evCons (evV 13) (evCons (evBI fTupOf (evCons (evBin fIxD (evV 9) (evV 10)) evNil)) evNil))) [some (.loc 0), c1, c2, c3, c4, c5, c6, c7, c8, some (.loc la), some (.p (.int (i : Int))), c11, some (.loc (r.length + 1)), some (.p (rat bk)), c14] (st s1 :: (r ++ [some (.lst (acc.map Mc.r))])) = some (.ok (.p (Mc.mk bs bk (As.getD i [])).r), st s2 :: (r ++ [some (.lst (acc.map Mc.r))])) := by
          have ta := tup_at (δ := [some (.loc 0), c1, c2, c3, c4, c5, c6, c7, c8, some (.loc la), some (.p (.int (i : Int))), c11, some (.loc (r.length + 1)), some (.p (rat bk)), c14]) (i := 9) (j := 10) rfl rfl ix cell
          rw [evTup_eq, evCons_eq, e2 _ _ rfl, bindG_ok, evCons_eq, evV_13, bindG_ok, evCons_eq, ta, bindG_ok, evNil_eq, bindG_ok, bindG_ok, bindG_ok, bindG_ok, toPs_cons, toPs_cons, toPs_cons, toPs_nil, consP_some, consP_some, consP_some, tup3]
          rfl
        have ap := ap0 (acc := acc.map Mc.r) (y := (Mc.mk bs bk (As.getD i [])).r) (s := s2) (r := r) (by rw [List.length_map]; omega)
        unfold lb__law_show_1
        rw [seqS_eq, sSet_eq, e1 _ _ rfl, bindS_ok, andThen_nx]
        simp only [List.set_cons_succ, List.set_cons_zero]
        rw [sExpr_eq, evBM_eq, evV_12, bindG_ok, if_pos is0, evCons_eq, te, bindG_ok, evNil_eq, bindG_ok, bindG_ok, ap, okm_some, bindS_ok, List.map_append, List.map_cons, List.map_nil]
      obtain ⟨d10, d13, e⟩ := e3 (acc ++ [Mc.mk bs bk (As.getD i [])]) (some (.p (.int (i : Int)))) (some (.p (rat bk))) (by rw [List.length_append]; simp; omega)
      refine ⟨d10, d13, ?_⟩
      rw [intsP_succ, forL_nx rfl body, e, List.append_assoc]
      rfl
end
end Vs
namespace Vs
open PySem PySem.Spec PyProof.Rows L2
open Bar (rg)
theorem ext_st {s : SS} {r μ : Mu} (e : Ext (st s :: r) μ) : ∃ r', μ = st s :: r' ∧ r.length ≤ r'.length ∧ ∀ x, x < r.length → r'[x]? = r[x]? := by
  cases μ with
  | nil => have := e.len; simp at this
  | cons o r' =>
    have h0 := e.get 0 (by simp)
    simp at h0
    subst h0
    refine ⟨r', rfl, by have := e.len; simpa using this, fun x hx => ?_⟩
    have := e.get (x + 1) (by simp; omega)
    simpa using this
theorem take_agree {r r' : Mu} (hl : r.length ≤ r'.length) (h : ∀ x, x < r.length → r'[x]? = r[x]?) : r'.take r.length = r := by
  apply List.ext_getElem?
  intro j
  by_cases q : j < r.length
  · rw [List.getElem?_take_of_lt q, h j q]
  · rw [List.getElem?_eq_none (by rw [List.length_take]; omega), List.getElem?_eq_none (by omega)]
section
variable {μ ν : Mu} {δ : Sl}
theorem tot_i {v : Int} (h0 : 0 ≤ v) (h4 : v < 4) : ∃ n : Nat, 2 ≤ n ∧ n ≤ 4 ∧ ∀ κ : Mu, fIx (.p (.lst [.int 2, .int 2, .int 3, .int 4])) (.p (.int v)) κ = some (.p (.int (n : Int)), κ) := by
  have : v = 0 ∨ v = 1 ∨ v = 2 ∨ v = 3 := by omega
  rcases this with rfl | rfl | rfl | rfl
  · exact ⟨2, by decide, by decide, fun _ => rfl⟩
  · exact ⟨2, by decide, by decide, fun _ => rfl⟩
  · exact ⟨3, by decide, by decide, fun _ => rfl⟩
  · exact ⟨4, by decide, by decide, fun _ => rfl⟩
theorem tot_e {s s' : SS} {v : Int} {n : Nat} {r : Mu} (e : ∀ r : Mu, m__law_draw [.loc 0, .p (.int 4)] (st s :: r) = some (.ok (.p (.int v)), st s' :: r)) (ix : ∀ κ : Mu, fIx (.p (.lst [.int 2, .int 2, .int 3, .int 4])) (.p (.int v)) κ = some (.p (.int (n : Int)), κ)) (hd : δ[0]? = some (some (.loc 0))) : evBin fIx (evLst (evCons (evC (.int 2)) (evCons (evC (.int 2)) (evCons (evC (.int 3)) (evCons (evC (.int 4)) evNil))))) (evCall m__law_draw [] (evCons (evV 0) (evCons (evC (.int 4)) evNil))) δ (st s :: r) = some (.ok (.p (.int (n : Int))), st s' :: r) := by
  rw [evBin_eq, four_l, bindG_ok, drC e hd, bindG_ok, ix, okm_some]
theorem rot_e {i j k : Nat} {xs : List P} (hx : xs.length ≤ 900) (hk : k ≤ xs.length) (h1 : δ[i]? = some (some (.p (.lst xs)))) (h2 : δ[j]? = some (some (.p (.int (k : Int))))) : evBI fTupOf (evCons (evBin fCatL (evSl (evV i) (evPt (evV j)) evNoP) (evSl (evV i) evNoP (evPt (evV j)))) evNil) δ μ = some (.ok (.p (.tup (xs.drop k ++ xs.take k))), μ) := by
  have ct : fCatL (.p (.lst (xs.drop k))) (.p (.lst (xs.take k))) μ = some (.p (.lst (xs.drop k ++ xs.take k)), μ) := fCatL_p (Nat.le_of_lt (line_k (by rw [List.length_drop, List.length_take]; omega)))
  have tu : fTupOf [.p (.lst (xs.drop k ++ xs.take k))] μ = some (.p (.tup (xs.drop k ++ xs.take k)), μ) := rfl
  rw [evBI_eq, evCons_eq, evBin_eq, evSl_eq, evV_at h1, bindG_ok, evPt_eq, evV_at h2, bindG_ok, ptEnd_int, bindG_ok, evNoP_eq, bindG_ok, lstOf_lst, slEnd_some, bindG_ok, evSl_eq, evV_at h1, bindG_ok, evNoP_eq, bindG_ok, evPt_eq, evV_at h2, bindG_ok, ptEnd_int, bindG_ok, lstOf_lst, slEnd_some, bindG_ok, cut_hi, cut_lo, ct, okm_some, bindG_ok, evNil_eq, bindG_ok, bindG_ok, tu, okm_some]
theorem three_l {a b c : Ev} {x y z : P} {μ1 μ2 μ3 : Mu} (h1 : a δ μ = some (.ok (.p x), μ1)) (h2 : b δ μ1 = some (.ok (.p y), μ2)) (h3 : c δ μ2 = some (.ok (.p z), μ3)) : evLst (evCons a (evCons b (evCons c evNil))) δ μ = some (.ok (.p (.lst [x, y, z])), μ3) := by
  rw [evLst_eq, evCons_eq, h1, bindG_ok, evCons_eq, h2, bindG_ok, evCons_eq, h3, bindG_ok, evNil_eq, bindG_ok, bindG_ok, bindG_ok, bindG_ok, toPs_cons, toPs_cons, toPs_cons, toPs_nil, consP_some, consP_some, consP_some, lstEnd_some, if_pos (Nat.le_of_lt (line_k (by simp)))]
/-- what a show keeps -/
structure Sho (cs : List Cue) (ms : List Mc) (rls : List Rl) : Prop where
  mc : ∀ j, j < ms.length → McOk cs.length (ms.getD j Mc0)
  sq : ∀ ts, BT cs (rg ts) → ∀ j, j < ms.length → Seq (acs ts (ms.getD j Mc0).acts)
  m2 : 2 ≤ ms.length
  m4 : ms.length ≤ 4
  rl : ∀ R ∈ rls, RlOk ms.length cs.length R
  r3 : rls.length = 3
/-- the moves, the sheet, the table, the number of machines, the first of them, the empty acts -/
theorem show_a {w mv : Nat} (w1 : 1 ≤ w) (w4 : w ≤ 4) {s : SS} (hs : s.Ok) (r : Mu) : ∃ (ms : List (List (Rat × Rat))) (cs : List Cue) (n first l la : Nat) (f : Tf) (ks ka : List Nat) (s' : SS) (r' : Mu) (n1 : Nat), s'.Ok ∧ (∀ x ∈ ms, Mv4 x) ∧ ms.length = w ∧ Sh4 w cs ∧ 2 ≤ n ∧ n ≤ 4 ∧ first < n ∧ Live 1 (st s' :: r') l (tbR (w + 1) f) ks ∧ SbI (w + 1) 200 (BT cs) f ∧ Live n1 (st s' :: r') la (rwA ((List.range n).map fun _ => [])) ka ∧ l < n1 ∧ r.length < n1 ∧ r.length ≤ r'.length ∧ (∀ x, x < r.length → r'[x]? = r[x]?) ∧
    ∀ X : SEv, seqS (sSet 3 (evLc (evRng1 (evV 1)) (tgN 4) evTrue (evCall m__law_smove [] (evCons (evV 0) evNil)) [4])) (seqS (sSet 5 (evCall m__law_ssheet [] (evCons (evV 0) (evCons (evV 3) evNil)))) (seqS (sSet 6 (evCall m__law_sbounds [] (evCons (evV 5) evNil))) (seqS (sSet 7 (evBin fIx (evLst (evCons (evC (.int 2)) (evCons (evC (.int 2)) (evCons (evC (.int 3)) (evCons (evC (.int 4)) evNil))))) (evCall m__law_draw [] (evCons (evV 0) (evCons (evC (.int 4)) evNil))))) (seqS (sSet 8 (evCall m__law_draw [] (evCons (evV 0) (evCons (evV 7) evNil)))) (seqS (sSet 9 (evLcD (evUpI (evRng1 (evV 7))) (tgUp (tgN 4)) evTrue (evLstC evNil) [4])) X))))) [some (.loc 0), some (.p (.int (w : Int))), some (.p (.int (mv : Int))), none, none, none, none, none, none, none, none, none, none, none, none] (st s :: r) =
      X [some (.loc 0), some (.p (.int (w : Int))), some (.p (.int (mv : Int))), some (.p (mvsP ms)), none, some (.p (shR cs)), some (.loc l), some (.p (.int (n : Int))), some (.p (.int (first : Int))), some (.loc la), none, none, none, none, none] (st s' :: r') := by
  obtain ⟨ms, s1, o1, mok, ml, e1⟩ := lcd (B := fun rs => Mv4 rs) mvR (ts := tgN 4) (vs := [4]) (e := evCall m__law_smove [] (evCons (evV 0) evNil)) (fun δ1 => δ1[0]? = some (some (.loc 0))) (fun s hs => by
    obtain ⟨rs, s1, o1, h1, e1⟩ := smove_ex hs
    exact ⟨rs, s1, o1, h1, fun δ1 r hd => by rw [evCall_eq, evCons_eq, evV_at hd, bindG_ok, evNil_eq, bindG_ok, bindG_ok, List.map_nil, List.append_nil, e1]⟩) w (by omega) hs
  obtain ⟨cs, s2, o2, Sh, e2⟩ := ssheet_ex mok (by omega) o1
  rw [ml] at Sh
  obtain ⟨μ3, l, ks, f, e3, x3, L3, I3⟩ := ev_sbounds (μ := st s2 :: r) Sh w4
  rw [Sh.len] at L3 I3
  obtain ⟨r3, rfl, rl3, g3⟩ := ext_st x3
  obtain ⟨v, s4, o4', v0, v4, e4⟩ := draw0 4 o2
  obtain ⟨n, n2, n4, ix4⟩ := tot_i v0 v4
  obtain ⟨first, s5, o5, f5, e5⟩ := draw0n (n := n) o4' (by omega) (by omega)
  have L5 := (L3.le (n1 := 1) (by simp)).st (b := st s5) (Nat.le_refl 1)
  have hn : evRng1 (evV 7) [some (.loc 0), some (.p (.int (w : Int))), some (.p (.int (mv : Int))), some (.p (mvsP ms)), none, some (.p (shR cs)), some (.loc l), some (.p (.int (n : Int))), some (.p (.int (first : Int))), none, none, none, none, none, none] (st s5 :: r3) = some (.ok (intsP 0 n), st s5 :: r3) := rng_n n rfl (by omega)
  obtain ⟨μ6, la, ka, e6, x6, L6⟩ := lcD_map (it := evUpI (evRng1 (evV 7))) (ts := tgUp (tgN 4)) (vs := [4]) (gd := none) (ν := st s5 :: r3) (μ := st s5 :: r3)
    (δ := [some (.loc 0), some (.p (.int (w : Int))), some (.p (.int (mv : Int))), some (.p (mvsP ms)), none, some (.p (shR cs)), some (.loc l), some (.p (.int (n : Int))), some (.p (.int (first : Int))), none, none, none, none, none, none]) (e := evLstC evNil)
    (as := List.range n) (fun (a : Nat) => .one (.p (.int (a : Int)))) (fun _ => []) (by rw [evUpI_eq, hn, bindG_ok, intsP_map, List.map_map]; rfl) trivial (fun a ha => ⟨_, rfl, fun ξ _ => by
      rw [evLstC_eq, evNil_eq, bindG_ok, toPs_nil, lstEndC_some, if_pos (show ([] : List P).length ≤ sizeLine from line_0)]⟩) (Nat.le_of_lt (line_k (by rw [List.length_range]; omega)))
  obtain ⟨r6, rfl, rl6, g6⟩ := ext_st x6
  have e0 : rwA ((List.range n).map fun _ => []) = (List.range n).map fun _ => ([] : List P) := by unfold rwA; rw [List.map_map]; rfl
  rw [← e0] at L6
  refine ⟨ms, cs, n, first, l, la, f, ks, ka, s5, r6, (st s5 :: r3).length, o5, mok, ml, Sh, n2, n4, f5, L5.ext x6, I3, L6, L5.lt, by simp; omega, by omega, fun x hx => by rw [g6 x (by omega), g3 x hx], fun X => ?_⟩
  have c1 := (e1 [some (.loc 0), some (.p (.int (w : Int))), some (.p (.int (mv : Int))), none, none, none, none, none, none, none, none, none, none, none, none] (evRng1 (evV 1)) (intsP 0 w) r (rng_n w rfl (by omega)) (by unfold intsP; simp) (fun x hx => ⟨_, rfl, rfl⟩)).1
  rw [seqS_eq, sSet_eq, c1, bindS_ok, andThen_nx]
  simp only [List.set_cons_succ, List.set_cons_zero]
  rw [seqS_eq, sSet_eq, evCall_eq, evCons_eq, evV_0, bindG_ok, evCons_eq, evV_3, bindG_ok, evNil_eq, bindG_ok, bindG_ok, bindG_ok, List.map_nil, List.append_nil, show P.lst (ms.map mvR) = mvsP ms from rfl, e2, bindS_ok, andThen_nx]
  simp only [List.set_cons_succ, List.set_cons_zero]
  rw [seqS_eq, sSet_eq, evCall_eq, evCons_eq, evV_5, bindG_ok, evNil_eq, bindG_ok, bindG_ok, List.map_nil, List.append_nil, e3, bindS_ok, andThen_nx]
  simp only [List.set_cons_succ, List.set_cons_zero]
  rw [seqS_eq, sSet_eq, tot_e e4 ix4 rfl, bindS_ok, andThen_nx]
  simp only [List.set_cons_succ, List.set_cons_zero]
  rw [seqS_eq, sSet_eq, drN e5 rfl rfl, bindS_ok, andThen_nx]
  simp only [List.set_cons_succ, List.set_cons_zero]
  rw [seqS_eq, sSet_eq, e6, bindS_ok, andThen_nx]
  rfl
end
end Vs
namespace Vs
open PySem PySem.Spec PyProof.Rows L2
open Bar (rg)
section
variable {μ ν : Mu} {δ : Sl}
theorem getD_ix {A : Type} {xs : List A} {j : Nat} {d : A} (h : j < xs.length) : xs[j]? = some (xs.getD j d) := by
  rw [List.getD_eq_getElem?_getD, List.getElem?_eq_getElem h]; rfl
theorem show_ex {w mv : Nat} (w1 : 1 ≤ w) (w4 : w ≤ 4) (hmv : mv ≤ 900) {s : SS} (hs : s.Ok) (r : Mu) : ∃ (cs : List Cue) (ms : List Mc) (rls : List Rl) (s' : SS), s'.Ok ∧ Sh4 w cs ∧ Sho cs ms rls ∧
    m__law_show [.loc 0, .p (.int (w : Int)), .p (.int (mv : Int))] (st s :: r) = some (.ok (.p (shwP (shR cs) ms (.tup (rls.map Rl.r)))), st s' :: r) := by
  obtain ⟨mvs, cs, n, first, l, la, f, ks, ka, s1, r1, n1, o1, mok, ml, Sh, n2, n4, fl, L1, I1, La1, ll, rn, rl1, g1, e1⟩ := show_a (mv := mv) w1 w4 hs r
  have h0 : ActsA w (BT cs) 0 ((List.range n).map fun _ => ([] : List At)) := fun R hR => by
    obtain ⟨_, _, rfl⟩ := List.mem_map.mp hR
    exact RowA.nil
  obtain ⟨s2, r2, As2, c4, c10, o2, e2, L2, La2, hA2, hn2, rl2, g2⟩ := sw_loop (first := first) (n := n) (mv := mv) (c1 := some (.p (.int (w : Int)))) (c5 := some (.p (shR cs))) (c11 := none) (c12 := none) (c13 := none) (c14 := none) I1 (by decide) ll n2 n4 mok ml w4 hmv w 0 _ s1 r1 none none (by omega) o1 L1 La1 h0 (by simp)
  have h1 : 1 ≤ n1 := by omega
  obtain ⟨r3, As3, c11, e3, L3, La3, hA3, hn3, rl3, g3⟩ := sw_two (mv := mv) (first := first) (c4 := c4) (c5 := some (.p (shR cs))) (c10 := c10) (c11 := none) (c12 := none) (c13 := none) (c14 := none) L2 La2 ll hA2 hn2 n2 n4 fl mok ml w1 w4 (X := seqS (sSet 12 (evLstC evNil)) (seqS (sFor (evRng1 (evV 7)) (tgN 10) (seqS (sSet 13 (evMake 0 2 m_Ratiou_initu [] (evCons (evBin fAdd (evC (.int 1)) (evCall m__law_draw [] (evCons (evV 0) (evCons (evC (.int 4)) evNil)))) (evCons (evBin fAdd (evC (.int 1)) (evCall m__law_draw [] (evCons (evV 0) (evCons (evC (.int 2)) evNil)))) evNil)))) (sExpr (evBM isLst fApp (evV 12) (evCons (evTup (evCons (evBin (fOwn 0 m_Ratiou_addu) (evCall m__law_snumber [] (evCons (evV 0) evNil)) (evMake 0 2 m_Ratiou_initu [.int 1] (evCons (evBin fMul (evC (.int 8)) (evCall m__law_draw [] (evCons (evV 0) (evCons (evC (.int 2)) evNil)))) evNil))) (evCons (evV 13) (evCons (evBI fTupOf (evCons (evBin fIxD (evV 9) (evV 10)) evNil)) evNil)))) evNil))))) (seqS (sSet 14 (evLst (evCons (evCall m__law_weigh [] (evCons (evV 0) (evCons (evV 7) evNil))) (evCons (evCall m__law_zone [] (evCons (evV 0) (evCons (evV 7) (evCons (evV 6) evNil)))) (evCons (evCall m__law_weigh [] (evCons (evV 0) (evCons (evV 7) evNil))) evNil))))) (seqS (sSet 10 (evCall m__law_draw [] (evCons (evV 0) (evCons (evC (.int 3)) evNil)))) (sRet (evTup (evCons (evV 5) (evCons (evBI fTupOf (evCons (evV 12) evNil)) (evCons (evBI fTupOf (evCons (evBin fCatL (evSl (evV 14) (evPt (evV 10)) evNoP) (evSl (evV 14) evNoP (evPt (evV 10)))) evNil)) evNil)))))))))
  obtain ⟨ms, s4, o4', m4, mo, e4⟩ := mc_loop (w := w) (n := n) (c1 := some (.p (.int (w : Int)))) (c2 := some (.p (.int (mv : Int)))) (c3 := some (.p (mvsP mvs))) (c4 := c4) (c5 := some (.p (shR cs))) (c6 := some (.loc l)) (c7 := some (.p (.int (n : Int)))) (c8 := some (.p (.int (first : Int)))) (c11 := c11) (c14 := none) La3 h1 hA3 w4 hn3 n 0 s2 o2 (by omega)
  obtain ⟨d10, d13, e4⟩ := e4 [] c10 none (by simp; omega)
  obtain ⟨a, b, u, v, lim, s5, o5, a1, b1, ub, vb, lb, e5⟩ := weigh_ex n2 n4 o4'
  have L5 : Live 1 (st s5 :: (r3 ++ [some (MO.lst (ms.map Mc.r))])) l (tbR (w + 1) f) ks := (L3.st (b := st s5) (Nat.le_refl 1)).ext (Ext.app (μ := st s5 :: r3) [some (MO.lst (ms.map Mc.r))])
  obtain ⟨za, zi, zj, low, high, s6, o6, za1, zi1, zj1, lowb, highb, e6⟩ := zone_ex L5 I1 w1 w4 n2 n4 o5
  obtain ⟨a', b', u', v', lim', s7, o7, a1', b1', ub', vb', lb', e7⟩ := weigh_ex n2 n4 o6
  obtain ⟨y, s8, o8, y3, e8⟩ := draw0n (n := 3) o7 (by decide) (by decide)
  have cl := Sh.len
  refine ⟨cs, ms, [Rl.weigh a u b v lim, Rl.zone za low high zi zj, Rl.weigh a' u' b' v' lim'].drop y ++ [Rl.weigh a u b v lim, Rl.zone za low high zi zj, Rl.weigh a' u' b' v' lim'].take y, s8, o8, Sh, ⟨fun j hj => ?_, fun ts hT j hj => ?_, by omega, by omega, fun R hR => ?_, by simp; omega⟩, ?_⟩
  · rw [cl]; exact (mo j _ (getD_ix hj)).1
  · have := (mo j _ (getD_ix (d := Mc0) hj)).2
    rw [this, Nat.zero_add]
    exact (hA3.get (by omega)).seq hT
  · have : R ∈ [Rl.weigh a u b v lim, Rl.zone za low high zi zj, Rl.weigh a' u' b' v' lim'] := by
      rcases List.mem_append.mp hR with q | q
      · exact List.mem_of_mem_drop q
      · exact List.mem_of_mem_take q
    rw [m4, cl]
    simp at this
    rcases this with rfl | rfl | rfl
    · exact ⟨a1, b1, ub, vb, lb⟩
    · exact ⟨za1, lowb, highb, zi1, zj1⟩
    · exact ⟨a1', b1', ub', vb', lb'⟩
  · have hw : evRng1 (evV 1) [some (.loc 0), some (.p (.int (w : Int))), some (.p (.int (mv : Int))), some (.p (mvsP mvs)), none, some (.p (shR cs)), some (.loc l), some (.p (.int (n : Int))), some (.p (.int (first : Int))), some (.loc la), none, none, none, none, none] (st s1 :: r1) = some (.ok (intsP 0 w), st s1 :: r1) := rng_n w rfl (by omega)
    have hn : evRng1 (evV 7) [some (.loc 0), some (.p (.int (w : Int))), some (.p (.int (mv : Int))), some (.p (mvsP mvs)), c4, some (.p (shR cs)), some (.loc l), some (.p (.int (n : Int))), some (.p (.int (first : Int))), some (.loc la), c10, c11, some (.loc (r3.length + 1)), none, none] (st s2 :: (r3 ++ [some (.lst [])])) = some (.ok (intsP 0 n), st s2 :: (r3 ++ [some (.lst [])])) := rng_n n rfl (by omega)
    have l0 : evLstC evNil [some (.loc 0), some (.p (.int (w : Int))), some (.p (.int (mv : Int))), some (.p (mvsP mvs)), c4, some (.p (shR cs)), some (.loc l), some (.p (.int (n : Int))), some (.p (.int (first : Int))), some (.loc la), c10, c11, none, none, none] (st s2 :: r3) = some (.ok (.loc (r3.length + 1)), st s2 :: (r3 ++ [some (.lst [])])) := by
      rw [evLstC_eq, evNil_eq, bindG_ok, toPs_nil, lstEndC_some, if_pos (show ([] : List P).length ≤ sizeLine from line_0)]
      rfl
    rw [List.nil_append] at e4
    have rls : evLst (evCons (evCall m__law_weigh [] (evCons (evV 0) (evCons (evV 7) evNil))) (evCons (evCall m__law_zone [] (evCons (evV 0) (evCons (evV 7) (evCons (evV 6) evNil)))) (evCons (evCall m__law_weigh [] (evCons (evV 0) (evCons (evV 7) evNil))) evNil))) [some (.loc 0), some (.p (.int (w : Int))), some (.p (.int (mv : Int))), some (.p (mvsP mvs)), c4, some (.p (shR cs)), some (.loc l), some (.p (.int (n : Int))), some (.p (.int (first : Int))), some (.loc la), d10, c11, some (.loc (r3.length + 1)), d13, none] (st s4 :: (r3 ++ [some (MO.lst (ms.map Mc.r))])) = some (.ok (.p (.lst ([Rl.weigh a u b v lim, Rl.zone za low high zi zj, Rl.weigh a' u' b' v' lim'].map Rl.r))), st s7 :: (r3 ++ [some (MO.lst (ms.map Mc.r))])) := three_l (by
      rw [evCall_eq, evCons_eq, evV_0, bindG_ok, evCons_eq, evV_7, bindG_ok, evNil_eq, bindG_ok, bindG_ok, bindG_ok, List.map_nil, List.append_nil, e5]) (by
      rw [evCall_eq, evCons_eq, evV_0, bindG_ok, evCons_eq, evV_7, bindG_ok, evCons_eq, evV_6, bindG_ok, evNil_eq, bindG_ok, bindG_ok, bindG_ok, bindG_ok, List.map_nil, List.append_nil, e6]) (by
      rw [evCall_eq, evCons_eq, evV_0, bindG_ok, evCons_eq, evV_7, bindG_ok, evNil_eq, bindG_ok, bindG_ok, bindG_ok, List.map_nil, List.append_nil, e7])
    have te := tup_end (δ := [some (.loc 0), some (.p (.int (w : Int))), some (.p (.int (mv : Int))), some (.p (mvsP mvs)), c4, some (.p (shR cs)), some (.loc l), some (.p (.int (n : Int))), some (.p (.int (first : Int))), some (.loc la), some (.p (.int (y : Int))), c11, some (.loc (r3.length + 1)), d13, some (.p (.lst ([Rl.weigh a u b v lim, Rl.zone za low high zi zj, Rl.weigh a' u' b' v' lim'].map Rl.r)))]) (μ := st s8 :: r3) (xs := ms.map Mc.r) (i := 12) rfl
    rw [show (st s8 :: r3) ++ [some (MO.lst (ms.map Mc.r))] = st s8 :: (r3 ++ [some (MO.lst (ms.map Mc.r))]) from rfl] at te
    have ro := rot_e (δ := [some (.loc 0), some (.p (.int (w : Int))), some (.p (.int (mv : Int))), some (.p (mvsP mvs)), c4, some (.p (shR cs)), some (.loc l), some (.p (.int (n : Int))), some (.p (.int (first : Int))), some (.loc la), some (.p (.int (y : Int))), c11, some (.loc (r3.length + 1)), d13, some (.p (.lst ([Rl.weigh a u b v lim, Rl.zone za low high zi zj, Rl.weigh a' u' b' v' lim'].map Rl.r)))]) (μ := st s8 :: (r3 ++ [some (MO.lst (ms.map Mc.r))])) (i := 14) (j := 10) (k := y) (xs := [Rl.weigh a u b v lim, Rl.zone za low high zi zj, Rl.weigh a' u' b' v' lim'].map Rl.r) (by simp) (by simp; omega) rfl rfl
    rw [← List.map_drop, ← List.map_take, ← List.map_append] at ro
    generalize [Rl.weigh a u b v lim, Rl.zone za low high zi zj, Rl.weigh a' u' b' v' lim'] = R3 at *
    have dr : ∀ c : Option D, evCall m__law_draw [] (evCons (evV 0) (evCons (evC (.int 3)) evNil)) [some (.loc 0), some (.p (.int (w : Int))), some (.p (.int (mv : Int))), some (.p (mvsP mvs)), c4, some (.p (shR cs)), some (.loc l), some (.p (.int (n : Int))), some (.p (.int (first : Int))), some (.loc la), d10, c11, some (.loc (r3.length + 1)), d13, c] (st s7 :: (r3 ++ [some (MO.lst (ms.map Mc.r))])) = some (.ok (.p (.int (y : Int))), st s8 :: (r3 ++ [some (MO.lst (ms.map Mc.r))])) := fun c => drC e8 rfl
    unfold lb__law_show_0 at e2
    unfold lb__law_show_1 at e4
    unfold m__law_show
    rw [arF3]
    unfold sv__law_show
    simp only [List.replicate, List.cons_append, List.nil_append]
    rw [e1, seqS_eq, sFor_eq, hw, bindS_ok, e2, andThen_nx, e3, seqS_eq, sSet_eq, l0, bindS_ok, andThen_nx]
    simp only [List.set_cons_succ, List.set_cons_zero]
    rw [List.map_nil] at e4
    rw [seqS_eq, sFor_eq, hn, bindS_ok, e4, andThen_nx, seqS_eq, sSet_eq, rls, bindS_ok, andThen_nx]
    simp only [List.set_cons_succ, List.set_cons_zero]
    rw [seqS_eq, sSet_eq, dr, bindS_ok, andThen_nx]
    simp only [List.set_cons_succ, List.set_cons_zero]
    rw [sRet_eq, evTup_eq, evCons_eq, evV_5, bindG_ok, evCons_eq, te, bindG_ok, evCons_eq, ro, bindG_ok, evNil_eq, bindG_ok, bindG_ok, bindG_ok, bindG_ok, toPs_cons, toPs_cons, toPs_cons, toPs_nil, consP_some, consP_some, consP_some, tup3, bindS_ok, retF_p]
    have tk : (st s8 :: (r3 ++ [some (MO.lst (ms.map Mc.r))])).take (st s :: r).length = st s8 :: r := by
      show st s8 :: (r3 ++ [some (MO.lst (ms.map Mc.r))]).take r.length = _
      rw [List.take_append_of_le_length (by omega), take_agree (by omega) (fun x hx => by rw [g3 x (by omega), g2 x (by omega), g1 x hx])]
    rw [tk]
    rfl
end
end Vs
namespace Vs
open PySem PySem.Spec PyProof.Rows L2
def top (i : Nat) : Stmt := PySem.Challenge.pw_traproom_k41_places_with_faults.main.body.getD i (.Pass ⟨0, 0, 0, 0⟩)
abbrev s_Ratiou_initu : Stmt := inClass (top 5) 0
theorem sc_Ratiou_initu : FnScope ["self", "n", "d", "shared"] ["self", "n", "d"] (defScope s_Ratiou_initu) := ⟨rfl, rfl, rfl, by decide +kernel, rfl, by decide +kernel, by decide +kernel⟩
abbrev s_Ratiou_addu : Stmt := inClass (top 5) 1
theorem sc_Ratiou_addu : FnScope ["self", "other"] ["self", "other"] (defScope s_Ratiou_addu) := ⟨rfl, rfl, rfl, by decide +kernel, rfl, by decide +kernel, by decide +kernel⟩
abbrev s_Ratiou_subu : Stmt := inClass (top 5) 2
theorem sc_Ratiou_subu : FnScope ["self", "other"] ["self", "other"] (defScope s_Ratiou_subu) := ⟨rfl, rfl, rfl, by decide +kernel, rfl, by decide +kernel, by decide +kernel⟩
abbrev s_Ratiou_mulu : Stmt := inClass (top 5) 3
theorem sc_Ratiou_mulu : FnScope ["self", "other"] ["self", "other"] (defScope s_Ratiou_mulu) := ⟨rfl, rfl, rfl, by decide +kernel, rfl, by decide +kernel, by decide +kernel⟩
abbrev s_Ratiou_negu : Stmt := inClass (top 5) 4
theorem sc_Ratiou_negu : FnScope ["self"] ["self"] (defScope s_Ratiou_negu) := ⟨rfl, rfl, rfl, by decide +kernel, rfl, by decide +kernel, by decide +kernel⟩
abbrev s_Ratiou_equ : Stmt := inClass (top 5) 5
theorem sc_Ratiou_equ : FnScope ["self", "other"] ["self", "other"] (defScope s_Ratiou_equ) := ⟨rfl, rfl, rfl, by decide +kernel, rfl, by decide +kernel, by decide +kernel⟩
abbrev s__law_stream : Stmt := top 25
theorem sc__law_stream : FnScope ["script", "mixed", "cell"] ["script"] (defScope s__law_stream) := ⟨rfl, rfl, rfl, by decide +kernel, rfl, by decide +kernel, by decide +kernel⟩
abbrev s__law_draw : Stmt := top 26
theorem sc__law_draw : FnScope ["stream", "many", "value"] ["stream", "many"] (defScope s__law_draw) := ⟨rfl, rfl, rfl, by decide +kernel, rfl, by decide +kernel, by decide +kernel⟩
abbrev s__law_slength : Stmt := top 31
theorem sc__law_slength : FnScope ["move", "found", "duration", "a"] ["move"] (defScope s__law_slength) := ⟨rfl, rfl, rfl, by decide +kernel, rfl, by decide +kernel, by decide +kernel⟩
abbrev s__law_ssheet : Stmt := top 33
theorem sc__law_ssheet : FnScope ["stream", "moves", "rows", "k", "parent", "wait", "more"] ["stream", "moves"] (defScope s__law_ssheet) := ⟨rfl, rfl, rfl, by decide +kernel, rfl, by decide +kernel, by decide +kernel⟩
abbrev s__law_sless : Stmt := top 27
theorem sc__law_sless : FnScope ["a", "b"] ["a", "b"] (defScope s__law_sless) := ⟨rfl, rfl, rfl, by decide +kernel, rfl, by decide +kernel, by decide +kernel⟩
abbrev s__law_sbounds : Stmt := top 32
theorem sc__law_sbounds : FnScope ["sheet", "count", "found", "j", "i", "at", "parent", "least", "most", "k"] ["sheet"] (defScope s__law_sbounds) := ⟨rfl, rfl, rfl, by decide +kernel, rfl, by decide +kernel, by decide +kernel⟩
abbrev s__law_sover : Stmt := top 28
theorem sc__law_sover : FnScope ["a", "b"] ["a", "b"] (defScope s__law_sover) := ⟨rfl, rfl, rfl, by decide +kernel, rfl, by decide +kernel, by decide +kernel⟩
abbrev s__law_smove : Stmt := top 30
theorem sc__law_smove : FnScope ["stream", "first", "last", "a", "pause", "pick", "rows"] ["stream"] (defScope s__law_smove) := ⟨rfl, rfl, rfl, by decide +kernel, rfl, by decide +kernel, by decide +kernel⟩
abbrev s__law_snumber : Stmt := top 29
theorem sc__law_snumber : FnScope ["stream"] ["stream"] (defScope s__law_snumber) := ⟨rfl, rfl, rfl, by decide +kernel, rfl, by decide +kernel, by decide +kernel⟩
abbrev s__law_weigh : Stmt := top 35
theorem sc__law_weigh : FnScope ["stream", "total", "one", "two", "weights", "k"] ["stream", "total"] (defScope s__law_weigh) := ⟨rfl, rfl, rfl, by decide +kernel, rfl, by decide +kernel, by decide +kernel⟩
abbrev s__law_zone : Stmt := top 36
theorem sc__law_zone : FnScope ["stream", "total", "table", "pairs", "i", "j", "low"] ["stream", "total", "table"] (defScope s__law_zone) := ⟨rfl, rfl, rfl, by decide +kernel, rfl, by decide +kernel, by decide +kernel⟩
abbrev s__law_fits : Stmt := top 34
theorem sc__law_fits : FnScope ["table", "act", "cue"] ["table", "act", "cue"] (defScope s__law_fits) := ⟨rfl, rfl, rfl, by decide +kernel, rfl, by decide +kernel, by decide +kernel⟩
abbrev s__law_show : Stmt := top 37
theorem sc__law_show : FnScope ["stream", "many", "movers", "moves", "k", "sheet", "table", "total", "first", "acts", "at", "one", "machines", "brake", "rules"] ["stream", "many", "movers"] (defScope s__law_show) := ⟨rfl, rfl, rfl, by decide +kernel, rfl, by decide +kernel, by decide +kernel⟩
abbrev s__law_sfault : Stmt := top 46
theorem sc__law_sfault : FnScope ["stream", "show", "many", "lag"] ["stream", "show", "many"] (defScope s__law_sfault) := ⟨rfl, rfl, rfl, by decide +kernel, rfl, by decide +kernel, by decide +kernel⟩
abbrev s__law_stimes : Stmt := top 39
theorem sc__law_stimes : FnScope ["stream", "sheet", "found", "parent", "least", "most", "wait"] ["stream", "sheet"] (defScope s__law_stimes) := ⟨rfl, rfl, rfl, by decide +kernel, rfl, by decide +kernel, by decide +kernel⟩
abbrev s__law_smoment : Stmt := top 47
theorem sc__law_smoment : FnScope ["stream", "show", "fault", "times", "f", "t"] ["stream", "show", "fault"] (defScope s__law_smoment) := ⟨rfl, rfl, rfl, by decide +kernel, rfl, by decide +kernel, by decide +kernel⟩
abbrev s_is_less : Stmt := top 7
theorem sc_is_less : FnScope ["a", "b"] ["a", "b"] (defScope s_is_less) := ⟨rfl, rfl, rfl, by decide +kernel, rfl, by decide +kernel, by decide +kernel⟩
abbrev s_is_timing : Stmt := top 17
theorem sc_is_timing : FnScope ["sheet", "times", "parent", "low", "high", "time", "wait"] ["sheet", "times"] (defScope s_is_timing) := ⟨rfl, rfl, rfl, by decide +kernel, rfl, by decide +kernel, by decide +kernel⟩
abbrev s_is_moment : Stmt := top 21
theorem sc_is_moment : FnScope ["show", "fault", "moment", "times", "f", "t"] ["show", "fault", "moment"] (defScope s_is_moment) := ⟨rfl, rfl, rfl, by decide +kernel, rfl, by decide +kernel, by decide +kernel⟩
abbrev s__reached : Stmt := top 14
theorem sc__reached : FnScope ["p", "v", "a", "s"] ["p", "v", "a", "s"] (defScope s__reached) := ⟨rfl, rfl, rfl, by decide +kernel, rfl, by decide +kernel, by decide +kernel⟩
abbrev s_pieces : Stmt := top 9
theorem sc_pieces : FnScope ["move", "found", "start", "p", "v", "duration", "a", "end"] ["move"] (defScope s_pieces) := ⟨rfl, rfl, rfl, by decide +kernel, rfl, by decide +kernel, by decide +kernel⟩
abbrev s_speed : Stmt := top 12
theorem sc_speed : FnScope ["move", "time", "start", "end", "_", "v", "a"] ["move", "time"] (defScope s_speed) := ⟨rfl, rfl, rfl, by decide +kernel, rfl, by decide +kernel, by decide +kernel⟩
abbrev s_quotient : Stmt := top 6
theorem sc_quotient : FnScope ["a", "b"] ["a", "b"] (defScope s_quotient) := ⟨rfl, rfl, rfl, by decide +kernel, rfl, by decide +kernel, by decide +kernel⟩
abbrev s_way : Stmt := top 10
theorem sc_way : FnScope ["move", "start", "end", "p", "v", "a"] ["move"] (defScope s_way) := ⟨rfl, rfl, rfl, by decide +kernel, rfl, by decide +kernel, by decide +kernel⟩
abbrev s_position : Stmt := top 11
theorem sc_position : FnScope ["move", "time", "start", "end", "p", "v", "a"] ["move", "time"] (defScope s_position) := ⟨rfl, rfl, rfl, by decide +kernel, rfl, by decide +kernel, by decide +kernel⟩
abbrev s__size : Stmt := top 15
theorem sc__size : FnScope ["number"] ["number"] (defScope s__size) := ⟨rfl, rfl, rfl, by decide +kernel, rfl, by decide +kernel, by decide +kernel⟩
abbrev s_stopped : Stmt := top 13
theorem sc_stopped : FnScope ["move", "brake", "at", "time", "v", "rest", "since", "against"] ["move", "brake", "at", "time"] (defScope s_stopped) := ⟨rfl, rfl, rfl, by decide +kernel, rfl, by decide +kernel, by decide +kernel⟩
abbrev s__braked : Stmt := top 23
theorem sc__braked : FnScope ["machine", "times", "at", "t", "base", "brake", "acts", "total", "cue", "move"] ["machine", "times", "at", "t"] (defScope s__braked) := ⟨rfl, rfl, rfl, by decide +kernel, rfl, by decide +kernel, by decide +kernel⟩
abbrev s__undisturbed : Stmt := top 22
theorem sc__undisturbed : FnScope ["machine", "times", "at", "base", "_", "acts", "total", "cue", "move"] ["machine", "times", "at"] (defScope s__undisturbed) := ⟨rfl, rfl, rfl, by decide +kernel, rfl, by decide +kernel, by decide +kernel⟩
abbrev s_place : Stmt := top 19
theorem sc_place : FnScope ["show", "fault", "moment", "machine", "times", "f", "t", "told", "_", "seized", "lag"] ["show", "fault", "moment", "machine"] (defScope s_place) := ⟨rfl, rfl, rfl, by decide +kernel, rfl, by decide +kernel, by decide +kernel⟩
abbrev s_is_kept : Stmt := top 20
theorem sc_is_kept : FnScope ["show", "rule", "fault", "moment", "told", "_", "a", "u", "b", "w", "limit", "weighed", "low", "high", "i", "j", "times", "t", "at"] ["show", "rule", "fault", "moment"] (defScope s_is_kept) := ⟨rfl, rfl, rfl, by decide +kernel, rfl, by decide +kernel, by decide +kernel⟩
abbrev s__law_sstate : Stmt := top 40
theorem sc__law_sstate : FnScope ["move", "time", "p", "v", "duration", "a", "part"] ["move", "time"] (defScope s__law_sstate) := ⟨rfl, rfl, rfl, by decide +kernel, rfl, by decide +kernel, by decide +kernel⟩
abbrev s__law_moving : Stmt := top 41
theorem sc__law_moving : FnScope ["machine", "times", "time", "p", "v", "cue", "move", "one", "two"] ["machine", "times", "time"] (defScope s__law_moving) := ⟨rfl, rfl, rfl, by decide +kernel, rfl, by decide +kernel, by decide +kernel⟩
abbrev s__law_braked : Stmt := top 42
theorem sc__law_braked : FnScope ["machine", "times", "at", "time", "p", "v", "sign", "rest", "longest"] ["machine", "times", "at", "time"] (defScope s__law_braked) := ⟨rfl, rfl, rfl, by decide +kernel, rfl, by decide +kernel, by decide +kernel⟩
abbrev s__law_place : Stmt := top 43
theorem sc__law_place : FnScope ["show", "fault", "moment", "at", "times", "f", "t", "machine"] ["show", "fault", "moment", "at"] (defScope s__law_place) := ⟨rfl, rfl, rfl, by decide +kernel, rfl, by decide +kernel, by decide +kernel⟩
abbrev s__law_weighed : Stmt := top 44
theorem sc__law_weighed : FnScope ["show", "rule", "fault", "moment", "word", "a", "u", "b", "w", "least"] ["show", "rule", "fault", "moment"] (defScope s__law_weighed) := ⟨rfl, rfl, rfl, by decide +kernel, rfl, by decide +kernel, by decide +kernel⟩
abbrev s__law_kept : Stmt := top 45
theorem sc__law_kept : FnScope ["show", "rule", "fault", "moment", "word", "a", "low", "high", "i", "j", "times", "f", "t", "p"] ["show", "rule", "fault", "moment"] (defScope s__law_kept) := ⟨rfl, rfl, rfl, by decide +kernel, rfl, by decide +kernel, by decide +kernel⟩
abbrev s_law : Stmt := top 50
theorem sc_law : FnScope ["script", "stream", "show", "fault", "k", "moment", "given", "at", "rule", "actual", "times", "f", "t", "late", "parent", "least", "most", "bad"] ["script"] (defScope s_law) := ⟨rfl, rfl, rfl, by decide +kernel, rfl, by decide +kernel, by decide +kernel⟩
section
variable {P : Program} {w : World} {K : PySem.W.Frag} {mg : Str → Option Value} {base : Heap} {cs : List Addr}
noncomputable abbrev lb_law_0 : SEv := (sIf (evB (evBin (fNeO 0 m_Ratiou_equ) (evCall m_place [] (evCons (evV 2) (evCons (evV 3) (evCons (evV 5) (evCons (evV 7) evNil))))) (evCall m__law_place [] (evCons (evV 2) (evCons (evV 3) (evCons (evV 5) (evCons (evV 7) evNil))))))) (sRet (evC (.bl false))) sNil)
noncomputable abbrev lb_law_1 : SEv := (seqS (sSet 9 (evCall m_is_kept [] (evCons (evV 2) (evCons (evV 8) (evCons (evV 3) (evCons (evV 5) evNil)))))) (sIf (tOrV' (tNotV (evB (evIsiV (isiT 1 "bool") (evV 9)))) (tOrV' (evB (evBin fNe (evV 9) (evCall m__law_kept [] (evCons (evV 2) (evCons (evV 8) (evCons (evV 3) (evCons (evV 5) evNil))))))) (evB (evBin (fNeLst 0) (evBin fIx (evV 5) (evC (.int 0))) (evV 6))))) (sRet (evC (.bl false))) sNil))
noncomputable abbrev lb_law_2 : SEv := (seqS (sSet 5 (evCall m__law_smoment [] (evCons (evV 1) (evCons (evV 2) (evCons (evV 3) evNil))))) (seqS (sSet 6 (evBI fList (evCons (evBin fIx (evV 5) (evC (.int 0))) evNil))) (seqS (sIf (evB (evBin (fIsB true) (evCall m_is_moment [] (evCons (evV 2) (evCons (evV 3) (evCons (evV 5) evNil)))) (evC (.bl true)))) (sRet (evC (.bl false))) sNil) (seqS (sFor (evRng1 (evBI fLen (evCons (evBin fIx (evV 2) (evC (.int 1))) evNil))) (tgN 7) (sIf (evB (evBin (fNeO 0 m_Ratiou_equ) (evCall m_place [] (evCons (evV 2) (evCons (evV 3) (evCons (evV 5) (evCons (evV 7) evNil))))) (evCall m__law_place [] (evCons (evV 2) (evCons (evV 3) (evCons (evV 5) (evCons (evV 7) evNil))))))) (sRet (evC (.bl false))) sNil)) (sFor (evRng1 (evC (.int 3))) (tgN 8) (seqS (sSet 9 (evCall m_is_kept [] (evCons (evV 2) (evCons (evV 8) (evCons (evV 3) (evCons (evV 5) evNil)))))) (sIf (tOrV' (tNotV (evB (evIsiV (isiT 1 "bool") (evV 9)))) (tOrV' (evB (evBin fNe (evV 9) (evCall m__law_kept [] (evCons (evV 2) (evCons (evV 8) (evCons (evV 3) (evCons (evV 5) evNil))))))) (evB (evBin (fNeLst 0) (evBin fIx (evV 5) (evC (.int 0))) (evV 6))))) (sRet (evC (.bl false))) sNil)))))))
noncomputable def p_law_0 : SEv := (sSet 1 (evCall m__law_stream [] (evCons (evV 0) evNil)))
noncomputable def p_law_1 : SEv := (sSet 2 (evCall m__law_show [] (evCons (evV 1) (evCons (evBin fAdd (evC (.int 1)) (evCall m__law_draw [] (evCons (evV 1) (evCons (evC (.int 3)) evNil)))) (evCons (evBin fAdd (evC (.int 1)) (evCall m__law_draw [] (evCons (evV 1) (evCons (evC (.int 2)) evNil)))) evNil)))))
noncomputable def p_law_2 : SEv := (sSet 3 (evCall m__law_sfault [] (evCons (evV 1) (evCons (evV 2) (evCons (evCall m__law_draw [] (evCons (evV 1) (evCons (evC (.int 3)) evNil))) evNil)))))
noncomputable def p_law_3 : SEv := (sFor (evRng1 (evC (.int 4))) (tgN 4) (seqS (sSet 5 (evCall m__law_smoment [] (evCons (evV 1) (evCons (evV 2) (evCons (evV 3) evNil))))) (seqS (sSet 6 (evBI fList (evCons (evBin fIx (evV 5) (evC (.int 0))) evNil))) (seqS (sIf (evB (evBin (fIsB true) (evCall m_is_moment [] (evCons (evV 2) (evCons (evV 3) (evCons (evV 5) evNil)))) (evC (.bl true)))) (sRet (evC (.bl false))) sNil) (seqS (sFor (evRng1 (evBI fLen (evCons (evBin fIx (evV 2) (evC (.int 1))) evNil))) (tgN 7) (sIf (evB (evBin (fNeO 0 m_Ratiou_equ) (evCall m_place [] (evCons (evV 2) (evCons (evV 3) (evCons (evV 5) (evCons (evV 7) evNil))))) (evCall m__law_place [] (evCons (evV 2) (evCons (evV 3) (evCons (evV 5) (evCons (evV 7) evNil))))))) (sRet (evC (.bl false))) sNil)) (sFor (evRng1 (evC (.int 3))) (tgN 8) (seqS (sSet 9 (evCall m_is_kept [] (evCons (evV 2) (evCons (evV 8) (evCons (evV 3) (evCons (evV 5) evNil)))))) (sIf (tOrV' (tNotV (evB (evIsiV (isiT 1 "bool") (evV 9)))) (tOrV' (evB (evBin fNe (evV 9) (evCall m__law_kept [] (evCons (evV 2) (evCons (evV 8) (evCons (evV 3) (evCons (evV 5) evNil))))))) (evB (evBin (fNeLst 0) (evBin fIx (evV 5) (evC (.int 0))) (evV 6))))) (sRet (evC (.bl false))) sNil))))))))
noncomputable def p_law_4 : SEv := (sAsgT (tgT [10, 11, 12]) (evV 5))
noncomputable def p_law_5 : SEv := (sSet 13 (evBI fListC (evCons (evV 10) evNil)))
noncomputable def p_law_6 : SEv := (sSet 7 (evCall m__law_draw [] (evCons (evV 1) (evCons (evBI fLen (evCons (evV 13) evNil)) evNil))))
noncomputable def p_law_7 : SEv := (sAsgT (tgT [14, 15, 16]) (evBin fIx (evBin fIx (evV 2) (evC (.int 0))) (evV 7)))
noncomputable def p_law_8 : SEv := (sSetIx (evV 13) (evV 7) (evBin fIx (evLst (evCons (evBin (fOwn 0 m_Ratiou_subu) (evV 15) (evMake 0 2 m_Ratiou_initu [] (evCons (evC (.int 1)) (evCons (evC (.int 7)) evNil)))) (evCons (evBin (fOwn 0 m_Ratiou_addu) (evV 16) (evMake 0 2 m_Ratiou_initu [] (evCons (evC (.int 1)) (evCons (evC (.int 7)) evNil)))) evNil))) (evCall m__law_draw [] (evCons (evV 1) (evCons (evC (.int 2)) evNil)))))
noncomputable def p_law_9 : SEv := (sIf (evB (evBin fGe (evV 14) (evC (.int 0)))) (sSetIx (evV 13) (evV 7) (evBin (fOwn 0 m_Ratiou_addu) (evBin fIx (evV 13) (evV 7)) (evBin fIx (evV 13) (evV 14)))) sNil)
noncomputable def p_law_10 : SEv := (sSet 17 (evLstC (evCons (evTup (evCons (evV 13) (evCons (evV 11) (evCons (evV 12) evNil)))) (evCons (evTup (evCons (evSl (evV 10) evNoP (evPt (evUn fNeg (evC (.int 1))))) (evCons (evV 11) (evCons (evV 12) evNil)))) (evCons (evTup (evCons (evV 10) (evCons (evBin (fOwn 0 m_Ratiou_addu) (evV 12) (evMake 0 2 m_Ratiou_initu [] (evCons (evC (.int 1)) (evCons (evC (.int 2)) evNil)))) (evCons (evV 12) evNil)))) (evCons (evTup (evCons (evV 10) (evCons (evMake 0 2 m_Ratiou_initu [.int 1] (evCons (evUn fNeg (evC (.int 1))) evNil)) (evCons (evV 12) evNil)))) evNil))))))
noncomputable def p_law_11 : SEv := (sExpr (evBM isLst fApp (evV 17) (evCons (evTup (evCons (evV 10) (evCons (evV 11) (evCons (evBin (fOwn 0 m_Ratiou_subu) (evV 11) (evMake 0 2 m_Ratiou_initu [] (evCons (evC (.int 1)) (evCons (evC (.int 3)) evNil)))) evNil)))) evNil)))
noncomputable def p_law_12 : SEv := (sIf (evB (evBin fEq (evBin fIx (evV 3) (evC (.int 0))) (evC (.str "none")))) (sExpr (evBM isLst fApp (evV 17) (evCons (evTup (evCons (evV 10) (evCons (evMake 0 2 m_Ratiou_initu [] (evCons (evC (.int 1)) (evCons (evC (.int 3)) evNil))) (evCons (evMake 0 2 m_Ratiou_initu [.int 1] (evCons (evC (.int 50)) evNil)) evNil)))) evNil))) sNil)
noncomputable def p_law_13 : SEv := (sRet (evBin (fIsB false) (evCall m_is_moment [] (evCons (evV 2) (evCons (evV 3) (evCons (evBin fIx (evV 17) (evCall m__law_draw [] (evCons (evV 1) (evCons (evBI fLen (evCons (evV 17) evNil)) evNil)))) evNil)))) (evC (.bl false))))
noncomputable def t_law_13 : SEv := p_law_13
noncomputable def t_law_12 : SEv := seqS p_law_12 t_law_13
noncomputable def t_law_11 : SEv := seqS p_law_11 t_law_12
noncomputable def t_law_10 : SEv := seqS p_law_10 t_law_11
noncomputable def t_law_9 : SEv := seqS p_law_9 t_law_10
noncomputable def t_law_8 : SEv := seqS p_law_8 t_law_9
noncomputable def t_law_7 : SEv := seqS p_law_7 t_law_8
noncomputable def t_law_6 : SEv := seqS p_law_6 t_law_7
noncomputable def t_law_5 : SEv := seqS p_law_5 t_law_6
noncomputable def t_law_4 : SEv := seqS p_law_4 t_law_5
noncomputable def t_law_3 : SEv := seqS p_law_3 t_law_4
noncomputable def t_law_2 : SEv := seqS p_law_2 t_law_3
noncomputable def t_law_1 : SEv := seqS p_law_1 t_law_2
noncomputable def t_law_0 : SEv := seqS p_law_0 t_law_1
noncomputable def sv_law : SEv := t_law_0
noncomputable def m_law : FSem := arF 1 (bodySem 18 sv_law)
theorem le_law : ∀ ds μ r, m_law ds μ = some r → bodySem 18 sv_law ds μ = some r := arF_le
theorem fn_Ratiou_initu {f : Addr} {fd : FuncData} (T : TxS K mg cs) (F : FunD K "__init__" "Ratio.__init__" (defArgs s_Ratiou_initu) (defBody s_Ratiou_initu) (defScope s_Ratiou_initu) [.int 1] [] f fd)  : FnOk P w K mg base (L2.CX P w) 1 f fd ["self", "n", "d"] (spF (amb K cs) 3 m_Ratiou_initu) :=
  fn_le (fnVD F sc_Ratiou_initu fun cdv A outer s H E hr tk po =>
  (vs_cons (v_if (v_tcmp (o_eq hr.units rfl) (v_var 2) v_int) (vs_one (v_raise rfl tk (pmk_own PySem.F.excBase_ValueError T.x1 T.g1 T.k1 (raises_own T.p1 T.t1) rfl))) vs_nil)
    (vs_cons (v_set 3 sc_Ratiou_initu.nd (v_callBf c_gcd T.b_gcd (va_cons (v_var 1) (va_cons (v_var 2) va_nil))))
    (vs_cons (v_if (v_tcmp o_lt (v_var 2) v_int) (vs_one (v_set 3 sc_Ratiou_initu.nd (v_un o_neg (v_var 3)))) vs_nil)
    (vs_cons (v_fldS 0 0 T.own0 rfl rfl (v_var 0) (v_bin o_div (v_var 1) (v_var 3)))
    (vs_one (v_fldS 0 1 T.own0 rfl rfl (v_var 0) (v_bin o_div (v_var 2) (v_var 3))))))))) le_Ratiou_initu
theorem ok_Ratiou_addu (T : TxS K mg cs) (D : MethAt K ((amb K cs).cl 0) "__add__" "Ratio.__add__" s_Ratiou_addu) (h_Ratiou_initu : In P w K mg base (amb K cs) 1 0 3 [] m_Ratiou_initu) : Mt P w K mg base (amb K cs) 3 ((amb K cs).cl 0) "__add__" 2 m_Ratiou_addu := by
  obtain ⟨f, fd, hm, hi, F⟩ := D.ex
  exact ⟨⟨f, fd, ["self", "other"], hm, hi, F.kp, F.binds (ps := ["self", "other"]) fun _ _ _ _ _ _ us hl => match us, hl with | [_, _], _ => rfl, fn_le (fnV F sc_Ratiou_addu fun cdv A outer s H E hr tk po =>
  (vs_one (v_ret (Om.mk tk hr h_Ratiou_initu T.c0 (va_cons (v_bin o_add (v_bin o_mul (v_fld 0 0 T.own0 rfl rfl (v_var 0)) (v_fld 0 1 T.own0 rfl rfl (v_var 1))) (v_bin o_mul (v_fld 0 0 T.own0 rfl rfl (v_var 1)) (v_fld 0 1 T.own0 rfl rfl (v_var 0)))) (va_cons (v_bin o_mul (v_fld 0 1 T.own0 rfl rfl (v_var 0)) (v_fld 0 1 T.own0 rfl rfl (v_var 1))) va_nil)))))) le_Ratiou_addu⟩, ar_Ratiou_addu⟩
theorem ok_Ratiou_subu (T : TxS K mg cs) (D : MethAt K ((amb K cs).cl 0) "__sub__" "Ratio.__sub__" s_Ratiou_subu) (h_Ratiou_initu : In P w K mg base (amb K cs) 1 0 3 [] m_Ratiou_initu) : Mt P w K mg base (amb K cs) 3 ((amb K cs).cl 0) "__sub__" 2 m_Ratiou_subu := by
  obtain ⟨f, fd, hm, hi, F⟩ := D.ex
  exact ⟨⟨f, fd, ["self", "other"], hm, hi, F.kp, F.binds (ps := ["self", "other"]) fun _ _ _ _ _ _ us hl => match us, hl with | [_, _], _ => rfl, fn_le (fnV F sc_Ratiou_subu fun cdv A outer s H E hr tk po =>
  (vs_one (v_ret (Om.mk tk hr h_Ratiou_initu T.c0 (va_cons (v_bin o_sub (v_bin o_mul (v_fld 0 0 T.own0 rfl rfl (v_var 0)) (v_fld 0 1 T.own0 rfl rfl (v_var 1))) (v_bin o_mul (v_fld 0 0 T.own0 rfl rfl (v_var 1)) (v_fld 0 1 T.own0 rfl rfl (v_var 0)))) (va_cons (v_bin o_mul (v_fld 0 1 T.own0 rfl rfl (v_var 0)) (v_fld 0 1 T.own0 rfl rfl (v_var 1))) va_nil)))))) le_Ratiou_subu⟩, ar_Ratiou_subu⟩
theorem ok_Ratiou_mulu (T : TxS K mg cs) (D : MethAt K ((amb K cs).cl 0) "__mul__" "Ratio.__mul__" s_Ratiou_mulu) (h_Ratiou_initu : In P w K mg base (amb K cs) 1 0 3 [] m_Ratiou_initu) : Mt P w K mg base (amb K cs) 3 ((amb K cs).cl 0) "__mul__" 2 m_Ratiou_mulu := by
  obtain ⟨f, fd, hm, hi, F⟩ := D.ex
  exact ⟨⟨f, fd, ["self", "other"], hm, hi, F.kp, F.binds (ps := ["self", "other"]) fun _ _ _ _ _ _ us hl => match us, hl with | [_, _], _ => rfl, fn_le (fnV F sc_Ratiou_mulu fun cdv A outer s H E hr tk po =>
  (vs_one (v_ret (Om.mk tk hr h_Ratiou_initu T.c0 (va_cons (v_bin o_mul (v_fld 0 0 T.own0 rfl rfl (v_var 0)) (v_fld 0 0 T.own0 rfl rfl (v_var 1))) (va_cons (v_bin o_mul (v_fld 0 1 T.own0 rfl rfl (v_var 0)) (v_fld 0 1 T.own0 rfl rfl (v_var 1))) va_nil)))))) le_Ratiou_mulu⟩, ar_Ratiou_mulu⟩
theorem ok_Ratiou_negu (T : TxS K mg cs) (D : MethAt K ((amb K cs).cl 0) "__neg__" "Ratio.__neg__" s_Ratiou_negu) (h_Ratiou_initu : In P w K mg base (amb K cs) 1 0 3 [] m_Ratiou_initu) : Mt P w K mg base (amb K cs) 3 ((amb K cs).cl 0) "__neg__" 1 m_Ratiou_negu := by
  obtain ⟨f, fd, hm, hi, F⟩ := D.ex
  exact ⟨⟨f, fd, ["self"], hm, hi, F.kp, F.binds (ps := ["self"]) fun _ _ _ _ _ _ us hl => match us, hl with | [_], _ => rfl, fn_le (fnV F sc_Ratiou_negu fun cdv A outer s H E hr tk po =>
  (vs_one (v_ret (Om.mk tk hr h_Ratiou_initu T.c0 (va_cons (v_un o_neg (v_fld 0 0 T.own0 rfl rfl (v_var 0))) (va_cons (v_fld 0 1 T.own0 rfl rfl (v_var 0)) va_nil)))))) le_Ratiou_negu⟩, ar_Ratiou_negu⟩
theorem ok_Ratiou_equ (T : TxS K mg cs) (D : MethAt K ((amb K cs).cl 0) "__eq__" "Ratio.__eq__" s_Ratiou_equ)  : Mt P w K mg base (amb K cs) 1 ((amb K cs).cl 0) "__eq__" 2 m_Ratiou_equ := by
  obtain ⟨f, fd, hm, hi, F⟩ := D.ex
  exact ⟨⟨f, fd, ["self", "other"], hm, hi, F.kp, F.binds (ps := ["self", "other"]) fun _ _ _ _ _ _ us hl => match us, hl with | [_, _], _ => rfl, fn_le (fnV F sc_Ratiou_equ fun cdv A outer s H E hr tk po =>
  (vs_one (v_ret (v_and (v_isiV rfl T.b_isinstance (by decide +kernel) (v_var 1) (pe_glob (v := .ref _) (by rfl) T.c0 rfl) (.own _) (isiO_ok T.isi0)) (v_and (v_cmp (o_eq hr.units rfl) (v_fld 0 0 T.own0 rfl rfl (v_var 0)) (v_fld 0 0 T.own0 rfl rfl (v_var 1))) (v_one (v_cmp (o_eq hr.units rfl) (v_fld 0 1 T.own0 rfl rfl (v_var 0)) (v_fld 0 1 T.own0 rfl rfl (v_var 1))))))))) le_Ratiou_equ⟩, ar_Ratiou_equ⟩
theorem ok__law_stream (T : TxS K mg cs) (D : DefAt K mg "_law_stream" s__law_stream)  : Fn P w K mg base (amb K cs) 1 "_law_stream" 1 m__law_stream := by
  obtain ⟨f, fd, hm, F⟩ := D.ex
  exact ⟨⟨f, fd, ["script"], hm, F.kp, F.binds (ps := ["script"]) fun _ _ _ _ _ _ us hl => match us, hl with | [_], _ => rfl, fn_le (fnVC F sc__law_stream fun cdv A outer s H E hr tk po =>
  (vs_cons (v_set 1 sc__law_stream.nd v_int)
    (vs_cons (v_for rfl po (vi_seq rfl (v_var 0)) (vg_name 2 sc__law_stream.nd) (vs_one (v_set 1 sc__law_stream.nd (v_bin o_mod (v_callTy c_int T.b_int (by decide +kernel) (va_cons (v_bin o_add (v_bin o_add (v_bin o_mul (v_var 1) v_int) (v_bin o_mod (v_callTy c_int T.b_int (by decide +kernel) (va_cons (v_var 2) va_nil)) v_int)) v_int) va_nil)) v_int))))
    (vs_one (v_ret (v_lstC (va_cons (v_callTy (c_list rfl) T.b_list (by decide +kernel) (va_cons (v_var 0) va_nil)) (va_cons v_int (va_cons v_int (va_cons (v_var 1) va_nil)))))))))) le__law_stream⟩, ar__law_stream⟩
theorem ok__law_draw (T : TxS K mg cs) (D : DefAt K mg "_law_draw" s__law_draw)  : Fn P w K mg base (amb K cs) 1 "_law_draw" 2 m__law_draw := by
  obtain ⟨f, fd, hm, F⟩ := D.ex
  exact ⟨⟨f, fd, ["stream", "many"], hm, F.kp, F.binds (ps := ["stream", "many"]) fun _ _ _ _ _ _ us hl => match us, hl with | [_, _], _ => rfl, fn_le (fnV F sc__law_draw fun cdv A outer s H E hr tk po =>
  (vs_cons (v_if (PW.pt (v_tand (v_tcmp (o_eq hr.units rfl) (v_ix (o_ix rfl) (v_var 0) v_int) v_int) (v_and1 (v_tcmp o_lt (v_ix (o_ix rfl) (v_var 0) v_int) (v_callB (c_len rfl) T.b_len (by decide +kernel) (va_cons (v_ix (o_ix rfl) (v_var 0) v_int) va_nil)))))) (vs_cons (v_setIx (v_var 0) v_int (v_callB c_abs T.b_abs (by decide +kernel) (va_cons (v_callTy c_int T.b_int (by decide +kernel) (va_cons (v_ix (o_ix rfl) (v_ix (o_ix rfl) (v_var 0) v_int) (v_ix (o_ix rfl) (v_var 0) v_int)) va_nil)) va_nil)))
    (vs_one (v_setIx (v_var 0) v_int (v_bin o_add (v_ix (o_ix rfl) (v_var 0) v_int) v_int)))) vs_nil)
    (vs_cons (v_if (v_tcmp (o_eq hr.units rfl) (v_ix (o_ix rfl) (v_var 0) v_int) v_int) (vs_cons (v_setIx (v_var 0) v_int (v_bin o_mod (v_callTy c_int T.b_int (by decide +kernel) (va_cons (v_bin o_add (v_bin o_mul (v_ix (o_ix rfl) (v_var 0) v_int) v_int) v_int) va_nil)) v_int))
    (vs_one (v_ret (v_bin o_mod (v_callTy c_int T.b_int (by decide +kernel) (va_cons (v_bin o_div (v_ix (o_ix rfl) (v_var 0) v_int) v_int) va_nil)) (v_var 1))))) vs_nil)
    (vs_cons (v_set 2 sc__law_draw.nd (v_bin o_mod (v_callTy c_int T.b_int (by decide +kernel) (va_cons (v_ix (o_ix rfl) (v_var 0) v_int) va_nil)) (v_var 1)))
    (vs_cons (v_setIx (v_var 0) v_int (v_bin o_div (v_ix (o_ix rfl) (v_var 0) v_int) (v_var 1)))
    (vs_one (v_ret (v_var 2)))))))) le__law_draw⟩, ar__law_draw⟩
theorem ok__law_slength (T : TxS K mg cs) (D : DefAt K mg "_law_length" s__law_slength) (h_Ratiou_initu1 : In P w K mg base (amb K cs) 1 0 3 [.int 1] m_Ratiou_initu) (h_Ratiou_addu : Mt P w K mg base (amb K cs) 3 ((amb K cs).cl 0) "__add__" 2 m_Ratiou_addu) : Fn P w K mg base (amb K cs) 4 "_law_length" 1 m__law_slength := by
  obtain ⟨f, fd, hm, F⟩ := D.ex
  exact ⟨⟨f, fd, ["move"], hm, F.kp, F.binds (ps := ["move"]) fun _ _ _ _ _ _ us hl => match us, hl with | [_], _ => rfl, fn_le (fnV F sc__law_slength fun cdv A outer s H E hr tk po =>
  (vs_cons (v_set 1 sc__law_slength.nd (Om.mk tk (hr.mono (by decide)) h_Ratiou_initu1 T.c0 (va_cons v_int va_nil)))
    (vs_cons (v_for rfl po (vi_seq rfl (v_var 0)) (vg_tup rfl rfl (vgs_cons 2 sc__law_slength.nd (vgs_cons 3 sc__law_slength.nd vgs_nil))) (vs_one (v_set 1 sc__law_slength.nd (v_bin (Om.bin tk hr rfl h_Ratiou_addu T.sf0) (v_var 1) (v_var 2)))))
    (vs_one (v_ret (v_var 1)))))) le__law_slength⟩, ar__law_slength⟩
theorem ok__law_ssheet (T : TxS K mg cs) (D : DefAt K mg "_law_sheet" s__law_ssheet) (h__law_draw : Fn P w K mg base (amb K cs) 1 "_law_draw" 2 m__law_draw) (h_Ratiou_initu : In P w K mg base (amb K cs) 1 0 3 [] m_Ratiou_initu) (h__law_slength : Fn P w K mg base (amb K cs) 4 "_law_length" 1 m__law_slength) (h_Ratiou_addu : Mt P w K mg base (amb K cs) 3 ((amb K cs).cl 0) "__add__" 2 m_Ratiou_addu) (h_Ratiou_initu1 : In P w K mg base (amb K cs) 1 0 3 [.int 1] m_Ratiou_initu) (h_Ratiou_mulu : Mt P w K mg base (amb K cs) 3 ((amb K cs).cl 0) "__mul__" 2 m_Ratiou_mulu) : Fn P w K mg base (amb K cs) 5 "_law_sheet" 2 m__law_ssheet := by
  obtain ⟨f, fd, hm, F⟩ := D.ex
  exact ⟨⟨f, fd, ["stream", "moves"], hm, F.kp, F.binds (ps := ["stream", "moves"]) fun _ _ _ _ _ _ us hl => match us, hl with | [_, _], _ => rfl, fn_le (fnV F sc__law_ssheet fun cdv A outer s H E hr tk po =>
  (vs_cons (v_set 2 sc__law_ssheet.nd (v_lstC va_nil))
    (vs_cons (v_for rfl po (vi_rng1 T.b_range (v_callB (c_len rfl) T.b_len (by decide +kernel) (va_cons (v_var 1) va_nil))) (vg_name 3 sc__law_ssheet.nd) (vs_cons (v_set 4 sc__law_ssheet.nd (v_bin o_sub (Om.call tk (hr.mono (by decide)) h__law_draw (va_cons (v_var 0) (va_cons (v_bin o_add (v_var 3) v_int) va_nil))) v_int))
    (vs_cons (v_set 5 sc__law_ssheet.nd (Om.mk tk (hr.mono (by decide)) h_Ratiou_initu T.c0 (va_cons (Om.call tk (hr.mono (by decide)) h__law_draw (va_cons (v_var 0) (va_cons v_int va_nil))) (va_cons (v_bin o_add v_int (Om.call tk (hr.mono (by decide)) h__law_draw (va_cons (v_var 0) (va_cons v_int va_nil)))) va_nil))))
    (vs_cons (v_if (PW.pt (v_tand (v_tcmp o_gt (v_var 3) v_int) (v_and1 (v_tcmp (o_eq hr.units rfl) (Om.call tk (hr.mono (by decide)) h__law_draw (va_cons (v_var 0) (va_cons v_int va_nil))) v_int)))) (vs_cons (v_set 5 sc__law_ssheet.nd (v_bin (Om.bin tk (hr.mono (by decide)) rfl h_Ratiou_addu T.sf0) (v_var 5) (Om.call tk hr h__law_slength (va_cons (v_ix (o_ix rfl) (v_var 1) (v_bin o_sub (v_var 3) v_int)) va_nil))))
    (vs_one (v_set 4 sc__law_ssheet.nd (v_ix (o_ix rfl) (v_lst (va_cons (v_bin o_sub (v_var 3) v_int) (va_cons (v_var 4) va_nil))) (Om.call tk (hr.mono (by decide)) h__law_draw (va_cons (v_var 0) (va_cons v_int va_nil))))))) vs_nil)
    (vs_cons (v_if (v_tcmp (o_eq hr.units rfl) (Om.call tk (hr.mono (by decide)) h__law_draw (va_cons (v_var 0) (va_cons v_int va_nil))) v_int) (vs_one (v_set 5 sc__law_ssheet.nd (v_bin (Om.bin tk (hr.mono (by decide)) rfl h_Ratiou_addu T.sf0) (v_var 5) (Om.mk tk (hr.mono (by decide)) h_Ratiou_initu1 T.c0 (va_cons v_int va_nil))))) vs_nil)
    (vs_cons (v_set 6 sc__law_ssheet.nd (Om.mk tk (hr.mono (by decide)) h_Ratiou_initu T.c0 (va_cons (Om.call tk (hr.mono (by decide)) h__law_draw (va_cons (v_var 0) (va_cons v_int va_nil))) (va_cons (v_bin o_add v_int (Om.call tk (hr.mono (by decide)) h__law_draw (va_cons (v_var 0) (va_cons v_int va_nil)))) va_nil))))
    (vs_one (v_expr (v_bm PySem.F.plainAttrs_list PySem.F.slot_list_append PySem.F.type_list_append m_append ty_lst (v_var 2) (va_cons (v_tup (va_cons (v_var 4) (va_cons (v_var 5) (va_cons (v_bin (Om.bin tk (hr.mono (by decide)) rfl h_Ratiou_addu T.sf0) (v_var 5) (v_bin (Om.bin tk (hr.mono (by decide)) rfl h_Ratiou_mulu T.sf0) (v_var 6) (Om.mk tk (hr.mono (by decide)) h_Ratiou_initu1 T.c0 (va_cons (v_ix (o_ix rfl) (v_lst (va_cons v_int (va_cons v_int (va_cons v_int (va_cons v_int va_nil))))) (Om.call tk (hr.mono (by decide)) h__law_draw (va_cons (v_var 0) (va_cons v_int va_nil)))) va_nil)))) va_nil)))) va_nil))))))))))
    (vs_one (v_ret (v_callTy (c_tupOf rfl) T.b_tuple (by decide +kernel) (va_cons (v_var 2) va_nil))))))) le__law_ssheet⟩, ar__law_ssheet⟩
theorem ok__law_sless (T : TxS K mg cs) (D : DefAt K mg "_law_less" s__law_sless)  : Fn P w K mg base (amb K cs) 1 "_law_less" 2 m__law_sless := by
  obtain ⟨f, fd, hm, F⟩ := D.ex
  exact ⟨⟨f, fd, ["a", "b"], hm, F.kp, F.binds (ps := ["a", "b"]) fun _ _ _ _ _ _ us hl => match us, hl with | [_, _], _ => rfl, fn_le (fnV F sc__law_sless fun cdv A outer s H E hr tk po =>
  (vs_one (v_ret (v_cmp o_lt (v_bin o_mul (v_fld 0 0 T.own0 rfl rfl (v_var 0)) (v_fld 0 1 T.own0 rfl rfl (v_var 1))) (v_bin o_mul (v_fld 0 0 T.own0 rfl rfl (v_var 1)) (v_fld 0 1 T.own0 rfl rfl (v_var 0))))))) le__law_sless⟩, ar__law_sless⟩
theorem ok__law_sbounds (T : TxS K mg cs) (D : DefAt K mg "_law_bounds" s__law_sbounds) (h_Ratiou_initu1 : In P w K mg base (amb K cs) 1 0 3 [.int 1] m_Ratiou_initu) (h_Ratiou_negu : Mt P w K mg base (amb K cs) 3 ((amb K cs).cl 0) "__neg__" 1 m_Ratiou_negu) (h_Ratiou_addu : Mt P w K mg base (amb K cs) 3 ((amb K cs).cl 0) "__add__" 2 m_Ratiou_addu) (h__law_sless : Fn P w K mg base (amb K cs) 1 "_law_less" 2 m__law_sless) : Fn P w K mg base (amb K cs) 4 "_law_bounds" 1 m__law_sbounds := by
  obtain ⟨f, fd, hm, F⟩ := D.ex
  exact ⟨⟨f, fd, ["sheet"], hm, F.kp, F.binds (ps := ["sheet"]) fun _ _ _ _ _ _ us hl => match us, hl with | [_], _ => rfl, fn_le (fnVK F sc__law_sbounds fun cdv A outer s H E hr tk po =>
  (vs_cons (v_set 1 sc__law_sbounds.nd (v_bin o_add (v_callB (c_len rfl) T.b_len (by decide +kernel) (va_cons (v_var 0) va_nil)) v_int))
    (vs_cons (by first | exact (v_setLcD (i := 2) rfl sc__law_sbounds.nd rfl rfl rfl (vii_of (vi_rng1 T.b_range (v_var 1))) (blkOk_by (own := [("i", 4)]) rfl) (gsi_of (gs_name (by decide))) (fun _ _ _ _ _ => (pg_name (i := 4) sc__law_sbounds.nd rfl (by first | exact Or.inl rfl | exact Or.inr rfl))) (fun _ _ _ _ _ => vpts_nil) (fun _ _ _ _ _ => (v_lcC rfl sc__law_sbounds.nd (vi_rng1 T.b_range (v_var 1)) (blkOk_by (own := [("j", 3)]) rfl) (gs_name (by decide)) (fun _ _ _ _ _ => (pg_name (i := 3) sc__law_sbounds.nd rfl (by first | exact Or.inl rfl | exact Or.inr rfl))) (fun _ _ _ _ _ => vpts_nil) (fun _ _ _ _ _ => (Om.mk takes0 (hr.mono (by decide)) h_Ratiou_initu1 T.c0 (va_cons v_int va_nil)))))) | exact (v_set 2 sc__law_sbounds.nd (v_lcD rfl sc__law_sbounds.nd (vii_of (vi_rng1 T.b_range (v_var 1))) (blkOk_by (own := [("i", 4)]) rfl) (gsi_of (gs_name (by decide))) (fun _ _ _ _ _ => (pg_name (i := 4) sc__law_sbounds.nd rfl (by first | exact Or.inl rfl | exact Or.inr rfl))) (fun _ _ _ _ _ => vpts_nil) (fun _ _ _ _ _ => (v_lcC rfl sc__law_sbounds.nd (vi_rng1 T.b_range (v_var 1)) (blkOk_by (own := [("j", 3)]) rfl) (gs_name (by decide)) (fun _ _ _ _ _ => (pg_name (i := 3) sc__law_sbounds.nd rfl (by first | exact Or.inl rfl | exact Or.inr rfl))) (fun _ _ _ _ _ => vpts_nil) (fun _ _ _ _ _ => (Om.mk takes0 (hr.mono (by decide)) h_Ratiou_initu1 T.c0 (va_cons v_int va_nil))))))))
    (vs_cons (v_for rfl po (vi_rng1 T.b_range (v_var 1)) (vg_name 4 sc__law_sbounds.nd) (vs_one (v_setIx (v_ix (o_ixD rfl) (v_var 2) (v_var 4)) (v_var 4) (Om.mk tk (hr.mono (by decide)) h_Ratiou_initu1 T.c0 (va_cons v_int va_nil)))))
    (vs_cons (v_for rfl po (vi_rng1 T.b_range (v_callB (c_len rfl) T.b_len (by decide +kernel) (va_cons (v_var 0) va_nil))) (vg_name 5 sc__law_sbounds.nd) (vs_cons (v_asgT (vg_tup rfl rfl (vgs_cons 6 sc__law_sbounds.nd (vgs_cons 7 sc__law_sbounds.nd (vgs_cons 8 sc__law_sbounds.nd vgs_nil)))) (v_ix (o_ix rfl) (v_var 0) (v_var 5)))
    (vs_cons (v_setIx (v_ix (o_ixD rfl) (v_var 2) (v_var 5)) (v_bin o_mod (v_callTy c_int T.b_int (by decide +kernel) (va_cons (v_var 6) va_nil)) (v_var 1)) (v_var 8))
    (vs_one (v_setIx (v_ix (o_ixD rfl) (v_var 2) (v_bin o_mod (v_callTy c_int T.b_int (by decide +kernel) (va_cons (v_var 6) va_nil)) (v_var 1))) (v_var 5) (v_un (Om.neg tk hr h_Ratiou_negu T.sf0) (v_var 7)))))))
    (vs_cons (v_for rfl po (vi_rng1 T.b_range (v_var 1)) (vg_name 9 sc__law_sbounds.nd) (vs_one (v_for rfl po (vi_rng1 T.b_range (v_var 1)) (vg_name 4 sc__law_sbounds.nd) (vs_one (v_for rfl po (vi_rng1 T.b_range (v_var 1)) (vg_name 3 sc__law_sbounds.nd) (vs_one (v_if (v_test (Om.call tk (hr.mono (by decide)) h__law_sless (va_cons (v_bin (Om.bin tk hr rfl h_Ratiou_addu T.sf0) (v_ix (o_ix rfl) (v_ix (o_ixD rfl) (v_var 2) (v_var 4)) (v_var 9)) (v_ix (o_ix rfl) (v_ix (o_ixD rfl) (v_var 2) (v_var 9)) (v_var 3))) (va_cons (v_ix (o_ix rfl) (v_ix (o_ixD rfl) (v_var 2) (v_var 4)) (v_var 3)) va_nil)))) (vs_one (v_setIx (v_ix (o_ixD rfl) (v_var 2) (v_var 4)) (v_var 3) (v_bin (Om.bin tk hr rfl h_Ratiou_addu T.sf0) (v_ix (o_ix rfl) (v_ix (o_ixD rfl) (v_var 2) (v_var 4)) (v_var 9)) (v_ix (o_ix rfl) (v_ix (o_ixD rfl) (v_var 2) (v_var 9)) (v_var 3))))) vs_nil)))))))
    (vs_one (v_ret (v_var 2))))))))) le__law_sbounds⟩, ar__law_sbounds⟩
theorem ok__law_sover (T : TxS K mg cs) (D : DefAt K mg "_law_over" s__law_sover) (h_Ratiou_initu : In P w K mg base (amb K cs) 1 0 3 [] m_Ratiou_initu) : Fn P w K mg base (amb K cs) 3 "_law_over" 2 m__law_sover := by
  obtain ⟨f, fd, hm, F⟩ := D.ex
  exact ⟨⟨f, fd, ["a", "b"], hm, F.kp, F.binds (ps := ["a", "b"]) fun _ _ _ _ _ _ us hl => match us, hl with | [_, _], _ => rfl, fn_le (fnV F sc__law_sover fun cdv A outer s H E hr tk po =>
  (vs_one (v_ret (Om.mk tk hr h_Ratiou_initu T.c0 (va_cons (v_bin o_mul (v_fld 0 0 T.own0 rfl rfl (v_var 0)) (v_fld 0 1 T.own0 rfl rfl (v_var 1))) (va_cons (v_bin o_mul (v_fld 0 1 T.own0 rfl rfl (v_var 0)) (v_fld 0 0 T.own0 rfl rfl (v_var 1))) va_nil)))))) le__law_sover⟩, ar__law_sover⟩
theorem ok__law_smove (T : TxS K mg cs) (D : DefAt K mg "_law_move" s__law_smove) (h__law_draw : Fn P w K mg base (amb K cs) 1 "_law_draw" 2 m__law_draw) (h_Ratiou_initu : In P w K mg base (amb K cs) 1 0 3 [] m_Ratiou_initu) (h_Ratiou_initu1 : In P w K mg base (amb K cs) 1 0 3 [.int 1] m_Ratiou_initu) (h_Ratiou_negu : Mt P w K mg base (amb K cs) 3 ((amb K cs).cl 0) "__neg__" 1 m_Ratiou_negu) (h_Ratiou_addu : Mt P w K mg base (amb K cs) 3 ((amb K cs).cl 0) "__add__" 2 m_Ratiou_addu) (h_Ratiou_mulu : Mt P w K mg base (amb K cs) 3 ((amb K cs).cl 0) "__mul__" 2 m_Ratiou_mulu) (h__law_sover : Fn P w K mg base (amb K cs) 3 "_law_over" 2 m__law_sover) : Fn P w K mg base (amb K cs) 4 "_law_move" 1 m__law_smove := by
  obtain ⟨f, fd, hm, F⟩ := D.ex
  exact ⟨⟨f, fd, ["stream"], hm, F.kp, F.binds (ps := ["stream"]) fun _ _ _ _ _ _ us hl => match us, hl with | [_], _ => rfl, fn_le (fnV F sc__law_smove fun cdv A outer s H E hr tk po =>
  (vs_cons (v_set 1 sc__law_smove.nd (Om.mk tk (hr.mono (by decide)) h_Ratiou_initu T.c0 (va_cons (v_bin o_add v_int (Om.call tk (hr.mono (by decide)) h__law_draw (va_cons (v_var 0) (va_cons v_int va_nil)))) (va_cons (v_bin o_add v_int (Om.call tk (hr.mono (by decide)) h__law_draw (va_cons (v_var 0) (va_cons v_int va_nil)))) va_nil))))
    (vs_cons (v_set 2 sc__law_smove.nd (Om.mk tk (hr.mono (by decide)) h_Ratiou_initu T.c0 (va_cons (v_bin o_add v_int (Om.call tk (hr.mono (by decide)) h__law_draw (va_cons (v_var 0) (va_cons v_int va_nil)))) (va_cons (v_bin o_add v_int (Om.call tk (hr.mono (by decide)) h__law_draw (va_cons (v_var 0) (va_cons v_int va_nil)))) va_nil))))
    (vs_cons (v_set 3 sc__law_smove.nd (Om.mk tk (hr.mono (by decide)) h_Ratiou_initu1 T.c0 (va_cons (v_ix (o_ix rfl) (v_lst (va_cons (v_un o_neg v_int) (va_cons (v_un o_neg v_int) (va_cons (v_un o_neg v_int) (va_cons v_int (va_cons v_int (va_cons v_int va_nil))))))) (Om.call tk (hr.mono (by decide)) h__law_draw (va_cons (v_var 0) (va_cons v_int va_nil)))) va_nil)))
    (vs_cons (v_set 4 sc__law_smove.nd (v_tup (va_cons (Om.mk tk (hr.mono (by decide)) h_Ratiou_initu1 T.c0 (va_cons (v_bin o_add v_int (Om.call tk (hr.mono (by decide)) h__law_draw (va_cons (v_var 0) (va_cons v_int va_nil)))) va_nil)) (va_cons (Om.mk tk (hr.mono (by decide)) h_Ratiou_initu1 T.c0 (va_cons v_int va_nil)) va_nil))))
    (vs_cons (v_set 5 sc__law_smove.nd (Om.call tk (hr.mono (by decide)) h__law_draw (va_cons (v_var 0) (va_cons v_int va_nil))))
    (vs_cons (v_if (v_tcmp (o_eq hr.units rfl) (v_var 5) v_int) (vs_one (v_ret (v_tup (va_cons (v_tup (va_cons (v_var 1) (va_cons (v_var 3) va_nil))) (va_cons (v_tup (va_cons (v_bin (Om.bin tk hr rfl h_Ratiou_addu T.sf0) (v_var 1) (v_var 1)) (va_cons (v_un (Om.neg tk hr h_Ratiou_negu T.sf0) (v_var 3)) va_nil))) (va_cons (v_tup (va_cons (v_var 1) (va_cons (v_var 3) va_nil))) va_nil)))))) vs_nil)
    (vs_cons (v_set 6 sc__law_smove.nd (v_lstC (va_cons (v_tup (va_cons (v_var 1) (va_cons (v_var 3) va_nil))) (va_cons (v_tup (va_cons (v_var 2) (va_cons (v_un (Om.neg tk hr h_Ratiou_negu T.sf0) (Om.call tk hr h__law_sover (va_cons (v_bin (Om.bin tk hr rfl h_Ratiou_mulu T.sf0) (v_var 3) (v_var 1)) (va_cons (v_var 2) va_nil)))) va_nil))) va_nil))))
    (vs_cons (v_if (v_tcmp o_lt (v_var 5) v_int) (vs_one (v_expr (v_bm PySem.F.plainAttrs_list PySem.F.slot_list_insert PySem.F.type_list_insert m_insert ty_lst (v_var 6) (va_cons v_int (va_cons (v_var 4) va_nil))))) (vs_one (v_if (v_tcmp (o_eq hr.units rfl) (v_var 5) v_int) (vs_one (v_expr (v_bm PySem.F.plainAttrs_list PySem.F.slot_list_insert PySem.F.type_list_insert m_insert ty_lst (v_var 6) (va_cons v_int (va_cons (v_var 4) va_nil))))) (vs_one (v_if (v_tcmp (o_eq hr.units rfl) (v_var 5) v_int) (vs_one (v_expr (v_bm PySem.F.plainAttrs_list PySem.F.slot_list_append PySem.F.type_list_append m_append ty_lst (v_var 6) (va_cons (v_var 4) va_nil)))) vs_nil)))))
    (vs_one (v_ret (v_callTy (c_tupOf rfl) T.b_tuple (by decide +kernel) (va_cons (v_var 6) va_nil))))))))))))) le__law_smove⟩, ar__law_smove⟩
theorem ok__law_snumber (T : TxS K mg cs) (D : DefAt K mg "_law_number" s__law_snumber) (h__law_draw : Fn P w K mg base (amb K cs) 1 "_law_draw" 2 m__law_draw) (h_Ratiou_initu : In P w K mg base (amb K cs) 1 0 3 [] m_Ratiou_initu) : Fn P w K mg base (amb K cs) 3 "_law_number" 1 m__law_snumber := by
  obtain ⟨f, fd, hm, F⟩ := D.ex
  exact ⟨⟨f, fd, ["stream"], hm, F.kp, F.binds (ps := ["stream"]) fun _ _ _ _ _ _ us hl => match us, hl with | [_], _ => rfl, fn_le (fnV F sc__law_snumber fun cdv A outer s H E hr tk po =>
  (vs_one (v_ret (Om.mk tk hr h_Ratiou_initu T.c0 (va_cons (v_bin o_sub (Om.call tk (hr.mono (by decide)) h__law_draw (va_cons (v_var 0) (va_cons v_int va_nil))) v_int) (va_cons (v_ix (o_ix rfl) (v_lst (va_cons v_int (va_cons v_int (va_cons v_int (va_cons v_int va_nil))))) (Om.call tk (hr.mono (by decide)) h__law_draw (va_cons (v_var 0) (va_cons v_int va_nil)))) va_nil)))))) le__law_snumber⟩, ar__law_snumber⟩
theorem ok__law_weigh (T : TxS K mg cs) (D : DefAt K mg "_law_weigh" s__law_weigh) (h__law_draw : Fn P w K mg base (amb K cs) 1 "_law_draw" 2 m__law_draw) (h_Ratiou_initu : In P w K mg base (amb K cs) 1 0 3 [] m_Ratiou_initu) (h_Ratiou_initu1 : In P w K mg base (amb K cs) 1 0 3 [.int 1] m_Ratiou_initu) (h__law_snumber : Fn P w K mg base (amb K cs) 3 "_law_number" 1 m__law_snumber) (h_Ratiou_addu : Mt P w K mg base (amb K cs) 3 ((amb K cs).cl 0) "__add__" 2 m_Ratiou_addu) : Fn P w K mg base (amb K cs) 4 "_law_weigh" 2 m__law_weigh := by
  obtain ⟨f, fd, hm, F⟩ := D.ex
  exact ⟨⟨f, fd, ["stream", "total"], hm, F.kp, F.binds (ps := ["stream", "total"]) fun _ _ _ _ _ _ us hl => match us, hl with | [_, _], _ => rfl, fn_le (fnV F sc__law_weigh fun cdv A outer s H E hr tk po =>
  (vs_cons (v_set 2 sc__law_weigh.nd (Om.call tk (hr.mono (by decide)) h__law_draw (va_cons (v_var 0) (va_cons (v_var 1) va_nil))))
    (vs_cons (v_set 3 sc__law_weigh.nd (v_bin o_mod (v_callTy c_int T.b_int (by decide +kernel) (va_cons (v_bin o_add (v_bin o_add (v_var 2) v_int) (Om.call tk (hr.mono (by decide)) h__law_draw (va_cons (v_var 0) (va_cons (v_bin o_sub (v_var 1) v_int) va_nil)))) va_nil)) (v_var 1)))
    (vs_cons (by first | exact (v_setLc (i := 4) rfl sc__law_weigh.nd rfl rfl rfl (vi_rng1 T.b_range v_int) (blkOk_by (own := [("k", 5)]) rfl) (gs_name (by decide)) (fun _ _ _ _ _ => (pg_name (i := 5) sc__law_weigh.nd rfl (by first | exact Or.inl rfl | exact Or.inr rfl))) (fun _ _ _ _ _ => vpts_nil) (fun _ _ _ _ _ => (Om.mk takes0 (hr.mono (by decide)) h_Ratiou_initu T.c0 (va_cons (v_bin o_sub (Om.call takes0 (hr.mono (by decide)) h__law_draw (va_cons (v_var 0) (va_cons v_int va_nil))) v_int) (va_cons (v_bin o_add v_int (Om.call takes0 (hr.mono (by decide)) h__law_draw (va_cons (v_var 0) (va_cons v_int va_nil)))) va_nil))))) | exact (v_set 4 sc__law_weigh.nd (v_lc rfl sc__law_weigh.nd (vi_rng1 T.b_range v_int) (blkOk_by (own := [("k", 5)]) rfl) (gs_name (by decide)) (fun _ _ _ _ _ => (pg_name (i := 5) sc__law_weigh.nd rfl (by first | exact Or.inl rfl | exact Or.inr rfl))) (fun _ _ _ _ _ => vpts_nil) (fun _ _ _ _ _ => (Om.mk takes0 (hr.mono (by decide)) h_Ratiou_initu T.c0 (va_cons (v_bin o_sub (Om.call takes0 (hr.mono (by decide)) h__law_draw (va_cons (v_var 0) (va_cons v_int va_nil))) v_int) (va_cons (v_bin o_add v_int (Om.call takes0 (hr.mono (by decide)) h__law_draw (va_cons (v_var 0) (va_cons v_int va_nil)))) va_nil)))))))
    (vs_cons (v_if (v_tcmp (o_eq hr.units rfl) (Om.call tk (hr.mono (by decide)) h__law_draw (va_cons (v_var 0) (va_cons v_int va_nil))) v_int) (vs_one (v_set 4 sc__law_weigh.nd (v_lst (va_cons (Om.mk tk (hr.mono (by decide)) h_Ratiou_initu1 T.c0 (va_cons (v_un o_neg v_int) va_nil)) (va_cons (Om.mk tk (hr.mono (by decide)) h_Ratiou_initu1 T.c0 (va_cons v_int va_nil)) va_nil))))) vs_nil)
    (vs_one (v_ret (v_tup (va_cons v_str (va_cons (v_var 2) (va_cons (v_ix (o_ix rfl) (v_var 4) v_int) (va_cons (v_var 3) (va_cons (v_ix (o_ix rfl) (v_var 4) v_int) (va_cons (v_bin (Om.bin tk hr rfl h_Ratiou_addu T.sf0) (Om.call tk hr h__law_snumber (va_cons (v_var 0) va_nil)) (Om.call tk hr h__law_snumber (va_cons (v_var 0) va_nil))) va_nil)))))))))))))) le__law_weigh⟩, ar__law_weigh⟩
theorem ok__law_zone (T : TxS K mg cs) (D : DefAt K mg "_law_zone" s__law_zone) (h__law_draw : Fn P w K mg base (amb K cs) 1 "_law_draw" 2 m__law_draw) (h__law_snumber : Fn P w K mg base (amb K cs) 3 "_law_number" 1 m__law_snumber) (h_Ratiou_initu1 : In P w K mg base (amb K cs) 1 0 3 [.int 1] m_Ratiou_initu) (h_Ratiou_addu : Mt P w K mg base (amb K cs) 3 ((amb K cs).cl 0) "__add__" 2 m_Ratiou_addu) : Fn P w K mg base (amb K cs) 4 "_law_zone" 3 m__law_zone := by
  obtain ⟨f, fd, hm, F⟩ := D.ex
  exact ⟨⟨f, fd, ["stream", "total", "table"], hm, F.kp, F.binds (ps := ["stream", "total", "table"]) fun _ _ _ _ _ _ us hl => match us, hl with | [_, _, _], _ => rfl, fn_le (fnV F sc__law_zone fun cdv A outer s H E hr tk po =>
  (vs_cons (by first | exact (v_setLc (i := 3) rfl sc__law_zone.nd rfl rfl rfl (vi_rng1 T.b_range (v_bin o_sub (v_callB (c_lenD rfl) T.b_len (by decide +kernel) (va_cons (v_var 2) va_nil)) v_int)) (blkOk_by (own := [("i", 4)]) rfl) (gs_name (by decide)) (fun _ _ _ _ _ => (pg_name (i := 4) sc__law_zone.nd rfl (by first | exact Or.inl rfl | exact Or.inr rfl))) (fun _ _ _ _ _ => vpts_nil) (fun _ _ _ _ _ => (v_tup (va_cons (v_var 4) (va_cons (v_var 4) va_nil))))) | exact (v_set 3 sc__law_zone.nd (v_lc rfl sc__law_zone.nd (vi_rng1 T.b_range (v_bin o_sub (v_callB (c_lenD rfl) T.b_len (by decide +kernel) (va_cons (v_var 2) va_nil)) v_int)) (blkOk_by (own := [("i", 4)]) rfl) (gs_name (by decide)) (fun _ _ _ _ _ => (pg_name (i := 4) sc__law_zone.nd rfl (by first | exact Or.inl rfl | exact Or.inr rfl))) (fun _ _ _ _ _ => vpts_nil) (fun _ _ _ _ _ => (v_tup (va_cons (v_var 4) (va_cons (v_var 4) va_nil)))))))
    (vs_cons (v_for rfl po (vi_rng1 T.b_range (v_bin o_sub (v_callB (c_lenD rfl) T.b_len (by decide +kernel) (va_cons (v_var 2) va_nil)) v_int)) (vg_name 4 sc__law_zone.nd) (vs_one (v_set 3 sc__law_zone.nd (v_bin o_catL (v_var 3) (v_lc rfl sc__law_zone.nd (vi_rng1 T.b_range (v_bin o_sub (v_callB (c_lenD rfl) T.b_len (by decide +kernel) (va_cons (v_var 2) va_nil)) v_int)) (blkOk_by (own := [("j", 5)]) rfl) (gs_name (by decide)) (fun _ _ _ _ _ => (pg_name (i := 5) sc__law_zone.nd rfl (by first | exact Or.inl rfl | exact Or.inr rfl))) (fun _ _ _ _ _ => vpts_one (PW.pt (v_tand (v_tcmp (o_ne hr.units rfl) (v_var 4) (v_var 5)) (v_and1 (v_tcmp o_le (v_fld 0 0 T.own0 rfl rfl (v_ix (o_ix rfl) (v_ix (o_ixD rfl) (v_var 2) (v_var 4)) (v_var 5))) v_int))))) (fun _ _ _ _ _ => (v_tup (va_cons (v_var 4) (va_cons (v_var 5) va_nil)))))))))
    (vs_cons (v_asgT (vg_tup rfl rfl (vgs_cons 4 sc__law_zone.nd (vgs_cons 5 sc__law_zone.nd vgs_nil))) (v_ix (o_ix rfl) (v_var 3) (v_bin o_sub (v_un o_neg v_int) (Om.call tk (hr.mono (by decide)) h__law_draw (va_cons (v_var 0) (va_cons (v_callB (c_len rfl) T.b_len (by decide +kernel) (va_cons (v_var 3) va_nil)) va_nil))))))
    (vs_cons (v_set 6 sc__law_zone.nd (Om.call tk hr h__law_snumber (va_cons (v_var 0) va_nil)))
    (vs_one (v_ret (v_tup (va_cons v_str (va_cons (Om.call tk (hr.mono (by decide)) h__law_draw (va_cons (v_var 0) (va_cons (v_var 1) va_nil))) (va_cons (v_var 6) (va_cons (v_bin (Om.bin tk hr rfl h_Ratiou_addu T.sf0) (v_var 6) (Om.mk tk (hr.mono (by decide)) h_Ratiou_initu1 T.c0 (va_cons (v_bin o_add v_int (Om.call tk (hr.mono (by decide)) h__law_draw (va_cons (v_var 0) (va_cons v_int va_nil)))) va_nil))) (va_cons (v_var 4) (va_cons (v_var 5) va_nil)))))))))))))) le__law_zone⟩, ar__law_zone⟩
theorem ok__law_fits (T : TxS K mg cs) (D : DefAt K mg "_law_fits" s__law_fits) (h__law_slength : Fn P w K mg base (amb K cs) 4 "_law_length" 1 m__law_slength) (h_Ratiou_negu : Mt P w K mg base (amb K cs) 3 ((amb K cs).cl 0) "__neg__" 1 m_Ratiou_negu) (h__law_sless : Fn P w K mg base (amb K cs) 1 "_law_less" 2 m__law_sless) : Fn P w K mg base (amb K cs) 5 "_law_fits" 3 m__law_fits := by
  obtain ⟨f, fd, hm, F⟩ := D.ex
  exact ⟨⟨f, fd, ["table", "act", "cue"], hm, F.kp, F.binds (ps := ["table", "act", "cue"]) fun _ _ _ _ _ _ us hl => match us, hl with | [_, _, _], _ => rfl, fn_le (fnV F sc__law_fits fun cdv A outer s H E hr tk po =>
  (vs_one (v_ret (v_not (Om.call tk (hr.mono (by decide)) h__law_sless (va_cons (v_un (Om.neg tk (hr.mono (by decide)) h_Ratiou_negu T.sf0) (Om.call tk hr h__law_slength (va_cons (v_ix (o_ix rfl) (v_var 1) v_int) va_nil))) (va_cons (v_ix (o_ix rfl) (v_ix (o_ixD rfl) (v_var 0) (v_ix (o_ix rfl) (v_var 1) v_int)) (v_var 2)) va_nil))))))) le__law_fits⟩, ar__law_fits⟩
theorem ok__law_show (T : TxS K mg cs) (D : DefAt K mg "_law_show" s__law_show) (h__law_smove : Fn P w K mg base (amb K cs) 4 "_law_move" 1 m__law_smove) (h__law_ssheet : Fn P w K mg base (amb K cs) 5 "_law_sheet" 2 m__law_ssheet) (h__law_sbounds : Fn P w K mg base (amb K cs) 4 "_law_bounds" 1 m__law_sbounds) (h__law_draw : Fn P w K mg base (amb K cs) 1 "_law_draw" 2 m__law_draw) (h__law_fits : Fn P w K mg base (amb K cs) 5 "_law_fits" 3 m__law_fits) (h_Ratiou_initu : In P w K mg base (amb K cs) 1 0 3 [] m_Ratiou_initu) (h__law_snumber : Fn P w K mg base (amb K cs) 3 "_law_number" 1 m__law_snumber) (h_Ratiou_initu1 : In P w K mg base (amb K cs) 1 0 3 [.int 1] m_Ratiou_initu) (h_Ratiou_addu : Mt P w K mg base (amb K cs) 3 ((amb K cs).cl 0) "__add__" 2 m_Ratiou_addu) (h__law_weigh : Fn P w K mg base (amb K cs) 4 "_law_weigh" 2 m__law_weigh) (h__law_zone : Fn P w K mg base (amb K cs) 4 "_law_zone" 3 m__law_zone) : Fn P w K mg base (amb K cs) 6 "_law_show" 3 m__law_show := by
  obtain ⟨f, fd, hm, F⟩ := D.ex
  exact ⟨⟨f, fd, ["stream", "many", "movers"], hm, F.kp, F.binds (ps := ["stream", "many", "movers"]) fun _ _ _ _ _ _ us hl => match us, hl with | [_, _, _], _ => rfl, fn_le (fnV F sc__law_show fun cdv A outer s H E hr tk po =>
  (vs_cons (by first | exact (v_setLc (i := 3) rfl sc__law_show.nd rfl rfl rfl (vi_rng1 T.b_range (v_var 1)) (blkOk_by (own := [("k", 4)]) rfl) (gs_name (by decide)) (fun _ _ _ _ _ => (pg_name (i := 4) sc__law_show.nd rfl (by first | exact Or.inl rfl | exact Or.inr rfl))) (fun _ _ _ _ _ => vpts_nil) (fun _ _ _ _ _ => (Om.call takes0 (hr.mono (by decide)) h__law_smove (va_cons (v_var 0) va_nil)))) | exact (v_set 3 sc__law_show.nd (v_lc rfl sc__law_show.nd (vi_rng1 T.b_range (v_var 1)) (blkOk_by (own := [("k", 4)]) rfl) (gs_name (by decide)) (fun _ _ _ _ _ => (pg_name (i := 4) sc__law_show.nd rfl (by first | exact Or.inl rfl | exact Or.inr rfl))) (fun _ _ _ _ _ => vpts_nil) (fun _ _ _ _ _ => (Om.call takes0 (hr.mono (by decide)) h__law_smove (va_cons (v_var 0) va_nil))))))
    (vs_cons (v_set 5 sc__law_show.nd (Om.call tk hr h__law_ssheet (va_cons (v_var 0) (va_cons (v_var 3) va_nil))))
    (vs_cons (v_set 6 sc__law_show.nd (Om.call tk (hr.mono (by decide)) h__law_sbounds (va_cons (v_var 5) va_nil)))
    (vs_cons (v_set 7 sc__law_show.nd (v_ix (o_ix rfl) (v_lst (va_cons v_int (va_cons v_int (va_cons v_int (va_cons v_int va_nil))))) (Om.call tk (hr.mono (by decide)) h__law_draw (va_cons (v_var 0) (va_cons v_int va_nil)))))
    (vs_cons (v_set 8 sc__law_show.nd (Om.call tk (hr.mono (by decide)) h__law_draw (va_cons (v_var 0) (va_cons (v_var 7) va_nil))))
    (vs_cons (by first | exact (v_setLcD (i := 9) rfl sc__law_show.nd rfl rfl rfl (vii_of (vi_rng1 T.b_range (v_var 7))) (blkOk_by (own := [("k", 4)]) rfl) (gsi_of (gs_name (by decide))) (fun _ _ _ _ _ => (pg_name (i := 4) sc__law_show.nd rfl (by first | exact Or.inl rfl | exact Or.inr rfl))) (fun _ _ _ _ _ => vpts_nil) (fun _ _ _ _ _ => (v_lstC va_nil))) | exact (v_set 9 sc__law_show.nd (v_lcD rfl sc__law_show.nd (vii_of (vi_rng1 T.b_range (v_var 7))) (blkOk_by (own := [("k", 4)]) rfl) (gsi_of (gs_name (by decide))) (fun _ _ _ _ _ => (pg_name (i := 4) sc__law_show.nd rfl (by first | exact Or.inl rfl | exact Or.inr rfl))) (fun _ _ _ _ _ => vpts_nil) (fun _ _ _ _ _ => (v_lstC va_nil)))))
    (vs_cons (v_for rfl po (vi_rng1 T.b_range (v_var 1)) (vg_name 4 sc__law_show.nd) (vs_cons (v_set 10 sc__law_show.nd (v_bin o_mod (v_callTy c_int T.b_int (by decide +kernel) (va_cons (v_bin o_add (v_var 8) (Om.call tk (hr.mono (by decide)) h__law_draw (va_cons (v_var 0) (va_cons (v_callB (c_max rfl) T.b_max (by decide +kernel) (va_cons (v_var 2) (va_cons v_int va_nil))) va_nil)))) va_nil)) (v_var 7)))
    (vs_one (v_if (PW.pt (v_tand (v_tcmp o_gt (v_var 2) v_int) (v_and1 (PW.pt (v_tor (v_tnot (v_truL rfl (v_ix (o_ixD rfl) (v_var 9) (v_var 10)))) (v_or1 (v_test (Om.call tk hr h__law_fits (va_cons (v_var 6) (va_cons (v_ix (o_ix rfl) (v_ix (o_ixD rfl) (v_var 9) (v_var 10)) (v_un o_neg v_int)) (va_cons (v_var 4) va_nil))))))))))) (vs_one (v_expr (v_bm PySem.F.plainAttrs_list PySem.F.slot_list_append PySem.F.type_list_append m_append ty_lst (v_ix (o_ixD rfl) (v_var 9) (v_var 10)) (va_cons (v_tup (va_cons (v_var 4) (va_cons (v_ix (o_ix rfl) (v_var 3) (v_var 4)) va_nil))) va_nil)))) vs_nil))))
    (vs_cons (v_set 11 sc__law_show.nd (v_bin o_mod (v_callTy c_int T.b_int (by decide +kernel) (va_cons (v_bin o_add (v_var 8) v_int) va_nil)) (v_var 7)))
    (vs_cons (v_if (PW.pt (v_tand (v_tcmp o_gt (v_var 2) v_int) (v_tand (v_tcmp o_lt (v_var 1) v_int) (v_tand (v_tnot (v_truL rfl (v_ix (o_ixD rfl) (v_var 9) (v_var 11)))) (v_and1 (v_truL rfl (v_ix (o_ixD rfl) (v_var 9) (v_var 8)))))))) (vs_one (v_expr (v_bm PySem.F.plainAttrs_list PySem.F.slot_list_append PySem.F.type_list_append m_append ty_lst (v_ix (o_ixD rfl) (v_var 9) (v_var 11)) (va_cons (v_tup (va_cons (v_ix (o_ix rfl) (v_ix (o_ix rfl) (v_ix (o_ixD rfl) (v_var 9) (v_var 8)) (v_un o_neg v_int)) v_int) (va_cons (v_ix (o_ix rfl) (v_var 3) v_int) va_nil))) va_nil)))) vs_nil)
    (vs_cons (v_set 12 sc__law_show.nd (v_lstC va_nil))
    (vs_cons (v_for rfl po (vi_rng1 T.b_range (v_var 7)) (vg_name 10 sc__law_show.nd) (vs_cons (v_set 13 sc__law_show.nd (Om.mk tk (hr.mono (by decide)) h_Ratiou_initu T.c0 (va_cons (v_bin o_add v_int (Om.call tk (hr.mono (by decide)) h__law_draw (va_cons (v_var 0) (va_cons v_int va_nil)))) (va_cons (v_bin o_add v_int (Om.call tk (hr.mono (by decide)) h__law_draw (va_cons (v_var 0) (va_cons v_int va_nil)))) va_nil))))
    (vs_one (v_expr (v_bm PySem.F.plainAttrs_list PySem.F.slot_list_append PySem.F.type_list_append m_append ty_lst (v_var 12) (va_cons (v_tup (va_cons (v_bin (Om.bin tk (hr.mono (by decide)) rfl h_Ratiou_addu T.sf0) (Om.call tk (hr.mono (by decide)) h__law_snumber (va_cons (v_var 0) va_nil)) (Om.mk tk (hr.mono (by decide)) h_Ratiou_initu1 T.c0 (va_cons (v_bin o_mul v_int (Om.call tk (hr.mono (by decide)) h__law_draw (va_cons (v_var 0) (va_cons v_int va_nil)))) va_nil))) (va_cons (v_var 13) (va_cons (v_callTy (c_tupOf rfl) T.b_tuple (by decide +kernel) (va_cons (v_ix (o_ixD rfl) (v_var 9) (v_var 10)) va_nil)) va_nil)))) va_nil))))))
    (vs_cons (v_set 14 sc__law_show.nd (v_lst (va_cons (Om.call tk (hr.mono (by decide)) h__law_weigh (va_cons (v_var 0) (va_cons (v_var 7) va_nil))) (va_cons (Om.call tk (hr.mono (by decide)) h__law_zone (va_cons (v_var 0) (va_cons (v_var 7) (va_cons (v_var 6) va_nil)))) (va_cons (Om.call tk (hr.mono (by decide)) h__law_weigh (va_cons (v_var 0) (va_cons (v_var 7) va_nil))) va_nil)))))
    (vs_cons (v_set 10 sc__law_show.nd (Om.call tk (hr.mono (by decide)) h__law_draw (va_cons (v_var 0) (va_cons v_int va_nil))))
    (vs_one (v_ret (v_tup (va_cons (v_var 5) (va_cons (v_callTy (c_tupOf rfl) T.b_tuple (by decide +kernel) (va_cons (v_var 12) va_nil)) (va_cons (v_callTy (c_tupOf rfl) T.b_tuple (by decide +kernel) (va_cons (v_bin o_catL (v_slice rfl (v_var 14) (v_pt (v_var 10)) v_noP) (v_slice rfl (v_var 14) v_noP (v_pt (v_var 10)))) va_nil)) va_nil)))))))))))))))))))) le__law_show⟩, ar__law_show⟩
theorem ok__law_sfault (T : TxS K mg cs) (D : DefAt K mg "_law_fault" s__law_sfault) (h__law_draw : Fn P w K mg base (amb K cs) 1 "_law_draw" 2 m__law_draw) (h_Ratiou_initu : In P w K mg base (amb K cs) 1 0 3 [] m_Ratiou_initu) : Fn P w K mg base (amb K cs) 3 "_law_fault" 3 m__law_sfault := by
  obtain ⟨f, fd, hm, F⟩ := D.ex
  exact ⟨⟨f, fd, ["stream", "show", "many"], hm, F.kp, F.binds (ps := ["stream", "show", "many"]) fun _ _ _ _ _ _ us hl => match us, hl with | [_, _, _], _ => rfl, fn_le (fnV F sc__law_sfault fun cdv A outer s H E hr tk po =>
  (vs_cons (v_if (v_tcmp (o_eq hr.units rfl) (v_var 2) v_int) (vs_one (v_ret (v_tup (va_cons v_str va_nil)))) vs_nil)
    (vs_cons (v_if (v_tcmp (o_eq hr.units rfl) (v_var 2) v_int) (vs_one (v_ret (v_tup (va_cons v_str va_nil)))) vs_nil)
    (vs_cons (v_set 3 sc__law_sfault.nd (v_ix (o_ix rfl) (v_lst (va_cons v_int (va_cons v_int (va_cons v_int (va_cons v_int (va_cons v_int va_nil)))))) (Om.call tk (hr.mono (by decide)) h__law_draw (va_cons (v_var 0) (va_cons v_int va_nil)))))
    (vs_one (v_ret (v_tup (va_cons v_str (va_cons (Om.call tk (hr.mono (by decide)) h__law_draw (va_cons (v_var 0) (va_cons (v_callB (c_len rfl) T.b_len (by decide +kernel) (va_cons (v_ix (o_ix rfl) (v_var 1) v_int) va_nil)) va_nil))) (va_cons (Om.mk tk hr h_Ratiou_initu T.c0 (va_cons (v_var 3) (va_cons (v_bin o_add v_int (Om.call tk (hr.mono (by decide)) h__law_draw (va_cons (v_var 0) (va_cons v_int va_nil)))) va_nil))) va_nil)))))))))) le__law_sfault⟩, ar__law_sfault⟩
theorem ok__law_stimes (T : TxS K mg cs) (D : DefAt K mg "_law_times" s__law_stimes) (h_Ratiou_subu : Mt P w K mg base (amb K cs) 3 ((amb K cs).cl 0) "__sub__" 2 m_Ratiou_subu) (h__law_draw : Fn P w K mg base (amb K cs) 1 "_law_draw" 2 m__law_draw) (h_Ratiou_initu : In P w K mg base (amb K cs) 1 0 3 [] m_Ratiou_initu) (h_Ratiou_mulu : Mt P w K mg base (amb K cs) 3 ((amb K cs).cl 0) "__mul__" 2 m_Ratiou_mulu) (h_Ratiou_addu : Mt P w K mg base (amb K cs) 3 ((amb K cs).cl 0) "__add__" 2 m_Ratiou_addu) : Fn P w K mg base (amb K cs) 4 "_law_times" 2 m__law_stimes := by
  obtain ⟨f, fd, hm, F⟩ := D.ex
  exact ⟨⟨f, fd, ["stream", "sheet"], hm, F.kp, F.binds (ps := ["stream", "sheet"]) fun _ _ _ _ _ _ us hl => match us, hl with | [_, _], _ => rfl, fn_le (fnV F sc__law_stimes fun cdv A outer s H E hr tk po =>
  (vs_cons (v_set 2 sc__law_stimes.nd (v_lstC va_nil))
    (vs_cons (v_for rfl po (vi_seq rfl (v_var 1)) (vg_tup rfl rfl (vgs_cons 3 sc__law_stimes.nd (vgs_cons 4 sc__law_stimes.nd (vgs_cons 5 sc__law_stimes.nd vgs_nil)))) (vs_cons (v_set 6 sc__law_stimes.nd (v_bin (Om.bin tk hr rfl h_Ratiou_addu T.sf0) (v_var 4) (v_bin (Om.bin tk hr rfl h_Ratiou_mulu T.sf0) (v_bin (Om.bin tk hr rfl h_Ratiou_subu T.sf0) (v_var 5) (v_var 4)) (Om.mk tk (hr.mono (by decide)) h_Ratiou_initu T.c0 (va_cons (Om.call tk (hr.mono (by decide)) h__law_draw (va_cons (v_var 0) (va_cons v_int va_nil))) (va_cons v_int va_nil))))))
    (vs_cons (v_if (v_tcmp o_ge (v_var 3) v_int) (vs_one (v_set 6 sc__law_stimes.nd (v_bin (Om.bin tk hr rfl h_Ratiou_addu T.sf0) (v_var 6) (v_ix (o_ix rfl) (v_var 2) (v_var 3))))) vs_nil)
    (vs_one (v_expr (v_bm PySem.F.plainAttrs_list PySem.F.slot_list_append PySem.F.type_list_append m_append ty_lst (v_var 2) (va_cons (v_var 6) va_nil)))))))
    (vs_one (v_ret (v_var 2)))))) le__law_stimes⟩, ar__law_stimes⟩
theorem ok__law_smoment (T : TxS K mg cs) (D : DefAt K mg "_law_moment" s__law_smoment) (h__law_stimes : Fn P w K mg base (amb K cs) 4 "_law_times" 2 m__law_stimes) (h_Ratiou_initu1 : In P w K mg base (amb K cs) 1 0 3 [.int 1] m_Ratiou_initu) (h__law_draw : Fn P w K mg base (amb K cs) 1 "_law_draw" 2 m__law_draw) (h_Ratiou_initu : In P w K mg base (amb K cs) 1 0 3 [] m_Ratiou_initu) (h_Ratiou_addu : Mt P w K mg base (amb K cs) 3 ((amb K cs).cl 0) "__add__" 2 m_Ratiou_addu) : Fn P w K mg base (amb K cs) 5 "_law_moment" 3 m__law_smoment := by
  obtain ⟨f, fd, hm, F⟩ := D.ex
  exact ⟨⟨f, fd, ["stream", "show", "fault"], hm, F.kp, F.binds (ps := ["stream", "show", "fault"]) fun _ _ _ _ _ _ us hl => match us, hl with | [_, _, _], _ => rfl, fn_le (fnV F sc__law_smoment fun cdv A outer s H E hr tk po =>
  (vs_cons (v_set 3 sc__law_smoment.nd (Om.call tk hr h__law_stimes (va_cons (v_var 0) (va_cons (v_ix (o_ix rfl) (v_var 1) v_int) va_nil))))
    (vs_cons (v_set 4 sc__law_smoment.nd (Om.mk tk (hr.mono (by decide)) h_Ratiou_initu1 T.c0 (va_cons v_int va_nil)))
    (vs_cons (v_if (v_tcmp (o_ne hr.units rfl) (v_ix (o_ix rfl) (v_var 2) v_int) v_str) (vs_cons (v_set 4 sc__law_smoment.nd (v_bin (Om.bin tk (hr.mono (by decide)) rfl h_Ratiou_addu T.sf0) (v_ix (o_ix rfl) (v_var 3) (Om.call tk (hr.mono (by decide)) h__law_draw (va_cons (v_var 0) (va_cons (v_callB (c_len rfl) T.b_len (by decide +kernel) (va_cons (v_var 3) va_nil)) va_nil)))) (Om.mk tk (hr.mono (by decide)) h_Ratiou_initu T.c0 (va_cons (Om.call tk (hr.mono (by decide)) h__law_draw (va_cons (v_var 0) (va_cons v_int va_nil))) (va_cons v_int va_nil)))))
    (vs_one (v_if (v_tcmp (o_eq hr.units rfl) (Om.call tk (hr.mono (by decide)) h__law_draw (va_cons (v_var 0) (va_cons v_int va_nil))) v_int) (vs_one (v_set 4 sc__law_smoment.nd (Om.mk tk (hr.mono (by decide)) h_Ratiou_initu T.c0 (va_cons (Om.call tk (hr.mono (by decide)) h__law_draw (va_cons (v_var 0) (va_cons v_int va_nil))) (va_cons v_int va_nil))))) vs_nil))) vs_nil)
    (vs_cons (v_set 5 sc__law_smoment.nd (v_bin (Om.bin tk (hr.mono (by decide)) rfl h_Ratiou_addu T.sf0) (v_var 4) (Om.mk tk (hr.mono (by decide)) h_Ratiou_initu T.c0 (va_cons (Om.call tk (hr.mono (by decide)) h__law_draw (va_cons (v_var 0) (va_cons v_int va_nil))) (va_cons v_int va_nil)))))
    (vs_cons (v_if (v_tcmp (o_eq hr.units rfl) (v_ix (o_ix rfl) (v_var 2) v_int) v_str) (vs_one (v_set 5 sc__law_smoment.nd (v_bin (Om.bin tk (hr.mono (by decide)) rfl h_Ratiou_addu T.sf0) (v_ix (o_ix rfl) (v_var 3) (Om.call tk (hr.mono (by decide)) h__law_draw (va_cons (v_var 0) (va_cons (v_callB (c_len rfl) T.b_len (by decide +kernel) (va_cons (v_var 3) va_nil)) va_nil)))) (Om.mk tk (hr.mono (by decide)) h_Ratiou_initu T.c0 (va_cons (Om.call tk (hr.mono (by decide)) h__law_draw (va_cons (v_var 0) (va_cons v_int va_nil))) (va_cons v_int va_nil)))))) vs_nil)
    (vs_one (v_ret (v_tup (va_cons (v_var 3) (va_cons (v_var 4) (va_cons (v_var 5) va_nil)))))))))))) le__law_smoment⟩, ar__law_smoment⟩
theorem ok_is_less (T : TxS K mg cs) (D : DefAt K mg "is_less" s_is_less)  : Fn P w K mg base (amb K cs) 1 "is_less" 2 m_is_less := by
  obtain ⟨f, fd, hm, F⟩ := D.ex
  exact ⟨⟨f, fd, ["a", "b"], hm, F.kp, F.binds (ps := ["a", "b"]) fun _ _ _ _ _ _ us hl => match us, hl with | [_, _], _ => rfl, fn_le (fnV F sc_is_less fun cdv A outer s H E hr tk po =>
  (vs_one (v_ret (v_cmp o_lt (v_bin o_mul (v_fld 0 0 T.own0 rfl rfl (v_var 0)) (v_fld 0 1 T.own0 rfl rfl (v_var 1))) (v_bin o_mul (v_fld 0 0 T.own0 rfl rfl (v_var 1)) (v_fld 0 1 T.own0 rfl rfl (v_var 0))))))) le_is_less⟩, ar_is_less⟩
theorem ok_is_timing (T : TxS K mg cs) (D : DefAt K mg "is_timing" s_is_timing) (h_Ratiou_subu : Mt P w K mg base (amb K cs) 3 ((amb K cs).cl 0) "__sub__" 2 m_Ratiou_subu) (h_is_less : Fn P w K mg base (amb K cs) 1 "is_less" 2 m_is_less) : Fn P w K mg base (amb K cs) 4 "is_timing" 2 m_is_timing := by
  obtain ⟨f, fd, hm, F⟩ := D.ex
  exact ⟨⟨f, fd, ["sheet", "times"], hm, F.kp, F.binds (ps := ["sheet", "times"]) fun _ _ _ _ _ _ us hl => match us, hl with | [_, _], _ => rfl, fn_le (fnV F sc_is_timing fun cdv A outer s H E hr tk po =>
  (vs_cons (v_if (v_tcmp (o_ne hr.units rfl) (v_callB (c_len rfl) T.b_len (by decide +kernel) (va_cons (v_var 1) va_nil)) (v_callB (c_len rfl) T.b_len (by decide +kernel) (va_cons (v_var 0) va_nil))) (vs_one (v_ret v_bl)) vs_nil)
    (vs_cons (v_for rfl po (vi_zipTL rfl T.b_zip (va_cons (v_var 0) (va_cons (v_var 1) va_nil))) (vg_tupM rfl rfl (vgm_cons (vg_tup rfl rfl (vgs_cons 2 sc_is_timing.nd (vgs_cons 3 sc_is_timing.nd (vgs_cons 4 sc_is_timing.nd vgs_nil)))) (vgm_cons (vg_name 5 sc_is_timing.nd) vgm_nil))) (vs_cons (v_set 6 sc_is_timing.nd (v_ifExp (v_tcmp (o_eq hr.units rfl) (v_var 2) (v_un o_neg v_int)) (v_var 5) (v_bin (Om.bin tk hr rfl h_Ratiou_subu T.sf0) (v_var 5) (v_ix (o_ix rfl) (v_var 1) (v_var 2)))))
    (vs_one (v_if (PW.pt (v_tor (v_test (Om.call tk (hr.mono (by decide)) h_is_less (va_cons (v_var 6) (va_cons (v_var 3) va_nil)))) (v_or1 (v_test (Om.call tk (hr.mono (by decide)) h_is_less (va_cons (v_var 4) (va_cons (v_var 6) va_nil))))))) (vs_one (v_ret v_bl)) vs_nil))))
    (vs_one (v_ret v_bl))))) le_is_timing⟩, ar_is_timing⟩
theorem ok_is_moment (T : TxS K mg cs) (D : DefAt K mg "is_moment" s_is_moment) (h_Ratiou_initu1 : In P w K mg base (amb K cs) 1 0 3 [.int 1] m_Ratiou_initu) (h_Ratiou_equ : Mt P w K mg base (amb K cs) 1 ((amb K cs).cl 0) "__eq__" 2 m_Ratiou_equ) (h_is_timing : Fn P w K mg base (amb K cs) 4 "is_timing" 2 m_is_timing) (h_is_less : Fn P w K mg base (amb K cs) 1 "is_less" 2 m_is_less) : Fn P w K mg base (amb K cs) 5 "is_moment" 3 m_is_moment := by
  obtain ⟨f, fd, hm, F⟩ := D.ex
  exact ⟨⟨f, fd, ["show", "fault", "moment"], hm, F.kp, F.binds (ps := ["show", "fault", "moment"]) fun _ _ _ _ _ _ us hl => match us, hl with | [_, _, _], _ => rfl, fn_le (fnV F sc_is_moment fun cdv A outer s H E hr tk po =>
  (vs_cons (v_asgT (vg_tup rfl rfl (vgs_cons 3 sc_is_moment.nd (vgs_cons 4 sc_is_moment.nd (vgs_cons 5 sc_is_moment.nd vgs_nil)))) (v_var 2))
    (vs_cons (v_if (PW.pt (v_tand (v_tcmp (o_eq hr.units rfl) (v_ix (o_ix rfl) (v_var 1) v_int) v_str) (v_and1 (v_tcmp (Om.ne tk (hr.mono (by decide)) rfl h_Ratiou_equ T.nf0 T.ne0) (v_var 4) (Om.mk tk (hr.mono (by decide)) h_Ratiou_initu1 T.c0 (va_cons v_int va_nil)))))) (vs_one (v_ret v_bl)) vs_nil)
    (vs_one (v_ret (v_and (Om.call tk hr h_is_timing (va_cons (v_ix (o_ix rfl) (v_var 0) v_int) (va_cons (v_var 3) va_nil))) (v_and (v_not (Om.call tk (hr.mono (by decide)) h_is_less (va_cons (v_var 4) (va_cons (Om.mk tk (hr.mono (by decide)) h_Ratiou_initu1 T.c0 (va_cons v_int va_nil)) va_nil)))) (v_one (v_not (Om.call tk (hr.mono (by decide)) h_is_less (va_cons (v_var 5) (va_cons (v_var 4) va_nil)))))))))))) le_is_moment⟩, ar_is_moment⟩
theorem ok__reached (T : TxS K mg cs) (D : DefAt K mg "_reached" s__reached) (h_Ratiou_initu : In P w K mg base (amb K cs) 1 0 3 [] m_Ratiou_initu) (h_Ratiou_mulu : Mt P w K mg base (amb K cs) 3 ((amb K cs).cl 0) "__mul__" 2 m_Ratiou_mulu) (h_Ratiou_addu : Mt P w K mg base (amb K cs) 3 ((amb K cs).cl 0) "__add__" 2 m_Ratiou_addu) : Fn P w K mg base (amb K cs) 4 "_reached" 4 m__reached := by
  obtain ⟨f, fd, hm, F⟩ := D.ex
  exact ⟨⟨f, fd, ["p", "v", "a", "s"], hm, F.kp, F.binds (ps := ["p", "v", "a", "s"]) fun _ _ _ _ _ _ us hl => match us, hl with | [_, _, _, _], _ => rfl, fn_le (fnV F sc__reached fun cdv A outer s H E hr tk po =>
  (vs_one (v_ret (v_bin (Om.bin tk hr rfl h_Ratiou_addu T.sf0) (v_var 0) (v_bin (Om.bin tk hr rfl h_Ratiou_mulu T.sf0) (v_bin (Om.bin tk hr rfl h_Ratiou_addu T.sf0) (v_var 1) (v_bin (Om.bin tk hr rfl h_Ratiou_mulu T.sf0) (v_bin (Om.bin tk hr rfl h_Ratiou_mulu T.sf0) (Om.mk tk (hr.mono (by decide)) h_Ratiou_initu T.c0 (va_cons v_int (va_cons v_int va_nil))) (v_var 2)) (v_var 3))) (v_var 3)))))) le__reached⟩, ar__reached⟩
theorem ok_pieces (T : TxS K mg cs) (D : DefAt K mg "pieces" s_pieces) (h_Ratiou_initu1 : In P w K mg base (amb K cs) 1 0 3 [.int 1] m_Ratiou_initu) (h_Ratiou_addu : Mt P w K mg base (amb K cs) 3 ((amb K cs).cl 0) "__add__" 2 m_Ratiou_addu) (h_Ratiou_mulu : Mt P w K mg base (amb K cs) 3 ((amb K cs).cl 0) "__mul__" 2 m_Ratiou_mulu) (h__reached : Fn P w K mg base (amb K cs) 4 "_reached" 4 m__reached) : Fn P w K mg base (amb K cs) 5 "pieces" 1 m_pieces := by
  obtain ⟨f, fd, hm, F⟩ := D.ex
  exact ⟨⟨f, fd, ["move"], hm, F.kp, F.binds (ps := ["move"]) fun _ _ _ _ _ _ us hl => match us, hl with | [_], _ => rfl, fn_le (fnVC F sc_pieces fun cdv A outer s H E hr tk po =>
  (vs_cons (v_set 1 sc_pieces.nd (v_lstC va_nil))
    (vs_cons (v_asg3 sc_pieces.nd (Om.mk tk (hr.mono (by decide)) h_Ratiou_initu1 T.c0 (va_cons v_int va_nil)))
    (vs_cons (v_for rfl po (vi_seq rfl (v_var 0)) (vg_tup rfl rfl (vgs_cons 5 sc_pieces.nd (vgs_cons 6 sc_pieces.nd vgs_nil))) (vs_cons (v_set 7 sc_pieces.nd (v_bin (Om.bin tk (hr.mono (by decide)) rfl h_Ratiou_addu T.sf0) (v_var 2) (v_var 5)))
    (vs_cons (v_expr (v_bm PySem.F.plainAttrs_list PySem.F.slot_list_append PySem.F.type_list_append m_append ty_lst (v_var 1) (va_cons (v_tup (va_cons (v_var 2) (va_cons (v_var 7) (va_cons (v_var 3) (va_cons (v_var 4) (va_cons (v_var 6) va_nil)))))) va_nil)))
    (vs_one (v_par3 rfl sc_pieces.nd (va_cons (v_var 7) (va_cons (Om.call tk hr h__reached (va_cons (v_var 3) (va_cons (v_var 4) (va_cons (v_var 6) (va_cons (v_var 5) va_nil))))) (va_cons (v_bin (Om.bin tk (hr.mono (by decide)) rfl h_Ratiou_addu T.sf0) (v_var 4) (v_bin (Om.bin tk (hr.mono (by decide)) rfl h_Ratiou_mulu T.sf0) (v_var 6) (v_var 5))) va_nil))))))))
    (vs_one (v_ret (v_var 1))))))) le_pieces⟩, ar_pieces⟩
theorem ok_speed (T : TxS K mg cs) (D : DefAt K mg "speed" s_speed) (h_Ratiou_initu1 : In P w K mg base (amb K cs) 1 0 3 [.int 1] m_Ratiou_initu) (h_is_less : Fn P w K mg base (amb K cs) 1 "is_less" 2 m_is_less) (h_pieces : Fn P w K mg base (amb K cs) 5 "pieces" 1 m_pieces) (h_Ratiou_subu : Mt P w K mg base (amb K cs) 3 ((amb K cs).cl 0) "__sub__" 2 m_Ratiou_subu) (h_Ratiou_mulu : Mt P w K mg base (amb K cs) 3 ((amb K cs).cl 0) "__mul__" 2 m_Ratiou_mulu) (h_Ratiou_addu : Mt P w K mg base (amb K cs) 3 ((amb K cs).cl 0) "__add__" 2 m_Ratiou_addu) : Fn P w K mg base (amb K cs) 6 "speed" 2 m_speed := by
  obtain ⟨f, fd, hm, F⟩ := D.ex
  exact ⟨⟨f, fd, ["move", "time"], hm, F.kp, F.binds (ps := ["move", "time"]) fun _ _ _ _ _ _ us hl => match us, hl with | [_, _], _ => rfl, fn_le (fnV F sc_speed fun cdv A outer s H E hr tk po =>
  (vs_cons (v_if (v_test (Om.call tk (hr.mono (by decide)) h_is_less (va_cons (v_var 1) (va_cons (Om.mk tk (hr.mono (by decide)) h_Ratiou_initu1 T.c0 (va_cons v_int va_nil)) va_nil)))) (vs_one (v_ret (Om.mk tk (hr.mono (by decide)) h_Ratiou_initu1 T.c0 (va_cons v_int va_nil)))) vs_nil)
    (vs_cons (v_for rfl po (vi_seq rfl (Om.call tk hr h_pieces (va_cons (v_var 0) va_nil))) (vg_tup rfl rfl (vgs_cons 2 sc_speed.nd (vgs_cons 3 sc_speed.nd (vgs_cons 4 sc_speed.nd (vgs_cons 5 sc_speed.nd (vgs_cons 6 sc_speed.nd vgs_nil)))))) (vs_one (v_if (v_tnot (v_test (Om.call tk (hr.mono (by decide)) h_is_less (va_cons (v_var 3) (va_cons (v_var 1) va_nil))))) (vs_one (v_ret (v_bin (Om.bin tk (hr.mono (by decide)) rfl h_Ratiou_addu T.sf0) (v_var 5) (v_bin (Om.bin tk (hr.mono (by decide)) rfl h_Ratiou_mulu T.sf0) (v_var 6) (v_bin (Om.bin tk (hr.mono (by decide)) rfl h_Ratiou_subu T.sf0) (v_var 1) (v_var 2)))))) vs_nil)))
    (vs_one (v_ret (Om.mk tk (hr.mono (by decide)) h_Ratiou_initu1 T.c0 (va_cons v_int va_nil))))))) le_speed⟩, ar_speed⟩
theorem ok_quotient (T : TxS K mg cs) (D : DefAt K mg "quotient" s_quotient) (h_Ratiou_initu : In P w K mg base (amb K cs) 1 0 3 [] m_Ratiou_initu) : Fn P w K mg base (amb K cs) 3 "quotient" 2 m_quotient := by
  obtain ⟨f, fd, hm, F⟩ := D.ex
  exact ⟨⟨f, fd, ["a", "b"], hm, F.kp, F.binds (ps := ["a", "b"]) fun _ _ _ _ _ _ us hl => match us, hl with | [_, _], _ => rfl, fn_le (fnV F sc_quotient fun cdv A outer s H E hr tk po =>
  (vs_one (v_ret (Om.mk tk hr h_Ratiou_initu T.c0 (va_cons (v_bin o_mul (v_fld 0 0 T.own0 rfl rfl (v_var 0)) (v_fld 0 1 T.own0 rfl rfl (v_var 1))) (va_cons (v_bin o_mul (v_fld 0 1 T.own0 rfl rfl (v_var 0)) (v_fld 0 0 T.own0 rfl rfl (v_var 1))) va_nil)))))) le_quotient⟩, ar_quotient⟩
theorem ok_way (T : TxS K mg cs) (D : DefAt K mg "way" s_way) (h_pieces : Fn P w K mg base (amb K cs) 5 "pieces" 1 m_pieces) (h_Ratiou_subu : Mt P w K mg base (amb K cs) 3 ((amb K cs).cl 0) "__sub__" 2 m_Ratiou_subu) (h__reached : Fn P w K mg base (amb K cs) 4 "_reached" 4 m__reached) : Fn P w K mg base (amb K cs) 6 "way" 1 m_way := by
  obtain ⟨f, fd, hm, F⟩ := D.ex
  exact ⟨⟨f, fd, ["move"], hm, F.kp, F.binds (ps := ["move"]) fun _ _ _ _ _ _ us hl => match us, hl with | [_], _ => rfl, fn_le (fnV F sc_way fun cdv A outer s H E hr tk po =>
  (vs_cons (v_asgT (vg_tup rfl rfl (vgs_cons 1 sc_way.nd (vgs_cons 2 sc_way.nd (vgs_cons 3 sc_way.nd (vgs_cons 4 sc_way.nd (vgs_cons 5 sc_way.nd vgs_nil)))))) (v_ix (o_ix rfl) (Om.call tk hr h_pieces (va_cons (v_var 0) va_nil)) (v_un o_neg v_int)))
    (vs_one (v_ret (Om.call tk (hr.mono (by decide)) h__reached (va_cons (v_var 3) (va_cons (v_var 4) (va_cons (v_var 5) (va_cons (v_bin (Om.bin tk (hr.mono (by decide)) rfl h_Ratiou_subu T.sf0) (v_var 2) (v_var 1)) va_nil))))))))) le_way⟩, ar_way⟩
theorem ok_position (T : TxS K mg cs) (D : DefAt K mg "position" s_position) (h_Ratiou_initu1 : In P w K mg base (amb K cs) 1 0 3 [.int 1] m_Ratiou_initu) (h_is_less : Fn P w K mg base (amb K cs) 1 "is_less" 2 m_is_less) (h_pieces : Fn P w K mg base (amb K cs) 5 "pieces" 1 m_pieces) (h_Ratiou_subu : Mt P w K mg base (amb K cs) 3 ((amb K cs).cl 0) "__sub__" 2 m_Ratiou_subu) (h__reached : Fn P w K mg base (amb K cs) 4 "_reached" 4 m__reached) (h_way : Fn P w K mg base (amb K cs) 6 "way" 1 m_way) : Fn P w K mg base (amb K cs) 7 "position" 2 m_position := by
  obtain ⟨f, fd, hm, F⟩ := D.ex
  exact ⟨⟨f, fd, ["move", "time"], hm, F.kp, F.binds (ps := ["move", "time"]) fun _ _ _ _ _ _ us hl => match us, hl with | [_, _], _ => rfl, fn_le (fnV F sc_position fun cdv A outer s H E hr tk po =>
  (vs_cons (v_if (v_test (Om.call tk (hr.mono (by decide)) h_is_less (va_cons (v_var 1) (va_cons (Om.mk tk (hr.mono (by decide)) h_Ratiou_initu1 T.c0 (va_cons v_int va_nil)) va_nil)))) (vs_one (v_ret (Om.mk tk (hr.mono (by decide)) h_Ratiou_initu1 T.c0 (va_cons v_int va_nil)))) vs_nil)
    (vs_cons (v_for rfl po (vi_seq rfl (Om.call tk (hr.mono (by decide)) h_pieces (va_cons (v_var 0) va_nil))) (vg_tup rfl rfl (vgs_cons 2 sc_position.nd (vgs_cons 3 sc_position.nd (vgs_cons 4 sc_position.nd (vgs_cons 5 sc_position.nd (vgs_cons 6 sc_position.nd vgs_nil)))))) (vs_one (v_if (v_tnot (v_test (Om.call tk (hr.mono (by decide)) h_is_less (va_cons (v_var 3) (va_cons (v_var 1) va_nil))))) (vs_one (v_ret (Om.call tk (hr.mono (by decide)) h__reached (va_cons (v_var 4) (va_cons (v_var 5) (va_cons (v_var 6) (va_cons (v_bin (Om.bin tk (hr.mono (by decide)) rfl h_Ratiou_subu T.sf0) (v_var 1) (v_var 2)) va_nil))))))) vs_nil)))
    (vs_one (v_ret (Om.call tk hr h_way (va_cons (v_var 0) va_nil))))))) le_position⟩, ar_position⟩
theorem ok__size (T : TxS K mg cs) (D : DefAt K mg "_size" s__size) (h_Ratiou_initu1 : In P w K mg base (amb K cs) 1 0 3 [.int 1] m_Ratiou_initu) (h_is_less : Fn P w K mg base (amb K cs) 1 "is_less" 2 m_is_less) (h_Ratiou_negu : Mt P w K mg base (amb K cs) 3 ((amb K cs).cl 0) "__neg__" 1 m_Ratiou_negu) : Fn P w K mg base (amb K cs) 4 "_size" 1 m__size := by
  obtain ⟨f, fd, hm, F⟩ := D.ex
  exact ⟨⟨f, fd, ["number"], hm, F.kp, F.binds (ps := ["number"]) fun _ _ _ _ _ _ us hl => match us, hl with | [_], _ => rfl, fn_le (fnV F sc__size fun cdv A outer s H E hr tk po =>
  (vs_one (v_ret (v_ifExp (v_test (Om.call tk (hr.mono (by decide)) h_is_less (va_cons (v_var 0) (va_cons (Om.mk tk (hr.mono (by decide)) h_Ratiou_initu1 T.c0 (va_cons v_int va_nil)) va_nil)))) (v_un (Om.neg tk hr h_Ratiou_negu T.sf0) (v_var 0)) (v_var 0))))) le__size⟩, ar__size⟩
theorem ok_stopped (T : TxS K mg cs) (D : DefAt K mg "stopped" s_stopped) (h_is_less : Fn P w K mg base (amb K cs) 1 "is_less" 2 m_is_less) (h_position : Fn P w K mg base (amb K cs) 7 "position" 2 m_position) (h_speed : Fn P w K mg base (amb K cs) 6 "speed" 2 m_speed) (h__size : Fn P w K mg base (amb K cs) 4 "_size" 1 m__size) (h_quotient : Fn P w K mg base (amb K cs) 3 "quotient" 2 m_quotient) (h_Ratiou_subu : Mt P w K mg base (amb K cs) 3 ((amb K cs).cl 0) "__sub__" 2 m_Ratiou_subu) (h_Ratiou_initu1 : In P w K mg base (amb K cs) 1 0 3 [.int 1] m_Ratiou_initu) (h_Ratiou_negu : Mt P w K mg base (amb K cs) 3 ((amb K cs).cl 0) "__neg__" 1 m_Ratiou_negu) (h__reached : Fn P w K mg base (amb K cs) 4 "_reached" 4 m__reached) : Fn P w K mg base (amb K cs) 8 "stopped" 4 m_stopped := by
  obtain ⟨f, fd, hm, F⟩ := D.ex
  exact ⟨⟨f, fd, ["move", "brake", "at", "time"], hm, F.kp, F.binds (ps := ["move", "brake", "at", "time"]) fun _ _ _ _ _ _ us hl => match us, hl with | [_, _, _, _], _ => rfl, fn_le (fnV F sc_stopped fun cdv A outer s H E hr tk po =>
  (vs_cons (v_if (v_tnot (v_test (Om.call tk (hr.mono (by decide)) h_is_less (va_cons (v_var 2) (va_cons (v_var 3) va_nil))))) (vs_one (v_ret (Om.call tk hr h_position (va_cons (v_var 0) (va_cons (v_var 3) va_nil))))) vs_nil)
    (vs_cons (v_set 4 sc_stopped.nd (Om.call tk (hr.mono (by decide)) h_speed (va_cons (v_var 0) (va_cons (v_var 2) va_nil))))
    (vs_cons (v_set 5 sc_stopped.nd (Om.call tk (hr.mono (by decide)) h_quotient (va_cons (Om.call tk (hr.mono (by decide)) h__size (va_cons (v_var 4) va_nil)) (va_cons (v_var 1) va_nil))))
    (vs_cons (v_set 6 sc_stopped.nd (v_bin (Om.bin tk (hr.mono (by decide)) rfl h_Ratiou_subu T.sf0) (v_var 3) (v_var 2)))
    (vs_cons (v_set 7 sc_stopped.nd (v_ifExp (v_test (Om.call tk (hr.mono (by decide)) h_is_less (va_cons (v_var 4) (va_cons (Om.mk tk (hr.mono (by decide)) h_Ratiou_initu1 T.c0 (va_cons v_int va_nil)) va_nil)))) (v_var 1) (v_un (Om.neg tk (hr.mono (by decide)) h_Ratiou_negu T.sf0) (v_var 1))))
    (vs_one (v_ret (Om.call tk (hr.mono (by decide)) h__reached (va_cons (Om.call tk hr h_position (va_cons (v_var 0) (va_cons (v_var 2) va_nil))) (va_cons (v_var 4) (va_cons (v_var 7) (va_cons (v_ifExp (v_test (Om.call tk (hr.mono (by decide)) h_is_less (va_cons (v_var 6) (va_cons (v_var 5) va_nil)))) (v_var 6) (v_var 5)) va_nil))))))))))))) le_stopped⟩, ar_stopped⟩
theorem ok__braked (T : TxS K mg cs) (D : DefAt K mg "_braked" s__braked) (h_Ratiou_subu : Mt P w K mg base (amb K cs) 3 ((amb K cs).cl 0) "__sub__" 2 m_Ratiou_subu) (h_stopped : Fn P w K mg base (amb K cs) 8 "stopped" 4 m_stopped) (h_Ratiou_addu : Mt P w K mg base (amb K cs) 3 ((amb K cs).cl 0) "__add__" 2 m_Ratiou_addu) : Fn P w K mg base (amb K cs) 9 "_braked" 4 m__braked := by
  obtain ⟨f, fd, hm, F⟩ := D.ex
  exact ⟨⟨f, fd, ["machine", "times", "at", "t"], hm, F.kp, F.binds (ps := ["machine", "times", "at", "t"]) fun _ _ _ _ _ _ us hl => match us, hl with | [_, _, _, _], _ => rfl, fn_le (fnV F sc__braked fun cdv A outer s H E hr tk po =>
  (vs_cons (v_asgT (vg_tup rfl rfl (vgs_cons 4 sc__braked.nd (vgs_cons 5 sc__braked.nd (vgs_cons 6 sc__braked.nd vgs_nil)))) (v_var 0))
    (vs_cons (v_set 7 sc__braked.nd (v_var 4))
    (vs_cons (v_for rfl po (vi_seq rfl (v_var 6)) (vg_tup rfl rfl (vgs_cons 8 sc__braked.nd (vgs_cons 9 sc__braked.nd vgs_nil))) (vs_one (v_set 7 sc__braked.nd (v_bin (Om.bin tk (hr.mono (by decide)) rfl h_Ratiou_addu T.sf0) (v_var 7) (Om.call tk hr h_stopped (va_cons (v_var 9) (va_cons (v_var 5) (va_cons (v_bin (Om.bin tk (hr.mono (by decide)) rfl h_Ratiou_subu T.sf0) (v_var 2) (v_ix (o_ix rfl) (v_var 1) (v_var 8))) (va_cons (v_bin (Om.bin tk (hr.mono (by decide)) rfl h_Ratiou_subu T.sf0) (v_var 3) (v_ix (o_ix rfl) (v_var 1) (v_var 8))) va_nil)))))))))
    (vs_one (v_ret (v_var 7))))))) le__braked⟩, ar__braked⟩
theorem ok__undisturbed (T : TxS K mg cs) (D : DefAt K mg "_undisturbed" s__undisturbed) (h_Ratiou_subu : Mt P w K mg base (amb K cs) 3 ((amb K cs).cl 0) "__sub__" 2 m_Ratiou_subu) (h_position : Fn P w K mg base (amb K cs) 7 "position" 2 m_position) (h_Ratiou_addu : Mt P w K mg base (amb K cs) 3 ((amb K cs).cl 0) "__add__" 2 m_Ratiou_addu) : Fn P w K mg base (amb K cs) 8 "_undisturbed" 3 m__undisturbed := by
  obtain ⟨f, fd, hm, F⟩ := D.ex
  exact ⟨⟨f, fd, ["machine", "times", "at"], hm, F.kp, F.binds (ps := ["machine", "times", "at"]) fun _ _ _ _ _ _ us hl => match us, hl with | [_, _, _], _ => rfl, fn_le (fnV F sc__undisturbed fun cdv A outer s H E hr tk po =>
  (vs_cons (v_asgT (vg_tup rfl rfl (vgs_cons 3 sc__undisturbed.nd (vgs_cons 4 sc__undisturbed.nd (vgs_cons 5 sc__undisturbed.nd vgs_nil)))) (v_var 0))
    (vs_cons (v_set 6 sc__undisturbed.nd (v_var 3))
    (vs_cons (v_for rfl po (vi_seq rfl (v_var 5)) (vg_tup rfl rfl (vgs_cons 7 sc__undisturbed.nd (vgs_cons 8 sc__undisturbed.nd vgs_nil))) (vs_one (v_set 6 sc__undisturbed.nd (v_bin (Om.bin tk (hr.mono (by decide)) rfl h_Ratiou_addu T.sf0) (v_var 6) (Om.call tk hr h_position (va_cons (v_var 8) (va_cons (v_bin (Om.bin tk (hr.mono (by decide)) rfl h_Ratiou_subu T.sf0) (v_var 2) (v_ix (o_ix rfl) (v_var 1) (v_var 7))) va_nil)))))))
    (vs_one (v_ret (v_var 6))))))) le__undisturbed⟩, ar__undisturbed⟩
theorem ok_place (T : TxS K mg cs) (D : DefAt K mg "place" s_place) (h__undisturbed : Fn P w K mg base (amb K cs) 8 "_undisturbed" 3 m__undisturbed) (h__braked : Fn P w K mg base (amb K cs) 9 "_braked" 4 m__braked) (h_Ratiou_addu : Mt P w K mg base (amb K cs) 3 ((amb K cs).cl 0) "__add__" 2 m_Ratiou_addu) : Fn P w K mg base (amb K cs) 10 "place" 4 m_place := by
  obtain ⟨f, fd, hm, F⟩ := D.ex
  exact ⟨⟨f, fd, ["show", "fault", "moment", "machine"], hm, F.kp, F.binds (ps := ["show", "fault", "moment", "machine"]) fun _ _ _ _ _ _ us hl => match us, hl with | [_, _, _, _], _ => rfl, fn_le (fnV F sc_place fun cdv A outer s H E hr tk po =>
  (vs_cons (v_asgT (vg_tup rfl rfl (vgs_cons 4 sc_place.nd (vgs_cons 5 sc_place.nd (vgs_cons 6 sc_place.nd vgs_nil)))) (v_var 2))
    (vs_cons (v_set 7 sc_place.nd (v_ix (o_ix rfl) (v_ix (o_ix rfl) (v_var 0) v_int) (v_var 3)))
    (vs_cons (v_if (v_tcmp (o_eq hr.units rfl) (v_ix (o_ix rfl) (v_var 1) v_int) v_str) (vs_one (v_ret (Om.call tk (hr.mono (by decide)) h__undisturbed (va_cons (v_var 7) (va_cons (v_var 4) (va_cons (v_var 6) va_nil)))))) vs_nil)
    (vs_cons (v_if (v_tcmp (o_eq hr.units rfl) (v_ix (o_ix rfl) (v_var 1) v_int) v_str) (vs_one (v_ret (Om.call tk hr h__braked (va_cons (v_var 7) (va_cons (v_var 4) (va_cons (v_var 5) (va_cons (v_var 6) va_nil))))))) vs_nil)
    (vs_cons (v_asgT (vg_tup rfl rfl (vgs_cons 8 sc_place.nd (vgs_cons 9 sc_place.nd (vgs_cons 10 sc_place.nd vgs_nil)))) (v_var 1))
    (vs_cons (v_if (v_tcmp (o_eq hr.units rfl) (v_var 3) (v_var 9)) (vs_one (v_ret (Om.call tk (hr.mono (by decide)) h__undisturbed (va_cons (v_var 7) (va_cons (v_var 4) (va_cons (v_var 5) va_nil)))))) vs_nil)
    (vs_one (v_ret (Om.call tk hr h__braked (va_cons (v_var 7) (va_cons (v_var 4) (va_cons (v_bin (Om.bin tk (hr.mono (by decide)) rfl h_Ratiou_addu T.sf0) (v_var 5) (v_var 10)) (va_cons (v_var 6) va_nil)))))))))))))) le_place⟩, ar_place⟩
theorem ok_is_kept (T : TxS K mg cs) (D : DefAt K mg "is_kept" s_is_kept) (h_place : Fn P w K mg base (amb K cs) 10 "place" 4 m_place) (h_Ratiou_mulu : Mt P w K mg base (amb K cs) 3 ((amb K cs).cl 0) "__mul__" 2 m_Ratiou_mulu) (h_Ratiou_addu : Mt P w K mg base (amb K cs) 3 ((amb K cs).cl 0) "__add__" 2 m_Ratiou_addu) (h_is_less : Fn P w K mg base (amb K cs) 1 "is_less" 2 m_is_less) : Fn P w K mg base (amb K cs) 11 "is_kept" 4 m_is_kept := by
  obtain ⟨f, fd, hm, F⟩ := D.ex
  exact ⟨⟨f, fd, ["show", "rule", "fault", "moment"], hm, F.kp, F.binds (ps := ["show", "rule", "fault", "moment"]) fun _ _ _ _ _ _ us hl => match us, hl with | [_, _, _, _], _ => rfl, fn_le (fnV F sc_is_kept fun cdv A outer s H E hr tk po =>
  (vs_cons (v_set 4 sc_is_kept.nd (v_ix (o_ix rfl) (v_ix (o_ix rfl) (v_var 0) v_int) (v_var 1)))
    (vs_cons (v_if (v_tcmp (o_eq hr.units rfl) (v_ix (o_ix rfl) (v_var 4) v_int) v_str) (vs_cons (v_asgT (vg_tup rfl rfl (vgs_cons 5 sc_is_kept.nd (vgs_cons 6 sc_is_kept.nd (vgs_cons 7 sc_is_kept.nd (vgs_cons 8 sc_is_kept.nd (vgs_cons 9 sc_is_kept.nd (vgs_cons 10 sc_is_kept.nd vgs_nil))))))) (v_var 4))
    (vs_cons (v_set 11 sc_is_kept.nd (v_bin (Om.bin tk (hr.mono (by decide)) rfl h_Ratiou_addu T.sf0) (v_bin (Om.bin tk (hr.mono (by decide)) rfl h_Ratiou_mulu T.sf0) (v_var 7) (Om.call tk hr h_place (va_cons (v_var 0) (va_cons (v_var 2) (va_cons (v_var 3) (va_cons (v_var 6) va_nil)))))) (v_bin (Om.bin tk (hr.mono (by decide)) rfl h_Ratiou_mulu T.sf0) (v_var 9) (Om.call tk hr h_place (va_cons (v_var 0) (va_cons (v_var 2) (va_cons (v_var 3) (va_cons (v_var 8) va_nil))))))))
    (vs_one (v_ret (v_not (Om.call tk (hr.mono (by decide)) h_is_less (va_cons (v_var 11) (va_cons (v_var 10) va_nil)))))))) vs_nil)
    (vs_cons (v_asgT (vg_tup rfl rfl (vgs_cons 5 sc_is_kept.nd (vgs_cons 6 sc_is_kept.nd (vgs_cons 12 sc_is_kept.nd (vgs_cons 13 sc_is_kept.nd (vgs_cons 14 sc_is_kept.nd (vgs_cons 15 sc_is_kept.nd vgs_nil))))))) (v_var 4))
    (vs_cons (v_asgT (vg_tup rfl rfl (vgs_cons 16 sc_is_kept.nd (vgs_cons 5 sc_is_kept.nd (vgs_cons 17 sc_is_kept.nd vgs_nil)))) (v_var 3))
    (vs_cons (v_if (PW.pt (v_tor (v_test (Om.call tk (hr.mono (by decide)) h_is_less (va_cons (v_var 17) (va_cons (v_ix (o_ix rfl) (v_var 16) (v_var 14)) va_nil)))) (v_or1 (v_test (Om.call tk (hr.mono (by decide)) h_is_less (va_cons (v_ix (o_ix rfl) (v_var 16) (v_var 15)) (va_cons (v_var 17) va_nil))))))) (vs_one (v_ret v_bl)) vs_nil)
    (vs_cons (v_set 18 sc_is_kept.nd (Om.call tk hr h_place (va_cons (v_var 0) (va_cons (v_var 2) (va_cons (v_var 3) (va_cons (v_var 6) va_nil))))))
    (vs_one (v_ret (v_or (v_not (Om.call tk (hr.mono (by decide)) h_is_less (va_cons (v_var 12) (va_cons (v_var 18) va_nil)))) (v_one (v_not (Om.call tk (hr.mono (by decide)) h_is_less (va_cons (v_var 18) (va_cons (v_var 13) va_nil))))))))))))))) le_is_kept⟩, ar_is_kept⟩
theorem ok__law_sstate (T : TxS K mg cs) (D : DefAt K mg "_law_state" s__law_sstate) (h_Ratiou_initu1 : In P w K mg base (amb K cs) 1 0 3 [.int 1] m_Ratiou_initu) (h__law_sless : Fn P w K mg base (amb K cs) 1 "_law_less" 2 m__law_sless) (h_Ratiou_mulu : Mt P w K mg base (amb K cs) 3 ((amb K cs).cl 0) "__mul__" 2 m_Ratiou_mulu) (h_Ratiou_addu : Mt P w K mg base (amb K cs) 3 ((amb K cs).cl 0) "__add__" 2 m_Ratiou_addu) (h_Ratiou_initu : In P w K mg base (amb K cs) 1 0 3 [] m_Ratiou_initu) (h_Ratiou_subu : Mt P w K mg base (amb K cs) 3 ((amb K cs).cl 0) "__sub__" 2 m_Ratiou_subu) (h_Ratiou_equ : Mt P w K mg base (amb K cs) 1 ((amb K cs).cl 0) "__eq__" 2 m_Ratiou_equ) : Fn P w K mg base (amb K cs) 4 "_law_state" 2 m__law_sstate := by
  obtain ⟨f, fd, hm, F⟩ := D.ex
  exact ⟨⟨f, fd, ["move", "time"], hm, F.kp, F.binds (ps := ["move", "time"]) fun _ _ _ _ _ _ us hl => match us, hl with | [_, _], _ => rfl, fn_le (fnV F sc__law_sstate fun cdv A outer s H E hr tk po =>
  (vs_cons (v_set 2 sc__law_sstate.nd (Om.mk tk (hr.mono (by decide)) h_Ratiou_initu1 T.c0 (va_cons v_int va_nil)))
    (vs_cons (v_set 3 sc__law_sstate.nd (Om.mk tk (hr.mono (by decide)) h_Ratiou_initu1 T.c0 (va_cons v_int va_nil)))
    (vs_cons (v_if (v_test (Om.call tk (hr.mono (by decide)) h__law_sless (va_cons (v_var 1) (va_cons (Om.mk tk (hr.mono (by decide)) h_Ratiou_initu1 T.c0 (va_cons v_int va_nil)) va_nil)))) (vs_one (v_ret (v_tup (va_cons (v_var 2) (va_cons (v_var 3) va_nil))))) vs_nil)
    (vs_cons (v_for rfl po (vi_seq rfl (v_var 0)) (vg_tup rfl rfl (vgs_cons 4 sc__law_sstate.nd (vgs_cons 5 sc__law_sstate.nd vgs_nil))) (vs_cons (v_set 6 sc__law_sstate.nd (v_var 4))
    (vs_cons (v_if (v_test (Om.call tk (hr.mono (by decide)) h__law_sless (va_cons (v_var 1) (va_cons (v_var 4) va_nil)))) (vs_one (v_set 6 sc__law_sstate.nd (v_var 1))) vs_nil)
    (vs_cons (v_set 2 sc__law_sstate.nd (v_bin (Om.bin tk hr rfl h_Ratiou_addu T.sf0) (v_bin (Om.bin tk hr rfl h_Ratiou_addu T.sf0) (v_var 2) (v_bin (Om.bin tk hr rfl h_Ratiou_mulu T.sf0) (v_var 3) (v_var 6))) (v_bin (Om.bin tk hr rfl h_Ratiou_mulu T.sf0) (v_bin (Om.bin tk hr rfl h_Ratiou_mulu T.sf0) (v_bin (Om.bin tk hr rfl h_Ratiou_mulu T.sf0) (v_var 5) (Om.mk tk (hr.mono (by decide)) h_Ratiou_initu T.c0 (va_cons v_int (va_cons v_int va_nil)))) (v_var 6)) (v_var 6))))
    (vs_cons (v_set 3 sc__law_sstate.nd (v_bin (Om.bin tk hr rfl h_Ratiou_addu T.sf0) (v_var 3) (v_bin (Om.bin tk hr rfl h_Ratiou_mulu T.sf0) (v_var 5) (v_var 6))))
    (vs_cons (v_set 1 sc__law_sstate.nd (v_bin (Om.bin tk hr rfl h_Ratiou_subu T.sf0) (v_var 1) (v_var 6)))
    (vs_one (v_if (v_tcmp (Om.ne tk (hr.mono (by decide)) rfl h_Ratiou_equ T.nf0 T.ne0) (v_var 6) (v_var 4)) (vs_one (v_ret (v_tup (va_cons (v_var 2) (va_cons (v_var 3) va_nil))))) vs_nil))))))))
    (vs_one (v_ret (v_tup (va_cons (v_var 2) (va_cons (v_var 3) va_nil)))))))))) le__law_sstate⟩, ar__law_sstate⟩
theorem ok__law_moving (T : TxS K mg cs) (D : DefAt K mg "_law_moving" s__law_moving) (h_Ratiou_initu1 : In P w K mg base (amb K cs) 1 0 3 [.int 1] m_Ratiou_initu) (h_Ratiou_subu : Mt P w K mg base (amb K cs) 3 ((amb K cs).cl 0) "__sub__" 2 m_Ratiou_subu) (h__law_sstate : Fn P w K mg base (amb K cs) 4 "_law_state" 2 m__law_sstate) (h_Ratiou_addu : Mt P w K mg base (amb K cs) 3 ((amb K cs).cl 0) "__add__" 2 m_Ratiou_addu) : Fn P w K mg base (amb K cs) 5 "_law_moving" 3 m__law_moving := by
  obtain ⟨f, fd, hm, F⟩ := D.ex
  exact ⟨⟨f, fd, ["machine", "times", "time"], hm, F.kp, F.binds (ps := ["machine", "times", "time"]) fun _ _ _ _ _ _ us hl => match us, hl with | [_, _, _], _ => rfl, fn_le (fnV F sc__law_moving fun cdv A outer s H E hr tk po =>
  (vs_cons (v_set 3 sc__law_moving.nd (v_ix (o_ix rfl) (v_var 0) v_int))
    (vs_cons (v_set 4 sc__law_moving.nd (Om.mk tk (hr.mono (by decide)) h_Ratiou_initu1 T.c0 (va_cons v_int va_nil)))
    (vs_cons (v_for rfl po (vi_seq rfl (v_ix (o_ix rfl) (v_var 0) v_int)) (vg_tup rfl rfl (vgs_cons 5 sc__law_moving.nd (vgs_cons 6 sc__law_moving.nd vgs_nil))) (vs_cons (v_asgT (vg_tup rfl rfl (vgs_cons 7 sc__law_moving.nd (vgs_cons 8 sc__law_moving.nd vgs_nil))) (Om.call tk hr h__law_sstate (va_cons (v_var 6) (va_cons (v_bin (Om.bin tk (hr.mono (by decide)) rfl h_Ratiou_subu T.sf0) (v_var 2) (v_ix (o_ix rfl) (v_var 1) (v_var 5))) va_nil))))
    (vs_cons (v_set 3 sc__law_moving.nd (v_bin (Om.bin tk (hr.mono (by decide)) rfl h_Ratiou_addu T.sf0) (v_var 3) (v_var 7)))
    (vs_one (v_set 4 sc__law_moving.nd (v_bin (Om.bin tk (hr.mono (by decide)) rfl h_Ratiou_addu T.sf0) (v_var 4) (v_var 8)))))))
    (vs_one (v_ret (v_tup (va_cons (v_var 3) (va_cons (v_var 4) va_nil))))))))) le__law_moving⟩, ar__law_moving⟩
theorem ok__law_braked (T : TxS K mg cs) (D : DefAt K mg "_law_braked" s__law_braked) (h__law_moving : Fn P w K mg base (amb K cs) 5 "_law_moving" 3 m__law_moving) (h_Ratiou_initu1 : In P w K mg base (amb K cs) 1 0 3 [.int 1] m_Ratiou_initu) (h_Ratiou_subu : Mt P w K mg base (amb K cs) 3 ((amb K cs).cl 0) "__sub__" 2 m_Ratiou_subu) (h_Ratiou_mulu : Mt P w K mg base (amb K cs) 3 ((amb K cs).cl 0) "__mul__" 2 m_Ratiou_mulu) (h__law_sover : Fn P w K mg base (amb K cs) 3 "_law_over" 2 m__law_sover) (h__law_sless : Fn P w K mg base (amb K cs) 1 "_law_less" 2 m__law_sless) (h_Ratiou_addu : Mt P w K mg base (amb K cs) 3 ((amb K cs).cl 0) "__add__" 2 m_Ratiou_addu) (h_Ratiou_initu : In P w K mg base (amb K cs) 1 0 3 [] m_Ratiou_initu) : Fn P w K mg base (amb K cs) 6 "_law_braked" 4 m__law_braked := by
  obtain ⟨f, fd, hm, F⟩ := D.ex
  exact ⟨⟨f, fd, ["machine", "times", "at", "time"], hm, F.kp, F.binds (ps := ["machine", "times", "at", "time"]) fun _ _ _ _ _ _ us hl => match us, hl with | [_, _, _, _], _ => rfl, fn_le (fnV F sc__law_braked fun cdv A outer s H E hr tk po =>
  (vs_cons (v_asgT (vg_tup rfl rfl (vgs_cons 4 sc__law_braked.nd (vgs_cons 5 sc__law_braked.nd vgs_nil))) (Om.call tk hr h__law_moving (va_cons (v_var 0) (va_cons (v_var 1) (va_cons (v_var 2) va_nil)))))
    (vs_cons (v_set 6 sc__law_braked.nd (Om.mk tk (hr.mono (by decide)) h_Ratiou_initu1 T.c0 (va_cons v_int va_nil)))
    (vs_cons (v_if (v_tcmp o_lt (v_fld 0 0 T.own0 rfl rfl (v_var 5)) v_int) (vs_one (v_set 6 sc__law_braked.nd (Om.mk tk (hr.mono (by decide)) h_Ratiou_initu1 T.c0 (va_cons (v_un o_neg v_int) va_nil)))) vs_nil)
    (vs_cons (v_set 7 sc__law_braked.nd (v_bin (Om.bin tk (hr.mono (by decide)) rfl h_Ratiou_subu T.sf0) (v_var 3) (v_var 2)))
    (vs_cons (v_set 8 sc__law_braked.nd (Om.call tk (hr.mono (by decide)) h__law_sover (va_cons (v_bin (Om.bin tk (hr.mono (by decide)) rfl h_Ratiou_mulu T.sf0) (v_var 5) (v_var 6)) (va_cons (v_ix (o_ix rfl) (v_var 0) v_int) va_nil))))
    (vs_cons (v_if (v_test (Om.call tk (hr.mono (by decide)) h__law_sless (va_cons (v_var 8) (va_cons (v_var 7) va_nil)))) (vs_one (v_set 7 sc__law_braked.nd (v_var 8))) vs_nil)
    (vs_one (v_ret (v_bin (Om.bin tk (hr.mono (by decide)) rfl h_Ratiou_subu T.sf0) (v_bin (Om.bin tk (hr.mono (by decide)) rfl h_Ratiou_addu T.sf0) (v_var 4) (v_bin (Om.bin tk (hr.mono (by decide)) rfl h_Ratiou_mulu T.sf0) (v_var 5) (v_var 7))) (v_bin (Om.bin tk (hr.mono (by decide)) rfl h_Ratiou_mulu T.sf0) (v_bin (Om.bin tk (hr.mono (by decide)) rfl h_Ratiou_mulu T.sf0) (v_bin (Om.bin tk (hr.mono (by decide)) rfl h_Ratiou_mulu T.sf0) (v_bin (Om.bin tk (hr.mono (by decide)) rfl h_Ratiou_mulu T.sf0) (v_var 6) (v_ix (o_ix rfl) (v_var 0) v_int)) (Om.mk tk (hr.mono (by decide)) h_Ratiou_initu T.c0 (va_cons v_int (va_cons v_int va_nil)))) (v_var 7)) (v_var 7)))))))))))) le__law_braked⟩, ar__law_braked⟩
theorem ok__law_place (T : TxS K mg cs) (D : DefAt K mg "_law_place" s__law_place) (h__law_braked : Fn P w K mg base (amb K cs) 6 "_law_braked" 4 m__law_braked) (h__law_moving : Fn P w K mg base (amb K cs) 5 "_law_moving" 3 m__law_moving) (h_Ratiou_addu : Mt P w K mg base (amb K cs) 3 ((amb K cs).cl 0) "__add__" 2 m_Ratiou_addu) (h__law_sless : Fn P w K mg base (amb K cs) 1 "_law_less" 2 m__law_sless) : Fn P w K mg base (amb K cs) 7 "_law_place" 4 m__law_place := by
  obtain ⟨f, fd, hm, F⟩ := D.ex
  exact ⟨⟨f, fd, ["show", "fault", "moment", "at"], hm, F.kp, F.binds (ps := ["show", "fault", "moment", "at"]) fun _ _ _ _ _ _ us hl => match us, hl with | [_, _, _, _], _ => rfl, fn_le (fnV F sc__law_place fun cdv A outer s H E hr tk po =>
  (vs_cons (v_asgT (vg_tup rfl rfl (vgs_cons 4 sc__law_place.nd (vgs_cons 5 sc__law_place.nd (vgs_cons 6 sc__law_place.nd vgs_nil)))) (v_var 2))
    (vs_cons (v_set 7 sc__law_place.nd (v_ix (o_ix rfl) (v_ix (o_ix rfl) (v_var 0) v_int) (v_var 3)))
    (vs_cons (v_if (v_tcmp (o_eq hr.units rfl) (v_ix (o_ix rfl) (v_var 1) v_int) v_str) (vs_one (v_ret (Om.call tk hr h__law_braked (va_cons (v_var 7) (va_cons (v_var 4) (va_cons (v_var 5) (va_cons (v_var 6) va_nil))))))) vs_nil)
    (vs_cons (v_if (PW.pt (v_tand (v_tcmp (o_eq hr.units rfl) (v_ix (o_ix rfl) (v_var 1) v_int) v_str) (v_and1 (v_tcmp (o_eq hr.units rfl) (v_var 3) (v_ix (o_ix rfl) (v_var 1) v_int))))) (vs_one (v_ret (v_ix (o_ix rfl) (Om.call tk (hr.mono (by decide)) h__law_moving (va_cons (v_var 7) (va_cons (v_var 4) (va_cons (v_var 5) va_nil)))) v_int))) vs_nil)
    (vs_cons (v_if (PW.pt (v_tand (v_tcmp (o_eq hr.units rfl) (v_ix (o_ix rfl) (v_var 1) v_int) v_str) (v_and1 (v_test (Om.call tk (hr.mono (by decide)) h__law_sless (va_cons (v_bin (Om.bin tk (hr.mono (by decide)) rfl h_Ratiou_addu T.sf0) (v_var 5) (v_ix (o_ix rfl) (v_var 1) v_int)) (va_cons (v_var 6) va_nil))))))) (vs_one (v_ret (Om.call tk hr h__law_braked (va_cons (v_var 7) (va_cons (v_var 4) (va_cons (v_bin (Om.bin tk (hr.mono (by decide)) rfl h_Ratiou_addu T.sf0) (v_var 5) (v_ix (o_ix rfl) (v_var 1) v_int)) (va_cons (v_var 6) va_nil))))))) vs_nil)
    (vs_one (v_ret (v_ix (o_ix rfl) (Om.call tk (hr.mono (by decide)) h__law_moving (va_cons (v_var 7) (va_cons (v_var 4) (va_cons (v_var 6) va_nil)))) v_int))))))))) le__law_place⟩, ar__law_place⟩
theorem ok__law_weighed (T : TxS K mg cs) (D : DefAt K mg "_law_weighed" s__law_weighed) (h__law_place : Fn P w K mg base (amb K cs) 7 "_law_place" 4 m__law_place) (h_Ratiou_mulu : Mt P w K mg base (amb K cs) 3 ((amb K cs).cl 0) "__mul__" 2 m_Ratiou_mulu) (h_Ratiou_addu : Mt P w K mg base (amb K cs) 3 ((amb K cs).cl 0) "__add__" 2 m_Ratiou_addu) (h_Ratiou_subu : Mt P w K mg base (amb K cs) 3 ((amb K cs).cl 0) "__sub__" 2 m_Ratiou_subu) : Fn P w K mg base (amb K cs) 8 "_law_weighed" 4 m__law_weighed := by
  obtain ⟨f, fd, hm, F⟩ := D.ex
  exact ⟨⟨f, fd, ["show", "rule", "fault", "moment"], hm, F.kp, F.binds (ps := ["show", "rule", "fault", "moment"]) fun _ _ _ _ _ _ us hl => match us, hl with | [_, _, _, _], _ => rfl, fn_le (fnV F sc__law_weighed fun cdv A outer s H E hr tk po =>
  (vs_cons (v_asgT (vg_tup rfl rfl (vgs_cons 4 sc__law_weighed.nd (vgs_cons 5 sc__law_weighed.nd (vgs_cons 6 sc__law_weighed.nd (vgs_cons 7 sc__law_weighed.nd (vgs_cons 8 sc__law_weighed.nd (vgs_cons 9 sc__law_weighed.nd vgs_nil))))))) (v_ix (o_ix rfl) (v_ix (o_ix rfl) (v_var 0) v_int) (v_var 1)))
    (vs_one (v_ret (v_bin (Om.bin tk (hr.mono (by decide)) rfl h_Ratiou_subu T.sf0) (v_bin (Om.bin tk (hr.mono (by decide)) rfl h_Ratiou_addu T.sf0) (v_bin (Om.bin tk (hr.mono (by decide)) rfl h_Ratiou_mulu T.sf0) (v_var 6) (Om.call tk hr h__law_place (va_cons (v_var 0) (va_cons (v_var 2) (va_cons (v_var 3) (va_cons (v_var 5) va_nil)))))) (v_bin (Om.bin tk (hr.mono (by decide)) rfl h_Ratiou_mulu T.sf0) (v_var 8) (Om.call tk hr h__law_place (va_cons (v_var 0) (va_cons (v_var 2) (va_cons (v_var 3) (va_cons (v_var 7) va_nil))))))) (v_var 9)))))) le__law_weighed⟩, ar__law_weighed⟩
theorem ok__law_kept (T : TxS K mg cs) (D : DefAt K mg "_law_kept" s__law_kept) (h__law_weighed : Fn P w K mg base (amb K cs) 8 "_law_weighed" 4 m__law_weighed) (h__law_sless : Fn P w K mg base (amb K cs) 1 "_law_less" 2 m__law_sless) (h__law_place : Fn P w K mg base (amb K cs) 7 "_law_place" 4 m__law_place) : Fn P w K mg base (amb K cs) 9 "_law_kept" 4 m__law_kept := by
  obtain ⟨f, fd, hm, F⟩ := D.ex
  exact ⟨⟨f, fd, ["show", "rule", "fault", "moment"], hm, F.kp, F.binds (ps := ["show", "rule", "fault", "moment"]) fun _ _ _ _ _ _ us hl => match us, hl with | [_, _, _, _], _ => rfl, fn_le (fnV F sc__law_kept fun cdv A outer s H E hr tk po =>
  (vs_cons (v_asgT (vg_tup rfl rfl (vgs_cons 4 sc__law_kept.nd (vgs_cons 5 sc__law_kept.nd (vgs_cons 6 sc__law_kept.nd (vgs_cons 7 sc__law_kept.nd (vgs_cons 8 sc__law_kept.nd (vgs_cons 9 sc__law_kept.nd vgs_nil))))))) (v_ix (o_ix rfl) (v_ix (o_ix rfl) (v_var 0) v_int) (v_var 1)))
    (vs_cons (v_if (v_tcmp (o_eq hr.units rfl) (v_var 4) v_str) (vs_one (v_ret (v_cmp o_ge (v_fld 0 0 T.own0 rfl rfl (Om.call tk hr h__law_weighed (va_cons (v_var 0) (va_cons (v_var 1) (va_cons (v_var 2) (va_cons (v_var 3) va_nil)))))) v_int))) vs_nil)
    (vs_cons (v_asgT (vg_tup rfl rfl (vgs_cons 10 sc__law_kept.nd (vgs_cons 11 sc__law_kept.nd (vgs_cons 12 sc__law_kept.nd vgs_nil)))) (v_var 3))
    (vs_cons (v_if (PW.pt (v_tor (v_test (Om.call tk (hr.mono (by decide)) h__law_sless (va_cons (v_var 12) (va_cons (v_ix (o_ix rfl) (v_var 10) (v_var 8)) va_nil)))) (v_or1 (v_test (Om.call tk (hr.mono (by decide)) h__law_sless (va_cons (v_ix (o_ix rfl) (v_var 10) (v_var 9)) (va_cons (v_var 12) va_nil))))))) (vs_one (v_ret v_bl)) vs_nil)
    (vs_cons (v_set 13 sc__law_kept.nd (Om.call tk (hr.mono (by decide)) h__law_place (va_cons (v_var 0) (va_cons (v_var 2) (va_cons (v_var 3) (va_cons (v_var 5) va_nil))))))
    (vs_one (v_ret (v_or (v_not (Om.call tk (hr.mono (by decide)) h__law_sless (va_cons (v_var 6) (va_cons (v_var 13) va_nil)))) (v_one (v_not (Om.call tk (hr.mono (by decide)) h__law_sless (va_cons (v_var 13) (va_cons (v_var 7) va_nil)))))))))))))) le__law_kept⟩, ar__law_kept⟩
theorem fn_law {f : Addr} {fd : FuncData} (T : TxS K mg cs) (F : Fun K "law" "law" s_law f fd) (h__law_stream : Fn P w K mg base (amb K cs) 1 "_law_stream" 1 m__law_stream) (h__law_draw : Fn P w K mg base (amb K cs) 1 "_law_draw" 2 m__law_draw) (h__law_show : Fn P w K mg base (amb K cs) 6 "_law_show" 3 m__law_show) (h__law_sfault : Fn P w K mg base (amb K cs) 3 "_law_fault" 3 m__law_sfault) (h__law_smoment : Fn P w K mg base (amb K cs) 5 "_law_moment" 3 m__law_smoment) (h_is_moment : Fn P w K mg base (amb K cs) 5 "is_moment" 3 m_is_moment) (h_place : Fn P w K mg base (amb K cs) 10 "place" 4 m_place) (h__law_place : Fn P w K mg base (amb K cs) 7 "_law_place" 4 m__law_place) (h_Ratiou_equ : Mt P w K mg base (amb K cs) 1 ((amb K cs).cl 0) "__eq__" 2 m_Ratiou_equ) (h_is_kept : Fn P w K mg base (amb K cs) 11 "is_kept" 4 m_is_kept) (h__law_kept : Fn P w K mg base (amb K cs) 9 "_law_kept" 4 m__law_kept) (h_Ratiou_initu : In P w K mg base (amb K cs) 1 0 3 [] m_Ratiou_initu) (h_Ratiou_addu : Mt P w K mg base (amb K cs) 3 ((amb K cs).cl 0) "__add__" 2 m_Ratiou_addu) (h_Ratiou_subu : Mt P w K mg base (amb K cs) 3 ((amb K cs).cl 0) "__sub__" 2 m_Ratiou_subu) (h_Ratiou_initu1 : In P w K mg base (amb K cs) 1 0 3 [.int 1] m_Ratiou_initu) : FnOk P w K mg base (L2.CX P w) 12 f fd ["script"] (spF (amb K cs) 1 m_law) :=
  fn_le (fnV F sc_law fun cdv A outer s H E hr tk po =>
  (vs_cons (v_set 1 sc_law.nd (Om.call tk (hr.mono (by decide)) h__law_stream (va_cons (v_var 0) va_nil)))
    (vs_cons (v_set 2 sc_law.nd (Om.call tk (hr.mono (by decide)) h__law_show (va_cons (v_var 1) (va_cons (v_bin o_add v_int (Om.call tk (hr.mono (by decide)) h__law_draw (va_cons (v_var 1) (va_cons v_int va_nil)))) (va_cons (v_bin o_add v_int (Om.call tk (hr.mono (by decide)) h__law_draw (va_cons (v_var 1) (va_cons v_int va_nil)))) va_nil)))))
    (vs_cons (v_set 3 sc_law.nd (Om.call tk (hr.mono (by decide)) h__law_sfault (va_cons (v_var 1) (va_cons (v_var 2) (va_cons (Om.call tk (hr.mono (by decide)) h__law_draw (va_cons (v_var 1) (va_cons v_int va_nil))) va_nil)))))
    (vs_cons (v_for rfl po (vi_rng1 T.b_range v_int) (vg_name 4 sc_law.nd) (vs_cons (v_set 5 sc_law.nd (Om.call tk (hr.mono (by decide)) h__law_smoment (va_cons (v_var 1) (va_cons (v_var 2) (va_cons (v_var 3) va_nil)))))
    (vs_cons (v_set 6 sc_law.nd (v_callTy (c_list rfl) T.b_list (by decide +kernel) (va_cons (v_ix (o_ix rfl) (v_var 5) v_int) va_nil)))
    (vs_cons (v_if (v_tcmp o_isnotB (Om.call tk (hr.mono (by decide)) h_is_moment (va_cons (v_var 2) (va_cons (v_var 3) (va_cons (v_var 5) va_nil)))) v_bl) (vs_one (v_ret v_bl)) vs_nil)
    (vs_cons (v_for rfl po (vi_rng1 T.b_range (v_callB (c_len rfl) T.b_len (by decide +kernel) (va_cons (v_ix (o_ix rfl) (v_var 2) v_int) va_nil))) (vg_name 7 sc_law.nd) (vs_one (v_if (v_tcmp (Om.ne tk (hr.mono (by decide)) rfl h_Ratiou_equ T.nf0 T.ne0) (Om.call tk (hr.mono (by decide)) h_place (va_cons (v_var 2) (va_cons (v_var 3) (va_cons (v_var 5) (va_cons (v_var 7) va_nil))))) (Om.call tk (hr.mono (by decide)) h__law_place (va_cons (v_var 2) (va_cons (v_var 3) (va_cons (v_var 5) (va_cons (v_var 7) va_nil)))))) (vs_one (v_ret v_bl)) vs_nil)))
    (vs_one (v_for rfl po (vi_rng1 T.b_range v_int) (vg_name 8 sc_law.nd) (vs_cons (v_set 9 sc_law.nd (Om.call tk hr h_is_kept (va_cons (v_var 2) (va_cons (v_var 8) (va_cons (v_var 3) (va_cons (v_var 5) va_nil))))))
    (vs_one (v_if (PW.pt (v_tor (v_tnot (v_test (v_isiV rfl T.b_isinstance (by decide +kernel) (v_var 9) (pe_bltn (v := .ty "bool") (u := .type "bool") (by rfl) T.b_bool (by decide +kernel) rfl) (.ty _) (isiT_ok T.isib_bool (by decide +kernel))))) (v_tor (v_tcmp (o_ne hr.units rfl) (v_var 9) (Om.call tk (hr.mono (by decide)) h__law_kept (va_cons (v_var 2) (va_cons (v_var 8) (va_cons (v_var 3) (va_cons (v_var 5) va_nil)))))) (v_or1 (v_tcmp (o_neLst (hr.mono (by decide)) h_Ratiou_equ rfl eq_two) (v_ix (o_ix rfl) (v_var 5) v_int) (v_var 6)))))) (vs_one (v_ret v_bl)) vs_nil))))))))))
    (vs_cons (v_asgT (vg_tup rfl rfl (vgs_cons 10 sc_law.nd (vgs_cons 11 sc_law.nd (vgs_cons 12 sc_law.nd vgs_nil)))) (v_var 5))
    (vs_cons (v_set 13 sc_law.nd (v_callTy (c_listC rfl) T.b_list (by decide +kernel) (va_cons (v_var 10) va_nil)))
    (vs_cons (v_set 7 sc_law.nd (Om.call tk (hr.mono (by decide)) h__law_draw (va_cons (v_var 1) (va_cons (v_callB (c_len rfl) T.b_len (by decide +kernel) (va_cons (v_var 13) va_nil)) va_nil))))
    (vs_cons (v_asgT (vg_tup rfl rfl (vgs_cons 14 sc_law.nd (vgs_cons 15 sc_law.nd (vgs_cons 16 sc_law.nd vgs_nil)))) (v_ix (o_ix rfl) (v_ix (o_ix rfl) (v_var 2) v_int) (v_var 7)))
    (vs_cons (v_setIx (v_var 13) (v_var 7) (v_ix (o_ix rfl) (v_lst (va_cons (v_bin (Om.bin tk (hr.mono (by decide)) rfl h_Ratiou_subu T.sf0) (v_var 15) (Om.mk tk (hr.mono (by decide)) h_Ratiou_initu T.c0 (va_cons v_int (va_cons v_int va_nil)))) (va_cons (v_bin (Om.bin tk (hr.mono (by decide)) rfl h_Ratiou_addu T.sf0) (v_var 16) (Om.mk tk (hr.mono (by decide)) h_Ratiou_initu T.c0 (va_cons v_int (va_cons v_int va_nil)))) va_nil))) (Om.call tk (hr.mono (by decide)) h__law_draw (va_cons (v_var 1) (va_cons v_int va_nil)))))
    (vs_cons (v_if (v_tcmp o_ge (v_var 14) v_int) (vs_one (v_setIx (v_var 13) (v_var 7) (v_bin (Om.bin tk (hr.mono (by decide)) rfl h_Ratiou_addu T.sf0) (v_ix (o_ix rfl) (v_var 13) (v_var 7)) (v_ix (o_ix rfl) (v_var 13) (v_var 14))))) vs_nil)
    (vs_cons (v_set 17 sc_law.nd (v_lstC (va_cons (v_tup (va_cons (v_var 13) (va_cons (v_var 11) (va_cons (v_var 12) va_nil)))) (va_cons (v_tup (va_cons (v_slice rfl (v_var 10) v_noP (v_pt (v_un o_neg v_int))) (va_cons (v_var 11) (va_cons (v_var 12) va_nil)))) (va_cons (v_tup (va_cons (v_var 10) (va_cons (v_bin (Om.bin tk (hr.mono (by decide)) rfl h_Ratiou_addu T.sf0) (v_var 12) (Om.mk tk (hr.mono (by decide)) h_Ratiou_initu T.c0 (va_cons v_int (va_cons v_int va_nil)))) (va_cons (v_var 12) va_nil)))) (va_cons (v_tup (va_cons (v_var 10) (va_cons (Om.mk tk (hr.mono (by decide)) h_Ratiou_initu1 T.c0 (va_cons (v_un o_neg v_int) va_nil)) (va_cons (v_var 12) va_nil)))) va_nil))))))
    (vs_cons (v_expr (v_bm PySem.F.plainAttrs_list PySem.F.slot_list_append PySem.F.type_list_append m_append ty_lst (v_var 17) (va_cons (v_tup (va_cons (v_var 10) (va_cons (v_var 11) (va_cons (v_bin (Om.bin tk (hr.mono (by decide)) rfl h_Ratiou_subu T.sf0) (v_var 11) (Om.mk tk (hr.mono (by decide)) h_Ratiou_initu T.c0 (va_cons v_int (va_cons v_int va_nil)))) va_nil)))) va_nil)))
    (vs_cons (v_if (v_tcmp (o_eq hr.units rfl) (v_ix (o_ix rfl) (v_var 3) v_int) v_str) (vs_one (v_expr (v_bm PySem.F.plainAttrs_list PySem.F.slot_list_append PySem.F.type_list_append m_append ty_lst (v_var 17) (va_cons (v_tup (va_cons (v_var 10) (va_cons (Om.mk tk (hr.mono (by decide)) h_Ratiou_initu T.c0 (va_cons v_int (va_cons v_int va_nil))) (va_cons (Om.mk tk (hr.mono (by decide)) h_Ratiou_initu1 T.c0 (va_cons v_int va_nil)) va_nil)))) va_nil)))) vs_nil)
    (vs_one (v_ret (v_cmp o_isB (Om.call tk (hr.mono (by decide)) h_is_moment (va_cons (v_var 2) (va_cons (v_var 3) (va_cons (v_ix (o_ix rfl) (v_var 17) (Om.call tk (hr.mono (by decide)) h__law_draw (va_cons (v_var 1) (va_cons (v_callB (c_len rfl) T.b_len (by decide +kernel) (va_cons (v_var 17) va_nil)) va_nil)))) va_nil)))) v_bl))))))))))))))))) le_law
end
end Vs
namespace Vs
open PySem PySem.Spec PyProof.Rows L2
open Bar (rg)
section
variable {μ ν : Mu} {δ : Sl}
theorem pl_loop {sheet : P} {ms : List Mc} {rls : List Rl} {ts : List Rat} {F : Ft} {f t : Rat} (hS : ShOk ms ts F f t) {c0 c1 c4 c6 c8 c9 c10 c11 c12 c13 c14 c15 c16 c17 : Option D} : ∀ (q j : Nat) (c7 : Option D), j + q = ms.length → ∃ c7', forL (tgN 7) lb_law_0 (intsP j q) [c0, c1, some (.p (shwP sheet ms (.tup (rls.map Rl.r)))), some (.p F.r), c4, some (.p (momP ts f t)), c6, c7, c8, c9, c10, c11, c12, c13, c14, c15, c16, c17] μ = some (.nx, [c0, c1, some (.p (shwP sheet ms (.tup (rls.map Rl.r)))), some (.p F.r), c4, some (.p (momP ts f t)), c6, c7', c8, c9, c10, c11, c12, c13, c14, c15, c16, c17], μ)
  | 0, j, c7, _ => ⟨c7, rfl⟩
  | q + 1, j, c7, e => by
    have hj : j < ms.length := by omega
    have e1 := (ev_place (μ := μ) (sheet := sheet) (rules := .tup (rls.map Rl.r)) hj (hS.mc j hj) hS.mo).1
    have e2 := ev_lplace (μ := μ) (sheet := sheet) (rules := .tup (rls.map Rl.r)) hj (hS.mc j hj) hS.mo (hS.sq j hj) hS.le
    have ne := ne_ratG (μ := μ) (a := plV ts F f t j (ms.getD j Mc0)) (b := plV ts F f t j (ms.getD j Mc0))
    obtain ⟨c7', ih⟩ := pl_loop (sheet := sheet) (rls := rls) hS (c0 := c0) (c1 := c1) (c4 := c4) (c6 := c6) (c8 := c8) (c9 := c9) (c10 := c10) (c11 := c11) (c12 := c12) (c13 := c13) (c14 := c14) (c15 := c15) (c16 := c16) (c17 := c17) q (j + 1) (some (.p (.int (j : Int)))) (by omega)
    refine ⟨c7', ?_⟩
    rw [intsP_succ, forL_nx rfl (by
      show lb_law_0 [c0, c1, some (.p (shwP sheet ms (.tup (rls.map Rl.r)))), some (.p F.r), c4, some (.p (momP ts f t)), c6, some (.p (.int (j : Int))), c8, c9, c10, c11, c12, c13, c14, c15, c16, c17] μ = _
      unfold lb_law_0
      rw [sIf_eq, evB_eq', evBin_eq, evCall_eq, evCons_eq, evV_2, bindG_ok, evCons_eq, evV_3, bindG_ok, evCons_eq, evV_5, bindG_ok, evCons_eq, evV_7, bindG_ok, evNil_eq, bindG_ok, bindG_ok, bindG_ok, bindG_ok, bindG_ok, List.map_nil, List.append_nil, e1, bindG_ok, evCall_eq, evCons_eq, evV_2, bindG_ok, evCons_eq, evV_3, bindG_ok, evCons_eq, evV_5, bindG_ok, evCons_eq, evV_7, bindG_ok, evNil_eq, bindG_ok, bindG_ok, bindG_ok, bindG_ok, bindG_ok, List.map_nil, List.append_nil, e2, bindG_ok, ne, okm_some, bindG_ok, toB_bl, bindS_ok, if_neg (by simp), sNil_eq]), ih]
theorem ratsQ_map : ∀ xs : List Rat, ratsP 0 (xs.map rat) = true
  | [] => rfl
  | x :: xs => by
    show (0 == 0 && ratsP 0 (xs.map rat)) = true
    rw [ratsQ_map xs]; rfl
theorem ne_same {xs : List Rat} : fNeLst 0 (.p (tsP xs)) (.p (tsP xs)) μ = some (.p (.bl false), μ) := fNeLst_ok (ratsQ_map xs) (ratsQ_map xs) rfl (by simp)
theorem ne_blb (b : Bool) : fNe (.p (.bl b)) (.p (.bl b)) μ = some (.p (.bl false), μ) := by cases b <;> rfl
theorem kp_loop {sheet : P} {ms : List Mc} {rls : List Rl} {ts : List Rat} {F : Ft} {f t : Rat} (hS : ShOk ms ts F f t) (hr : ∀ R ∈ rls, RlOk ms.length ts.length R) {c0 c1 c4 c7 c10 c11 c12 c13 c14 c15 c16 c17 : Option D} : ∀ (q j : Nat) (c8 c9 : Option D), j + q = rls.length → ∃ c8' c9', forL (tgN 8) lb_law_1 (intsP j q) [c0, c1, some (.p (shwP sheet ms (.tup (rls.map Rl.r)))), some (.p F.r), c4, some (.p (momP ts f t)), some (.p (tsP ts)), c7, c8, c9, c10, c11, c12, c13, c14, c15, c16, c17] μ = some (.nx, [c0, c1, some (.p (shwP sheet ms (.tup (rls.map Rl.r)))), some (.p F.r), c4, some (.p (momP ts f t)), some (.p (tsP ts)), c7, c8', c9', c10, c11, c12, c13, c14, c15, c16, c17], μ)
  | 0, j, c8, c9, _ => ⟨c8, c9, rfl⟩
  | q + 1, j, c8, c9, e => by
    have hj : j < rls.length := by omega
    have hR := hr _ (getD_mem (d := Rl0) hj)
    have e1 := ev_is_kept (μ := μ) (sheet := sheet) hj hR hS
    have e2 := ev_lkept (μ := μ) (sheet := sheet) hj hR hS
    have i0 : fIx (.p (momP ts f t)) (.p (.int 0)) μ = some (.p (tsP ts), μ) := rfl
    have ne : fNeLst 0 (.p (tsP ts)) (.p (tsP ts)) μ = some (.p (.bl false), μ) := ne_same
    generalize kpV ms ts F f t (rls.getD j Rl0) = b at e1 e2
    have isb : evIsiV (isiT 1 "bool") (evV 9) [c0, c1, some (.p (shwP sheet ms (.tup (rls.map Rl.r)))), some (.p F.r), c4, some (.p (momP ts f t)), some (.p (tsP ts)), c7, some (.p (.int (j : Int))), some (.p (.bl b)), c10, c11, c12, c13, c14, c15, c16, c17] μ = some (.ok (.p (.bl true)), μ) := by
      rw [evIsiV_eq, evV_9, bindG_ok]
      exact isiVEnd_some (by simp [isiT, tyNm])
    have nb := ne_blb (μ := μ) b
    obtain ⟨c8', c9', ih⟩ := kp_loop (sheet := sheet) (rls := rls) hS hr (c0 := c0) (c1 := c1) (c4 := c4) (c7 := c7) (c10 := c10) (c11 := c11) (c12 := c12) (c13 := c13) (c14 := c14) (c15 := c15) (c16 := c16) (c17 := c17) q (j + 1) (some (.p (.int (j : Int)))) (some (.p (.bl b))) (by omega)
    refine ⟨c8', c9', ?_⟩
    rw [intsP_succ, forL_nx rfl (by
      show lb_law_1 [c0, c1, some (.p (shwP sheet ms (.tup (rls.map Rl.r)))), some (.p F.r), c4, some (.p (momP ts f t)), some (.p (tsP ts)), c7, some (.p (.int (j : Int))), c9, c10, c11, c12, c13, c14, c15, c16, c17] μ = some (.nx, [c0, c1, some (.p (shwP sheet ms (.tup (rls.map Rl.r)))), some (.p F.r), c4, some (.p (momP ts f t)), some (.p (tsP ts)), c7, some (.p (.int (j : Int))), some (.p (.bl b)), c10, c11, c12, c13, c14, c15, c16, c17], μ)
      unfold lb_law_1
      rw [seqS_eq, sSet_eq, evCall_eq, evCons_eq, evV_2, bindG_ok, evCons_eq, evV_8, bindG_ok, evCons_eq, evV_3, bindG_ok, evCons_eq, evV_5, bindG_ok, evNil_eq, bindG_ok, bindG_ok, bindG_ok, bindG_ok, bindG_ok, List.map_nil, List.append_nil, e1, bindS_ok, andThen_nx]
      simp only [List.set_cons_succ, List.set_cons_zero]
      rw [sIf_eq, tOrV_eq, tNotV_eq, evB_eq', isb, bindG_ok, toB_bl, bindG_ok, bindG_ok, if_neg (by decide), tOrV_eq, evB_eq', evBin_eq, evV_9, bindG_ok, evCall_eq, evCons_eq, evV_2, bindG_ok, evCons_eq, evV_8, bindG_ok, evCons_eq, evV_3, bindG_ok, evCons_eq, evV_5, bindG_ok, evNil_eq, bindG_ok, bindG_ok, bindG_ok, bindG_ok, bindG_ok, List.map_nil, List.append_nil, e2, bindG_ok, nb, okm_some, bindG_ok, toB_bl, bindG_ok, if_neg (by decide), evB_eq', evBin_eq, evBin_eq, evV_5, bindG_ok, evC_eq, bindG_ok, i0, okm_some, bindG_ok, evV_6, bindG_ok, ne, okm_some, bindG_ok, toB_bl, bindS_ok, if_neg (by decide), sNil_eq]), ih]
theorem mo_true {w : Nat} {cs : List Cue} {ts : List Rat} {F : Ft} {f t : Rat} (Sh : Sh4 w cs) (hl : ts.length = cs.length) (T : Tm4 cs ts) (M : Mo4 F f t) : imV cs ts F.nonB f t = true := by
  have h1 : tmV cs ts = true := by
    unfold tmV
    rw [Bool.and_eq_true, decide_eq_true_eq, List.all_eq_true]
    refine ⟨hl, fun x hx => ?_⟩
    obtain ⟨i, hi⟩ := List.getElem?_of_mem hx
    rw [List.getElem?_zip_eq_some] at hi
    obtain ⟨a, b⟩ := T.ok i x.1 x.2 hi.1 hi.2
    unfold okc
    rw [decide_eq_false (by grind), decide_eq_false (by grind)]
    rfl
  have h2 : F.nonB = true → f = 0 := fun h => M.non (by cases F <;> first | rfl | cases h)
  have h3 : ¬ f < 0 := by have := M.f0; grind
  have h4 : ¬ t < f := by have := M.le; grind
  unfold imV
  rw [h1, decide_eq_false h3, decide_eq_false h4]
  cases hn : F.nonB with
  | false => rfl
  | true => rw [decide_eq_true (h2 hn)]; rfl
theorem mo_shok {w : Nat} {cs : List Cue} {ms : List Mc} {rls : List Rl} {ts : List Rat} {F : Ft} {f t : Rat} (Sh : Sh4 w cs) (w4 : w ≤ 4) (So : Sho cs ms rls) (hF : ∀ k lag, F = .seize k lag → k < ms.length ∧ 0 ≤ lag ∧ Tq 2 9 lag) (hl : ts.length = cs.length) (T : Tm4 cs ts) (M : Mo4 F f t) : ShOk ms ts F f t := by
  have cl := Sh.len
  refine ⟨⟨tm_bz T (by omega), M.ftq.bz20 (by decide +kernel) (by decide), M.ttq.bz20 (by decide +kernel) (by decide), fun k lag h => ?_⟩, fun j hj => by rw [hl]; exact So.mc j hj, fun j hj => So.sq ts (tm_bt Sh hl T) j hj, M.le⟩
  obtain ⟨_, _, q⟩ := hF k lag h
  have q8 := q.up 4 (by decide)
  exact ⟨q.bz20 (by decide +kernel) (by decide), (M.ftq.add q8).bz20 (by decide +kernel) (by decide)⟩
theorem mo_step {w : Nat} {cs : List Cue} {ms : List Mc} {rls : List Rl} {F : Ft} (Sh : Sh4 w cs) (w1 : 1 ≤ w) (w4 : w ≤ 4) (So : Sho cs ms rls) (hF : ∀ k lag, F = .seize k lag → k < ms.length ∧ 0 ≤ lag ∧ Tq 2 9 lag) {s : SS} (hs : s.Ok) : ∃ (ts : List Rat) (f t : Rat) (s' : SS), s'.Ok ∧ ts.length = cs.length ∧ Tm4 cs ts ∧ Mo4 F f t ∧ ∀ (r : Mu) (c0 c1 c2 c3 c4 c5 c6 c7 c8 c9 c10 c11 c12 c13 c14 c15 c16 c17 : Option D), ∃ c7' c8' c9', lb_law_2 [c0, some (.loc 0), some (.p (shwP (shR cs) ms (.tup (rls.map Rl.r)))), some (.p F.r), c4, c5, c6, c7, c8, c9, c10, c11, c12, c13, c14, c15, c16, c17] (st s :: r) = some (.nx, [c0, some (.loc 0), some (.p (shwP (shR cs) ms (.tup (rls.map Rl.r)))), some (.p F.r), c4, some (.p (momP ts f t)), some (.p (tsP ts)), c7', c8', c9', c10, c11, c12, c13, c14, c15, c16, c17], st s' :: r) := by
  obtain ⟨ts, f, t, s', o', hl, T, M, e1⟩ := smoment_ex (ms := ms) (rules := .tup (rls.map Rl.r)) (F := F) Sh w1 w4 hs
  have hS := mo_shok Sh w4 So hF hl T M
  have em := fun κ : Mu => ev_is_moment (μ := κ) (ms := ms) (rules := .tup (rls.map Rl.r)) (F := F) (Sh.sheet w1 w4) hS.mo.hts hS.mo.hf' hS.mo.ht'
  rw [mo_true Sh hl T M] at em
  refine ⟨ts, f, t, s', o', hl, T, M, fun r c0 c1 c2 c3 c4 c5 c6 c7 c8 c9 c10 c11 c12 c13 c14 c15 c16 c17 => ?_⟩
  obtain ⟨c7', e2⟩ := pl_loop (μ := st s' :: r) (sheet := shR cs) (rls := rls) hS (c0 := c0) (c1 := some (.loc 0)) (c4 := c4) (c6 := some (.p (tsP ts))) (c8 := c8) (c9 := c9) (c10 := c10) (c11 := c11) (c12 := c12) (c13 := c13) (c14 := c14) (c15 := c15) (c16 := c16) (c17 := c17) ms.length 0 c7 (by omega)
  obtain ⟨c8', c9', e3⟩ := kp_loop (μ := st s' :: r) (sheet := shR cs) (rls := rls) hS (by rw [hl]; exact So.rl) (c0 := c0) (c1 := some (.loc 0)) (c4 := c4) (c7 := c7') (c10 := c10) (c11 := c11) (c12 := c12) (c13 := c13) (c14 := c14) (c15 := c15) (c16 := c16) (c17 := c17) rls.length 0 c8 c9 (by omega)
  refine ⟨c7', c8', c9', ?_⟩
  have i0 : fIx (.p (momP ts f t)) (.p (.int 0)) (st s' :: r) = some (.p (tsP ts), st s' :: r) := rfl
  have i1 : fIx (.p (shwP (shR cs) ms (.tup (rls.map Rl.r)))) (.p (.int 1)) (st s' :: r) = some (.p (.tup (ms.map Mc.r)), st s' :: r) := rfl
  have fl : fList [.p (tsP ts)] (st s' :: r) = some (.p (tsP ts), st s' :: r) := rfl
  have ln : fLen [.p (.tup (ms.map Mc.r))] (st s' :: r) = some (.p (.int (ms.length : Int)), st s' :: r) := by
    show some (D.p (.int ((ms.map Mc.r).length : Int)), st s' :: r) = _
    rw [List.length_map]
  have isb : fIsB true (.p (.bl true)) (.p (.bl true)) (st s' :: r) = some (.p (.bl false), st s' :: r) := rfl
  have m4 := So.m4
  have r1 : evRng1 (evBI fLen (evCons (evBin fIx (evV 2) (evC (.int 1))) evNil)) [c0, some (.loc 0), some (.p (shwP (shR cs) ms (.tup (rls.map Rl.r)))), some (.p F.r), c4, some (.p (momP ts f t)), some (.p (tsP ts)), c7, c8, c9, c10, c11, c12, c13, c14, c15, c16, c17] (st s' :: r) = some (.ok (intsP 0 ms.length), st s' :: r) := rng_n ms.length (by
    rw [evBI_eq, evCons_eq, evBin_eq, evV_2, bindG_ok, evC_eq, bindG_ok, i1, okm_some, bindG_ok, evNil_eq, bindG_ok, bindG_ok, ln, okm_some]) (by omega)
  have r2 : evRng1 (evC (.int 3)) [c0, some (.loc 0), some (.p (shwP (shR cs) ms (.tup (rls.map Rl.r)))), some (.p F.r), c4, some (.p (momP ts f t)), some (.p (tsP ts)), c7', c8, c9, c10, c11, c12, c13, c14, c15, c16, c17] (st s' :: r) = some (.ok (intsP 0 rls.length), st s' :: r) := by
    have := So.r3
    rw [this]
    exact rng_n 3 rfl (by decide)
  unfold lb_law_0 at e2
  unfold lb_law_1 at e3
  unfold lb_law_2
  rw [seqS_eq, sSet_eq, evCall_eq, evCons_eq, evV_1, bindG_ok, evCons_eq, evV_2, bindG_ok, evCons_eq, evV_3, bindG_ok, evNil_eq, bindG_ok, bindG_ok, bindG_ok, bindG_ok, List.map_nil, List.append_nil, e1, bindS_ok, andThen_nx]
  simp only [List.set_cons_succ, List.set_cons_zero]
  rw [seqS_eq, sSet_eq, evBI_eq, evCons_eq, evBin_eq, evV_5, bindG_ok, evC_eq, bindG_ok, i0, okm_some, bindG_ok, evNil_eq, bindG_ok, bindG_ok, fl, okm_some, bindS_ok, andThen_nx]
  simp only [List.set_cons_succ, List.set_cons_zero]
  rw [seqS_eq, sIf_eq, evB_eq', evBin_eq, evCall_eq, evCons_eq, evV_2, bindG_ok, evCons_eq, evV_3, bindG_ok, evCons_eq, evV_5, bindG_ok, evNil_eq, bindG_ok, bindG_ok, bindG_ok, bindG_ok, List.map_nil, List.append_nil, em, bindG_ok, evC_eq, bindG_ok, isb, okm_some, bindG_ok, toB_bl, bindS_ok, if_neg (by decide), sNil_eq, andThen_nx]
  rw [seqS_eq, sFor_eq, r1, bindS_ok, e2, andThen_nx, sFor_eq, r2, bindS_ok, e3]
theorem mo_loop {w : Nat} {cs : List Cue} {ms : List Mc} {rls : List Rl} {F : Ft} (Sh : Sh4 w cs) (w1 : 1 ≤ w) (w4 : w ≤ 4) (So : Sho cs ms rls) (hF : ∀ k lag, F = .seize k lag → k < ms.length ∧ 0 ≤ lag ∧ Tq 2 9 lag) : ∀ (q k : Nat) (s : SS), s.Ok → ∃ (ts : List Rat) (f t : Rat) (s' : SS), s'.Ok ∧ ts.length = cs.length ∧ Tm4 cs ts ∧ Mo4 F f t ∧ ∀ (r : Mu) (c0 c1 c2 c3 c4 c5 c6 c7 c8 c9 c10 c11 c12 c13 c14 c15 c16 c17 : Option D), ∃ c4' c6' c7' c8' c9', forL (tgN 4) lb_law_2 (intsP k (q + 1)) [c0, some (.loc 0), some (.p (shwP (shR cs) ms (.tup (rls.map Rl.r)))), some (.p F.r), c4, c5, c6, c7, c8, c9, c10, c11, c12, c13, c14, c15, c16, c17] (st s :: r) = some (.nx, [c0, some (.loc 0), some (.p (shwP (shR cs) ms (.tup (rls.map Rl.r)))), some (.p F.r), c4', some (.p (momP ts f t)), c6', c7', c8', c9', c10, c11, c12, c13, c14, c15, c16, c17], st s' :: r)
  | 0, k, s, hs => by
    obtain ⟨ts, f, t, s', o', hl, T, M, e⟩ := mo_step Sh w1 w4 So hF hs
    refine ⟨ts, f, t, s', o', hl, T, M, fun r c0 c1 c2 c3 c4 c5 c6 c7 c8 c9 c10 c11 c12 c13 c14 c15 c16 c17 => ?_⟩
    obtain ⟨c7', c8', c9', e⟩ := e r c0 c1 c2 c3 (some (.p (.int (k : Int)))) c5 c6 c7 c8 c9 c10 c11 c12 c13 c14 c15 c16 c17
    exact ⟨_, _, c7', c8', c9', by rw [intsP_succ, forL_nx rfl e]; rfl⟩
  | q + 1, k, s, hs => by
    obtain ⟨ts0, f0, t0, s1, o1, _, _, _, e⟩ := mo_step Sh w1 w4 So hF hs
    obtain ⟨ts, f, t, s', o', hl, T, M, ih⟩ := mo_loop Sh w1 w4 So hF q (k + 1) s1 o1
    refine ⟨ts, f, t, s', o', hl, T, M, fun r c0 c1 c2 c3 c4 c5 c6 c7 c8 c9 c10 c11 c12 c13 c14 c15 c16 c17 => ?_⟩
    obtain ⟨d7, d8, d9, e⟩ := e r c0 c1 c2 c3 (some (.p (.int (k : Int)))) c5 c6 c7 c8 c9 c10 c11 c12 c13 c14 c15 c16 c17
    obtain ⟨c4', c6', c7', c8', c9', ih⟩ := ih r c0 c1 c2 c3 (some (.p (.int (k : Int)))) (some (.p (momP ts0 f0 t0))) (some (.p (tsP ts0))) d7 d8 d9 c10 c11 c12 c13 c14 c15 c16 c17
    exact ⟨c4', c6', c7', c8', c9', by rw [intsP_succ, forL_nx rfl e, ih]⟩
end
end Vs
namespace Vs
open PySem PySem.Spec PyProof.Rows L2
open Bar (rg)
theorem tq_r7 : Tq 14 1 (Rat.divInt 1 7) := tq_div (by decide) (by decide) (by decide) (by decide)
/-- a time out of its wait -/
theorem late_bad {w : Nat} {cs : List Cue} {ts : List Rat} (Sh : Sh4 w cs) (hl : ts.length = cs.length) (T : Tm4 cs ts) {a : Nat} {c : Cue} (hc : cs[a]? = some c) {x : Rat} (hx : x < c.lo ∨ c.hi < x) : tmV cs (ts.set a (if c.p = -1 then x else x + rg ts c.p.toNat)) = false := by
  have k := Sh.ok a c hc
  have p1 := k.p1
  have p2 := k.p2
  have al := (List.getElem?_eq_some_iff.mp hc).1
  generalize hX : (if c.p = -1 then x else x + rg ts c.p.toNat) = X
  have wx : wt (ts.set a X) c.p X = x := by
    unfold wt
    by_cases q : c.p = -1
    · rw [if_pos q, ← hX, if_pos q]
    · have hX' : X = x + rg ts c.p.toNat := by rw [← hX, if_neg q]
      have : bf (ts.set a X) c.p = rg ts c.p.toNat := by
        unfold bf rg
        rw [List.getD_eq_getElem?_getD, List.getElem?_set_ne (by omega), List.getD_eq_getElem?_getD]
      rw [if_neg q, this, hX']; grind
  have bad : okc (ts.set a X) c X = false := by
    unfold okc
    rw [wx]
    rcases hx with h | h
    · rw [decide_eq_true h]; rfl
    · rw [decide_eq_true h, Bool.and_comm]; rfl
  unfold tmV
  rw [Bool.and_eq_false_iff]
  right
  rw [List.all_eq_false]
  refine ⟨(c, X), List.mem_of_getElem? (i := a) ?_, by rw [bad]; decide⟩
  rw [List.getElem?_zip_eq_some]
  exact ⟨hc, List.getElem?_set_self (by omega)⟩
theorem imV_t {cs : List Cue} {ts : List Rat} {n : Bool} {f t : Rat} (h : tmV cs ts = false) : imV cs ts n f t = false := by
  unfold imV
  rw [h]
  cases !(n && !decide (f = 0)) <;> rfl
theorem imV_f {cs : List Cue} {ts : List Rat} {n : Bool} {f t : Rat} (h : f < 0 ∨ t < f) : imV cs ts n f t = false := by
  unfold imV
  have : (!decide (f < 0) && !decide (t < f)) = false := by
    rcases h with h | h
    · rw [decide_eq_true h]; rfl
    · rw [decide_eq_true h, Bool.and_comm]; rfl
  rw [this, Bool.and_false, Bool.and_false]
theorem imV_n {cs : List Cue} {ts : List Rat} {f t : Rat} (h : f ≠ 0) : imV cs ts true f t = false := by
  unfold imV
  rw [decide_eq_false h]; rfl
abbrev Tr := List Rat × Rat × Rat
def Tr.r (x : Tr) : P := momP x.1 x.2.1 x.2.2
structure BadM (cs : List Cue) (n : Bool) (x : Tr) : Prop where
  ts : ∀ t ∈ x.1, Bz 20 t
  f : Bz 20 x.2.1
  t : Bz 20 x.2.2
  no : imV cs x.1 n x.2.1 x.2.2 = false
section
variable {μ ν : Mu} {δ : Sl}
theorem drI {s s' : SS} {k x : Int} {i : Nat} {r : Mu} (e : ∀ r : Mu, m__law_draw [.loc 0, .p (.int k)] (st s :: r) = some (.ok (.p (.int x)), st s' :: r)) (hd : δ[i]? = some (some (.loc 0))) : evCall m__law_draw [] (evCons (evV i) (evCons (evC (.int k)) evNil)) δ (st s :: r) = some (.ok (.p (.int x)), st s' :: r) := by
  rw [evCall_eq, evCons_eq, evV_at hd, bindG_ok, evCons_eq, evC_eq, bindG_ok, evNil_eq, bindG_ok, bindG_ok, bindG_ok, List.map_nil, List.append_nil, e]
theorem drI1 {s s' : SS} {k x : Int} {i : Nat} {r : Mu} (e : ∀ r : Mu, m__law_draw [.loc 0, .p (.int k)] (st s :: r) = some (.ok (.p (.int x)), st s' :: r)) (hd : δ[i]? = some (some (.loc 0))) : evBin fAdd (evC (.int 1)) (evCall m__law_draw [] (evCons (evV i) (evCons (evC (.int k)) evNil))) δ (st s :: r) = some (.ok (.p (.int (1 + x))), st s' :: r) := by
  rw [evBin_eq, evC_eq, bindG_ok, drI e hd, bindG_ok, add_ints, okm_some]
theorem len_l {l : Nat} {xs : List P} (h : μ[l]? = some (some (.lst xs))) : fLen [.loc l] μ = some (.p (.int (xs.length : Int)), μ) := by
  unfold fLen
  dsimp only
  rw [view_l h]
theorem drL {s s' : SS} {n x : Nat} {i j l : Nat} {r : Mu} {xs : List P} (hx : xs.length = n) (hc : (st s :: r)[l]? = some (some (.lst xs))) (e : ∀ r : Mu, m__law_draw [.loc 0, .p (.int (n : Int))] (st s :: r) = some (.ok (.p (.int (x : Int))), st s' :: r)) (hd : δ[i]? = some (some (.loc 0))) (hj : δ[j]? = some (some (.loc l))) : evCall m__law_draw [] (evCons (evV i) (evCons (evBI fLen (evCons (evV j) evNil)) evNil)) δ (st s :: r) = some (.ok (.p (.int (x : Int))), st s' :: r) := by
  rw [evCall_eq, evCons_eq, evV_at hd, bindG_ok, evCons_eq, evBI_eq, evCons_eq, evV_at hj, bindG_ok, evNil_eq, bindG_ok, bindG_ok, len_l hc, okm_some, bindG_ok, evNil_eq, bindG_ok, bindG_ok, bindG_ok, List.map_nil, List.append_nil, hx, e]
theorem mkQ {n d : Int} (h0 : d ≠ 0) (hs : Sz 100 d) : evMake 0 2 m_Ratiou_initu [] (evCons (evC (.int n)) (evCons (evC (.int d)) evNil)) δ μ = some (.ok (.p (rat (Rat.divInt n d))), μ) := mkD (by rw [evCons_eq, evC_eq, bindG_ok, evCons_eq, evC_eq, bindG_ok, evNil_eq, bindG_ok, bindG_ok]) h0 hs
/-- the end of the law -/
theorem end_ok {w : Nat} {cs : List Cue} (S : Sheet cs) {ms : List Mc} {rules : P} {F : Ft} {s : SS} (hs : s.Ok) {L : List Tr} (h0 : 0 < L.length) (h9 : L.length ≤ 9) (hL : ∀ x ∈ L, BadM cs F.nonB x) {o : Option MO} {c0 c4 c5 c6 c7 c8 c9 c10 c11 c12 c13 c14 c15 c16 : Option D} :
    retF 0 (t_law_13 [c0, some (.loc 0), some (.p (shwP (shR cs) ms rules)), some (.p F.r), c4, c5, c6, c7, c8, c9, c10, c11, c12, c13, c14, c15, c16, some (.loc 2)] [st s, o, some (.lst (L.map Tr.r))]) = some (.ok (.p (.bl true)), []) := by
  obtain ⟨x, s1, o1, x1, e1⟩ := draw0n (n := L.length) hs h0 (by omega)
  have bx := hL _ (getD_mem (d := (([] : List Rat), (0 : Rat), (0 : Rat))) x1)
  generalize hb : L.getD x (([] : List Rat), (0 : Rat), (0 : Rat)) = b at bx
  have ix : fIx (.loc 2) (.p (.int (x : Int))) [st s1, o, some (.lst (L.map Tr.r))] = some (.p b.r, [st s1, o, some (.lst (L.map Tr.r))]) := LsD.ix (.inr ⟨2, rfl, rfl⟩) (by
    rw [List.getElem?_map, getD_ix (d := (([] : List Rat), (0 : Rat), (0 : Rat))) x1, hb]; rfl)
  have em := ev_is_moment (μ := [st s1, o, some (.lst (L.map Tr.r))]) (ms := ms) (rules := rules) (F := F) S bx.ts bx.f bx.t
  rw [bx.no] at em
  have em : m_is_moment [.p (shwP (shR cs) ms rules), .p F.r, .p b.r] [st s1, o, some (.lst (L.map Tr.r))] = some (.ok (.p (.bl false)), [st s1, o, some (.lst (L.map Tr.r))]) := em
  have isf : fIsB false (.p (.bl false)) (.p (.bl false)) [st s1, o, some (.lst (L.map Tr.r))] = some (.p (.bl true), [st s1, o, some (.lst (L.map Tr.r))]) := rfl
  have dr := drL (δ := [c0, some (.loc 0), some (.p (shwP (shR cs) ms rules)), some (.p F.r), c4, c5, c6, c7, c8, c9, c10, c11, c12, c13, c14, c15, c16, some (.loc 2)]) (i := 1) (j := 17) (l := 2) (r := [o, some (.lst (L.map Tr.r))]) (xs := L.map Tr.r) (by simp) rfl e1 rfl rfl
  unfold t_law_13 p_law_13
  rw [sRet_eq, evBin_eq, evCall_eq, evCons_eq, evV_2, bindG_ok, evCons_eq, evV_3, bindG_ok, evCons_eq, evBin_eq, evV_17, bindG_ok, dr, bindG_ok, ix, okm_some, bindG_ok, evNil_eq, bindG_ok, bindG_ok, bindG_ok, bindG_ok, List.map_nil, List.append_nil, em, bindG_ok, evC_eq, bindG_ok, isf, okm_some, bindS_ok, retF_p]
  rfl
end
section
variable {μ ν : Mu} {δ : Sl}
theorem five_ok {cs : List Cue} (S : Sheet cs) {w : Nat} (Sh : Sh4 w cs) (w4 : w ≤ 4) {ts : List Rat} {F : Ft} {f t : Rat} (hl : ts.length = cs.length) (h0 : 0 < ts.length) (T : Tm4 cs ts) (M : Mo4 F f t) {a : Nat} {c : Cue} (hc : cs[a]? = some c) {x : Rat} (hx : x = c.lo - Rat.divInt 1 7 ∨ x = c.hi + Rat.divInt 1 7) :
    (∀ y ∈ [((ts.set a (if c.p = -1 then x else x + rg ts c.p.toNat), f, t) : Tr), (ts.dropLast, f, t), (ts, t + Rat.divInt 1 2, t), (ts, ((-1 : Int) : Rat), t), (ts, f, f - Rat.divInt 1 3)], BadM cs F.nonB y) ∧ (F = .non → BadM cs F.nonB (ts, Rat.divInt 1 3, ((50 : Int) : Rat))) := by
  have cl := Sh.len
  have tb := tm_bz T (by omega)
  have fb : Bz 20 f := M.ftq.bz20 (by decide +kernel) (by decide)
  have tb' : Bz 20 t := M.ttq.bz20 (by decide +kernel) (by decide)
  have k := Sh.ok a c hc
  have al := (List.getElem?_eq_some_iff.mp hc).1
  have e7 : (Rat.divInt 1 7 : Rat) = 1 / 7 := by decide +kernel
  have e2 : (Rat.divInt 1 2 : Rat) = 1 / 2 := by decide +kernel
  have e3 : (Rat.divInt 1 3 : Rat) = 1 / 3 := by decide +kernel
  have xq : Tq 14 2100 x := by
    rcases hx with rfl | rfl
    · have := ((k.lo.up 7 (by decide)).add tq_r7.neg).mono (B := 2100) (by decide)
      rwa [← Rat.sub_eq_add_neg] at this
    · exact ((k.hi.up 7 (by decide)).add tq_r7).mono (by decide)
  have Xb : Bz 20 (if c.p = -1 then x else x + rg ts c.p.toNat) := by
    by_cases q : c.p = -1
    · rw [if_pos q]; exact xq.bz20 (by decide +kernel) (by decide)
    · rw [if_neg q]
      have p1 := k.p1
      have p2 := k.p2
      exact ((xq.up 4 (by decide)).add ((tm_tq T (by omega) (i := c.p.toNat) (by omega)).up 7 (by decide))).bz20 (by decide +kernel) (by decide)
  have t2 : Bz 20 (t + Rat.divInt 1 2) := (M.ttq.add (tq_div (s := 8) (A := 1) (x := 1) (y := 2) (by decide) (by decide) (by decide) (by decide))).bz20 (by decide +kernel) (by decide)
  have n3 : Tq 24 1 (Rat.divInt 1 3) := tq_div (by decide) (by decide) (by decide) (by decide)
  have f3 : Bz 20 (f - Rat.divInt 1 3) := by
    have := ((M.ftq.up 3 (by decide)).add n3.neg).bz20 (by decide +kernel) (by decide)
    rwa [← Rat.sub_eq_add_neg] at this
  have m1 : Bz 20 ((-1 : Int) : Rat) := (int_bz (by decide)).mono (by decide)
  have xo : x < c.lo ∨ c.hi < x := by
    rcases hx with rfl | rfl
    · left; rw [e7]; grind
    · right; rw [e7]; grind
  constructor
  · intro y hy
    simp only [List.mem_cons, List.not_mem_nil, or_false] at hy
    rcases hy with rfl | rfl | rfl | rfl | rfl
    · exact ⟨fun q hq => by
        rcases List.mem_or_eq_of_mem_set hq with h | h
        · exact tb q h
        · rw [h]; exact Xb, fb, tb', imV_t (late_bad Sh hl T hc xo)⟩
    · refine ⟨fun q hq => tb q ((List.dropLast_sublist _).subset hq), fb, tb', imV_t ?_⟩
      unfold tmV
      rw [decide_eq_false (by rw [List.length_dropLast]; omega)]; rfl
    · exact ⟨tb, t2, tb', imV_f (.inr (by show t < t + Rat.divInt 1 2; rw [e2]; grind))⟩
    · exact ⟨tb, m1, tb', imV_f (.inl (by show ((-1 : Int) : Rat) < 0; decide +kernel))⟩
    · exact ⟨tb, fb, f3, imV_f (.inr (by show f - Rat.divInt 1 3 < f; rw [e3]; grind))⟩
  · intro hF
    refine ⟨tb, n3.bz20 (by decide +kernel) (by decide), (tq_int (s := 1) (A := 50) (by decide) (by decide)).bz20 (by decide +kernel) (by decide), ?_⟩
    rw [hF]
    exact imV_n (by show Rat.divInt 1 3 ≠ 0; decide +kernel)
/-- from the four moments to the list of what is hurt -/
theorem late_ex {cs : List Cue} (S : Sheet cs) {w : Nat} (Sh : Sh4 w cs) (w4 : w ≤ 4) {ms : List Mc} {rules : P} {ts : List Rat} {F : Ft} {f t : Rat} (hl : ts.length = cs.length) (h0 : 0 < ts.length) (T : Tm4 cs ts) {s : SS} (hs : s.Ok) {c0 c4 c6 c7 c8 c9 : Option D} : ∃ (a : Nat) (c : Cue) (x : Rat) (s' : SS) (c14 c15 c16 : Option D), s'.Ok ∧ cs[a]? = some c ∧ (x = c.lo - Rat.divInt 1 7 ∨ x = c.hi + Rat.divInt 1 7) ∧
    t_law_4 [c0, some (.loc 0), some (.p (shwP (shR cs) ms rules)), some (.p F.r), c4, some (.p (momP ts f t)), c6, c7, c8, c9, none, none, none, none, none, none, none, none] [st s] = t_law_10 [c0, some (.loc 0), some (.p (shwP (shR cs) ms rules)), some (.p F.r), c4, some (.p (momP ts f t)), c6, some (.p (.int (a : Int))), c8, c9, some (.p (tsP ts)), some (.p (rat f)), some (.p (rat t)), some (.loc 1), c14, c15, c16, none] [st s', some (.lst ((ts.set a (if c.p = -1 then x else x + rg ts c.p.toNat)).map rat))] := by
  have cl := Sh.len
  obtain ⟨a, s1, o1, a1, e1⟩ := draw0n (n := ts.length) hs h0 (by omega)
  have hc : cs[a]? = some cs[a] := List.getElem?_eq_getElem (by omega)
  generalize cs[a] = c at hc
  have k := Sh.ok a c hc
  obtain ⟨y, s2, o2, y0, y2, e2⟩ := draw0 2 o1
  have lb : Bz 20 c.lo := k.lo.bz20 (by decide +kernel) (by decide)
  have hb : Bz 20 c.hi := k.hi.bz20 (by decide +kernel) (by decide)
  have sb : Bz 20 (Rat.divInt 1 7) := tq_r7.bz20 (by decide +kernel) (by decide)
  have q1 := fun κ : Mu => o_sub' (μ := κ) lb sb (by decide)
  have q2 := fun κ : Mu => o_add' (μ := κ) hb sb (by decide)
  obtain ⟨x, hx, ix⟩ : ∃ x : Rat, (x = c.lo - Rat.divInt 1 7 ∨ x = c.hi + Rat.divInt 1 7) ∧ ∀ κ : Mu, fIx (.p (.lst [rat (c.lo - Rat.divInt 1 7), rat (c.hi + Rat.divInt 1 7)])) (.p (.int y)) κ = some (.p (rat x), κ) := by
    have : y = 0 ∨ y = 1 := by omega
    rcases this with rfl | rfl
    · exact ⟨_, .inl rfl, fun _ => rfl⟩
    · exact ⟨_, .inr rfl, fun _ => rfl⟩
  have xb : Bz 40 x := by
    rcases hx with rfl | rfl
    · exact (lb.sub sb).mono (by decide)
    · exact (hb.add sb).mono (by decide)
  refine ⟨a, c, x, s2, some (.p (.int c.p)), some (.p (rat c.lo)), some (.p (rat c.hi)), o2, hc, hx, ?_⟩
  have a4 : asgEnd (tgT [10, 11, 12]) [c0, some (.loc 0), some (.p (shwP (shR cs) ms rules)), some (.p F.r), c4, some (.p (momP ts f t)), c6, c7, c8, c9, none, none, none, none, none, none, none, none] [st s] (.p (momP ts f t)) = some (.nx, [c0, some (.loc 0), some (.p (shwP (shR cs) ms rules)), some (.p F.r), c4, some (.p (momP ts f t)), c6, c7, c8, c9, some (.p (tsP ts)), some (.p (rat f)), some (.p (rat t)), none, none, none, none, none], [st s]) := rfl
  have l5 : fListC [.p (tsP ts)] [st s] = some (.loc 1, [st s, some (.lst (ts.map rat))]) := rfl
  have d6 := drL (δ := [c0, some (.loc 0), some (.p (shwP (shR cs) ms rules)), some (.p F.r), c4, some (.p (momP ts f t)), c6, c7, c8, c9, some (.p (tsP ts)), some (.p (rat f)), some (.p (rat t)), some (.loc 1), none, none, none, none]) (i := 1) (j := 13) (l := 1) (r := [some (.lst (ts.map rat))]) (xs := ts.map rat) (by simp) rfl e1 rfl rfl
  have i0 : fIx (.p (shwP (shR cs) ms rules)) (.p (.int 0)) [st s1, some (.lst (ts.map rat))] = some (.p (shR cs), [st s1, some (.lst (ts.map rat))]) := rfl
  have ia : fIx (.p (shR cs)) (.p (.int (a : Int))) [st s1, some (.lst (ts.map rat))] = some (.p c.r, [st s1, some (.lst (ts.map rat))]) := by
    unfold shR
    rw [fIx_tup, atI_nat (by rw [List.getElem?_map, hc]; rfl)]; rfl
  have a7 : asgEnd (tgT [14, 15, 16]) [c0, some (.loc 0), some (.p (shwP (shR cs) ms rules)), some (.p F.r), c4, some (.p (momP ts f t)), c6, some (.p (.int (a : Int))), c8, c9, some (.p (tsP ts)), some (.p (rat f)), some (.p (rat t)), some (.loc 1), none, none, none, none] [st s1, some (.lst (ts.map rat))] (.p c.r) = some (.nx, [c0, some (.loc 0), some (.p (shwP (shR cs) ms rules)), some (.p F.r), c4, some (.p (momP ts f t)), c6, some (.p (.int (a : Int))), c8, c9, some (.p (tsP ts)), some (.p (rat f)), some (.p (rat t)), some (.loc 1), some (.p (.int c.p)), some (.p (rat c.lo)), some (.p (rat c.hi)), none], [st s1, some (.lst (ts.map rat))]) := rfl
  generalize hδ : ([c0, some (.loc 0), some (.p (shwP (shR cs) ms rules)), some (.p F.r), c4, some (.p (momP ts f t)), c6, some (.p (.int (a : Int))), c8, c9, some (.p (tsP ts)), some (.p (rat f)), some (.p (rat t)), some (.loc 1), some (.p (.int c.p)), some (.p (rat c.lo)), some (.p (rat c.hi)), none] : Sl) = δ at a7 ⊢
  have v1 : δ[1]? = some (some (.loc 0)) := by rw [← hδ]; rfl
  have v7 : δ[7]? = some (some (.p (.int (a : Int)))) := by rw [← hδ]; rfl
  have v13 : δ[13]? = some (some (.loc 1)) := by rw [← hδ]; rfl
  have v14 : δ[14]? = some (some (.p (.int c.p))) := by rw [← hδ]; rfl
  have v15 : δ[15]? = some (some (.p (rat c.lo))) := by rw [← hδ]; rfl
  have v16 : δ[16]? = some (some (.p (rat c.hi))) := by rw [← hδ]; rfl
  have two : evLst (evCons (evBin (fOwn 0 m_Ratiou_subu) (evV 15) (evMake 0 2 m_Ratiou_initu [] (evCons (evC (.int 1)) (evCons (evC (.int 7)) evNil)))) (evCons (evBin (fOwn 0 m_Ratiou_addu) (evV 16) (evMake 0 2 m_Ratiou_initu [] (evCons (evC (.int 1)) (evCons (evC (.int 7)) evNil)))) evNil)) δ [st s1, some (.lst (ts.map rat))] = some (.ok (.p (.lst [rat (c.lo - Rat.divInt 1 7), rat (c.hi + Rat.divInt 1 7)])), [st s1, some (.lst (ts.map rat))]) := two_rats (by
    rw [evBin_eq, evV_at v15, bindG_ok, mkQ (by decide) (sz_lt 7 (by decide)), bindG_ok, q1, okm_some]) (by
    rw [evBin_eq, evV_at v16, bindG_ok, mkQ (by decide) (sz_lt 7 (by decide)), bindG_ok, q2, okm_some])
  have d8 := drI (i := 1) (δ := δ) (r := [some (.lst (ts.map rat))]) e2 v1
  have s8 : sSetIx (evV 13) (evV 7) (evBin fIx (evLst (evCons (evBin (fOwn 0 m_Ratiou_subu) (evV 15) (evMake 0 2 m_Ratiou_initu [] (evCons (evC (.int 1)) (evCons (evC (.int 7)) evNil)))) (evCons (evBin (fOwn 0 m_Ratiou_addu) (evV 16) (evMake 0 2 m_Ratiou_initu [] (evCons (evC (.int 1)) (evCons (evC (.int 7)) evNil)))) evNil))) (evCall m__law_draw [] (evCons (evV 1) (evCons (evC (.int 2)) evNil)))) δ [st s1, some (.lst (ts.map rat))] = some (.nx, δ, [st s2, some (.lst ((ts.set a x).map rat))]) := by
    have se := setIxEnd_l (δ := δ) (μ := [st s2, some (.lst (ts.map rat))]) (l := 1) (xs := ts.map rat) (k := (a : Int)) (n := a) (y := rat x) rfl (ixN_nat (by rw [List.length_map]; exact a1))
    rw [sSetIx_eq, evBin_eq, two, bindG_ok, d8, bindG_ok, ix, okm_some, bindS_ok, evV_at v13, bindS_ok, evV_at v7, bindS_ok, se, List.map_set]
    rfl
  have s9 : (sIf (evB (evBin fGe (evV 14) (evC (.int 0)))) (sSetIx (evV 13) (evV 7) (evBin (fOwn 0 m_Ratiou_addu) (evBin fIx (evV 13) (evV 7)) (evBin fIx (evV 13) (evV 14)))) sNil) δ [st s2, some (.lst ((ts.set a x).map rat))] = some (.nx, δ, [st s2, some (.lst ((ts.set a (if c.p = -1 then x else x + rg ts c.p.toNat)).map rat))]) := by
    have p1 := k.p1
    have p2 := k.p2
    rw [sIf_eq, evB_eq', evBin_eq, evV_at v14, bindG_ok, evC_eq, bindG_ok, ge_int, okm_some, bindG_ok, toB_bl, bindS_ok]
    by_cases q : c.p = -1
    · rw [if_neg (by simp; omega), sNil_eq, if_pos q]
    · have pn : c.p = ((c.p.toNat : Nat) : Int) := by omega
      have pl : c.p.toNat < ts.length := by omega
      have tb : Bz 20 (rg ts c.p.toNat) := (tm_tq T (by omega) pl).bz20 (by decide +kernel) (by decide)
      have i1 : fIx (.loc 1) (.p (.int (a : Int))) [st s2, some (.lst ((ts.set a x).map rat))] = some (.p (rat x), [st s2, some (.lst ((ts.set a x).map rat))]) := LsD.ix (.inr ⟨1, rfl, rfl⟩) (by
        rw [List.getElem?_map, List.getElem?_set_self a1]; rfl)
      have i2 : fIx (.loc 1) (.p (.int c.p)) [st s2, some (.lst ((ts.set a x).map rat))] = some (.p (rat (rg ts c.p.toNat)), [st s2, some (.lst ((ts.set a x).map rat))]) := by
        rw [pn]
        refine LsD.ix (.inr ⟨1, rfl, rfl⟩) ?_
        rw [← pn, List.getElem?_map, List.getElem?_set_ne (by omega), getD_ix (d := 0) pl]; rfl
      have ad := o_add' (μ := [st s2, some (.lst ((ts.set a x).map rat))]) xb tb (by decide)
      have se := setIxEnd_l (δ := δ) (μ := [st s2, some (.lst ((ts.set a x).map rat))]) (l := 1) (xs := (ts.set a x).map rat) (k := (a : Int)) (n := a) (y := rat (x + rg ts c.p.toNat)) rfl (ixN_nat (by rw [List.length_map, List.length_set]; exact a1))
      rw [if_pos (by simp; omega), sSetIx_eq, evBin_eq, evBin_eq, evV_at v13, bindG_ok, evV_at v7, bindG_ok, i1, okm_some, bindG_ok, evBin_eq, evV_at v13, bindG_ok, evV_at v14, bindG_ok, i2, okm_some, bindG_ok, ad, okm_some, bindS_ok, evV_at v13, bindS_ok, evV_at v7, bindS_ok, se, if_neg q, List.map_set, List.map_set, List.set_set]
      rfl
  unfold t_law_4 p_law_4
  rw [seqS_eq, sAsgT_eq, evV_5, bindS_ok, a4, andThen_nx]
  unfold t_law_5 p_law_5
  rw [seqS_eq, sSet_eq, evBI_eq, evCons_eq, evV_10, bindG_ok, evNil_eq, bindG_ok, bindG_ok, l5, okm_some, bindS_ok, andThen_nx]
  simp only [List.set_cons_succ, List.set_cons_zero]
  unfold t_law_6 p_law_6
  rw [seqS_eq, sSet_eq, d6, bindS_ok, andThen_nx]
  simp only [List.set_cons_succ, List.set_cons_zero]
  unfold t_law_7 p_law_7
  rw [seqS_eq, sAsgT_eq, evBin_eq, evBin_eq, evV_2, bindG_ok, evC_eq, bindG_ok, i0, okm_some, bindG_ok, evV_7, bindG_ok, ia, okm_some, bindS_ok, a7, andThen_nx]
  unfold t_law_8 p_law_8
  rw [seqS_eq, s8, andThen_nx]
  unfold t_law_9 p_law_9
  rw [seqS_eq, s9, andThen_nx]
/-- the list of what is hurt, and the end -/
theorem bad_end {cs : List Cue} (S : Sheet cs) {w : Nat} (Sh : Sh4 w cs) (w4 : w ≤ 4) {ms : List Mc} {rules : P} {ts us : List Rat} {F : Ft} {f t : Rat} (h0 : 0 < ts.length) (hl : ts.length ≤ 8) (M : Mo4 F f t)
    (h5 : ∀ y ∈ [((us, f, t) : Tr), (ts.dropLast, f, t), (ts, t + Rat.divInt 1 2, t), (ts, ((-1 : Int) : Rat), t), (ts, f, f - Rat.divInt 1 3)], BadM cs F.nonB y) (h6 : F = .non → BadM cs F.nonB (ts, Rat.divInt 1 3, ((50 : Int) : Rat))) {s : SS} (hs : s.Ok) {c0 c4 c6 c7 c8 c9 c14 c15 c16 : Option D} :
    retF 0 (t_law_10 [c0, some (.loc 0), some (.p (shwP (shR cs) ms rules)), some (.p F.r), c4, some (.p (momP ts f t)), c6, c7, c8, c9, some (.p (tsP ts)), some (.p (rat f)), some (.p (rat t)), some (.loc 1), c14, c15, c16, none] [st s, some (.lst (us.map rat))]) = some (.ok (.p (.bl true)), []) := by
  have fb : Bz 20 f := M.ftq.bz20 (by decide +kernel) (by decide)
  have tb : Bz 20 t := M.ttq.bz20 (by decide +kernel) (by decide)
  have qb2 : Bz 20 (Rat.divInt 1 2) := (tq_div (s := 8) (A := 1) (x := 1) (y := 2) (by decide) (by decide) (by decide) (by decide)).bz20 (by decide +kernel) (by decide)
  have qb3 : Bz 20 (Rat.divInt 1 3) := (tq_div (s := 24) (A := 1) (x := 1) (y := 3) (by decide) (by decide) (by decide) (by decide)).bz20 (by decide +kernel) (by decide)
  have o2 := fun κ : Mu => o_add' (μ := κ) tb qb2 (by decide)
  have o3 := fun κ : Mu => o_sub' (μ := κ) fb qb3 (by decide)
  obtain ⟨ini, lst, rfl⟩ : ∃ ini lst, ts = ini ++ [lst] := by
    rcases List.eq_nil_or_concat ts with h | ⟨ini, lst, h⟩
    · rw [h] at h0; simp at h0
    · exact ⟨ini, lst, by rw [h, List.concat_eq_append]⟩
  rw [List.dropLast_concat] at h5
  generalize hts : ini ++ [lst] = ts at *
  generalize hδ : ([c0, some (.loc 0), some (.p (shwP (shR cs) ms rules)), some (.p F.r), c4, some (.p (momP ts f t)), c6, c7, c8, c9, some (.p (tsP ts)), some (.p (rat f)), some (.p (rat t)), some (.loc 1), c14, c15, c16, none] : Sl) = δ
  have v10 : δ[10]? = some (some (.p (tsP ts))) := by rw [← hδ]; rfl
  have v11 : δ[11]? = some (some (.p (rat f))) := by rw [← hδ]; rfl
  have v12 : δ[12]? = some (some (.p (rat t))) := by rw [← hδ]; rfl
  have v13 : δ[13]? = some (some (.loc 1)) := by rw [← hδ]; rfl
  have tp : toPs [st s, some (.lst (us.map rat))] [.loc 1, .p (rat f), .p (rat t)] = some ([tsP us, rat f, rat t], [st s, none]) := rfl
  have t1 : evTup (evCons (evV 13) (evCons (evV 11) (evCons (evV 12) evNil))) δ [st s, some (.lst (us.map rat))] = some (.ok (.p (Tr.r (us, f, t))), [st s, none]) := by
    rw [evTup_eq, evCons_eq, evV_at v13, bindG_ok, evCons_eq, evV_at v11, bindG_ok, evCons_eq, evV_at v12, bindG_ok, evNil_eq, bindG_ok, bindG_ok, bindG_ok, bindG_ok, tp, tup3]
    rfl
  have ng : fNeg (.p (.int 1)) [st s, none] = some (.p (.int (-1)), [st s, none]) := rfl
  have sl : evSl (evV 10) evNoP (evPt (evUn fNeg (evC (.int 1)))) δ [st s, none] = some (.ok (.p (tsP ini)), [st s, none]) := by
    rw [evSl_eq, evV_at v10, bindG_ok, evNoP_eq, bindG_ok, evPt_eq, evUn_eq, evC_eq, bindG_ok, ng, okm_some, bindG_ok, ptEnd_int, bindG_ok]
    have : lstOf [st s, none] (.p (tsP ts)) = some (ini.map rat ++ [rat lst]) := by rw [← hts]; unfold tsP; rw [lstOf_lst, List.map_append]; rfl
    rw [this, slEnd_some, cut_last]
    rfl
  have t3 : ∀ (e1 e2 e3 : Ev) (x y z : P), e1 δ [st s, none] = some (.ok (.p x), [st s, none]) → e2 δ [st s, none] = some (.ok (.p y), [st s, none]) → e3 δ [st s, none] = some (.ok (.p z), [st s, none]) → evTup (evCons e1 (evCons e2 (evCons e3 evNil))) δ [st s, none] = some (.ok (.p (.tup [x, y, z])), [st s, none]) := fun e1 e2 e3 x y z h1 h2 h3 => by
    rw [evTup_eq, evCons_eq, h1, bindG_ok, evCons_eq, h2, bindG_ok, evCons_eq, h3, bindG_ok, evNil_eq, bindG_ok, bindG_ok, bindG_ok, bindG_ok, toPs_cons, toPs_cons, toPs_cons, toPs_nil, consP_some, consP_some, consP_some, tup3]
  have m12 : evBin (fOwn 0 m_Ratiou_addu) (evV 12) (evMake 0 2 m_Ratiou_initu [] (evCons (evC (.int 1)) (evCons (evC (.int 2)) evNil))) δ [st s, none] = some (.ok (.p (rat (t + Rat.divInt 1 2))), [st s, none]) := by
    rw [evBin_eq, evV_at v12, bindG_ok, mkQ (by decide) (sz_lt 7 (by decide)), bindG_ok, o2, okm_some]
  have mn1 : evMake 0 2 m_Ratiou_initu [.int 1] (evCons (evUn fNeg (evC (.int 1))) evNil) δ [st s, none] = some (.ok (.p (rat ((-1 : Int) : Rat))), [st s, none]) := mkI (by rw [evCons_eq, evUn_eq, evC_eq, bindG_ok, ng, okm_some, bindG_ok, evNil_eq, bindG_ok])
  have L10 : evLstC (evCons (evTup (evCons (evV 13) (evCons (evV 11) (evCons (evV 12) evNil)))) (evCons (evTup (evCons (evSl (evV 10) evNoP (evPt (evUn fNeg (evC (.int 1))))) (evCons (evV 11) (evCons (evV 12) evNil)))) (evCons (evTup (evCons (evV 10) (evCons (evBin (fOwn 0 m_Ratiou_addu) (evV 12) (evMake 0 2 m_Ratiou_initu [] (evCons (evC (.int 1)) (evCons (evC (.int 2)) evNil)))) (evCons (evV 12) evNil)))) (evCons (evTup (evCons (evV 10) (evCons (evMake 0 2 m_Ratiou_initu [.int 1] (evCons (evUn fNeg (evC (.int 1))) evNil)) (evCons (evV 12) evNil)))) evNil)))) δ [st s, some (.lst (us.map rat))] = some (.ok (.loc 2), [st s, none, some (.lst ([((us, f, t) : Tr), (ini, f, t), (ts, t + Rat.divInt 1 2, t), (ts, ((-1 : Int) : Rat), t)].map Tr.r))]) := by
    rw [evLstC_eq, evCons_eq, t1, bindG_ok, evCons_eq, t3 _ _ _ _ _ _ sl (evV_at v11) (evV_at v12), bindG_ok, evCons_eq, t3 _ _ _ _ _ _ (evV_at v10) m12 (evV_at v12), bindG_ok, evCons_eq, t3 _ _ _ _ _ _ (evV_at v10) mn1 (evV_at v12), bindG_ok, evNil_eq, bindG_ok, bindG_ok, bindG_ok, bindG_ok, bindG_ok, toPs_cons, toPs_cons, toPs_cons, toPs_cons, toPs_nil, consP_some, consP_some, consP_some, consP_some, lstEndC_some, if_pos (Nat.le_of_lt (line_k (by simp)))]
    rfl
  have ap : ∀ (L : List Tr) (y : Tr), L.length ≤ 9 → fApp (.loc 2) [.p y.r] [st s, none, some (.lst (L.map Tr.r))] = some (.p .non, [st s, none, some (.lst ((L ++ [y]).map Tr.r))]) := fun L y hL => by
    rw [fApp_l (μ := [st s, none, some (.lst (L.map Tr.r))]) (l := 2) (xs := L.map Tr.r) rfl (line_k (by rw [List.length_map]; omega)), List.map_append]
    rfl
  have isl : ∀ L : List Tr, isLst [st s, none, some (.lst (L.map Tr.r))] (.loc 2) = true := fun L => isl_at rfl
  have L9 : ∀ (L : List Tr) (a b c d e g : Option D), L.length ≤ 9 → True := fun _ _ _ _ _ _ _ _ => trivial
  unfold t_law_10 p_law_10
  rw [seqS_eq, sSet_eq, L10, bindS_ok, andThen_nx, ← hδ]
  simp only [List.set_cons_succ, List.set_cons_zero]
  have t5 : ∀ κ : Mu, evTup (evCons (evV 10) (evCons (evV 11) (evCons (evBin (fOwn 0 m_Ratiou_subu) (evV 11) (evMake 0 2 m_Ratiou_initu [] (evCons (evC (.int 1)) (evCons (evC (.int 3)) evNil)))) evNil))) [c0, some (.loc 0), some (.p (shwP (shR cs) ms rules)), some (.p F.r), c4, some (.p (momP ts f t)), c6, c7, c8, c9, some (.p (tsP ts)), some (.p (rat f)), some (.p (rat t)), some (.loc 1), c14, c15, c16, some (.loc 2)] κ = some (.ok (.p (Tr.r (ts, f, f - Rat.divInt 1 3))), κ) := fun κ => by
    rw [evTup_eq, evCons_eq, evV_10, bindG_ok, evCons_eq, evV_11, bindG_ok, evCons_eq, evBin_eq, evV_11, bindG_ok, mkQ (by decide) (sz_lt 7 (by decide)), bindG_ok, o3, okm_some, bindG_ok, evNil_eq, bindG_ok, bindG_ok, bindG_ok, bindG_ok, toPs_cons, toPs_cons, toPs_cons, toPs_nil, consP_some, consP_some, consP_some, tup3]
    rfl
  have t6 : ∀ κ : Mu, evTup (evCons (evV 10) (evCons (evMake 0 2 m_Ratiou_initu [] (evCons (evC (.int 1)) (evCons (evC (.int 3)) evNil))) (evCons (evMake 0 2 m_Ratiou_initu [.int 1] (evCons (evC (.int 50)) evNil)) evNil))) [c0, some (.loc 0), some (.p (shwP (shR cs) ms rules)), some (.p F.r), c4, some (.p (momP ts f t)), c6, c7, c8, c9, some (.p (tsP ts)), some (.p (rat f)), some (.p (rat t)), some (.loc 1), c14, c15, c16, some (.loc 2)] κ = some (.ok (.p (Tr.r (ts, Rat.divInt 1 3, ((50 : Int) : Rat)))), κ) := fun κ => by
    rw [evTup_eq, evCons_eq, evV_10, bindG_ok, evCons_eq, mkQ (by decide) (sz_lt 7 (by decide)), bindG_ok, evCons_eq, mkC, bindG_ok, evNil_eq, bindG_ok, bindG_ok, bindG_ok, bindG_ok, toPs_cons, toPs_cons, toPs_cons, toPs_nil, consP_some, consP_some, consP_some, tup3]
    rfl
  unfold t_law_11 p_law_11
  rw [seqS_eq, sExpr_eq, evBM_eq, evV_17, bindG_ok, if_pos (isl _), evCons_eq, t5, bindG_ok, evNil_eq, bindG_ok, bindG_ok, ap _ _ (by simp), okm_some, bindS_ok, andThen_nx]
  obtain ⟨z, fz, fd⟩ := fault0 F
  have fd : decide (z = "none") = F.nonB := by cases F <;> exact fd
  unfold t_law_12 p_law_12
  rw [seqS_eq, sIf_eq, evB_eq', evBin_eq, evBin_eq, evV_3, bindG_ok, evC_eq, bindG_ok, fz, okm_some, bindG_ok, evC_eq, bindG_ok, eqS, okm_some, bindG_ok, toB_bl, bindS_ok, fd]
  by_cases q : F.nonB = true
  · have hF : F = .non := by cases F <;> first | rfl | cases q
    rw [if_pos q, sExpr_eq, evBM_eq, evV_17, bindG_ok, if_pos (isl _), evCons_eq, t6, bindG_ok, evNil_eq, bindG_ok, bindG_ok, ap _ _ (by simp), okm_some, bindS_ok, andThen_nx]
    refine end_ok (w := w) S hs (by simp) (by simp) fun y hy => ?_
    rcases List.mem_append.mp hy with h | h
    · exact h5 y h
    · simp at h; rw [h]; exact h6 hF
  · rw [if_neg q, sNil_eq, andThen_nx]
    exact end_ok (w := w) S hs (by simp) (by simp) h5
theorem ev_law {ns : List Int} : m_law [.p (.wl (ns.map .int))] [] = some (.ok (.p (.bl true)), []) := by
  have e0 : m__law_stream [.p (.wl (ns.map .int))] [] = some (.ok (.loc 0), [st (start0 ns)]) := ev_stream
  obtain ⟨x, s1, o1, x3, e1⟩ := draw0n (n := 3) (start0_ok ns) (by decide) (by decide)
  obtain ⟨y, s2, o2, y2, e2⟩ := draw0n (n := 2) o1 (by decide) (by decide)
  obtain ⟨cs, ms, rls, s3, o3, Sh, So, e3⟩ := show_ex (w := 1 + x) (mv := 1 + y) (by omega) (by omega) (by omega) o2 []
  obtain ⟨z, s4, o4', z0, z3, e4⟩ := draw0 3 o3
  obtain ⟨F, s5, o5, hF, e5⟩ := sfault_ex (sheet := shR cs) (rules := .tup (rls.map Rl.r)) (ms := ms) (by have := So.m2; omega) So.m4 o4' z
  obtain ⟨ts, f, t, s6, o6, hl, T, M, e6⟩ := mo_loop Sh (by omega) (by omega) So hF 3 0 s5 o5
  obtain ⟨c4, c6, c7, c8, c9, e6⟩ := e6 [] (some (.p (.wl (ns.map .int)))) none none none none none none none none none none none none none none none none none
  have cl := Sh.len
  have S := Sh.sheet (by omega) (by omega)
  obtain ⟨a, c, x', s7, c14, c15, c16, o7, hc, hx, e7⟩ := late_ex (ms := ms) (rules := .tup (rls.map Rl.r)) (F := F) (f := f) (t := t) (c0 := some (.p (.wl (ns.map .int)))) (c4 := c4) (c6 := c6) (c7 := c7) (c8 := c8) (c9 := c9) S Sh (by omega) hl (by omega) T o6
  obtain ⟨h5, h6⟩ := five_ok S Sh (by omega) hl (by omega) T M hc hx
  have e8 := bad_end (ms := ms) (rules := .tup (rls.map Rl.r)) (c0 := some (.p (.wl (ns.map .int)))) (c4 := c4) (c6 := c6) (c7 := some (.p (.int (a : Int)))) (c8 := c8) (c9 := c9) (c14 := c14) (c15 := c15) (c16 := c16) S Sh (by omega) (by omega) (by omega) M h5 h6 o7
  have r4 : evRng1 (evC (.int 4)) [some (.p (.wl (ns.map .int))), some (.loc 0), some (.p (shwP (shR cs) ms (.tup (rls.map Rl.r)))), some (.p F.r), none, none, none, none, none, none, none, none, none, none, none, none, none, none] [st s5] = some (.ok (intsP 0 (3 + 1)), [st s5]) := rng_n 4 rfl (by decide)
  have d1 : evBin fAdd (evC (.int 1)) (evCall m__law_draw [] (evCons (evV 1) (evCons (evC (.int 3)) evNil))) [some (.p (.wl (ns.map .int))), some (.loc 0), none, none, none, none, none, none, none, none, none, none, none, none, none, none, none, none] [st (start0 ns)] = some (.ok (.p (.int ((1 + x : Nat) : Int))), [st s1]) := by
    have := drI1 (i := 1) (δ := [some (.p (.wl (ns.map .int))), some (.loc 0), none, none, none, none, none, none, none, none, none, none, none, none, none, none, none, none]) (r := []) e1 rfl
    rw [show ((1 + x : Nat) : Int) = 1 + (x : Int) by omega]
    exact this
  have d2 : evBin fAdd (evC (.int 1)) (evCall m__law_draw [] (evCons (evV 1) (evCons (evC (.int 2)) evNil))) [some (.p (.wl (ns.map .int))), some (.loc 0), none, none, none, none, none, none, none, none, none, none, none, none, none, none, none, none] [st s1] = some (.ok (.p (.int ((1 + y : Nat) : Int))), [st s2]) := by
    have := drI1 (i := 1) (δ := [some (.p (.wl (ns.map .int))), some (.loc 0), none, none, none, none, none, none, none, none, none, none, none, none, none, none, none, none]) (r := []) e2 rfl
    rw [show ((1 + y : Nat) : Int) = 1 + (y : Int) by omega]
    exact this
  have d4 := drI (i := 1) (δ := [some (.p (.wl (ns.map .int))), some (.loc 0), some (.p (shwP (shR cs) ms (.tup (rls.map Rl.r)))), none, none, none, none, none, none, none, none, none, none, none, none, none, none, none]) (r := []) e4 rfl
  unfold lb_law_2 at e6
  unfold m_law
  rw [arF1]
  show retF 0 (t_law_0 [some (.p (.wl (ns.map .int))), none, none, none, none, none, none, none, none, none, none, none, none, none, none, none, none, none] []) = _
  unfold t_law_0 p_law_0
  rw [seqS_eq, sSet_eq, evCall_eq, evCons_eq, evV_0, bindG_ok, evNil_eq, bindG_ok, bindG_ok, List.map_nil, List.append_nil, e0, bindS_ok, andThen_nx]
  simp only [List.set_cons_succ, List.set_cons_zero]
  unfold t_law_1 p_law_1
  rw [seqS_eq, sSet_eq, evCall_eq, evCons_eq, evV_1, bindG_ok, evCons_eq, d1, bindG_ok, evCons_eq, d2, bindG_ok, evNil_eq, bindG_ok, bindG_ok, bindG_ok, bindG_ok, List.map_nil, List.append_nil, e3, bindS_ok, andThen_nx]
  simp only [List.set_cons_succ, List.set_cons_zero]
  unfold t_law_2 p_law_2
  rw [seqS_eq, sSet_eq, evCall_eq, evCons_eq, evV_1, bindG_ok, evCons_eq, evV_2, bindG_ok, evCons_eq, d4, bindG_ok, evNil_eq, bindG_ok, bindG_ok, bindG_ok, bindG_ok, List.map_nil, List.append_nil, e5, bindS_ok, andThen_nx]
  simp only [List.set_cons_succ, List.set_cons_zero]
  unfold t_law_3 p_law_3
  rw [seqS_eq, sFor_eq, r4, bindS_ok, e6, andThen_nx, e7]
  exact e8
end
end Vs
namespace Vs
open PySem PySem.Spec PyProof.Rows L2
theorem all_mk {l : PySem.W.OpenLaw} {w : World} {K : PySem.W.Frag} {h : Heap} {mg : Str → Option Value} {fa : Addr} (X : K.In h) (G : h.Ns mainGlobals mg) (hfa : mg "law" = some (.ref fa)) {C0 C1 f_Ratiou_initu T_Ratiou_initu f_Ratiou_addu f_Ratiou_subu f_Ratiou_mulu f_Ratiou_negu f_Ratiou_equ f__law_stream f__law_draw f__law_slength f__law_ssheet f__law_sless f__law_sbounds f__law_sover f__law_smove f__law_snumber f__law_weigh f__law_zone f__law_fits f__law_show f__law_sfault f__law_stimes f__law_smoment f_is_less f_is_timing f_is_moment f__reached f_pieces f_speed f_quotient f_way f_position f__size f_stopped f__braked f__undisturbed f_place f_is_kept f__law_sstate f__law_moving f__law_braked f__law_place f__law_weighed f__law_kept f_law : Addr} {od_Ratiou_initu an_Ratiou_initu od_Ratiou_addu an_Ratiou_addu od_Ratiou_subu an_Ratiou_subu od_Ratiou_mulu an_Ratiou_mulu od_Ratiou_negu an_Ratiou_negu od_Ratiou_equ an_Ratiou_equ od__law_stream an__law_stream od__law_draw an__law_draw od__law_slength an__law_slength od__law_ssheet an__law_ssheet od__law_sless an__law_sless od__law_sbounds an__law_sbounds od__law_sover an__law_sover od__law_smove an__law_smove od__law_snumber an__law_snumber od__law_weigh an__law_weigh od__law_zone an__law_zone od__law_fits an__law_fits od__law_show an__law_show od__law_sfault an__law_sfault od__law_stimes an__law_stimes od__law_smoment an__law_smoment od_is_less an_is_less od_is_timing an_is_timing od_is_moment an_is_moment od__reached an__reached od_pieces an_pieces od_speed an_speed od_quotient an_quotient od_way an_way od_position an_position od__size an__size od_stopped an_stopped od__braked an__braked od__undisturbed an__undisturbed od_place an_place od_is_kept an_is_kept od__law_sstate an__law_sstate od__law_moving an__law_moving od__law_braked an__law_braked od__law_place an__law_place od__law_weighed an__law_weighed od__law_kept an__law_kept od_law an_law : Option Addr} {sl_Ratiou_initu sl_Ratiou_addu sl_Ratiou_subu sl_Ratiou_mulu sl_Ratiou_negu sl_Ratiou_equ sl__law_stream sl__law_draw sl__law_slength sl__law_ssheet sl__law_sless sl__law_sbounds sl__law_sover sl__law_smove sl__law_snumber sl__law_weigh sl__law_zone sl__law_fits sl__law_show sl__law_sfault sl__law_stimes sl__law_smoment sl_is_less sl_is_timing sl_is_moment sl__reached sl_pieces sl_speed sl_quotient sl_way sl_position sl__size sl_stopped sl__braked sl__undisturbed sl_place sl_is_kept sl__law_sstate sl__law_moving sl__law_braked sl__law_place sl__law_weighed sl__law_kept sl_law : Array (Option Value)} {oc_Ratiou_initu kV_Ratiou_initu dc_Ratiou_initu pm_Ratiou_initu cd_Ratiou_initu ct_Ratiou_initu oc_Ratiou_addu kV_Ratiou_addu dc_Ratiou_addu pm_Ratiou_addu cd_Ratiou_addu ct_Ratiou_addu oc_Ratiou_subu kV_Ratiou_subu dc_Ratiou_subu pm_Ratiou_subu cd_Ratiou_subu ct_Ratiou_subu oc_Ratiou_mulu kV_Ratiou_mulu dc_Ratiou_mulu pm_Ratiou_mulu cd_Ratiou_mulu ct_Ratiou_mulu oc_Ratiou_negu kV_Ratiou_negu dc_Ratiou_negu pm_Ratiou_negu cd_Ratiou_negu ct_Ratiou_negu oc_Ratiou_equ kV_Ratiou_equ dc_Ratiou_equ pm_Ratiou_equ cd_Ratiou_equ ct_Ratiou_equ oc__law_stream kV__law_stream dc__law_stream pm__law_stream cd__law_stream ct__law_stream oc__law_draw kV__law_draw dc__law_draw pm__law_draw cd__law_draw ct__law_draw oc__law_slength kV__law_slength dc__law_slength pm__law_slength cd__law_slength ct__law_slength oc__law_ssheet kV__law_ssheet dc__law_ssheet pm__law_ssheet cd__law_ssheet ct__law_ssheet oc__law_sless kV__law_sless dc__law_sless pm__law_sless cd__law_sless ct__law_sless oc__law_sbounds kV__law_sbounds dc__law_sbounds pm__law_sbounds cd__law_sbounds ct__law_sbounds oc__law_sover kV__law_sover dc__law_sover pm__law_sover cd__law_sover ct__law_sover oc__law_smove kV__law_smove dc__law_smove pm__law_smove cd__law_smove ct__law_smove oc__law_snumber kV__law_snumber dc__law_snumber pm__law_snumber cd__law_snumber ct__law_snumber oc__law_weigh kV__law_weigh dc__law_weigh pm__law_weigh cd__law_weigh ct__law_weigh oc__law_zone kV__law_zone dc__law_zone pm__law_zone cd__law_zone ct__law_zone oc__law_fits kV__law_fits dc__law_fits pm__law_fits cd__law_fits ct__law_fits oc__law_show kV__law_show dc__law_show pm__law_show cd__law_show ct__law_show oc__law_sfault kV__law_sfault dc__law_sfault pm__law_sfault cd__law_sfault ct__law_sfault oc__law_stimes kV__law_stimes dc__law_stimes pm__law_stimes cd__law_stimes ct__law_stimes oc__law_smoment kV__law_smoment dc__law_smoment pm__law_smoment cd__law_smoment ct__law_smoment oc_is_less kV_is_less dc_is_less pm_is_less cd_is_less ct_is_less oc_is_timing kV_is_timing dc_is_timing pm_is_timing cd_is_timing ct_is_timing oc_is_moment kV_is_moment dc_is_moment pm_is_moment cd_is_moment ct_is_moment oc__reached kV__reached dc__reached pm__reached cd__reached ct__reached oc_pieces kV_pieces dc_pieces pm_pieces cd_pieces ct_pieces oc_speed kV_speed dc_speed pm_speed cd_speed ct_speed oc_quotient kV_quotient dc_quotient pm_quotient cd_quotient ct_quotient oc_way kV_way dc_way pm_way cd_way ct_way oc_position kV_position dc_position pm_position cd_position ct_position oc__size kV__size dc__size pm__size cd__size ct__size oc_stopped kV_stopped dc_stopped pm_stopped cd_stopped ct_stopped oc__braked kV__braked dc__braked pm__braked cd__braked ct__braked oc__undisturbed kV__undisturbed dc__undisturbed pm__undisturbed cd__undisturbed ct__undisturbed oc_place kV_place dc_place pm_place cd_place ct_place oc_is_kept kV_is_kept dc_is_kept pm_is_kept cd_is_kept ct_is_kept oc__law_sstate kV__law_sstate dc__law_sstate pm__law_sstate cd__law_sstate ct__law_sstate oc__law_moving kV__law_moving dc__law_moving pm__law_moving cd__law_moving ct__law_moving oc__law_braked kV__law_braked dc__law_braked pm__law_braked cd__law_braked ct__law_braked oc__law_place kV__law_place dc__law_place pm__law_place cd__law_place ct__law_place oc__law_weighed kV__law_weighed dc__law_weighed pm__law_weighed cd__law_weighed ct__law_weighed oc__law_kept kV__law_kept dc__law_kept pm__law_kept cd__law_kept ct__law_kept oc_law kV_law dc_law pm_law cd_law ct_law : Value} {tc_Ratiou_initu : Value} {td_Ratiou_initu : Option Addr} {tt_Ratiou_initu : Tok} {tn_Ratiou_initu : Nat} {ts_Ratiou_initu : Array (Option Value)}
    (aC0 : PySem.W.nsIn K mainGlobals "Ratio" = some (some (.ref C0)))
    (aC1 : PySem.W.nsIn K mainGlobals "ByZero" = some (some (.ref C1)))
    (a_Ratiou_initu : PySem.W.findIn K (.ref C0) "__init__" = some (some (.ref f_Ratiou_initu)))
    (i_Ratiou_initu : PySem.W.isFn K (.ref f_Ratiou_initu) = true)
    (l_Ratiou_initu : K.lookup f_Ratiou_initu = some ⟨oc_Ratiou_initu, od_Ratiou_initu, .func (PySem.W.fnOf "__init__" "Ratio.__init__" (defArgs s_Ratiou_initu) (defBody s_Ratiou_initu) (defScope s_Ratiou_initu) (.ref T_Ratiou_initu) kV_Ratiou_initu dc_Ratiou_initu pm_Ratiou_initu an_Ratiou_initu cd_Ratiou_initu ct_Ratiou_initu), sl_Ratiou_initu⟩)
    (c_Ratiou_initu : PySem.W.codeIn K cd_Ratiou_initu "Ratio.__init__" = true)
    (k_Ratiou_initu : PySem.W.keepIn K (.ref f_Ratiou_initu) = true)
    (lt_Ratiou_initu : K.lookup T_Ratiou_initu = some ⟨tc_Ratiou_initu, td_Ratiou_initu, .seq [Value.int 1 tt_Ratiou_initu].toArray tn_Ratiou_initu, ts_Ratiou_initu⟩)
    (a_Ratiou_addu : PySem.W.findIn K (.ref C0) "__add__" = some (some (.ref f_Ratiou_addu)))
    (i_Ratiou_addu : PySem.W.isFn K (.ref f_Ratiou_addu) = true)
    (l_Ratiou_addu : K.lookup f_Ratiou_addu = some ⟨oc_Ratiou_addu, od_Ratiou_addu, .func (PySem.W.fnOf "__add__" "Ratio.__add__" (defArgs s_Ratiou_addu) (defBody s_Ratiou_addu) (defScope s_Ratiou_addu) .none kV_Ratiou_addu dc_Ratiou_addu pm_Ratiou_addu an_Ratiou_addu cd_Ratiou_addu ct_Ratiou_addu), sl_Ratiou_addu⟩)
    (c_Ratiou_addu : PySem.W.codeIn K cd_Ratiou_addu "Ratio.__add__" = true)
    (k_Ratiou_addu : PySem.W.keepIn K (.ref f_Ratiou_addu) = true)
    (a_Ratiou_subu : PySem.W.findIn K (.ref C0) "__sub__" = some (some (.ref f_Ratiou_subu)))
    (i_Ratiou_subu : PySem.W.isFn K (.ref f_Ratiou_subu) = true)
    (l_Ratiou_subu : K.lookup f_Ratiou_subu = some ⟨oc_Ratiou_subu, od_Ratiou_subu, .func (PySem.W.fnOf "__sub__" "Ratio.__sub__" (defArgs s_Ratiou_subu) (defBody s_Ratiou_subu) (defScope s_Ratiou_subu) .none kV_Ratiou_subu dc_Ratiou_subu pm_Ratiou_subu an_Ratiou_subu cd_Ratiou_subu ct_Ratiou_subu), sl_Ratiou_subu⟩)
    (c_Ratiou_subu : PySem.W.codeIn K cd_Ratiou_subu "Ratio.__sub__" = true)
    (k_Ratiou_subu : PySem.W.keepIn K (.ref f_Ratiou_subu) = true)
    (a_Ratiou_mulu : PySem.W.findIn K (.ref C0) "__mul__" = some (some (.ref f_Ratiou_mulu)))
    (i_Ratiou_mulu : PySem.W.isFn K (.ref f_Ratiou_mulu) = true)
    (l_Ratiou_mulu : K.lookup f_Ratiou_mulu = some ⟨oc_Ratiou_mulu, od_Ratiou_mulu, .func (PySem.W.fnOf "__mul__" "Ratio.__mul__" (defArgs s_Ratiou_mulu) (defBody s_Ratiou_mulu) (defScope s_Ratiou_mulu) .none kV_Ratiou_mulu dc_Ratiou_mulu pm_Ratiou_mulu an_Ratiou_mulu cd_Ratiou_mulu ct_Ratiou_mulu), sl_Ratiou_mulu⟩)
    (c_Ratiou_mulu : PySem.W.codeIn K cd_Ratiou_mulu "Ratio.__mul__" = true)
    (k_Ratiou_mulu : PySem.W.keepIn K (.ref f_Ratiou_mulu) = true)
    (a_Ratiou_negu : PySem.W.findIn K (.ref C0) "__neg__" = some (some (.ref f_Ratiou_negu)))
    (i_Ratiou_negu : PySem.W.isFn K (.ref f_Ratiou_negu) = true)
    (l_Ratiou_negu : K.lookup f_Ratiou_negu = some ⟨oc_Ratiou_negu, od_Ratiou_negu, .func (PySem.W.fnOf "__neg__" "Ratio.__neg__" (defArgs s_Ratiou_negu) (defBody s_Ratiou_negu) (defScope s_Ratiou_negu) .none kV_Ratiou_negu dc_Ratiou_negu pm_Ratiou_negu an_Ratiou_negu cd_Ratiou_negu ct_Ratiou_negu), sl_Ratiou_negu⟩)
    (c_Ratiou_negu : PySem.W.codeIn K cd_Ratiou_negu "Ratio.__neg__" = true)
    (k_Ratiou_negu : PySem.W.keepIn K (.ref f_Ratiou_negu) = true)
    (a_Ratiou_equ : PySem.W.findIn K (.ref C0) "__eq__" = some (some (.ref f_Ratiou_equ)))
    (i_Ratiou_equ : PySem.W.isFn K (.ref f_Ratiou_equ) = true)
    (l_Ratiou_equ : K.lookup f_Ratiou_equ = some ⟨oc_Ratiou_equ, od_Ratiou_equ, .func (PySem.W.fnOf "__eq__" "Ratio.__eq__" (defArgs s_Ratiou_equ) (defBody s_Ratiou_equ) (defScope s_Ratiou_equ) .none kV_Ratiou_equ dc_Ratiou_equ pm_Ratiou_equ an_Ratiou_equ cd_Ratiou_equ ct_Ratiou_equ), sl_Ratiou_equ⟩)
    (c_Ratiou_equ : PySem.W.codeIn K cd_Ratiou_equ "Ratio.__eq__" = true)
    (k_Ratiou_equ : PySem.W.keepIn K (.ref f_Ratiou_equ) = true)
    (a__law_stream : PySem.W.nsIn K mainGlobals "_law_stream" = some (some (.ref f__law_stream)))
    (l__law_stream : K.lookup f__law_stream = some ⟨oc__law_stream, od__law_stream, .func (PySem.W.fnOf "_law_stream" "_law_stream" (defArgs s__law_stream) (defBody s__law_stream) (defScope s__law_stream) .none kV__law_stream dc__law_stream pm__law_stream an__law_stream cd__law_stream ct__law_stream), sl__law_stream⟩)
    (c__law_stream : PySem.W.codeIn K cd__law_stream "_law_stream" = true)
    (k__law_stream : PySem.W.keepIn K (.ref f__law_stream) = true)
    (a__law_draw : PySem.W.nsIn K mainGlobals "_law_draw" = some (some (.ref f__law_draw)))
    (l__law_draw : K.lookup f__law_draw = some ⟨oc__law_draw, od__law_draw, .func (PySem.W.fnOf "_law_draw" "_law_draw" (defArgs s__law_draw) (defBody s__law_draw) (defScope s__law_draw) .none kV__law_draw dc__law_draw pm__law_draw an__law_draw cd__law_draw ct__law_draw), sl__law_draw⟩)
    (c__law_draw : PySem.W.codeIn K cd__law_draw "_law_draw" = true)
    (k__law_draw : PySem.W.keepIn K (.ref f__law_draw) = true)
    (a__law_slength : PySem.W.nsIn K mainGlobals "_law_length" = some (some (.ref f__law_slength)))
    (l__law_slength : K.lookup f__law_slength = some ⟨oc__law_slength, od__law_slength, .func (PySem.W.fnOf "_law_length" "_law_length" (defArgs s__law_slength) (defBody s__law_slength) (defScope s__law_slength) .none kV__law_slength dc__law_slength pm__law_slength an__law_slength cd__law_slength ct__law_slength), sl__law_slength⟩)
    (c__law_slength : PySem.W.codeIn K cd__law_slength "_law_length" = true)
    (k__law_slength : PySem.W.keepIn K (.ref f__law_slength) = true)
    (a__law_ssheet : PySem.W.nsIn K mainGlobals "_law_sheet" = some (some (.ref f__law_ssheet)))
    (l__law_ssheet : K.lookup f__law_ssheet = some ⟨oc__law_ssheet, od__law_ssheet, .func (PySem.W.fnOf "_law_sheet" "_law_sheet" (defArgs s__law_ssheet) (defBody s__law_ssheet) (defScope s__law_ssheet) .none kV__law_ssheet dc__law_ssheet pm__law_ssheet an__law_ssheet cd__law_ssheet ct__law_ssheet), sl__law_ssheet⟩)
    (c__law_ssheet : PySem.W.codeIn K cd__law_ssheet "_law_sheet" = true)
    (k__law_ssheet : PySem.W.keepIn K (.ref f__law_ssheet) = true)
    (a__law_sless : PySem.W.nsIn K mainGlobals "_law_less" = some (some (.ref f__law_sless)))
    (l__law_sless : K.lookup f__law_sless = some ⟨oc__law_sless, od__law_sless, .func (PySem.W.fnOf "_law_less" "_law_less" (defArgs s__law_sless) (defBody s__law_sless) (defScope s__law_sless) .none kV__law_sless dc__law_sless pm__law_sless an__law_sless cd__law_sless ct__law_sless), sl__law_sless⟩)
    (c__law_sless : PySem.W.codeIn K cd__law_sless "_law_less" = true)
    (k__law_sless : PySem.W.keepIn K (.ref f__law_sless) = true)
    (a__law_sbounds : PySem.W.nsIn K mainGlobals "_law_bounds" = some (some (.ref f__law_sbounds)))
    (l__law_sbounds : K.lookup f__law_sbounds = some ⟨oc__law_sbounds, od__law_sbounds, .func (PySem.W.fnOf "_law_bounds" "_law_bounds" (defArgs s__law_sbounds) (defBody s__law_sbounds) (defScope s__law_sbounds) .none kV__law_sbounds dc__law_sbounds pm__law_sbounds an__law_sbounds cd__law_sbounds ct__law_sbounds), sl__law_sbounds⟩)
    (c__law_sbounds : PySem.W.codeIn K cd__law_sbounds "_law_bounds" = true)
    (k__law_sbounds : PySem.W.keepIn K (.ref f__law_sbounds) = true)
    (a__law_sover : PySem.W.nsIn K mainGlobals "_law_over" = some (some (.ref f__law_sover)))
    (l__law_sover : K.lookup f__law_sover = some ⟨oc__law_sover, od__law_sover, .func (PySem.W.fnOf "_law_over" "_law_over" (defArgs s__law_sover) (defBody s__law_sover) (defScope s__law_sover) .none kV__law_sover dc__law_sover pm__law_sover an__law_sover cd__law_sover ct__law_sover), sl__law_sover⟩)
    (c__law_sover : PySem.W.codeIn K cd__law_sover "_law_over" = true)
    (k__law_sover : PySem.W.keepIn K (.ref f__law_sover) = true)
    (a__law_smove : PySem.W.nsIn K mainGlobals "_law_move" = some (some (.ref f__law_smove)))
    (l__law_smove : K.lookup f__law_smove = some ⟨oc__law_smove, od__law_smove, .func (PySem.W.fnOf "_law_move" "_law_move" (defArgs s__law_smove) (defBody s__law_smove) (defScope s__law_smove) .none kV__law_smove dc__law_smove pm__law_smove an__law_smove cd__law_smove ct__law_smove), sl__law_smove⟩)
    (c__law_smove : PySem.W.codeIn K cd__law_smove "_law_move" = true)
    (k__law_smove : PySem.W.keepIn K (.ref f__law_smove) = true)
    (a__law_snumber : PySem.W.nsIn K mainGlobals "_law_number" = some (some (.ref f__law_snumber)))
    (l__law_snumber : K.lookup f__law_snumber = some ⟨oc__law_snumber, od__law_snumber, .func (PySem.W.fnOf "_law_number" "_law_number" (defArgs s__law_snumber) (defBody s__law_snumber) (defScope s__law_snumber) .none kV__law_snumber dc__law_snumber pm__law_snumber an__law_snumber cd__law_snumber ct__law_snumber), sl__law_snumber⟩)
    (c__law_snumber : PySem.W.codeIn K cd__law_snumber "_law_number" = true)
    (k__law_snumber : PySem.W.keepIn K (.ref f__law_snumber) = true)
    (a__law_weigh : PySem.W.nsIn K mainGlobals "_law_weigh" = some (some (.ref f__law_weigh)))
    (l__law_weigh : K.lookup f__law_weigh = some ⟨oc__law_weigh, od__law_weigh, .func (PySem.W.fnOf "_law_weigh" "_law_weigh" (defArgs s__law_weigh) (defBody s__law_weigh) (defScope s__law_weigh) .none kV__law_weigh dc__law_weigh pm__law_weigh an__law_weigh cd__law_weigh ct__law_weigh), sl__law_weigh⟩)
    (c__law_weigh : PySem.W.codeIn K cd__law_weigh "_law_weigh" = true)
    (k__law_weigh : PySem.W.keepIn K (.ref f__law_weigh) = true)
    (a__law_zone : PySem.W.nsIn K mainGlobals "_law_zone" = some (some (.ref f__law_zone)))
    (l__law_zone : K.lookup f__law_zone = some ⟨oc__law_zone, od__law_zone, .func (PySem.W.fnOf "_law_zone" "_law_zone" (defArgs s__law_zone) (defBody s__law_zone) (defScope s__law_zone) .none kV__law_zone dc__law_zone pm__law_zone an__law_zone cd__law_zone ct__law_zone), sl__law_zone⟩)
    (c__law_zone : PySem.W.codeIn K cd__law_zone "_law_zone" = true)
    (k__law_zone : PySem.W.keepIn K (.ref f__law_zone) = true)
    (a__law_fits : PySem.W.nsIn K mainGlobals "_law_fits" = some (some (.ref f__law_fits)))
    (l__law_fits : K.lookup f__law_fits = some ⟨oc__law_fits, od__law_fits, .func (PySem.W.fnOf "_law_fits" "_law_fits" (defArgs s__law_fits) (defBody s__law_fits) (defScope s__law_fits) .none kV__law_fits dc__law_fits pm__law_fits an__law_fits cd__law_fits ct__law_fits), sl__law_fits⟩)
    (c__law_fits : PySem.W.codeIn K cd__law_fits "_law_fits" = true)
    (k__law_fits : PySem.W.keepIn K (.ref f__law_fits) = true)
    (a__law_show : PySem.W.nsIn K mainGlobals "_law_show" = some (some (.ref f__law_show)))
    (l__law_show : K.lookup f__law_show = some ⟨oc__law_show, od__law_show, .func (PySem.W.fnOf "_law_show" "_law_show" (defArgs s__law_show) (defBody s__law_show) (defScope s__law_show) .none kV__law_show dc__law_show pm__law_show an__law_show cd__law_show ct__law_show), sl__law_show⟩)
    (c__law_show : PySem.W.codeIn K cd__law_show "_law_show" = true)
    (k__law_show : PySem.W.keepIn K (.ref f__law_show) = true)
    (a__law_sfault : PySem.W.nsIn K mainGlobals "_law_fault" = some (some (.ref f__law_sfault)))
    (l__law_sfault : K.lookup f__law_sfault = some ⟨oc__law_sfault, od__law_sfault, .func (PySem.W.fnOf "_law_fault" "_law_fault" (defArgs s__law_sfault) (defBody s__law_sfault) (defScope s__law_sfault) .none kV__law_sfault dc__law_sfault pm__law_sfault an__law_sfault cd__law_sfault ct__law_sfault), sl__law_sfault⟩)
    (c__law_sfault : PySem.W.codeIn K cd__law_sfault "_law_fault" = true)
    (k__law_sfault : PySem.W.keepIn K (.ref f__law_sfault) = true)
    (a__law_stimes : PySem.W.nsIn K mainGlobals "_law_times" = some (some (.ref f__law_stimes)))
    (l__law_stimes : K.lookup f__law_stimes = some ⟨oc__law_stimes, od__law_stimes, .func (PySem.W.fnOf "_law_times" "_law_times" (defArgs s__law_stimes) (defBody s__law_stimes) (defScope s__law_stimes) .none kV__law_stimes dc__law_stimes pm__law_stimes an__law_stimes cd__law_stimes ct__law_stimes), sl__law_stimes⟩)
    (c__law_stimes : PySem.W.codeIn K cd__law_stimes "_law_times" = true)
    (k__law_stimes : PySem.W.keepIn K (.ref f__law_stimes) = true)
    (a__law_smoment : PySem.W.nsIn K mainGlobals "_law_moment" = some (some (.ref f__law_smoment)))
    (l__law_smoment : K.lookup f__law_smoment = some ⟨oc__law_smoment, od__law_smoment, .func (PySem.W.fnOf "_law_moment" "_law_moment" (defArgs s__law_smoment) (defBody s__law_smoment) (defScope s__law_smoment) .none kV__law_smoment dc__law_smoment pm__law_smoment an__law_smoment cd__law_smoment ct__law_smoment), sl__law_smoment⟩)
    (c__law_smoment : PySem.W.codeIn K cd__law_smoment "_law_moment" = true)
    (k__law_smoment : PySem.W.keepIn K (.ref f__law_smoment) = true)
    (a_is_less : PySem.W.nsIn K mainGlobals "is_less" = some (some (.ref f_is_less)))
    (l_is_less : K.lookup f_is_less = some ⟨oc_is_less, od_is_less, .func (PySem.W.fnOf "is_less" "is_less" (defArgs s_is_less) (defBody s_is_less) (defScope s_is_less) .none kV_is_less dc_is_less pm_is_less an_is_less cd_is_less ct_is_less), sl_is_less⟩)
    (c_is_less : PySem.W.codeIn K cd_is_less "is_less" = true)
    (k_is_less : PySem.W.keepIn K (.ref f_is_less) = true)
    (a_is_timing : PySem.W.nsIn K mainGlobals "is_timing" = some (some (.ref f_is_timing)))
    (l_is_timing : K.lookup f_is_timing = some ⟨oc_is_timing, od_is_timing, .func (PySem.W.fnOf "is_timing" "is_timing" (defArgs s_is_timing) (defBody s_is_timing) (defScope s_is_timing) .none kV_is_timing dc_is_timing pm_is_timing an_is_timing cd_is_timing ct_is_timing), sl_is_timing⟩)
    (c_is_timing : PySem.W.codeIn K cd_is_timing "is_timing" = true)
    (k_is_timing : PySem.W.keepIn K (.ref f_is_timing) = true)
    (a_is_moment : PySem.W.nsIn K mainGlobals "is_moment" = some (some (.ref f_is_moment)))
    (l_is_moment : K.lookup f_is_moment = some ⟨oc_is_moment, od_is_moment, .func (PySem.W.fnOf "is_moment" "is_moment" (defArgs s_is_moment) (defBody s_is_moment) (defScope s_is_moment) .none kV_is_moment dc_is_moment pm_is_moment an_is_moment cd_is_moment ct_is_moment), sl_is_moment⟩)
    (c_is_moment : PySem.W.codeIn K cd_is_moment "is_moment" = true)
    (k_is_moment : PySem.W.keepIn K (.ref f_is_moment) = true)
    (a__reached : PySem.W.nsIn K mainGlobals "_reached" = some (some (.ref f__reached)))
    (l__reached : K.lookup f__reached = some ⟨oc__reached, od__reached, .func (PySem.W.fnOf "_reached" "_reached" (defArgs s__reached) (defBody s__reached) (defScope s__reached) .none kV__reached dc__reached pm__reached an__reached cd__reached ct__reached), sl__reached⟩)
    (c__reached : PySem.W.codeIn K cd__reached "_reached" = true)
    (k__reached : PySem.W.keepIn K (.ref f__reached) = true)
    (a_pieces : PySem.W.nsIn K mainGlobals "pieces" = some (some (.ref f_pieces)))
    (l_pieces : K.lookup f_pieces = some ⟨oc_pieces, od_pieces, .func (PySem.W.fnOf "pieces" "pieces" (defArgs s_pieces) (defBody s_pieces) (defScope s_pieces) .none kV_pieces dc_pieces pm_pieces an_pieces cd_pieces ct_pieces), sl_pieces⟩)
    (c_pieces : PySem.W.codeIn K cd_pieces "pieces" = true)
    (k_pieces : PySem.W.keepIn K (.ref f_pieces) = true)
    (a_speed : PySem.W.nsIn K mainGlobals "speed" = some (some (.ref f_speed)))
    (l_speed : K.lookup f_speed = some ⟨oc_speed, od_speed, .func (PySem.W.fnOf "speed" "speed" (defArgs s_speed) (defBody s_speed) (defScope s_speed) .none kV_speed dc_speed pm_speed an_speed cd_speed ct_speed), sl_speed⟩)
    (c_speed : PySem.W.codeIn K cd_speed "speed" = true)
    (k_speed : PySem.W.keepIn K (.ref f_speed) = true)
    (a_quotient : PySem.W.nsIn K mainGlobals "quotient" = some (some (.ref f_quotient)))
    (l_quotient : K.lookup f_quotient = some ⟨oc_quotient, od_quotient, .func (PySem.W.fnOf "quotient" "quotient" (defArgs s_quotient) (defBody s_quotient) (defScope s_quotient) .none kV_quotient dc_quotient pm_quotient an_quotient cd_quotient ct_quotient), sl_quotient⟩)
    (c_quotient : PySem.W.codeIn K cd_quotient "quotient" = true)
    (k_quotient : PySem.W.keepIn K (.ref f_quotient) = true)
    (a_way : PySem.W.nsIn K mainGlobals "way" = some (some (.ref f_way)))
    (l_way : K.lookup f_way = some ⟨oc_way, od_way, .func (PySem.W.fnOf "way" "way" (defArgs s_way) (defBody s_way) (defScope s_way) .none kV_way dc_way pm_way an_way cd_way ct_way), sl_way⟩)
    (c_way : PySem.W.codeIn K cd_way "way" = true)
    (k_way : PySem.W.keepIn K (.ref f_way) = true)
    (a_position : PySem.W.nsIn K mainGlobals "position" = some (some (.ref f_position)))
    (l_position : K.lookup f_position = some ⟨oc_position, od_position, .func (PySem.W.fnOf "position" "position" (defArgs s_position) (defBody s_position) (defScope s_position) .none kV_position dc_position pm_position an_position cd_position ct_position), sl_position⟩)
    (c_position : PySem.W.codeIn K cd_position "position" = true)
    (k_position : PySem.W.keepIn K (.ref f_position) = true)
    (a__size : PySem.W.nsIn K mainGlobals "_size" = some (some (.ref f__size)))
    (l__size : K.lookup f__size = some ⟨oc__size, od__size, .func (PySem.W.fnOf "_size" "_size" (defArgs s__size) (defBody s__size) (defScope s__size) .none kV__size dc__size pm__size an__size cd__size ct__size), sl__size⟩)
    (c__size : PySem.W.codeIn K cd__size "_size" = true)
    (k__size : PySem.W.keepIn K (.ref f__size) = true)
    (a_stopped : PySem.W.nsIn K mainGlobals "stopped" = some (some (.ref f_stopped)))
    (l_stopped : K.lookup f_stopped = some ⟨oc_stopped, od_stopped, .func (PySem.W.fnOf "stopped" "stopped" (defArgs s_stopped) (defBody s_stopped) (defScope s_stopped) .none kV_stopped dc_stopped pm_stopped an_stopped cd_stopped ct_stopped), sl_stopped⟩)
    (c_stopped : PySem.W.codeIn K cd_stopped "stopped" = true)
    (k_stopped : PySem.W.keepIn K (.ref f_stopped) = true)
    (a__braked : PySem.W.nsIn K mainGlobals "_braked" = some (some (.ref f__braked)))
    (l__braked : K.lookup f__braked = some ⟨oc__braked, od__braked, .func (PySem.W.fnOf "_braked" "_braked" (defArgs s__braked) (defBody s__braked) (defScope s__braked) .none kV__braked dc__braked pm__braked an__braked cd__braked ct__braked), sl__braked⟩)
    (c__braked : PySem.W.codeIn K cd__braked "_braked" = true)
    (k__braked : PySem.W.keepIn K (.ref f__braked) = true)
    (a__undisturbed : PySem.W.nsIn K mainGlobals "_undisturbed" = some (some (.ref f__undisturbed)))
    (l__undisturbed : K.lookup f__undisturbed = some ⟨oc__undisturbed, od__undisturbed, .func (PySem.W.fnOf "_undisturbed" "_undisturbed" (defArgs s__undisturbed) (defBody s__undisturbed) (defScope s__undisturbed) .none kV__undisturbed dc__undisturbed pm__undisturbed an__undisturbed cd__undisturbed ct__undisturbed), sl__undisturbed⟩)
    (c__undisturbed : PySem.W.codeIn K cd__undisturbed "_undisturbed" = true)
    (k__undisturbed : PySem.W.keepIn K (.ref f__undisturbed) = true)
    (a_place : PySem.W.nsIn K mainGlobals "place" = some (some (.ref f_place)))
    (l_place : K.lookup f_place = some ⟨oc_place, od_place, .func (PySem.W.fnOf "place" "place" (defArgs s_place) (defBody s_place) (defScope s_place) .none kV_place dc_place pm_place an_place cd_place ct_place), sl_place⟩)
    (c_place : PySem.W.codeIn K cd_place "place" = true)
    (k_place : PySem.W.keepIn K (.ref f_place) = true)
    (a_is_kept : PySem.W.nsIn K mainGlobals "is_kept" = some (some (.ref f_is_kept)))
    (l_is_kept : K.lookup f_is_kept = some ⟨oc_is_kept, od_is_kept, .func (PySem.W.fnOf "is_kept" "is_kept" (defArgs s_is_kept) (defBody s_is_kept) (defScope s_is_kept) .none kV_is_kept dc_is_kept pm_is_kept an_is_kept cd_is_kept ct_is_kept), sl_is_kept⟩)
    (c_is_kept : PySem.W.codeIn K cd_is_kept "is_kept" = true)
    (k_is_kept : PySem.W.keepIn K (.ref f_is_kept) = true)
    (a__law_sstate : PySem.W.nsIn K mainGlobals "_law_state" = some (some (.ref f__law_sstate)))
    (l__law_sstate : K.lookup f__law_sstate = some ⟨oc__law_sstate, od__law_sstate, .func (PySem.W.fnOf "_law_state" "_law_state" (defArgs s__law_sstate) (defBody s__law_sstate) (defScope s__law_sstate) .none kV__law_sstate dc__law_sstate pm__law_sstate an__law_sstate cd__law_sstate ct__law_sstate), sl__law_sstate⟩)
    (c__law_sstate : PySem.W.codeIn K cd__law_sstate "_law_state" = true)
    (k__law_sstate : PySem.W.keepIn K (.ref f__law_sstate) = true)
    (a__law_moving : PySem.W.nsIn K mainGlobals "_law_moving" = some (some (.ref f__law_moving)))
    (l__law_moving : K.lookup f__law_moving = some ⟨oc__law_moving, od__law_moving, .func (PySem.W.fnOf "_law_moving" "_law_moving" (defArgs s__law_moving) (defBody s__law_moving) (defScope s__law_moving) .none kV__law_moving dc__law_moving pm__law_moving an__law_moving cd__law_moving ct__law_moving), sl__law_moving⟩)
    (c__law_moving : PySem.W.codeIn K cd__law_moving "_law_moving" = true)
    (k__law_moving : PySem.W.keepIn K (.ref f__law_moving) = true)
    (a__law_braked : PySem.W.nsIn K mainGlobals "_law_braked" = some (some (.ref f__law_braked)))
    (l__law_braked : K.lookup f__law_braked = some ⟨oc__law_braked, od__law_braked, .func (PySem.W.fnOf "_law_braked" "_law_braked" (defArgs s__law_braked) (defBody s__law_braked) (defScope s__law_braked) .none kV__law_braked dc__law_braked pm__law_braked an__law_braked cd__law_braked ct__law_braked), sl__law_braked⟩)
    (c__law_braked : PySem.W.codeIn K cd__law_braked "_law_braked" = true)
    (k__law_braked : PySem.W.keepIn K (.ref f__law_braked) = true)
    (a__law_place : PySem.W.nsIn K mainGlobals "_law_place" = some (some (.ref f__law_place)))
    (l__law_place : K.lookup f__law_place = some ⟨oc__law_place, od__law_place, .func (PySem.W.fnOf "_law_place" "_law_place" (defArgs s__law_place) (defBody s__law_place) (defScope s__law_place) .none kV__law_place dc__law_place pm__law_place an__law_place cd__law_place ct__law_place), sl__law_place⟩)
    (c__law_place : PySem.W.codeIn K cd__law_place "_law_place" = true)
    (k__law_place : PySem.W.keepIn K (.ref f__law_place) = true)
    (a__law_weighed : PySem.W.nsIn K mainGlobals "_law_weighed" = some (some (.ref f__law_weighed)))
    (l__law_weighed : K.lookup f__law_weighed = some ⟨oc__law_weighed, od__law_weighed, .func (PySem.W.fnOf "_law_weighed" "_law_weighed" (defArgs s__law_weighed) (defBody s__law_weighed) (defScope s__law_weighed) .none kV__law_weighed dc__law_weighed pm__law_weighed an__law_weighed cd__law_weighed ct__law_weighed), sl__law_weighed⟩)
    (c__law_weighed : PySem.W.codeIn K cd__law_weighed "_law_weighed" = true)
    (k__law_weighed : PySem.W.keepIn K (.ref f__law_weighed) = true)
    (a__law_kept : PySem.W.nsIn K mainGlobals "_law_kept" = some (some (.ref f__law_kept)))
    (l__law_kept : K.lookup f__law_kept = some ⟨oc__law_kept, od__law_kept, .func (PySem.W.fnOf "_law_kept" "_law_kept" (defArgs s__law_kept) (defBody s__law_kept) (defScope s__law_kept) .none kV__law_kept dc__law_kept pm__law_kept an__law_kept cd__law_kept ct__law_kept), sl__law_kept⟩)
    (c__law_kept : PySem.W.codeIn K cd__law_kept "_law_kept" = true)
    (k__law_kept : PySem.W.keepIn K (.ref f__law_kept) = true)
    (a_law : PySem.W.nsIn K mainGlobals "law" = some (some (.ref f_law)))
    (l_law : K.lookup f_law = some ⟨oc_law, od_law, .func (PySem.W.fnOf "law" "law" (defArgs s_law) (defBody s_law) (defScope s_law) .none kV_law dc_law pm_law an_law cd_law ct_law), sl_law⟩)
    (c_law : PySem.W.codeIn K cd_law "law" = true)
    (k_law : PySem.W.keepIn K (.ref f_law) = true)
    (pg : PySem.W.plainGet K C0 Str.empty = true)
    (hd : PySem.W.hasDictIn K C0 = true)
    (po : PySem.W.plainOver K C0 = true)
    (sa : PySem.W.findIn K (.ref C0) "__setattr__" = some (some (.builtin "object.__setattr__")))
    (n0 : PySem.W.findIn K (.ref C0) "top" = some none)
    (n1 : PySem.W.findIn K (.ref C0) "bottom" = some none)
    (sf : PySem.W.selfFirst K C0 = true)
    (nf0 : PySem.W.notFirst K C0 (.type "NoneType") = true)
    (nf1 : PySem.W.notFirst K C0 (.type "bool") = true)
    (nf2 : PySem.W.notFirst K C0 (.type "int") = true)
    (nf3 : PySem.W.notFirst K C0 (.type "str") = true)
    (nf4 : PySem.W.notFirst K C0 (.type "tuple") = true)
    (nf5 : PySem.W.notFirst K C0 (.type "list") = true)
    (ne : PySem.W.findIn K (.ref C0) "__ne__" = some (some (.builtin "object.__ne__")))
    (ob : PySem.W.subIn K (.ref C0) (.type "object") = some true)
    (kt0 : PySem.W.kitOne K (.type "NoneType") (.ref C0) = some false)
    (kt1 : PySem.W.kitOne K (.type "bool") (.ref C0) = some false)
    (kt2 : PySem.W.kitOne K (.type "int") (.ref C0) = some false)
    (kt3 : PySem.W.kitOne K (.type "str") (.ref C0) = some false)
    (kt4 : PySem.W.kitOne K (.type "tuple") (.ref C0) = some false)
    (kt5 : PySem.W.kitOne K (.type "list") (.ref C0) = some false)
    (ks : PySem.W.kitOne K (.ref C0) (.ref C0) = some true)
    (kb_bool : PySem.W.kitOne K (.ref C0) (.type "bool") = some false)
    (kb_list : PySem.W.kitOne K (.ref C0) (.type "list") = some false)
    (kb_tuple : PySem.W.kitOne K (.ref C0) (.type "tuple") = some false)
    (kb_int : PySem.W.kitOne K (.ref C0) (.type "int") = some false)
    (oa : PySem.W.findIn K (.ref C0) "__class__" = some (some (.builtin "object.__class__")))
    (on : PySem.W.specialIn K (.builtin "object.__class__") "__get__" = some (some (.builtin "getset_descriptor.__get__")))
    (ot : PySem.W.takesIn K (.builtin "object.__class__") = some true)
    (om : PySem.W.mroIn K C0 (.type "object") = some true)
    (mk : PySem.W.makesIn K C0 = true)
    (kc : PySem.W.keepIn K (.ref C0) = true)
    (x1 : PySem.W.excIn K C1 [.type "ValueError", .type "Exception", .type "BaseException", .type "object"] "ValueError.__new__" = true)
    (k1 : PySem.W.keepIn K (.ref C1) = true)
    (p1 : PySem.W.subIn K (.ref C1) (.type "BaseException") = some true)
    (t1 : PySem.W.typeIn K (.ref C1) = some (.type "type"))
    (z_abs : PySem.W.nsIn K mainGlobals "abs" = some none)
    (z_len : PySem.W.nsIn K mainGlobals "len" = some none)
    (z_int : PySem.W.nsIn K mainGlobals "int" = some none)
    (z_list : PySem.W.nsIn K mainGlobals "list" = some none)
    (z_tuple : PySem.W.nsIn K mainGlobals "tuple" = some none)
    (z_bool : PySem.W.nsIn K mainGlobals "bool" = some none)
    (z_isinstance : PySem.W.nsIn K mainGlobals "isinstance" = some none)
    (z_range : PySem.W.nsIn K mainGlobals "range" = some none)
    (z_zip : PySem.W.nsIn K mainGlobals "zip" = some none)
    (z_enumerate : PySem.W.nsIn K mainGlobals "enumerate" = some none)
    (z_any : PySem.W.nsIn K mainGlobals "any" = some none)
    (z_all : PySem.W.nsIn K mainGlobals "all" = some none)
    (z_sum : PySem.W.nsIn K mainGlobals "sum" = some none)
    (z_repr : PySem.W.nsIn K mainGlobals "repr" = some none)
    (z_max : PySem.W.nsIn K mainGlobals "max" = some none)
    (z_gcd : PySem.W.nsIn K mainGlobals "gcd" = some (some (.builtin "math.gcd")))
    : ∃ fd : FuncData, (∀ (s : Shared) (v : Value), BindsTo s fd ⟨[v], []⟩ [("script", v)]) ∧ ∀ base : Heap, K.In base → base.Ns mainGlobals mg → FnOk l.prog w K mg base (L2.CX l.prog w) 12 fa fd ["script"] (spLaw K) := by
  have e := hfa.symm.trans (PySem.W.mg_of X G a_law)
  cases e
  have I0 : InsOwn K C0 := ⟨⟨pg, hd, po, sa⟩, oa, on, ot, om⟩
  have T : TxS K mg [C0, C1] := {
    own0 := {
      cls := ⟨pg, hd, po, sa⟩
      no := fun i f hf => by
        have hf : (["top", "bottom"] : List Str)[i]? = some f := hf
        match i, hf with
        | 0, hf => cases hf; exact n0
        | 1, hf => cases hf; exact n1
        | i + 2, hf => simp at hf
      nd := by show (["top", "bottom"] : List Str).Nodup; decide +kernel
      few := by show 2 < 1000; decide }
    c0 := PySem.W.mg_of X G aC0
    sf0 := sf
    nf0 := fun T hT => by
      simp only [eqTys, List.mem_cons, List.mem_nil_iff, or_false] at hT
      rcases hT with rfl | rfl | rfl | rfl | rfl | rfl <;> assumption
    ne0 := ⟨ne, ob⟩
    isi0 := ⟨fun T hT => by
      simp only [eqTys, List.mem_cons, List.mem_nil_iff, or_false] at hT
      rcases hT with rfl | rfl | rfl | rfl | rfl | rfl <;> assumption, ks, I0⟩
    isib_bool := fun c hc => by
      obtain rfl : c = 0 := by omega
      exact ⟨kb_bool, I0⟩
    isib_list := fun c hc => by
      obtain rfl : c = 0 := by omega
      exact ⟨kb_list, I0⟩
    isib_tuple := fun c hc => by
      obtain rfl : c = 0 := by omega
      exact ⟨kb_tuple, I0⟩
    isib_int := fun c hc => by
      obtain rfl : c = 0 := by omega
      exact ⟨kb_int, I0⟩
    x1 := x1
    g1 := PySem.W.mg_of X G aC1
    k1 := k1
    p1 := p1
    t1 := t1
    b_gcd := PySem.W.mg_of X G z_gcd
    b_abs := PySem.W.mg_none_of X G z_abs
    b_len := PySem.W.mg_none_of X G z_len
    b_int := PySem.W.mg_none_of X G z_int
    b_list := PySem.W.mg_none_of X G z_list
    b_tuple := PySem.W.mg_none_of X G z_tuple
    b_bool := PySem.W.mg_none_of X G z_bool
    b_isinstance := PySem.W.mg_none_of X G z_isinstance
    b_range := PySem.W.mg_none_of X G z_range
    b_zip := PySem.W.mg_none_of X G z_zip
    b_enumerate := PySem.W.mg_none_of X G z_enumerate
    b_any := PySem.W.mg_none_of X G z_any
    b_all := PySem.W.mg_none_of X G z_all
    b_sum := PySem.W.mg_none_of X G z_sum
    b_repr := PySem.W.mg_none_of X G z_repr
    b_max := PySem.W.mg_none_of X G z_max }
  have FI := fun_mkD (st := s_Ratiou_initu) l_Ratiou_initu c_Ratiou_initu k_Ratiou_initu lt_Ratiou_initu rfl
  have F := fun_mk (st := s_law) l_law c_law k_law
  refine ⟨PySem.W.fnOf "law" "law" (defArgs s_law) (defBody s_law) (defScope s_law) .none kV_law dc_law pm_law an_law cd_law ct_law, fun s v => .of_eq rfl, fun base _ _ => ?_⟩
  have hI : FnOk l.prog w K mg base (L2.CX l.prog w) 1 f_Ratiou_initu _ ["self", "n", "d"] (spF (amb K [C0, C1]) 3 m_Ratiou_initu) := fn_Ratiou_initu T FI
  have h_Ratiou_initu : In l.prog w K mg base (amb K [C0, C1]) 1 0 3 [] m_Ratiou_initu := by
    obtain ⟨ds, r, b⟩ := FI.binds1 (ps := ["self", "n", "d"]) 3 1 (by simp) rfl fun T kV doc pm an cdv ct us its h1 h2 => match us, its, h1, h2 with | [_, _, _], [_], _, _ => ⟨_, rfl, rfl⟩
    exact ⟨⟨_, _, _, _, ds, ⟨mk, a_Ratiou_initu, i_Ratiou_initu, kc⟩, b, r, fun _ => .nil, hI⟩, ar_Ratiou_initu⟩
  have h_Ratiou_initu1 : In l.prog w K mg base (amb K [C0, C1]) 1 0 3 [.int 1] m_Ratiou_initu := by
    obtain ⟨ds, r, b⟩ := FI.binds1 (ps := ["self", "n", "d"]) 2 0 (by simp) rfl fun T kV doc pm an cdv ct us its h1 h2 => match us, its, h1, h2 with | [_, _], [_], _, _ => ⟨_, rfl, rfl⟩
    exact ⟨⟨_, _, _, _, ds, ⟨mk, a_Ratiou_initu, i_Ratiou_initu, kc⟩, b, r, fun _ => .cons (.int 1) .nil, hI⟩, ar_Ratiou_initu⟩
  have h_Ratiou_addu := ok_Ratiou_addu (P := l.prog) (w := w) (base := base) T (methAt_mk a_Ratiou_addu i_Ratiou_addu l_Ratiou_addu c_Ratiou_addu k_Ratiou_addu) h_Ratiou_initu
  have h_Ratiou_subu := ok_Ratiou_subu (P := l.prog) (w := w) (base := base) T (methAt_mk a_Ratiou_subu i_Ratiou_subu l_Ratiou_subu c_Ratiou_subu k_Ratiou_subu) h_Ratiou_initu
  have h_Ratiou_mulu := ok_Ratiou_mulu (P := l.prog) (w := w) (base := base) T (methAt_mk a_Ratiou_mulu i_Ratiou_mulu l_Ratiou_mulu c_Ratiou_mulu k_Ratiou_mulu) h_Ratiou_initu
  have h_Ratiou_negu := ok_Ratiou_negu (P := l.prog) (w := w) (base := base) T (methAt_mk a_Ratiou_negu i_Ratiou_negu l_Ratiou_negu c_Ratiou_negu k_Ratiou_negu) h_Ratiou_initu
  have h_Ratiou_equ := ok_Ratiou_equ (P := l.prog) (w := w) (base := base) T (methAt_mk a_Ratiou_equ i_Ratiou_equ l_Ratiou_equ c_Ratiou_equ k_Ratiou_equ) 
  have h__law_stream := ok__law_stream (P := l.prog) (w := w) (base := base) T (defAt_mk X G a__law_stream l__law_stream c__law_stream k__law_stream) 
  have h__law_draw := ok__law_draw (P := l.prog) (w := w) (base := base) T (defAt_mk X G a__law_draw l__law_draw c__law_draw k__law_draw) 
  have h__law_slength := ok__law_slength (P := l.prog) (w := w) (base := base) T (defAt_mk X G a__law_slength l__law_slength c__law_slength k__law_slength) h_Ratiou_initu1 h_Ratiou_addu
  have h__law_ssheet := ok__law_ssheet (P := l.prog) (w := w) (base := base) T (defAt_mk X G a__law_ssheet l__law_ssheet c__law_ssheet k__law_ssheet) h__law_draw h_Ratiou_initu h__law_slength h_Ratiou_addu h_Ratiou_initu1 h_Ratiou_mulu
  have h__law_sless := ok__law_sless (P := l.prog) (w := w) (base := base) T (defAt_mk X G a__law_sless l__law_sless c__law_sless k__law_sless) 
  have h__law_sbounds := ok__law_sbounds (P := l.prog) (w := w) (base := base) T (defAt_mk X G a__law_sbounds l__law_sbounds c__law_sbounds k__law_sbounds) h_Ratiou_initu1 h_Ratiou_negu h_Ratiou_addu h__law_sless
  have h__law_sover := ok__law_sover (P := l.prog) (w := w) (base := base) T (defAt_mk X G a__law_sover l__law_sover c__law_sover k__law_sover) h_Ratiou_initu
  have h__law_smove := ok__law_smove (P := l.prog) (w := w) (base := base) T (defAt_mk X G a__law_smove l__law_smove c__law_smove k__law_smove) h__law_draw h_Ratiou_initu h_Ratiou_initu1 h_Ratiou_negu h_Ratiou_addu h_Ratiou_mulu h__law_sover
  have h__law_snumber := ok__law_snumber (P := l.prog) (w := w) (base := base) T (defAt_mk X G a__law_snumber l__law_snumber c__law_snumber k__law_snumber) h__law_draw h_Ratiou_initu
  have h__law_weigh := ok__law_weigh (P := l.prog) (w := w) (base := base) T (defAt_mk X G a__law_weigh l__law_weigh c__law_weigh k__law_weigh) h__law_draw h_Ratiou_initu h_Ratiou_initu1 h__law_snumber h_Ratiou_addu
  have h__law_zone := ok__law_zone (P := l.prog) (w := w) (base := base) T (defAt_mk X G a__law_zone l__law_zone c__law_zone k__law_zone) h__law_draw h__law_snumber h_Ratiou_initu1 h_Ratiou_addu
  have h__law_fits := ok__law_fits (P := l.prog) (w := w) (base := base) T (defAt_mk X G a__law_fits l__law_fits c__law_fits k__law_fits) h__law_slength h_Ratiou_negu h__law_sless
  have h__law_show := ok__law_show (P := l.prog) (w := w) (base := base) T (defAt_mk X G a__law_show l__law_show c__law_show k__law_show) h__law_smove h__law_ssheet h__law_sbounds h__law_draw h__law_fits h_Ratiou_initu h__law_snumber h_Ratiou_initu1 h_Ratiou_addu h__law_weigh h__law_zone
  have h__law_sfault := ok__law_sfault (P := l.prog) (w := w) (base := base) T (defAt_mk X G a__law_sfault l__law_sfault c__law_sfault k__law_sfault) h__law_draw h_Ratiou_initu
  have h__law_stimes := ok__law_stimes (P := l.prog) (w := w) (base := base) T (defAt_mk X G a__law_stimes l__law_stimes c__law_stimes k__law_stimes) h_Ratiou_subu h__law_draw h_Ratiou_initu h_Ratiou_mulu h_Ratiou_addu
  have h__law_smoment := ok__law_smoment (P := l.prog) (w := w) (base := base) T (defAt_mk X G a__law_smoment l__law_smoment c__law_smoment k__law_smoment) h__law_stimes h_Ratiou_initu1 h__law_draw h_Ratiou_initu h_Ratiou_addu
  have h_is_less := ok_is_less (P := l.prog) (w := w) (base := base) T (defAt_mk X G a_is_less l_is_less c_is_less k_is_less) 
  have h_is_timing := ok_is_timing (P := l.prog) (w := w) (base := base) T (defAt_mk X G a_is_timing l_is_timing c_is_timing k_is_timing) h_Ratiou_subu h_is_less
  have h_is_moment := ok_is_moment (P := l.prog) (w := w) (base := base) T (defAt_mk X G a_is_moment l_is_moment c_is_moment k_is_moment) h_Ratiou_initu1 h_Ratiou_equ h_is_timing h_is_less
  have h__reached := ok__reached (P := l.prog) (w := w) (base := base) T (defAt_mk X G a__reached l__reached c__reached k__reached) h_Ratiou_initu h_Ratiou_mulu h_Ratiou_addu
  have h_pieces := ok_pieces (P := l.prog) (w := w) (base := base) T (defAt_mk X G a_pieces l_pieces c_pieces k_pieces) h_Ratiou_initu1 h_Ratiou_addu h_Ratiou_mulu h__reached
  have h_speed := ok_speed (P := l.prog) (w := w) (base := base) T (defAt_mk X G a_speed l_speed c_speed k_speed) h_Ratiou_initu1 h_is_less h_pieces h_Ratiou_subu h_Ratiou_mulu h_Ratiou_addu
  have h_quotient := ok_quotient (P := l.prog) (w := w) (base := base) T (defAt_mk X G a_quotient l_quotient c_quotient k_quotient) h_Ratiou_initu
  have h_way := ok_way (P := l.prog) (w := w) (base := base) T (defAt_mk X G a_way l_way c_way k_way) h_pieces h_Ratiou_subu h__reached
  have h_position := ok_position (P := l.prog) (w := w) (base := base) T (defAt_mk X G a_position l_position c_position k_position) h_Ratiou_initu1 h_is_less h_pieces h_Ratiou_subu h__reached h_way
  have h__size := ok__size (P := l.prog) (w := w) (base := base) T (defAt_mk X G a__size l__size c__size k__size) h_Ratiou_initu1 h_is_less h_Ratiou_negu
  have h_stopped := ok_stopped (P := l.prog) (w := w) (base := base) T (defAt_mk X G a_stopped l_stopped c_stopped k_stopped) h_is_less h_position h_speed h__size h_quotient h_Ratiou_subu h_Ratiou_initu1 h_Ratiou_negu h__reached
  have h__braked := ok__braked (P := l.prog) (w := w) (base := base) T (defAt_mk X G a__braked l__braked c__braked k__braked) h_Ratiou_subu h_stopped h_Ratiou_addu
  have h__undisturbed := ok__undisturbed (P := l.prog) (w := w) (base := base) T (defAt_mk X G a__undisturbed l__undisturbed c__undisturbed k__undisturbed) h_Ratiou_subu h_position h_Ratiou_addu
  have h_place := ok_place (P := l.prog) (w := w) (base := base) T (defAt_mk X G a_place l_place c_place k_place) h__undisturbed h__braked h_Ratiou_addu
  have h_is_kept := ok_is_kept (P := l.prog) (w := w) (base := base) T (defAt_mk X G a_is_kept l_is_kept c_is_kept k_is_kept) h_place h_Ratiou_mulu h_Ratiou_addu h_is_less
  have h__law_sstate := ok__law_sstate (P := l.prog) (w := w) (base := base) T (defAt_mk X G a__law_sstate l__law_sstate c__law_sstate k__law_sstate) h_Ratiou_initu1 h__law_sless h_Ratiou_mulu h_Ratiou_addu h_Ratiou_initu h_Ratiou_subu h_Ratiou_equ
  have h__law_moving := ok__law_moving (P := l.prog) (w := w) (base := base) T (defAt_mk X G a__law_moving l__law_moving c__law_moving k__law_moving) h_Ratiou_initu1 h_Ratiou_subu h__law_sstate h_Ratiou_addu
  have h__law_braked := ok__law_braked (P := l.prog) (w := w) (base := base) T (defAt_mk X G a__law_braked l__law_braked c__law_braked k__law_braked) h__law_moving h_Ratiou_initu1 h_Ratiou_subu h_Ratiou_mulu h__law_sover h__law_sless h_Ratiou_addu h_Ratiou_initu
  have h__law_place := ok__law_place (P := l.prog) (w := w) (base := base) T (defAt_mk X G a__law_place l__law_place c__law_place k__law_place) h__law_braked h__law_moving h_Ratiou_addu h__law_sless
  have h__law_weighed := ok__law_weighed (P := l.prog) (w := w) (base := base) T (defAt_mk X G a__law_weighed l__law_weighed c__law_weighed k__law_weighed) h__law_place h_Ratiou_mulu h_Ratiou_addu h_Ratiou_subu
  have h__law_kept := ok__law_kept (P := l.prog) (w := w) (base := base) T (defAt_mk X G a__law_kept l__law_kept c__law_kept k__law_kept) h__law_weighed h__law_sless h__law_place
  exact law_of (α := amb K [C0, C1]) (fn_law T F h__law_stream h__law_draw h__law_show h__law_sfault h__law_smoment h_is_moment h_place h__law_place h_Ratiou_equ h_is_kept h__law_kept h_Ratiou_initu h_Ratiou_addu h_Ratiou_subu h_Ratiou_initu1) rfl fun ns _ => ev_law
end Vs
open PySem PySem.W PyProof.Rows
set_option maxHeartbeats 0 in
theorem PySem.Challenge.cw_traproom_k41_places_with_faults_holds : PySem.Challenge.rw_traproom_k41_places_with_faults.Holds := by
  w_on; o_law; k_head; (case hw => w_witness2)
  k_fill
  refine L2.walk_of (l := PySem.Challenge.rw_traproom_k41_places_with_faults) (n := 63) (k := 12) (x := "script") (CX := fun w => L2.CX PySem.Challenge.rw_traproom_k41_places_with_faults.prog w) (sp := fun w => Vs.spLaw _) rfl (by decide) rfl ⟨rfl, by decide, by decide⟩ (fun w h Y => PySem.W.kIn_of Y) ?F (fun _ _ a ns hl _ hS => ⟨a, ns, rfl, hS, hl, fun _ => rfl⟩) (fun _ _ _ _ _ h => Vs.cx_none h)
  case F =>
    intro w mg fa h KX G hmg
    refine' Vs.all_mk KX G hmg ?aC0 ?aC1 ?a_Ratiou_initu ?i_Ratiou_initu ?l_Ratiou_initu ?c_Ratiou_initu ?k_Ratiou_initu ?lt_Ratiou_initu ?a_Ratiou_addu ?i_Ratiou_addu ?l_Ratiou_addu ?c_Ratiou_addu ?k_Ratiou_addu ?a_Ratiou_subu ?i_Ratiou_subu ?l_Ratiou_subu ?c_Ratiou_subu ?k_Ratiou_subu ?a_Ratiou_mulu ?i_Ratiou_mulu ?l_Ratiou_mulu ?c_Ratiou_mulu ?k_Ratiou_mulu ?a_Ratiou_negu ?i_Ratiou_negu ?l_Ratiou_negu ?c_Ratiou_negu ?k_Ratiou_negu ?a_Ratiou_equ ?i_Ratiou_equ ?l_Ratiou_equ ?c_Ratiou_equ ?k_Ratiou_equ ?a__law_stream ?l__law_stream ?c__law_stream ?k__law_stream ?a__law_draw ?l__law_draw ?c__law_draw ?k__law_draw ?a__law_slength ?l__law_slength ?c__law_slength ?k__law_slength ?a__law_ssheet ?l__law_ssheet ?c__law_ssheet ?k__law_ssheet ?a__law_sless ?l__law_sless ?c__law_sless ?k__law_sless ?a__law_sbounds ?l__law_sbounds ?c__law_sbounds ?k__law_sbounds ?a__law_sover ?l__law_sover ?c__law_sover ?k__law_sover ?a__law_smove ?l__law_smove ?c__law_smove ?k__law_smove ?a__law_snumber ?l__law_snumber ?c__law_snumber ?k__law_snumber ?a__law_weigh ?l__law_weigh ?c__law_weigh ?k__law_weigh ?a__law_zone ?l__law_zone ?c__law_zone ?k__law_zone ?a__law_fits ?l__law_fits ?c__law_fits ?k__law_fits ?a__law_show ?l__law_show ?c__law_show ?k__law_show ?a__law_sfault ?l__law_sfault ?c__law_sfault ?k__law_sfault ?a__law_stimes ?l__law_stimes ?c__law_stimes ?k__law_stimes ?a__law_smoment ?l__law_smoment ?c__law_smoment ?k__law_smoment ?a_is_less ?l_is_less ?c_is_less ?k_is_less ?a_is_timing ?l_is_timing ?c_is_timing ?k_is_timing ?a_is_moment ?l_is_moment ?c_is_moment ?k_is_moment ?a__reached ?l__reached ?c__reached ?k__reached ?a_pieces ?l_pieces ?c_pieces ?k_pieces ?a_speed ?l_speed ?c_speed ?k_speed ?a_quotient ?l_quotient ?c_quotient ?k_quotient ?a_way ?l_way ?c_way ?k_way ?a_position ?l_position ?c_position ?k_position ?a__size ?l__size ?c__size ?k__size ?a_stopped ?l_stopped ?c_stopped ?k_stopped ?a__braked ?l__braked ?c__braked ?k__braked ?a__undisturbed ?l__undisturbed ?c__undisturbed ?k__undisturbed ?a_place ?l_place ?c_place ?k_place ?a_is_kept ?l_is_kept ?c_is_kept ?k_is_kept ?a__law_sstate ?l__law_sstate ?c__law_sstate ?k__law_sstate ?a__law_moving ?l__law_moving ?c__law_moving ?k__law_moving ?a__law_braked ?l__law_braked ?c__law_braked ?k__law_braked ?a__law_place ?l__law_place ?c__law_place ?k__law_place ?a__law_weighed ?l__law_weighed ?c__law_weighed ?k__law_weighed ?a__law_kept ?l__law_kept ?c__law_kept ?k__law_kept ?a_law ?l_law ?c_law ?k_law ?pg ?hd ?po ?sa ?n0 ?n1 ?sf ?nf0 ?nf1 ?nf2 ?nf3 ?nf4 ?nf5 ?ne ?ob ?kt0 ?kt1 ?kt2 ?kt3 ?kt4 ?kt5 ?ks ?kb_bool ?kb_list ?kb_tuple ?kb_int ?oa ?on ?ot ?om ?mk ?kc ?x1 ?k1 ?p1 ?t1 ?z_abs ?z_len ?z_int ?z_list ?z_tuple ?z_bool ?z_isinstance ?z_range ?z_zip ?z_enumerate ?z_any ?z_all ?z_sum ?z_repr ?z_max ?z_gcd
    (case aC0 => k_is); (case aC1 => k_is); (case a_Ratiou_initu => k_is); (case i_Ratiou_initu => k_is); (case l_Ratiou_initu => k_is); (case c_Ratiou_initu => k_is); (case k_Ratiou_initu => k_is); (case lt_Ratiou_initu => k_is); (case a_Ratiou_addu => k_is); (case i_Ratiou_addu => k_is); (case l_Ratiou_addu => k_is); (case c_Ratiou_addu => k_is); (case k_Ratiou_addu => k_is); (case a_Ratiou_subu => k_is); (case i_Ratiou_subu => k_is); (case l_Ratiou_subu => k_is); (case c_Ratiou_subu => k_is); (case k_Ratiou_subu => k_is); (case a_Ratiou_mulu => k_is); (case i_Ratiou_mulu => k_is); (case l_Ratiou_mulu => k_is); (case c_Ratiou_mulu => k_is); (case k_Ratiou_mulu => k_is); (case a_Ratiou_negu => k_is); (case i_Ratiou_negu => k_is); (case l_Ratiou_negu => k_is); (case c_Ratiou_negu => k_is); (case k_Ratiou_negu => k_is); (case a_Ratiou_equ => k_is); (case i_Ratiou_equ => k_is); (case l_Ratiou_equ => k_is); (case c_Ratiou_equ => k_is); (case k_Ratiou_equ => k_is); (case a__law_stream => k_is); (case l__law_stream => k_is); (case c__law_stream => k_is); (case k__law_stream => k_is); (case a__law_draw => k_is); (case l__law_draw => k_is); (case c__law_draw => k_is); (case k__law_draw => k_is); (case a__law_slength => k_is); (case l__law_slength => k_is); (case c__law_slength => k_is); (case k__law_slength => k_is); (case a__law_ssheet => k_is); (case l__law_ssheet => k_is); (case c__law_ssheet => k_is); (case k__law_ssheet => k_is); (case a__law_sless => k_is); (case l__law_sless => k_is); (case c__law_sless => k_is); (case k__law_sless => k_is); (case a__law_sbounds => k_is); (case l__law_sbounds => k_is); (case c__law_sbounds => k_is); (case k__law_sbounds => k_is); (case a__law_sover => k_is); (case l__law_sover => k_is); (case c__law_sover => k_is); (case k__law_sover => k_is); (case a__law_smove => k_is); (case l__law_smove => k_is); (case c__law_smove => k_is); (case k__law_smove => k_is); (case a__law_snumber => k_is); (case l__law_snumber => k_is); (case c__law_snumber => k_is); (case k__law_snumber => k_is); (case a__law_weigh => k_is); (case l__law_weigh => k_is); (case c__law_weigh => k_is); (case k__law_weigh => k_is); (case a__law_zone => k_is); (case l__law_zone => k_is); (case c__law_zone => k_is); (case k__law_zone => k_is); (case a__law_fits => k_is); (case l__law_fits => k_is); (case c__law_fits => k_is); (case k__law_fits => k_is); (case a__law_show => k_is); (case l__law_show => k_is); (case c__law_show => k_is); (case k__law_show => k_is); (case a__law_sfault => k_is); (case l__law_sfault => k_is); (case c__law_sfault => k_is); (case k__law_sfault => k_is); (case a__law_stimes => k_is); (case l__law_stimes => k_is); (case c__law_stimes => k_is); (case k__law_stimes => k_is); (case a__law_smoment => k_is); (case l__law_smoment => k_is); (case c__law_smoment => k_is); (case k__law_smoment => k_is); (case a_is_less => k_is); (case l_is_less => k_is); (case c_is_less => k_is); (case k_is_less => k_is); (case a_is_timing => k_is); (case l_is_timing => k_is); (case c_is_timing => k_is); (case k_is_timing => k_is); (case a_is_moment => k_is); (case l_is_moment => k_is); (case c_is_moment => k_is); (case k_is_moment => k_is); (case a__reached => k_is); (case l__reached => k_is); (case c__reached => k_is); (case k__reached => k_is); (case a_pieces => k_is); (case l_pieces => k_is); (case c_pieces => k_is); (case k_pieces => k_is); (case a_speed => k_is); (case l_speed => k_is); (case c_speed => k_is); (case k_speed => k_is); (case a_quotient => k_is); (case l_quotient => k_is); (case c_quotient => k_is); (case k_quotient => k_is); (case a_way => k_is); (case l_way => k_is); (case c_way => k_is); (case k_way => k_is); (case a_position => k_is); (case l_position => k_is); (case c_position => k_is); (case k_position => k_is); (case a__size => k_is); (case l__size => k_is); (case c__size => k_is); (case k__size => k_is); (case a_stopped => k_is); (case l_stopped => k_is); (case c_stopped => k_is); (case k_stopped => k_is); (case a__braked => k_is); (case l__braked => k_is); (case c__braked => k_is); (case k__braked => k_is); (case a__undisturbed => k_is); (case l__undisturbed => k_is); (case c__undisturbed => k_is); (case k__undisturbed => k_is); (case a_place => k_is); (case l_place => k_is); (case c_place => k_is); (case k_place => k_is); (case a_is_kept => k_is); (case l_is_kept => k_is); (case c_is_kept => k_is); (case k_is_kept => k_is); (case a__law_sstate => k_is); (case l__law_sstate => k_is); (case c__law_sstate => k_is); (case k__law_sstate => k_is); (case a__law_moving => k_is); (case l__law_moving => k_is); (case c__law_moving => k_is); (case k__law_moving => k_is); (case a__law_braked => k_is); (case l__law_braked => k_is); (case c__law_braked => k_is); (case k__law_braked => k_is); (case a__law_place => k_is); (case l__law_place => k_is); (case c__law_place => k_is); (case k__law_place => k_is); (case a__law_weighed => k_is); (case l__law_weighed => k_is); (case c__law_weighed => k_is); (case k__law_weighed => k_is); (case a__law_kept => k_is); (case l__law_kept => k_is); (case c__law_kept => k_is); (case k__law_kept => k_is); (case a_law => k_is); (case l_law => k_is); (case c_law => k_is); (case k_law => k_is); (case pg => k_is); (case hd => k_is); (case po => k_is); (case sa => k_is); (case n0 => k_is); (case n1 => k_is); (case sf => k_is); (case nf0 => k_is); (case nf1 => k_is); (case nf2 => k_is); (case nf3 => k_is); (case nf4 => k_is); (case nf5 => k_is); (case ne => k_is); (case ob => k_is); (case kt0 => kit_is); (case kt1 => kit_is); (case kt2 => kit_is); (case kt3 => kit_is); (case kt4 => kit_is); (case kt5 => kit_is); (case ks => kit_is); (case kb_bool => kit_is); (case kb_list => kit_is); (case kb_tuple => kit_is); (case kb_int => kit_is); (case oa => k_is); (case on => k_is); (case ot => k_is); (case om => k_is); (case mk => k_is); (case kc => k_is); (case x1 => k_exc); (case k1 => k_is); (case p1 => k_is); (case t1 => k_is); (case z_abs => k_is); (case z_len => k_is); (case z_int => k_is); (case z_list => k_is); (case z_tuple => k_is); (case z_bool => k_is); (case z_isinstance => k_is); (case z_range => k_is); (case z_zip => k_is); (case z_enumerate => k_is); (case z_any => k_is); (case z_all => k_is); (case z_sum => k_is); (case z_repr => k_is); (case z_max => k_is); (case z_gcd => k_is)
