import PyProof.Rows.All
import Wide.All
import OpenK.AllK
import Wide.FinOn
import HandS.Base
import HandS.Call
import HandS.List
import HandS.Comp
import HandS.Words
import HandS.WordsList
import HandS.Exc
import HandS.ExcOwn
import HandS.TryOnly
import HandS.Wide
import HandS.More
import HandS.IsInst
import HandS.Gcd
import HandS.WideBits
import HandS.TupAny
import HandS.CallSlots
import HandS.WordsExc
import OpenK.KMeth
import OpenK.KWalk
import OpenK.KMake
import KE.KOpsOwn
import PyProof.InstEq
import PyProof.CallFns
import HandS.Defaults
import HandS.Ends
import HandS.ExcIs
import HandS.StrMore
import HandS.Flow
import PyProof.NoPylong
import KE.KxIndex
import HandS.Iter
import HandS.Star
import KE.KMathG
import HandS.Style
import HandS.Zip
import HandS.OwnEq
import HandS.TupMul
import KE.GoesEnum
import KE.GoesMore
import PyProof.TupleOfSeq
import HandS.Deep
import KE.RegKIsAll
import PySem.Challenge.RW_traproom_k04_vertices
set_option Elab.async false
set_option linter.all false
set_option maxRecDepth 100000
namespace Vs
open PySem PySem.Spec PyProof.Rows L2
/-- data without places -/
inductive P where
  | non | bl (b : Bool) | int (i : Int) | str (s : Str) | tup (xs : List P) | lst (xs : List P) | wl (xs : List P) | obj (c : Nat) (xs : List P)
/-- a value: data, or a place of the store -/
inductive D where
  | p (x : P) | loc (l : Nat)
/-- what stands at a place -/
inductive MO where
  | lst (xs : List P) | ins (c : Nat) (xs : List P) | dl (ds : List D)
abbrev Mu := List (Option MO)
abbrev Sl := List (Option D)
/-- what is fixed: the written part, the classes' addresses, their fields -/
structure Amb where
  K : PySem.W.Frag
  cl : Nat → Addr
  fl : Nat → List Str
mutual
inductive Rep (α : Amb) (G : Hp) : V → P → Prop
  | non : Rep α G .non .non
  | bl (b : Bool) : Rep α G (.bl b) (.bl b)
  | int (i : Int) : Rep α G (.int i) (.int i)
  | str (s : Str) : Rep α G (.str s) (.str s)
  | tup {a : Addr} {vs : List V} {xs : List P} : SqT α.K G a vs → Reps α G vs xs → Rep α G (.ref a) (.tup xs)
  | lst {a : Addr} {vs : List V} {xs : List P} : G a = some (.lst vs) → Reps α G vs xs → Rep α G (.ref a) (.lst xs)
  | wl {a : Addr} {vs : List V} {xs : List P} : SqL α.K G a vs → Reps α G vs xs → Rep α G (.ref a) (.wl xs)
  | obj {a dx : Addr} {c : Nat} {vs : List V} {xs : List P} : G a = some (.ins (α.cl c) dx ((α.fl c).zip vs)) → vs.length = (α.fl c).length → Reps α G vs xs → Rep α G (.ref a) (.obj c xs)
inductive Reps (α : Amb) (G : Hp) : List V → List P → Prop
  | nil : Reps α G [] []
  | cons {v : V} {vs : List V} {x : P} {xs : List P} : Rep α G v x → Reps α G vs xs → Reps α G (v :: vs) (x :: xs)
end
theorem seqT {K : PySem.W.Frag} {H H' : Hp} {a : Addr} {xs : List V} (e : Same H H') (h : SqT K H a xs) : SqT K H' a xs :=
  h.elim (fun h => .inl (h.elim (fun h => .inl (e _ _ h)) fun ⟨o, h⟩ => .inr ⟨o, e _ _ h⟩)) fun h => .inr h
theorem seqL {K : PySem.W.Frag} {H H' : Hp} {a : Addr} {xs : List V} (e : Same H H') (h : SqL K H a xs) : SqL K H' a xs := e.seq h
mutual
theorem Rep.mono {α : Amb} {G G' : Hp} (s : Same G G') : ∀ {v : V} {x : P}, Rep α G v x → Rep α G' v x
  | _, _, .non => .non
  | _, _, .bl b => .bl b
  | _, _, .int i => .int i
  | _, _, .str z => .str z
  | _, _, .tup h r => .tup (seqT s h) (r.mono s)
  | _, _, .lst h r => .lst (s _ _ h) (r.mono s)
  | _, _, .wl h r => .wl (seqL s h) (r.mono s)
  | _, _, .obj h l r => .obj (s _ _ h) l (r.mono s)
theorem Reps.mono {α : Amb} {G G' : Hp} (s : Same G G') : ∀ {vs : List V} {xs : List P}, Reps α G vs xs → Reps α G' vs xs
  | _, _, .nil => .nil
  | _, _, .cons h t => .cons (h.mono s) (t.mono s)
end
theorem Reps.length {α : Amb} {G : Hp} : ∀ {vs : List V} {xs : List P}, Reps α G vs xs → vs.length = xs.length
  | _, _, .nil => rfl
  | _, _, .cons _ t => congrArg (· + 1) t.length
theorem Reps.get {α : Amb} {G : Hp} : ∀ {vs : List V} {xs : List P} {i : Nat} {x : P}, Reps α G vs xs → xs[i]? = some x → ∃ v, vs[i]? = some v ∧ Rep α G v x
  | _, _, _, _, .nil, e => by simp at e
  | _, _, 0, _, .cons h _, e => by simp at e; subst e; exact ⟨_, rfl, h⟩
  | _, _, i + 1, x, .cons _ t, e => by
    obtain ⟨u, h1, h2⟩ := Reps.get (i := i) (x := x) t (by simpa using e)
    exact ⟨u, by simpa using h1, h2⟩
theorem Reps.append {α : Amb} {G : Hp} : ∀ {vs ws : List V} {xs ys : List P}, Reps α G vs xs → Reps α G ws ys → Reps α G (vs ++ ws) (xs ++ ys)
  | _, _, _, _, .nil, s => s
  | _, _, _, _, .cons r t, s => .cons r (Reps.append t s)
theorem Reps.set {α : Amb} {G : Hp} {v : V} {x : P} (r : Rep α G v x) : ∀ {vs : List V} {xs : List P} (i : Nat), Reps α G vs xs → Reps α G (vs.set i v) (xs.set i x)
  | _, _, _, .nil => .nil
  | _, _, 0, .cons _ t => .cons r t
  | _, _, i + 1, .cons q t => .cons q (Reps.set r i t)
theorem Reps.take {α : Amb} {G : Hp} : ∀ {vs : List V} {xs : List P} (n : Nat), Reps α G vs xs → Reps α G (vs.take n) (xs.take n)
  | _, _, 0, _ => .nil
  | _, _, _ + 1, .nil => .nil
  | _, _, n + 1, .cons r t => .cons r (Reps.take n t)
theorem Reps.drop {α : Amb} {G : Hp} : ∀ {vs : List V} {xs : List P} (n : Nat), Reps α G vs xs → Reps α G (vs.drop n) (xs.drop n)
  | _, _, 0, r => r
  | _, _, _ + 1, .nil => .nil
  | _, _, n + 1, .cons _ t => Reps.drop n t
def RepD (α : Amb) (G : Hp) (ρ : List Addr) (v : V) : D → Prop
  | .p x => Rep α G v x
  | .loc l => ∃ a, v = .ref a ∧ ρ[l]? = some a
inductive RepDs (α : Amb) (G : Hp) (ρ : List Addr) : List V → List D → Prop
  | nil : RepDs α G ρ [] []
  | cons {v : V} {vs : List V} {x : D} {xs : List D} : RepD α G ρ v x → RepDs α G ρ vs xs → RepDs α G ρ (v :: vs) (x :: xs)
/-- the ground and the places have grown -/
structure Up (G : Hp) (ρ : List Addr) (G' : Hp) (ρ' : List Addr) : Prop where
  same : Same G G'
  pre : ∃ r, ρ' = ρ ++ r
theorem Up.refl {G : Hp} {ρ : List Addr} : Up G ρ G ρ := ⟨Same.refl G, [], (List.append_nil ρ).symm⟩
theorem Up.trans {G G1 G2 : Hp} {ρ ρ1 ρ2 : List Addr} (a : Up G ρ G1 ρ1) (b : Up G1 ρ1 G2 ρ2) : Up G ρ G2 ρ2 := by
  obtain ⟨s, r, rfl⟩ := a
  obtain ⟨s', r', rfl⟩ := b
  exact ⟨s.trans s', r ++ r', by rw [List.append_assoc]⟩
theorem Up.get {G G' : Hp} {ρ ρ' : List Addr} (u : Up G ρ G' ρ') {l : Nat} {a : Addr} (h : ρ[l]? = some a) : ρ'[l]? = some a := by
  obtain ⟨_, r, rfl⟩ := u
  rw [List.getElem?_append_left (List.getElem?_eq_some_iff.mp h).1]
  exact h
theorem RepD.up {α : Amb} {G G' : Hp} {ρ ρ' : List Addr} {v : V} {d : D} (u : Up G ρ G' ρ') (h : RepD α G ρ v d) : RepD α G' ρ' v d := by
  cases d with
  | p x => exact Rep.mono u.same h
  | loc l => obtain ⟨a, e, h⟩ := h; exact ⟨a, e, u.get h⟩
theorem RepDs.up {α : Amb} {G G' : Hp} {ρ ρ' : List Addr} (u : Up G ρ G' ρ') : ∀ {vs : List V} {ds : List D}, RepDs α G ρ vs ds → RepDs α G' ρ' vs ds
  | _, _, .nil => .nil
  | _, _, .cons h t => .cons (h.up u) (t.up u)
theorem RepDs.length {α : Amb} {G : Hp} {ρ : List Addr} : ∀ {vs : List V} {ds : List D}, RepDs α G ρ vs ds → vs.length = ds.length
  | _, _, .nil => rfl
  | _, _, .cons _ t => congrArg (· + 1) t.length
theorem RepDs.append {α : Amb} {G : Hp} {ρ : List Addr} : ∀ {vs ws : List V} {xs ys : List D}, RepDs α G ρ vs xs → RepDs α G ρ ws ys → RepDs α G ρ (vs ++ ws) (xs ++ ys)
  | _, _, _, _, .nil, s => s
  | _, _, _, _, .cons r t, s => .cons r (RepDs.append t s)
theorem RepDs.get {α : Amb} {G : Hp} {ρ : List Addr} : ∀ {vs : List V} {xs : List D} {i : Nat} {x : D}, RepDs α G ρ vs xs → xs[i]? = some x → ∃ v, vs[i]? = some v ∧ RepD α G ρ v x
  | _, _, _, _, .nil, e => by simp at e
  | _, _, 0, _, .cons h _, e => by simp at e; subst e; exact ⟨_, rfl, h⟩
  | _, _, i + 1, x, .cons _ t, e => by
    obtain ⟨u, h1, h2⟩ := RepDs.get (i := i) (x := x) t (by simpa using e)
    exact ⟨u, by simpa using h1, h2⟩
/-- places before l alone -/
def Blw (l : Nat) (ds : List D) : Prop := ∀ k, D.loc k ∈ ds → k < l
theorem Blw.le {l l' : Nat} {ds : List D} (h : Blw l ds) (e : l ≤ l') : Blw l' ds := fun k hk => Nat.lt_of_lt_of_le (h k hk) e
theorem RepDs.cut {α : Amb} {G : Hp} {ρ0 r : List Addr} {l : Nat} (hl : l ≤ ρ0.length) : ∀ {vs : List V} {ds : List D}, RepDs α G (ρ0 ++ r) vs ds → Blw l ds → RepDs α G ρ0 vs ds
  | _, _, .nil, _ => .nil
  | _, _, .cons (x := d) h t, b => .cons (by
      cases d with
      | p x => exact h
      | loc k =>
        obtain ⟨a, e, h⟩ := h
        have hk := b k List.mem_cons_self
        exact ⟨a, e, by rw [List.getElem?_append_left (by omega)] at h; exact h⟩) (RepDs.cut hl t fun k hk => b k (List.mem_cons_of_mem _ hk))
/-- what stands in the heap at the place l -/
def MRep (α : Amb) (G : Hp) (ρ : List Addr) (l : Nat) (o : Option HO) : MO → Prop
  | .lst xs => ∃ vs, o = some (.lst vs) ∧ Reps α G vs xs
  | .ins c xs => ∃ dx vs, o = some (.ins (α.cl c) dx ((α.fl c).zip vs)) ∧ vs.length ≤ (α.fl c).length ∧ Reps α G vs xs
  | .dl ds => ∃ vs, o = some (.lst vs) ∧ RepDs α G ρ vs ds ∧ Blw l ds
theorem MRep.up {α : Amb} {G G' : Hp} {ρ ρ' : List Addr} {l : Nat} {o : Option HO} {m : MO} (u : Up G ρ G' ρ') (h : MRep α G ρ l o m) : MRep α G' ρ' l o m := by
  cases m with
  | lst xs => obtain ⟨vs, e, r⟩ := h; exact ⟨vs, e, r.mono u.same⟩
  | ins c xs => obtain ⟨dx, vs, e, l, r⟩ := h; exact ⟨dx, vs, e, l, r.mono u.same⟩
  | dl ds => obtain ⟨vs, e, r, b⟩ := h; exact ⟨vs, e, r.up u, b⟩
theorem MRep.ne {α : Amb} {G : Hp} {ρ : List Addr} {l : Nat} {o : Option HO} {m : MO} (h : MRep α G ρ l o m) : o ≠ none := by
  cases m with
  | lst xs => obtain ⟨vs, e, r⟩ := h; rw [e]; intro z; cases z
  | ins c xs => obtain ⟨dx, vs, e, l, r⟩ := h; rw [e]; intro z; cases z
  | dl ds => obtain ⟨vs, e, r, b⟩ := h; rw [e]; intro z; cases z
theorem MRep.cut {α : Amb} {G : Hp} {ρ0 r : List Addr} {l : Nat} {o : Option HO} {m : MO} (hl : l ≤ ρ0.length) (h : MRep α G (ρ0 ++ r) l o m) : MRep α G ρ0 l o m := by
  cases m with
  | lst xs => exact h
  | ins c xs => exact h
  | dl ds => obtain ⟨vs, e, r, b⟩ := h; exact ⟨vs, e, r.cut hl b, b⟩
structure Zn (α : Amb) (H G : Hp) (ρ : List Addr) (μ : Mu) : Prop where
  sub : Same G H
  len : ρ.length = μ.length
  cell : ∀ (l : Nat) (m : MO), μ[l]? = some (some m) → ∃ a, ρ[l]? = some a ∧ G a = none ∧ MRep α G ρ l (H a) m
  inj : ∀ (l l' : Nat) (m m' : MO) (a : Addr), μ[l]? = some (some m) → μ[l']? = some (some m') → ρ[l]? = some a → ρ[l']? = some a → l = l'
theorem same_upd {H : Hp} {p : Addr} {o : HO} (h : H p = none) : Same H (upd H p o) := fun b x e => by
  rw [upd_ne (ne_of_none e h)]
  exact e
theorem up_new {G : Hp} {ρ : List Addr} {p : Addr} {o : HO} (h : G p = Option.none) : Up G ρ (upd G p o) ρ := ⟨same_upd h, [], (List.append_nil ρ).symm⟩
theorem up_place {G : Hp} {ρ : List Addr} {p : Addr} : Up G ρ G (ρ ++ [p]) := ⟨Same.refl G, [p], rfl⟩
theorem Zn.free {α : Amb} {H G : Hp} {ρ : List Addr} {μ : Mu} (z : Zn α H G ρ μ) {p : Addr} (h : H p = none) : G p = none := by
  cases e : G p with
  | none => rfl
  | some o => rw [z.sub _ _ e] at h; cases h
/-- a new object, into the ground -/
theorem Zn.new {α : Amb} {H G : Hp} {ρ : List Addr} {μ : Mu} (z : Zn α H G ρ μ) {p : Addr} (h : H p = none) (o : HO) : Zn α (upd H p o) (upd G p o) ρ μ := by
  have g := z.free h
  refine ⟨fun b x e => ?_, z.len, fun l m e => ?_, z.inj⟩
  · by_cases hb : b = p
    · subst hb; rw [upd_same] at e ⊢; exact e
    · rw [upd_ne hb] at e ⊢; exact z.sub _ _ e
  · obtain ⟨a, h1, h2, h3⟩ := z.cell l m e
    have hap : a ≠ p := fun q => by subst q; exact h3.ne h
    exact ⟨a, h1, by rw [upd_ne hap]; exact h2, by rw [upd_ne hap]; exact h3.up (up_new g)⟩
/-- a new object that is not told -/
theorem Zn.grow {α : Amb} {H H' G : Hp} {ρ : List Addr} {μ : Mu} (z : Zn α H G ρ μ) (s : Same H H') : Zn α H' G ρ μ := by
  refine ⟨z.sub.trans s, z.len, fun l m e => ?_, z.inj⟩
  obtain ⟨a, h1, h2, h3⟩ := z.cell l m e
  refine ⟨a, h1, h2, ?_⟩
  cases q : H a with
  | none => exact absurd q h3.ne
  | some o => rw [s _ _ q]; rw [q] at h3; exact h3
/-- a new place -/
theorem Zn.place {α : Amb} {H G : Hp} {ρ : List Addr} {μ : Mu} (z : Zn α H G ρ μ) {p : Addr} (h : H p = Option.none) {o : HO} {m : MO} (r : MRep α G ρ μ.length (some o) m) : Zn α (upd H p o) G (ρ ++ [p]) (μ ++ [some m]) := by
  have g := z.free h
  have old : ∀ {l : Nat} {m' : MO}, (μ ++ [some m])[l]? = some (some m') → (l < μ.length ∧ μ[l]? = some (some m')) ∨ (l = μ.length ∧ m' = m) := fun {l m'} e => by
    by_cases hl : l < μ.length
    · rw [List.getElem?_append_left hl] at e; exact .inl ⟨hl, e⟩
    · rw [List.getElem?_append_right (by omega)] at e
      by_cases h0 : l - μ.length = 0
      · rw [h0] at e
        simp at e
        exact .inr ⟨by omega, e.symm⟩
      · rw [List.getElem?_eq_none (by simp; omega)] at e; cases e
  have at_old : ∀ {l : Nat}, l < μ.length → (ρ ++ [p])[l]? = ρ[l]? := fun {l} hl => List.getElem?_append_left (by rw [z.len]; exact hl)
  have at_new : (ρ ++ [p])[μ.length]? = some p := by rw [← z.len]; simp
  refine ⟨fun b x e => ?_, by simp [z.len], fun l m' e => ?_, fun l l' m1 m2 a e1 e2 h1 h2 => ?_⟩
  · rw [upd_ne (ne_of_none e g)]; exact z.sub _ _ e
  · rcases old e with ⟨hl, e⟩ | ⟨rfl, rfl⟩
    · obtain ⟨a, h1, h2, h3⟩ := z.cell l m' e
      have hap : a ≠ p := fun q => by subst q; exact h3.ne h
      exact ⟨a, by rw [at_old hl]; exact h1, h2, by rw [upd_ne hap]; exact h3.up up_place⟩
    · exact ⟨p, at_new, g, by rw [upd_same]; exact r.up up_place⟩
  · have notp : ∀ {l : Nat} {m' : MO}, l < μ.length → μ[l]? = some (some m') → ρ[l]? ≠ some p := fun {l m'} hl e q => by
      obtain ⟨b, b1, b2, b3⟩ := z.cell l m' e
      rw [q] at b1; cases b1
      exact b3.ne h
    rcases old e1 with ⟨k1, f1⟩ | ⟨q1, _⟩ <;> rcases old e2 with ⟨k2, f2⟩ | ⟨q2, _⟩
    · rw [at_old k1] at h1; rw [at_old k2] at h2
      exact z.inj _ _ _ _ _ f1 f2 h1 h2
    · subst q2
      rw [at_old k1] at h1; rw [at_new] at h2; cases h2
      exact absurd h1 (notp k1 f1)
    · subst q1
      rw [at_old k2] at h2; rw [at_new] at h1; cases h1
      exact absurd h2 (notp k2 f2)
    · rw [q1, q2]
/-- a place is written -/
theorem Zn.write {α : Amb} {H G : Hp} {ρ : List Addr} {μ : Mu} (z : Zn α H G ρ μ) {l : Nat} {a : Addr} {m m' : MO} (hm : μ[l]? = some (some m)) (ha : ρ[l]? = some a) {o : HO} (r : MRep α G ρ l (some o) m') : Zn α (upd H a o) G ρ (μ.set l (some m')) := by
  have hl : l < μ.length := (List.getElem?_eq_some_iff.mp hm).1
  obtain ⟨a', h1, h2, h3⟩ := z.cell l m hm
  rw [ha] at h1; cases h1
  have live : ∀ {k : Nat} {mk : MO}, (μ.set l (some m'))[k]? = some (some mk) → ∃ mk', μ[k]? = some (some mk') := fun {k mk} e => by
    by_cases hk : l = k
    · subst hk; exact ⟨m, hm⟩
    · rw [List.getElem?_set_ne hk] at e; exact ⟨mk, e⟩
  refine ⟨fun b x e => ?_, by rw [List.length_set]; exact z.len, fun k mk e => ?_, fun k k' m1 m2 b e1 e2 g1 g2 => ?_⟩
  · rw [upd_ne (ne_of_none e h2)]; exact z.sub _ _ e
  · by_cases hk : l = k
    · subst hk
      rw [List.getElem?_set_self hl] at e
      cases e
      exact ⟨a, ha, h2, by rw [upd_same]; exact r⟩
    · rw [List.getElem?_set_ne hk] at e
      obtain ⟨b, b1, b2, b3⟩ := z.cell k mk e
      have hab : b ≠ a := fun q => by
        subst q
        exact hk (z.inj _ _ _ _ _ hm e ha b1)
      exact ⟨b, b1, b2, by rw [upd_ne hab]; exact b3⟩
  · obtain ⟨n1, e1⟩ := live e1
    obtain ⟨n2, e2⟩ := live e2
    exact z.inj _ _ _ _ _ e1 e2 g1 g2
/-- a place is taken into the ground -/
theorem Zn.freeze {α : Amb} {H G : Hp} {ρ : List Addr} {μ : Mu} (z : Zn α H G ρ μ) {l : Nat} {a : Addr} {m : MO} {o : HO} (hm : μ[l]? = some (some m)) (ha : ρ[l]? = some a) (ho : H a = some o) : Zn α H (upd G a o) ρ (μ.set l Option.none) ∧ G a = Option.none := by
  have hl : l < μ.length := (List.getElem?_eq_some_iff.mp hm).1
  obtain ⟨a', h1, h2, h3⟩ := z.cell l m hm
  rw [ha] at h1; cases h1
  have live : ∀ {k : Nat} {mk : MO}, (μ.set l Option.none)[k]? = some (some mk) → l ≠ k ∧ μ[k]? = some (some mk) := fun {k mk} e => by
    by_cases hk : l = k
    · subst hk; rw [List.getElem?_set_self hl] at e; cases e
    · rw [List.getElem?_set_ne hk] at e; exact ⟨hk, e⟩
  refine ⟨⟨fun b x e => ?_, by rw [List.length_set]; exact z.len, fun k mk e => ?_, fun k k' m1 m2 b e1 e2 g1 g2 => ?_⟩, h2⟩
  · by_cases hb : b = a
    · subst hb; rw [upd_same] at e; cases e; exact ho
    · rw [upd_ne hb] at e; exact z.sub _ _ e
  · obtain ⟨hk, e⟩ := live e
    obtain ⟨b, b1, b2, b3⟩ := z.cell k mk e
    have hab : b ≠ a := fun q => by
      subst q
      exact hk (z.inj _ _ _ _ _ hm e ha b1)
    exact ⟨b, b1, by rw [upd_ne hab]; exact b2, b3.up (up_new h2)⟩
  · exact z.inj _ _ _ _ _ (live e1).2 (live e2).2 g1 g2
/-- the places beyond n are forgotten -/
theorem Zn.cut {α : Amb} {H G : Hp} {ρ ρ0 : List Addr} {μ : Mu} (z : Zn α H G ρ μ) {r : List Addr} (e : ρ = ρ0 ++ r) : Zn α H G ρ0 (μ.take ρ0.length) := by
  subst e
  have hl : ρ0.length ≤ μ.length := by rw [← z.len, List.length_append]; omega
  have old : ∀ {l : Nat} {m : MO}, (μ.take ρ0.length)[l]? = some (some m) → l < ρ0.length ∧ μ[l]? = some (some m) := fun {l m} e => by
    by_cases h : l < ρ0.length
    · rw [List.getElem?_take_of_lt h] at e; exact ⟨h, e⟩
    · rw [List.getElem?_eq_none (by rw [List.length_take]; omega)] at e; cases e
  refine ⟨z.sub, by rw [List.length_take]; omega, fun l m e => ?_, fun l l' m m' a e1 e2 h1 h2 => ?_⟩
  · obtain ⟨h, e⟩ := old e
    obtain ⟨a, h1, h2, h3⟩ := z.cell l m e
    rw [List.getElem?_append_left h] at h1
    exact ⟨a, h1, h2, h3.cut (Nat.le_of_lt h)⟩
  · obtain ⟨k1, e1⟩ := old e1
    obtain ⟨k2, e2⟩ := old e2
    exact z.inj _ _ _ _ a e1 e2 (by rw [List.getElem?_append_left k1]; exact h1) (by rw [List.getElem?_append_left k2]; exact h2)
/-- the slots -/
structure Sq (α : Amb) (G : Hp) (ρ : List Addr) (σ : L2.St) (δ : Sl) : Prop where
  len : σ.length = δ.length
  get : ∀ (i : Nat) (d : D), δ[i]? = some (some d) → ∃ v, σ[i]? = some (some v) ∧ RepD α G ρ v d
theorem Sq.up {α : Amb} {G G' : Hp} {ρ ρ' : List Addr} {σ : L2.St} {δ : Sl} (s : Sq α G ρ σ δ) (u : Up G ρ G' ρ') : Sq α G' ρ' σ δ :=
  ⟨s.len, fun i d e => let ⟨v, h, r⟩ := s.get i d e; ⟨v, h, r.up u⟩⟩
theorem Sq.set {α : Amb} {G : Hp} {ρ : List Addr} {σ : L2.St} {δ : Sl} (s : Sq α G ρ σ δ) {v : V} {d : D} (r : RepD α G ρ v d) (i : Nat) : Sq α G ρ (σ.set i (some v)) (δ.set i (some d)) := by
  refine ⟨by rw [List.length_set, List.length_set]; exact s.len, fun j x e => ?_⟩
  by_cases h : i = j
  · subst h
    have hl : i < δ.length := by
      have := (List.getElem?_eq_some_iff.mp e).1
      rw [List.length_set] at this
      exact this
    rw [List.getElem?_set_self hl] at e
    cases e
    exact ⟨v, by rw [List.getElem?_set_self (by rw [s.len]; exact hl)], r⟩
  · rw [List.getElem?_set_ne h] at e ⊢
    exact s.get j x e
theorem Sq.start {α : Amb} {G : Hp} {ρ : List Addr} {N : List Str} {vs : List V} {ds : List D} (r : RepDs α G ρ vs ds) : Sq α G ρ (start N vs) (ds.map some ++ List.replicate (N.length - ds.length) none) := by
  unfold L2.start
  refine ⟨by simp [r.length], fun i d e => ?_⟩
  by_cases h : i < ds.length
  · rw [List.getElem?_append_left (by simpa using h), List.getElem?_map] at e
    cases q : ds[i]? with
    | none => rw [q] at e; cases e
    | some x =>
      rw [q] at e; cases e
      obtain ⟨v, h1, h2⟩ := r.get q
      exact ⟨v, by rw [List.getElem?_append_left (by simpa [r.length] using h), List.getElem?_map, h1]; rfl, h2⟩
  · rw [List.getElem?_append_right (by simpa using h), List.getElem?_replicate] at e
    split at e <;> cases e
inductive Out (β : Type) where
  | ok (x : β) | exc (c : Nat)
abbrev EvG (β : Type) := Sl → Mu → Option (Out β × Mu)
abbrev Ev := EvG D
abbrev EvA := EvG (List D)
abbrev EvT := EvG Bool
abbrev FSem := List D → Mu → Option (Out D × Mu)
section
variable (α : Amb) (W : WX)
/-- how a reading goes on: R v H' for what the value may be -/
def Post {β γ : Type} (rep : Hp → List Addr → γ → β → Prop) (G : Hp) (ρ : List Addr) (σ : L2.St) (Q : γ → Hp → Prop) : Option (Out β × Mu) → Prop
  | some (.ok x, μ') => ∀ v H' G' ρ', Up G ρ G' ρ' → Zn α H' G' ρ' μ' → rep G' ρ' v x → Q v H'
  | some (.exc c, μ') => ∀ H' G' ρ', Up G ρ G' ρ' → Zn α H' G' ρ' μ' → W (.ref (α.cl c)) none σ H'
  | none => False
def tG {β γ : Type} (rep : Hp → List Addr → γ → β → Prop) (ev : EvG β) : L2.St → Hp → (γ → Hp → Prop) → Prop :=
  fun σ H Q => ∃ G ρ δ μ, Zn α H G ρ μ ∧ Sq α G ρ σ δ ∧ Post α W rep G ρ σ Q (ev δ μ)
abbrev tV (ev : Ev) : TE := tG α W (RepD α) ev
abbrev tVs (ev : EvA) : TA := tG α W (RepDs α) ev
abbrev tVt (ev : EvT) : TT := tG α W (fun _ _ (b c : Bool) => b = c) ev
end
variable {α : Amb} {W : WX}
def bindG {β γ : Type} (m : Option (Out β × Mu)) (f : β → Mu → Option (Out γ × Mu)) : Option (Out γ × Mu) := match m with
  | some (.ok x, μ) => f x μ
  | some (.exc c, μ) => some (.exc c, μ)
  | none => none
theorem Post.mono {β γ : Type} {rep : Hp → List Addr → γ → β → Prop} {G : Hp} {ρ : List Addr} {σ : L2.St} {Q Q' : γ → Hp → Prop} {m : Option (Out β × Mu)} (h : Post α W rep G ρ σ Q m) (hq : ∀ v H, Q v H → Q' v H) : Post α W rep G ρ σ Q' m := by
  match m, h with
  | some (.ok x, μ'), h => exact fun v H' G' ρ' u z r => hq _ _ (h v H' G' ρ' u z r)
  | some (.exc c, μ'), h => exact h
/-- one reading behind another -/
theorem Post.bind {β γ β' γ' : Type} {rep : Hp → List Addr → γ → β → Prop} {rep' : Hp → List Addr → γ' → β' → Prop} {G : Hp} {ρ : List Addr} {σ : L2.St} {Q : γ → Hp → Prop} {Q' : γ' → Hp → Prop} {m : Option (Out β × Mu)} {f : β → Mu → Option (Out β' × Mu)}
    (h : Post α W rep' G ρ σ Q' (bindG m f))
    (go : ∀ x μ' v H' G' ρ', Up G ρ G' ρ' → Zn α H' G' ρ' μ' → rep G' ρ' v x → Post α W rep' G' ρ' σ Q' (f x μ') → Q v H') : Post α W rep G ρ σ Q m := by
  match m, h with
  | some (.ok x, μ'), h =>
    intro v H' G' ρ' u z r
    refine go x μ' v H' G' ρ' u z r ?_
    have h : Post α W rep' G ρ σ Q' (f x μ') := h
    match hf : f x μ', h with
    | some (.ok y, μ2), h => exact fun v2 H2 G2 ρ2 u2 z2 r2 => h v2 H2 G2 ρ2 (u.trans u2) z2 r2
    | some (.exc c, μ2), h => exact fun H2 G2 ρ2 u2 z2 => h H2 G2 ρ2 (u.trans u2) z2
  | some (.exc c, μ'), h => exact h
theorem PE.imp {X : Cx} {e : Expr} {t t' : TE} (h : PE X e t) (i : ∀ σ H Q, t' σ H Q → t σ H Q) : PE X e t' := ⟨fun pins s σ H Q I q => h.run pins s σ H Q I (i _ _ _ q)⟩
theorem PT.imp {X : Cx} {e : Expr} {t t' : TT} (h : PT X e t) (i : ∀ σ H Q, t' σ H Q → t σ H Q) : PT X e t' := ⟨fun pins s σ H Q I q => h.run pins s σ H Q I (i _ _ _ q)⟩
theorem PW.imp {X : Cx} {e : Expr} {t t' : TT} (h : PW X e t) (i : ∀ σ H Q, t' σ H Q → t σ H Q) : PW X e t' := ⟨fun w pins s σ H Q I q => h.run w pins s σ H Q I (i _ _ _ q)⟩
theorem PA.imp {X : Cx} {es : List Expr} {t t' : TA} (h : PA X es t) (i : ∀ σ H Q, t' σ H Q → t σ H Q) : PA X es t' := ⟨fun p pins s σ H Q I q => h.run p pins s σ H Q I (i _ _ _ q)⟩
theorem PS.imp {X : Cx} {st : Stmt} {t t' : TS} (h : PS X st t) (i : ∀ D σ H, t' D σ H → t D σ H) : PS X st t' := ⟨fun pins s σ H D I q => h.run pins s σ H D I (i _ _ _ q)⟩
theorem PSs.imp {X : Cx} {st : List Stmt} {t t' : TS} (h : PSs X st t) (i : ∀ D σ H, t' D σ H → t D σ H) : PSs X st t' := ⟨fun pins s σ H D I q => h.run pins s σ H D I (i _ _ _ q)⟩
end Vs
namespace Vs
open PySem PySem.Spec PyProof.Rows L2
theorem OpR.imp {X : Cx} {g : Value → Value → Sem Value} {r r' : R2} (h : OpR X g r) (i : ∀ x y H Q, r' x y H Q → r x y H Q) : OpR X g r' :=
  fun pins s σ H x y v u Q I rx ry q => h pins s σ H x y v u Q I rx ry (i _ _ _ _ q)
theorem UnR.imp {X : Cx} {g : Value → Sem Value} {r r' : V → Hp → VK → Prop} (h : UnR X g r) (i : ∀ x H Q, r' x H Q → r x H Q) : UnR X g r' := by
  intro pins s σ H x v Q I rx q
  exact h pins s σ H x v Q I rx (i _ _ _ q)
theorem CallR.imp {X : Cx} {f : Value} {r r' : List V → Hp → VK → Prop} (h : CallR X f r) (i : ∀ x H Q, r' x H Q → r x H Q) : CallR X f r' :=
  fun pins s σ H x v Q I rx q => h pins s σ H x v Q I rx (i _ _ _ q)
theorem IxR.imp {X : Cx} {r r' : R2} (h : IxR X r) (i : ∀ x y H Q, r' x y H Q → r x y H Q) : IxR X r' := by
  intro e1 e2 pins s σ H x y v u Q I rx ry q hs
  exact h e1 e2 pins s σ H x y v u Q I rx ry (i _ _ _ _ q) hs
theorem MtR.imp {X : Cx} {id : String} {r r' : V → List V → Hp → VK → Prop} (h : MtR X id r) (i : ∀ x y H Q, r' x y H Q → r x y H Q) : MtR X id r' :=
  fun pins s σ H x y v u Q I rx ry q => h pins s σ H x y v u Q I rx ry (i _ _ _ _ q)
section
variable {α : Amb} {W : WX} {X : Cx}
def evC (x : P) : Ev := fun _ μ => some (.ok (.p x), μ)
theorem v_const {e : Expr} {v : V} {x : P} (h : PE X e (tC v)) (r : ∀ G, Rep α G v x) : PE X e (tV α W (evC x)) :=
  PE.imp h fun σ H Q ⟨G, ρ, δ, μ, z, s, p⟩ => p v H G ρ Up.refl z (r G)
theorem v_int {i j pos} : PE X (.Constant (.int i) j pos) (tV α W (evC (.int i))) := v_const pe_int fun _ => .int i
theorem v_bl {b j pos} : PE X (.Constant (.bool b) j pos) (tV α W (evC (.bl b))) := v_const pe_bl fun _ => .bl b
theorem v_non {j pos} : PE X (.Constant .none j pos) (tV α W (evC .non)) := v_const pe_non fun _ => .non
def evV (i : Nat) : Ev := fun δ μ => match δ[i]? with
  | some (some d) => some (.ok d, μ)
  | _ => none
theorem v_var' {i : Nat} {e : Expr} (h : PE X e (tVar i)) : PE X e (tV α W (evV i)) :=
  PE.imp h fun σ H Q ⟨G, ρ, δ, μ, z, s, p⟩ => by
    unfold evV at p
    cases q : δ[i]? with
    | none => rw [q] at p; exact p.elim
    | some o =>
      cases o with
      | none => rw [q] at p; exact p.elim
      | some d =>
        rw [q] at p
        obtain ⟨v, h1, h2⟩ := s.get i d q
        exact ⟨v, h1, p v H G ρ Up.refl z h2⟩
theorem v_var (i : Nat) {x : Str} {pos : Pos} (hN : X.N[i]? = some x := by rfl) (hv : Vis X.env.scope x := by first | exact Or.inl rfl | exact Or.inr (Or.inl rfl) | exact Or.inr (Or.inr rfl)) (hd : (x == ("__debug__" : Str)) = false := by decide)
    (hcd : (x == ("__classdict__" : Str)) = false := by decide) : PE X (.Name x pos) (tV α W (evV i)) := v_var' (pe_var hN hv hd hcd)
abbrev F2 := D → D → Mu → Option (D × Mu)
def okm (m : Option (D × Mu)) : Option (Out D × Mu) := match m with
  | some (d, μ) => some (.ok d, μ)
  | none => none
def evBin (f : F2) (a b : Ev) : Ev := fun δ μ => bindG (a δ μ) fun x μ1 => bindG (b δ μ1) fun y μ2 => okm (f x y μ2)
/-- what is asked of a value's making -/
def Fin1 (α : Amb) (G : Hp) (ρ : List Addr) (Q : VK) : Option (D × Mu) → Prop
  | some (d, μ') => ∀ v H' G' ρ', Up G ρ G' ρ' → Zn α H' G' ρ' μ' → RepD α G' ρ' v d → Q v H'
  | none => False
theorem Post.fin {G : Hp} {ρ : List Addr} {σ : L2.St} {Q : VK} {m : Option (D × Mu)} (h : Post α W (RepD α) G ρ σ Q (okm m)) : Fin1 α G ρ Q m := by
  match m, h with
  | some (d, μ'), h => exact h
def r2V (α : Amb) (f : F2) : R2 := fun x y H Q => ∃ G ρ μ dx dy, Zn α H G ρ μ ∧ RepD α G ρ x dx ∧ RepD α G ρ y dy ∧ Fin1 α G ρ Q (f dx dy μ)
theorem bin_imp {f : F2} {ea eb : Ev} {r : R2} {σ : L2.St} {H : Hp} {Q : VK} (i : ∀ x y H Q, r2V α f x y H Q → r x y H Q) (h : tV α W (evBin f ea eb) σ H Q) : tOp r (tV α W ea) (tV α W eb) σ H Q := by
  obtain ⟨G, ρ, δ, μ, z, s, p⟩ := h
  refine ⟨G, ρ, δ, μ, z, s, Post.bind p fun x μ1 v H1 G1 ρ1 u z1 r1 p1 => ?_⟩
  refine ⟨G1, ρ1, δ, μ1, z1, s.up u, Post.bind p1 fun y μ2 w H2 G2 ρ2 u2 z2 r2 p2 => ?_⟩
  exact i _ _ _ _ ⟨G2, ρ2, μ2, x, y, z2, r1.up u2, r2, p2.fin⟩
section
variable {a b : Expr} {ea eb : Ev} {pos : Pos} {f : F2}
theorem v_bin {op : Operator} (ho : OpR X (binaryOp op) (r2V α f)) (ha : PE X a (tV α W ea)) (hb : PE X b (tV α W eb)) : PE X (.BinOp a op b pos) (tV α W (evBin f ea eb)) :=
  PE.imp (pe_op ho ha hb) fun σ H Q h => bin_imp (fun _ _ _ _ q => q) h
theorem v_cmp {op : CmpOp} (ho : OpR X (compareOp op) (r2V α f)) (ha : PE X a (tV α W ea)) (hb : PE X b (tV α W eb)) (hm : behindInMarks op b = false := by first | exact nomark _ | rfl) : PE X (.Compare a [op] [b] pos) (tV α W (evBin f ea eb)) :=
  PE.imp (pe_cmpR ho ha hb hm) fun σ H Q h => bin_imp (fun _ _ _ _ q => q) h
theorem v_ix (ho : IxR X (r2V α f)) (ha : PE X a (tV α W ea)) (hb : PE X b (tV α W eb)) (hs : PlainIx b := by exact fun _ _ => rfl) : PE X (.Subscript a b pos) (tV α W (evBin f ea eb)) :=
  PE.imp (pe_ix ho ha hb hs) fun σ H Q h => bin_imp (fun _ _ _ _ q => q) h
end
/-- ints to an int -/
def fII (C : Int → Int → Bool) (g : Int → Int → P) : F2 := fun x y μ => match x, y with
  | .p (.int i), .p (.int j) => if C i j = true then some (.p (g i j), μ) else none
  | _, _ => none
theorem repInt {G : Hp} {x : V} {i : Int} (h : Rep α G x (.int i)) : x = .int i := by cases h; rfl
theorem repStr {G : Hp} {x : V} {i : Str} (h : Rep α G x (.str i)) : x = .str i := by cases h; rfl
theorem repBl {G : Hp} {x : V} {i : Bool} (h : Rep α G x (.bl i)) : x = .bl i := by cases h; rfl
theorem repNon {G : Hp} {x : V} (h : Rep α G x .non) : x = .non := by cases h; rfl
theorem fII_imp {C : Int → Int → Bool} {g : Int → Int → P} {C' : Int → Int → Prop} {gv : Int → Int → V} (hC : ∀ i j, C i j = true → C' i j) (hg : ∀ i j G, Rep α G (gv i j) (g i j)) {x y : V} {H : Hp} {Q : VK}
    (h : r2V α (fII C g) x y H Q) : rI C' gv x y H Q := by
  obtain ⟨G, ρ, μ, dx, dy, z, rx, ry, q⟩ := h
  unfold fII at q
  split at q
  · rename_i i j
    split at q
    · rename_i c
      exact ⟨i, j, repInt rx, repInt ry, hC _ _ c, q _ H G ρ Up.refl z (hg i j G)⟩
    · exact q.elim
  · exact q.elim
theorem fII_imp0 {g : Int → Int → P} {gv : Int → Int → V} (hg : ∀ i j G, Rep α G (gv i j) (g i j)) {x y : V} {H : Hp} {Q : VK}
    (h : r2V α (fII (fun _ _ => true) g) x y H Q) : rI0 gv x y H Q := by
  obtain ⟨i, j, a, b, _, c⟩ := fII_imp (C' := fun _ _ => True) (fun _ _ _ => trivial) hg h
  exact ⟨i, j, a, b, c⟩
abbrev fAdd : F2 := fII (fun _ _ => true) fun i j => .int (i + j)
abbrev fSub : F2 := fII (fun _ _ => true) fun i j => .int (i - j)
/-- the sizes of a product's factors -/
def mulOk (i j : Int) : Bool := decide (i.natAbs.log2 + j.natAbs.log2 < 1000000)
def divOk (i j : Int) : Bool := decide (j ≠ 0) && decide (j.natAbs.log2 < 9000)
def powOk (i j : Int) : Bool := decide (0 ≤ j) && decide (j ≤ 1000000) && decide (i.natAbs < 2 ^ 64)
abbrev fMul : F2 := fII mulOk fun i j => .int (i * j)
abbrev fDiv : F2 := fII divOk fun i j => .int (i.fdiv j)
abbrev fMod : F2 := fII (fun _ j => decide (j ≠ 0)) fun i j => .int (i.fmod j)
abbrev fPow : F2 := fII powOk fun i j => .int (i ^ j.toNat)
theorem o_add : OpR X (binaryOp .Add) (r2V α fAdd) := OpR.imp op_add fun _ _ _ _ h => fII_imp0 (fun i j G => .int _) h
theorem o_sub : OpR X (binaryOp .Sub) (r2V α fSub) := OpR.imp op_sub fun _ _ _ _ h => fII_imp0 (fun i j G => .int _) h
theorem o_mul : OpR X (binaryOp .Mult) (r2V α fMul) := OpR.imp op_mulW fun _ _ _ _ h => fII_imp (fun i j c => by
  unfold mulOk at c
  have c := of_decide_eq_true c
  exact c) (fun i j G => .int _) h
theorem op_fdivG : OpR X (binaryOp .FloorDiv) (rI (fun _ j => j ≠ 0 ∧ j.natAbs.log2 < 9000) fun i j => .int (i.fdiv j)) := opI fun _ _ _ _ _ _ _ hc q => floordiv_int hc.1 q (.inl (PyProof.noPylong_of_log2 hc.2))
theorem o_div : OpR X (binaryOp .FloorDiv) (r2V α fDiv) := OpR.imp op_fdivG fun _ _ _ _ h => fII_imp (fun i j c => by
  unfold divOk at c
  rw [Bool.and_eq_true] at c
  exact ⟨of_decide_eq_true c.1, of_decide_eq_true c.2⟩) (fun i j G => .int _) h
theorem o_mod : OpR X (binaryOp .Mod) (r2V α fMod) := OpR.imp op_modN fun _ _ _ _ h => fII_imp (fun i j c => of_decide_eq_true c) (fun i j G => .int _) h
theorem o_pow : OpR X (binaryOp .Pow) (r2V α fPow) := OpR.imp op_pow fun _ _ _ _ h => fII_imp (fun i j c => by
  unfold powOk at c
  rw [Bool.and_eq_true, Bool.and_eq_true] at c
  exact ⟨of_decide_eq_true c.1.1, of_decide_eq_true c.1.2, of_decide_eq_true c.2⟩) (fun i j G => .int _) h
abbrev fLt : F2 := fII (fun _ _ => true) fun i j => .bl (decide (i < j))
abbrev fGt : F2 := fII (fun _ _ => true) fun i j => .bl (decide (j < i))
abbrev fGe : F2 := fII (fun _ _ => true) fun i j => .bl (decide (j ≤ i))
theorem o_lt : OpR X (compareOp .Lt) (r2V α fLt) := OpR.imp op_lt fun _ _ _ _ h => fII_imp0 (fun i j G => .bl _) h
theorem o_gt : OpR X (compareOp .Gt) (r2V α fGt) := OpR.imp op_gt fun _ _ _ _ h => fII_imp0 (fun i j G => .bl _) h
theorem o_ge : OpR X (compareOp .GtE) (r2V α fGe) := OpR.imp op_ge fun _ _ _ _ h => fII_imp0 (fun i j G => .bl _) h
mutual
def toPD : P → Option PyData
  | .non => some .none
  | .bl b => some (.bool b)
  | .int i => some (.int i)
  | .str s => some (.str s)
  | .tup xs => (toPDs xs).map .tuple
  | .lst xs => (toPDs xs).map .list
  | .wl xs => (toPDs xs).map .list
  | .obj _ _ => none
def toPDs : List P → Option (List PyData)
  | [] => some []
  | x :: xs => match toPD x, toPDs xs with
    | some d, some ds => some (d :: ds)
    | _, _ => none
end
mutual
theorem rep_dp {G H : Hp} (s : Same G H) : ∀ {v : V} {x : P} {d : PyData}, Rep α G v x → toPD x = some d → Dp α.K H v d
  | _, _, d, .non, e => by simp [toPD] at e; subst e; exact .non
  | _, _, d, .bl b, e => by simp [toPD] at e; subst e; exact .bl b
  | _, _, d, .int i, e => by simp [toPD] at e; subst e; exact .int i
  | _, _, d, .str z, e => by simp [toPD] at e; subst e; exact .str z
  | _, _, d, .tup h r, e => by
    simp only [toPD, Option.map_eq_some_iff] at e
    obtain ⟨ds, e, rfl⟩ := e
    exact .tup (seqT s h) (reps_dp s r e)
  | _, _, d, .lst h r, e => by
    simp only [toPD, Option.map_eq_some_iff] at e
    obtain ⟨ds, e, rfl⟩ := e
    exact .lst (SqL.of (s _ _ h)) (reps_dp s r e)
  | _, _, d, .wl h r, e => by
    simp only [toPD, Option.map_eq_some_iff] at e
    obtain ⟨ds, e, rfl⟩ := e
    exact .lst (seqL s h) (reps_dp s r e)
  | _, _, d, .obj _ _ _, e => by simp [toPD] at e
theorem reps_dp {G H : Hp} (s : Same G H) : ∀ {vs : List V} {xs : List P} {ds : List PyData}, Reps α G vs xs → toPDs xs = some ds → DpAll α.K H vs ds
  | _, _, ds, .nil, e => by simp [toPDs] at e; subst e; exact .nil
  | _, _, ds, .cons h t, e => by
    simp only [toPDs] at e
    split at e
    · rename_i d ds' h1 h2
      cases e
      exact .cons (rep_dp s h h1) (reps_dp s t h2)
    · cases e
end
/-- the list at a place -/
def cellL (μ : Mu) (l : Nat) : Option (List P) := match μ[l]? with
  | some (some (.lst xs)) => some xs
  | _ => none
theorem cellL_some {μ : Mu} {l : Nat} {xs : List P} (h : cellL μ l = some xs) : μ[l]? = some (some (.lst xs)) := by
  unfold cellL at h
  split at h
  · rename_i ys e; cases h; exact e
  · cases h
/-- the data that a value shows: itself, or what stands at its place -/
def view (μ : Mu) : D → Option P
  | .p x => some x
  | .loc l => (cellL μ l).map .lst
theorem view_loc {μ : Mu} {l : Nat} {x : P} (h : view μ (.loc l) = some x) : ∃ xs, x = .lst xs ∧ μ[l]? = some (some (.lst xs)) := by
  have h : (cellL μ l).map P.lst = some x := h
  rw [Option.map_eq_some_iff] at h
  obtain ⟨xs, h1, rfl⟩ := h
  exact ⟨xs, rfl, cellL_some h1⟩
theorem view_dp {H G : Hp} {ρ : List Addr} {μ : Mu} (z : Zn α H G ρ μ) {v : V} {d : D} {x : P} {y : PyData} (r : RepD α G ρ v d) (e : view μ d = some x) (h : toPD x = some y) : Dp α.K H v y := by
  cases d with
  | p x' => cases e; exact rep_dp z.sub r h
  | loc l =>
    obtain ⟨xs, rfl, hx⟩ := view_loc e
    obtain ⟨a, rfl, ha⟩ := r
    obtain ⟨a', h1, h2, vs, h3, h4⟩ := z.cell l _ hx
    rw [ha] at h1; cases h1
    simp only [toPD, Option.map_eq_some_iff] at h
    obtain ⟨ds, h, rfl⟩ := h
    exact .lst (SqL.of h3) (reps_dp z.sub h4 h)
/-- == of two plain values of one kind -/
def eqAt : P → P → Option Bool
  | .int i, .int j => some (decide (i = j))
  | .str i, .str j => some (decide (i = j))
  | .bl i, .bl j => some (decide (i = j))
  | .non, .non => some true
  | _, _ => none
def eqDeep (x y : P) : Option Bool := match toPD x, toPD y with
  | some d, some e => if SeqAt.shaped d && SeqAt.shaped e then some (PyData.eqv d e) else none
  | _, _ => none
def eqP (x y : P) : Option Bool := match eqAt x y with
  | some b => some b
  | none => eqDeep x y
def fEqG (neg : Bool) : F2 := fun x y μ => match view μ x, view μ y with
  | some x, some y => match eqP x y with
    | some b => some (.p (.bl (if neg then !b else b)), μ)
    | none => none
  | _, _ => none
abbrev fEq : F2 := fEqG false
abbrev fNe : F2 := fEqG true
theorem view_at {H G : Hp} {ρ : List Addr} {μ : Mu} (z : Zn α H G ρ μ) {v w : V} {d e : D} {x y : P} {b : Bool} (r : RepD α G ρ v d) (r2 : RepD α G ρ w e) (h : view μ d = some x) (h2 : view μ e = some y) (hb : eqAt x y = some b) : scal v w = true ∧ decide (v = w) = b := by
  have hx : d = .p x := by
    cases d with
    | p x' => cases h; rfl
    | loc l => obtain ⟨xs, rfl, _⟩ := view_loc h; cases y <;> cases hb
  have hy : e = .p y := by
    cases e with
    | p x' => cases h2; rfl
    | loc l => obtain ⟨xs, rfl, _⟩ := view_loc h2; cases x <;> cases hb
  subst hx; subst hy
  cases x <;> cases y <;> first | (cases hb; done) | skip
  all_goals (cases r; cases r2; cases hb; refine ⟨rfl, ?_⟩)
  all_goals first
    | rfl
    | (rename_i i j; by_cases q : i = j <;> simp [q])
theorem fEq_imp {neg : Bool} {x y : V} {H : Hp} {Q : VK} (h : r2V α (fEqG neg) x y H Q) : (scal x y = true ∧ Q (.bl (if neg then !decide (x = y) else decide (x = y))) H) ∨ ∃ d e, Dp α.K H x d ∧ Dp α.K H y e ∧ SeqAt.shaped d = true ∧ SeqAt.shaped e = true ∧ Q (.bl (if neg then !PyData.eqv d e else PyData.eqv d e)) H := by
  obtain ⟨G, ρ, μ, dx, dy, z, rx, ry, q⟩ := h
  unfold fEqG at q
  split at q
  · rename_i x' y' h1 h2
    split at q
    · rename_i b hb
      unfold eqP at hb
      split at hb
      · rename_i b' hb'
        cases hb
        obtain ⟨h3, h4⟩ := view_at z rx ry h1 h2 hb'
        exact .inl ⟨h3, by rw [h4]; exact q _ H G ρ Up.refl z (.bl _)⟩
      · unfold eqDeep at hb
        split at hb
        · rename_i d e hd he
          split at hb
          · rename_i hs
            cases hb
            rw [Bool.and_eq_true] at hs
            exact .inr ⟨d, e, view_dp z rx h1 hd, view_dp z ry h2 he, hs.1, hs.2, q _ H G ρ Up.refl z (.bl _)⟩
          · cases hb
        · cases hb
    · exact q.elim
  · exact q.elim
theorem o_eq (hu : X.A.units + 64 < cLine) (hK : X.K = α.K) : OpR X (compareOp .Eq) (r2V α fEq) := OpR.imp (op_eq.or (op_eqD hu)) fun _ _ _ _ h => by rw [hK]; exact fEq_imp h
theorem o_ne (hu : X.A.units + 64 < cLine) (hK : X.K = α.K) : OpR X (compareOp .NotEq) (r2V α fNe) := OpR.imp (op_ne.or (op_neD hu)) fun _ _ _ _ h => by rw [hK]; exact fEq_imp h
/-- x is None -/
def isNon : D → Bool
  | .p .non => true
  | _ => false
def fIs (neg : Bool) : F2 := fun x y μ => match y with
  | .p .non => some (.p (.bl (if neg then !isNon x else isNon x)), μ)
  | _ => none
theorem rep_non {G : Hp} {ρ : List Addr} {v : V} {d : D} (r : RepD α G ρ v d) : decide (v = V.non) = isNon d := by
  cases d with
  | loc l => obtain ⟨a, rfl, _⟩ := r; simp [isNon]
  | p x => cases r <;> simp [isNon]
theorem o_is : OpR X (compareOp .Is) (r2V α (fIs false)) := OpR.imp op_isN fun x y H Q h => by
  obtain ⟨G, ρ, μ, dx, dy, z, rx, ry, q⟩ := h
  unfold fIs at q
  split at q
  · refine ⟨repNon ry, ?_⟩
    rw [rep_non rx]
    exact q _ H G ρ Up.refl z (.bl _)
  · exact q.elim
theorem o_isnot : OpR X (compareOp .IsNot) (r2V α (fIs true)) := OpR.imp op_notN fun x y H Q h => by
  obtain ⟨G, ρ, μ, dx, dy, z, rx, ry, q⟩ := h
  unfold fIs at q
  split at q
  · refine ⟨repNon ry, ?_⟩
    rw [rep_non rx]
    exact q _ H G ρ Up.refl z (.bl _)
  · exact q.elim
def fIx : F2 := fun x y μ => match view μ x, y with
  | some (.lst xs), .p (.int i) => (atI xs i).map fun v => (.p v, μ)
  | some (.wl xs), .p (.int i) => (atI xs i).map fun v => (.p v, μ)
  | some (.tup xs), .p (.int i) => (atI xs i).map fun v => (.p v, μ)
  | some (.str z), .p (.int i) => if z.length ≤ sizeLine then (atI z.cps.toList i).map fun c => (.p (.str ⟨#[c]⟩), μ) else none
  | _, _ => none
/-- a value shows a list -/
theorem view_lst {H G : Hp} {ρ : List Addr} {μ : Mu} (z : Zn α H G ρ μ) {v : V} {d : D} {xs : List P} (r : RepD α G ρ v d) (e : view μ d = some (.lst xs)) : ∃ a vs, v = .ref a ∧ H a = some (.lst vs) ∧ Reps α G vs xs := by
  cases d with
  | p x' => cases e; cases r with
    | lst h r => exact ⟨_, _, rfl, z.sub _ _ h, r⟩
  | loc l =>
    obtain ⟨xs', e', hx⟩ := view_loc e
    cases e'
    obtain ⟨a, rfl, ha⟩ := r
    obtain ⟨a', h1, h2, vs, h3, h4⟩ := z.cell l _ hx
    rw [ha] at h1; cases h1
    exact ⟨a, vs, rfl, h3, h4⟩
theorem view_tup {H G : Hp} {ρ : List Addr} {μ : Mu} (z : Zn α H G ρ μ) {v : V} {d : D} {xs : List P} (r : RepD α G ρ v d) (e : view μ d = some (.tup xs)) : ∃ a vs, v = .ref a ∧ SqT α.K H a vs ∧ Reps α G vs xs := by
  cases d with
  | p x' => cases e; cases r with
    | tup h r => exact ⟨_, _, rfl, seqT z.sub h, r⟩
  | loc l =>
    obtain ⟨xs', e', hx⟩ := view_loc e
    cases e'
theorem view_wl {H G : Hp} {ρ : List Addr} {μ : Mu} (z : Zn α H G ρ μ) {v : V} {d : D} {xs : List P} (r : RepD α G ρ v d) (e : view μ d = some (.wl xs)) : ∃ a vs, v = .ref a ∧ SqL α.K H a vs ∧ Reps α G vs xs := by
  cases d with
  | p x' => cases e; cases r with
    | wl h r => exact ⟨_, _, rfl, seqL z.sub h, r⟩
  | loc l =>
    obtain ⟨xs', e', hx⟩ := view_loc e
    cases e'
theorem view_str {H G : Hp} {ρ : List Addr} {μ : Mu} (z : Zn α H G ρ μ) {v : V} {d : D} {x : Str} (r : RepD α G ρ v d) (e : view μ d = some (.str x)) : v = .str x := by
  cases d with
  | p x' => cases e; exact repStr r
  | loc l =>
    obtain ⟨xs', e', hx⟩ := view_loc e
    cases e'
theorem reps_at {G : Hp} {vs : List V} {xs : List P} {i : Int} {x : P} (r : Reps α G vs xs) (h : atI xs i = some x) : ∃ v, atI vs i = some v ∧ Rep α G v x := by
  unfold atI at h ⊢
  rw [r.length]
  cases q : ixN xs.length i with
  | none => rw [q] at h; cases h
  | some j =>
    rw [q] at h
    obtain ⟨v, h1, h2⟩ := r.get (show xs[j]? = some x from h)
    exact ⟨v, h1, h2⟩
theorem o_ix (hK : X.K = α.K) : IxR X (r2V α fIx) := IxR.imp ix_seq fun x y H Q h => by
  obtain ⟨G, ρ, μ, dx, dy, z, rx, ry, q⟩ := h
  unfold fIx at q
  rw [hK]
  split at q
  · rename_i xs i hv
    cases hi : atI xs i with
    | none => rw [hi] at q; exact q.elim
    | some v =>
      rw [hi] at q
      obtain ⟨a, vs, rfl, h1, h2⟩ := view_lst z rx hv
      obtain ⟨u, h3, h4⟩ := reps_at h2 hi
      exact .inl ⟨a, vs, i, u, rfl, repInt ry, SqL.of h1, h3, q u H G ρ Up.refl z h4⟩
  · rename_i xs i hv
    cases hi : atI xs i with
    | none => rw [hi] at q; exact q.elim
    | some v =>
      rw [hi] at q
      obtain ⟨a, vs, rfl, h1, h2⟩ := view_wl z rx hv
      obtain ⟨u, h3, h4⟩ := reps_at h2 hi
      exact .inl ⟨a, vs, i, u, rfl, repInt ry, h1, h3, q u H G ρ Up.refl z h4⟩
  · rename_i xs i hv
    cases hi : atI xs i with
    | none => rw [hi] at q; exact q.elim
    | some v =>
      rw [hi] at q
      obtain ⟨a, vs, rfl, h1, h2⟩ := view_tup z rx hv
      obtain ⟨u, h3, h4⟩ := reps_at h2 hi
      exact .inr (.inl ⟨a, vs, i, u, rfl, repInt ry, h1, h3, q u H G ρ Up.refl z h4⟩)
  · rename_i zz i hv
    split at q
    · rename_i hl
      cases hi : atI zz.cps.toList i with
      | none => rw [hi] at q; exact q.elim
      | some c =>
        rw [hi] at q
        have e := view_str z rx hv
        subst e
        exact .inr (.inr ⟨zz, i, c, rfl, repInt ry, hl, hi, q _ H G ρ Up.refl z (.str _)⟩)
    · exact q.elim
  · exact q.elim
abbrev F1 := D → Mu → Option (D × Mu)
def evUn (f : F1) (a : Ev) : Ev := fun δ μ => bindG (a δ μ) fun x μ1 => okm (f x μ1)
def r1V (α : Amb) (f : F1) : V → Hp → VK → Prop := fun x H Q => ∃ G ρ μ dx, Zn α H G ρ μ ∧ RepD α G ρ x dx ∧ Fin1 α G ρ Q (f dx μ)
theorem un_imp {f : F1} {ea : Ev} {σ : L2.St} {H : Hp} {Q : VK} (h : tV α W (evUn f ea) σ H Q) : tV α W ea σ H (fun x H1 => r1V α f x H1 Q) := by
  obtain ⟨G, ρ, δ, μ, z, s, p⟩ := h
  exact ⟨G, ρ, δ, μ, z, s, Post.bind p fun x μ1 v H1 G1 ρ1 u z1 r1 p1 => ⟨G1, ρ1, μ1, x, z1, r1, p1.fin⟩⟩
theorem v_un {op : UnaryOp} {a : Expr} {ea : Ev} {pos : Pos} {f : F1} (ho : UnR X (unaryOp op) (r1V α f)) (ha : PE X a (tV α W ea)) : PE X (.UnaryOp op a pos) (tV α W (evUn f ea)) :=
  PE.imp (pe_un ho ha) fun σ H Q h => un_imp h
def fNeg : F1 := fun x μ => match x with
  | .p (.int i) => some (.p (.int (-i)), μ)
  | _ => none
theorem o_neg : UnR X (unaryOp .USub) (r1V α fNeg) := UnR.imp un_neg fun x H Q h => by
  obtain ⟨G, ρ, μ, dx, z, rx, q⟩ := h
  unfold fNeg at q
  split at q
  · rename_i i
    exact ⟨i, repInt rx, q _ H G ρ Up.refl z (.int _)⟩
  · exact q.elim
def evB (a : Ev) : EvT := fun δ μ => bindG (a δ μ) fun x μ1 => match x with
  | .p (.bl b) => some (.ok b, μ1)
  | _ => none
theorem v_test {e : Expr} {ea : Ev} (h : PE X e (tV α W ea)) (he : ∀ whole, isTrue e X.env whole = (do let v ← whole; standAt e.pos; holding [v] (truthy v)) := by intro _; rfl) : PT X e (tVt α W (evB ea)) :=
  PT.imp (pt_val h he) fun σ H Q ⟨G, ρ, δ, μ, z, s, p⟩ => ⟨G, ρ, δ, μ, z, s, Post.bind p fun x μ1 v H1 G1 ρ1 u z1 r1 p1 => by
    split at p1
    · rename_i b
      exact ⟨b, repBl r1, p1 b H1 G1 ρ1 Up.refl z1 rfl⟩
    · exact p1.elim⟩
theorem v_tcmp {op : CmpOp} {a b : Expr} {ea eb : Ev} {pos : Pos} {f : F2} (ho : OpR X (compareOp op) (r2V α f)) (ha : PE X a (tV α W ea)) (hb : PE X b (tV α W eb)) (hm : behindInMarks op b = false := by first | exact nomark _ | rfl) : PT X (.Compare a [op] [b] pos) (tVt α W (evB (evBin f ea eb))) :=
  PT.imp (pt_cmpR ho ha hb hm) fun σ H Q ⟨G, ρ, δ, μ, z, s, p⟩ => bin_imp (Q := fun x H' => ∃ k, x = .bl k ∧ Q k H') (fun _ _ _ _ q => q) ⟨G, ρ, δ, μ, z, s, Post.bind p fun x μ1 v H1 G1 ρ1 u z1 r1 p1 => by
    split at p1
    · rename_i b
      exact ⟨b, repBl r1, p1 b H1 G1 ρ1 Up.refl z1 rfl⟩
    · exact p1.elim⟩
theorem reps_empty {G : Hp} {vs : List V} {xs : List P} (r : Reps α G vs xs) : vs.isEmpty = xs.isEmpty := by cases r <;> rfl
def tNotV (a : EvT) : EvT := fun δ μ => bindG (a δ μ) fun b μ1 => some (.ok (!b), μ1)
theorem v_tnot {a : Expr} {ea : EvT} {pos : Pos} (h : PT X a (tVt α W ea)) : PT X (.UnaryOp .Not a pos) (tVt α W (tNotV ea)) :=
  PT.imp (pt_not h) fun σ H Q ⟨G, ρ, δ, μ, z, s, p⟩ => ⟨G, ρ, δ, μ, z, s, Post.bind p fun x μ1 v H1 G1 ρ1 u z1 r1 p1 => by
    subst r1
    exact p1 (!v) H1 G1 ρ1 Up.refl z1 rfl⟩
def tAndV' (a b : EvT) : EvT := fun δ μ => bindG (a δ μ) fun x μ1 => if x = true then b δ μ1 else some (.ok false, μ1)
def tOrV' (a b : EvT) : EvT := fun δ μ => bindG (a δ μ) fun x μ1 => if x = true then some (.ok true, μ1) else b δ μ1
theorem tg_of {β γ : Type} {rep : Hp → List Addr → γ → β → Prop} {ev : EvG β} {G G' : Hp} {ρ ρ' : List Addr} {σ : L2.St} {H : Hp} {δ : Sl} {μ : Mu} {Q : γ → Hp → Prop} (z : Zn α H G' ρ' μ) (s : Sq α G ρ σ δ) (u : Up G ρ G' ρ') (p : Post α W rep G' ρ' σ Q (ev δ μ)) : tG α W rep ev σ H Q := ⟨G', ρ', δ, μ, z, s.up u, p⟩
section
variable {a b : Expr} {rest : List Expr} {ea eb : EvT} {pos : Pos}
theorem v_and1 (h : PT X a (tVt α W ea)) : PW X (.BoolOp .And [a] pos) (tVt α W ea) := pw_and1 h
theorem v_or1 (h : PT X a (tVt α W ea)) : PW X (.BoolOp .Or [a] pos) (tVt α W ea) := pw_or1 h
theorem v_tand (ha : PT X a (tVt α W ea)) (hb : PW X (.BoolOp .And (b :: rest) pos) (tVt α W eb)) : PW X (.BoolOp .And (a :: b :: rest) pos) (tVt α W (tAndV' ea eb)) :=
  PW.imp (pw_and ha hb) fun σ H Q ⟨G, ρ, δ, μ, z, s, p⟩ => ⟨G, ρ, δ, μ, z, s, Post.bind p fun x μ1 v H1 G1 ρ1 u z1 r1 p1 => by
    subst r1
    cases v with
    | true => exact iteT (tg_of z1 s u p1)
    | false => exact iteF (p1 false H1 G1 ρ1 Up.refl z1 rfl)⟩
theorem v_tor (ha : PT X a (tVt α W ea)) (hb : PW X (.BoolOp .Or (b :: rest) pos) (tVt α W eb)) : PW X (.BoolOp .Or (a :: b :: rest) pos) (tVt α W (tOrV' ea eb)) :=
  PW.imp (pw_or ha hb) fun σ H Q ⟨G, ρ, δ, μ, z, s, p⟩ => ⟨G, ρ, δ, μ, z, s, Post.bind p fun x μ1 v H1 G1 ρ1 u z1 r1 p1 => by
    subst r1
    cases v with
    | false => exact iteF (tg_of z1 s u p1)
    | true => exact iteT (p1 true H1 G1 ρ1 Up.refl z1 rfl)⟩
end
def evAnd (a b : Ev) : Ev := fun δ μ => bindG (a δ μ) fun x μ1 => match x with
  | .p (.bl true) => b δ μ1
  | .p (.bl false) => some (.ok (.p (.bl false)), μ1)
  | _ => none
def evOr (a b : Ev) : Ev := fun δ μ => bindG (a δ μ) fun x μ1 => match x with
  | .p (.bl false) => b δ μ1
  | .p (.bl true) => some (.ok (.p (.bl true)), μ1)
  | _ => none
section
variable {a b : Expr} {rest : List Expr} {ea eb : Ev} {pos : Pos}
theorem v_one {op} (h : PE X a (tV α W ea)) : PE X (.BoolOp op [a] pos) (tV α W ea) := pe_one h
theorem v_and (ha : PE X a (tV α W ea)) (hb : PE X (.BoolOp .And (b :: rest) pos) (tV α W eb)) : PE X (.BoolOp .And (a :: b :: rest) pos) (tV α W (evAnd ea eb)) :=
  PE.imp (pe_and ha hb) fun σ H Q ⟨G, ρ, δ, μ, z, s, p⟩ => ⟨G, ρ, δ, μ, z, s, Post.bind p fun x μ1 v H1 G1 ρ1 u z1 r1 p1 => by
    split at p1
    · exact ⟨true, repBl r1, iteT (tg_of z1 s u p1)⟩
    · exact ⟨false, repBl r1, iteF (p1 _ H1 G1 ρ1 Up.refl z1 (.bl _))⟩
    · exact p1.elim⟩
def evIf (c : EvT) (a b : Ev) : Ev := fun δ μ => bindG (c δ μ) fun x μ1 => if x = true then a δ μ1 else b δ μ1
theorem v_ifExp {c : Expr} {ec : EvT} (hc : PT X c (tVt α W ec)) (ha : PE X a (tV α W ea)) (hb : PE X b (tV α W eb)) : PE X (.IfExp c a b pos) (tV α W (evIf ec ea eb)) :=
  PE.imp (pe_ifExp hc ha hb) fun σ H Q ⟨G, ρ, δ, μ, z, s, p⟩ => ⟨G, ρ, δ, μ, z, s, Post.bind p fun x μ1 v H1 G1 ρ1 u z1 r1 p1 => by
    subst r1
    cases v with
    | true => exact iteT (tg_of z1 s u p1)
    | false => exact iteF (tg_of z1 s u p1)⟩
end
def evNil : EvA := fun _ μ => some (.ok [], μ)
def evCons (a : Ev) (r : EvA) : EvA := fun δ μ => bindG (a δ μ) fun x μ1 => bindG (r δ μ1) fun xs μ2 => some (.ok (x :: xs), μ2)
theorem va_nil : PA X [] (tVs α W evNil) := PA.imp pa_nil fun σ H Q ⟨G, ρ, δ, μ, z, s, p⟩ => p [] H G ρ Up.refl z .nil
theorem va_cons {e : Expr} {es : List Expr} {ea : Ev} {er : EvA} (ha : PE X e (tV α W ea)) (hr : PA X es (tVs α W er)) (hs : starEach (e :: es) X.env = (false, eval e X.env) :: starEach es X.env := by rfl) : PA X (e :: es) (tVs α W (evCons ea er)) :=
  PA.imp (pa_cons ha hr hs) fun σ H Q ⟨G, ρ, δ, μ, z, s, p⟩ => ⟨G, ρ, δ, μ, z, s, Post.bind p fun x μ1 v H1 G1 ρ1 u z1 r1 p1 =>
    ⟨G1, ρ1, δ, μ1, z1, s.up u, Post.bind p1 fun xs μ2 vs H2 G2 ρ2 u2 z2 r2 p2 => p2 (v :: vs) H2 G2 ρ2 Up.refl z2 (.cons (r1.up u2) r2)⟩⟩
/-- a value, taken into the ground if it stands at a place -/
def toP (μ : Mu) : D → Option (P × Mu)
  | .p x => some (x, μ)
  | .loc l => (cellL μ l).map fun xs => (.lst xs, μ.set l none)
def toPs (μ : Mu) : List D → Option (List P × Mu)
  | [] => some ([], μ)
  | d :: ds => match toP μ d with
    | some (x, μ1) => match toPs μ1 ds with
      | some (xs, μ2) => some (x :: xs, μ2)
      | none => none
    | none => none
theorem toP_ok {H G : Hp} {ρ : List Addr} {μ μ' : Mu} (z : Zn α H G ρ μ) {v : V} {d : D} {x : P} (r : RepD α G ρ v d) (e : toP μ d = some (x, μ')) : ∃ G', Up G ρ G' ρ ∧ Zn α H G' ρ μ' ∧ Rep α G' v x := by
  cases d with
  | p y => cases e; exact ⟨G, Up.refl, z, r⟩
  | loc l =>
    have e : (cellL μ l).map (fun xs => (P.lst xs, μ.set l none)) = some (x, μ') := e
    rw [Option.map_eq_some_iff] at e
    obtain ⟨xs, hx, e⟩ := e
    cases e
    have hx := cellL_some hx
    obtain ⟨a, rfl, ha⟩ := r
    obtain ⟨a', h1, h2, vs, h3, h4⟩ := z.cell l _ hx
    rw [ha] at h1; cases h1
    obtain ⟨z', g⟩ := z.freeze hx ha h3
    exact ⟨upd G a (.lst vs), up_new g, z', .lst upd_same (h4.mono (same_upd g))⟩
theorem toPs_ok {H : Hp} {ρ : List Addr} : ∀ {ds : List D} {G : Hp} {μ μ' : Mu} {vs : List V} {xs : List P}, Zn α H G ρ μ → RepDs α G ρ vs ds → toPs μ ds = some (xs, μ') → ∃ G', Up G ρ G' ρ ∧ Zn α H G' ρ μ' ∧ Reps α G' vs xs
  | [], G, μ, μ', _, xs, z, .nil, e => by cases e; exact ⟨G, Up.refl, z, .nil⟩
  | d :: ds, G, μ, μ', _, xs, z, .cons r t, e => by
    unfold toPs at e
    split at e
    · rename_i x μ1 h1
      obtain ⟨G1, u1, z1, r1⟩ := toP_ok z r h1
      split at e
      · rename_i xs' μ2 h2
        cases e
        obtain ⟨G2, u2, z2, r2⟩ := toPs_ok z1 (t.up u1) h2
        exact ⟨G2, u1.trans u2, z2, .cons (r1.mono u2.same) r2⟩
      · cases e
    · cases e
def evTup (r : EvA) : Ev := fun δ μ => bindG (r δ μ) fun ds μ1 => match toPs μ1 ds with
  | some (xs, μ2) => if xs.length ≤ sizeLine then some (.ok (.p (.tup xs)), μ2) else none
  | none => none
def evLst (r : EvA) : Ev := fun δ μ => bindG (r δ μ) fun ds μ1 => match toPs μ1 ds with
  | some (xs, μ2) => if xs.length ≤ sizeLine then some (.ok (.p (.lst xs)), μ2) else none
  | none => none
/-- a list that will change -/
def evLstC (r : EvA) : Ev := fun δ μ => bindG (r δ μ) fun ds μ1 => match toPs μ1 ds with
  | some (xs, μ2) => if xs.length ≤ sizeLine then some (.ok (.loc μ2.length), μ2 ++ [some (.lst xs)]) else none
  | none => none
section
variable {es : List Expr} {er : EvA} {pos : Pos}
theorem v_tup {x1} (h : PA X es (tVs α W er)) : PE X (.Tuple es x1 pos) (tV α W (evTup er)) :=
  PE.imp (pe_tup h) fun σ H Q ⟨G, ρ, δ, μ, z, s, p⟩ => ⟨G, ρ, δ, μ, z, s, Post.bind p fun ds μ1 vs H1 G1 ρ1 u z1 r1 p1 => by
    split at p1
    · rename_i xs μ2 h2
      obtain ⟨G2, u2, z2, r2⟩ := toPs_ok z1 r1 h2
      split at p1
      · rename_i hl
        exact ⟨by rw [r2.length]; exact hl, fun a na => p1 _ _ _ _ (u2.trans (up_new (z2.free na))) (z2.new na _) (.tup (SqT.of upd_same) (r2.mono (same_upd (z2.free na))))⟩
      · exact p1.elim
    · exact p1.elim⟩
theorem v_lst (h : PA X es (tVs α W er)) : PE X (.List es pos) (tV α W (evLst er)) :=
  PE.imp (pe_lst h) fun σ H Q ⟨G, ρ, δ, μ, z, s, p⟩ => ⟨G, ρ, δ, μ, z, s, Post.bind p fun ds μ1 vs H1 G1 ρ1 u z1 r1 p1 => by
    split at p1
    · rename_i xs μ2 h2
      obtain ⟨G2, u2, z2, r2⟩ := toPs_ok z1 r1 h2
      split at p1
      · rename_i hl
        exact ⟨by rw [r2.length]; exact hl, fun a na => p1 _ _ _ _ (u2.trans (up_new (z2.free na))) (z2.new na _) (.lst upd_same (r2.mono (same_upd (z2.free na))))⟩
      · exact p1.elim
    · exact p1.elim⟩
theorem v_lstC (h : PA X es (tVs α W er)) : PE X (.List es pos) (tV α W (evLstC er)) :=
  PE.imp (pe_lst h) fun σ H Q ⟨G, ρ, δ, μ, z, s, p⟩ => ⟨G, ρ, δ, μ, z, s, Post.bind p fun ds μ1 vs H1 G1 ρ1 u z1 r1 p1 => by
    split at p1
    · rename_i xs μ2 h2
      obtain ⟨G2, u2, z2, r2⟩ := toPs_ok z1 r1 h2
      split at p1
      · rename_i hl
        exact ⟨by rw [r2.length]; exact hl, fun a na => p1 _ _ _ _ (u2.trans up_place) (z2.place na ⟨vs, rfl, r2⟩) ⟨a, rfl, by rw [← z2.len]; simp⟩⟩
      · exact p1.elim
    · exact p1.elim⟩
end
end
end Vs
namespace Vs
open PySem PySem.Spec PyProof.Rows L2
inductive Fl where
  | nx | ret (d : D) | brk | cont | exc (c : Nat)
abbrev SEv := Sl → Mu → Option (Fl × Sl × Mu)
section
variable (α : Amb) (W : WX)
def SPost (Dn : Ends) (G : Hp) (ρ : List Addr) : Option (Fl × Sl × Mu) → Prop
  | some (.nx, δ', μ') => ∀ σ' H' G' ρ', Up G ρ G' ρ' → Zn α H' G' ρ' μ' → Sq α G' ρ' σ' δ' → Dn.nx σ' H'
  | some (.brk, δ', μ') => ∀ σ' H' G' ρ', Up G ρ G' ρ' → Zn α H' G' ρ' μ' → Sq α G' ρ' σ' δ' → Dn.bk σ' H'
  | some (.cont, δ', μ') => ∀ σ' H' G' ρ', Up G ρ G' ρ' → Zn α H' G' ρ' μ' → Sq α G' ρ' σ' δ' → Dn.ct σ' H'
  | some (.ret d, δ', μ') => ∀ v H' G' ρ', Up G ρ G' ρ' → Zn α H' G' ρ' μ' → RepD α G' ρ' v d → Dn.rt v H'
  | some (.exc c, δ', μ') => ∀ σ' H' G' ρ', Up G ρ G' ρ' → Zn α H' G' ρ' μ' → Sq α G' ρ' σ' δ' → W (.ref (α.cl c)) none σ' H'
  | none => False
def tS (sv : SEv) : TS := fun Dn σ H => ∃ G ρ δ μ, Zn α H G ρ μ ∧ Sq α G ρ σ δ ∧ SPost α W Dn G ρ (sv δ μ)
end
section
variable {α : Amb} {W : WX} {X : Cx}
theorem SPost.up {Dn : Ends} {G G1 : Hp} {ρ ρ1 : List Addr} {r : Option (Fl × Sl × Mu)} (h : SPost α W Dn G ρ r) (u : Up G ρ G1 ρ1) : SPost α W Dn G1 ρ1 r := by
  match r, h with
  | some (.nx, δ', μ'), h => exact fun σ' H' G' ρ' u' => h σ' H' G' ρ' (u.trans u')
  | some (.brk, δ', μ'), h => exact fun σ' H' G' ρ' u' => h σ' H' G' ρ' (u.trans u')
  | some (.cont, δ', μ'), h => exact fun σ' H' G' ρ' u' => h σ' H' G' ρ' (u.trans u')
  | some (.ret d, δ', μ'), h => exact fun v H' G' ρ' u' => h v H' G' ρ' (u.trans u')
  | some (.exc c, δ', μ'), h => exact fun σ' H' G' ρ' u' => h σ' H' G' ρ' (u.trans u')
def bindS {β : Type} (m : Option (Out β × Mu)) (δ : Sl) (f : β → Mu → Option (Fl × Sl × Mu)) : Option (Fl × Sl × Mu) := match m with
  | some (.ok x, μ) => f x μ
  | some (.exc c, μ) => some (.exc c, δ, μ)
  | none => none
theorem SPost.bind {β γ : Type} {rep : Hp → List Addr → γ → β → Prop} {Dn : Ends} {G : Hp} {ρ : List Addr} {σ : L2.St} {δ : Sl} {Q : γ → Hp → Prop} {m : Option (Out β × Mu)} {f : β → Mu → Option (Fl × Sl × Mu)}
    (h : SPost α W Dn G ρ (bindS m δ f)) (s : Sq α G ρ σ δ)
    (go : ∀ x μ' v H' G' ρ', Up G ρ G' ρ' → Zn α H' G' ρ' μ' → rep G' ρ' v x → SPost α W Dn G' ρ' (f x μ') → Q v H') : Post α W rep G ρ σ Q m := by
  match m, h with
  | some (.ok x, μ'), h => exact fun v H' G' ρ' u z r => go x μ' v H' G' ρ' u z r (SPost.up (r := f x μ') h u)
  | some (.exc c, μ'), h => exact fun H' G' ρ' u z => h σ H' G' ρ' u z (s.up u)
def seqS (a b : SEv) : SEv := fun δ μ => match a δ μ with
  | some (.nx, δ', μ') => b δ' μ'
  | r => r
def sNil : SEv := fun δ μ => some (.nx, δ, μ)
section
variable {st : Stmt} {rest : List Stmt} {a b : SEv}
theorem vs_nil : PSs X [] (tS α W sNil) := PSs.imp pss_nil fun D σ H ⟨G, ρ, δ, μ, z, s, p⟩ => p σ H G ρ Up.refl z s
theorem vs_one (h : PS X st (tS α W a)) : PSs X [st] (tS α W a) := pss_one h
theorem vs_cons (h1 : PS X st (tS α W a)) (h2 : PSs X rest (tS α W b)) : PSs X (st :: rest) (tS α W (seqS a b)) :=
  PSs.imp (pss_cons h1 h2) fun Dn σ H ⟨G, ρ, δ, μ, z, s, p⟩ => by
    refine ⟨G, ρ, δ, μ, z, s, ?_⟩
    unfold seqS at p
    match q : a δ μ, p with
    | some (.nx, δ', μ'), p => exact fun σ' H' G' ρ' u z' s' => ⟨G', ρ', δ', μ', z', s', SPost.up (r := b δ' μ') p u⟩
    | some (.brk, δ', μ'), p => exact p
    | some (.cont, δ', μ'), p => exact p
    | some (.ret d, δ', μ'), p => exact p
    | some (.exc c, δ', μ'), p => exact p
end
def sSet (i : Nat) (e : Ev) : SEv := fun δ μ => bindS (e δ μ) δ fun d μ1 => some (.nx, δ.set i (some d), μ1)
theorem v_set (i : Nat) {x : Str} {e : Expr} {ev : Ev} {pos pos' : Pos} (hN : X.N.Nodup) (he : PE X e (tV α W ev)) (hi : X.N[i]? = some x := by rfl) (hx : Loc X.env.scope x := by first | exact Or.inl rfl | exact Or.inr rfl) (hs : swapsWith e (some (.Name x pos')) pos.line X.env = pure false := by rfl)
    (hf : X.fn x = true ∨ X.env.scope.names.lookup x = some .local := by first | exact .inl rfl | exact .inr rfl | assumption) : PS X (.Assign [.Name x pos'] e pos) (tS α W (sSet i ev)) :=
  PS.imp (ps_set (i := i) hN hi hx he hs hf) fun Dn σ H ⟨G, ρ, δ, μ, z, s, p⟩ => ⟨G, ρ, δ, μ, z, s, SPost.bind p s fun d μ1 v H1 G1 ρ1 u z1 r1 p1 => p1 _ H1 G1 ρ1 Up.refl z1 ((s.up u).set r1 i)⟩
def sRet (e : Ev) : SEv := fun δ μ => bindS (e δ μ) δ fun d μ1 => some (.ret d, δ, μ1)
theorem v_ret {e : Expr} {ev : Ev} {pos : Pos} (he : PE X e (tV α W ev)) : PS X (.Return (some e) pos) (tS α W (sRet ev)) :=
  PS.imp (ps_ret he) fun Dn σ H ⟨G, ρ, δ, μ, z, s, p⟩ => ⟨G, ρ, δ, μ, z, s, SPost.bind p s fun d μ1 v H1 G1 ρ1 u z1 r1 p1 => p1 _ H1 G1 ρ1 Up.refl z1 r1⟩
def sExpr (e : Ev) : SEv := fun δ μ => bindS (e δ μ) δ fun d μ1 => some (.nx, δ, μ1)
theorem v_expr {e : Expr} {ev : Ev} {pos : Pos} (he : PE X e (tV α W ev)) (hs : swapsWith e none pos.line X.env = pure false := by rfl) : PS X (.Expr e pos) (tS α W (sExpr ev)) :=
  PS.imp (ps_expr he hs) fun Dn σ H ⟨G, ρ, δ, μ, z, s, p⟩ => ⟨G, ρ, δ, μ, z, s, SPost.bind p s fun d μ1 v H1 G1 ρ1 u z1 r1 p1 => p1 _ H1 G1 ρ1 Up.refl z1 (s.up u)⟩
def sIf (c : EvT) (a b : SEv) : SEv := fun δ μ => bindS (c δ μ) δ fun x μ1 => if x = true then a δ μ1 else b δ μ1
theorem v_if {c : Expr} {ec : EvT} {as bs : List Stmt} {a b : SEv} {pos : Pos} (hc : PT X c (tVt α W ec)) (ha : PSs X as (tS α W a)) (hb : PSs X bs (tS α W b)) : PS X (.If c as bs pos) (tS α W (sIf ec a b)) :=
  PS.imp (ps_if hc ha hb) fun Dn σ H ⟨G, ρ, δ, μ, z, s, p⟩ => ⟨G, ρ, δ, μ, z, s, SPost.bind p s fun x μ1 v H1 G1 ρ1 u z1 r1 p1 => by
    subst r1
    cases v with
    | true => exact iteT ⟨G1, ρ1, δ, μ1, z1, s.up u, p1⟩
    | false => exact iteF ⟨G1, ρ1, δ, μ1, z1, s.up u, p1⟩⟩
def sBrk : SEv := fun δ μ => some (.brk, δ, μ)
theorem v_break {pos : Pos} : PS X (.Break pos) (tS α W sBrk) := PS.imp ps_break fun Dn σ H ⟨G, ρ, δ, μ, z, s, p⟩ => p σ H G ρ Up.refl z s
/-- a, b = e1, e2 -/
def sPar (i j : Nat) (e : EvA) : SEv := fun δ μ => bindS (e δ μ) δ fun ds μ1 => match ds with
  | [x, y] => some (.nx, (δ.set i (some x)).set j (some y), μ1)
  | _ => none
theorem sq_par {G : Hp} {ρ : List Addr} {σ : L2.St} {δ : Sl} {i j : Nat} {v w : V} {x y : D} (s : Sq α G ρ σ δ) (r1 : RepD α G ρ v x) (r2 : RepD α G ρ w y) : Sq α G ρ ((σ.set i (some v)).set j (some w)) ((δ.set i (some x)).set j (some y)) := (s.set r1 i).set r2 j
abbrev Tgt := P → Sl → Option Sl
def VG (α : Amb) (X : Cx) (tg : Expr) (ts : Tgt) : Prop := ∃ g : TG, PG X tg g ∧ ∀ G ρ H μ σ δ v x δ' (Q : L2.St → Hp → Prop), Zn α H G ρ μ → Sq α G ρ σ δ → Rep α G v x → ts x δ = some δ' → (∀ σ', Sq α G ρ σ' δ' → Q σ' H) → g v σ H Q
def tgN (i : Nat) : Tgt := fun x δ => some (δ.set i (some (.p x)))
theorem vg_name (i : Nat) {x : Str} {pos : Pos} (hN : X.N.Nodup) (hi : X.N[i]? = some x := by rfl) (hx : Loc X.env.scope x := by first | exact Or.inl rfl | exact Or.inr rfl) (hf : X.fn x = true ∨ X.env.scope.names.lookup x = some .local := by first | exact .inl rfl | exact .inr rfl | assumption) :
    VG α X (.Name x pos) (tgN i) :=
  ⟨gName i, pg_name hN hi hx hf, fun G ρ H μ σ δ v x δ' Q z s r e k => by cases e; exact k _ (s.set (show RepD α G ρ v (.p x) from r) i)⟩
/-- a, b, .. -/
def setAll : List Nat → List P → Sl → Option Sl
  | [], [], δ => some δ
  | i :: is, x :: xs, δ => setAll is xs (δ.set i (some (.p x)))
  | _, _, _ => none
def tgT (is : List Nat) : Tgt := fun x δ => match x with
  | .tup xs => setAll is xs δ
  | _ => none
def VGs (α : Amb) (X : Cx) (tgs : List Expr) (is : List Nat) : Prop := ∃ g : TGs, PGs X tgs g ∧ ∀ G ρ H μ σ δ vs xs δ' (Q : L2.St → Hp → Prop), Zn α H G ρ μ → Sq α G ρ σ δ → Reps α G vs xs → setAll is xs δ = some δ' → (∀ σ', Sq α G ρ σ' δ' → Q σ' H) → g vs σ H Q
theorem vgs_nil : VGs α X [] [] := ⟨gNil, pgs_nil, fun G ρ H μ σ δ vs xs δ' Q z s r e k => by
  cases r with
  | nil => cases e; exact ⟨rfl, k _ s⟩
  | cons _ _ => cases e⟩
theorem vgs_cons (i : Nat) {x : Str} {pos : Pos} {es : List Expr} {is : List Nat} (hN : X.N.Nodup) (h : VGs α X es is) (hi : X.N[i]? = some x := by rfl) (hx : Loc X.env.scope x := by first | exact Or.inl rfl | exact Or.inr rfl) (hf : X.fn x = true ∨ X.env.scope.names.lookup x = some .local := by first | exact .inl rfl | exact .inr rfl | assumption)
    (hs : (assignEach (.Name x pos :: es) X.env).map (·.2) = assign (.Name x pos) X.env :: (assignEach es X.env).map (·.2) := by rfl) : VGs α X (.Name x pos :: es) (i :: is) := by
  obtain ⟨g, pg, hg⟩ := h
  refine ⟨gCons (gName i) g, pgs_cons (pg_name hN hi hx hf) pg hs, fun G ρ H μ σ δ vs xs δ' Q z s r e k => ?_⟩
  cases r with
  | nil => cases e
  | cons r t => exact ⟨_, _, rfl, hg G ρ H μ _ _ _ _ _ Q z (s.set (show RepD α G ρ _ (.p _) from r) i) t e k⟩
theorem setAll_len : ∀ {is : List Nat} {xs : List P} {δ δ' : Sl}, setAll is xs δ = some δ' → xs.length = is.length
  | [], [], _, _, _ => rfl
  | _ :: is, _ :: xs, _, _, e => congrArg (· + 1) (setAll_len (is := is) (xs := xs) e)
  | [], _ :: _, _, _, e => by cases e
  | _ :: _, [], _, _, e => by cases e
theorem vg_tup {es : List Expr} {is : List Nat} {k : Nat} {pos : Pos} (hK : X.K = α.K) (hc : X.calm = true) (h : VGs α X es is) (hn : (assignEach es X.env).length = is.length := by rfl) (hst : (assignEach es X.env).findIdx? (·.1) = none := by rfl) : VG α X (.Tuple es k pos) (tgT is) := by
  obtain ⟨g, pg, hg⟩ := h
  refine ⟨gTup X.K is.length g, pg_tup hc pg hn hst, fun G ρ H μ σ δ v x δ' Q z s r e k => ?_⟩
  cases r <;> try (cases e; done)
  rename_i a vs xs hT hr
  have e : setAll is xs δ = some δ' := e
  exact ⟨a, vs, rfl, by rw [hK]; exact seqT z.sub hT, by rw [hr.length]; exact setAll_len e, hg G ρ H μ _ _ _ _ _ Q z s hr e k⟩
/-- target = e, the target several names -/
def sAsgT (ts : Tgt) (e : Ev) : SEv := fun δ μ => bindS (e δ μ) δ fun d μ1 => match d with
  | .p x => (ts x δ).map fun δ' => (.nx, δ', μ1)
  | _ => none
theorem v_asgT {tg e : Expr} {ts : Tgt} {ev : Ev} {pos : Pos} (hg : VG α X tg ts) (he : PE X e (tV α W ev)) (hs : swapsWithSole [tg] e pos.line X.env = pure false := by rfl) (hw : swappedStores [tg] e X.env = pure none := by rfl) (h1 : (assignEach [tg] X.env).map (·.2) = [assign tg X.env] := by rfl) : PS X (.Assign [tg] e pos) (tS α W (sAsgT ts ev)) := by
  obtain ⟨g, pg, hg⟩ := hg
  refine PS.imp (ps_asg he pg hs hw h1) fun Dn σ H ⟨G, ρ, δ, μ, z, s, p⟩ => ⟨G, ρ, δ, μ, z, s, SPost.bind p s fun d μ1 v H1 G1 ρ1 u z1 r1 p1 => ?_⟩
  cases d with
  | loc l => exact p1.elim
  | p x =>
    cases q : ts x δ with
    | none => dsimp only at p1; rw [q] at p1; exact p1.elim
    | some δ' =>
      dsimp only at p1
      rw [q] at p1
      exact hg G1 ρ1 H1 μ1 σ δ v x δ' _ z1 (s.up u) r1 q fun σ' s' => p1 σ' H1 G1 ρ1 Up.refl z1 s'
/-- J yields xs, one by one, whatever is made meanwhile -/
def JOk (α : Amb) (J : It) (xs : List P) (G1 : Hp) : Prop := ∀ i H G ρ μ, Same G1 G → Zn α H G ρ μ →
  (∀ x, xs[i]? = some x → J.go i H ∧ ∀ v H', J.yld i H v H' → ∃ G', Up G ρ G' ρ ∧ Zn α H' G' ρ μ ∧ Rep α G' v x) ∧ (xs.length ≤ i → J.stop i H)
def VI (α : Amb) (W : WX) (X : Cx) (tg iter : Expr) (ev : EvG (List P)) : Prop := ∃ wi : TI, PI X tg iter wi ∧ ∀ σ H G ρ δ μ (R : It → Hp → Prop), Zn α H G ρ μ → Sq α G ρ σ δ →
  Post α W (fun G' _ (J : It) xs => JOk α J xs G') G ρ σ R (ev δ μ) → wi σ H R
def asList (x : P) : Option (List P) := match x with
  | .lst xs => some xs
  | .wl xs => some xs
  | .tup xs => some xs
  | _ => none
def evIt (e : Ev) : EvG (List P) := fun δ μ => bindG (e δ μ) fun d μ1 => match toP μ1 d with
  | some (x, μ2) => (asList x).map fun xs => (.ok xs, μ2)
  | none => none
theorem pi_seq {tg l : Expr} {tl : TE} (hl : PE X l tl) : PI X tg l (fun σ H R => tl σ H fun x H1 => ∃ a, x = .ref a ∧ (((∃ xs, SqL X.K H1 a xs) ∧ R (Itl X.K a) H1) ∨ ((∃ xs, SqT X.K H1 a xs) ∧ R (Itt X.K a) H1))) := by
  refine ⟨fun pins s σ H R I h => ?_⟩
  refine thn (hl.run pins s σ H _ I h) fun v s1 ⟨x, H1, I1, r1, q1⟩ => ?_
  obtain ⟨a, e, q⟩ := q1
  subst e
  cases r1
  rcases q with ⟨⟨xs, hq⟩, q⟩ | ⟨⟨xs, hq⟩, q⟩
  · obtain ⟨its, rv, p, hz⟩ := I1.list hq
    refine wpAny_pyIter_list p.isList ?_
    refine ⟨s1.heap.objs.size, [s1.heap.objs.size], _, _, H1, rfl, I1.kept (t' := s1.toks) fun b o e => Heap.get?_push_of_some _ e, turn_list a _, ⟨_, Heap.get?_push_size _ rfl, rfl, rfl⟩, fun b hb => ?_, q⟩
    have e : b = s1.heap.objs.size := by simpa using hb
    subst e
    exact I1.fpOk (Nat.le_refl _) (I1.hok.fresh (Nat.le_refl _))
  · obtain ⟨its, rv, p, hz⟩ := I1.tuple hq
    refine wpAny_pyIter_tuple (show s1.heap.IsTuple a its.toArray from p) ?_
    refine ⟨s1.heap.objs.size, [s1.heap.objs.size], _, _, H1, rfl, I1.kept (t' := s1.toks) fun b o e => Heap.get?_push_of_some _ e, turn_tuple a _, ⟨_, Heap.get?_push_size _ rfl, rfl, rfl⟩, fun b hb => ?_, q⟩
    have e : b = s1.heap.objs.size := by simpa using hb
    subst e
    exact I1.fpOk (Nat.le_refl _) (I1.hok.fresh (Nat.le_refl _))
section
variable {tg iter : Expr}
theorem jok_list {K : PySem.W.Frag} {G1 : Hp} {a : Addr} {vs : List V} {xs : List P} (h : SqL K G1 a vs) (r : Reps α G1 vs xs) : JOk α (Itl K a) xs G1 := fun i H G ρ μ s z => by
  have hH : SqL K H a vs := seqL z.sub (seqL s h)
  have r := r.mono s
  refine ⟨fun x hx => ?_, fun hi => ⟨vs, hH, by rw [r.length]; exact hi⟩⟩
  obtain ⟨v, h1, h2⟩ := r.get hx
  refine ⟨⟨vs, v, hH, h1⟩, fun w H' y => ?_⟩
  obtain ⟨rfl, y⟩ := y
  have e := y vs hH
  rw [h1] at e; cases e
  exact ⟨G, Up.refl, z, h2⟩
theorem jok_tup {K : PySem.W.Frag} {G1 : Hp} {a : Addr} {vs : List V} {xs : List P} (h : SqT K G1 a vs) (r : Reps α G1 vs xs) : JOk α (Itt K a) xs G1 := fun i H G ρ μ s z => by
  have hH : SqT K H a vs := seqT z.sub (seqT s h)
  have r := r.mono s
  refine ⟨fun x hx => ?_, fun hi => ⟨vs, hH, by rw [r.length]; exact hi⟩⟩
  obtain ⟨v, h1, h2⟩ := r.get hx
  refine ⟨⟨vs, v, hH, h1⟩, fun w H' y => ?_⟩
  obtain ⟨rfl, y⟩ := y
  have e := y vs hH
  rw [h1] at e; cases e
  exact ⟨G, Up.refl, z, h2⟩
theorem vi_seq {ev : Ev} (hK : X.K = α.K) (h : PE X iter (tV α W ev)) : VI α W X tg iter (evIt ev) := by
  refine ⟨_, pi_seq h, fun σ H G ρ δ μ R z s p => ⟨G, ρ, δ, μ, z, s, Post.bind p fun d μ1 v H1 G1 ρ1 u z1 r1 p1 => ?_⟩⟩
  cases q : toP μ1 d with
  | none => rw [q] at p1; exact p1.elim
  | some y =>
    obtain ⟨x, μ2⟩ := y
    rw [q] at p1
    obtain ⟨G2, u2, z2, r2⟩ := toP_ok z1 r1 q
    rw [hK]
    cases r2 with
    | tup h r => exact ⟨_, rfl, .inr ⟨⟨_, seqT z2.sub h⟩, p1 (Itt α.K _) H1 G2 ρ1 u2 z2 (jok_tup h r)⟩⟩
    | lst h r => exact ⟨_, rfl, .inl ⟨⟨_, SqL.of (z2.sub _ _ h)⟩, p1 (Itl α.K _) H1 G2 ρ1 u2 z2 (jok_list (SqL.of h) r)⟩⟩
    | wl h r => exact ⟨_, rfl, .inl ⟨⟨_, seqL z2.sub h⟩, p1 (Itl α.K _) H1 G2 ρ1 u2 z2 (jok_list h r)⟩⟩
    | _ => exact p1.elim
def rangeP (lo : Int) (n : Nat) : List P := (List.range n).map fun (i : Nat) => P.int (lo + (i : Int))
theorem jok_range {G1 : Hp} {lo : Int} {n : Nat} : JOk α (Itr lo n) (rangeP lo n) G1 := fun i H G ρ μ s z => by
  refine ⟨fun x hx => ?_, fun hi => by
    have hi : n ≤ i := by simpa [rangeP] using hi
    exact hi⟩
  unfold rangeP at hx
  rw [List.getElem?_map] at hx
  by_cases h : i < n
  · rw [List.getElem?_range h] at hx
    cases hx
    refine ⟨h, fun v H' y => ?_⟩
    obtain ⟨rfl, rfl⟩ := y
    exact ⟨G, Up.refl, z, .int _⟩
  · rw [List.getElem?_eq_none (by simp; omega)] at hx; cases hx
def rngOk (i : Int) : Bool := decide (-(2 ^ 62) ≤ i) && decide (i < 2 ^ 62)
theorem rngOk_of {i : Int} (h : rngOk i = true) : -(2 ^ 62) ≤ i ∧ i < 2 ^ 62 := by
  unfold rngOk at h
  rw [Bool.and_eq_true] at h
  exact ⟨of_decide_eq_true h.1, of_decide_eq_true h.2⟩
def evRng1 (a : Ev) : EvG (List P) := fun δ μ => bindG (a δ μ) fun d μ1 => match d with
  | .p (.int j) => if rngOk j = true then some (.ok (rangeP 0 j.toNat), μ1) else none
  | _ => none
def evRng2 (a b : Ev) : EvG (List P) := fun δ μ => bindG (a δ μ) fun d μ1 => bindG (b δ μ1) fun e μ2 => match d, e with
  | .p (.int i), .p (.int j) => if (rngOk i && rngOk j) = true then some (.ok (rangeP i (j - i).toNat), μ2) else none
  | _, _ => none
theorem vi_rng1 {a : Expr} {ea : Ev} {p pos : Pos} (hm : X.mg "range" = none) (ha : PE X a (tV α W ea)) (hg : Gl X "range" := by rfl) (hs : starEach [a] X.env = [(false, eval a X.env)] := by rfl) : VI α W X tg (.Call (.Name "range" p) [a] [] pos) (evRng1 ea) := by
  refine ⟨_, pi_range1 hg hm (pa_cons ha pa_nil hs) hs, fun σ H G ρ δ μ R z s p => ⟨G, ρ, δ, μ, z, s, Post.bind p fun d μ1 v H1 G1 ρ1 u z1 r1 p1 => ?_⟩⟩
  split at p1
  · rename_i j
    split at p1
    · rename_i hj
      obtain ⟨h1, h2⟩ := rngOk_of hj
      exact ⟨j, by rw [repInt r1], h1, h2, p1 _ H1 G1 ρ1 Up.refl z1 jok_range⟩
    · exact p1.elim
  · exact p1.elim
theorem vi_rng2 {a b : Expr} {ea eb : Ev} {p pos : Pos} (hm : X.mg "range" = none) (ha : PE X a (tV α W ea)) (hb : PE X b (tV α W eb)) (hg : Gl X "range" := by rfl) (hs : starEach [a, b] X.env = [(false, eval a X.env), (false, eval b X.env)] := by rfl) (hs2 : starEach [b] X.env = [(false, eval b X.env)] := by rfl) : VI α W X tg (.Call (.Name "range" p) [a, b] [] pos) (evRng2 ea eb) := by
  refine ⟨_, pi_range2 hg hm (pa_cons ha (pa_cons hb pa_nil hs2) (by rw [hs, hs2])) hs hs2, fun σ H G ρ δ μ R z s p => ⟨G, ρ, δ, μ, z, s, Post.bind p fun d μ1 v H1 G1 ρ1 u z1 r1 p1 => ?_⟩⟩
  refine ⟨G1, ρ1, δ, μ1, z1, s.up u, Post.bind p1 fun d2 μ2 v2 H2 G2 ρ2 u2 z2 r2 p2 => ?_⟩
  split at p2
  · rename_i i j
    split at p2
    · rename_i hj
      rw [Bool.and_eq_true] at hj
      obtain ⟨h1, h2⟩ := rngOk_of hj.1
      obtain ⟨h3, h4⟩ := rngOk_of hj.2
      exact ⟨i, j, by rw [repInt r1, repInt r2], ⟨h1, h2, h3, h4⟩, p2 _ H2 G2 ρ2 Up.refl z2 jok_range⟩
    · exact p2.elim
  · exact p2.elim
end
def forL (ts : Tgt) (body : SEv) : List P → SEv
  | [], δ, μ => some (.nx, δ, μ)
  | x :: xs, δ, μ => match ts x δ with
    | none => none
    | some δ1 => match body δ1 μ with
      | some (.nx, δ2, μ2) => forL ts body xs δ2 μ2
      | some (.cont, δ2, μ2) => forL ts body xs δ2 μ2
      | some (.brk, δ2, μ2) => some (.nx, δ2, μ2)
      | r => r
def sFor (it : EvG (List P)) (ts : Tgt) (body : SEv) : SEv := fun δ μ => bindS (it δ μ) δ fun xs μ1 => forL ts body xs δ μ1
theorem v_for {tg iter : Expr} {body : List Stmt} {ev : EvG (List P)} {ts : Tgt} {sb : SEv} {pos : Pos} (hc : X.calm = true) (hp : PassesOwn (model X.prog X.w) X.A X.env X.xe) (hi : VI α W X tg iter ev) (hg : VG α X tg ts) (hb : PSs X body (tS α W sb))
    (hs : ∀ x, foldedSetIterable iter X.env x = pure x := by intro _; rfl) : PS X (.For tg iter body [] pos) (tS α W (sFor ev ts sb)) := by
  obtain ⟨wi, pi, hi⟩ := hi
  obtain ⟨g, pg, hg⟩ := hg
  refine PS.imp (ps_for hp hc pi pg hb hs) fun Dn σ H ⟨G, ρ, δ, μ, z, s, p⟩ => ?_
  refine hi σ H G ρ δ μ _ z s (SPost.bind p s fun xs μ1 J H1 G1 ρ1 u z1 j1 p1 => ?_)
  refine ⟨fun i m σ H => m + i = xs.length ∧ ∃ G' ρ' δ' μ', Up G1 ρ1 G' ρ' ∧ Zn α H G' ρ' μ' ∧ Sq α G' ρ' σ δ' ∧ SPost α W Dn G' ρ' (forL ts sb (xs.drop i) δ' μ'), ⟨xs.length, by omega, G1, ρ1, δ, μ1, Up.refl, z1, s.up u, by simpa using p1⟩, ?_⟩
  rintro i m σ2 H2 ⟨hm, G2, ρ2, δ2, μ2, u2, z2, s2, p2⟩
  obtain ⟨jgo, jstop⟩ := j1 i H2 G2 ρ2 μ2 u2.same z2
  by_cases h : i < xs.length
  · obtain ⟨x, hx⟩ : ∃ x, xs[i]? = some x := ⟨xs[i], List.getElem?_eq_getElem h⟩
    obtain ⟨go, yl⟩ := jgo x hx
    have hd : xs.drop i = x :: xs.drop (i + 1) := by
      rw [List.drop_eq_getElem_cons h]
      rw [List.getElem?_eq_getElem h] at hx
      cases hx; rfl
    rw [hd] at p2
    refine .inr ⟨go, fun σ' H' => ∃ G' ρ' δ' μ', Up G1 ρ1 G' ρ' ∧ Zn α H' G' ρ' μ' ∧ Sq α G' ρ' σ' δ' ∧ SPost α W Dn G' ρ' (forL ts sb (xs.drop (i + 1)) δ' μ'), fun σ' H' hN => ⟨m - 1, by omega, by omega, hN⟩, fun v H' y => ?_⟩
    obtain ⟨G3, u3, z3, r3⟩ := yl v H' y
    unfold forL at p2
    cases q : ts x δ2 with
    | none => rw [q] at p2; exact p2.elim
    | some δ3 =>
      rw [q] at p2
      refine hg G3 ρ2 H' μ2 σ2 δ2 v x δ3 _ z3 (s2.up u3) r3 q fun σ3 s3 => ⟨G3, ρ2, δ3, μ2, z3, s3, ?_⟩
      have p2 := SPost.up p2 u3
      have u23 := u2.trans u3
      dsimp only at p2
      match q2 : sb δ3 μ2, p2 with
      | some (.nx, δ4, μ4), p2 => exact fun σ' H' G' ρ' u' z' s' => ⟨G', ρ', δ4, μ4, u23.trans u', z', s', SPost.up (r := forL ts sb (xs.drop (i + 1)) δ4 μ4) p2 u'⟩
      | some (.cont, δ4, μ4), p2 => exact fun σ' H' G' ρ' u' z' s' => ⟨G', ρ', δ4, μ4, u23.trans u', z', s', SPost.up (r := forL ts sb (xs.drop (i + 1)) δ4 μ4) p2 u'⟩
      | some (.brk, δ4, μ4), p2 => exact p2
      | some (.ret d, δ4, μ4), p2 => exact p2
      | some (.exc c, δ4, μ4), p2 => exact p2
  · have hd : xs.drop i = [] := List.drop_eq_nil_of_le (by omega)
    rw [hd] at p2
    exact .inl ⟨jstop (by omega), p2 σ2 H2 G2 ρ2 Up.refl z2 s2⟩
def whL (c : EvT) (body : SEv) : Nat → SEv
  | 0, _, _ => none
  | n + 1, δ, μ => bindS (c δ μ) δ fun b μ1 => if b = true then (match body δ μ1 with
      | some (.nx, δ2, μ2) => whL c body n δ2 μ2
      | some (.cont, δ2, μ2) => whL c body n δ2 μ2
      | some (.brk, δ2, μ2) => some (.nx, δ2, μ2)
      | r => r) else some (.nx, δ, μ1)
def sWhile (n : Nat) (c : EvT) (body : SEv) : SEv := whL c body n
theorem v_while (n : Nat) {c : Expr} {body : List Stmt} {ec : EvT} {sb : SEv} {pos : Pos} (hp : PassesOwn (model X.prog X.w) X.A X.env X.xe) (hc : PT X c (tVt α W ec)) (hb : PSs X body (tS α W sb)) : PS X (.While c body [] pos) (tS α W (sWhile n ec sb)) := by
  refine PS.imp (ps_while hp hc hb) fun Dn σ H ⟨G, ρ, δ, μ, z, s, p⟩ => ?_
  refine ⟨fun m σ H => ∃ G' ρ' δ' μ', Zn α H G' ρ' μ' ∧ Sq α G' ρ' σ δ' ∧ SPost α W Dn G' ρ' (whL ec sb m δ' μ'), ⟨n, G, ρ, δ, μ, z, s, p⟩, ?_⟩
  rintro m σ2 H2 ⟨G2, ρ2, δ2, μ2, z2, s2, p2⟩
  cases m with
  | zero => exact p2.elim
  | succ m =>
    refine ⟨G2, ρ2, δ2, μ2, z2, s2, SPost.bind (f := fun b μ1 => if b = true then (match sb δ2 μ1 with
      | some (.nx, δ2, μ2) => whL ec sb m δ2 μ2
      | some (.cont, δ2, μ2) => whL ec sb m δ2 μ2
      | some (.brk, δ2, μ2) => some (.nx, δ2, μ2)
      | r => r) else some (.nx, δ2, μ1)) p2 s2 fun b μ3 v H3 G3 ρ3 u3 z3 r3 p3 => ?_⟩
    subst r3
    cases v with
    | false => exact iteF (p3 σ2 H3 G3 ρ3 Up.refl z3 (s2.up u3))
    | true =>
      refine iteT ⟨fun σ' H' => ∃ G' ρ' δ' μ', Zn α H' G' ρ' μ' ∧ Sq α G' ρ' σ' δ' ∧ SPost α W Dn G' ρ' (whL ec sb m δ' μ'), fun σ' H' hN => ⟨m, Nat.lt_succ_self _, hN⟩, G3, ρ3, δ2, μ3, z3, s2.up u3, ?_⟩
      rw [if_pos rfl] at p3
      match q2 : sb δ2 μ3, p3 with
      | some (.nx, δ4, μ4), p2 => exact fun σ' H' G' ρ' u' z' s' => ⟨G', ρ', δ4, μ4, z', s', SPost.up (r := whL ec sb m δ4 μ4) p2 u'⟩
      | some (.cont, δ4, μ4), p2 => exact fun σ' H' G' ρ' u' z' s' => ⟨G', ρ', δ4, μ4, z', s', SPost.up (r := whL ec sb m δ4 μ4) p2 u'⟩
      | some (.brk, δ4, μ4), p2 => exact p2
      | some (.ret d, δ4, μ4), p2 => exact p2
      | some (.exc c, δ4, μ4), p2 => exact p2
def wipeS (δ : Sl) : List Nat → Sl
  | [] => δ
  | v :: vs => (wipeS δ vs).set v none
theorem sq_wipe {G : Hp} {ρ : List Addr} {σ : L2.St} {δ : Sl} (s : Sq α G ρ σ δ) : ∀ vs : List Nat, Sq α G ρ (wipe σ vs) (wipeS δ vs)
  | [] => s
  | v :: vs => by
    have h := sq_wipe s vs
    refine ⟨by show ((wipe σ vs).set v none).length = ((wipeS δ vs).set v none).length; rw [List.length_set, List.length_set]; exact h.len, fun i d e => ?_⟩
    have e : ((wipeS δ vs).set v none)[i]? = some (some d) := e
    show ∃ w, ((wipe σ vs).set v none)[i]? = some (some w) ∧ _
    by_cases hv : v = i
    · subst hv
      by_cases hl : v < (wipeS δ vs).length
      · rw [List.getElem?_set_self hl] at e; cases e
      · rw [List.getElem?_eq_none (by rw [List.length_set]; omega)] at e; cases e
    · rw [List.getElem?_set_ne hv] at e ⊢
      exact h.get i d e
theorem wipe_set {σ : L2.St} {o : Option V} : ∀ {vs : List Nat} {i : Nat}, i ∈ vs → wipe (σ.set i o) vs = wipe σ vs
  | v :: vs, i, h => by
    show (wipe (σ.set i o) vs).set v none = (wipe σ vs).set v none
    by_cases hi : i ∈ vs
    · rw [wipe_set hi]
    · have e : i = v := by
        rcases List.mem_cons.mp h with h | h
        · exact h
        · exact absurd h hi
      subst e
      have q : ∀ ws : List Nat, i ∉ ws → wipe (σ.set i o) ws = (wipe σ ws).set i o := by
        intro ws
        induction ws with
        | nil => intro _; rfl
        | cons a ws ih =>
          intro hn
          show (wipe (σ.set i o) ws).set a none = ((wipe σ ws).set a none).set i o
          rw [ih (fun z => hn (List.mem_cons_of_mem _ z)), List.set_comm _ _ (fun z => hn (by rw [z]; exact List.mem_cons_self))]
      rw [q vs hi, List.set_set]
theorem wipe_idem {σ : L2.St} {vs : List Nat} : wipe (wipe σ vs) vs = wipe σ vs := by
  apply List.ext_getElem?
  intro i
  by_cases h : i ∈ vs
  · have none_of : ∀ (τ : L2.St) (ws : List Nat), i ∈ ws → i < τ.length → (wipe τ ws)[i]? = some none := by
      intro τ ws
      induction ws with
      | nil => intro h; cases h
      | cons a ws ih =>
        intro h hl
        show ((wipe τ ws).set a none)[i]? = some none
        by_cases ha : a = i
        · subst ha; rw [List.getElem?_set_self (by rw [wipe_length]; exact hl)]
        · rw [List.getElem?_set_ne ha]
          exact ih (by rcases List.mem_cons.mp h with h | h; exact absurd h.symm ha; exact h) hl
    by_cases hl : i < σ.length
    · rw [none_of _ _ h (by rw [wipe_length]; exact hl), none_of _ _ h hl]
    · rw [List.getElem?_eq_none (by rw [wipe_length, wipe_length]; omega), List.getElem?_eq_none (by rw [wipe_length]; omega)]
  · rw [wipe_out h]
/-- the tests of a comprehension -/
def evTrue : EvT := fun _ μ => some (.ok true, μ)
/-- one item after another: the kept ones, made by e, come to the list at the place l -/
def lcL (ts : Tgt) (t : EvT) (e : Ev) (δ0 : Sl) (l : Nat) : List P → Mu → Option Mu
  | [], μ => some μ
  | x :: xs, μ => match ts x δ0 with
    | none => none
    | some δ1 => match t δ1 μ with
      | some (.ok true, μ1) => match e δ1 μ1 with
        | some (.ok d, μ2) => match toP μ2 d with
          | some (y, μ3) => match cellL μ3 l with
            | some acc => if acc.length < sizeLine then lcL ts t e δ0 l xs (μ3.set l (some (.lst (acc ++ [y])))) else none
            | none => none
          | none => none
        | _ => none
      | some (.ok false, μ1) => lcL ts t e δ0 l xs μ1
      | _ => none
def lcEnd (l : Nat) (m : Option Mu) : Option (Out D × Mu) := match m with
  | some μ => match cellL μ l with
    | some acc => some (.ok (.p (.lst acc)), μ.take l)
    | none => none
  | none => none
def lcEndC (l : Nat) (m : Option Mu) : Option (Out D × Mu) := match m with
  | some μ => match cellL μ l with
    | some acc => some (.ok (.loc l), μ.take (l + 1))
    | none => none
  | none => none
def evLc (it : EvG (List P)) (ts : Tgt) (t : EvT) (e : Ev) (vs : List Nat) : Ev := fun δ μ => bindG (it δ μ) fun xs μ1 => lcEnd μ1.length (lcL ts t e (wipeS δ vs) μ1.length xs (μ1 ++ [some (.lst [])]))
/-- a list that will change -/
def evLcC (it : EvG (List P)) (ts : Tgt) (t : EvT) (e : Ev) (vs : List Nat) : Ev := fun δ μ => bindG (it δ μ) fun xs μ1 => lcEndC μ1.length (lcL ts t e (wipeS δ vs) μ1.length xs (μ1 ++ [some (.lst [])]))
abbrev W0 : WX := fun _ _ _ _ => False
/-- a target's store, that touches the slots vs alone -/
def GSem (α : Amb) (g : TG) (ts : Tgt) (vs : List Nat) : Prop := ∀ G ρ H μ σ δ v x δ' (Q : L2.St → Hp → Prop), Zn α H G ρ μ → Sq α G ρ σ δ → Rep α G v x → ts x δ = some δ' → (∀ σ', Sq α G ρ σ' δ' → wipe σ' vs = wipe σ vs → Q σ' H) → g v σ H Q
theorem gs_name {i : Nat} {vs : List Nat} (h : i ∈ vs) : GSem α (gName i) (tgN i) vs := fun G ρ H μ σ δ v x δ' Q z s r e k => by
  cases e
  exact k _ (s.set (show RepD α G ρ v (.p x) from r) i) (wipe_set h)
def gsOf : List Nat → TGs
  | [] => gNil
  | i :: is => gCons (gName i) (gsOf is)
theorem gs_all {vs : List Nat} : ∀ {is : List Nat}, (∀ i ∈ is, i ∈ vs) → ∀ G ρ H μ σ δ ws xs δ' (Q : L2.St → Hp → Prop), Zn α H G ρ μ → Sq α G ρ σ δ → Reps α G ws xs → setAll is xs δ = some δ' → (∀ σ', Sq α G ρ σ' δ' → wipe σ' vs = wipe σ vs → Q σ' H) → gsOf is ws σ H Q
  | [], _, G, ρ, H, μ, σ, δ, ws, xs, δ', Q, z, s, r, e, k => by
    cases r with
    | nil => cases e; exact ⟨rfl, k _ s rfl⟩
    | cons _ _ => cases e
  | i :: is, hv, G, ρ, H, μ, σ, δ, ws, xs, δ', Q, z, s, r, e, k => by
    cases r with
    | nil => cases e
    | cons r t =>
      exact ⟨_, _, rfl, gs_all (fun j hj => hv j (List.mem_cons_of_mem _ hj)) G ρ H μ _ _ _ _ _ Q z (s.set (show RepD α G ρ _ (.p _) from r) i) t e fun σ' s' w => k σ' s' (w.trans (wipe_set (hv i List.mem_cons_self)))⟩
theorem gs_tup {is vs : List Nat} {n : Nat} (hn : is.length = n) (hv : ∀ i ∈ is, i ∈ vs) : GSem α (gTup α.K n (gsOf is)) (tgT is) vs := fun G ρ H μ σ δ v x δ' Q z s r e k => by
  cases r <;> try (cases e; done)
  rename_i a ws xs hT hr
  have e : setAll is xs δ = some δ' := e
  exact ⟨a, ws, rfl, seqT z.sub hT, by rw [hr.length, ← hn]; exact setAll_len e, gs_all hv G ρ H μ _ _ _ _ _ Q z s hr e k⟩
theorem cell_at {G H : Hp} {ρ : List Addr} {μ : Mu} (z : Zn α H G ρ μ) {l : Nat} {a : Addr} {acc : List P} (h : cellL μ l = some acc) (ha : ρ[l]? = some a) : ∃ vs, H a = some (.lst vs) ∧ Reps α G vs acc := by
  obtain ⟨a', h1, h2, vs, h3, h4⟩ := z.cell l _ (cellL_some h)
  rw [ha] at h1; cases h1
  exact ⟨vs, h3, h4⟩
/-- the common part of both makings -/
theorem lc_imp {W : WX} {wi : TI} {g : TG} {tt : TT} {te : TE} {vs : List Nat} {it : EvG (List P)} {ts : Tgt} {t : EvT} {e : Ev} {fin : Nat → Option Mu → Option (Out D × Mu)}
    (hi : ∀ σ H G ρ δ μ (R : It → Hp → Prop), Zn α H G ρ μ → Sq α G ρ σ δ → Post α W (fun G' _ (J : It) xs => JOk α J xs G') G ρ σ R (it δ μ) → wi σ H R)
    (hgs : GSem α g ts vs) (htt : ∀ σ H Q, tVt α W0 t σ H Q → tt σ H Q) (hte : ∀ σ H Q, tV α W0 e σ H Q → te σ H Q)
    (hnone : ∀ l, fin l none = none)
    (hfin : ∀ G1 ρ1 G ρ H μ l Dd σ (Q : VK), Up G1 (ρ1 ++ [Dd]) G ρ → Zn α H G ρ μ → l = ρ1.length → Post α W (RepD α) G1 ρ1 σ Q (fin l (some μ)) → Q (.ref Dd) H)
    {σ : L2.St} {H : Hp} {Q : VK} {G : Hp} {ρ : List Addr} {δ : Sl} {μ : Mu} (z : Zn α H G ρ μ) (s : Sq α G ρ σ δ)
    (p : Post α W (RepD α) G ρ σ Q (bindG (it δ μ) fun xs μ1 => fin μ1.length (lcL ts t e (wipeS δ vs) μ1.length xs (μ1 ++ [some (.lst [])])))) : tLc wi g tt te vs σ H Q := by
  refine hi σ H G ρ δ μ _ z s (Post.bind p fun xs μ1 J H1 G1 ρ1 u z1 j1 p1 => ?_)
  intro Dd hD
  have zp := z1.place (m := .lst []) hD ⟨[], rfl, .nil⟩
  refine ⟨fun i m H => m + i = xs.length ∧ ∃ G' ρ' μ', Up G1 (ρ1 ++ [Dd]) G' ρ' ∧ Zn α H G' ρ' μ' ∧ Post α W (RepD α) G1 ρ1 σ Q (fin μ1.length (lcL ts t e (wipeS δ vs) μ1.length (xs.drop i) μ')),
    ⟨xs.length, by omega, G1, ρ1 ++ [Dd], _, Up.refl, zp, by simpa using p1⟩, ?_⟩
  rintro i m H2 ⟨hm, G2, ρ2, μ2, u2, z2, p2⟩
  have hDat : (ρ1 ++ [Dd])[μ1.length]? = some Dd := by rw [← z1.len]; simp
  have u12 : Up G1 ρ1 G2 ρ2 := Up.trans up_place u2
  obtain ⟨jgo, jstop⟩ := j1 i H2 G2 ρ2 μ2 u2.same z2
  by_cases h : i < xs.length
  · obtain ⟨x, hx⟩ : ∃ x, xs[i]? = some x := ⟨xs[i], List.getElem?_eq_getElem h⟩
    obtain ⟨go, yl⟩ := jgo x hx
    have hd : xs.drop i = x :: xs.drop (i + 1) := by
      rw [List.drop_eq_getElem_cons h]
      rw [List.getElem?_eq_getElem h] at hx
      cases hx; rfl
    rw [hd] at p2
    refine .inr ⟨go, fun H' => ∃ G' ρ' μ', Up G1 (ρ1 ++ [Dd]) G' ρ' ∧ Zn α H' G' ρ' μ' ∧ Post α W (RepD α) G1 ρ1 σ Q (fin μ1.length (lcL ts t e (wipeS δ vs) μ1.length (xs.drop (i + 1)) μ')), fun H' hN => ⟨m - 1, by omega, by omega, hN⟩, fun v H' y => ?_⟩
    obtain ⟨G3, u3, z3, r3⟩ := yl v H' y
    have s3 : Sq α G3 ρ2 (wipe σ vs) (wipeS δ vs) := sq_wipe (((s.up u).up u12).up u3) vs
    unfold lcL at p2
    cases q : ts x (wipeS δ vs) with
    | none => rw [q] at p2; dsimp only at p2; rw [hnone] at p2; exact p2.elim
    | some δ3 =>
      rw [q] at p2
      dsimp only at p2
      refine hgs G3 ρ2 H' μ2 _ _ v x δ3 _ z3 s3 r3 q fun σ3 s4 hw => ⟨hw.trans wipe_idem, htt _ _ _ ⟨G3, ρ2, δ3, μ2, z3, s4, ?_⟩⟩
      have u23 : Up G1 (ρ1 ++ [Dd]) G3 ρ2 := u2.trans u3
      match q2 : t δ3 μ2, p2 with
      | none, p2 => rw [hnone] at p2; exact p2.elim
      | some (.exc c, μ4), p2 => rw [hnone] at p2; exact p2.elim
      | some (.ok false, μ4), p2 =>
        intro b H4 G4 ρ4 u4 z4 hb
        subst hb
        exact iteF ⟨G4, ρ4, μ4, u23.trans u4, z4, p2⟩
      | some (.ok true, μ4), p2 =>
        intro b H4 G4 ρ4 u4 z4 hb
        subst hb
        refine iteT (hte _ _ _ ⟨G4, ρ4, δ3, μ4, z4, s4.up u4, ?_⟩)
        dsimp only at p2
        match q3 : e δ3 μ4, p2 with
        | none, p2 => rw [hnone] at p2; exact p2.elim
        | some (.exc c, μ5), p2 => rw [hnone] at p2; exact p2.elim
        | some (.ok d, μ5), p2 =>
          intro w H5 G5 ρ5 u5 z5 r5
          dsimp only at p2
          cases q5 : toP μ5 d with
          | none => rw [q5] at p2; dsimp only at p2; rw [hnone] at p2; exact p2.elim
          | some ym =>
            obtain ⟨y', μ6⟩ := ym
            rw [q5] at p2
            dsimp only at p2
            obtain ⟨G6, u6, z6, r6⟩ := toP_ok z5 r5 q5
            have uu : Up G1 (ρ1 ++ [Dd]) G6 ρ5 := ((u23.trans u4).trans u5).trans u6
            cases q6 : cellL μ6 μ1.length with
            | none => rw [q6] at p2; dsimp only at p2; rw [hnone] at p2; exact p2.elim
            | some acc =>
              rw [q6] at p2
              dsimp only at p2
              split at p2
              · rename_i hl
                have hDD := uu.get hDat
                obtain ⟨vacc, h1, h2⟩ := cell_at z6 q6 hDD
                exact ⟨vacc, h1, by rw [h2.length]; exact hl, G6, ρ5, _, uu, z6.write (cellL_some q6) hDD (m' := .lst (acc ++ [y'])) ⟨_, rfl, h2.append (.cons r6 .nil)⟩, p2⟩
              · rw [hnone] at p2; exact p2.elim
  · have hd : xs.drop i = [] := List.drop_eq_nil_of_le (by omega)
    rw [hd] at p2
    exact .inl ⟨jstop (by omega), hfin G1 ρ1 G2 ρ2 H2 μ2 μ1.length Dd σ Q u2 z2 z1.len.symm p2⟩
theorem fin_lc {W : WX} {G1 : Hp} {ρ1 : List Addr} {G : Hp} {ρ : List Addr} {H : Hp} {μ : Mu} {l : Nat} {Dd : Addr} {σ : L2.St} {Q : VK} (u : Up G1 (ρ1 ++ [Dd]) G ρ) (z : Zn α H G ρ μ) (hl : l = ρ1.length) (p : Post α W (RepD α) G1 ρ1 σ Q (lcEnd l (some μ))) : Q (.ref Dd) H := by
  subst hl
  unfold lcEnd at p
  dsimp only at p
  cases q : cellL μ ρ1.length with
  | none => rw [q] at p; exact p.elim
  | some acc =>
    rw [q] at p
    have hDD : ρ[ρ1.length]? = some Dd := u.get (by simp)
    obtain ⟨vacc, h1, h2⟩ := cell_at z q hDD
    obtain ⟨z', g⟩ := z.freeze (cellL_some q) hDD h1
    obtain ⟨sm, r, hr⟩ := u
    have z2 := z'.cut (ρ0 := ρ1) (r := [Dd] ++ r) (by rw [hr, List.append_assoc])
    have e : (μ.set ρ1.length none).take ρ1.length = μ.take ρ1.length := by
      apply List.ext_getElem?
      intro i
      by_cases hi : i < ρ1.length
      · rw [List.getElem?_take_of_lt hi, List.getElem?_take_of_lt hi, List.getElem?_set_ne (by omega)]
      · rw [List.getElem?_eq_none (by rw [List.length_take]; omega), List.getElem?_eq_none (by rw [List.length_take]; omega)]
    rw [e] at z2
    exact p (.ref Dd) H (upd G Dd (.lst vacc)) ρ1 ⟨sm.trans (same_upd g), [], (List.append_nil _).symm⟩ z2 (.lst upd_same (h2.mono (same_upd g)))
theorem fin_lcC {W : WX} {G1 : Hp} {ρ1 : List Addr} {G : Hp} {ρ : List Addr} {H : Hp} {μ : Mu} {l : Nat} {Dd : Addr} {σ : L2.St} {Q : VK} (u : Up G1 (ρ1 ++ [Dd]) G ρ) (z : Zn α H G ρ μ) (hl : l = ρ1.length) (p : Post α W (RepD α) G1 ρ1 σ Q (lcEndC l (some μ))) : Q (.ref Dd) H := by
  subst hl
  unfold lcEndC at p
  dsimp only at p
  cases q : cellL μ ρ1.length with
  | none => rw [q] at p; exact p.elim
  | some acc =>
    rw [q] at p
    have hDD : ρ[ρ1.length]? = some Dd := u.get (by simp)
    obtain ⟨sm, r, hr⟩ := u
    have z2 := z.cut (ρ0 := ρ1 ++ [Dd]) (r := r) hr
    rw [List.length_append] at z2
    exact p (.ref Dd) H G (ρ1 ++ [Dd]) ⟨sm, [Dd], rfl⟩ z2 ⟨Dd, rfl, by simp⟩
section
variable {W : WX} {elt tg iter : Expr} {ifs : List Expr} {scope : Scope} {own : List (Str × Nat)} {pos : Pos} {g : TG} {it : EvG (List P)} {ts : Tgt} {t : EvT} {e : Ev}
theorem v_lc (hc : X.calm = true) (hN : X.N.Nodup) (hi : VI α W X tg iter it) (ok : BlkOk X.N X.env.scope scope own) (hgs : GSem α g ts (own.map (·.2)))
    (hg : ∀ (s : Shared) (H : Hp) (C : Addr) (cl : List (Str × Addr)) (fp : List Addr), PG (X.blk s H scope (compEnvC scope cl C X.env) fp) tg g) (ht : ∀ (s : Shared) (H : Hp) (C : Addr) (cl : List (Str × Addr)) (fp : List Addr), PTs (X.blk s H scope (compEnvC scope cl C X.env) fp) ifs (tVt α W0 t))
    (he : ∀ (s : Shared) (H : Hp) (C : Addr) (cl : List (Str × Addr)) (fp : List Addr), PE (X.blk s H scope (compEnvC scope cl C X.env) fp) elt (tV α W0 e)) (hs : ∀ x, foldedSetIterable iter X.env x = pure x := by intro _; rfl) :
    PE X (.ListComp elt [⟨tg, iter, ifs, 0⟩] scope pos) (tV α W (evLc it ts t e (own.map (·.2)))) := by
  obtain ⟨wi, pi, hi⟩ := hi
  exact PE.imp (pe_lc hc hN pi ok hg ht he hs) fun σ H Q ⟨G, ρ, δ, μ, z, s, p⟩ => lc_imp hi hgs (fun _ _ _ h => h) (fun _ _ _ h => h) (fun _ => rfl) (fun _ _ _ _ _ _ _ _ _ _ => fin_lc) z s p
theorem v_lcC (hc : X.calm = true) (hN : X.N.Nodup) (hi : VI α W X tg iter it) (ok : BlkOk X.N X.env.scope scope own) (hgs : GSem α g ts (own.map (·.2)))
    (hg : ∀ (s : Shared) (H : Hp) (C : Addr) (cl : List (Str × Addr)) (fp : List Addr), PG (X.blk s H scope (compEnvC scope cl C X.env) fp) tg g) (ht : ∀ (s : Shared) (H : Hp) (C : Addr) (cl : List (Str × Addr)) (fp : List Addr), PTs (X.blk s H scope (compEnvC scope cl C X.env) fp) ifs (tVt α W0 t))
    (he : ∀ (s : Shared) (H : Hp) (C : Addr) (cl : List (Str × Addr)) (fp : List Addr), PE (X.blk s H scope (compEnvC scope cl C X.env) fp) elt (tV α W0 e)) (hs : ∀ x, foldedSetIterable iter X.env x = pure x := by intro _; rfl) :
    PE X (.ListComp elt [⟨tg, iter, ifs, 0⟩] scope pos) (tV α W (evLcC it ts t e (own.map (·.2)))) := by
  obtain ⟨wi, pi, hi⟩ := hi
  exact PE.imp (pe_lc hc hN pi ok hg ht he hs) fun σ H Q ⟨G, ρ, δ, μ, z, s, p⟩ => lc_imp hi hgs (fun _ _ _ h => h) (fun _ _ _ h => h) (fun _ => rfl) (fun _ _ _ _ _ _ _ _ _ _ => fin_lcC) z s p
/-- y = [..], y a local -/
theorem v_setLc {i : Nat} {y : Str} {py : Pos} {spos : Pos} (hc : X.calm = true) (hN : X.N.Nodup) (hy : X.N[i]? = some y) (hyl : X.env.scope.names.lookup y = some .local)
    (hsw : swapsWith (.ListComp elt [⟨tg, iter, ifs, 0⟩] scope pos) (some (.Name y py)) spos.line X.env = pure true) (hi : VI α W X tg iter it) (ok : BlkOk X.N X.env.scope scope own) (hgs : GSem α g ts (own.map (·.2)))
    (hg : ∀ (s : Shared) (H : Hp) (C : Addr) (cl : List (Str × Addr)) (fp : List Addr), PG (X.blk s H scope (compEnvC scope cl C X.env) fp) tg g) (ht : ∀ (s : Shared) (H : Hp) (C : Addr) (cl : List (Str × Addr)) (fp : List Addr), PTs (X.blk s H scope (compEnvC scope cl C X.env) fp) ifs (tVt α W0 t))
    (he : ∀ (s : Shared) (H : Hp) (C : Addr) (cl : List (Str × Addr)) (fp : List Addr), PE (X.blk s H scope (compEnvC scope cl C X.env) fp) elt (tV α W0 e)) (hs : ∀ x, foldedSetIterable iter X.env x = pure x := by intro _; rfl) :
    PS X (.Assign [.Name y py] (.ListComp elt [⟨tg, iter, ifs, 0⟩] scope pos) spos) (tS α W (sSet i (evLc it ts t e (own.map (·.2))))) := by
  obtain ⟨wi, pi, hi⟩ := hi
  refine PS.imp (ps_setLc (i := i) hc hN hy hyl hsw pi ok hg ht he hs) fun Dn σ H ⟨G, ρ, δ, μ, z, s, p⟩ => ?_
  refine lc_imp (fin := lcEnd) hi hgs (fun _ _ _ h => h) (fun _ _ _ h => h) (fun _ => rfl) (fun _ _ _ _ _ _ _ _ _ _ => fin_lc) z s (SPost.bind (m := evLc it ts t e (own.map (·.2)) δ μ) p s fun d μ1 v H1 G1 ρ1 u z1 r1 p1 => ?_)
  exact p1 _ H1 G1 ρ1 Up.refl z1 ((s.up u).set r1 i)
end
end
end Vs
namespace Vs
open PySem PySem.Spec PyProof.Rows L2
section
variable {α : Amb}
def spF (α : Amb) (n : Nat) (sem : FSem) : Sp := fun vs H Q E => vs.length = n ∧ ∃ G ρ μ ds, Zn α H G ρ μ ∧ RepDs α G ρ vs ds ∧ Post α (fun c d _ H => E c d H) (RepD α) G ρ [] Q (sem ds μ)
def retL (n l : Nat) (μ : Mu) : Option (Out D × Mu) := if l < n then some (.ok (.loc l), μ.take n) else match cellL μ l with
  | some xs => some (.ok (.p (.lst xs)), μ.take n)
  | none => none
def retLC (n l : Nat) (μ : Mu) : Option (Out D × Mu) := if l < n then none else match cellL μ l with
  | some xs => some (.ok (.loc n), μ.take n ++ [some (.lst xs)])
  | none => none
/-- what a body hands back: a list of its own becomes data -/
def retF (n : Nat) : Option (Fl × Sl × Mu) → Option (Out D × Mu)
  | some (.ret (.p x), _, μ) => some (.ok (.p x), μ.take n)
  | some (.ret (.loc l), _, μ) => retL n l μ
  | some (.nx, _, μ) => some (.ok (.p .non), μ.take n)
  | some (.exc c, _, μ) => some (.exc c, μ.take n)
  | _ => none
/-- .. a list of its own stays one that may change -/
def retC (n : Nat) : Option (Fl × Sl × Mu) → Option (Out D × Mu)
  | some (.ret (.loc l), _, μ) => retLC n l μ
  | r => retF n r
def bodyS (N : Nat) (sv : SEv) (ds : List D) (μ : Mu) : Option (Fl × Sl × Mu) := sv (ds.map some ++ List.replicate (N - ds.length) none) μ
def bodySem (N : Nat) (sv : SEv) : FSem := fun ds μ => retF μ.length (bodyS N sv ds μ)
def bodySemC (N : Nat) (sv : SEv) : FSem := fun ds μ => retC μ.length (bodyS N sv ds μ)
abbrev WF (E : XK) : WX := fun c d _ H => E c d H
theorem zn_frz {H G : Hp} {ρ ρ0 : List Addr} {μ : Mu} {l : Nat} {xs : List P} {r : List Addr} {v : V} (z : Zn α H G ρ μ) (e : ρ = ρ0 ++ r) (hl : ρ0.length ≤ l) (hc : cellL μ l = some xs) (hv : RepD α G ρ v (.loc l)) :
    ∃ G', Up G ρ0 G' ρ0 ∧ Zn α H G' ρ0 (μ.take ρ0.length) ∧ Rep α G' v (.lst xs) := by
  obtain ⟨a, rfl, ha⟩ := hv
  obtain ⟨vs, h1, h2⟩ := cell_at z hc ha
  obtain ⟨z', g⟩ := z.freeze (cellL_some hc) ha h1
  have z2 := z'.cut e
  have e2 : (μ.set l none).take ρ0.length = μ.take ρ0.length := by
    apply List.ext_getElem?
    intro i
    by_cases hi : i < ρ0.length
    · rw [List.getElem?_take_of_lt hi, List.getElem?_take_of_lt hi, List.getElem?_set_ne (by omega)]
    · rw [List.getElem?_eq_none (by rw [List.length_take]; omega), List.getElem?_eq_none (by rw [List.length_take]; omega)]
  rw [e2] at z2
  exact ⟨upd G a (.lst vs), up_new g, z2, .lst upd_same (h2.mono (same_upd g))⟩
theorem ret_ok {E : XK} {Q : VK} {G : Hp} {ρ : List Addr} {r : Option (Fl × Sl × Mu)} (h : Post α (WF E) (RepD α) G ρ [] Q (retF ρ.length r)) : SPost α (WF E) { nx := fun _ H' => Q .non H', rt := Q } G ρ r := by
  match r, h with
  | some (.ret (.p x), δ, μ), h =>
    intro v H' G' ρ' u z r
    obtain ⟨sm, q, e⟩ := u
    exact h v H' G' ρ ⟨sm, [], (List.append_nil _).symm⟩ (z.cut e) r
  | some (.ret (.loc l), δ, μ), h =>
    intro v H' G' ρ' u z r
    obtain ⟨sm, q, e⟩ := u
    have h : Post α (WF E) (RepD α) G ρ [] Q (retL ρ.length l μ) := h
    unfold retL at h
    split at h
    · rename_i hl
      refine h v H' G' ρ ⟨sm, [], (List.append_nil _).symm⟩ (z.cut e) ?_
      obtain ⟨a, rfl, ha⟩ := r
      rw [e, List.getElem?_append_left hl] at ha
      exact ⟨a, rfl, ha⟩
    · rename_i hl
      cases hc : cellL μ l with
      | none => rw [hc] at h; exact h.elim
      | some xs =>
        rw [hc] at h
        obtain ⟨G2, u2, z2, r2⟩ := zn_frz z e (by omega) hc r
        exact h v H' G2 ρ ⟨sm.trans u2.same, [], (List.append_nil _).symm⟩ z2 r2
  | some (.nx, δ, μ), h =>
    intro σ' H' G' ρ' u z s
    obtain ⟨sm, q, e⟩ := u
    exact h .non H' G' ρ ⟨sm, [], (List.append_nil _).symm⟩ (z.cut e) .non
  | some (.exc c, δ, μ), h =>
    intro σ' H' G' ρ' u z s
    obtain ⟨sm, q, e⟩ := u
    exact h H' G' ρ ⟨sm, [], (List.append_nil _).symm⟩ (z.cut e)
theorem retC_ok {E : XK} {Q : VK} {G : Hp} {ρ : List Addr} {r : Option (Fl × Sl × Mu)} (h : Post α (WF E) (RepD α) G ρ [] Q (retC ρ.length r)) : SPost α (WF E) { nx := fun _ H' => Q .non H', rt := Q } G ρ r := by
  match r, h with
  | some (.ret (.loc l), δ, μ), h =>
    intro v H' G' ρ' u z r
    obtain ⟨sm, q, e⟩ := u
    have h : Post α (WF E) (RepD α) G ρ [] Q (retLC ρ.length l μ) := h
    unfold retLC at h
    split at h
    · exact h.elim
    · rename_i hl
      cases hc : cellL μ l with
      | none => rw [hc] at h; exact h.elim
      | some xs =>
        rw [hc] at h
        obtain ⟨a, rfl, ha⟩ := r
        obtain ⟨vs, h1, h2⟩ := cell_at z hc ha
        obtain ⟨a', g1, g2, g3⟩ := z.cell l _ (cellL_some hc)
        rw [ha] at g1; cases g1
        have z0 := z.cut e
        have hlen : (μ.take ρ.length).length = ρ.length := z0.len.symm
        have old : ∀ {k : Nat} {m : MO}, (μ.take ρ.length ++ [some (MO.lst xs)])[k]? = some (some m) → (k < ρ.length ∧ (μ.take ρ.length)[k]? = some (some m)) ∨ (k = ρ.length ∧ m = .lst xs) := fun {k m} ek => by
          by_cases hk : k < ρ.length
          · rw [List.getElem?_append_left (by omega)] at ek; exact .inl ⟨hk, ek⟩
          · rw [List.getElem?_append_right (by omega), hlen] at ek
            by_cases h0 : k - ρ.length = 0
            · rw [h0] at ek; simp at ek; exact .inr ⟨by omega, ek.symm⟩
            · rw [List.getElem?_eq_none (by simp; omega)] at ek; cases ek
        have up : ∀ {k : Nat} {m : MO}, k < ρ.length → (μ.take ρ.length)[k]? = some (some m) → μ[k]? = some (some m) := fun {k m} hk ek => by rw [List.getElem?_take_of_lt hk] at ek; exact ek
        have atl : ∀ {k : Nat}, k < ρ.length → (ρ ++ [a])[k]? = ρ'[k]? := fun {k} hk => by rw [e, List.getElem?_append_left hk, List.getElem?_append_left hk]
        have atn : (ρ ++ [a])[ρ.length]? = some a := by simp
        refine h (.ref a) H' G' (ρ ++ [a]) ⟨sm, [a], rfl⟩ ⟨z.sub, by rw [List.length_append, List.length_append, hlen]; rfl, fun k m ek => ?_, fun k k' m m' b e1 e2 b1 b2 => ?_⟩ ⟨a, rfl, atn⟩
        · rcases old ek with ⟨hk, ek⟩ | ⟨rfl, rfl⟩
          · obtain ⟨b, b1, b2, b3⟩ := z.cell k m (up hk ek)
            exact ⟨b, by rw [atl hk]; exact b1, b2, (MRep.cut (Nat.le_of_lt hk) (by rw [e] at b3; exact b3)).up up_place⟩
          · exact ⟨a, atn, g2, g3⟩
        · rcases old e1 with ⟨k1, f1⟩ | ⟨q1, _⟩ <;> rcases old e2 with ⟨k2, f2⟩ | ⟨q2, _⟩
          · rw [atl k1] at b1; rw [atl k2] at b2
            exact z.inj _ _ _ _ b (up k1 f1) (up k2 f2) b1 b2
          · subst q2
            rw [atl k1] at b1; rw [atn] at b2; cases b2
            have := z.inj _ _ _ _ a (up k1 f1) (cellL_some hc) b1 ha
            omega
          · subst q1
            rw [atl k2] at b2; rw [atn] at b1; cases b1
            have := z.inj _ _ _ _ a (up k2 f2) (cellL_some hc) b2 ha
            omega
          · rw [q1, q2]
  | some (.ret (.p x), δ, μ), h => exact ret_ok (r := some (.ret (.p x), δ, μ)) h
  | some (.nx, δ, μ), h => exact ret_ok (r := some (.nx, δ, μ)) h
  | some (.exc c, δ, μ), h => exact ret_ok (r := some (.exc c, δ, μ)) h
section
variable {P : Program} {w : World} {K : PySem.W.Frag} {mg : Str → Option Value} {base : Heap}
/-- the context of a def's body -/
abbrev cxF (P : Program) (w : World) (K : PySem.W.Frag) (mg : Str → Option Value) (base : Heap) (N : List Str) (qual : Str) (st : Stmt) (f : Addr) (cdv : Value) (A : Around) (outer : List Env) (s : Shared) (H : Hp) (E : XK) : Cx :=
  cxOf (L2.CX P w) P w K mg base N qual (defScope st) f cdv A outer s H E
/-- a def by its body's worth -/
theorem fnG {x qual : Str} {st : Stmt} {f : Addr} {fd : FuncData} {N ps : List Str} {k : Nat} {sv : SEv} {sem : FSem} (F : Fun K x qual st f fd) (S : FnScope N ps (defScope st))
    (hret : ∀ (E : XK) (Q : VK) (G : Hp) (ρ : List Addr) (H : Hp) (ds : List D) (μ : Mu), Zn α H G ρ μ → Post α (WF E) (RepD α) G ρ [] Q (sem ds μ) → SPost α (WF E) { nx := fun _ H' => Q .non H', rt := Q } G ρ (bodyS N.length sv ds μ))
    (hb : ∀ (cdv : Value) (A : Around) (outer : List Env) (s : Shared) (H : Hp) (E : XK), Room k (A.deeper (envOfC qual (defScope st) s.heap.objs.size f cdv)) →
      Takes (cxF P w K mg base N qual st f cdv A outer s H E) (WF E) → PassesOwn (model P w) (cxF P w K mg base N qual st f cdv A outer s H E).A (cxF P w K mg base N qual st f cdv A outer s H E).env (cxF P w K mg base N qual st f cdv A outer s H E).xe →
      PSs (cxF P w K mg base N qual st f cdv A outer s H E) (defBody st) (tS α (WF E) sv)) :
    FnOk P w K mg base (L2.CX P w) (k + 1) f fd ps (spF α ps.length sem) := by
  refine F.okX S (fun vs H Q E h => h.1) (fun cdv A outer s H vs Q E hr h => ?_)
  obtain ⟨hl, G, ρ, μ, ds, z, r, p⟩ := h
  refine ⟨_, hb cdv A outer s H E hr (takes_of rfl rfl rfl rfl) (passes_of rfl), G, ρ, _, μ, z, Sq.start r, ?_⟩
  exact hret E Q G ρ H ds μ z p
theorem fnV {x qual : Str} {st : Stmt} {f : Addr} {fd : FuncData} {N ps : List Str} {k : Nat} {sv : SEv} (F : Fun K x qual st f fd) (S : FnScope N ps (defScope st))
    (hb : ∀ (cdv : Value) (A : Around) (outer : List Env) (s : Shared) (H : Hp) (E : XK), Room k (A.deeper (envOfC qual (defScope st) s.heap.objs.size f cdv)) →
      Takes (cxF P w K mg base N qual st f cdv A outer s H E) (WF E) → PassesOwn (model P w) (cxF P w K mg base N qual st f cdv A outer s H E).A (cxF P w K mg base N qual st f cdv A outer s H E).env (cxF P w K mg base N qual st f cdv A outer s H E).xe →
      PSs (cxF P w K mg base N qual st f cdv A outer s H E) (defBody st) (tS α (WF E) sv)) :
    FnOk P w K mg base (L2.CX P w) (k + 1) f fd ps (spF α ps.length (bodySem N.length sv)) :=
  fnG F S (fun E Q G ρ H ds μ z p => ret_ok (by rw [z.len]; exact p)) hb
theorem fnVC {x qual : Str} {st : Stmt} {f : Addr} {fd : FuncData} {N ps : List Str} {k : Nat} {sv : SEv} (F : Fun K x qual st f fd) (S : FnScope N ps (defScope st))
    (hb : ∀ (cdv : Value) (A : Around) (outer : List Env) (s : Shared) (H : Hp) (E : XK), Room k (A.deeper (envOfC qual (defScope st) s.heap.objs.size f cdv)) →
      Takes (cxF P w K mg base N qual st f cdv A outer s H E) (WF E) → PassesOwn (model P w) (cxF P w K mg base N qual st f cdv A outer s H E).A (cxF P w K mg base N qual st f cdv A outer s H E).env (cxF P w K mg base N qual st f cdv A outer s H E).xe →
      PSs (cxF P w K mg base N qual st f cdv A outer s H E) (defBody st) (tS α (WF E) sv)) :
    FnOk P w K mg base (L2.CX P w) (k + 1) f fd ps (spF α ps.length (bodySemC N.length sv)) :=
  fnG F S (fun E Q G ρ H ds μ z p => retC_ok (by rw [z.len]; exact p)) hb
/-- a worth that says less -/
theorem fn_le {f : Addr} {fd : FuncData} {ps : List Str} {k n : Nat} {sem sem' : FSem} {CX : CXT} (F : FnOk P w K mg base CX k f fd ps (spF α n sem)) (h : ∀ ds μ r, sem' ds μ = some r → sem ds μ = some r) : FnOk P w K mg base CX k f fd ps (spF α n sem') :=
  F.imp fun vs H Q E ⟨hl, G, ρ, μ, ds, z, r, p⟩ => ⟨hl, G, ρ, μ, ds, z, r, by
    cases q : sem' ds μ with
    | none => rw [q] at p; exact p.elim
    | some y => rw [h _ _ _ q]; rw [q] at p; exact p⟩
end
section
variable {W : WX} {X : Cx}
theorem post_at {G : Hp} {ρ : List Addr} {σ : L2.St} {Q : VK} {m : Option (Out D × Mu)} (h : Post α W (RepD α) G ρ σ Q m) : Post α (WF (WE W σ)) (RepD α) G ρ [] Q m := by
  match m, h with
  | some (.ok x, μ'), h => exact h
  | some (.exc c, μ'), h => exact h
theorem reps_ds {G : Hp} {ρ : List Addr} : ∀ {vs : List V} {xs : List P}, Reps α G vs xs → RepDs α G ρ vs (xs.map .p)
  | _, _, .nil => .nil
  | _, _, .cons r t => .cons r (reps_ds t)
theorem reps_dvs {G : Hp} {ρ : List Addr} {dvs : List V} {dds : List P} (h : ∀ G, Reps α G dvs dds) : RepDs α G ρ dvs (dds.map .p) := reps_ds (h G)
def evCall (sem : FSem) (dds : List P) (args : EvA) : Ev := fun δ μ => bindG (args δ μ) fun ds μ1 => sem (ds ++ dds.map .p) μ1
theorem call_imp {sem : FSem} {n : Nat} {dvs : List V} {dds : List P} {args : EvA} (hd : ∀ G, Reps α G dvs dds) (hn : ∀ ds μ r, sem ds μ = some r → ds.length = n) {σ : L2.St} {H : Hp} {Q : VK} (h : tV α W (evCall sem dds args) σ H Q) :
    tVs α W args σ H fun vs H1 => spF α n sem (vs ++ dvs) H1 Q (WE W σ) := by
  obtain ⟨G, ρ, δ, μ, z, s, p⟩ := h
  refine ⟨G, ρ, δ, μ, z, s, Post.bind p fun ds μ1 vs H1 G1 ρ1 u z1 r1 p1 => ?_⟩
  have r2 := r1.append (reps_dvs (G := G1) (ρ := ρ1) hd)
  refine ⟨?_, G1, ρ1, μ1, _, z1, r2, post_at p1⟩
  rw [r2.length]
  cases q : sem (ds ++ dds.map .p) μ1 with
  | none => rw [q] at p1; exact p1.elim
  | some y => exact hn _ _ _ q
/-- the worths have their number of arguments -/
def Arity (sem : FSem) (n : Nat) : Prop := ∀ ds μ r, sem ds μ = some r → ds.length = n
section
variable {k n : Nat} {f : Addr} {fd : FuncData} {ps : List Str} {sem : FSem} {dvs : List V} {dds : List P} {ds : List Value} {x : Str} {p pos : Pos} {e : Expr} {es : List Expr} {args : EvA}
theorem v_call (tk : Takes X W) (hr : Room k X.A) (F : FnOk X.prog X.w X.K X.mg X.base (L2.CX X.prog X.w) k f fd ps (spF α n sem)) (hn : Arity sem n) (hm : X.mg x = some (.ref f)) (hk : PySem.W.keepIn X.K (.ref f) = true) (hb : Binds X.K fd ps ds) (hd : Vals dvs ds) (hdd : ∀ G, Reps α G dvs dds)
    (ha : PA X (e :: es) (tVs α W args)) (hg : Gl X x := by rfl) (hdb : (x == ("__debug__" : Str)) = false := by decide) (he : starEach (e :: es) X.env = (false, eval e X.env) :: starEach es X.env := by rfl) (hpl : (backTo pos (starEach es X.env)).any (·.1) = false := by rfl) :
    PE X (.Call (.Name x p) (e :: es) [] pos) (tV α W (evCall sem dds args)) :=
  PE.imp (pe_callSD F hr hg hm hk hb hd (fun σ => passAt tk σ) ha hdb he hpl) fun σ H Q h => call_imp hdd hn h
theorem run_makeS {k : Nat} {f C : Addr} {fd : FuncData} {ps : List Str} {sp : Sp} {dvs : List V} {ds : List Value} {E : XK} {pins : List (Addr × Obj)} {σ : L2.St} {H : Hp} {s : Shared} {Q : VK} {us : List Value} {vs : List V} {CX : CXT} (M : Mk X.K C f) (F : FnOk X.prog X.w X.K X.mg X.base CX k f fd ps sp) (hr : Room (k + 1) X.A) (hb : Binds X.K fd ps ds) (hd : Vals dvs ds)
    (hx : PassesAt CX X σ E) (I : Inv X pins σ H s) (r : Vals vs us)
    (h : ∀ x dx, H x = none → H dx = none → dx ≠ x → sp (.ref x :: (vs ++ dvs)) (upd (upd H dx (.own x)) x (.ins C dx [])) (fun v H2 => v = .non ∧ Q (.ref x) H2) E) :
    wpAny (model X.prog X.w) X.A (call (.ref C) us) (EP X pins σ Q) X.xe s := by
  have hq := h (s.heap.objs.size + 1) s.heap.objs.size (I.hok.fresh (Nat.le_succ _)) (I.hok.fresh (Nat.le_refl _)) (Nat.ne_of_lt (Nat.lt_succ_self _))
  have I2 := Inv.made (C := C) I
  have r2 : Vals (V.ref (s.heap.objs.size + 1) :: (vs ++ dvs)) (Value.ref (s.heap.objs.size + 1) :: (us ++ ds)) := .cons rfl (r.append hd)
  have hl : (Value.ref (s.heap.objs.size + 1) :: us ++ ds).length = ps.length := by
    have e := r2.length
    rw [F.len _ _ _ _ hq] at e
    exact e.symm
  refine wpAny_call (make_map (f := f) I.kIn M.makes M.init (beq_iff_eq.mp M.fn) (codeAny_mono (F.run _ X.stack _ _ ⟨Value.ref (s.heap.objs.size + 1) :: us, []⟩ (Value.ref (s.heap.objs.size + 1) :: (us ++ ds)) _ _ E (hr.make C us [])
    (I2.env0.make C us []) (hb _ (Value.ref (s.heap.objs.size + 1) :: us) I2.kIn hl) r2 hq) fun r s' hq' => ?_))
  cases r with
  | error e => exact hx pins _ _ e s' I2 hq'
  | ok fl =>
    cases fl with
    | ret u =>
      obtain ⟨v, H', I3, rv, ev, q3⟩ := I2.after hq'
      subst ev
      exact ⟨rv, ⟨V.ref (s.heap.objs.size + 1), H', I3, rfl, q3⟩⟩
    | next => exact False.elim hq'
    | brk => exact False.elim hq'
    | cont => exact False.elim hq'
def tMakeS (C : Addr) (sp : Sp) (dvs : List V) (E : L2.St → XK) (t : TA) : TE := fun σ H Q => t σ H fun vs H1 => ∀ x dx, H1 x = none → H1 dx = none → dx ≠ x →
  sp (.ref x :: (vs ++ dvs)) (upd (upd H1 dx (.own x)) x (.ins C dx [])) (fun v H2 => v = .non ∧ Q (.ref x) H2) (E σ)
theorem pe_makeS {k : Nat} {f C : Addr} {fd : FuncData} {ps : List Str} {sp : Sp} {dvs : List V} {ds : List Value} {E : L2.St → XK} {x : Str} {p pos : Pos} {e : Expr} {es : List Expr} {t : TA} {CX : CXT} (M : Mk X.K C f) (F : FnOk X.prog X.w X.K X.mg X.base CX k f fd ps sp) (hr : Room (k + 1) X.A) (hg : Gl X x) (hm : X.mg x = some (.ref C)) (hb : Binds X.K fd ps ds) (hd : Vals dvs ds) (hx : ∀ σ, PassesAt CX X σ (E σ))
    (ha : PA X (e :: es) t) (hdb : (x == ("__debug__" : Str)) = false := by decide) (he : starEach (e :: es) X.env = (false, eval e X.env) :: starEach es X.env := by rfl) (hpl : (backTo pos (starEach es X.env)).any (·.1) = false := by rfl) :
    PE X (.Call (.Name x p) (e :: es) [] pos) (tMakeS C sp dvs E t) := by
  refine ⟨fun pins s σ H Q I h => ?_⟩
  refine wpAny_Call_Name_kw (ld_glob I hg hm ?_ hdb)
  refine PySem.W.callWith_K (h₀ := X.base) I.ok.mod.kin M.kp (thn (ha.run pos pins s σ H _ I h) fun us s1 ⟨vs, H1, I1, r, q⟩ => ⟨I1.kIn, ?_⟩) he hpl
  exact run_makeS M F hr hb hd (hx σ) I1 r q
def mkEnd (c nf l : Nat) : Option (Out D × Mu) → Option (Out D × Mu)
  | some (.ok d, μ2) => if isNon d = true then (match μ2[l]? with
    | some (some (.ins c' xs)) => if c' = c ∧ xs.length = nf then some (.ok (.p (.obj c xs)), μ2.take l) else none
    | _ => none) else none
  | some (.exc e, μ2) => some (.exc e, μ2.take l)
  | none => none
theorem isNon_of {d : D} (h : isNon d = true) : d = .p .non := by
  cases d with
  | loc l => cases h
  | p x => cases x <;> first | rfl | cases h
def evMake (c nf : Nat) (sem : FSem) (dds : List P) (args : EvA) : Ev := fun δ μ => bindG (args δ μ) fun ds μ1 => mkEnd c nf μ1.length (sem (.loc μ1.length :: (ds ++ dds.map .p)) (μ1 ++ [some (.ins c [])]))
theorem take_set {μ : Mu} {l n : Nat} {o : Option MO} (h : n ≤ l) : (μ.set l o).take n = μ.take n := by
  apply List.ext_getElem?
  intro i
  by_cases hi : i < n
  · rw [List.getElem?_take_of_lt hi, List.getElem?_take_of_lt hi, List.getElem?_set_ne (by omega)]
  · rw [List.getElem?_eq_none (by rw [List.length_take]; omega), List.getElem?_eq_none (by rw [List.length_take]; omega)]
theorem v_make {c nf k n : Nat} {f : Addr} {fd : FuncData} {ps : List Str} {sem : FSem} {dvs : List V} {dds : List P} {ds : List Value} {x : Str} {p pos : Pos} {e : Expr} {es : List Expr} {args : EvA} (tk : Takes X W) (hr : Room (k + 1) X.A) (M : Mk X.K (α.cl c) f) (F : FnOk X.prog X.w X.K X.mg X.base (L2.CX X.prog X.w) k f fd ps (spF α n sem)) (hn : Arity sem n) (hnf : (α.fl c).length = nf)
    (hm : X.mg x = some (.ref (α.cl c))) (hb : Binds X.K fd ps ds) (hd : Vals dvs ds) (hdd : ∀ G, Reps α G dvs dds) (ha : PA X (e :: es) (tVs α W args)) (hg : Gl X x := by rfl) (hdb : (x == ("__debug__" : Str)) = false := by decide) (he : starEach (e :: es) X.env = (false, eval e X.env) :: starEach es X.env := by rfl)
    (hpl : (backTo pos (starEach es X.env)).any (·.1) = false := by rfl) : PE X (.Call (.Name x p) (e :: es) [] pos) (tV α W (evMake c nf sem dds args)) := by
  refine PE.imp (pe_makeS M F hr hg hm hb hd (fun σ => passAt tk σ) ha hdb he hpl) fun σ H Q ⟨G, ρ, δ, μ, z, s, p⟩ => ⟨G, ρ, δ, μ, z, s, Post.bind p fun ds' μ1 vs H1 G1 ρ1 u z1 r1 p1 => ?_⟩
  intro a dx na ndx nad
  have s1 : Same H1 (upd H1 dx (.own a)) := same_upd ndx
  have na2 : (upd H1 dx (.own a)) a = none := by rw [upd_ne (Ne.symm nad)]; exact na
  have z2 := (z1.grow s1).place (m := .ins c []) na2 (o := .ins (α.cl c) dx []) ⟨dx, [], by rw [List.zip_nil_right], Nat.zero_le _, .nil⟩
  have hat : (ρ1 ++ [a])[μ1.length]? = some a := by rw [← z1.len]; simp
  have r2 : RepDs α G1 (ρ1 ++ [a]) (.ref a :: (vs ++ dvs)) (.loc μ1.length :: (ds' ++ dds.map .p)) := .cons ⟨a, rfl, hat⟩ ((r1.up up_place).append (reps_dvs hdd))
  refine ⟨?_, G1, ρ1 ++ [a], _, _, z2, r2, ?_⟩
  · rw [r2.length]
    cases q : sem (.loc μ1.length :: (ds' ++ dds.map .p)) (μ1 ++ [some (.ins c [])]) with
    | none => rw [q] at p1; exact p1.elim
    | some y => exact hn _ _ _ q
  · generalize sem (.loc μ1.length :: (ds' ++ dds.map .p)) (μ1 ++ [some (.ins c [])]) = m at p1
    match m, p1 with
    | some (.exc ec, μ2), p1 =>
      intro H' G' ρ' u2 z3
      obtain ⟨sm, r, er⟩ := u2
      have z4 := z3.cut (ρ0 := ρ1) (r := [a] ++ r) (by rw [er, List.append_assoc])
      rw [z1.len] at z4
      exact p1 H' G' ρ1 ⟨sm, [], (List.append_nil _).symm⟩ z4
    | some (.ok d, μ2), p1 =>
      intro v H' G' ρ' u2 z3 rv
      unfold mkEnd at p1
      dsimp only at p1
      split at p1
      · rename_i hd0
        rw [isNon_of hd0] at rv
        refine ⟨repNon rv, ?_⟩
        have hat' : ρ'[μ1.length]? = some a := u2.get hat
        obtain ⟨sm, r, er⟩ := u2
        split at p1
        · rename_i c' xs hc
          split at p1
          · rename_i hh
            obtain ⟨rfl, hx⟩ := hh
            obtain ⟨a', h1, h2, dx', ws, h3, h4, h5⟩ := z3.cell _ _ hc
            rw [hat'] at h1; cases h1
            obtain ⟨z4, g⟩ := z3.freeze hc hat' h3
            have z5 := z4.cut (ρ0 := ρ1) (r := [a] ++ r) (by rw [er, List.append_assoc])
            rw [z1.len, take_set (Nat.le_refl _)] at z5
            exact p1 (.ref a) H' _ ρ1 ⟨sm.trans (same_upd g), [], (List.append_nil _).symm⟩ z5 (.obj upd_same (by rw [h5.length, hx, hnf]) (h5.mono (same_upd g)))
          · exact p1.elim
        · exact p1.elim
      · exact p1.elim
/-- a class's attributes, as the rules ask for them -/
structure Own (α : Amb) (c : Nat) : Prop where
  cls : Cls α.K (α.cl c)
  no : ∀ (i : Nat) (f : Str), (α.fl c)[i]? = some f → NoAttr α.K (α.cl c) f
  nd : (α.fl c).Nodup
  few : (α.fl c).length < 1000
theorem lookup_zip : ∀ {ns : List Str} {vs : List V} {i : Nat} {f : Str} {v : V}, ns.Nodup → ns[i]? = some f → vs[i]? = some v → (ns.zip vs).lookup f = some v
  | [], _, _, _, _, _, h, _ => by simp at h
  | _ :: _, [], _, _, _, _, _, h => by simp at h
  | a :: ns, w :: vs, 0, f, v, nd, h1, h2 => by
    simp at h1 h2; subst h1; subst h2
    show List.lookup a ((a, w) :: ns.zip vs) = some w
    simp [List.lookup]
  | a :: ns, w :: vs, i + 1, f, v, nd, h1, h2 => by
    have nd' := List.nodup_cons.mp nd
    have hf : f ∈ ns := List.mem_of_getElem? (by simpa using h1)
    have hne : (f == a) = false := beq_eq_false_iff_ne.mpr fun e => nd'.1 (by rw [← e]; exact hf)
    show List.lookup f ((a, w) :: ns.zip vs) = some v
    simp only [List.lookup, hne]
    exact lookup_zip nd'.2 (by simpa using h1) (by simpa using h2)
theorem putF_zip_set {y : V} : ∀ {ns : List Str} {vs : List V} {i : Nat} {f : Str}, ns.Nodup → ns[i]? = some f → i < vs.length → putF f y (ns.zip vs) = ns.zip (vs.set i y)
  | [], _, _, _, _, h, _ => by simp at h
  | _ :: _, [], _, _, _, _, h => by simp at h
  | a :: ns, w :: vs, 0, f, nd, h1, _ => by
    simp at h1; subst h1
    show (if a = a then _ else _) = _
    rw [if_pos rfl]; rfl
  | a :: ns, w :: vs, i + 1, f, nd, h1, h2 => by
    have nd' := List.nodup_cons.mp nd
    have hf : f ∈ ns := List.mem_of_getElem? (by simpa using h1)
    have hne : ¬ a = f := fun e => nd'.1 (by rw [e]; exact hf)
    show (if a = f then _ else (a, w) :: putF f y (ns.zip vs)) = _
    rw [if_neg hne, putF_zip_set nd'.2 (by simpa using h1) (by simpa using h2)]
    rfl
theorem putF_zip_new {y : V} : ∀ {ns : List Str} {vs : List V} {f : Str}, ns.Nodup → ns[vs.length]? = some f → putF f y (ns.zip vs) = ns.zip (vs ++ [y])
  | [], _, _, _, h => by simp at h
  | a :: ns, [], f, nd, h1 => by
    simp at h1; subst h1
    show [(a, y)] = (a, y) :: List.zip ns []
    rw [List.zip_nil_right]
  | a :: ns, w :: vs, f, nd, h1 => by
    have nd' := List.nodup_cons.mp nd
    have hf : f ∈ ns := List.mem_of_getElem? (by simpa using h1)
    have hne : ¬ a = f := fun e => nd'.1 (by rw [e]; exact hf)
    show (if a = f then _ else (a, w) :: putF f y (ns.zip vs)) = _
    rw [if_neg hne, putF_zip_new nd'.2 (by simpa using h1)]
    rfl
/-- o.f, the attribute i of the class c -/
def fFld (c i : Nat) : F1 := fun x μ => match x with
  | .p (.obj c' xs) => if c' = c then (xs[i]?).map fun y => (.p y, μ) else none
  | .loc l => match μ[l]? with
    | some (some (.ins c' xs)) => if c' = c then (xs[i]?).map fun y => (.p y, μ) else none
    | _ => none
  | _ => none
theorem v_fld (c i : Nat) {e : Expr} {ev : Ev} {f : Str} {pos : Pos} (O : Own α c) (hK : X.K = α.K) (hf : (α.fl c)[i]? = some f) (he : PE X e (tV α W ev)) (hb : attributeBase e f X.env (eval e X.env) = eval e X.env := by rfl) : PE X (.Attribute e f pos) (tV α W (evUn (fFld c i) ev)) :=
  PE.imp (pe_fld he hb) fun σ H Q ⟨G, ρ, δ, μ, z, s, p⟩ => ⟨G, ρ, δ, μ, z, s, Post.bind p fun x μ1 v H1 G1 ρ1 u z1 r1 p1 => by
    have pf := p1.fin
    clear p1
    rw [hK]
    cases x with
    | p x =>
      cases x with
      | obj c' xs =>
        cases r1 with
        | obj h hl hr =>
          unfold fFld at pf
          dsimp only at pf
          split at pf
          · rename_i hc
            subst hc
            cases q : xs[i]? with
            | none => rw [q] at pf; exact pf.elim
            | some y =>
              rw [q] at pf
              obtain ⟨w, h1, h2⟩ := hr.get q
              exact ⟨_, α.cl c', _, _, w, rfl, z1.sub _ _ h, O.cls, O.no i f hf, lookup_zip O.nd hf h1, pf w H1 G1 ρ1 Up.refl z1 h2⟩
          · exact pf.elim
      | _ => exact pf.elim
    | loc l =>
      obtain ⟨a, ev, ha⟩ := r1
      subst ev
      unfold fFld at pf
      dsimp only at pf
      split at pf
      · rename_i c' xs hm
        split at pf
        · rename_i hc
          subst hc
          obtain ⟨a', g1, g2, dx, vs, g3, g4, g5⟩ := z1.cell l _ hm
          rw [ha] at g1; cases g1
          cases q : xs[i]? with
          | none => rw [q] at pf; exact pf.elim
          | some y =>
            rw [q] at pf
            obtain ⟨w, h1, h2⟩ := g5.get q
            exact ⟨a, α.cl c', dx, _, w, rfl, g3, O.cls, O.no i f hf, lookup_zip O.nd hf h1, pf w H1 G1 ρ1 Up.refl z1 h2⟩
        · exact pf.elim
      · exact pf.elim⟩
/-- self.f = e, the attribute i of the class c, self an object that may change -/
def sFldS (c i : Nat) (o e : Ev) : SEv := fun δ μ => bindS (e δ μ) δ fun d μ1 => bindS (o δ μ1) δ fun x μ2 => match x, toP μ2 d with
  | .loc l, some (y, μ3) => match μ3[l]? with
    | some (some (.ins c' xs)) => if c' = c then (if i < xs.length then some (.nx, δ, μ3.set l (some (.ins c (xs.set i y)))) else if i = xs.length then some (.nx, δ, μ3.set l (some (.ins c (xs ++ [y])))) else none) else none
    | _ => none
  | _, _ => none
theorem v_fldS (c i : Nat) {o value : Expr} {eo ev : Ev} {f : Str} {pos pos' : Pos} (O : Own α c) (hK : X.K = α.K) (hf : (α.fl c)[i]? = some f) (ho : PE X o (tV α W eo)) (hv : PE X value (tV α W ev)) (hs : swapsWith value (some (.Attribute o f pos')) pos.line X.env = pure false := by rfl) :
    PS X (.Assign [.Attribute o f pos'] value pos) (tS α W (sFldS c i eo ev)) :=
  PS.imp (ps_fld ho hv hs) fun Dn σ H ⟨G, ρ, δ, μ, z, s, p⟩ => ⟨G, ρ, δ, μ, z, s, SPost.bind p s fun d μ1 y H1 G1 ρ1 u z1 r1 p1 => ⟨G1, ρ1, δ, μ1, z1, s.up u, SPost.bind p1 (s.up u) fun x μ2 v H2 G2 ρ2 u2 z2 r2 p2 => by
    rw [hK]
    cases x with
    | p x => exact p2.elim
    | loc l =>
      cases q : toP μ2 d with
      | none => rw [q] at p2; exact p2.elim
      | some ym =>
        obtain ⟨y', μ3⟩ := ym
        rw [q] at p2
        dsimp only at p2
        obtain ⟨G3, u3, z3, r3⟩ := toP_ok z2 (r1.up u2) q
        obtain ⟨a, rfl, ha⟩ := r2
        split at p2
        · rename_i c' xs hm
          split at p2
          · rename_i hc
            subst hc
            obtain ⟨a', g1, g2, dx, vs, g3, g4, g5⟩ := z3.cell l _ hm
            rw [ha] at g1; cases g1
            have hlen : ((α.fl c').zip vs).length < 1000 := by
              rw [List.length_zip]
              have := O.few
              omega
            refine ⟨a, α.cl c', dx, _, rfl, g3, O.cls, O.no i f hf, hlen, ?_⟩
            have s3 := ((s.up u).up u2).up u3
            have hi : i < (α.fl c').length := (List.getElem?_eq_some_iff.mp hf).1
            split at p2
            · rename_i hlt
              rw [putF_zip_set O.nd hf (by rw [g5.length]; exact hlt)]
              exact p2 σ _ G3 ρ2 u3 (z3.write hm ha (m' := .ins c' (xs.set i y')) ⟨dx, _, rfl, by rw [List.length_set]; exact g4, g5.set r3 i⟩) s3
            · split at p2
              · rename_i hge
                have hvl : vs.length = i := by rw [g5.length]; omega
                rw [putF_zip_new O.nd (by rw [hvl]; exact hf)]
                exact p2 σ _ G3 ρ2 u3 (z3.write hm ha (m' := .ins c' (xs ++ [y'])) ⟨dx, _, rfl, by rw [List.length_append, hvl]; exact hi, g5.append (.cons r3 .nil)⟩) s3
              · exact p2.elim
          · exact p2.elim
        · exact p2.elim⟩⟩
end
end
end
end Vs
namespace PySem.W
open PySem PySem.Calls PyProof.Rows
section
variable {prog : Program} {w : World} {A : Around} {E : Value → Shared → Prop} {s : Shared} {K : Frag} {x C L f : Addr} {h₀ : Heap} {m : Str → Option Value} {ox : Obj} {od : Option Obj} {b tb : Value}
theorem vs_ne_bind (self : Value) : bindSpecial (.builtin "object.__ne__") self = pure (.builtin "object.__ne__", [self]) := PySem.F.cmp_object.ne.bind self
theorem vs_ifBoundB {M : Model} {args : List Value} {Q : Option Value → Shared → Prop} (X : K.In s.heap) (I : InstAt s.heap x ox C od) (hs : findIn K (.ref C) "__ne__" = some (some (.builtin "object.__ne__")))
    (h : wpAny M A (call (.builtin "object.__ne__") (.ref x :: args)) (fun v => Q (some v)) E s) : wpAny M A (callSpecialIfBound? (.ref x) "__ne__" args) Q E s := by
  simp only [callSpecialIfBound?, bindSpecialIfBound?]
  refine wpAny_holding (wpAny_bind (wpAny_bind (wpAny_bind (I.type.here ((looks_findIn X hs).here ?_)))))
  refine wpAny_bind (wpAny_askSetting (wpAny_ite ?_))
  have fin : wpAny M A (call (.builtin "object.__ne__") ([.ref x] ++ args) >>= fun v => pure (some v)) Q E s := wpAny_bind (wpAny_mono h (fun v s' h' => wpAny_pure h') fun _ _ h' => h')
  rw [vs_ne_bind]
  split
  · exact wpAny_bind (wpAny_pure (wpAny_pure (by exact fin)))
  · exact wpAny_tryCatch (wpAny_bind (wpAny_pure (wpAny_pure (by exact fin))))
theorem vs_neBody {M : Model} {Q : Fin → Shared → Prop} (hu : A.units < cLine) (X : K.In s.heap) (I : InstAt s.heap x ox C od) (hs : findIn K (.ref C) "__eq__" = some (some (.ref f))) (hf : isFn K (.ref f) = true)
    (h : wpAny M A (call (.ref f) [.ref x, b]) (fun v s' => ∃ k, v = .bool k ∧ Q (.done (.ret (.bool (!k)))) s') E s) : wpAny M A (Builtin.«object.__ne__» ⟨[.ref x, b], []⟩) Q E s := by
  unfold Builtin.«object.__ne__»
  repeat (first
    | with_reducible refine wpAny_cRoomFor hu ?_
    | (refine wpAny_bind (m := callSpecialIfBound? (.ref x) (Str.ofString "__eq__") [b])
        (ifBound_K X I hs hf (wpAny_mono h (fun r s' hr => by
          obtain ⟨k, rfl, hq⟩ := hr
          repeat (first | exact hq | exact wpAny_pure hq | exact wpAny_truthy_bool hq | (refine wpAny_bind (m := truthy (.bool _)) (wpAny_truthy_bool ?_)) | wp_step)) fun _ _ e => e)))
    | wp_step)
/-- x != b by the class's own ==, its != being the object's -/
theorem vs_ne_K {Q : Value → Shared → Prop} (hu : A.units + 1 < cLine) (F : Fr h₀ L s.heap m) (X₀ : K.In h₀) (I : InstAt s.heap x ox C od) (hb : Looks (model prog w) s.heap (typeOf b) tb) (hn : notFirst K C tb = true)
    (hne : findIn K (.ref C) "__ne__" = some (some (.builtin "object.__ne__"))) (hob : subIn K (.ref C) (.type "object") = some true) (hs : findIn K (.ref C) "__eq__" = some (some (.ref f))) (hf : isFn K (.ref f) = true)
    (h : wpAny (model prog w) A.in1 (call (.ref f) [.ref x, b]) (fun v s' => ∃ k, v = .bool k ∧ Q (.bool (!k)) s') E s) : wpAny (model prog w) A (richCompare .NotEq (.ref x) b) Q E s := by
  have X := X₀.keeps F.keep
  have hcall : wpAny (model prog w) A (call (.builtin "object.__ne__") [.ref x, b]) (fun v s' => ∃ k, v = .bool k ∧ Q (.bool k) s') E s := by
    refine wpAny_call (codeAny_call_builtin PySem.F.cmp_object.ne.plain PySem.F.cmpEntry_ne ?_)
    refine check_slot PySem.F.cmpKind_ne PySem.F.cmpSplit_ne (I.type.andThen (looks_subIn X hob)) (PySem.F.cmpArgs_ne _ _) ?_
    exact vs_neBody (A := A.in1) (by show A.units + 1 < cLine; exact hu) X I hs hf (wpAny_mono h (fun v s' hv => by
      obtain ⟨k, rfl, q⟩ := hv
      exact ⟨k, rfl, !k, rfl, q⟩) fun _ _ e => e)
  have one : wpAny (model prog w) A (tryCompare (.ref x) (cmpInfo .NotEq).2.1 b) (fun r s' => ∃ v, r = some v ∧ Q v s') E s := by
    unfold tryCompare
    refine wpAny_bind (vs_ifBoundB X I hne (wpAny_mono hcall (fun v s' hv => ?_) fun _ _ e => e))
    obtain ⟨k, rfl, q⟩ := hv
    exact wpAny_pure ⟨_, rfl, q⟩
  unfold richCompare
  simp only [oneThing_ref]
  refine wpAny_holding (wpAny_bind (wpAny_cRoomFor (Nat.lt_of_succ_lt hu) ?_))
  refine wpAny_bind (I.type.here (wpAny_bind (hb.here ?_)))
  split
  · rename_i q
    have e : subIn K tb (.ref C) = some false := by
      rcases Bool.or_eq_true_iff.mp hn with e | e
      · rw [beq_iff_eq.mp e] at q; simp at q
      · exact beq_iff_eq.mp e
    refine wpAny_bind ((looks_subIn X e).here ?_)
    simp only [Bool.false_eq_true, if_false]
    refine wpAny_bind (wpAny_mono one (fun r s' z => ?_) fun _ _ e => e)
    obtain ⟨v, rfl, hq⟩ := z
    exact wpAny_pure hq
  · refine wpAny_bind (wpAny_pure ?_)
    simp only [Bool.false_eq_true, if_false]
    refine wpAny_bind (wpAny_mono one (fun r s' z => ?_) fun _ _ e => e)
    obtain ⟨v, rfl, hq⟩ := z
    exact wpAny_pure hq
end
end PySem.W
namespace Vs
open PySem PySem.Spec PyProof.Rows L2
section
variable {α : Amb} {W : WX} {X : Cx}
section
variable {k n : Nat} {f : Addr} {fd : FuncData} {ps : List Str} {sem : FSem}
/-- a call one machine level deeper -/
theorem run_fnS1 {CX : CXT} {sp : Sp} {E : L2.St → XK} {pins : List (Addr × Obj)} {σ : L2.St} {H : Hp} {s : Shared} {Q : VK} {us : List Value} {vs : List V} (F : FnOk X.prog X.w X.K X.mg X.base CX k f fd ps sp) (hr : Room (k + 1) X.A) (hb : Binds X.K fd ps []) (hx : PassesAt CX X σ (E σ))
    (I : Inv X pins σ H s) (r : Vals vs us) (h : sp vs H Q (E σ)) : wpAny (model X.prog X.w) X.A.in1 (call (.ref f) us) (EP X pins σ Q) X.xe s := by
  have hl : us.length = ps.length := by rw [← r.length]; exact F.len _ _ _ _ h
  have b := hb s us I.kIn (by rw [List.append_nil]; exact hl)
  rw [List.append_nil] at b
  refine wpAny_call (codeAny_mono (F.run X.A.in1 X.stack s H ⟨us, []⟩ us vs Q (E σ) hr.in1 I.env0.in1 b r h) fun r s' hq => ?_)
  cases r with
  | error e => exact hx pins H s e s' I hq
  | ok fl =>
    cases fl with
    | ret u => exact I.after hq
    | next => exact False.elim hq
    | brk => exact False.elim hq
    | cont => exact False.elim hq
theorem repObj {G : Hp} {x : V} {c : Nat} {xs : List P} (h : Rep α G x (.obj c xs)) : ∃ a dx fs, x = .ref a ∧ G a = some (.ins (α.cl c) dx fs) := by
  cases h with
  | obj h _ _ => exact ⟨_, _, _, rfl, h⟩
theorem inst_of {pins : List (Addr × Obj)} {σ : L2.St} {H : Hp} {s : Shared} {a C dx : Addr} {fs : List (Str × V)} (I : Inv X pins σ H s) (h : H a = some (.ins C dx fs)) : ∃ od, PySem.W.InstAt s.heap a (PySem.W.instObj C dx) C (some od) := by
  obtain ⟨mA, J, _⟩ := ins_get I.hok h
  obtain ⟨od, J, _⟩ := J.look
  exact ⟨od, J⟩
theorem back_ok {pins : List (Addr × Obj)} {σ : L2.St} {Q : VK} {u : Value} {s' : Shared} (h : EP X pins σ Q u s') : PySem.W.CmpBack (EP X pins σ Q) u s' := by
  obtain ⟨v, H', I, r, q⟩ := h
  have hne : u ≠ .notImplemented := by
    rintro rfl
    cases v <;> first | (cases r; done) | (obtain ⟨t, e⟩ := r; cases e)
  unfold PySem.W.CmpBack
  split
  · exact absurd rfl hne
  · exact ⟨v, H', I, r, q⟩
def semD (sem : FSem) (ds : List D) (μ : Mu) : Option (D × Mu) := match sem ds μ with
  | some (.ok d, μ') => some (d, μ')
  | _ => none
def isObj (c : Nat) : D → Bool
  | .p (.obj c' _) => c' == c
  | _ => false
theorem isObj_of {c : Nat} {d : D} (h : isObj c d = true) : ∃ xs, d = .p (.obj c xs) := by
  cases d with
  | loc l => cases h
  | p x => cases x <;> first | (cases h; done) | (rename_i c' xs; have e : (c' == c) = true := h; rw [beq_iff_eq.mp e]; exact ⟨_, rfl⟩)
/-- what the class's method for an operator must be -/
structure OpOwn (K : PySem.W.Frag) (C f : Addr) (name : Str) : Prop where
  first : PySem.W.selfFirst K C = true
  find : PySem.W.findIn K (.ref C) name = some (some (.ref f))
  fn : PySem.W.isFn K (.ref f) = true
theorem spf_of {c : Nat} {G : Hp} {ρ : List Addr} {H : Hp} {μ : Mu} {σ : L2.St} {Q : VK} {vs : List V} {ds : List D} (z : Zn α H G ρ μ) (r : RepDs α G ρ vs ds) (hn : Arity sem n) (q : Fin1 α G ρ Q (semD sem ds μ)) : spF α n sem vs H Q (WE W σ) := by
  unfold semD at q
  split at q
  · rename_i d μ' h
    refine ⟨by rw [r.length]; exact hn _ _ _ h, G, ρ, μ, ds, z, r, ?_⟩
    rw [h]; exact q
  · exact q.elim
def fOwn1 (c : Nat) (sem : FSem) : F1 := fun x μ => if isObj c x = true then semD sem [x] μ else none
theorem o_own1 {c : Nat} (tk : Takes X W) (hr : Room k X.A) (F : FnOk X.prog X.w X.K X.mg X.base (L2.CX X.prog X.w) k f fd ps (spF α n sem)) (hn : Arity sem n) (hb : Binds X.K fd ps []) (O : OpOwn X.K (α.cl c) f "__neg__") :
    UnR X (unaryOp .USub) (r1V α (fOwn1 c sem)) := by
  intro pins s σ H x v Q I rx h
  obtain ⟨G, ρ, μ, dx, z, r1, q⟩ := h
  unfold fOwn1 at q
  split at q
  · rename_i hh
    obtain ⟨xs, rfl⟩ := isObj_of hh
    obtain ⟨a, d1, fs, rfl, h1⟩ := repObj r1
    cases rx
    obtain ⟨od, J⟩ := inst_of I (z.sub _ _ h1)
    obtain ⟨m, hF⟩ := I.fr
    exact PySem.W.ksp_neg hF I.ok.mod.kin J O.find O.fn (run_fnS (E := WE W) F hr hb (passAt tk σ) I (vs := [.ref a]) (.cons rfl .nil) (spf_of (c := c) z (.cons r1 .nil) hn q))
  · exact q.elim
/-- the type of data -/
def tyP (α : Amb) : P → Value
  | .non => .type "NoneType"
  | .bl _ => .type "bool"
  | .int _ => .type "int"
  | .str _ => .type "str"
  | .tup _ => .type "tuple"
  | .lst _ => .type "list"
  | .wl _ => .type "list"
  | .obj c _ => .ref (α.cl c)
theorem looks_ty {pins : List (Addr × Obj)} {σ : L2.St} {H G : Hp} {ρ : List Addr} {μ : Mu} {s : Shared} {v : V} {u : Value} {x : P} (I : Inv X pins σ H s) (hK : X.K = α.K) (z : Zn α H G ρ μ) (r : Rep α G v x) (ru : RelV v u) : PySem.W.Looks (model X.prog X.w) s.heap (typeOf u) (tyP α x) := by
  cases r with
  | non => cases ru; exact PySem.W.Looks.of_pure rfl
  | bl b => cases ru; exact PySem.W.Looks.of_pure rfl
  | int i => obtain ⟨t, rfl⟩ := ru; exact PySem.W.Looks.of_pure rfl
  | str i => obtain ⟨t, rfl⟩ := ru; exact PySem.W.Looks.of_pure rfl
  | tup h _ =>
    cases ru
    obtain ⟨its, rv, ⟨o, ho, hc, n, hd⟩, _⟩ := I.tuple (by rw [hK]; exact seqT z.sub h)
    exact fun A Q E s k q => wpAny_typeOf_ref (k _ _ ho) (by rw [hc]; exact q)
  | lst h _ =>
    cases ru
    obtain ⟨its, rv, ⟨o, n, ho, hc, _, hd⟩, _⟩ := I.list (SqL.of (z.sub _ _ h))
    exact fun A Q E s k q => wpAny_typeOf_ref (k _ _ ho) (by rw [hc]; exact q)
  | wl h _ =>
    cases ru
    obtain ⟨its, rv, ⟨o, n, ho, hc, _, hd⟩, _⟩ := I.list (by rw [hK]; exact seqL z.sub h)
    exact fun A Q E s k q => wpAny_typeOf_ref (k _ _ ho) (by rw [hc]; exact q)
  | obj h _ _ =>
    cases ru
    obtain ⟨od, J⟩ := inst_of I (z.sub _ _ h)
    exact J.type
/-- the types that the other side may have -/
def eqTys : List String := ["NoneType", "bool", "int", "str", "tuple", "list"]
structure EqOwn (K : PySem.W.Frag) (C f : Addr) : Prop where
  find : PySem.W.findIn K (.ref C) "__eq__" = some (some (.ref f))
  fn : PySem.W.isFn K (.ref f) = true
  nf : ∀ T ∈ eqTys, PySem.W.notFirst K C (.type T) = true
structure NeOwn (K : PySem.W.Frag) (C : Addr) : Prop where
  ne : PySem.W.findIn K (.ref C) "__ne__" = some (some (.builtin "object.__ne__"))
  ob : PySem.W.subIn K (.ref C) (.type "object") = some true
theorem nf_of {K : PySem.W.Frag} {c : Nat} {x : P} (hK : K = α.K) {g : Addr} (O : EqOwn K (α.cl c) g) (h : ∀ c' xs, x = .obj c' xs → c' = c) : PySem.W.notFirst K (α.cl c) (tyP α x) = true := by
  cases x with
  | obj c' xs => rw [h c' xs rfl]; simp [PySem.W.notFirst, tyP]
  | _ => exact O.nf _ (by decide)
/-- the other side: data; an object only of this class -/
def okSide (c : Nat) : D → Bool
  | .p (.obj c' _) => c' == c
  | .p _ => true
  | .loc _ => false
def notD : Option (D × Mu) → Option (D × Mu)
  | some (.p (.bl b), μ) => some (.p (.bl (!b)), μ)
  | _ => none
def fEqO (c : Nat) (sem : FSem) : F2 := fun x y μ => if (isObj c x && okSide c y) = true then semD sem [x, y] μ else none
def fNeO (c : Nat) (sem : FSem) : F2 := fun x y μ => if (isObj c x && okSide c y) = true then notD (semD sem [x, y] μ) else none
theorem side_of {c : Nat} {d : D} (h : okSide c d = true) : ∃ x, d = .p x ∧ ∀ c' xs, x = .obj c' xs → c' = c := by
  cases d with
  | loc l => cases h
  | p x => exact ⟨x, rfl, fun c' xs e => by subst e; exact beq_iff_eq.mp h⟩
theorem o_eqO {c : Nat} (tk : Takes X W) (hr : Room k X.A) (hK : X.K = α.K) (F : FnOk X.prog X.w X.K X.mg X.base (L2.CX X.prog X.w) k f fd ps (spF α n sem)) (hn : Arity sem n) (hb : Binds X.K fd ps []) (O : EqOwn X.K (α.cl c) f) :
    OpR X (compareOp .Eq) (r2V α (fEqO c sem)) := by
  intro pins s σ H x y v u Q I rx ry h
  obtain ⟨G, ρ, μ, dx, dy, z, r1, r2, q⟩ := h
  unfold fEqO at q
  split at q
  · rename_i hh
    rw [Bool.and_eq_true] at hh
    obtain ⟨xs, rfl⟩ := isObj_of hh.1
    obtain ⟨y', rfl, hy⟩ := side_of hh.2
    obtain ⟨a, d1, fs, rfl, h1⟩ := repObj r1
    cases rx
    obtain ⟨od, J⟩ := inst_of I (z.sub _ _ h1)
    obtain ⟨m, hF⟩ := I.fr
    show wpAny (model X.prog X.w) X.A (richCompare .Eq (.ref a) u) (EP X pins σ Q) X.xe s
    refine PySem.W.cmp_K (op := .Eq) hr.units0 hF I.ok.mod.kin J (looks_ty I hK z r2 ry) (nf_of hK O hy) O.find O.fn ?_
    refine wpAny_mono (run_fnS (E := WE W) F hr hb (passAt tk σ) I (vs := [.ref a, y]) (.cons rfl (.cons ry .nil)) (spf_of (c := c) z (.cons r1 (.cons r2 .nil)) hn q)) (fun u s' hu => back_ok hu) fun _ _ e => e
  · exact q.elim
theorem o_neO {c : Nat} (tk : Takes X W) (hr : Room (k + 1) X.A) (hK : X.K = α.K) (F : FnOk X.prog X.w X.K X.mg X.base (L2.CX X.prog X.w) k f fd ps (spF α n sem)) (hn : Arity sem n) (hb : Binds X.K fd ps []) (O : EqOwn X.K (α.cl c) f) (O2 : NeOwn X.K (α.cl c)) :
    OpR X (compareOp .NotEq) (r2V α (fNeO c sem)) := by
  intro pins s σ H x y v u Q I rx ry h
  obtain ⟨G, ρ, μ, dx, dy, z, r1, r2, q⟩ := h
  unfold fNeO at q
  split at q
  · rename_i hh
    rw [Bool.and_eq_true] at hh
    obtain ⟨xs, rfl⟩ := isObj_of hh.1
    obtain ⟨y', rfl, hy⟩ := side_of hh.2
    obtain ⟨a, d1, fs, rfl, h1⟩ := repObj r1
    cases rx
    obtain ⟨od, J⟩ := inst_of I (z.sub _ _ h1)
    obtain ⟨m, hF⟩ := I.fr
    show wpAny (model X.prog X.w) X.A (richCompare .NotEq (.ref a) u) (EP X pins σ Q) X.xe s
    have hu1 : X.A.units + 1 < cLine := by have := hr.units; omega
    refine PySem.W.vs_ne_K hu1 hF I.ok.mod.kin J (looks_ty I hK z r2 ry) (nf_of hK O hy) O2.ne O2.ob O.find O.fn ?_
    have q2 : Fin1 α G ρ (fun w H' => ∃ b, w = .bl b ∧ Q (.bl (!b)) H') (semD sem [D.p (.obj c xs), D.p y'] μ) := by
      revert q
      generalize semD sem [D.p (.obj c xs), D.p y'] μ = r
      intro q
      unfold notD at q
      split at q
      · rename_i b μ'
        intro w H' G' ρ' u' z' rw'
        cases rw' with
        | bl _ => exact ⟨b, rfl, q _ H' G' ρ' u' z' (.bl _)⟩
      · exact q.elim
    refine wpAny_mono (run_fnS1 (E := WE W) F hr hb (passAt tk σ) I (vs := [.ref a, y]) (.cons rfl (.cons ry .nil)) (spf_of (c := c) z (.cons r1 (.cons r2 .nil)) hn q2)) (fun u s' hu => ?_) fun _ _ e => e
    obtain ⟨w, H', I', rw', b, rfl, q3⟩ := hu
    cases rw'
    exact ⟨b, rfl, .bl (!b), H', I', rfl, q3⟩
  · exact q.elim
end
abbrev FA := List D → Mu → Option (D × Mu)
def rCV (α : Amb) (f : FA) : List V → Hp → VK → Prop := fun vs H Q => ∃ G ρ μ ds, Zn α H G ρ μ ∧ RepDs α G ρ vs ds ∧ Fin1 α G ρ Q (f ds μ)
def evBI (f : FA) (a : EvA) : Ev := fun δ μ => bindG (a δ μ) fun ds μ1 => okm (f ds μ1)
section
variable {f : FA} {x : Str} {p pos : Pos} {e : Expr} {es : List Expr} {a : EvA} {id T : String}
theorem bi_imp {σ : L2.St} {H : Hp} {Q : VK} (h : tV α W (evBI f a) σ H Q) : tVs α W a σ H fun vs H1 => rCV α f vs H1 Q := by
  obtain ⟨G, ρ, δ, μ, z, s, p⟩ := h
  exact ⟨G, ρ, δ, μ, z, s, Post.bind p fun ds μ1 vs H1 G1 ρ1 u z1 r1 p1 => ⟨G1, ρ1, μ1, ds, z1, r1, p1.fin⟩⟩
theorem v_callB (hc : CallR X (.builtin id) (rCV α f)) (hm : X.mg x = none) (hv : bootBuiltins x = some (.builtin id)) (ha : PA X (e :: es) (tVs α W a)) (hg : Gl X x := by rfl) (hn : x ≠ "__name__" := by decide) (hdb : (x == ("__debug__" : Str)) = false := by decide)
    (he : starEach (e :: es) X.env = (false, eval e X.env) :: starEach es X.env := by rfl) (hpl : (backTo pos (starEach es X.env)).any (·.1) = false := by rfl) : PE X (.Call (.Name x p) (e :: es) [] pos) (tV α W (evBI f a)) :=
  PE.imp (pe_callB hc hg hm hv ha hn hdb he hpl) fun σ H Q h => bi_imp h
theorem v_callTy (hc : CallR X (.type T) (rCV α f)) (hm : X.mg x = none) (hv : bootBuiltins x = some (.type T)) (ha : PA X (e :: es) (tVs α W a)) (hg : Gl X x := by rfl) (hn : x ≠ "__name__" := by decide) (hdb : (x == ("__debug__" : Str)) = false := by decide)
    (he : starEach (e :: es) X.env = (false, eval e X.env) :: starEach es X.env := by rfl) (hpl : (backTo pos (starEach es X.env)).any (·.1) = false := by rfl) : PE X (.Call (.Name x p) (e :: es) [] pos) (tV α W (evBI f a)) :=
  PE.imp (pe_callTy hc hg hm hv ha hn hdb he hpl) fun σ H Q h => bi_imp h
theorem v_callBf (hc : CallR X (.builtin id) (rCV α f)) (hm : X.mg x = some (.builtin id)) (ha : PA X (e :: es) (tVs α W a)) (hg : Gl X x := by rfl) (hdb : (x == ("__debug__" : Str)) = false := by decide)
    (he : starEach (e :: es) X.env = (false, eval e X.env) :: starEach es X.env := by rfl) (hpl : (backTo pos (starEach es X.env)).any (·.1) = false := by rfl) : PE X (.Call (.Name x p) (e :: es) [] pos) (tV α W (evBI f a)) :=
  PE.imp (pe_callBfun hc hg hm ha hdb he hpl) fun σ H Q h => bi_imp h
end
theorem rds1 {G : Hp} {ρ : List Addr} {vs : List V} {d : D} (r : RepDs α G ρ vs [d]) : ∃ v, vs = [v] ∧ RepD α G ρ v d := by
  cases r with
  | cons r t => cases t; exact ⟨_, rfl, r⟩
theorem rds2 {G : Hp} {ρ : List Addr} {vs : List V} {d e : D} (r : RepDs α G ρ vs [d, e]) : ∃ v w, vs = [v, w] ∧ RepD α G ρ v d ∧ RepD α G ρ w e := by
  cases r with
  | cons r t => obtain ⟨w, rfl, r2⟩ := rds1 t; exact ⟨_, w, rfl, r, r2⟩
def fAbs : FA := fun ds μ => match ds with
  | [.p (.int i)] => some (.p (.int (if i < 0 then -i else i)), μ)
  | _ => none
theorem c_abs : CallR X (.builtin "abs") (rCV α fAbs) := CallR.imp call_abs fun vs H Q ⟨G, ρ, μ, ds, z, r, q⟩ => by
  unfold fAbs at q
  split at q
  · rename_i i
    obtain ⟨v, rfl, r1⟩ := rds1 r
    exact ⟨i, by rw [repInt r1], q _ H G ρ Up.refl z (.int _)⟩
  · exact q.elim
def fInt : FA := fun ds μ => match ds with
  | [.p (.int i)] => some (.p (.int i), μ)
  | [.p (.bl b)] => some (.p (.int (if b then 1 else 0)), μ)
  | _ => none
theorem c_int : CallR X (.type "int") (rCV α fInt) := CallR.imp call_int1 fun vs H Q ⟨G, ρ, μ, ds, z, r, q⟩ => by
  unfold fInt at q
  split at q
  · rename_i i
    obtain ⟨v, rfl, r1⟩ := rds1 r
    exact .inl ⟨i, by rw [repInt r1], q _ H G ρ Up.refl z (.int _)⟩
  · rename_i b
    obtain ⟨v, rfl, r1⟩ := rds1 r
    exact .inr ⟨b, by rw [repBl r1], q _ H G ρ Up.refl z (.int _)⟩
  · exact q.elim
def fGcd : FA := fun ds μ => match ds with
  | [.p (.int i), .p (.int j)] => some (.p (.int ((Nat.gcd i.natAbs j.natAbs : Nat) : Int)), μ)
  | _ => none
theorem c_gcd : CallR X (.builtin "math.gcd") (rCV α fGcd) := CallR.imp cr_gcd fun vs H Q ⟨G, ρ, μ, ds, z, r, q⟩ => by
  unfold fGcd at q
  split at q
  · rename_i i j
    obtain ⟨v, w, rfl, r1, r2⟩ := rds2 r
    exact ⟨i, j, by rw [repInt r1, repInt r2], q _ H G ρ Up.refl z (.int _)⟩
  · exact q.elim
def fLen : FA := fun ds μ => match ds with
  | [d] => match view μ d with
    | some (.lst xs) => some (.p (.int xs.length), μ)
    | some (.wl xs) => some (.p (.int xs.length), μ)
    | some (.tup xs) => some (.p (.int xs.length), μ)
    | some (.str s) => if s.length ≤ sizeLine then some (.p (.int s.length), μ) else none
    | _ => none
  | _ => none
theorem c_len (hK : X.K = α.K) : CallR X (.builtin "len") (rCV α fLen) := CallR.imp (call_len_seq.or call_len_str) fun vs H Q ⟨G, ρ, μ, ds, z, r, q⟩ => by
  unfold fLen at q
  rw [hK]
  split at q
  · rename_i d
    obtain ⟨v, rfl, r1⟩ := rds1 r
    split at q
    · rename_i xs hv
      obtain ⟨a, ws, rfl, h1, h2⟩ := view_lst z r1 hv
      exact .inl ⟨a, ws, rfl, .inl (SqL.of h1), by rw [h2.length]; exact q _ H G ρ Up.refl z (.int _)⟩
    · rename_i xs hv
      obtain ⟨a, ws, rfl, h1, h2⟩ := view_wl z r1 hv
      exact .inl ⟨a, ws, rfl, .inl h1, by rw [h2.length]; exact q _ H G ρ Up.refl z (.int _)⟩
    · rename_i xs hv
      obtain ⟨a, ws, rfl, h1, h2⟩ := view_tup z r1 hv
      exact .inl ⟨a, ws, rfl, .inr h1, by rw [h2.length]; exact q _ H G ρ Up.refl z (.int _)⟩
    · rename_i zz hv
      split at q
      · rename_i hl
        rw [view_str z r1 hv]
        exact .inr ⟨zz, rfl, hl, q _ H G ρ Up.refl z (.int _)⟩
      · exact q.elim
    · exact q.elim
  · exact q.elim
/-- list(x), a new one -/
def fList : FA := fun ds μ => match ds with
  | [d] => match view μ d with
    | some x => (asList x).map fun xs => (.p (.lst xs), μ)
    | _ => none
  | _ => none
theorem view_seq {H G : Hp} {ρ : List Addr} {μ : Mu} (z : Zn α H G ρ μ) {v : V} {d : D} {x : P} {xs : List P} (r : RepD α G ρ v d) (e : view μ d = some x) (h : asList x = some xs) : ∃ a vs, v = .ref a ∧ (SqL α.K H a vs ∨ SqT α.K H a vs) ∧ Reps α G vs xs := by
  cases x <;> cases h
  · obtain ⟨a, vs, h1, h2, h3⟩ := view_tup z r e; exact ⟨a, vs, h1, .inr h2, h3⟩
  · obtain ⟨a, vs, h1, h2, h3⟩ := view_lst z r e; exact ⟨a, vs, h1, .inl (SqL.of h2), h3⟩
  · obtain ⟨a, vs, h1, h2, h3⟩ := view_wl z r e; exact ⟨a, vs, h1, .inl h2, h3⟩
theorem c_list (hK : X.K = α.K) : CallR X (.type "list") (rCV α fList) := CallR.imp call_list_of fun vs H Q ⟨G, ρ, μ, ds, z, r, q⟩ => by
  unfold fList at q
  rw [hK]
  split at q
  · rename_i d
    obtain ⟨v, rfl, r1⟩ := rds1 r
    split at q
    · rename_i x hv
      cases hx : asList x with
      | none => rw [hx] at q; exact q.elim
      | some xs =>
        rw [hx] at q
        obtain ⟨a, ws, rfl, h1, h2⟩ := view_seq z r1 hv hx
        exact ⟨a, ws, rfl, h1, fun l nl => q _ _ _ _ (up_new (z.free nl)) (z.new nl _) (.lst upd_same (h2.mono (same_upd (z.free nl))))⟩
    · exact q.elim
  · exact q.elim
def boolStr (b : Bool) : Str := if b then "True" else "False"
def fRepr : FA := fun ds μ => match ds with
  | [.p (.bl b)] => some (.p (.str (boolStr b)), μ)
  | _ => none
theorem c_repr : CallR X (.builtin "repr") (rCV α fRepr) := by
  intro pins s σ H xs us Q I r h
  obtain ⟨G, ρ, μ, ds, z, rd, q⟩ := h
  unfold fRepr at q
  split at q
  · rename_i b
    obtain ⟨v, rfl, rd1⟩ := rds1 rd
    rw [repBl rd1] at r
    obtain ⟨u, rfl, ru⟩ := vals1 r
    cases ru
    exact PySem.P.repr_of_bool ⟨.str _, H, I.tok _, ⟨_, rfl⟩, q _ H G ρ Up.refl z (.str _)⟩
  · exact q.elim
/-- what an own class's objects must be for isinstance -/
structure InsOwn (K : PySem.W.Frag) (C : Addr) : Prop where
  cls : Cls K C
  ha : PySem.W.findIn K (.ref C) "__class__" = some (some (.builtin "object.__class__"))
  hn : PySem.W.specialIn K (.builtin "object.__class__") "__get__" = some (some (.builtin "getset_descriptor.__get__"))
  htk : PySem.W.takesIn K (.builtin "object.__class__") = some true
  hm : PySem.W.mroIn K C (.type "object") = some true
theorem tyx_of {H G : Hp} {ρ : List Addr} {μ : Mu} {v : V} {x : P} (z : Zn α H G ρ μ) (r : Rep α G v x) (O : ∀ c xs, x = .obj c xs → InsOwn α.K (α.cl c)) : TyX α.K H v (tyP α x) := by
  cases r with
  | non => exact .base .non
  | bl b => exact .base (.bl b)
  | int i => exact .base (.int i)
  | str i => exact .base (.str i)
  | tup h _ =>
    rcases h with (h | ⟨o, h⟩) | ⟨o, its, n, h, hc, _⟩
    · exact .base (.tup (z.sub _ _ h))
    · exact .fTuple (z.sub _ _ h)
    · exact .kTuple h hc
  | lst h _ => exact .base (.lst (z.sub _ _ h))
  | wl h _ =>
    rcases h with (h | ⟨o, h⟩) | ⟨o, its, n, h, hc, _⟩
    · exact .base (.lst (z.sub _ _ h))
    · exact .base (.frz (z.sub _ _ h))
    · exact .kList h hc
  | obj h _ _ =>
    have o := O _ _ rfl
    exact .base (.ins (z.sub _ _ h) o.cls o.ha o.hn o.htk o.hm)
def isLst (μ : Mu) (d : D) : Bool := match view μ d with
  | some (.lst _) => true
  | _ => false
abbrev FM := D → List D → Mu → Option (D × Mu)
def rMV (α : Amb) (f : FM) : V → List V → Hp → VK → Prop := fun x vs H Q => ∃ G ρ μ d ds, Zn α H G ρ μ ∧ RepD α G ρ x d ∧ RepDs α G ρ vs ds ∧ Fin1 α G ρ Q (f d ds μ)
def evBM (ty : Mu → D → Bool) (f : FM) (o : Ev) (a : EvA) : Ev := fun δ μ => bindG (o δ μ) fun x μ1 => if ty μ1 x = true then bindG (a δ μ1) fun ds μ2 => okm (f x ds μ2) else none
theorem ty_lst {H G : Hp} {ρ : List Addr} {μ : Mu} {v : V} {d : D} (z : Zn α H G ρ μ) (r : RepD α G ρ v d) (h : isLst μ d = true) : tyV X.K "list" v H := by
  unfold isLst at h
  split at h
  · rename_i xs hv
    obtain ⟨a, vs, rfl, h1, h2⟩ := view_lst z r hv
    exact .inl ⟨rfl, vs, SqL.of h1⟩
  · cases h
theorem v_bm {T id : String} {name : Str} {ty : Mu → D → Bool} {f : FM} {o e : Expr} {es : List Expr} {eo : Ev} {a : EvA} {apos cpos : Pos} (pa : PlainAttrs T) (slot : Slot T name id) (hty : typeOf (.builtin id) = pure (.type "method_descriptor")) (hm : MtR X id (rMV α f))
    (htv : ∀ {H G : Hp} {ρ : List Addr} {μ : Mu} {v : V} {d : D}, Zn α H G ρ μ → RepD α G ρ v d → ty μ d = true → tyV X.K T v H) (ho : PE X o (tV α W eo)) (ha : PA X (e :: es) (tVs α W a))
    (hbase : attributeBase o name X.env (eval o X.env) = eval o X.env := by rfl)
    (hfew : ((backTo cpos (starEach (e :: es) X.env)).all (fun x => !x.1) && (backToKw cpos (keywordEach [] X.env)).all (fun x => x.1.isSome)
      && decide ((e :: es).length + ([] : List Keyword).length + (if ([] : List Keyword).isEmpty then 0 else 1) < 30)) = true := by rfl)
    (hline : (apos.endLine == cpos.line) = true := by rfl) (hs : starEach (e :: es) X.env = (false, eval e X.env) :: starEach es X.env := by rfl) (hplain : (backTo cpos (starEach es X.env)).any (·.1) = false := by rfl) :
    PE X (.Call (.Attribute o name apos) (e :: es) [] cpos) (tV α W (evBM ty f eo a)) :=
  PE.imp (pe_bm pa slot hty hm ho ha hbase hfew hline hs hplain) fun σ H Q ⟨G, ρ, δ, μ, z, s, p⟩ => ⟨G, ρ, δ, μ, z, s, Post.bind p fun d μ1 v H1 G1 ρ1 u z1 r1 p1 => by
    split at p1
    · rename_i ht
      exact ⟨htv z1 r1 ht, G1, ρ1, δ, μ1, z1, s.up u, Post.bind p1 fun ds μ2 vs H2 G2 ρ2 u2 z2 r2 p2 => ⟨G2, ρ2, μ2, d, ds, z2, r1.up u2, r2, p2.fin⟩⟩
    · exact p1.elim⟩
def fApp : FM := fun x ds μ => match x, ds with
  | .loc l, [d] => match toP μ d with
    | some (y, μ1) => match cellL μ1 l with
      | some xs => if xs.length < sizeLine then some (.p .non, μ1.set l (some (.lst (xs ++ [y])))) else none
      | none => none
    | none => none
  | _, _ => none
theorem m_append : MtR X "list.append" (rMV α fApp) := MtR.imp mt_append fun x vs H Q ⟨G, ρ, μ, d, ds, z, r, rs, q⟩ => by
  unfold fApp at q
  split at q
  · rename_i l d'
    obtain ⟨v, rfl, rs1⟩ := rds1 rs
    cases h1 : toP μ d' with
    | none => rw [h1] at q; exact q.elim
    | some ym =>
      obtain ⟨y, μ1⟩ := ym
      rw [h1] at q
      dsimp only at q
      obtain ⟨G1, u1, z1, r1⟩ := toP_ok z rs1 h1
      cases h2 : cellL μ1 l with
      | none => rw [h2] at q; exact q.elim
      | some xs =>
        rw [h2] at q
        dsimp only at q
        split at q
        · rename_i hl
          obtain ⟨a, rfl, ha⟩ := r
          obtain ⟨ws, g1, g2⟩ := cell_at z1 h2 ha
          exact ⟨a, ws, v, rfl, rfl, g1, by rw [g2.length]; exact hl, q _ _ G1 ρ u1 (z1.write (cellL_some h2) ha (m' := .lst (xs ++ [y])) ⟨_, rfl, g2.append (.cons r1 .nil)⟩) .non⟩
        · exact q.elim
  · exact q.elim
/-- o[i] = e, o a list that may change -/
def sSetIx (o i e : Ev) : SEv := fun δ μ => bindS (e δ μ) δ fun d μ1 => bindS (o δ μ1) δ fun x μ2 => bindS (i δ μ2) δ fun j μ3 => match x, j, toP μ3 d with
  | .loc l, .p (.int k), some (y, μ4) => match cellL μ4 l with
    | some xs => match ixN xs.length k with
      | some n => some (.nx, δ, μ4.set l (some (.lst (xs.set n y))))
      | none => none
    | none => none
  | _, _, _ => none
theorem v_setIx {o i e : Expr} {eo ei ee : Ev} {p2 pos : Pos} (ho : PE X o (tV α W eo)) (hi : PE X i (tV α W ei)) (he : PE X e (tV α W ee))
    (hg : ∀ v, assign (.Subscript o i p2) X.env v = (do
      let ov ← holding [v] (eval o X.env)
      let iv ← holding [v, ov] (eval i X.env)
      standAt p2
      holding [v, ov, iv] (setItem ov iv v)
      release [v, ov, iv] []) := by intro _; rfl) (hs : swapsWithSole [.Subscript o i p2] e pos.line X.env = pure false := by rfl) (hw : swappedStores [.Subscript o i p2] e X.env = pure none := by rfl) (h1 : (assignEach [.Subscript o i p2] X.env).map (·.2) = [assign (.Subscript o i p2) X.env] := by rfl) :
    PS X (.Assign [.Subscript o i p2] e pos) (tS α W (sSetIx eo ei ee)) :=
  PS.imp (ps_asg he (pg_sub ho hi set_list hg) hs hw h1) fun Dn σ H ⟨G, ρ, δ, μ, z, s, p⟩ => ⟨G, ρ, δ, μ, z, s, SPost.bind p s fun d μ1 y H1 G1 ρ1 u z1 r1 p1 => ⟨G1, ρ1, δ, μ1, z1, s.up u, SPost.bind p1 (s.up u) fun x μ2 v H2 G2 ρ2 u2 z2 r2 p2 => ⟨G2, ρ2, δ, μ2, z2, (s.up u).up u2, SPost.bind p2 ((s.up u).up u2) fun j μ3 w H3 G3 ρ3 u3 z3 r3 p3 => by
    split at p3
    · rename_i l k y' μ4 q4
      obtain ⟨G4, u4, z4, r4⟩ := toP_ok z3 ((r1.up u2).up u3) q4
      cases h2 : cellL μ4 l with
      | none => rw [h2] at p3; exact p3.elim
      | some xs =>
        rw [h2] at p3
        dsimp only at p3
        cases h3 : ixN xs.length k with
        | none => rw [h3] at p3; exact p3.elim
        | some n =>
          rw [h3] at p3
          obtain ⟨a, rfl, ha⟩ := r2.up u3
          obtain ⟨ws, g1, g2⟩ := cell_at z4 h2 ha
          exact ⟨a, ws, k, n, rfl, repInt r3, g1, by rw [g2.length]; exact h3, p3 σ _ G4 ρ3 u4 (z4.write (cellL_some h2) ha (m' := .lst _) ⟨_, rfl, g2.set r4 n⟩) (((s.up u).up u2).up u3 |>.up u4)⟩
    · exact p3.elim⟩⟩⟩
def sRaise (c : Nat) : SEv := fun δ μ => some (.exc c, δ, μ)
theorem v_raise {e : Expr} {c : Nat} {pos : Pos} (hc : X.calm = true) (tk : Takes X W) (h : PMk X e (fun _ H Q => Q (.ref (α.cl c)) none H)) : PS X (.Raise (some e) none pos) (tS α W (sRaise c)) :=
  PS.imp (ps_raise hc tk h) fun Dn σ H ⟨G, ρ, δ, μ, z, s, p⟩ => p σ H G ρ Up.refl z s
theorem v_par {i j : Nat} {x y : Str} {a b : Expr} {ea : EvA} {px py pt : Pos} {kt k2 pt2} {pos : Pos} (hc : X.calm = true) (hN : X.N.Nodup) (ha : PA X [a, b] (tVs α W ea)) (hi : X.N[i]? = some x := by rfl) (hj : X.N[j]? = some y := by rfl) (hij : i ≠ j := by decide)
    (hx : X.env.scope.names.lookup x = some .local := by rfl) (hy : X.env.scope.names.lookup y = some .local := by rfl)
    (hw : swappedStores [.Tuple [.Name x px, .Name y py] kt pt] (.Tuple [a, b] k2 pt2) X.env = pure (some [x, y]) := by rfl)
    (hs : swapsWithSole [.Tuple [.Name x px, .Name y py] kt pt] (.Tuple [a, b] k2 pt2) pos.line X.env = pure false := by rfl) : PS X (.Assign [.Tuple [.Name x px, .Name y py] kt pt] (.Tuple [a, b] k2 pt2) pos) (tS α W (sPar i j ea)) :=
  PS.imp (ps_par hc hN hi hj hij hx hy ha hw hs) fun Dn σ H ⟨G, ρ, δ, μ, z, s, p⟩ => ⟨G, ρ, δ, μ, z, s, SPost.bind p s fun ds μ1 vs H1 G1 ρ1 u z1 r1 p1 => by
    split at p1
    · rename_i d1 d2
      obtain ⟨v, w, rfl, q1, q2⟩ := rds2 r1
      exact ⟨v, w, rfl, p1 _ H1 G1 ρ1 Up.refl z1 (sq_par (s.up u) q1 q2)⟩
    · exact p1.elim⟩
structure Fn (P : Program) (w : World) (K : PySem.W.Frag) (mg : Str → Option Value) (base : Heap) (α : Amb) (k : Nat) (x : Str) (n : Nat) (sem : FSem) : Prop where
  ex : ∃ (f : Addr) (fd : FuncData) (ps : List Str), mg x = some (.ref f) ∧ PySem.W.keepIn K (.ref f) = true ∧ Binds K fd ps [] ∧ FnOk P w K mg base (L2.CX P w) k f fd ps (spF α n sem)
  ar : Arity sem n
/-- a method of the class at C, by its worth -/
structure Mt (P : Program) (w : World) (K : PySem.W.Frag) (mg : Str → Option Value) (base : Heap) (α : Amb) (k : Nat) (C : Addr) (x : Str) (n : Nat) (sem : FSem) : Prop where
  ex : ∃ (f : Addr) (fd : FuncData) (ps : List Str), PySem.W.findIn K (.ref C) x = some (some (.ref f)) ∧ PySem.W.isFn K (.ref f) = true ∧ PySem.W.keepIn K (.ref f) = true ∧ Binds K fd ps [] ∧ FnOk P w K mg base (L2.CX P w) k f fd ps (spF α n sem)
  ar : Arity sem n
namespace Om
variable {k n : Nat} {sem : FSem} {x : Str} {p pos : Pos} {e : Expr} {es : List Expr} {args : EvA}
theorem call (tk : Takes X W) (hr : Room k X.A) (F : Fn X.prog X.w X.K X.mg X.base α k x n sem) (ha : PA X (e :: es) (tVs α W args)) (hg : Gl X x := by rfl) (hdb : (x == ("__debug__" : Str)) = false := by decide)
    (he : starEach (e :: es) X.env = (false, eval e X.env) :: starEach es X.env := by rfl) (hpl : (backTo pos (starEach es X.env)).any (·.1) = false := by rfl) : PE X (.Call (.Name x p) (e :: es) [] pos) (tV α W (evCall sem [] args)) := by
  obtain ⟨⟨f, fd, ps, hm, hk, hb, F⟩, ar⟩ := F
  exact v_call tk hr F ar hm hk hb .nil (fun _ => .nil) ha hg hdb he hpl
theorem neg {c : Nat} (tk : Takes X W) (hr : Room k X.A) (F : Mt X.prog X.w X.K X.mg X.base α k (α.cl c) "__neg__" n sem) (hf : PySem.W.selfFirst X.K (α.cl c) = true) : UnR X (unaryOp .USub) (r1V α (fOwn1 c sem)) := by
  obtain ⟨⟨f, fd, ps, h1, h2, h3, hb, F⟩, ar⟩ := F
  exact o_own1 tk hr F ar hb ⟨hf, h1, h2⟩
theorem eq {c : Nat} (tk : Takes X W) (hr : Room k X.A) (hK : X.K = α.K) (F : Mt X.prog X.w X.K X.mg X.base α k (α.cl c) "__eq__" n sem) (hf : ∀ T ∈ eqTys, PySem.W.notFirst X.K (α.cl c) (.type T) = true) : OpR X (compareOp .Eq) (r2V α (fEqO c sem)) := by
  obtain ⟨⟨f, fd, ps, h1, h2, h3, hb, F⟩, ar⟩ := F
  exact o_eqO tk hr hK F ar hb ⟨h1, h2, hf⟩
theorem ne {c : Nat} (tk : Takes X W) (hr : Room (k + 1) X.A) (hK : X.K = α.K) (F : Mt X.prog X.w X.K X.mg X.base α k (α.cl c) "__eq__" n sem) (hf : ∀ T ∈ eqTys, PySem.W.notFirst X.K (α.cl c) (.type T) = true) (O2 : NeOwn X.K (α.cl c)) : OpR X (compareOp .NotEq) (r2V α (fNeO c sem)) := by
  obtain ⟨⟨f, fd, ps, h1, h2, h3, hb, F⟩, ar⟩ := F
  exact o_neO tk hr hK F ar hb ⟨h1, h2, hf⟩ O2
end Om
/-- a class's making, by its __init__'s worth: with all arguments, and with the defaults -/
structure In (P : Program) (w : World) (K : PySem.W.Frag) (mg : Str → Option Value) (base : Heap) (α : Amb) (k : Nat) (c : Nat) (n : Nat) (dds : List Vs.P) (sem : FSem) : Prop where
  ex : ∃ (f : Addr) (fd : FuncData) (ps : List Str) (dvs : List V) (ds : List Value), Mk K (α.cl c) f ∧ Binds K fd ps ds ∧ Vals dvs ds ∧ (∀ G, Reps α G dvs dds) ∧ FnOk P w K mg base (L2.CX P w) k f fd ps (spF α n sem)
  ar : Arity sem n
namespace Om
theorem mk {k n c nf : Nat} {sem : FSem} {x : Str} {p pos : Pos} {e : Expr} {es : List Expr} {args : EvA} {dds : List P} (tk : Takes X W) (hr : Room (k + 1) X.A) (F : In X.prog X.w X.K X.mg X.base α k c n dds sem) (hm : X.mg x = some (.ref (α.cl c))) (ha : PA X (e :: es) (tVs α W args)) (hnf : (α.fl c).length = nf := by rfl) (hg : Gl X x := by rfl) (hdb : (x == ("__debug__" : Str)) = false := by decide)
    (he : starEach (e :: es) X.env = (false, eval e X.env) :: starEach es X.env := by rfl) (hpl : (backTo pos (starEach es X.env)).any (·.1) = false := by rfl) : PE X (.Call (.Name x p) (e :: es) [] pos) (tV α W (evMake c nf sem dds args)) := by
  obtain ⟨⟨f, fd, ps, dvs, ds, M, hb, hd, hdd, F⟩, ar⟩ := F
  exact v_make tk hr M F ar hnf hm hb hd hdd ha hg hdb he hpl
end Om
/-- a def as the top has left it -/
structure DefAt (K : PySem.W.Frag) (mg : Str → Option Value) (x : Str) (st : Stmt) : Prop where
  ex : ∃ (f : Addr) (fd : FuncData), mg x = some (.ref f) ∧ Fun K x x st f fd
theorem defAt_mk {K : PySem.W.Frag} {h : Heap} {mg : Str → Option Value} {x : Str} {st : Stmt} {f : Addr} {od an : Option Addr} {sl : Array (Option Value)} {oc kV dc pm cd ct : Value} (Y : K.In h) (G : h.Ns mainGlobals mg)
    (a : PySem.W.nsIn K mainGlobals x = some (some (.ref f))) (l : K.lookup f = some ⟨oc, od, .func (PySem.W.fnOf x x (defArgs st) (defBody st) (defScope st) .none kV dc pm an cd ct), sl⟩) (c : PySem.W.codeIn K cd x = true) (k : PySem.W.keepIn K (.ref f) = true) : DefAt K mg x st :=
  ⟨f, _, PySem.W.mg_of Y G a, fun_mk l c k⟩
structure MethAt (K : PySem.W.Frag) (C : Addr) (x qual : Str) (st : Stmt) : Prop where
  ex : ∃ (f : Addr) (fd : FuncData), PySem.W.findIn K (.ref C) x = some (some (.ref f)) ∧ PySem.W.isFn K (.ref f) = true ∧ Fun K x qual st f fd
theorem methAt_mk {K : PySem.W.Frag} {C : Addr} {x qual : Str} {st : Stmt} {f : Addr} {od an : Option Addr} {sl : Array (Option Value)} {oc kV dc pm cd ct : Value}
    (a : PySem.W.findIn K (.ref C) x = some (some (.ref f))) (i : PySem.W.isFn K (.ref f) = true) (l : K.lookup f = some ⟨oc, od, .func (PySem.W.fnOf x qual (defArgs st) (defBody st) (defScope st) .none kV dc pm an cd ct), sl⟩) (c : PySem.W.codeIn K cd qual = true) (k : PySem.W.keepIn K (.ref f) = true) : MethAt K C x qual st :=
  ⟨f, _, a, i, fun_mk l c k⟩
def isiO (c : Nat) : P → Option Bool
  | .obj c' _ => if c' = c then some true else none
  | _ => some false
def tyNm : P → String
  | .non => "NoneType"
  | .bl _ => "bool"
  | .int _ => "int"
  | .str _ => "str"
  | .tup _ => "tuple"
  | .lst _ => "list"
  | .wl _ => "list"
  | .obj _ _ => "object"
/-- of a built-in type T; own objects of the classes below n are none -/
def isiT (n : Nat) (T : String) : P → Option Bool
  | .obj c _ => if c < n then some false else none
  | x => if tyNm x = T then some true else (if (tyNm x = "bool" ∧ T = "int") then some true else some false)
structure IsiO (K : PySem.W.Frag) (α : Amb) (c : Nat) : Prop where
  ty : ∀ T ∈ eqTys, PySem.W.kitOne K (.type T) (.ref (α.cl c)) = some false
  self : PySem.W.kitOne K (.ref (α.cl c)) (.ref (α.cl c)) = some true
  ins : InsOwn K (α.cl c)
theorem isiO_ok {c : Nat} (O : IsiO α.K α c) : ∀ x b, isiO c x = some b → PySem.W.kitOne α.K (tyP α x) (.ref (α.cl c)) = some b ∧ ∀ c' xs, x = .obj c' xs → InsOwn α.K (α.cl c') := fun x b h => by
  cases x with
  | obj c' xs =>
    have h : (if c' = c then some true else none) = some b := h
    by_cases e : c' = c
    · rw [if_pos e] at h
      cases h
      rw [e]
      exact ⟨O.self, fun c2 xs2 e2 => by cases e2; exact O.ins⟩
    · rw [if_neg e] at h
      cases h
  | _ => cases h; exact ⟨O.ty _ (by decide), fun _ _ e => by cases e⟩
theorem isiT_ok {n : Nat} {T : String} (hT : ∀ c, c < n → PySem.W.kitOne α.K (.ref (α.cl c)) (.type T) = some false ∧ InsOwn α.K (α.cl c)) (hb : ∀ S ∈ eqTys, kitB S T = some (decide (S = T) || (decide (S = "bool") && decide (T = "int")))) :
    ∀ x b, isiT n T x = some b → PySem.W.kitOne α.K (tyP α x) (.type T) = some b ∧ ∀ c' xs, x = .obj c' xs → InsOwn α.K (α.cl c') := fun x b h => by
  have key : ∀ S, S ∈ eqTys → (if S = T then some true else (if (S = "bool" ∧ T = "int") then some true else some false)) = some b → PySem.W.kitOne α.K (.type S) (.type T) = some b := fun S hS h => by
    rw [kit_ty (hb S hS)]
    split at h
    · rename_i e; cases h; simp [e]
    · rename_i e
      split at h
      · rename_i e2; cases h; simp [e2.1, e2.2]
      · rename_i e2; cases h
        rw [decide_eq_false e, Bool.false_or]
        by_cases e3 : S = "bool"
        · have e4 : ¬ T = "int" := fun z => e2 ⟨e3, z⟩
          rw [decide_eq_false e4, Bool.and_false]
        · rw [decide_eq_false e3, Bool.false_and]
  cases x with
  | obj c' xs =>
    have h : (if c' < n then some false else none) = some b := h
    split at h
    · rename_i e
      cases h
      exact ⟨(hT c' e).1, fun c'' xs' e' => by cases e'; exact (hT c' e).2⟩
    · cases h
  | _ => exact ⟨key _ (by decide) h, fun _ _ e => by cases e⟩
end
end Vs
namespace Vs
open PySem PySem.Spec PyProof.Rows L2
section
variable {β γ : Type} {x : β} {c : Nat} {μ μ' : Mu} {δ δ' : Sl}
@[simp] theorem bindG_ok {f : β → Mu → Option (Out γ × Mu)} : bindG (some (.ok x, μ)) f = f x μ := rfl
@[simp] theorem bindG_exc {f : β → Mu → Option (Out γ × Mu)} : bindG (some (.exc c, μ)) f = some (.exc c, μ) := rfl
@[simp] theorem bindG_none {f : β → Mu → Option (Out γ × Mu)} : bindG none f = none := rfl
@[simp] theorem bindS_ok {f : β → Mu → Option (Fl × Sl × Mu)} : bindS (some (.ok x, μ)) δ f = f x μ := rfl
@[simp] theorem bindS_exc {f : β → Mu → Option (Fl × Sl × Mu)} : bindS (some (.exc c, μ)) δ f = some (.exc c, δ, μ) := rfl
@[simp] theorem bindS_none {f : β → Mu → Option (Fl × Sl × Mu)} : bindS none δ f = none := rfl
end
section
variable {δ δ' : Sl} {μ μ' : Mu} {a b : SEv} {e e' ea eb : Ev} {t t' : EvT} {args : EvA} {f1 : F1} {f2 : F2} {fa : FA}
@[simp] theorem okm_some {d : D} : okm (some (d, μ)) = some (.ok d, μ) := rfl
@[simp] theorem okm_none : okm none = none := rfl
@[simp] theorem evC_eq {x : P} : evC x δ μ = some (.ok (.p x), μ) := rfl
theorem evV_at {i : Nat} {d : D} (h : δ[i]? = some (some d)) : evV i δ μ = some (.ok d, μ) := by unfold evV; rw [h]
@[simp] theorem evV_0 {d : D} : evV 0 (some d :: δ) μ = some (.ok d, μ) := rfl
@[simp] theorem evV_1 {a0} {d : D} : evV 1 (a0 :: some d :: δ) μ = some (.ok d, μ) := rfl
@[simp] theorem evV_2 {a0 a1} {d : D} : evV 2 (a0 :: a1 :: some d :: δ) μ = some (.ok d, μ) := rfl
@[simp] theorem evV_3 {a0 a1 a2} {d : D} : evV 3 (a0 :: a1 :: a2 :: some d :: δ) μ = some (.ok d, μ) := rfl
@[simp] theorem evV_4 {a0 a1 a2 a3} {d : D} : evV 4 (a0 :: a1 :: a2 :: a3 :: some d :: δ) μ = some (.ok d, μ) := rfl
@[simp] theorem evV_5 {a0 a1 a2 a3 a4} {d : D} : evV 5 (a0 :: a1 :: a2 :: a3 :: a4 :: some d :: δ) μ = some (.ok d, μ) := rfl
@[simp] theorem evV_6 {a0 a1 a2 a3 a4 a5} {d : D} : evV 6 (a0 :: a1 :: a2 :: a3 :: a4 :: a5 :: some d :: δ) μ = some (.ok d, μ) := rfl
@[simp] theorem evV_7 {a0 a1 a2 a3 a4 a5 a6} {d : D} : evV 7 (a0 :: a1 :: a2 :: a3 :: a4 :: a5 :: a6 :: some d :: δ) μ = some (.ok d, μ) := rfl
@[simp] theorem evV_8 {a0 a1 a2 a3 a4 a5 a6 a7} {d : D} : evV 8 (a0 :: a1 :: a2 :: a3 :: a4 :: a5 :: a6 :: a7 :: some d :: δ) μ = some (.ok d, μ) := rfl
@[simp] theorem evV_9 {a0 a1 a2 a3 a4 a5 a6 a7 a8} {d : D} : evV 9 (a0 :: a1 :: a2 :: a3 :: a4 :: a5 :: a6 :: a7 :: a8 :: some d :: δ) μ = some (.ok d, μ) := rfl
@[simp] theorem evV_10 {a0 a1 a2 a3 a4 a5 a6 a7 a8 a9} {d : D} : evV 10 (a0 :: a1 :: a2 :: a3 :: a4 :: a5 :: a6 :: a7 :: a8 :: a9 :: some d :: δ) μ = some (.ok d, μ) := rfl
@[simp] theorem evBin_eq : evBin f2 ea eb δ μ = bindG (ea δ μ) fun x μ1 => bindG (eb δ μ1) fun y μ2 => okm (f2 x y μ2) := rfl
@[simp] theorem evUn_eq : evUn f1 ea δ μ = bindG (ea δ μ) fun x μ1 => okm (f1 x μ1) := rfl
@[simp] theorem evBI_eq : evBI fa args δ μ = bindG (args δ μ) fun ds μ1 => okm (fa ds μ1) := rfl
@[simp] theorem evNil_eq : evNil δ μ = some (.ok [], μ) := rfl
@[simp] theorem evCons_eq {r : EvA} : evCons ea r δ μ = bindG (ea δ μ) fun x μ1 => bindG (r δ μ1) fun xs μ2 => some (.ok (x :: xs), μ2) := rfl
@[simp] theorem evCall_eq {sem : FSem} {dds : List P} : evCall sem dds args δ μ = bindG (args δ μ) fun ds μ1 => sem (ds ++ dds.map .p) μ1 := rfl
@[simp] theorem evMake_eq {sem : FSem} {dds : List P} {c nf : Nat} : evMake c nf sem dds args δ μ = bindG (args δ μ) fun ds μ1 => mkEnd c nf μ1.length (sem (.loc μ1.length :: (ds ++ dds.map .p)) (μ1 ++ [some (.ins c [])])) := rfl
def toB (μ : Mu) : D → Option (Out Bool × Mu)
  | .p (.bl b) => some (.ok b, μ)
  | _ => none
@[simp] theorem evB_eq' : evB ea δ μ = bindG (ea δ μ) fun x μ1 => toB μ1 x := rfl
@[simp] theorem toB_bl {b : Bool} : toB μ (.p (.bl b)) = some (.ok b, μ) := rfl
@[simp] theorem tNotV_eq : tNotV t δ μ = bindG (t δ μ) fun b μ1 => some (.ok (!b), μ1) := rfl
@[simp] theorem tAndV_eq : tAndV' t t' δ μ = bindG (t δ μ) fun x μ1 => if x = true then t' δ μ1 else some (.ok false, μ1) := rfl
@[simp] theorem tOrV_eq : tOrV' t t' δ μ = bindG (t δ μ) fun x μ1 => if x = true then some (.ok true, μ1) else t' δ μ1 := rfl
def andD (k : Option (Out D × Mu)) (μ : Mu) : D → Option (Out D × Mu)
  | .p (.bl true) => k
  | .p (.bl false) => some (.ok (.p (.bl false)), μ)
  | _ => none
def orD (k : Option (Out D × Mu)) (μ : Mu) : D → Option (Out D × Mu)
  | .p (.bl false) => k
  | .p (.bl true) => some (.ok (.p (.bl true)), μ)
  | _ => none
@[simp] theorem evAnd_eq : evAnd ea eb δ μ = bindG (ea δ μ) fun x μ1 => andD (eb δ μ1) μ1 x := rfl
@[simp] theorem evOr_eq : evOr ea eb δ μ = bindG (ea δ μ) fun x μ1 => orD (eb δ μ1) μ1 x := rfl
@[simp] theorem andD_bl {k : Option (Out D × Mu)} {b : Bool} : andD k μ (.p (.bl b)) = if b = true then k else some (.ok (.p (.bl false)), μ) := by cases b <;> rfl
@[simp] theorem orD_bl {k : Option (Out D × Mu)} {b : Bool} : orD k μ (.p (.bl b)) = if b = true then some (.ok (.p (.bl true)), μ) else k := by cases b <;> rfl
@[simp] theorem evIf_eq : evIf t ea eb δ μ = bindG (t δ μ) fun x μ1 => if x = true then ea δ μ1 else eb δ μ1 := rfl
@[simp] theorem fII_int {C : Int → Int → Bool} {g : Int → Int → P} {i j : Int} : fII C g (.p (.int i)) (.p (.int j)) μ = if C i j = true then some (.p (g i j), μ) else none := rfl
@[simp] theorem fNeg_int {i : Int} : fNeg (.p (.int i)) μ = some (.p (.int (-i)), μ) := rfl
@[simp] theorem fAbs_int {i : Int} : fAbs [.p (.int i)] μ = some (.p (.int (if i < 0 then -i else i)), μ) := rfl
@[simp] theorem fInt_int {i : Int} : fInt [.p (.int i)] μ = some (.p (.int i), μ) := rfl
@[simp] theorem fInt_bl {i : Bool} : fInt [.p (.bl i)] μ = some (.p (.int (if i then 1 else 0)), μ) := rfl
@[simp] theorem fGcd_int {i j : Int} : fGcd [.p (.int i), .p (.int j)] μ = some (.p (.int ((Nat.gcd i.natAbs j.natAbs : Nat) : Int)), μ) := rfl
@[simp] theorem fRepr_bl {b : Bool} : fRepr [.p (.bl b)] μ = some (.p (.str (boolStr b)), μ) := rfl
@[simp] theorem view_p {x : P} : view μ (.p x) = some x := rfl
theorem view_l {l : Nat} {xs : List P} (h : μ[l]? = some (some (.lst xs))) : view μ (.loc l) = some (.lst xs) := by
  show (cellL μ l).map P.lst = _
  unfold cellL
  rw [h]; rfl
theorem cellL_l {l : Nat} {xs : List P} (h : μ[l]? = some (some (.lst xs))) : cellL μ l = some xs := by
  unfold cellL
  rw [h]
@[simp] theorem toP_p {x : P} : toP μ (.p x) = some (x, μ) := rfl
@[simp] theorem toPs_nil : toPs μ [] = some ([], μ) := rfl
theorem toPs_map {xs : List P} : toPs μ (xs.map .p) = some (xs, μ) := by
  induction xs with
  | nil => rfl
  | cons x xs ih =>
    show (match toPs μ (xs.map D.p) with
      | some (xs, μ2) => some (x :: xs, μ2)
      | none => none) = _
    rw [ih]
def consP (x : P) : Option (List P × Mu) → Option (List P × Mu)
  | some (xs, μ2) => some (x :: xs, μ2)
  | none => none
@[simp] theorem consP_some {x : P} {xs : List P} : consP x (some (xs, μ)) = some (x :: xs, μ) := rfl
@[simp] theorem toPs_cons {x : P} {ds : List D} : toPs μ (.p x :: ds) = consP x (toPs μ ds) := rfl
def tupEnd : Option (List P × Mu) → Option (Out D × Mu)
  | some (xs, μ2) => if xs.length ≤ sizeLine then some (.ok (.p (.tup xs)), μ2) else none
  | none => none
def lstEnd : Option (List P × Mu) → Option (Out D × Mu)
  | some (xs, μ2) => if xs.length ≤ sizeLine then some (.ok (.p (.lst xs)), μ2) else none
  | none => none
def lstEndC : Option (List P × Mu) → Option (Out D × Mu)
  | some (xs, μ2) => if xs.length ≤ sizeLine then some (.ok (.loc μ2.length), μ2 ++ [some (.lst xs)]) else none
  | none => none
@[simp] theorem evTup_eq : evTup args δ μ = bindG (args δ μ) fun ds μ1 => tupEnd (toPs μ1 ds) := rfl
@[simp] theorem evLst_eq : evLst args δ μ = bindG (args δ μ) fun ds μ1 => lstEnd (toPs μ1 ds) := rfl
@[simp] theorem evLstC_eq : evLstC args δ μ = bindG (args δ μ) fun ds μ1 => lstEndC (toPs μ1 ds) := rfl
@[simp] theorem tupEnd_some {xs : List P} : tupEnd (some (xs, μ)) = if xs.length ≤ sizeLine then some (.ok (.p (.tup xs)), μ) else none := rfl
@[simp] theorem lstEnd_some {xs : List P} : lstEnd (some (xs, μ)) = if xs.length ≤ sizeLine then some (.ok (.p (.lst xs)), μ) else none := rfl
@[simp] theorem lstEndC_some {xs : List P} : lstEndC (some (xs, μ)) = if xs.length ≤ sizeLine then some (.ok (.loc μ.length), μ ++ [some (.lst xs)]) else none := rfl
theorem le_line {n : Nat} (h : n ≤ 1000) : n ≤ sizeLine := Nat.le_trans h (by decide)
@[simp] theorem line_0 : (0 : Nat) ≤ sizeLine := Nat.zero_le _
@[simp] theorem line_1 : (1 : Nat) ≤ sizeLine := le_line (by decide)
@[simp] theorem line_2 : (2 : Nat) ≤ sizeLine := le_line (by decide)
@[simp] theorem line_3 : (3 : Nat) ≤ sizeLine := le_line (by decide)
@[simp] theorem line_4 : (4 : Nat) ≤ sizeLine := le_line (by decide)
@[simp] theorem line_5 : (5 : Nat) ≤ sizeLine := le_line (by decide)
@[simp] theorem line_6 : (6 : Nat) ≤ sizeLine := le_line (by decide)
@[simp] theorem line_7 : (7 : Nat) ≤ sizeLine := le_line (by decide)
@[simp] theorem line_8 : (8 : Nat) ≤ sizeLine := le_line (by decide)
def ixAns (μ : Mu) : Option P → Option (D × Mu)
  | some v => some (.p v, μ)
  | none => none
@[simp] theorem ixAns_some {v : P} : ixAns μ (some v) = some (.p v, μ) := rfl
theorem fIx_lst {d : D} {xs : List P} {i : Int} (h : view μ d = some (.lst xs)) : fIx d (.p (.int i)) μ = ixAns μ (atI xs i) := by
  unfold fIx; rw [h]; dsimp only; cases atI xs i <;> rfl
@[simp] theorem fIx_tup {xs : List P} {i : Int} : fIx (.p (.tup xs)) (.p (.int i)) μ = ixAns μ (atI xs i) := by
  unfold fIx; rw [view_p]; dsimp only; cases atI xs i <;> rfl
@[simp] theorem fIx_lstp {xs : List P} {i : Int} : fIx (.p (.lst xs)) (.p (.int i)) μ = ixAns μ (atI xs i) := fIx_lst rfl
@[simp] theorem at_0 {x : P} {xs : List P} : atI (x :: xs) 0 = some x := atI_nat (j := 0) rfl
@[simp] theorem at_1 {x y : P} {xs : List P} : atI (x :: y :: xs) 1 = some y := atI_nat (j := 1) rfl
@[simp] theorem at_2 {x y z : P} {xs : List P} : atI (x :: y :: z :: xs) 2 = some z := atI_nat (j := 2) rfl
@[simp] theorem at_3 {x y z w : P} {xs : List P} : atI (x :: y :: z :: w :: xs) 3 = some w := atI_nat (j := 3) rfl
@[simp] theorem fFld_obj {c i : Nat} {xs : List P} : fFld c i (.p (.obj c xs)) μ = ixAns μ (xs[i]?) := by
  show (if c = c then (xs[i]?).map fun y => (D.p y, μ) else none) = _
  rw [if_pos rfl]; cases xs[i]? <;> rfl
def eqAns (neg : Bool) (μ : Mu) : Option Bool → Option (D × Mu)
  | some b => some (.p (.bl (if neg then !b else b)), μ)
  | none => none
@[simp] theorem eqAns_f {b : Bool} : eqAns false μ (some b) = some (.p (.bl b), μ) := rfl
@[simp] theorem eqAns_t {b : Bool} : eqAns true μ (some b) = some (.p (.bl (!b)), μ) := rfl
@[simp] theorem fEqG_p {neg : Bool} {x y : P} : fEqG neg (.p x) (.p y) μ = eqAns neg μ (eqP x y) := by
  unfold fEqG; rw [view_p, view_p]; dsimp only; cases eqP x y <;> rfl
@[simp] theorem eqP_int {i j : Int} : eqP (.int i) (.int j) = some (decide (i = j)) := rfl
@[simp] theorem eqP_str {i j : Str} : eqP (.str i) (.str j) = some (decide (i = j)) := rfl
@[simp] theorem eqP_bl {i j : Bool} : eqP (.bl i) (.bl j) = some (decide (i = j)) := rfl
@[simp] theorem fIs_non {d : D} {neg : Bool} : fIs neg d (.p .non) μ = some (.p (.bl (if neg then !isNon d else isNon d)), μ) := rfl
@[simp] theorem isNon_int {i : Int} : isNon (.p (.int i)) = false := rfl
@[simp] theorem isNon_lst {i : List P} : isNon (.p (.lst i)) = false := rfl
@[simp] theorem isNon_tup {i : List P} : isNon (.p (.tup i)) = false := rfl
@[simp] theorem isNon_obj {c : Nat} {i : List P} : isNon (.p (.obj c i)) = false := rfl
@[simp] theorem isNon_loc {i : Nat} : isNon (.loc i) = false := rfl
@[simp] theorem isNon_non : isNon (.p .non) = true := rfl
def andThen (b : SEv) : Option (Fl × Sl × Mu) → Option (Fl × Sl × Mu)
  | some (.nx, δ', μ') => b δ' μ'
  | r => r
@[simp] theorem seqS_eq : seqS a b δ μ = andThen b (a δ μ) := by unfold seqS andThen; rfl
@[simp] theorem andThen_nx : andThen b (some (.nx, δ, μ)) = b δ μ := rfl
@[simp] theorem andThen_ret {d : D} : andThen b (some (.ret d, δ, μ)) = some (.ret d, δ, μ) := rfl
@[simp] theorem andThen_exc {c : Nat} : andThen b (some (.exc c, δ, μ)) = some (.exc c, δ, μ) := rfl
@[simp] theorem andThen_brk : andThen b (some (.brk, δ, μ)) = some (.brk, δ, μ) := rfl
@[simp] theorem andThen_cont : andThen b (some (.cont, δ, μ)) = some (.cont, δ, μ) := rfl
@[simp] theorem andThen_none : andThen b none = none := rfl
@[simp] theorem sNil_eq : sNil δ μ = some (.nx, δ, μ) := rfl
@[simp] theorem sSet_eq {i : Nat} : sSet i e δ μ = bindS (e δ μ) δ fun d μ1 => some (.nx, δ.set i (some d), μ1) := rfl
@[simp] theorem sRet_eq : sRet e δ μ = bindS (e δ μ) δ fun d μ1 => some (.ret d, δ, μ1) := rfl
@[simp] theorem sExpr_eq : sExpr e δ μ = bindS (e δ μ) δ fun d μ1 => some (.nx, δ, μ1) := rfl
@[simp] theorem sIf_eq : sIf t a b δ μ = bindS (t δ μ) δ fun x μ1 => if x = true then a δ μ1 else b δ μ1 := rfl
@[simp] theorem sBrk_eq : sBrk δ μ = some (.brk, δ, μ) := rfl
@[simp] theorem sRaise_eq {c : Nat} : sRaise c δ μ = some (.exc c, δ, μ) := rfl
def parEnd (i j : Nat) (δ : Sl) (μ : Mu) : List D → Option (Fl × Sl × Mu)
  | [x, y] => some (.nx, (δ.set i (some x)).set j (some y), μ)
  | _ => none
@[simp] theorem sPar_eq {i j : Nat} : sPar i j args δ μ = bindS (args δ μ) δ fun ds μ1 => parEnd i j δ μ1 ds := rfl
@[simp] theorem parEnd_2 {i j : Nat} {x y : D} : parEnd i j δ μ [x, y] = some (.nx, (δ.set i (some x)).set j (some y), μ) := rfl
@[simp] theorem sFor_eq {it : EvG (List P)} {ts : Tgt} : sFor it ts a δ μ = bindS (it δ μ) δ fun xs μ1 => forL ts a xs δ μ1 := rfl
@[simp] theorem evRng1_eq : evRng1 e δ μ = bindG (e δ μ) fun d μ1 => match d with
  | .p (.int j) => if rngOk j = true then some (.ok (rangeP 0 j.toNat), μ1) else none
  | _ => none := rfl
def asgEnd (ts : Tgt) (δ : Sl) (μ : Mu) : D → Option (Fl × Sl × Mu)
  | .p x => (ts x δ).map fun δ' => (.nx, δ', μ)
  | _ => none
@[simp] theorem sAsgT_eq {ts : Tgt} : sAsgT ts e δ μ = bindS (e δ μ) δ fun d μ1 => asgEnd ts δ μ1 d := rfl
@[simp] theorem asgEnd_p {ts : Tgt} {x : P} : asgEnd ts δ μ (.p x) = (ts x δ).map fun δ' => (.nx, δ', μ) := rfl
def setIxEnd (δ : Sl) (μ : Mu) (x j : D) (d : D) : Option (Fl × Sl × Mu) := match x, j, toP μ d with
  | .loc l, .p (.int k), some (y, μ4) => match cellL μ4 l with
    | some xs => match ixN xs.length k with
      | some n => some (.nx, δ, μ4.set l (some (.lst (xs.set n y))))
      | none => none
    | none => none
  | _, _, _ => none
@[simp] theorem sSetIx_eq : sSetIx ea eb e δ μ = bindS (e δ μ) δ fun d μ1 => bindS (ea δ μ1) δ fun x μ2 => bindS (eb δ μ2) δ fun j μ3 => setIxEnd δ μ3 x j d := rfl
theorem setIxEnd_l {l : Nat} {xs : List P} {k : Int} {n : Nat} {y : P} (h : μ[l]? = some (some (.lst xs))) (hn : ixN xs.length k = some n) : setIxEnd δ μ (.loc l) (.p (.int k)) (.p y) = some (.nx, δ, μ.set l (some (.lst (xs.set n y)))) := by
  unfold setIxEnd; rw [toP_p]; dsimp only; rw [cellL_l h]; dsimp only; rw [hn]
def fldEnd (c i : Nat) (δ : Sl) (μ : Mu) (x d : D) : Option (Fl × Sl × Mu) := match x, toP μ d with
  | .loc l, some (y, μ3) => match μ3[l]? with
    | some (some (.ins c' xs)) => if c' = c then (if i < xs.length then some (.nx, δ, μ3.set l (some (.ins c (xs.set i y)))) else if i = xs.length then some (.nx, δ, μ3.set l (some (.ins c (xs ++ [y])))) else none) else none
    | _ => none
  | _, _ => none
@[simp] theorem sFldS_eq {c i : Nat} : sFldS c i ea e δ μ = bindS (e δ μ) δ fun d μ1 => bindS (ea δ μ1) δ fun x μ2 => fldEnd c i δ μ2 x d := rfl
theorem fldEnd_new {c i l : Nat} {xs : List P} {y : P} (h : μ[l]? = some (some (.ins c xs))) (hi : i = xs.length) : fldEnd c i δ μ (.loc l) (.p y) = some (.nx, δ, μ.set l (some (.ins c (xs ++ [y])))) := by
  unfold fldEnd; rw [toP_p]; dsimp only; rw [h]; dsimp only; rw [if_pos rfl, if_neg (by omega), if_pos hi]
@[simp] theorem take_set_len {l : Nat} {o : Option MO} : (μ.set l o).take μ.length = μ.set l o := by
  rw [show μ.length = (μ.set l o).length by rw [List.length_set]]; exact List.take_length
/-- a worth, for so many arguments -/
def arF (n : Nat) (sem : FSem) : FSem := fun ds μ => if ds.length = n then sem ds μ else none
theorem arF_ar {n : Nat} {sem : FSem} : Arity (arF n sem) n := fun ds μ r h => by
  unfold arF at h
  split at h
  · assumption
  · cases h
theorem arF_le {n : Nat} {sem : FSem} : ∀ ds μ r, arF n sem ds μ = some r → sem ds μ = some r := fun ds μ r h => by
  unfold arF at h
  split at h
  · exact h
  · cases h
theorem bodySem_eq {N : Nat} {ds : List D} : bodySem N a ds μ = retF μ.length (a (ds.map some ++ List.replicate (N - ds.length) none) μ) := rfl
theorem bodySemC_eq {N : Nat} {ds : List D} : bodySemC N a ds μ = retC μ.length (a (ds.map some ++ List.replicate (N - ds.length) none) μ) := rfl
@[simp] theorem retF_p {n : Nat} {x : P} : retF n (some (.ret (.p x), δ, μ)) = some (.ok (.p x), μ.take n) := rfl
@[simp] theorem retF_nx {n : Nat} : retF n (some (.nx, δ, μ)) = some (.ok (.p .non), μ.take n) := rfl
@[simp] theorem retF_exc {n c : Nat} : retF n (some (.exc c, δ, μ)) = some (.exc c, μ.take n) := rfl
end
end Vs
namespace Vs
open PySem PySem.Spec PyProof.Rows L2
section
variable {α : Amb} {P : Program} {w : World} {K : PySem.W.Frag} {mg : Str → Option Value} {base : Heap}
/-- as fnV, for a def with defaults -/
theorem fnVD {x qual : Str} {st : Stmt} {dvs : List V} {f : Addr} {fd : FuncData} {N ps : List Str} {k : Nat} {sv : SEv} (F : FunD K x qual (defArgs st) (defBody st) (defScope st) dvs [] f fd) (S : FnScope N ps (defScope st))
    (hb : ∀ (cdv : Value) (A : Around) (outer : List Env) (s : Shared) (H : Hp) (E : XK), Room k (A.deeper (envOfC qual (defScope st) s.heap.objs.size f cdv)) →
      Takes (cxF P w K mg base N qual st f cdv A outer s H E) (WF E) → PassesOwn (model P w) (cxF P w K mg base N qual st f cdv A outer s H E).A (cxF P w K mg base N qual st f cdv A outer s H E).env (cxF P w K mg base N qual st f cdv A outer s H E).xe →
      PSs (cxF P w K mg base N qual st f cdv A outer s H E) (defBody st) (tS α (WF E) sv)) :
    FnOk P w K mg base (L2.CX P w) (k + 1) f fd ps (spF α ps.length (bodySem N.length sv)) := by
  refine F.ok S (fun vs H Q E h => h.1) (fun cdv A outer s H vs Q E hr h => ?_)
  obtain ⟨hl, G, ρ, μ, ds, z, r, p⟩ := h
  refine ⟨_, hb cdv A outer s H E hr (takes_of rfl rfl rfl rfl) (passes_of rfl), G, ρ, _, μ, z, Sq.start r, ?_⟩
  exact ret_ok (by rw [z.len]; exact p)
/-- a def with one default int -/
theorem fun_mkD {x qual : Str} {st : Stmt} {f T : Addr} {oc : Value} {od an : Option Addr} {osl : Array (Option Value)} {kV doc pm cdv ct : Value} {o : Obj} {i : Int} {t : Tok} {n : Nat} (l : K.lookup f = some ⟨oc, od, .func (PySem.W.fnOf x qual (defArgs st) (defBody st) (defScope st) (.ref T) kV doc pm an cdv ct), osl⟩)
    (c : PySem.W.codeIn K cdv qual = true) (k : PySem.W.keepIn K (.ref f) = true) (lT : K.lookup T = some o) (oT : o.data = .seq [Value.int i t].toArray n) :
    FunD K x qual (defArgs st) (defBody st) (defScope st) [.int i] [] f (PySem.W.fnOf x qual (defArgs st) (defBody st) (defScope st) (.ref T) kV doc pm an cdv ct) :=
  ⟨⟨oc, od, .ref T, kV, doc, pm, an, cdv, ct, osl, rfl, l, c, .inr ⟨by simp, T, o, [.int i t], n, rfl, lT, oT, .cons ⟨t, rfl⟩ .nil⟩, .inl rfl⟩, k⟩
/-- no exception leaves the law -/
theorem cx_none {P : Program} {w : World} {H : Hp} {s : Shared} {e : Value} {s' : Shared} (h : L2.CX P w [] H s (fun _ _ _ => False) e s') : False := by
  obtain ⟨_, _, _, _, _, _, _, _, _, _, _, _, z⟩ := h
  exact z.elim
/-- the law's promise, from its worth -/
def spLaw (K : PySem.W.Frag) : Sp := fun vs H Q _ => ∃ (a : Addr) (ns : List Int), vs = [.ref a] ∧ SqL K H a (ns.map V.int) ∧ ns.length ≤ 63 ∧ ∀ H', Q (.bl true) H'
theorem reps_ints {G : Hp} : ∀ ns : List Int, Reps α G (ns.map V.int) (ns.map .int)
  | [] => .nil
  | n :: ns => .cons (.int n) (reps_ints ns)
theorem law_of {f : Addr} {fd : FuncData} {ps : List Str} {k : Nat} {sem : FSem} (F : FnOk P w K mg base (L2.CX P w) k f fd ps (spF α 1 sem)) (hK : α.K = K) (ev : ∀ ns : List Int, ns.length ≤ 63 → sem [.p (.wl (ns.map .int))] [] = some (.ok (.p (.bl true)), [])) :
    FnOk P w K mg base (L2.CX P w) k f fd ps (spLaw K) := F.imp fun vs H Q E ⟨a, ns, e, h, hl, q⟩ => by
  subst e
  refine ⟨rfl, H, [], [], [.p (.wl (ns.map .int))], ⟨Same.refl H, rfl, fun l m e => by simp at e, fun l l' m m' a e => by simp at e⟩, .cons (.wl (by rw [hK]; exact h) (reps_ints ns)) .nil, ?_⟩
  rw [ev ns hl]
  intro v H' G' ρ' u z r
  cases r
  exact q H'
end
end Vs
namespace Vs
open PySem PySem.Spec PyProof.Rows L2
section
variable {α : Amb} {W : WX} {X : Cx}
def intsOf : List P → Option (List Int)
  | [] => some []
  | .int i :: xs => (intsOf xs).map (i :: ·)
  | _ => none
def blsOf : List P → Option (List Bool)
  | [] => some []
  | .bl b :: xs => (blsOf xs).map (b :: ·)
  | _ => none
theorem reps_intsOf {G : Hp} : ∀ {vs : List V} {xs : List P} {ns : List Int}, Reps α G vs xs → intsOf xs = some ns → vs = ns.map V.int
  | _, [], ns, r, h => by cases h; cases r; rfl
  | _, x :: xs, ns, r, h => by
    cases r with
    | cons r1 r2 =>
      unfold intsOf at h
      split at h
      · rename_i e; cases e
      · rename_i i ys e
        cases e
        cases q : intsOf xs with
        | none => rw [q] at h; cases h
        | some ms =>
          rw [q] at h
          cases h
          rw [reps_intsOf r2 q]
          cases r1
          rfl
      · cases h
theorem reps_blsOf {G : Hp} : ∀ {vs : List V} {xs : List P} {ns : List Bool}, Reps α G vs xs → blsOf xs = some ns → vs = ns.map V.bl
  | _, [], ns, r, h => by cases h; cases r; rfl
  | _, x :: xs, ns, r, h => by
    cases r with
    | cons r1 r2 =>
      unfold blsOf at h
      split at h
      · rename_i e; cases e
      · rename_i i ys e
        cases e
        cases q : blsOf xs with
        | none => rw [q] at h; cases h
        | some ms =>
          rw [q] at h
          cases h
          rw [reps_blsOf r2 q]
          cases r1
          rfl
      · cases h
/-- the list that a value shows -/
def lstOf (μ : Mu) (d : D) : Option (List P) := match view μ d with
  | some (.lst xs) => some xs
  | some (.wl xs) => some xs
  | _ => none
theorem lst_of {H G : Hp} {ρ : List Addr} {μ : Mu} (z : Zn α H G ρ μ) {v : V} {d : D} {xs : List P} (r : RepD α G ρ v d) (h : lstOf μ d = some xs) : ∃ a vs, v = .ref a ∧ SqL α.K H a vs ∧ Reps α G vs xs := by
  unfold lstOf at h
  split at h
  · rename_i ys e
    cases h
    obtain ⟨a, vs, rfl, h1, h2⟩ := view_lst z r e
    exact ⟨a, vs, rfl, SqL.of h1, h2⟩
  · rename_i ys e
    cases h
    cases d with
    | p x' =>
      cases e
      cases r with
      | wl h1 r1 => exact ⟨_, _, rfl, seqL z.sub h1, r1⟩
    | loc l =>
      obtain ⟨xs', e', hx⟩ := view_loc e
      cases e'
  · cases h
def fSum : FA := fun ds μ => match ds with
  | [d] => match (lstOf μ d).bind intsOf with
    | some ns => some (.p (.int ns.sum), μ)
    | none => none
  | _ => none
def fAny : FA := fun ds μ => match ds with
  | [d] => match (lstOf μ d).bind blsOf with
    | some bs => some (.p (.bl (bs.any id)), μ)
    | none => none
  | _ => none
def fAll : FA := fun ds μ => match ds with
  | [d] => match (lstOf μ d).bind blsOf with
    | some bs => some (.p (.bl (bs.all id)), μ)
    | none => none
  | _ => none
theorem c_sum (hc : X.calm = true) (hK : X.K = α.K) : CallR X (.builtin "sum") (rCV α fSum) := CallR.imp (cr_sum hc) fun vs H Q ⟨G, ρ, μ, ds, z, r, q⟩ => by
  unfold fSum at q
  split at q
  · rename_i d
    split at q
    · rename_i ns hn
      obtain ⟨xs, h1, h2⟩ := Option.bind_eq_some_iff.mp hn
      obtain ⟨v, rfl, r1⟩ := rds1 r
      obtain ⟨a, ws, rfl, h3, h4⟩ := lst_of z r1 h1
      rw [reps_intsOf h4 h2] at h3
      exact ⟨a, ns, rfl, hK ▸ h3, q _ H G ρ Up.refl z (.int _)⟩
    · exact q.elim
  · exact q.elim
theorem c_any (hc : X.calm = true) (hK : X.K = α.K) : CallR X (.builtin "any") (rCV α fAny) := CallR.imp (cr_any hc) fun vs H Q ⟨G, ρ, μ, ds, z, r, q⟩ => by
  unfold fAny at q
  split at q
  · rename_i d
    split at q
    · rename_i ns hn
      obtain ⟨xs, h1, h2⟩ := Option.bind_eq_some_iff.mp hn
      obtain ⟨v, rfl, r1⟩ := rds1 r
      obtain ⟨a, ws, rfl, h3, h4⟩ := lst_of z r1 h1
      rw [reps_blsOf h4 h2] at h3
      exact ⟨a, ns, rfl, hK ▸ h3, q _ H G ρ Up.refl z (.bl _)⟩
    · exact q.elim
  · exact q.elim
theorem c_all (hc : X.calm = true) (hK : X.K = α.K) : CallR X (.builtin "all") (rCV α fAll) := CallR.imp (cr_all hc) fun vs H Q ⟨G, ρ, μ, ds, z, r, q⟩ => by
  unfold fAll at q
  split at q
  · rename_i d
    split at q
    · rename_i ns hn
      obtain ⟨xs, h1, h2⟩ := Option.bind_eq_some_iff.mp hn
      obtain ⟨v, rfl, r1⟩ := rds1 r
      obtain ⟨a, ws, rfl, h3, h4⟩ := lst_of z r1 h1
      rw [reps_blsOf h4 h2] at h3
      exact ⟨a, ns, rfl, hK ▸ h3, q _ H G ρ Up.refl z (.bl _)⟩
    · exact q.elim
  · exact q.elim
def zipP : List P → List P → List P
  | x :: xs, y :: ys => .tup [x, y] :: zipP xs ys
  | _, _ => []
theorem zipP_get : ∀ (xs ys : List P) (i : Nat) (w : P), (zipP xs ys)[i]? = some w → ∃ x y, xs[i]? = some x ∧ ys[i]? = some y ∧ w = .tup [x, y]
  | x :: xs, y :: ys, 0, w, h => by
    cases h
    exact ⟨x, y, rfl, rfl, rfl⟩
  | x :: xs, y :: ys, i + 1, w, h => zipP_get xs ys i w h
  | [], _, i, w, h => by simp [zipP] at h
  | _ :: _, [], i, w, h => by simp [zipP] at h
theorem zipP_len : ∀ (xs ys : List P), (zipP xs ys).length = min xs.length ys.length
  | x :: xs, y :: ys => by simp [zipP, zipP_len xs ys]
  | [], _ => by simp [zipP]
  | _ :: _, [] => by simp [zipP]
theorem jok_zip {K : PySem.W.Frag} {G1 : Hp} {a b : Addr} {vs ws : List V} {xs ys : List P} (h : SqL K G1 a vs) (h2 : SqL K G1 b ws) (r : Reps α G1 vs xs) (r2 : Reps α G1 ws ys) (hK : K = α.K) : JOk α (Itz K a b) (zipP xs ys) G1 := fun i H G ρ μ s z => by
  have hH : SqL K H a vs := seqL z.sub (seqL s h)
  have hH2 : SqL K H b ws := seqL z.sub (seqL s h2)
  have r := r.mono s
  have r2 := r2.mono s
  refine ⟨fun w hw => ?_, fun hi => ⟨vs, ws, hH, hH2, by rw [r.length, r2.length]; rw [zipP_len] at hi; omega⟩⟩
  obtain ⟨x, y, e1, e2, rfl⟩ := zipP_get _ _ _ _ hw
  obtain ⟨v, h3, h4⟩ := r.get e1
  obtain ⟨u, h5, h6⟩ := r2.get e2
  refine ⟨⟨vs, ws, v, u, hH, hH2, h3, h5⟩, fun q H' yl => ?_⟩
  obtain ⟨T, x', y', rfl, hT, rfl, f1, f2⟩ := yl
  have g1 := f1 vs hH
  have g2 := f2 ws hH2
  rw [h3] at g1
  rw [h5] at g2
  cases g1
  cases g2
  exact ⟨_, up_new (z.free hT), z.new hT _, .tup (SqT.of upd_same) (.cons (h4.mono (same_upd (z.free hT))) (.cons (h6.mono (same_upd (z.free hT))) .nil))⟩
def asLst : P → Option (List P)
  | .lst xs => some xs
  | .wl xs => some xs
  | _ => none
theorem sq_asLst {G : Hp} {v : V} {x : P} {xs : List P} (r : Rep α G v x) (h : asLst x = some xs) : ∃ a vs, v = .ref a ∧ SqL α.K G a vs ∧ Reps α G vs xs := by
  cases r with
  | lst h1 r1 => cases h; exact ⟨_, _, rfl, SqL.of h1, r1⟩
  | wl h1 r1 => cases h; exact ⟨_, _, rfl, h1, r1⟩
  | _ => cases h
def zipEnd (μ : Mu) : List D → Option (Out (List P) × Mu)
  | [d, e] => match toP μ d with
    | some (x, μ1) => match toP μ1 e with
      | some (y, μ2) => match asLst x, asLst y with
        | some xs, some ys => some (.ok (zipP xs ys), μ2)
        | _, _ => none
      | none => none
    | none => none
  | _ => none
def evZip (a : EvA) : EvG (List P) := fun δ μ => bindG (a δ μ) fun ds μ1 => zipEnd μ1 ds
theorem vi_zip {e e2 : Expr} {a : EvA} {p pos tpos : Pos} {elts : List Expr} {kk : Nat} (hK : X.K = α.K) (hm : X.mg "zip" = none) (ha : PA X [e, e2] (tVs α W a)) (hg : Gl X "zip" := by rfl)
    (hs : starEach [e, e2] X.env = (false, eval e X.env) :: starEach [e2] X.env := by rfl) (hpl : (backTo pos (starEach [e2] X.env)).any (·.1) = false := by rfl) :
    VI α W X (.Tuple elts kk tpos) (.Call (.Name "zip" p) [e, e2] [] pos) (evZip a) := by
  refine ⟨_, pi_zip hg hm ha hs hpl, fun σ H G ρ δ μ R z s pq => ⟨G, ρ, δ, μ, z, s, Post.bind pq fun ds μ1 vs H1 G1 ρ1 u z1 r1 p1 => ?_⟩⟩
  unfold zipEnd at p1
  split at p1
  · rename_i d d'
    obtain ⟨v, w, rfl, ra, rb⟩ := rds2 r1
    split at p1
    · rename_i x μ2 q1
      obtain ⟨G2, u2, z2, r2⟩ := toP_ok z1 ra q1
      split at p1
      · rename_i y μ3 q2
        obtain ⟨G3, u3, z3, r3⟩ := toP_ok z2 (rb.up u2) q2
        split at p1
        · rename_i xs ys h1 h2
          have r2 := r2.mono u3.1
          obtain ⟨b1, vs1, rfl, s1, t1⟩ := sq_asLst r2 h1
          obtain ⟨b2, vs2, rfl, s2, t2⟩ := sq_asLst r3 h2
          refine ⟨b1, b2, vs1, vs2, rfl, ?_, ?_, ?_⟩
          · rw [hK]; exact seqL z3.sub s1
          · rw [hK]; exact seqL z3.sub s2
          · rw [hK]; exact p1 (Itz α.K b1 b2) H1 G3 ρ1 (u2.trans u3) z3 (jok_zip s1 s2 t1 t2 rfl)
        · exact p1.elim
      · exact p1.elim
    · exact p1.elim
  · exact p1.elim
def enumP : Nat → List P → List P
  | _, [] => []
  | n, x :: xs => .tup [.int (n : Int), x] :: enumP (n + 1) xs
theorem enumP_get : ∀ (n : Nat) (xs : List P) (i : Nat) (w : P), (enumP n xs)[i]? = some w → ∃ x, xs[i]? = some x ∧ w = .tup [.int ((n + i : Nat) : Int), x]
  | n, x :: xs, 0, w, h => by cases h; exact ⟨x, rfl, rfl⟩
  | n, x :: xs, i + 1, w, h => by
    obtain ⟨y, h1, h2⟩ := enumP_get (n + 1) xs i w h
    exact ⟨y, h1, by rw [h2, show n + 1 + i = n + (i + 1) by omega]⟩
  | n, [], i, w, h => by simp [enumP] at h
theorem enumP_len : ∀ (n : Nat) (xs : List P), (enumP n xs).length = xs.length
  | _, [] => rfl
  | n, x :: xs => by simp [enumP, enumP_len (n + 1) xs]
theorem jok_enum {K : PySem.W.Frag} {G1 : Hp} {a : Addr} {vs : List V} {xs : List P} (h : SqL K G1 a vs) (r : Reps α G1 vs xs) : JOk α (Ite K a) (enumP 0 xs) G1 := fun i H G ρ μ s z => by
  have hH : SqL K H a vs := seqL z.sub (seqL s h)
  have r := r.mono s
  refine ⟨fun w hw => ?_, fun hi => ⟨vs, hH, by rw [r.length]; rw [enumP_len] at hi; exact hi⟩⟩
  obtain ⟨x, e1, rfl⟩ := enumP_get _ _ _ _ hw
  obtain ⟨v, h3, h4⟩ := r.get e1
  refine ⟨⟨vs, v, hH, h3⟩, fun q H' yl => ?_⟩
  obtain ⟨T, x', rfl, hT, rfl, f1⟩ := yl
  have g1 := f1 vs hH
  rw [h3] at g1
  cases g1
  rw [Nat.zero_add]
  exact ⟨_, up_new (z.free hT), z.new hT _, .tup (SqT.of upd_same) (.cons (.int _) (.cons (h4.mono (same_upd (z.free hT))) .nil))⟩
def enumEnd (μ : Mu) : List D → Option (Out (List P) × Mu)
  | [d] => match toP μ d with
    | some (x, μ1) => match asLst x with
      | some xs => some (.ok (enumP 0 xs), μ1)
      | none => none
    | none => none
  | _ => none
def evEnum (a : EvA) : EvG (List P) := fun δ μ => bindG (a δ μ) fun ds μ1 => enumEnd μ1 ds
theorem vi_enum {e : Expr} {a : EvA} {p pos tpos : Pos} {elts : List Expr} {kk : Nat} (hK : X.K = α.K) (hm : X.mg "enumerate" = none) (ha : PA X [e] (tVs α W a)) (hg : Gl X "enumerate" := by rfl)
    (hs : starEach [e] X.env = [(false, eval e X.env)] := by rfl) : VI α W X (.Tuple elts kk tpos) (.Call (.Name "enumerate" p) [e] [] pos) (evEnum a) := by
  refine ⟨_, pi_enum hg hm ha hs, fun σ H G ρ δ μ R z s pq => ⟨G, ρ, δ, μ, z, s, Post.bind pq fun ds μ1 vs H1 G1 ρ1 u z1 r1 p1 => ?_⟩⟩
  unfold enumEnd at p1
  split at p1
  · rename_i d
    obtain ⟨v, rfl, ra⟩ := rds1 r1
    split at p1
    · rename_i x μ2 q1
      obtain ⟨G2, u2, z2, r2⟩ := toP_ok z1 ra q1
      split at p1
      · rename_i xs h1
        obtain ⟨b1, vs1, rfl, s1, t1⟩ := sq_asLst r2 h1
        refine ⟨b1, vs1, rfl, ?_, ?_⟩
        · rw [hK]; exact seqL z2.sub s1
        · rw [hK]; exact p1 (Ite α.K b1) H1 G2 ρ1 u2 z2 (jok_enum s1 t1)
      · exact p1.elim
    · exact p1.elim
  · exact p1.elim
def seqOf (μ : Mu) (d : D) : Option (List P) := (view μ d).bind asList
def evStar (e : Ev) (r : EvA) : EvA := fun δ μ => bindG (e δ μ) fun x μ1 => match seqOf μ1 x with
  | some xs => bindG (r δ μ1) fun ys μ2 => some (.ok (xs.map .p ++ ys), μ2)
  | none => none
theorem v_star {e : Expr} {es : List Expr} {p : Pos} {ee : Ev} {er : EvA} (hK : X.K = α.K) (he : PE X e (tV α W ee)) (hr : PA X es (tVs α W er)) (hs : starEach (.Starred e p :: es) X.env = (true, eval e X.env) :: starEach es X.env := by rfl) : PA X (.Starred e p :: es) (tVs α W (evStar ee er)) :=
  PA.imp (StX.pa_star he hr hs) fun σ H Q ⟨G, ρ, δ, μ, z, s, pq⟩ => ⟨G, ρ, δ, μ, z, s, Post.bind pq fun x μ1 v H1 G1 ρ1 u z1 r1 p1 => by
    split at p1
    · rename_i xs hx
      obtain ⟨y, h1, h2⟩ := Option.bind_eq_some_iff.mp hx
      obtain ⟨a, vs, rfl, h3, h4⟩ := view_seq z1 r1 h1 h2
      refine ⟨a, vs, rfl, ?_, G1, ρ1, δ, μ1, z1, s.up u, Post.bind p1 fun ys μ2 ws H2 G2 ρ2 u2 z2 r2 p2 => p2 (vs ++ ws) H2 G2 ρ2 Up.refl z2 ((reps_ds (h4.mono u2.1)).append r2)⟩
      rw [hK]
      exact h3.symm
    · exact p1.elim⟩
def fCatL : F2 := fun x y μ => match view μ x, view μ y with
  | some (.lst xs), some (.lst ys) => if xs.length + ys.length ≤ sizeLine then some (.p (.lst (xs ++ ys)), μ) else none
  | _, _ => none
theorem o_catL : OpR X (binaryOp .Add) (r2V α fCatL) := OpR.imp op_cat fun x y H Q h => by
  obtain ⟨G, ρ, μ, dx, dy, z, rx, ry, q⟩ := h
  unfold fCatL at q
  split at q
  · rename_i xs ys h1 h2
    split at q
    · rename_i hl
      obtain ⟨a, vs, rfl, e1, t1⟩ := view_lst z rx h1
      obtain ⟨b, ws, rfl, e2, t2⟩ := view_lst z ry h2
      refine ⟨a, b, vs, ws, rfl, rfl, e1, e2, by rw [t1.length, t2.length]; exact hl, fun p hp => ?_⟩
      exact q _ _ _ _ (up_new (z.free hp)) (z.new hp _) (.lst upd_same ((t1.append t2).mono (same_upd (z.free hp))))
    · exact q.elim
  · exact q.elim
abbrev EvO := EvG (Option Int)
abbrev tVo (α : Amb) (W : WX) (ev : EvO) : TO := tG α W (fun _ _ (b c : Option Int) => b = c) ev
theorem PO.imp {e : Option Expr} {t t' : TO} (h : PO X e t) (i : ∀ σ H Q, t' σ H Q → t σ H Q) : PO X e t' := ⟨fun pins s σ H Q I q => h.run pins s σ H Q I (i _ _ _ q)⟩
def evNoP : EvO := fun _ μ => some (.ok none, μ)
def evPt (e : Ev) : EvO := fun δ μ => bindG (e δ μ) fun d μ1 => match d with
  | .p (.int i) => some (.ok (some i), μ1)
  | _ => none
theorem v_noP : PO X none (tVo α W evNoP) := PO.imp po_none fun σ H Q ⟨G, ρ, δ, μ, z, s, p⟩ => p none H G ρ Up.refl z rfl
theorem v_pt {e : Expr} {ev : Ev} (h : PE X e (tV α W ev)) : PO X (some e) (tVo α W (evPt ev)) :=
  PO.imp (po_some h) fun σ H Q ⟨G, ρ, δ, μ, z, s, p⟩ => ⟨G, ρ, δ, μ, z, s, Post.bind p fun x μ1 v H1 G1 ρ1 u z1 r1 p1 => by
    split at p1
    · rename_i i
      exact ⟨i, repInt r1, p1 _ H1 G1 ρ1 Up.refl z1 rfl⟩
    · exact p1.elim⟩
def cutP (xs : List P) (lo hi : Option Int) : List P := (xs.drop (HT.sIx xs.length 0 lo)).take (HT.sIx xs.length xs.length hi - HT.sIx xs.length 0 lo)
def evSl (e : Ev) (lo hi : EvO) : Ev := fun δ μ => bindG (e δ μ) fun x μ1 => bindG (lo δ μ1) fun l μ2 => bindG (hi δ μ2) fun h μ3 => match lstOf μ3 x with
  | some xs => some (.ok (.p (.lst (cutP xs l h))), μ3)
  | none => none
theorem v_slice {e : Expr} {lo hi : Option Expr} {p2 pos : Pos} {ev : Ev} {el eh : EvO} (hK : X.K = α.K) (he : PE X e (tV α W ev)) (hl : PO X lo (tVo α W el)) (hh : PO X hi (tVo α W eh)) : PE X (.Subscript e (.Slice lo hi none p2) pos) (tV α W (evSl ev el eh)) :=
  PE.imp (pe_slice sl_list he hl hh) fun σ H Q ⟨G, ρ, δ, μ, z, s, p⟩ => ⟨G, ρ, δ, μ, z, s, Post.bind p fun x μ1 v H1 G1 ρ1 u z1 r1 p1 =>
    ⟨G1, ρ1, δ, μ1, z1, s.up u, Post.bind p1 fun l μ2 l' H2 G2 ρ2 u2 z2 r2 p2 => ⟨G2, ρ2, δ, μ2, z2, s.up (u.trans u2), Post.bind p2 fun h μ3 h' H3 G3 ρ3 u3 z3 r3 p3 => by
      cases r2
      cases r3
      split at p3
      · rename_i xs hx
        obtain ⟨a, vs, rfl, h1, h2⟩ := lst_of z3 (r1.up (u2.trans u3)) hx
        refine ⟨a, vs, rfl, ?_, fun q hq => ?_⟩
        · rw [hK]; exact h1
        · refine p3 _ _ _ _ (up_new (z3.free hq)) (z3.new hq _) (.lst upd_same (Reps.mono (same_upd (z3.free hq)) ?_))
          unfold cutV cutP
          rw [h2.length]
          exact (h2.drop _).take _
      · exact p3.elim⟩⟩⟩
def fTupOf : FA := fun ds μ => match ds with
  | [d] => match lstOf μ d with
    | some xs => some (.p (.tup xs), μ)
    | none => none
  | _ => none
theorem c_tupOf (hK : X.K = α.K) : CallR X (.type "tuple") (rCV α fTupOf) := CallR.imp call_tuple_of fun vs H Q ⟨G, ρ, μ, ds, z, r, q⟩ => by
  unfold fTupOf at q
  split at q
  · rename_i d
    split at q
    · rename_i xs hx
      obtain ⟨v, rfl, r1⟩ := rds1 r
      obtain ⟨a, ws, rfl, h3, h4⟩ := lst_of z r1 hx
      refine ⟨a, ws, rfl, .inl ⟨by rw [hK]; exact h3, fun l hl => ?_⟩⟩
      exact q _ _ _ _ (up_new (z.free hl)) (z.new hl _) (.tup (SqT.of upd_same) (h4.mono (same_upd (z.free hl))))
    · exact q.elim
  · exact q.elim
def fLcm : FA := fun ds μ => match ds with
  | [.p (.int i), .p (.int j)] => if i.natAbs < 2 ^ 6000 ∧ j.natAbs < 2 ^ 6000 then some (.p (.int ((Nat.lcm i.natAbs j.natAbs : Nat) : Int)), μ) else none
  | _ => none
theorem log_max {a b : Nat} (h : a < 2 ^ 6000) (h2 : b < 2 ^ 6000) : ¬ (max a b).log2 / 30 + 1 > 450 := by
  have h3 : max a b < 2 ^ 6000 := by rcases Nat.le_total a b with q | q <;> simp [Nat.max_eq_right, Nat.max_eq_left, q, h, h2]
  have h4 := PySem.Flt.log2_lt_of (k := 6000) (by decide) h3
  omega
theorem c_lcm : CallR X (.builtin "math.lcm") (rCV α fLcm) := by
  intro pins s σ H xs us Q I r h
  obtain ⟨G, ρ, μ, ds, z, rd, q⟩ := h
  unfold fLcm at q
  split at q
  · rename_i i j
    split at q
    · rename_i hc
      obtain ⟨a, b, rfl, ra, rb⟩ := rds2 rd
      cases repInt ra
      cases repInt rb
      obtain ⟨t, u, rfl⟩ := Vals.int2 r
      have e1 : Nat.lcm 1 i.natAbs = i.natAbs := Nat.lcm_one_left _
      have hl : Nat.lcm i.natAbs j.natAbs < 2 ^ 12000 := by
        have h1 : Nat.lcm i.natAbs j.natAbs ≤ i.natAbs * j.natAbs := Nat.div_le_self _ _
        have h2 : i.natAbs * j.natAbs < 2 ^ 6000 * 2 ^ 6000 := Nat.mul_lt_mul_of_lt_of_lt hc.1 hc.2
        rw [← Nat.pow_add] at h2
        exact Nat.lt_of_le_of_lt h1 h2
      have hg := PySem.W.mg_run_lcm i t j u (log_max (Nat.lt_of_lt_of_le (by decide : 1 < 2 ^ 1) (Nat.pow_le_pow_right (by decide) (by decide))) hc.1) (log_max hc.1 hc.2) (by
        rw [e1, Int.natAbs_natCast]
        exact Nat.lt_of_lt_of_le (PySem.Flt.log2_lt_of (k := 12000) (by decide) hl) (by decide))
      rw [e1] at hg
      exact call_function_meets PySem.W.MGF.kind_lcm PySem.W.MGF.plain_lcm PySem.W.MGF.entry_lcm (PySem.W.MGF.args_lcm _ _) hg.meets ⟨.int _, H, I.tok _, ⟨_, rfl⟩, q _ H G ρ Up.refl z (.int _)⟩
    · exact q.elim
  · exact q.elim
end
end Vs
namespace Vs
open PySem PySem.Spec PyProof.Rows L2
section
variable {α : Amb} {W : WX} {X : Cx}
def sAsg3 (i j k : Nat) (e : Ev) : SEv := fun δ μ => bindS (e δ μ) δ fun d μ1 => some (.nx, ((δ.set i (some d)).set j (some d)).set k (some d), μ1)
def sPar3 (i j l : Nat) (e : EvA) : SEv := fun δ μ => bindS (e δ μ) δ fun ds μ1 => match ds with
  | [x, y, w] => some (.nx, ((δ.set i (some x)).set j (some y)).set l (some w), μ1)
  | _ => none
/-- names from a list -/
def tgL (is : List Nat) : Tgt := fun x δ => match x with
  | .lst xs => setAll is xs δ
  | _ => none
def evIsiV (t : P → Option Bool) (a : Ev) : Ev := fun δ μ => bindG (a δ μ) fun d μ1 => match view μ1 d with
  | some x => match t x with
    | some b => some (.ok (.p (.bl b)), μ1)
    | none => none
  | none => none
theorem tyx_view {H G : Hp} {ρ : List Addr} {μ : Mu} {v : V} {d : D} {x : P} (z : Zn α H G ρ μ) (r : RepD α G ρ v d) (e : view μ d = some x) (O : ∀ c xs, x = .obj c xs → InsOwn α.K (α.cl c)) : TyX α.K H v (tyP α x) := by
  cases d with
  | p y => cases e; exact tyx_of z r O
  | loc l =>
    obtain ⟨xs, rfl, hx⟩ := view_loc e
    obtain ⟨a, rfl, ha⟩ := r
    obtain ⟨a', h1, h2, vs, h3, h4⟩ := z.cell l _ hx
    rw [ha] at h1; cases h1
    exact .base (.lst h3)
theorem v_isiV {t : P → Option Bool} {e ce : Expr} {ev : Ev} {cv : V} {cu : Value} {p pos : Pos} (hK : X.K = α.K) (hm : X.mg "isinstance" = none) (hv : bootBuiltins "isinstance" = some (.builtin "isinstance")) (ha : PE X e (tV α W ev)) (hc : PE X ce (tC cv)) (hcv : ClsV cv cu)
    (ht : ∀ x b, t x = some b → PySem.W.kitOne α.K (tyP α x) cu = some b ∧ ∀ c xs, x = .obj c xs → InsOwn α.K (α.cl c)) (hg : Gl X "isinstance" := by rfl)
    (hs : starEach [e, ce] X.env = (false, eval e X.env) :: starEach [ce] X.env := by rfl) (hs2 : starEach [ce] X.env = (false, eval ce X.env) :: starEach [] X.env := by rfl) (hpl : (backTo pos (starEach [ce] X.env)).any (·.1) = false := by rfl) :
    PE X (.Call (.Name "isinstance" p) [e, ce] [] pos) (tV α W (evIsiV t ev)) :=
  PE.imp (pe_callB call_isi hg hm hv (pa_cons ha (pa_cons hc pa_nil hs2) hs) (by decide) (by decide) hs hpl) fun σ H Q ⟨G, ρ, δ, μ, z, s, p⟩ => ⟨G, ρ, δ, μ, z, s, Post.bind p fun d μ1 v H1 G1 ρ1 u z1 r1 p1 => by
    cases q0 : view μ1 d with
    | none => rw [q0] at p1; exact p1.elim
    | some x =>
      cases q : t x with
      | none => rw [q0] at p1; dsimp only at p1; rw [q] at p1; exact p1.elim
      | some b =>
        rw [q0] at p1
        dsimp only at p1
        rw [q] at p1
        obtain ⟨h1, h2⟩ := ht x b q
        exact ⟨v, cv, tyP α x, cu, b, rfl, hcv, by rw [hK]; exact tyx_view z1 r1 q0 h2, by rw [hK]; exact h1, p1 _ H1 G1 ρ1 Up.refl z1 (.bl _)⟩⟩
theorem PTs.imp {ifs : List Expr} {t t' : TT} (h : PTs X ifs t) (i : ∀ σ H Q, t' σ H Q → t σ H Q) : PTs X ifs t' := ⟨fun pins s σ H Q I q => h.run pins s σ H Q I (i _ _ _ q)⟩
theorem vpts_nil : PTs X [] (tVt α W evTrue) := PTs.imp pts_nil fun σ H Q ⟨G, ρ, δ, μ, z, s, p⟩ => p true H G ρ Up.refl z rfl
theorem vpts_one {c : Expr} {ec : EvT} (h : PT X c (tVt α W ec)) : PTs X [c] (tVt α W ec) := pts_one h
end
section
variable {δ δ' : Sl} {μ μ' : Mu} {e : Ev} {args : EvA}
@[simp] theorem sAsg3_eq {i j k : Nat} : sAsg3 i j k e δ μ = bindS (e δ μ) δ fun d μ1 => some (.nx, ((δ.set i (some d)).set j (some d)).set k (some d), μ1) := rfl
def par3End (i j l : Nat) (δ : Sl) (μ : Mu) : List D → Option (Fl × Sl × Mu)
  | [x, y, w] => some (.nx, ((δ.set i (some x)).set j (some y)).set l (some w), μ)
  | _ => none
@[simp] theorem sPar3_eq {i j l : Nat} : sPar3 i j l args δ μ = bindS (args δ μ) δ fun ds μ1 => par3End i j l δ μ1 ds := rfl
@[simp] theorem par3End_3 {i j l : Nat} {x y w : D} : par3End i j l δ μ [x, y, w] = some (.nx, ((δ.set i (some x)).set j (some y)).set l (some w), μ) := rfl
def isiVEnd (t : P → Option Bool) (μ : Mu) : Option P → Option (Out D × Mu)
  | some x => match t x with
    | some b => some (.ok (.p (.bl b)), μ)
    | none => none
  | none => none
@[simp] theorem evIsiV_eq {t : P → Option Bool} : evIsiV t e δ μ = bindG (e δ μ) fun d μ1 => isiVEnd t μ1 (view μ1 d) := rfl
theorem isiVEnd_some {t : P → Option Bool} {x : P} {b : Bool} (h : t x = some b) : isiVEnd t μ (some x) = some (.ok (.p (.bl b)), μ) := by
  unfold isiVEnd; dsimp only; rw [h]
@[simp] theorem evTrue_eq : evTrue δ μ = some (.ok true, μ) := rfl
@[simp] theorem evLc_eq {it : EvG (List P)} {ts : Tgt} {t : EvT} {vs : List Nat} : evLc it ts t e vs δ μ = bindG (it δ μ) fun xs μ1 => lcEnd μ1.length (lcL ts t e (wipeS δ vs) μ1.length xs (μ1 ++ [some (.lst [])])) := rfl
@[simp] theorem tgN_eq {i : Nat} {x : P} : tgN i x δ = some (δ.set i (some (.p x))) := rfl
@[simp] theorem tgT_eq {is : List Nat} {xs : List P} : tgT is (.tup xs) δ = setAll is xs δ := rfl
@[simp] theorem tgL_eq {is : List Nat} {xs : List P} : tgL is (.lst xs) δ = setAll is xs δ := rfl
@[simp] theorem setAll_nil : setAll [] [] δ = some δ := rfl
@[simp] theorem setAll_cons {i : Nat} {is : List Nat} {x : P} {xs : List P} : setAll (i :: is) (x :: xs) δ = setAll is xs (δ.set i (some (.p x))) := rfl
@[simp] theorem wipeS_nil : wipeS δ [] = δ := rfl
@[simp] theorem wipeS_cons {v : Nat} {vs : List Nat} : wipeS δ (v :: vs) = (wipeS δ vs).set v none := rfl
theorem cellL_end {n : Nat} {xs : List P} (hn : n = μ.length) : cellL (μ ++ [some (.lst xs)]) n = some xs := by subst hn; unfold cellL; simp
theorem set_end {n : Nat} {o o' : Option MO} (hn : n = μ.length) : (μ ++ [o]).set n o' = μ ++ [o'] := by subst hn; rw [List.set_append_right _ _ (Nat.le_refl _)]; simp
end
end Vs
set_option maxHeartbeats 1000000
namespace Vs
open PySem PySem.Spec PyProof.Rows L2
open PySem.Sem (wp)
/-- what stands outside of cs stays -/
def Kp (cs : List Addr) (h h' : Heap) : Prop := ∀ c o, c ∉ cs → h.get? c = some o → h'.get? c = some o
theorem Kp.trans {cs : List Addr} {h h1 h2 : Heap} (a : Kp cs h h1) (b : Kp cs h1 h2) : Kp cs h h2 := fun c o n e => b c o n (a c o n e)
theorem Kp.ext {cs : List Addr} {t : Addr} {h h' : Heap} (x : Heap.ExtBut t h h') (m : t ∈ cs) : Kp cs h h' := fun c o n e => x c o (fun q => n (by rw [q]; exact m)) e
theorem Kp.same {cs : List Addr} {t : Addr} {h h' : Heap} (x : Heap.SameBut t h h') (m : t ∈ cs) : Kp cs h h' := Kp.ext x.extBut m
theorem Kp.push {cs : List Addr} {h : Heap} (o : Obj) : Kp cs h (h.push o) := fun _ _ _ e => Heap.get?_push_of_some o e
def SIt : Bool → Heap → Addr → Addr → Nat → Prop
  | true, h, i, l, k => h.IsTupleIter i l k
  | false, h, i, l, k => h.IsListIter i l k
theorem SIt.get {b : Bool} {h : Heap} {i l : Addr} {k : Nat} (x : SIt b h i l k) : ∃ o, h.get? i = some o ∧ ∀ v, o.data ≠ .cell v := by
  cases b
  · obtain ⟨o, e, _, d⟩ := x; exact ⟨o, e, fun v q => by rw [d] at q; cases q⟩
  · obtain ⟨o, e, _, d⟩ := x; exact ⟨o, e, fun v q => by rw [d] at q; cases q⟩
end Vs
namespace Vs
open PySem PySem.Spec PyProof.Rows L2
section
variable {α : Amb} {W : WX} {X : Cx}
def setAllT : List Tgt → List P → Sl → Option Sl
  | [], [], δ => some δ
  | t :: ts, x :: xs, δ => (t x δ).bind (setAllT ts xs)
  | _, _, _ => none
def tgM (ts : List Tgt) : Tgt := fun x δ => match x with
  | .tup xs => setAllT ts xs δ
  | _ => none
@[simp] theorem tgM_eq {ts : List Tgt} {xs : List P} {δ : Sl} : tgM ts (.tup xs) δ = setAllT ts xs δ := rfl
@[simp] theorem setAllT_nil {δ : Sl} : setAllT [] [] δ = some δ := rfl
@[simp] theorem setAllT_cons {t : Tgt} {ts : List Tgt} {x : P} {xs : List P} {δ : Sl} : setAllT (t :: ts) (x :: xs) δ = (t x δ).bind (setAllT ts xs) := rfl
def ratsP (c : Nat) : List P → Bool
  | [] => true
  | .obj c' [.int _, .int _] :: xs => c' == c && ratsP c xs
  | _ => false
end
end Vs
set_option maxHeartbeats 4000000
namespace L2
open PySem PySem.Spec PyProof.Rows
end L2
namespace Vs
open PySem PySem.Spec PyProof.Rows L2
section
variable {α : Amb} {W : WX} {X : Cx}
def evChain (f g : F2) (a b c : Ev) : Ev := fun δ μ => bindG (a δ μ) fun x μ1 => bindG (b δ μ1) fun y μ2 => match f x y μ2 with
  | some (.p (.bl true), μ3) => bindG (c δ μ3) fun w μ4 => okm (g y w μ4)
  | some (.p (.bl false), μ3) => some (.ok (.p (.bl false)), μ3)
  | _ => none
@[simp] theorem evChain_eq {f g : F2} {a b c : Ev} {δ : Sl} {μ : Mu} : evChain f g a b c δ μ = bindG (a δ μ) fun x μ1 => bindG (b δ μ1) fun y μ2 => match f x y μ2 with
  | some (.p (.bl true), μ3) => bindG (c δ μ3) fun w μ4 => okm (g y w μ4)
  | some (.p (.bl false), μ3) => some (.ok (.p (.bl false)), μ3)
  | _ => none := rfl
def fCatT : F2 := fun x y μ => match x, y with
  | .p (.tup xs), .p (.tup ys) => if xs.length + ys.length ≤ sizeLine then some (.p (.tup (xs ++ ys)), μ) else none
  | _, _ => none
theorem reps_nil {G : Hp} {xs : List P} (r : Reps α G [] xs) : xs = [] := by cases r; rfl
theorem o_catT (hK : X.K = α.K) : OpR X (binaryOp .Add) (r2V α fCatT) := OpR.imp op_catA fun x y H Q h => by
  obtain ⟨G, ρ, μ, dx, dy, z, rx, ry, q⟩ := h
  unfold fCatT at q
  split at q
  · rename_i xs ys
    split at q
    · rename_i hl
      obtain ⟨a, vs, rfl, e1, t1⟩ := view_tup z rx rfl
      obtain ⟨b, ws, rfl, e2, t2⟩ := view_tup z ry rfl
      refine ⟨a, b, vs, ws, rfl, rfl, by rw [hK]; exact e1, by rw [hK]; exact e2, by rw [t1.length, t2.length]; exact hl, fun h0 => ?_, fun _ h0 => ?_, fun _ _ p hp => ?_⟩
      · subst h0
        obtain rfl := reps_nil t1
        exact q _ _ _ _ Up.refl z ry
      · subst h0
        obtain rfl := reps_nil t2
        rw [List.append_nil] at q
        exact q _ _ _ _ Up.refl z rx
      · exact q _ _ _ _ (up_new (z.free hp)) (z.new hp _) (.tup (SqT.of upd_same) ((t1.append t2).mono (same_upd (z.free hp))))
    · exact q.elim
  · exact q.elim
end
end Vs
namespace L2
open PySem PySem.Spec PyProof.Rows
end L2
set_option maxHeartbeats 1000000
namespace Vs
open PySem PySem.Spec PyProof.Rows L2
/-- a new place at an address that no live place has -/
theorem Zn.adopt {α : Amb} {H G : Hp} {ρ : List Addr} {μ : Mu} (z : Zn α H G ρ μ) {p : Addr} (g : G p = none) (hn : ∀ (l : Nat) (m : MO), μ[l]? = some (some m) → ρ[l]? ≠ some p) {o : HO} {m : MO} (r : MRep α G ρ μ.length (some o) m) : Zn α (upd H p o) G (ρ ++ [p]) (μ ++ [some m]) := by
  have old : ∀ {l : Nat} {m' : MO}, (μ ++ [some m])[l]? = some (some m') → (l < μ.length ∧ μ[l]? = some (some m')) ∨ (l = μ.length ∧ m' = m) := fun {l m'} e => by
    by_cases hl : l < μ.length
    · rw [List.getElem?_append_left hl] at e; exact .inl ⟨hl, e⟩
    · rw [List.getElem?_append_right (by omega)] at e
      by_cases h0 : l - μ.length = 0
      · rw [h0] at e
        simp at e
        exact .inr ⟨by omega, e.symm⟩
      · rw [List.getElem?_eq_none (by simp; omega)] at e; cases e
  have at_old : ∀ {l : Nat}, l < μ.length → (ρ ++ [p])[l]? = ρ[l]? := fun {l} hl => List.getElem?_append_left (by rw [z.len]; exact hl)
  have at_new : (ρ ++ [p])[μ.length]? = some p := by rw [← z.len]; simp
  refine ⟨fun b x e => ?_, by simp [z.len], fun l m' e => ?_, fun l l' m1 m2 a e1 e2 h1 h2 => ?_⟩
  · rw [upd_ne (ne_of_none e g)]; exact z.sub _ _ e
  · rcases old e with ⟨hl, e⟩ | ⟨rfl, rfl⟩
    · obtain ⟨a, h1, h2, h3⟩ := z.cell l m' e
      have hap : a ≠ p := fun q => by subst q; exact hn _ _ e h1
      exact ⟨a, by rw [at_old hl]; exact h1, h2, by rw [upd_ne hap]; exact h3.up up_place⟩
    · exact ⟨p, at_new, g, by rw [upd_same]; exact r.up up_place⟩
  · rcases old e1 with ⟨k1, f1⟩ | ⟨q1, _⟩ <;> rcases old e2 with ⟨k2, f2⟩ | ⟨q2, _⟩
    · rw [at_old k1] at h1; rw [at_old k2] at h2
      exact z.inj _ _ _ _ _ f1 f2 h1 h2
    · subst q2
      rw [at_old k1] at h1; rw [at_new] at h2; cases h2
      exact absurd h1 (hn _ _ f1)
    · subst q1
      rw [at_old k2] at h2; rw [at_new] at h1; cases h1
      exact absurd h2 (hn _ _ f2)
    · rw [q1, q2]
/-- a place is told no more -/
theorem Zn.drop {α : Amb} {H G : Hp} {ρ : List Addr} {μ : Mu} (z : Zn α H G ρ μ) (l : Nat) : Zn α H G ρ (μ.set l none) := by
  have live : ∀ {k : Nat} {mk : MO}, (μ.set l Option.none)[k]? = some (some mk) → l ≠ k ∧ μ[k]? = some (some mk) := fun {k mk} e => by
    by_cases hk : l = k
    · subst hk
      by_cases hl : l < μ.length
      · rw [List.getElem?_set_self hl] at e; cases e
      · rw [List.getElem?_eq_none (by rw [List.length_set]; omega)] at e; cases e
    · rw [List.getElem?_set_ne hk] at e; exact ⟨hk, e⟩
  exact ⟨z.sub, by rw [List.length_set]; exact z.len, fun k mk e => z.cell k mk (live e).2, fun k k' m1 m2 b e1 e2 => z.inj _ _ _ _ _ (live e1).2 (live e2).2⟩
/-- a place is written, and goes to the end -/
theorem Zn.move {α : Amb} {H G : Hp} {ρ : List Addr} {μ : Mu} (z : Zn α H G ρ μ) {l : Nat} {a : Addr} {m m' : MO} (hm : μ[l]? = some (some m)) (ha : ρ[l]? = some a) {o : HO} (r : MRep α G ρ μ.length (some o) m') : Zn α (upd H a o) G (ρ ++ [a]) (μ.set l none ++ [some m']) := by
  obtain ⟨a', h1, h2, h3⟩ := z.cell l m hm
  rw [ha] at h1; cases h1
  refine (z.drop l).adopt h2 (fun k mk e q => ?_) (by rw [List.length_set]; exact r)
  by_cases hk : l = k
  · subst hk
    rw [List.getElem?_set_self (List.getElem?_eq_some_iff.mp hm).1] at e; cases e
  · rw [List.getElem?_set_ne hk] at e
    exact hk (z.inj _ _ _ _ _ hm e ha q)
theorem Blw.app {l : Nat} {ds es : List D} (h : Blw l ds) (h2 : Blw l es) : Blw l (ds ++ es) := fun k hk => by
  rcases List.mem_append.mp hk with q | q
  · exact h k q
  · exact h2 k q
inductive It2 where
  | one (d : D) | two (d e : D)
def RepI (α : Amb) (G : Hp) (ρ : List Addr) (v : V) : It2 → Prop
  | .one d => RepD α G ρ v d
  | .two d e => ∃ a u w, v = .ref a ∧ SqT α.K G a [u, w] ∧ RepD α G ρ u d ∧ RepD α G ρ w e
/-- the place whose content must stay while a walk goes on -/
abbrev Gd := Option (Nat × MO)
def okG (μ : Mu) : Gd → Prop
  | none => True
  | some (l, m) => μ[l]? = some (some m)
noncomputable def gIf {β : Type} (μ : Mu) (g : Gd) (r : Option β) : Option β := @ite _ (okG μ g) (Classical.propDecidable _) r none
theorem gIf_pos {β : Type} {μ : Mu} {g : Gd} {r : Option β} (h : okG μ g) : gIf μ g r = r := if_pos h
theorem gIf_some {β : Type} {μ : Mu} {g : Gd} {r : Option β} {x : β} (h : gIf μ g r = some x) : okG μ g ∧ r = some x := by
  unfold gIf at h
  split at h
  · exact ⟨‹_›, h⟩
  · cases h
@[simp] theorem gIf_none {β : Type} {μ : Mu} {r : Option β} : gIf μ none r = r := gIf_pos trivial
/-- the items that a value shows: is it a tuple?, the items, the place -/
def items (μ : Mu) : D → Option (Bool × List D × Gd)
  | .p (.tup xs) => some (true, xs.map .p, none)
  | .p (.lst xs) => some (false, xs.map .p, none)
  | .p (.wl xs) => some (false, xs.map .p, none)
  | .p _ => none
  | .loc l => match μ[l]? with
    | some (some (.lst xs)) => some (false, xs.map .p, some (l, .lst xs))
    | some (some (.dl ds)) => some (false, ds, some (l, .dl ds))
    | _ => none
theorem items_ok {α : Amb} {H G : Hp} {ρ : List Addr} {μ : Mu} (z : Zn α H G ρ μ) {v : V} {d : D} {b : Bool} {ds : List D} {g : Gd} (r : RepD α G ρ v d) (e : items μ d = some (b, ds, g)) :
    ∃ a, v = .ref a ∧ okG μ g ∧ ∀ H' G' ρ' μ', Up G ρ G' ρ' → Zn α H' G' ρ' μ' → okG μ' g → ∃ vs, (if b then SqT α.K H' a vs else SqL α.K H' a vs) ∧ RepDs α G' ρ' vs ds := by
  cases d with
  | p x =>
    cases x with
    | tup xs =>
      cases e
      cases r with
      | tup h r => exact ⟨_, rfl, trivial, fun H' G' ρ' μ' u z' _ => ⟨_, seqT z'.sub (seqT u.same h), reps_ds (r.mono u.same)⟩⟩
    | lst xs =>
      cases e
      cases r with
      | lst h r => exact ⟨_, rfl, trivial, fun H' G' ρ' μ' u z' _ => ⟨_, SqL.of (z'.sub _ _ (u.same _ _ h)), reps_ds (r.mono u.same)⟩⟩
    | wl xs =>
      cases e
      cases r with
      | wl h r => exact ⟨_, rfl, trivial, fun H' G' ρ' μ' u z' _ => ⟨_, seqL z'.sub (seqL u.same h), reps_ds (r.mono u.same)⟩⟩
    | _ => cases e
  | loc l =>
    obtain ⟨a, rfl, ha⟩ := r
    unfold items at e
    dsimp only at e
    split at e
    · rename_i xs hm
      cases e
      refine ⟨a, rfl, hm, fun H' G' ρ' μ' u z' ok => ?_⟩
      obtain ⟨a', h1, h2, vs, h3, h4⟩ := z'.cell l _ ok
      rw [u.get ha] at h1; cases h1
      exact ⟨vs, SqL.of h3, reps_ds h4⟩
    · rename_i xs hm
      cases e
      refine ⟨a, rfl, hm, fun H' G' ρ' μ' u z' ok => ?_⟩
      obtain ⟨a', h1, h2, vs, h3, h4, _⟩ := z'.cell l _ ok
      rw [u.get ha] at h1; cases h1
      exact ⟨vs, SqL.of h3, h4⟩
    · cases e
def JOkI (α : Amb) (J : It) (xs : List It2) (g : Gd) (G1 : Hp) (ρ1 : List Addr) : Prop := ∀ i H G ρ μ, Up G1 ρ1 G ρ → Zn α H G ρ μ → okG μ g →
  (∀ x, xs[i]? = some x → J.go i H ∧ ∀ v H', J.yld i H v H' → ∃ G', Up G ρ G' ρ ∧ Zn α H' G' ρ μ ∧ RepI α G' ρ v x) ∧ (xs.length ≤ i → J.stop i H)
abbrev EvI := EvG (List It2 × Gd)
def VII (α : Amb) (W : WX) (X : Cx) (tg iter : Expr) (ev : EvI) : Prop := ∃ wi : TI, PI X tg iter wi ∧ ∀ σ H G ρ δ μ (R : It → Hp → Prop), Zn α H G ρ μ → Sq α G ρ σ δ →
  Post α W (fun G' ρ' (J : It) xg => JOkI α J xg.1 xg.2 G' ρ') G ρ σ R (ev δ μ) → wi σ H R
def evUpI (ev : EvG (List P)) : EvI := fun δ μ => bindG (ev δ μ) fun xs μ1 => some (.ok (xs.map fun x => .one (.p x), none), μ1)
def evItL (e : Ev) : EvI := fun δ μ => bindG (e δ μ) fun d μ1 => match items μ1 d with
  | some (_, ds, g) => some (.ok (ds.map .one, g), μ1)
  | none => none
section
variable {α : Amb} {W : WX} {X : Cx}
theorem jok_items {b : Bool} {a : Addr} {ds : List D} {g : Gd} {G1 : Hp} {ρ1 : List Addr}
    (h : ∀ H' G' ρ' μ', Up G1 ρ1 G' ρ' → Zn α H' G' ρ' μ' → okG μ' g → ∃ vs, (if b then SqT α.K H' a vs else SqL α.K H' a vs) ∧ RepDs α G' ρ' vs ds) :
    JOkI α (if b then Itt α.K a else Itl α.K a) (ds.map .one) g G1 ρ1 := fun i H G ρ μ u z ok => by
  obtain ⟨vs, hv, r⟩ := h H G ρ μ u z ok
  cases b with
  | true =>
    refine ⟨fun x hx => ?_, fun hi => ⟨vs, hv, by rw [r.length]; simpa using hi⟩⟩
    rw [List.getElem?_map] at hx
    cases q : ds[i]? with
    | none => rw [q] at hx; cases hx
    | some d =>
      rw [q] at hx; cases hx
      obtain ⟨v, h1, h2⟩ := r.get q
      refine ⟨⟨vs, v, hv, h1⟩, fun w H' y => ?_⟩
      obtain ⟨rfl, y⟩ := y
      have e := y vs hv
      rw [h1] at e; cases e
      exact ⟨G, Up.refl, z, h2⟩
  | false =>
    refine ⟨fun x hx => ?_, fun hi => ⟨vs, hv, by rw [r.length]; simpa using hi⟩⟩
    rw [List.getElem?_map] at hx
    cases q : ds[i]? with
    | none => rw [q] at hx; cases hx
    | some d =>
      rw [q] at hx; cases hx
      obtain ⟨v, h1, h2⟩ := r.get q
      refine ⟨⟨vs, v, hv, h1⟩, fun w H' y => ?_⟩
      obtain ⟨rfl, y⟩ := y
      have e := y vs hv
      rw [h1] at e; cases e
      exact ⟨G, Up.refl, z, h2⟩
theorem vii_live {tg iter : Expr} {ev : Ev} (hK : X.K = α.K) (h : PE X iter (tV α W ev)) : VII α W X tg iter (evItL ev) := by
  refine ⟨_, pi_seq h, fun σ H G ρ δ μ R z s p => ⟨G, ρ, δ, μ, z, s, Post.bind p fun d μ1 v H1 G1 ρ1 u z1 r1 p1 => ?_⟩⟩
  cases q : items μ1 d with
  | none => rw [q] at p1; exact p1.elim
  | some y =>
    obtain ⟨b, ds, g⟩ := y
    rw [q] at p1
    obtain ⟨a, rfl, ok, hs⟩ := items_ok z1 r1 q
    obtain ⟨vs, hv, _⟩ := hs H1 G1 ρ1 μ1 Up.refl z1 ok
    have j := jok_items hs
    rw [hK]
    cases b with
    | true => exact ⟨a, rfl, .inr ⟨⟨vs, hv⟩, p1 (Itt α.K a) H1 G1 ρ1 Up.refl z1 j⟩⟩
    | false => exact ⟨a, rfl, .inl ⟨⟨vs, hv⟩, p1 (Itl α.K a) H1 G1 ρ1 Up.refl z1 j⟩⟩
abbrev TgtI := It2 → Sl → Option Sl
def VGI (α : Amb) (X : Cx) (tg : Expr) (ts : TgtI) : Prop := ∃ g : TG, PG X tg g ∧ ∀ G ρ H μ σ δ v x δ' (Q : L2.St → Hp → Prop), Zn α H G ρ μ → Sq α G ρ σ δ → RepI α G ρ v x → ts x δ = some δ' → (∀ σ', Sq α G ρ σ' δ' → Q σ' H) → g v σ H Q
def tgNI (i : Nat) : TgtI := fun x δ => match x with
  | .one d => some (δ.set i (some d))
  | _ => none
def tgTI (i j : Nat) : TgtI := fun x δ => match x with
  | .two d e => some ((δ.set i (some d)).set j (some e))
  | _ => none
def tgUp (ts : Tgt) : TgtI := fun x δ => match x with
  | .one (.p x) => ts x δ
  | _ => none
theorem tgNI_some {i : Nat} {x : It2} {δ δ' : Sl} (e : tgNI i x δ = some δ') : ∃ d, x = .one d ∧ δ' = δ.set i (some d) := by
  unfold tgNI at e
  split at e
  · exact ⟨_, rfl, (Option.some.inj e).symm⟩
  · cases e
theorem tgTI_some {i j : Nat} {x : It2} {δ δ' : Sl} (e : tgTI i j x δ = some δ') : ∃ d f, x = .two d f ∧ δ' = (δ.set i (some d)).set j (some f) := by
  unfold tgTI at e
  split at e
  · exact ⟨_, _, rfl, (Option.some.inj e).symm⟩
  · cases e
theorem vgi_name (i : Nat) {x : Str} {pos : Pos} (hN : X.N.Nodup) (hi : X.N[i]? = some x := by rfl) (hx : Loc X.env.scope x := by first | exact Or.inl rfl | exact Or.inr rfl) (hf : X.fn x = true ∨ X.env.scope.names.lookup x = some .local := by first | exact .inl rfl | exact .inr rfl | assumption) :
    VGI α X (.Name x pos) (tgNI i) :=
  ⟨gName i, pg_name hN hi hx hf, fun G ρ H μ σ δ v x δ' Q z s r e k => by
    obtain ⟨d, rfl, rfl⟩ := tgNI_some e
    exact k _ (s.set r i)⟩
theorem vgi_two (i j : Nat) {x y : Str} {px py pos : Pos} {kk : Nat} (hK : X.K = α.K) (hc : X.calm = true) (hN : X.N.Nodup) (hi : X.N[i]? = some x := by rfl) (hj : X.N[j]? = some y := by rfl) (hx : Loc X.env.scope x := by first | exact Or.inl rfl | exact Or.inr rfl) (hy : Loc X.env.scope y := by first | exact Or.inl rfl | exact Or.inr rfl)
    (hf : X.fn x = true ∨ X.env.scope.names.lookup x = some .local := by first | exact .inl rfl | exact .inr rfl | assumption) (hf2 : X.fn y = true ∨ X.env.scope.names.lookup y = some .local := by first | exact .inl rfl | exact .inr rfl | assumption)
    (hs : (assignEach [.Name x px, .Name y py] X.env).map (·.2) = assign (.Name x px) X.env :: (assignEach [.Name y py] X.env).map (·.2) := by rfl) (hs2 : (assignEach [.Name y py] X.env).map (·.2) = assign (.Name y py) X.env :: (assignEach [] X.env).map (·.2) := by rfl)
    (hn : (assignEach [.Name x px, .Name y py] X.env).length = 2 := by rfl) (hst : (assignEach [.Name x px, .Name y py] X.env).findIdx? (·.1) = none := by rfl) : VGI α X (.Tuple [.Name x px, .Name y py] kk pos) (tgTI i j) := by
  refine ⟨gTup X.K 2 (gCons (gName i) (gCons (gName j) gNil)), pg_tup hc (pgs_cons (pg_name hN hi hx hf) (pgs_cons (pg_name hN hj hy hf2) pgs_nil hs2) hs) hn hst, fun G ρ H μ σ δ v x δ' Q z s r e k => ?_⟩
  obtain ⟨d, e', rfl, rfl⟩ := tgTI_some e
  obtain ⟨a, u, w, rfl, hT, r1, r2⟩ := r
  exact ⟨a, [u, w], rfl, by rw [hK]; exact seqT z.sub hT, rfl, ⟨_, _, rfl, _, _, rfl, rfl, k _ ((s.set r1 i).set r2 j)⟩⟩
/-- a target's store, that touches the slots vs alone -/
def GSemI (α : Amb) (g : TG) (ts : TgtI) (vs : List Nat) : Prop := ∀ G ρ H μ σ δ v x δ' (Q : L2.St → Hp → Prop), Zn α H G ρ μ → Sq α G ρ σ δ → RepI α G ρ v x → ts x δ = some δ' → (∀ σ', Sq α G ρ σ' δ' → wipe σ' vs = wipe σ vs → Q σ' H) → g v σ H Q
theorem gsi_name {i : Nat} {vs : List Nat} (h : i ∈ vs) : GSemI α (gName i) (tgNI i) vs := fun G ρ H μ σ δ v x δ' Q z s r e k => by
  obtain ⟨d, rfl, rfl⟩ := tgNI_some e
  exact k _ (s.set r i) (wipe_set h)
noncomputable def forI (ts : TgtI) (body : SEv) (g : Gd) : List It2 → SEv
  | [], δ, μ => gIf μ g (some (.nx, δ, μ))
  | x :: xs, δ, μ => gIf μ g (match ts x δ with
    | none => none
    | some δ1 => match body δ1 μ with
      | some (.nx, δ2, μ2) => forI ts body g xs δ2 μ2
      | some (.cont, δ2, μ2) => forI ts body g xs δ2 μ2
      | some (.brk, δ2, μ2) => some (.nx, δ2, μ2)
      | r => r)
noncomputable def sForI (it : EvI) (ts : TgtI) (body : SEv) : SEv := fun δ μ => bindS (it δ μ) δ fun xg μ1 => forI ts body xg.2 xg.1 δ μ1
theorem gIf_post {Dn : Ends} {G : Hp} {ρ : List Addr} {μ : Mu} {g : Gd} {r : Option (Fl × Sl × Mu)} (p : SPost α W Dn G ρ (gIf μ g r)) : okG μ g ∧ SPost α W Dn G ρ r := by
  unfold gIf at p
  split at p
  · exact ⟨‹_›, p⟩
  · exact p.elim
theorem v_forI {tg iter : Expr} {body : List Stmt} {ev : EvI} {ts : TgtI} {sb : SEv} {pos : Pos} (hc : X.calm = true) (hp : PassesOwn (model X.prog X.w) X.A X.env X.xe) (hi : VII α W X tg iter ev) (hg : VGI α X tg ts) (hb : PSs X body (tS α W sb))
    (hs : ∀ x, foldedSetIterable iter X.env x = pure x := by intro _; rfl) : PS X (.For tg iter body [] pos) (tS α W (sForI ev ts sb)) := by
  obtain ⟨wi, pi, hi⟩ := hi
  obtain ⟨g, pg, hg⟩ := hg
  refine PS.imp (ps_for hp hc pi pg hb hs) fun Dn σ H ⟨G, ρ, δ, μ, z, s, p⟩ => ?_
  refine hi σ H G ρ δ μ _ z s (SPost.bind p s fun xg μ1 J H1 G1 ρ1 u z1 j1 p1 => ?_)
  obtain ⟨xs, gd⟩ := xg
  dsimp only at p1 j1
  refine ⟨fun i m σ H => m + i = xs.length ∧ ∃ G' ρ' δ' μ', Up G1 ρ1 G' ρ' ∧ Zn α H G' ρ' μ' ∧ Sq α G' ρ' σ δ' ∧ SPost α W Dn G' ρ' (forI ts sb gd (xs.drop i) δ' μ'), ⟨xs.length, by omega, G1, ρ1, δ, μ1, Up.refl, z1, s.up u, by simpa using p1⟩, ?_⟩
  rintro i m σ2 H2 ⟨hm, G2, ρ2, δ2, μ2, u2, z2, s2, p2⟩
  by_cases h : i < xs.length
  · obtain ⟨x, hx⟩ : ∃ x, xs[i]? = some x := ⟨xs[i], List.getElem?_eq_getElem h⟩
    have hd : xs.drop i = x :: xs.drop (i + 1) := by
      rw [List.drop_eq_getElem_cons h]
      rw [List.getElem?_eq_getElem h] at hx
      cases hx; rfl
    rw [hd] at p2
    unfold forI at p2
    obtain ⟨ok, p2⟩ := gIf_post p2
    obtain ⟨jgo, jstop⟩ := j1 i H2 G2 ρ2 μ2 u2 z2 ok
    obtain ⟨go, yl⟩ := jgo x hx
    refine .inr ⟨go, fun σ' H' => ∃ G' ρ' δ' μ', Up G1 ρ1 G' ρ' ∧ Zn α H' G' ρ' μ' ∧ Sq α G' ρ' σ' δ' ∧ SPost α W Dn G' ρ' (forI ts sb gd (xs.drop (i + 1)) δ' μ'), fun σ' H' hN => ⟨m - 1, by omega, by omega, hN⟩, fun v H' y => ?_⟩
    obtain ⟨G3, u3, z3, r3⟩ := yl v H' y
    cases q : ts x δ2 with
    | none => rw [q] at p2; exact p2.elim
    | some δ3 =>
      rw [q] at p2
      refine hg G3 ρ2 H' μ2 σ2 δ2 v x δ3 _ z3 (s2.up u3) r3 q fun σ3 s3 => ⟨G3, ρ2, δ3, μ2, z3, s3, ?_⟩
      have p2 := SPost.up p2 u3
      have u23 := u2.trans u3
      dsimp only at p2
      match q2 : sb δ3 μ2, p2 with
      | some (.nx, δ4, μ4), p2 => exact fun σ' H' G' ρ' u' z' s' => ⟨G', ρ', δ4, μ4, u23.trans u', z', s', SPost.up (r := forI ts sb gd (xs.drop (i + 1)) δ4 μ4) p2 u'⟩
      | some (.cont, δ4, μ4), p2 => exact fun σ' H' G' ρ' u' z' s' => ⟨G', ρ', δ4, μ4, u23.trans u', z', s', SPost.up (r := forI ts sb gd (xs.drop (i + 1)) δ4 μ4) p2 u'⟩
      | some (.brk, δ4, μ4), p2 => exact p2
      | some (.ret d, δ4, μ4), p2 => exact p2
      | some (.exc c, δ4, μ4), p2 => exact p2
  · have hd : xs.drop i = [] := List.drop_eq_nil_of_le (by omega)
    rw [hd] at p2
    unfold forI at p2
    obtain ⟨ok, p2⟩ := gIf_post p2
    obtain ⟨jgo, jstop⟩ := j1 i H2 G2 ρ2 μ2 u2 z2 ok
    exact .inl ⟨jstop (by omega), p2 σ2 H2 G2 ρ2 Up.refl z2 s2⟩
end
end Vs
namespace Vs
open PySem PySem.Spec PyProof.Rows L2
/-- the kept ones come to the list at l, as data -/
noncomputable def lcI (ts : TgtI) (t : EvT) (e : Ev) (g : Gd) (δ0 : Sl) (l : Nat) : List It2 → Mu → Option Mu
  | [], μ => gIf μ g (some μ)
  | x :: xs, μ => gIf μ g (match ts x δ0 with
    | none => none
    | some δ1 => match t δ1 μ with
      | some (.ok true, μ1) => match e δ1 μ1 with
        | some (.ok d, μ2) => match toP μ2 d with
          | some (y, μ3) => match cellL μ3 l with
            | some acc => if acc.length < sizeLine then lcI ts t e g δ0 l xs (μ3.set l (some (.lst (acc ++ [y])))) else none
            | none => none
          | none => none
        | _ => none
      | some (.ok false, μ1) => lcI ts t e g δ0 l xs μ1
      | _ => none)
noncomputable def evLcI (it : EvI) (ts : TgtI) (t : EvT) (e : Ev) (vs : List Nat) : Ev := fun δ μ => bindG (it δ μ) fun xg μ1 => lcEnd μ1.length (lcI ts t e xg.2 (wipeS δ vs) μ1.length xg.1 (μ1 ++ [some (.lst [])]))
section
variable {α : Amb} {W : WX} {X : Cx}
theorem gIf_fin {β : Type} {rep : Hp → List Addr → V → D → Prop} {G : Hp} {ρ : List Addr} {σ : L2.St} {Q : VK} {μ : Mu} {g : Gd} {r : Option β} {fin : Option β → Option (Out D × Mu)} (hnone : fin none = none) (p : Post α W rep G ρ σ Q (fin (gIf μ g r))) : okG μ g ∧ Post α W rep G ρ σ Q (fin r) := by
  unfold gIf at p
  split at p
  · exact ⟨‹_›, p⟩
  · rw [hnone] at p; exact p.elim
theorem lcI_imp {wi : TI} {g : TG} {tt : TT} {te : TE} {vs : List Nat} {it : EvI} {ts : TgtI} {t : EvT} {e : Ev}
    (hi : ∀ σ H G ρ δ μ (R : It → Hp → Prop), Zn α H G ρ μ → Sq α G ρ σ δ → Post α W (fun G' ρ' (J : It) xg => JOkI α J xg.1 xg.2 G' ρ') G ρ σ R (it δ μ) → wi σ H R)
    (hgs : GSemI α g ts vs) (htt : ∀ σ H Q, tVt α W0 t σ H Q → tt σ H Q) (hte : ∀ σ H Q, tV α W0 e σ H Q → te σ H Q)
    {σ : L2.St} {H : Hp} {Q : VK} {G : Hp} {ρ : List Addr} {δ : Sl} {μ : Mu} (z : Zn α H G ρ μ) (s : Sq α G ρ σ δ)
    (p : Post α W (RepD α) G ρ σ Q (evLcI it ts t e vs δ μ)) : tLc wi g tt te vs σ H Q := by
  refine hi σ H G ρ δ μ _ z s (Post.bind p fun xg μ1 J H1 G1 ρ1 u z1 j1 p1 => ?_)
  obtain ⟨xs, gd⟩ := xg
  dsimp only at p1 j1
  intro Dd hD
  have zp := z1.place (m := .lst []) hD ⟨[], rfl, .nil⟩
  refine ⟨fun i m H => m + i = xs.length ∧ ∃ G' ρ' μ', Up G1 (ρ1 ++ [Dd]) G' ρ' ∧ Zn α H G' ρ' μ' ∧ Post α W (RepD α) G1 ρ1 σ Q (lcEnd μ1.length (lcI ts t e gd (wipeS δ vs) μ1.length (xs.drop i) μ')),
    ⟨xs.length, by omega, G1, ρ1 ++ [Dd], _, Up.refl, zp, by simpa using p1⟩, ?_⟩
  rintro i m H2 ⟨hm, G2, ρ2, μ2, u2, z2, p2⟩
  have hDat : (ρ1 ++ [Dd])[μ1.length]? = some Dd := by rw [← z1.len]; simp
  have u12 : Up G1 ρ1 G2 ρ2 := Up.trans up_place u2
  by_cases h : i < xs.length
  · obtain ⟨x, hx⟩ : ∃ x, xs[i]? = some x := ⟨xs[i], List.getElem?_eq_getElem h⟩
    have hd : xs.drop i = x :: xs.drop (i + 1) := by
      rw [List.drop_eq_getElem_cons h]
      rw [List.getElem?_eq_getElem h] at hx
      cases hx; rfl
    rw [hd] at p2
    unfold lcI at p2
    obtain ⟨ok, p2⟩ := gIf_fin (fin := lcEnd μ1.length) rfl p2
    obtain ⟨jgo, jstop⟩ := j1 i H2 G2 ρ2 μ2 u12 z2 ok
    obtain ⟨go, yl⟩ := jgo x hx
    refine .inr ⟨go, fun H' => ∃ G' ρ' μ', Up G1 (ρ1 ++ [Dd]) G' ρ' ∧ Zn α H' G' ρ' μ' ∧ Post α W (RepD α) G1 ρ1 σ Q (lcEnd μ1.length (lcI ts t e gd (wipeS δ vs) μ1.length (xs.drop (i + 1)) μ')), fun H' hN => ⟨m - 1, by omega, by omega, hN⟩, fun v H' y => ?_⟩
    obtain ⟨G3, u3, z3, r3⟩ := yl v H' y
    have s3 : Sq α G3 ρ2 (wipe σ vs) (wipeS δ vs) := sq_wipe (((s.up u).up u12).up u3) vs
    cases q : ts x (wipeS δ vs) with
    | none => rw [q] at p2; exact p2.elim
    | some δ3 =>
      rw [q] at p2
      dsimp only at p2
      refine hgs G3 ρ2 H' μ2 _ _ v x δ3 _ z3 s3 r3 q fun σ3 s4 hw => ⟨hw.trans wipe_idem, htt _ _ _ ⟨G3, ρ2, δ3, μ2, z3, s4, ?_⟩⟩
      have u23 : Up G1 (ρ1 ++ [Dd]) G3 ρ2 := u2.trans u3
      match q2 : t δ3 μ2, p2 with
      | none, p2 => exact p2.elim
      | some (.exc c, μ4), p2 => exact p2.elim
      | some (.ok false, μ4), p2 =>
        intro b H4 G4 ρ4 u4 z4 hb
        subst hb
        exact iteF ⟨G4, ρ4, μ4, u23.trans u4, z4, p2⟩
      | some (.ok true, μ4), p2 =>
        intro b H4 G4 ρ4 u4 z4 hb
        subst hb
        refine iteT (hte _ _ _ ⟨G4, ρ4, δ3, μ4, z4, s4.up u4, ?_⟩)
        dsimp only at p2
        match q3 : e δ3 μ4, p2 with
        | none, p2 => exact p2.elim
        | some (.exc c, μ5), p2 => exact p2.elim
        | some (.ok d, μ5), p2 =>
          intro w H5 G5 ρ5 u5 z5 r5
          dsimp only at p2
          cases q5 : toP μ5 d with
          | none => rw [q5] at p2; exact p2.elim
          | some ym =>
            obtain ⟨y', μ6⟩ := ym
            rw [q5] at p2
            dsimp only at p2
            obtain ⟨G6, u6, z6, r6⟩ := toP_ok z5 r5 q5
            have uu : Up G1 (ρ1 ++ [Dd]) G6 ρ5 := ((u23.trans u4).trans u5).trans u6
            cases q6 : cellL μ6 μ1.length with
            | none => rw [q6] at p2; exact p2.elim
            | some acc =>
              rw [q6] at p2
              dsimp only at p2
              split at p2
              · rename_i hl
                have hDD := uu.get hDat
                obtain ⟨vacc, h1, h2⟩ := cell_at z6 q6 hDD
                exact ⟨vacc, h1, by rw [h2.length]; exact hl, G6, ρ5, _, uu, z6.write (cellL_some q6) hDD (m' := .lst (acc ++ [y'])) ⟨_, rfl, h2.append (.cons r6 .nil)⟩, p2⟩
              · exact p2.elim
  · have hd : xs.drop i = [] := List.drop_eq_nil_of_le (by omega)
    rw [hd] at p2
    unfold lcI at p2
    obtain ⟨ok, p2⟩ := gIf_fin (fin := lcEnd μ1.length) rfl p2
    obtain ⟨jgo, jstop⟩ := j1 i H2 G2 ρ2 μ2 u12 z2 ok
    exact .inl ⟨jstop (by omega), fin_lc u2 z2 z1.len.symm p2⟩
section
variable {elt tg iter : Expr} {ifs : List Expr} {scope : Scope} {own : List (Str × Nat)} {pos : Pos} {g : TG} {it : EvI} {ts : TgtI} {t : EvT} {e : Ev}
theorem v_lcI (hc : X.calm = true) (hN : X.N.Nodup) (hi : VII α W X tg iter it) (ok : BlkOk X.N X.env.scope scope own) (hgs : GSemI α g ts (own.map (·.2)))
    (hg : ∀ (s : Shared) (H : Hp) (C : Addr) (cl : List (Str × Addr)) (fp : List Addr), PG (X.blk s H scope (compEnvC scope cl C X.env) fp) tg g) (ht : ∀ (s : Shared) (H : Hp) (C : Addr) (cl : List (Str × Addr)) (fp : List Addr), PTs (X.blk s H scope (compEnvC scope cl C X.env) fp) ifs (tVt α W0 t))
    (he : ∀ (s : Shared) (H : Hp) (C : Addr) (cl : List (Str × Addr)) (fp : List Addr), PE (X.blk s H scope (compEnvC scope cl C X.env) fp) elt (tV α W0 e)) (hs : ∀ x, foldedSetIterable iter X.env x = pure x := by intro _; rfl) :
    PE X (.ListComp elt [⟨tg, iter, ifs, 0⟩] scope pos) (tV α W (evLcI it ts t e (own.map (·.2)))) := by
  obtain ⟨wi, pi, hi⟩ := hi
  exact PE.imp (pe_lc hc hN pi ok hg ht he hs) fun σ H Q ⟨G, ρ, δ, μ, z, s, p⟩ => lcI_imp hi hgs (fun _ _ _ h => h) (fun _ _ _ h => h) z s p
end
theorem reds_at {G : Hp} {ρ : List Addr} {vs : List V} {ds : List D} {i : Int} {d : D} (r : RepDs α G ρ vs ds) (h : atI ds i = some d) : ∃ v, atI vs i = some v ∧ RepD α G ρ v d := by
  unfold atI at h ⊢
  rw [r.length]
  cases q : ixN ds.length i with
  | none => rw [q] at h; cases h
  | some j =>
    rw [q] at h
    obtain ⟨v, h1, h2⟩ := r.get (show ds[j]? = some d from h)
    exact ⟨v, h1, h2⟩
def fIxD : F2 := fun x y μ => match items μ x, y with
  | some (_, ds, _), .p (.int i) => (atI ds i).map fun d => (d, μ)
  | _, _ => none
theorem o_ixD (hK : X.K = α.K) : IxR X (r2V α fIxD) := IxR.imp ix_seq fun x y H Q h => by
  obtain ⟨G, ρ, μ, dx, dy, z, rx, ry, q⟩ := h
  unfold fIxD at q
  rw [hK]
  split at q
  · rename_i b ds g i hv
    cases hi : atI ds i with
    | none => rw [hi] at q; exact q.elim
    | some d =>
      rw [hi] at q
      obtain ⟨a, rfl, ok, hs⟩ := items_ok z rx hv
      obtain ⟨vs, hv2, r⟩ := hs H G ρ μ Up.refl z ok
      obtain ⟨u, h3, h4⟩ := reds_at r hi
      cases b with
      | true => exact .inr (.inl ⟨a, vs, i, u, rfl, repInt ry, hv2, h3, q u H G ρ Up.refl z h4⟩)
      | false => exact .inl ⟨a, vs, i, u, rfl, repInt ry, hv2, h3, q u H G ρ Up.refl z h4⟩
  · exact q.elim
def fLenD : FA := fun ds μ => match ds with
  | [d] => match items μ d with
    | some (_, es, _) => some (.p (.int es.length), μ)
    | none => none
  | _ => none
theorem c_lenD (hK : X.K = α.K) : CallR X (.builtin "len") (rCV α fLenD) := CallR.imp (call_len_seq.or call_len_str) fun vs H Q ⟨G, ρ, μ, ds, z, r, q⟩ => by
  unfold fLenD at q
  rw [hK]
  split at q
  · rename_i d
    obtain ⟨v, rfl, r1⟩ := rds1 r
    split at q
    · rename_i b es g hv
      obtain ⟨a, rfl, ok, hs⟩ := items_ok z r1 hv
      obtain ⟨ws, h1, h2⟩ := hs H G ρ μ Up.refl z ok
      cases b with
      | true => exact .inl ⟨a, ws, rfl, .inr h1, by rw [h2.length]; exact q _ H G ρ Up.refl z (.int _)⟩
      | false => exact .inl ⟨a, ws, rfl, .inl h1, by rw [h2.length]; exact q _ H G ρ Up.refl z (.int _)⟩
    · exact q.elim
  · exact q.elim
/-- the kind that isinstance sees: a place with a list is one -/
def kindD (μ : Mu) : D → Option P
  | .p x => some x
  | .loc l => match μ[l]? with
    | some (some (.lst _)) => some (.lst [])
    | some (some (.dl _)) => some (.lst [])
    | _ => none
def evIsiD (t : P → Option Bool) (a : Ev) : Ev := fun δ μ => bindG (a δ μ) fun d μ1 => isiVEnd t μ1 (kindD μ1 d)
theorem tyx_kind {H G : Hp} {ρ : List Addr} {μ : Mu} {v : V} {d : D} {x : P} (z : Zn α H G ρ μ) (r : RepD α G ρ v d) (e : kindD μ d = some x) (O : ∀ c xs, x = .obj c xs → InsOwn α.K (α.cl c)) : TyX α.K H v (tyP α x) := by
  cases d with
  | p y => cases e; exact tyx_of z r O
  | loc l =>
    obtain ⟨a, rfl, ha⟩ := r
    unfold kindD at e
    dsimp only at e
    split at e
    · rename_i xs hx
      cases e
      obtain ⟨a', h1, h2, vs, h3, h4⟩ := z.cell l _ hx
      rw [ha] at h1; cases h1
      exact .base (.lst h3)
    · rename_i xs hx
      cases e
      obtain ⟨a', h1, h2, vs, h3, h4⟩ := z.cell l _ hx
      rw [ha] at h1; cases h1
      exact .base (.lst h3)
    · cases e
theorem v_isiD {t : P → Option Bool} {e ce : Expr} {ev : Ev} {cv : V} {cu : Value} {p pos : Pos} (hK : X.K = α.K) (hm : X.mg "isinstance" = none) (hv : bootBuiltins "isinstance" = some (.builtin "isinstance")) (ha : PE X e (tV α W ev)) (hc : PE X ce (tC cv)) (hcv : ClsV cv cu)
    (ht : ∀ x b, t x = some b → PySem.W.kitOne α.K (tyP α x) cu = some b ∧ ∀ c xs, x = .obj c xs → InsOwn α.K (α.cl c)) (hg : Gl X "isinstance" := by rfl)
    (hs : starEach [e, ce] X.env = (false, eval e X.env) :: starEach [ce] X.env := by rfl) (hs2 : starEach [ce] X.env = (false, eval ce X.env) :: starEach [] X.env := by rfl) (hpl : (backTo pos (starEach [ce] X.env)).any (·.1) = false := by rfl) :
    PE X (.Call (.Name "isinstance" p) [e, ce] [] pos) (tV α W (evIsiD t ev)) :=
  PE.imp (pe_callB call_isi hg hm hv (pa_cons ha (pa_cons hc pa_nil hs2) hs) (by decide) (by decide) hs hpl) fun σ H Q ⟨G, ρ, δ, μ, z, s, p⟩ => ⟨G, ρ, δ, μ, z, s, Post.bind p fun d μ1 v H1 G1 ρ1 u z1 r1 p1 => by
    cases q0 : kindD μ1 d with
    | none => rw [q0] at p1; exact p1.elim
    | some x =>
      cases q : t x with
      | none => rw [q0] at p1; unfold isiVEnd at p1; dsimp only at p1; rw [q] at p1; exact p1.elim
      | some b =>
        rw [q0] at p1
        unfold isiVEnd at p1
        dsimp only at p1
        rw [q] at p1
        obtain ⟨h1, h2⟩ := ht x b q
        exact ⟨v, cv, tyP α x, cu, b, rfl, hcv, by rw [hK]; exact tyx_kind z1 r1 q0 h2, by rw [hK]; exact h1, p1 _ H1 G1 ρ1 Up.refl z1 (.bl _)⟩⟩
def isDl (μ : Mu) : D → Bool
  | .loc l => match μ[l]? with
    | some (some (.dl _)) => true
    | _ => false
  | _ => false
theorem ty_dl {H G : Hp} {ρ : List Addr} {μ : Mu} {v : V} {d : D} (z : Zn α H G ρ μ) (r : RepD α G ρ v d) (h : isDl μ d = true) : tyV X.K "list" v H := by
  unfold isDl at h
  split at h
  · rename_i l
    split at h
    · rename_i ds hm
      obtain ⟨a, rfl, ha⟩ := r
      obtain ⟨a', h1, h2, vs, h3, h4⟩ := z.cell l _ hm
      rw [ha] at h1; cases h1
      exact .inl ⟨rfl, vs, SqL.of h3⟩
    · cases h
  · cases h
/-- data, to the end of a list of places -/
def fAppD : FM := fun x ds μ => match x, ds with
  | .loc l, [d] => match toP μ d with
    | some (y, μ1) => match μ1[l]? with
      | some (some (.dl es)) => if es.length < sizeLine then some (.p .non, μ1.set l (some (.dl (es ++ [.p y])))) else none
      | _ => none
    | none => none
  | _, _ => none
theorem m_appendD : MtR X "list.append" (rMV α fAppD) := MtR.imp mt_append fun x vs H Q ⟨G, ρ, μ, d, ds, z, r, rs, q⟩ => by
  unfold fAppD at q
  split at q
  · rename_i l d'
    obtain ⟨v, rfl, rs1⟩ := rds1 rs
    cases h1 : toP μ d' with
    | none => rw [h1] at q; exact q.elim
    | some ym =>
      obtain ⟨y, μ1⟩ := ym
      rw [h1] at q
      dsimp only at q
      obtain ⟨G1, u1, z1, r1⟩ := toP_ok z rs1 h1
      split at q
      · rename_i es h2
        split at q
        · rename_i hl
          obtain ⟨a, rfl, ha⟩ := r
          obtain ⟨a', g0, g1, ws, g2, g3, g4⟩ := z1.cell l _ h2
          rw [ha] at g0; cases g0
          exact ⟨a, ws, v, rfl, rfl, g2, by rw [g3.length]; exact hl, q _ _ G1 ρ u1 (z1.write h2 ha (m' := .dl (es ++ [.p y])) ⟨_, rfl, g3.append (.cons (show RepD α G1 ρ v (.p y) from r1) .nil), g4.app fun k hk => by simp at hk⟩) .non⟩
        · exact q.elim
      · exact q.elim
  · exact q.elim
noncomputable def frzD (μ : Mu) : D → Option (P × Mu)
  | .p x => some (x, μ)
  | .loc l => match μ[l]? with
    | some (some (.lst xs)) => some (.lst xs, μ.set l none)
    | some (some (.dl ds)) => match toPs μ ds with
      | some (xs, μ1) => gIf μ1 (some (l, .dl ds)) (some (.lst xs, μ1.set l none))
      | none => none
    | _ => none
theorem frzD_ok {H G : Hp} {ρ : List Addr} {μ μ' : Mu} (z : Zn α H G ρ μ) {v : V} {d : D} {x : P} (r : RepD α G ρ v d) (e : frzD μ d = some (x, μ')) : ∃ G', Up G ρ G' ρ ∧ Zn α H G' ρ μ' ∧ Rep α G' v x := by
  cases d with
  | p y => cases e; exact ⟨G, Up.refl, z, r⟩
  | loc l =>
    obtain ⟨a, rfl, ha⟩ := r
    unfold frzD at e
    dsimp only at e
    split at e
    · rename_i xs hx
      cases e
      obtain ⟨a', h1, h2, vs, h3, h4⟩ := z.cell l _ hx
      rw [ha] at h1; cases h1
      obtain ⟨z', g⟩ := z.freeze hx ha h3
      exact ⟨upd G a (.lst vs), up_new g, z', .lst upd_same (h4.mono (same_upd g))⟩
    · rename_i ds hx
      split at e
      · rename_i xs μ1 h1
        obtain ⟨ok, e⟩ := gIf_some e
        cases e
        obtain ⟨a1, g1, g2, vs, g3, g4, g5⟩ := z.cell l _ hx
        rw [ha] at g1; cases g1
        obtain ⟨G1, u1, z1, r1⟩ := toPs_ok z g4 h1
        obtain ⟨z2, g⟩ := z1.freeze (show μ1[l]? = some (some (.dl ds)) from ok) ha g3
        exact ⟨upd G1 _ (.lst vs), u1.trans (up_new g), z2, .lst upd_same (r1.mono (same_upd g))⟩
      · cases e
    · cases e
noncomputable def frzEnd : Option (P × Mu) → Option (Out D × Mu)
  | some (x, μ) => some (.ok (.p x), μ)
  | none => none
noncomputable def evFrz (e : Ev) : Ev := fun δ μ => bindG (e δ μ) fun d μ1 => frzEnd (frzD μ1 d)
theorem reps_flatD {G : Hp} {vs : List V} {xs : List P} (r : Reps α G vs xs) : ∀ n : Nat, Reps α G (List.replicate n vs).flatten (List.replicate n xs).flatten
  | 0 => .nil
  | n + 1 => by
    rw [List.replicate_succ, List.replicate_succ, List.flatten_cons, List.flatten_cons]
    exact r.append (reps_flatD r n)
def retK : Option (Fl × Sl × Mu) → Option (Out D × Mu)
  | some (.ret d, _, μ) => some (.ok d, μ)
  | some (.nx, _, μ) => some (.ok (.p .non), μ)
  | some (.exc c, _, μ) => some (.exc c, μ)
  | _ => none
def bodySemK (N : Nat) (sv : SEv) : FSem := fun ds μ => retK (bodyS N sv ds μ)
theorem retK_ok {E : XK} {Q : VK} {G : Hp} {ρ : List Addr} {r : Option (Fl × Sl × Mu)} (h : Post α (WF E) (RepD α) G ρ [] Q (retK r)) : SPost α (WF E) { nx := fun _ H' => Q .non H', rt := Q } G ρ r := by
  match r, h with
  | some (.ret d, δ, μ), h => exact h
  | some (.nx, δ, μ), h => exact fun σ' H' G' ρ' u z s => h .non H' G' ρ' u z .non
  | some (.exc c, δ, μ), h => exact fun σ' H' G' ρ' u z s => h H' G' ρ' u z
section
variable {P : Program} {w : World} {K : PySem.W.Frag} {mg : Str → Option Value} {base : Heap}
theorem fnVK {x qual : Str} {st : Stmt} {f : Addr} {fd : FuncData} {N ps : List Str} {k : Nat} {sv : SEv} (F : Fun K x qual st f fd) (S : FnScope N ps (defScope st))
    (hb : ∀ (cdv : Value) (A : Around) (outer : List Env) (s : Shared) (H : Hp) (E : XK), Room k (A.deeper (envOfC qual (defScope st) s.heap.objs.size f cdv)) →
      Takes (cxF P w K mg base N qual st f cdv A outer s H E) (WF E) → PassesOwn (model P w) (cxF P w K mg base N qual st f cdv A outer s H E).A (cxF P w K mg base N qual st f cdv A outer s H E).env (cxF P w K mg base N qual st f cdv A outer s H E).xe →
      PSs (cxF P w K mg base N qual st f cdv A outer s H E) (defBody st) (tS α (WF E) sv)) :
    FnOk P w K mg base (L2.CX P w) (k + 1) f fd ps (spF α ps.length (bodySemK N.length sv)) :=
  fnG F S (fun E Q G ρ H ds μ z p => retK_ok p) hb
end
end
end Vs
namespace Vs
open PySem PySem.Spec PyProof.Rows L2
/-- an object of the class Ratio; a pair of the law -/
def rat (q : Rat) : P := .obj 0 [.int q.num, .int (q.den : Int)]
def pr (q : Rat) : P := .tup [.int q.num, .int (q.den : Int)]
/-- the lowest terms of n / d, as they are worked out -/
def qn (n d : Int) : Int × Int := if d < 0 then (n.fdiv (-(Nat.gcd n.natAbs d.natAbs : Int)), d.fdiv (-(Nat.gcd n.natAbs d.natAbs : Int))) else (n.fdiv (Nat.gcd n.natAbs d.natAbs : Int), d.fdiv (Nat.gcd n.natAbs d.natAbs : Int))
theorem gcd_ne {n d : Int} (h : d ≠ 0) : (Nat.gcd n.natAbs d.natAbs : Int) ≠ 0 := by
  have : 0 < Nat.gcd n.natAbs d.natAbs := Nat.gcd_pos_of_pos_right _ (Int.natAbs_pos.mpr h)
  omega
theorem fdiv_exact {a g k : Int} (hg : g ≠ 0) (h : a = g * k) : a.fdiv g = k := by
  subst h
  rw [Int.mul_comm]
  exact Int.mul_fdiv_cancel k hg
theorem qn_eq {n d : Int} (h : d ≠ 0) : qn n d = ((Rat.divInt n d).num, ((Rat.divInt n d).den : Int)) := by
  have g0 := gcd_ne (n := n) h
  obtain ⟨a, ha⟩ : (Nat.gcd n.natAbs d.natAbs : Int) ∣ n := Int.ofNat_dvd_left.mpr (Nat.gcd_dvd_left _ _)
  obtain ⟨b, hb⟩ : (Nat.gcd n.natAbs d.natAbs : Int) ∣ d := Int.ofNat_dvd_left.mpr (Nat.gcd_dvd_right _ _)
  have gg : d.gcd n = Nat.gcd n.natAbs d.natAbs := by
    show Nat.gcd d.natAbs n.natAbs = _
    exact Nat.gcd_comm _ _
  have gpos : (0 : Int) < (Nat.gcd n.natAbs d.natAbs : Int) := by omega
  generalize hg : (Nat.gcd n.natAbs d.natAbs : Int) = g at *
  have den : ((Rat.divInt n d).den : Int) = d.natAbs / g := by
    rw [Rat.den_divInt, if_neg h, gg, Int.natCast_ediv, hg]
  rw [Prod.ext_iff]
  unfold qn
  rw [hg]
  by_cases hd : d < 0
  · rw [if_pos hd]
    refine ⟨?_, ?_⟩
    · show n.fdiv (-g) = (Rat.divInt n d).num
      rw [fdiv_exact (g := -g) (k := -a) (by omega) (by rw [Int.neg_mul_neg]; exact ha), Rat.num_divInt, gg, hg, Int.sign_eq_neg_one_of_neg hd]
      have e : (-1 : Int) * n = g * (-a) := by rw [Int.mul_neg, ← ha]; omega
      rw [e, Int.mul_ediv_cancel_left _ g0]
    · show d.fdiv (-g) = ((Rat.divInt n d).den : Int)
      rw [fdiv_exact (g := -g) (k := -b) (by omega) (by rw [Int.neg_mul_neg]; exact hb), den]
      have e : (d.natAbs : Int) = g * (-b) := by rw [Int.mul_neg, ← hb]; omega
      rw [e, Int.mul_ediv_cancel_left _ g0]
  · rw [if_neg hd]
    refine ⟨?_, ?_⟩
    · show n.fdiv g = (Rat.divInt n d).num
      rw [fdiv_exact g0 ha, Rat.num_divInt, gg, hg, Int.sign_eq_one_of_pos (by omega)]
      have e : (1 : Int) * n = g * a := by rw [← ha]; omega
      rw [e, Int.mul_ediv_cancel_left _ g0]
    · show d.fdiv g = ((Rat.divInt n d).den : Int)
      rw [fdiv_exact g0 hb, den]
      have e : (d.natAbs : Int) = g * b := by rw [← hb]; omega
      rw [e, Int.mul_ediv_cancel_left _ g0]
/-- less than 2 ^ k -/
def Sz (k : Nat) (n : Int) : Prop := n.natAbs < 2 ^ k
theorem Sz.mono {j k : Nat} {n : Int} (h : Sz j n) (e : j ≤ k) : Sz k n := Nat.lt_of_lt_of_le h (Nat.pow_le_pow_right (by decide) e)
theorem Sz.mul {j k : Nat} {a b : Int} (h : Sz j a) (h2 : Sz k b) : Sz (j + k) (a * b) := by
  unfold Sz at *
  rw [Int.natAbs_mul, Nat.pow_add]
  exact Nat.mul_lt_mul'' h h2
theorem Sz.add {j k : Nat} {a b : Int} (h : Sz j a) (h2 : Sz k b) : Sz (max j k + 1) (a + b) := by
  have h := h.mono (Nat.le_max_left j k)
  have h2 := h2.mono (Nat.le_max_right j k)
  unfold Sz at *
  rw [Nat.pow_succ]
  omega
theorem Sz.sub {j k : Nat} {a b : Int} (h : Sz j a) (h2 : Sz k b) : Sz (max j k + 1) (a - b) := by
  have h := h.mono (Nat.le_max_left j k)
  have h2 := h2.mono (Nat.le_max_right j k)
  unfold Sz at *
  rw [Nat.pow_succ]
  omega
theorem Sz.neg {j : Nat} {a : Int} (h : Sz j a) : Sz j (-a) := by unfold Sz at *; omega
theorem Sz.log {k : Nat} {n : Int} (h : Sz k n) (hk : 0 < k) : n.natAbs.log2 < k := PySem.Flt.log2_lt_of hk h
theorem mulOk_of {j k : Nat} {a b : Int} (h : Sz j a) (h2 : Sz k b) (hj : 0 < j) (hk : 0 < k) (e : j + k ≤ 1000000) : mulOk a b = true := by
  have := h.log hj
  have := h2.log hk
  exact decide_eq_true (by omega)
theorem divOk_of {i j : Int} (h : j ≠ 0) (h2 : j.natAbs.log2 < 9000) : divOk i j = true := by
  unfold divOk
  rw [Bool.and_eq_true]
  exact ⟨decide_eq_true h, decide_eq_true h2⟩
theorem gcd_sz {k : Nat} {n d : Int} (h : Sz k d) (h0 : d ≠ 0) : Nat.gcd n.natAbs d.natAbs < 2 ^ k :=
  Nat.lt_of_le_of_lt (Nat.le_of_dvd (Int.natAbs_pos.mpr h0) (Nat.gcd_dvd_right _ _)) h
theorem num_sz {k : Nat} {n d : Int} (h : Sz k n) : Sz k (Rat.divInt n d).num := by
  unfold Sz at *
  rw [Rat.num_divInt]
  refine Nat.lt_of_le_of_lt ?_ h
  refine Nat.le_trans (Int.natAbs_ediv_le_natAbs _ _) ?_
  rw [Int.natAbs_mul]
  have : d.sign.natAbs ≤ 1 := by
    rcases Int.lt_trichotomy d 0 with h | h | h
    · rw [Int.sign_eq_neg_one_of_neg h]; decide
    · subst h; decide
    · rw [Int.sign_eq_one_of_pos h]; decide
  calc d.sign.natAbs * n.natAbs ≤ 1 * n.natAbs := Nat.mul_le_mul_right _ this
    _ = n.natAbs := Nat.one_mul _
theorem den_sz {k : Nat} {n d : Int} (h : Sz k d) (h0 : d ≠ 0) : Sz k ((Rat.divInt n d).den : Int) := by
  unfold Sz at *
  rw [Rat.den_divInt, if_neg h0]
  refine Nat.lt_of_le_of_lt ?_ h
  exact Nat.div_le_self _ _
def eu : Nat → Nat → Nat → Nat
  | 0, a, _ => a
  | k + 1, a, b => if b = 0 then a else eu k b (a % b)
theorem eu_gcd : ∀ (m k a b : Nat), b < 2 ^ m → 2 * m ≤ k → eu k a b = Nat.gcd a b
  | 0, k, a, b, h, _ => by
    have hb : b = 0 := by simpa using h
    subst hb
    cases k with
    | zero => simp [eu]
    | succ k => simp [eu]
  | m + 1, k, a, b, h, hk => by
    obtain ⟨k, rfl⟩ : ∃ j, k = j + 2 := ⟨k - 2, by omega⟩
    by_cases hb : b = 0
    · subst hb; simp [eu]
    · have e1 : eu (k + 2) a b = eu (k + 1) b (a % b) := by simp [eu, hb]
      rw [e1]
      by_cases hr : a % b = 0
      · have e2 : eu (k + 1) b (a % b) = b := by simp [eu, hr]
        rw [e2, Nat.gcd_comm, Nat.gcd_rec, hr]; simp
      · have e2 : eu (k + 1) b (a % b) = eu k (a % b) (b % (a % b)) := by simp [eu, hr]
        rw [e2]
        have h1 : a % b < b := Nat.mod_lt _ (by omega)
        have h2 : b % (a % b) < a % b := Nat.mod_lt _ (by omega)
        have h3 : b % (a % b) + (a % b) ≤ b := by
          have := Nat.mod_add_div b (a % b)
          have hq : 1 ≤ b / (a % b) := (Nat.le_div_iff_mul_le (by omega)).mpr (by omega)
          have : a % b * 1 ≤ a % b * (b / (a % b)) := Nat.mul_le_mul_left _ hq
          omega
        rw [eu_gcd m k _ _ (by rw [Nat.pow_succ] at h; omega) (by omega)]
        rw [Nat.gcd_comm (a % b) (b % (a % b)), ← Nat.gcd_rec (a % b) b, ← Nat.gcd_rec b a, Nat.gcd_comm b a]
end Vs
namespace Vs
open PySem PySem.Spec PyProof.Rows L2
/-- the classes by number: 0 Ratio, 1 ByZero -/
def amb (K : PySem.W.Frag) (cs : List Addr) : Amb := ⟨K, fun i => cs.getD i 0, fun i => if i = 0 then ["top", "bottom"] else []⟩
structure Tx (K : PySem.W.Frag) (mg : Str → Option Value) (cs : List Addr) : Prop where
  own0 : Own (amb K cs) 0
  c0 : mg "Ratio" = some (.ref ((amb K cs).cl 0))
  sf0 : PySem.W.selfFirst K ((amb K cs).cl 0) = true
  nf0 : ∀ T ∈ eqTys, PySem.W.notFirst K ((amb K cs).cl 0) (.type T) = true
  ne0 : NeOwn K ((amb K cs).cl 0)
  isi0 : IsiO K (amb K cs) 0
  isib_bool : ∀ c, c < 1 → PySem.W.kitOne K (.ref ((amb K cs).cl c)) (.type "bool") = some false ∧ InsOwn K ((amb K cs).cl c)
  isib_list : ∀ c, c < 1 → PySem.W.kitOne K (.ref ((amb K cs).cl c)) (.type "list") = some false ∧ InsOwn K ((amb K cs).cl c)
  isib_tuple : ∀ c, c < 1 → PySem.W.kitOne K (.ref ((amb K cs).cl c)) (.type "tuple") = some false ∧ InsOwn K ((amb K cs).cl c)
  isib_int : ∀ c, c < 1 → PySem.W.kitOne K (.ref ((amb K cs).cl c)) (.type "int") = some false ∧ InsOwn K ((amb K cs).cl c)
  x1 : PySem.W.excIn K ((amb K cs).cl 1) [.type "ValueError", .type "Exception", .type "BaseException", .type "object"] "ValueError.__new__" = true
  g1 : mg "ByZero" = some (.ref ((amb K cs).cl 1))
  k1 : PySem.W.keepIn K (.ref ((amb K cs).cl 1)) = true
  p1 : PySem.W.subIn K (.ref ((amb K cs).cl 1)) (.type "BaseException") = some true
  t1 : PySem.W.typeIn K (.ref ((amb K cs).cl 1)) = some (.type "type")
  b_gcd : mg "gcd" = some (.builtin "math.gcd")
  b_abs : mg "abs" = none
  b_len : mg "len" = none
  b_int : mg "int" = none
  b_list : mg "list" = none
  b_tuple : mg "tuple" = none
  b_bool : mg "bool" = none
  b_isinstance : mg "isinstance" = none
  b_range : mg "range" = none
noncomputable def sv_Ratiou_initu : SEv := (seqS (sIf (evB (evBin fEq (evV 2) (evC (.int 0)))) (sRaise 1) sNil) (seqS (sSet 3 (evBI fGcd (evCons (evV 1) (evCons (evV 2) evNil)))) (seqS (sIf (evB (evBin fLt (evV 2) (evC (.int 0)))) (sSet 3 (evUn fNeg (evV 3))) sNil) (seqS (sFldS 0 0 (evV 0) (evBin fDiv (evV 1) (evV 3))) (sFldS 0 1 (evV 0) (evBin fDiv (evV 2) (evV 3)))))))
noncomputable def m_Ratiou_initu : FSem := arF 3 (bodySem 4 sv_Ratiou_initu)
theorem ar_Ratiou_initu : Arity m_Ratiou_initu 3 := arF_ar
theorem le_Ratiou_initu : ∀ ds μ r, m_Ratiou_initu ds μ = some r → bodySem 4 sv_Ratiou_initu ds μ = some r := arF_le
noncomputable def sv_Ratiou_addu : SEv := (sRet (evMake 0 2 m_Ratiou_initu [] (evCons (evBin fAdd (evBin fMul (evUn (fFld 0 0) (evV 0)) (evUn (fFld 0 1) (evV 1))) (evBin fMul (evUn (fFld 0 0) (evV 1)) (evUn (fFld 0 1) (evV 0)))) (evCons (evBin fMul (evUn (fFld 0 1) (evV 0)) (evUn (fFld 0 1) (evV 1))) evNil))))
noncomputable def m_Ratiou_addu : FSem := arF 2 (bodySem 2 sv_Ratiou_addu)
theorem ar_Ratiou_addu : Arity m_Ratiou_addu 2 := arF_ar
theorem le_Ratiou_addu : ∀ ds μ r, m_Ratiou_addu ds μ = some r → bodySem 2 sv_Ratiou_addu ds μ = some r := arF_le
noncomputable def sv_Ratiou_subu : SEv := (sRet (evMake 0 2 m_Ratiou_initu [] (evCons (evBin fSub (evBin fMul (evUn (fFld 0 0) (evV 0)) (evUn (fFld 0 1) (evV 1))) (evBin fMul (evUn (fFld 0 0) (evV 1)) (evUn (fFld 0 1) (evV 0)))) (evCons (evBin fMul (evUn (fFld 0 1) (evV 0)) (evUn (fFld 0 1) (evV 1))) evNil))))
noncomputable def m_Ratiou_subu : FSem := arF 2 (bodySem 2 sv_Ratiou_subu)
theorem ar_Ratiou_subu : Arity m_Ratiou_subu 2 := arF_ar
theorem le_Ratiou_subu : ∀ ds μ r, m_Ratiou_subu ds μ = some r → bodySem 2 sv_Ratiou_subu ds μ = some r := arF_le
noncomputable def sv_Ratiou_mulu : SEv := (sRet (evMake 0 2 m_Ratiou_initu [] (evCons (evBin fMul (evUn (fFld 0 0) (evV 0)) (evUn (fFld 0 0) (evV 1))) (evCons (evBin fMul (evUn (fFld 0 1) (evV 0)) (evUn (fFld 0 1) (evV 1))) evNil))))
noncomputable def m_Ratiou_mulu : FSem := arF 2 (bodySem 2 sv_Ratiou_mulu)
theorem ar_Ratiou_mulu : Arity m_Ratiou_mulu 2 := arF_ar
theorem le_Ratiou_mulu : ∀ ds μ r, m_Ratiou_mulu ds μ = some r → bodySem 2 sv_Ratiou_mulu ds μ = some r := arF_le
noncomputable def sv_Ratiou_negu : SEv := (sRet (evMake 0 2 m_Ratiou_initu [] (evCons (evUn fNeg (evUn (fFld 0 0) (evV 0))) (evCons (evUn (fFld 0 1) (evV 0)) evNil))))
noncomputable def m_Ratiou_negu : FSem := arF 1 (bodySem 1 sv_Ratiou_negu)
theorem ar_Ratiou_negu : Arity m_Ratiou_negu 1 := arF_ar
theorem le_Ratiou_negu : ∀ ds μ r, m_Ratiou_negu ds μ = some r → bodySem 1 sv_Ratiou_negu ds μ = some r := arF_le
noncomputable def sv_Ratiou_equ : SEv := (sRet (evAnd (evIsiV (isiO 0) (evV 1)) (evAnd (evBin fEq (evUn (fFld 0 0) (evV 0)) (evUn (fFld 0 0) (evV 1))) (evBin fEq (evUn (fFld 0 1) (evV 0)) (evUn (fFld 0 1) (evV 1))))))
noncomputable def m_Ratiou_equ : FSem := arF 2 (bodySem 2 sv_Ratiou_equ)
theorem ar_Ratiou_equ : Arity m_Ratiou_equ 2 := arF_ar
theorem le_Ratiou_equ : ∀ ds μ r, m_Ratiou_equ ds μ = some r → bodySem 2 sv_Ratiou_equ ds μ = some r := arF_le
noncomputable def sv__law_stream : SEv := (seqS (sSet 1 (evC (.int 17))) (seqS (sFor (evIt (evV 0)) (tgN 2) (sSet 1 (evBin fMod (evBI fInt (evCons (evBin fAdd (evBin fAdd (evBin fMul (evV 1) (evC (.int 48271))) (evBin fMod (evBI fInt (evCons (evV 2) evNil)) (evC (.int 65521)))) (evC (.int 1))) evNil)) (evC (.int 2147483647))))) (sRet (evLstC (evCons (evBI fList (evCons (evV 0) evNil)) (evCons (evC (.int 0)) (evCons (evC (.int 0)) (evCons (evV 1) evNil))))))))
noncomputable def m__law_stream : FSem := arF 1 (bodySemC 3 sv__law_stream)
theorem ar__law_stream : Arity m__law_stream 1 := arF_ar
theorem le__law_stream : ∀ ds μ r, m__law_stream ds μ = some r → bodySemC 3 sv__law_stream ds μ = some r := arF_le
noncomputable def sv__law_draw : SEv := (seqS (sIf (tAndV' (evB (evBin fEq (evBin fIx (evV 0) (evC (.int 1))) (evC (.int 0)))) (evB (evBin fLt (evBin fIx (evV 0) (evC (.int 2))) (evBI fLen (evCons (evBin fIx (evV 0) (evC (.int 0))) evNil))))) (seqS (sSetIx (evV 0) (evC (.int 1)) (evBI fAbs (evCons (evBI fInt (evCons (evBin fIx (evBin fIx (evV 0) (evC (.int 0))) (evBin fIx (evV 0) (evC (.int 2)))) evNil)) evNil))) (sSetIx (evV 0) (evC (.int 2)) (evBin fAdd (evBin fIx (evV 0) (evC (.int 2))) (evC (.int 1))))) sNil) (seqS (sIf (evB (evBin fEq (evBin fIx (evV 0) (evC (.int 1))) (evC (.int 0)))) (seqS (sSetIx (evV 0) (evC (.int 3)) (evBin fMod (evBI fInt (evCons (evBin fAdd (evBin fMul (evBin fIx (evV 0) (evC (.int 3))) (evC (.int 48271))) (evC (.int 11))) evNil)) (evC (.int 2147483647)))) (sRet (evBin fMod (evBI fInt (evCons (evBin fDiv (evBin fIx (evV 0) (evC (.int 3))) (evC (.int 97))) evNil)) (evV 1)))) sNil) (seqS (sSet 2 (evBin fMod (evBI fInt (evCons (evBin fIx (evV 0) (evC (.int 1))) evNil)) (evV 1))) (seqS (sSetIx (evV 0) (evC (.int 1)) (evBin fDiv (evBin fIx (evV 0) (evC (.int 1))) (evV 1))) (sRet (evV 2))))))
noncomputable def m__law_draw : FSem := arF 2 (bodySem 3 sv__law_draw)
theorem ar__law_draw : Arity m__law_draw 2 := arF_ar
theorem le__law_draw : ∀ ds μ r, m__law_draw ds μ = some r → bodySem 3 sv__law_draw ds μ = some r := arF_le
noncomputable def sv_is_less : SEv := (sRet (evBin fLt (evBin fMul (evUn (fFld 0 0) (evV 0)) (evUn (fFld 0 1) (evV 1))) (evBin fMul (evUn (fFld 0 0) (evV 1)) (evUn (fFld 0 1) (evV 0)))))
noncomputable def m_is_less : FSem := arF 2 (bodySem 2 sv_is_less)
theorem ar_is_less : Arity m_is_less 2 := arF_ar
theorem le_is_less : ∀ ds μ r, m_is_less ds μ = some r → bodySem 2 sv_is_less ds μ = some r := arF_le
end Vs
namespace Vs
open PySem PySem.Spec PyProof.Rows L2
theorem set_get {μ : Mu} {l : Nat} {o : Option MO} {m : Option MO} (h : μ[l]? = some m) : (μ.set l o)[l]? = some o := List.getElem?_set_self (List.getElem?_eq_some_iff.mp h).1
theorem ev_init {l : Nat} {n d : Int} {μ : Mu} (hd : d ≠ 0) (hg : (Nat.gcd n.natAbs d.natAbs).log2 < 9000) (hl : μ[l]? = some (some (.ins 0 []))) :
    m_Ratiou_initu [.loc l, .p (.int n), .p (.int d)] μ = some (.ok (.p .non), μ.set l (some (.ins 0 [.int (qn n d).1, .int (qn n d).2]))) := by
  have g0 : (Nat.gcd n.natAbs d.natAbs : Int) ≠ 0 := gcd_ne hd
  have hk : ∀ (i : Int), divOk i (Nat.gcd n.natAbs d.natAbs : Int) = true := fun i => divOk_of g0 (by simpa using hg)
  have hk' : ∀ (i : Int), divOk i (-(Nat.gcd n.natAbs d.natAbs : Int)) = true := fun i => divOk_of (by omega) (by simpa using hg)
  by_cases hn : d < 0
  · simp [m_Ratiou_initu, arF, bodySem_eq, sv_Ratiou_initu, hd, hn, hk', qn, fldEnd_new hl, fldEnd_new (set_get hl)]
  · simp [m_Ratiou_initu, arF, bodySem_eq, sv_Ratiou_initu, hd, hn, hk, qn, fldEnd_new hl, fldEnd_new (set_get hl)]
theorem ev_mk {n d : Int} {μ : Mu} (hd : d ≠ 0) (hg : (Nat.gcd n.natAbs d.natAbs).log2 < 9000) :
    mkEnd 0 2 μ.length (m_Ratiou_initu [.loc μ.length, .p (.int n), .p (.int d)] (μ ++ [some (.ins 0 [])])) = some (.ok (.p (rat (Rat.divInt n d))), μ) := by
  have hl : (μ ++ [some (MO.ins 0 [])])[μ.length]? = some (some (.ins 0 [])) := by simp
  rw [ev_init hd hg hl]
  have e : (μ ++ [some (MO.ins 0 [])]).set μ.length (some (.ins 0 [.int (qn n d).1, .int (qn n d).2])) = μ ++ [some (.ins 0 [.int (qn n d).1, .int (qn n d).2])] := by
    rw [List.set_append_right _ _ (Nat.le_refl _)]; simp
  rw [e]
  have q := qn_eq (n := n) hd
  simp [mkEnd, rat, q]
theorem ev_mk' {n d : Int} {μ : Mu} {k : Nat} (hd : d ≠ 0) (hs : Sz k d) (hk : k ≤ 9000) (h0 : 0 < k := by decide) :
    mkEnd 0 2 μ.length (m_Ratiou_initu [.loc μ.length, .p (.int n), .p (.int d)] (μ ++ [some (.ins 0 [])])) = some (.ok (.p (rat (Rat.divInt n d))), μ) :=
  ev_mk hd (Nat.lt_of_lt_of_le (PySem.Flt.log2_lt_of h0 (gcd_sz hs hd)) hk)
theorem den_ne (q : Rat) : (q.den : Int) ≠ 0 := by have := q.den_nz; omega
theorem mul_ne {i j : Int} (h : i ≠ 0) (h2 : j ≠ 0) : i * j ≠ 0 := Int.mul_ne_zero h h2
def Bz (n : Nat) (q : Rat) : Prop := 1 ≤ n ∧ Sz (100 * n) q.num ∧ Sz n (q.den : Int)
section
variable {a b : Rat} {n m : Nat} {μ : Mu}
theorem Bz.mono (h : Bz n a) (e : n ≤ m) : Bz m a := ⟨Nat.le_trans h.1 e, h.2.1.mono (by omega), h.2.2.mono e⟩
theorem bz_of {x y : Int} {k : Nat} (h0 : y ≠ 0) (h1 : 1 ≤ n) (hx : Sz k x) (hk : k ≤ 100 * n) (hy : Sz n y) : Bz n (Rat.divInt x y) := ⟨h1, (num_sz hx).mono hk, den_sz hy h0⟩
theorem add_eq (a b : Rat) : Rat.divInt (a.num * (b.den : Int) + b.num * (a.den : Int)) ((a.den : Int) * (b.den : Int)) = a + b := by
  rw [← Rat.divInt_add_divInt _ _ (den_ne a) (den_ne b), Rat.num_divInt_den, Rat.num_divInt_den]
theorem sub_eq (a b : Rat) : Rat.divInt (a.num * (b.den : Int) - b.num * (a.den : Int)) ((a.den : Int) * (b.den : Int)) = a - b := by
  rw [← Rat.divInt_sub_divInt _ _ (den_ne a) (den_ne b), Rat.num_divInt_den, Rat.num_divInt_den]
theorem mul_eq (a b : Rat) : Rat.divInt (a.num * b.num) ((a.den : Int) * (b.den : Int)) = a * b := by
  rw [← Rat.divInt_mul_divInt, Rat.num_divInt_den, Rat.num_divInt_den]
theorem neg_eq (a : Rat) : Rat.divInt (-a.num) (a.den : Int) = -a := by rw [← Rat.neg_divInt, Rat.num_divInt_den]
theorem div_eq (a b : Rat) (hb : b ≠ 0) : Rat.divInt (a.num * (b.den : Int)) ((a.den : Int) * b.num) = a / b := by
  have hb' : b.num ≠ 0 := fun z => hb (Rat.num_eq_zero.mp z)
  have e : b⁻¹ = Rat.divInt (b.den : Int) b.num := by
    rw [← Rat.inv_divInt, Rat.num_divInt_den]
  rw [Rat.div_def, e, ← Rat.divInt_mul_divInt, Rat.num_divInt_den]
theorem Bz.add (ha : Bz n a) (hb : Bz m b) : Bz (n + m) (a + b) := by
  rw [← add_eq]
  have h1 := (ha.2.1.mul hb.2.2).add (hb.2.1.mul ha.2.2)
  have := ha.1
  have := hb.1
  exact bz_of (mul_ne (den_ne a) (den_ne b)) (by omega) h1 (by omega) (ha.2.2.mul hb.2.2)
theorem Bz.neg (ha : Bz n a) : Bz n (-a) := by
  rw [← neg_eq]
  exact bz_of (den_ne a) ha.1 ha.2.1.neg (Nat.le_refl _) ha.2.2
theorem Bz.sub (ha : Bz n a) (hb : Bz m b) : Bz (n + m) (a - b) := by
  rw [show a - b = a + -b from Rat.sub_eq_add_neg _ _]
  exact ha.add hb.neg
theorem Bz.mul (ha : Bz n a) (hb : Bz m b) : Bz (n + m) (a * b) := by
  rw [← mul_eq]
  have := ha.1
  have := hb.1
  exact bz_of (mul_ne (den_ne a) (den_ne b)) (by omega) (ha.2.1.mul hb.2.1) (by omega) (ha.2.2.mul hb.2.2)
theorem mulOk_le {i j : Nat} {x y : Int} (h : Sz i x) (h2 : Sz j y) (e : i + j ≤ 900100) : mulOk x y = true := mulOk_of (h.mono (Nat.le_succ i)) (h2.mono (Nat.le_succ j)) (by omega) (by omega) (by omega)
theorem ok1 (ha : Bz n a) (hb : Bz m b) (h : n + m ≤ 9000) : mulOk a.num (b.den : Int) = true := mulOk_le ha.2.1 hb.2.2 (by omega)
theorem ok2 (ha : Bz n a) (hb : Bz m b) (h : n + m ≤ 9000) : mulOk (a.den : Int) (b.den : Int) = true := mulOk_le ha.2.2 hb.2.2 (by omega)
theorem ok3 (ha : Bz n a) (hb : Bz m b) (h : n + m ≤ 9000) : mulOk a.num b.num = true := mulOk_le ha.2.1 hb.2.1 (by omega)
theorem ok4 (ha : Bz n a) (hb : Bz m b) (h : n + m ≤ 9000) : mulOk (a.den : Int) b.num = true := mulOk_le ha.2.2 hb.2.1 (by omega)
@[simp] theorem isObj_rat : isObj 0 (.p (rat a)) = true := rfl
@[simp] theorem semD_ok {sem : FSem} {ds : List D} {d : D} {μ' : Mu} (h : sem ds μ = some (.ok d, μ')) : semD sem ds μ = some (d, μ') := by unfold semD; rw [h]
theorem lt_iff' : a.num * (b.den : Int) < b.num * (a.den : Int) ↔ a < b := (Rat.lt_iff a b).symm
theorem ev_is_less (ha : Bz n a) (hb : Bz m b) (h : n + m ≤ 9000) : m_is_less [.p (rat a), .p (rat b)] μ = some (.ok (.p (.bl (decide (a < b)))), μ) := by
  have e : decide (a.num * (b.den : Int) < b.num * (a.den : Int)) = decide (a < b) := by rw [decide_eq_decide]; exact lt_iff'
  simp only [← e]
  simp [m_is_less, arF, bodySem_eq, sv_is_less, ok1 ha hb h, ok1 hb ha (by omega), rat]
theorem abs_nat (a : Int) : (if a < 0 then -a else a) = (a.natAbs : Int) := by split <;> omega
end
end Vs
namespace Vs
open PySem PySem.Spec PyProof.Rows L2
section
variable {a b : Rat} {n m : Nat} {μ : Mu}
/-- the absolute value -/
def ab (q : Rat) : Rat := if q < 0 then -q else q
/-- one half -/
def hf : Rat := Rat.divInt 1 2
theorem hf_bz : Bz 2 hf := by
  refine ⟨by decide, ?_, ?_⟩
  · unfold Sz; decide
  · unfold Sz; decide
def rch (p v a s : Rat) : Rat := p + (v + hf * a * s) * s
theorem bz0 : Bz 1 0 := ⟨Nat.le_refl _, by unfold Sz; decide, by unfold Sz; decide⟩
theorem rch_bz {p v a s : Rat} {np nv na ns : Nat} (hp : Bz np p) (hv : Bz nv v) (ha : Bz na a) (hs : Bz ns s) : Bz (np + nv + na + 2 * ns + 2) (rch p v a s) :=
  (hp.add ((hv.add ((hf_bz.mul ha).mul hs)).mul hs)).mono (by omega)
end
end Vs
namespace Vs
open PySem PySem.Spec PyProof.Rows L2
section
variable {μ : Mu}
structure SS where
  cells : List Int
  cur : Int
  pos : Nat
  mix : Int
structure SS.Ok (s : SS) : Prop where
  c0 : 0 ≤ s.cur
  m0 : 0 ≤ s.mix
  m1 : s.mix < 2147483647
def SS.xs (s : SS) : List P := [.lst (s.cells.map .int), .int s.cur, .int (s.pos : Int), .int s.mix]
def mixOf : List Int → Int → Int
  | [], m => m
  | c :: cs, m => mixOf cs ((m * 48271 + c.fmod 65521 + 1).fmod 2147483647)
theorem mix_ok : ∀ (cs : List Int) (m : Int), 0 ≤ m → m < 2147483647 → 0 ≤ mixOf cs m ∧ mixOf cs m < 2147483647
  | [], m, h, h2 => ⟨h, h2⟩
  | c :: cs, m, h, h2 => mix_ok cs _ (Int.fmod_nonneg_of_pos _ (by decide)) (Int.fmod_lt_of_pos _ (by decide))
def start0 (ns : List Int) : SS := ⟨ns, 0, 0, mixOf ns 17⟩
theorem start0_ok (ns : List Int) : (start0 ns).Ok := ⟨Int.le_refl _, (mix_ok ns 17 (by decide) (by decide)).1, (mix_ok ns 17 (by decide) (by decide)).2⟩
theorem mulOk_mix {m : Int} (h : 0 ≤ m) (h2 : m < 2147483647) : mulOk m 48271 = true := mulOk_of (j := 31) (k := 16) (by unfold Sz; omega) (by unfold Sz; decide) (by decide) (by decide) (by decide)
theorem stream_loop {s0 : Option D} : ∀ (cs : List Int) (m : Int) (c : Option D) (μ : Mu), 0 ≤ m → m < 2147483647 →
    ∃ c', forL (tgN 2) (sSet 1 (evBin fMod (evBI fInt (evCons (evBin fAdd (evBin fAdd (evBin fMul (evV 1) (evC (.int 48271))) (evBin fMod (evBI fInt (evCons (evV 2) evNil)) (evC (.int 65521)))) (evC (.int 1))) evNil)) (evC (.int 2147483647)))) (cs.map .int) [s0, some (.p (.int m)), c] μ = some (.nx, [s0, some (.p (.int (mixOf cs m))), c'], μ)
  | [], m, c, μ, h, h2 => ⟨c, rfl⟩
  | x :: cs, m, c, μ, h, h2 => by
    obtain ⟨c', e⟩ := stream_loop (s0 := s0) cs ((m * 48271 + x.fmod 65521 + 1).fmod 2147483647) (some (.p (.int x))) μ (Int.fmod_nonneg_of_pos _ (by decide)) (Int.fmod_lt_of_pos _ (by decide))
    refine ⟨c', ?_⟩
    rw [List.map_cons, forL]
    simp [tgN, mulOk_mix h h2, e, mixOf]
theorem ev_stream {ns : List Int} {μ : Mu} : m__law_stream [.p (.wl (ns.map .int))] μ = some (.ok (.loc μ.length), μ ++ [some (.lst (start0 ns).xs)]) := by
  obtain ⟨c', e⟩ := stream_loop (s0 := some (.p (.wl (ns.map .int)))) ns 17 none μ (by decide) (by decide)
  have hit : evIt (evV 0) [some (D.p (.wl (ns.map .int))), some (.p (.int 17)), none] μ = some (.ok (ns.map .int), μ) := rfl
  have hl : fList [.p (.wl (ns.map .int))] μ = some (.p (.lst (ns.map .int)), μ) := rfl
  simp [m__law_stream, arF, bodySemC_eq, sv__law_stream, hit, e, hl, retC, retLC, cellL, start0, SS.xs]
def SS.load (s : SS) : SS := if s.cur = 0 then (match s.cells[s.pos]? with
  | some c => ⟨s.cells, if c < 0 then -c else c, s.pos + 1, s.mix⟩
  | none => s) else s
def SS.draw (s : SS) (many : Int) : Int × SS :=
  if s.load.cur = 0 then ((((s.mix * 48271 + 11).fmod 2147483647).fdiv 97).fmod many, ⟨s.load.cells, s.load.cur, s.load.pos, (s.mix * 48271 + 11).fmod 2147483647⟩)
  else (s.load.cur.fmod many, ⟨s.load.cells, s.load.cur.fdiv many, s.load.pos, s.mix⟩)
theorem SS.draw_ok {s : SS} (h : s.Ok) {many : Int} (hm : 0 < many) : (s.draw many).2.Ok ∧ 0 ≤ (s.draw many).1 ∧ (s.draw many).1 < many := by
  have hl : 0 ≤ s.load.cur := by
    unfold SS.load
    split
    · split
      · dsimp only; split <;> omega
      · exact h.c0
    · exact h.c0
  unfold SS.draw
  split
  · exact ⟨⟨hl, Int.fmod_nonneg_of_pos _ (by decide), Int.fmod_lt_of_pos _ (by decide)⟩, Int.fmod_nonneg_of_pos _ hm, Int.fmod_lt_of_pos _ hm⟩
  · exact ⟨⟨by rw [Int.fdiv_eq_ediv_of_nonneg _ (Int.le_of_lt hm)]; exact Int.ediv_nonneg hl (Int.le_of_lt hm), h.m0, h.m1⟩, Int.fmod_nonneg_of_pos _ hm, Int.fmod_lt_of_pos _ hm⟩
end
section
variable {μ : Mu} {l : Nat}
@[simp] theorem fLen_lst {xs : List P} : fLen [.p (.lst xs)] μ = some (.p (.int xs.length), μ) := rfl
theorem divOk97 {i : Int} : divOk i 97 = true := divOk_of (by decide) (by decide)
theorem ev_draw {s : SS} {many : Int} (hs : s.Ok) (hl : μ[l]? = some (some (.lst s.xs))) (hm : 0 < many) (hz : many.natAbs.log2 < 9000) :
    m__law_draw [.loc l, .p (.int many)] μ = some (.ok (.p (.int (s.draw many).1)), μ.set l (some (.lst (s.draw many).2.xs))) := by
  obtain ⟨cells, cur, pos, mix⟩ := s
  obtain ⟨c0, m0, m1⟩ := hs
  dsimp only at c0 m0 m1
  have hl : μ[l]? = some (some (.lst [.lst (cells.map .int), .int cur, .int (pos : Int), .int mix])) := hl
  have g : ∀ (ys : List P) (i : Int), fIx (.loc l) (.p (.int i)) (μ.set l (some (.lst ys))) = ixAns (μ.set l (some (.lst ys))) (atI ys i) := fun ys i => fIx_lst (view_l (set_get hl))
  have g0 : ∀ (i : Int), fIx (.loc l) (.p (.int i)) μ = ixAns μ (atI [P.lst (cells.map .int), .int cur, .int (pos : Int), .int mix] i) := fun i => fIx_lst (view_l hl)
  have st : ∀ (δ : Sl) (a b c d y : P) (k : Int) (n : Nat), ixN 4 k = some n → setIxEnd δ (μ.set l (some (.lst [a, b, c, d]))) (.loc l) (.p (.int k)) (.p y) = some (.nx, δ, (μ.set l (some (.lst [a, b, c, d]))).set l (some (.lst ([a, b, c, d].set n y)))) := fun δ a b c d y k n h => setIxEnd_l (set_get hl) h
  have st0 : ∀ (δ : Sl) (y : P) (k : Int) (n : Nat), ixN 4 k = some n → setIxEnd δ μ (.loc l) (.p (.int k)) (.p y) = some (.nx, δ, μ.set l (some (.lst ([P.lst (cells.map .int), .int cur, .int (pos : Int), .int mix].set n y)))) := fun δ y k n h => setIxEnd_l hl h
  have i1 : ixN 4 1 = some 1 := by decide
  have i2 : ixN 4 2 = some 2 := by decide
  have i3 : ixN 4 3 = some 3 := by decide
  have dm : ∀ (i : Int), divOk i many = true := fun i => divOk_of (by omega) hz
  have mm : mulOk mix 48271 = true := mulOk_mix m0 m1
  have hne : many ≠ 0 := by omega
  by_cases hc : cur = 0
  · subst hc
    by_cases hp : pos < cells.length
    · have hq : cells[pos]? = some cells[pos] := List.getElem?_eq_getElem hp
      have ha : atI (cells.map P.int) (pos : Int) = some (.int cells[pos]) := atI_nat (by rw [List.getElem?_map, hq]; rfl)
      by_cases h0 : cells[pos] = 0
      · simp [m__law_draw, arF, bodySem_eq, sv__law_draw, g0, g, hp, ha, st0 _ _ _ _ i1, st _ _ _ _ _ _ _ _ i1, st _ _ _ _ _ _ _ _ i2, st _ _ _ _ _ _ _ _ i3, mm, divOk97, dm, hne, SS.draw, SS.load, SS.xs, hq, h0]
      · have h1 : ¬ (if cells[pos] < 0 then -cells[pos] else cells[pos]) = 0 := by split <;> omega
        simp [m__law_draw, arF, bodySem_eq, sv__law_draw, g0, g, hp, ha, st0 _ _ _ _ i1, st _ _ _ _ _ _ _ _ i1, st _ _ _ _ _ _ _ _ i2, st _ _ _ _ _ _ _ _ i3, mm, divOk97, dm, hne, SS.draw, SS.load, SS.xs, hq, h1]
    · have hq : cells[pos]? = none := List.getElem?_eq_none (by omega)
      have hp' : ¬ ((pos : Int) < (cells.length : Int)) := by omega
      simp [m__law_draw, arF, bodySem_eq, sv__law_draw, g0, g, hp, hp', st0 _ _ _ _ i1, st0 _ _ _ _ i3, st _ _ _ _ _ _ _ _ i1, st _ _ _ _ _ _ _ _ i2, st _ _ _ _ _ _ _ _ i3, mm, divOk97, dm, hne, SS.draw, SS.load, SS.xs, hq]
  · simp [m__law_draw, arF, bodySem_eq, sv__law_draw, g0, g, hc, st0 _ _ _ _ i1, st0 _ _ _ _ i3, st _ _ _ _ _ _ _ _ i1, st _ _ _ _ _ _ _ _ i2, st _ _ _ _ _ _ _ _ i3, mm, divOk97, dm, hne, SS.draw, SS.load, SS.xs]
/-- the stream's place -/
def st (s : SS) : Option MO := some (.lst s.xs)
@[simp] theorem st_set {s s' : SS} : (μ.set l (st s)).set l (st s') = μ.set l (st s') := by unfold st; exact List.set_set ..
theorem st_get (h : l < μ.length) {s : SS} : (μ.set l (st s))[l]? = some (some (.lst s.xs)) := List.getElem?_set_self h
theorem draw_ex {s : SS} (many : Int) (hs : s.Ok) (hm : 0 < many := by decide) (hz : many.natAbs.log2 < 9000 := by decide) :
    ∃ v s', SS.Ok s' ∧ 0 ≤ v ∧ v < many ∧ ∀ {μ : Mu} {l : Nat}, l < μ.length → m__law_draw [.loc l, .p (.int many)] (μ.set l (st s)) = some (.ok (.p (.int v)), μ.set l (st s')) :=
  ⟨_, _, (SS.draw_ok hs hm).1, (SS.draw_ok hs hm).2.1, (SS.draw_ok hs hm).2.2, fun h => by
    have e := ev_draw hs (st_get h) hm hz
    unfold st at e ⊢
    rwa [List.set_set] at e⟩
/-- a drawn number -/
def Dr (q : Rat) : Prop := Sz 30 q.num ∧ Sz 20 (q.den : Int)
theorem Dr.bz {q : Rat} (h : Dr q) : Bz 20 q := ⟨by decide, h.1.mono (by decide), h.2⟩
theorem sz_lt {k : Nat} {x : Int} (c : Nat) (h : x.natAbs ≤ c) (hc : c < 2 ^ k := by decide) : Sz k x := Nat.lt_of_le_of_lt h hc
end
end Vs
namespace Vs
open PySem PySem.Spec PyProof.Rows L2
section
variable {μ : Mu} {δ : Sl}
theorem evBM_eq {ty : Mu → D → Bool} {f : FM} {o : Ev} {a : EvA} : evBM ty f o a δ μ = bindG (o δ μ) fun x μ1 => if ty μ1 x = true then bindG (a δ μ1) fun ds μ2 => okm (f x ds μ2) else none := rfl
theorem isLst_l {l : Nat} {xs : List P} (h : μ[l]? = some (some (.lst xs))) : isLst μ (.loc l) = true := by
  unfold isLst
  rw [view_l h]
theorem fApp_l {l : Nat} {xs : List P} {y : P} (h : μ[l]? = some (some (.lst xs))) (hl : xs.length < sizeLine) : fApp (.loc l) [.p y] μ = some (.p .non, μ.set l (some (.lst (xs ++ [y])))) := by
  unfold fApp
  dsimp only
  rw [toP_p]
  dsimp only
  rw [cellL_l h]
  dsimp only
  rw [if_pos hl]
theorem get_end {o : Option MO} : (μ ++ [o])[μ.length]? = some o := by simp
theorem is1 {acc : List P} : isLst (μ ++ [some (.lst acc)]) (.loc μ.length) = true := isLst_l get_end
theorem ap1 {acc : List P} {y : P} (h : acc.length < sizeLine) : fApp (.loc μ.length) [.p y] (μ ++ [some (.lst acc)]) = some (.p .non, μ ++ [some (.lst (acc ++ [y]))]) := by
  rw [fApp_l get_end h, set_end rfl]
theorem line_k {n : Nat} (h : n < 1000) : n < sizeLine := Nat.lt_of_lt_of_le h (by decide)
theorem forL_nx {ts : Tgt} {body : SEv} {x : P} {xs : List P} {δ δ1 δ2 : Sl} {μ μ2 : Mu} (h1 : ts x δ = some δ1) (h2 : body δ1 μ = some (.nx, δ2, μ2)) : forL ts body (x :: xs) δ μ = forL ts body xs δ2 μ2 := by
  rw [forL, h1]; dsimp only; rw [h2]
theorem forL_ret {ts : Tgt} {body : SEv} {x : P} {xs : List P} {δ δ1 δ2 : Sl} {μ μ2 : Mu} {d : D} (h1 : ts x δ = some δ1) (h2 : body δ1 μ = some (.ret d, δ2, μ2)) : forL ts body (x :: xs) δ μ = some (.ret d, δ2, μ2) := by
  rw [forL, h1]; dsimp only; rw [h2]
structure Pc where
  (t e p v a : Rat)
def Pc.q (c : Pc) : P := .tup [pr c.t, pr c.e, pr c.p, pr c.v, pr c.a]
def pcs : Rat → Rat → Rat → List (Rat × Rat) → List Pc
  | _, _, _, [] => []
  | t, p, v, r :: rs => ⟨t, t + r.1, p, v, r.2⟩ :: pcs (t + r.1) (rch p v r.2 r.1) (v + r.2 * r.1) rs
def finT : Rat → List (Rat × Rat) → Rat
  | t, [] => t
  | t, r :: rs => finT (t + r.1) rs
def finV : Rat → List (Rat × Rat) → Rat
  | v, [] => v
  | v, r :: rs => finV (v + r.2 * r.1) rs
def finP : Rat → Rat → List (Rat × Rat) → Rat
  | p, _, [] => p
  | p, v, r :: rs => finP (rch p v r.2 r.1) (v + r.2 * r.1) rs
/-- a good run of rows: the sizes, and the last speed is 0 -/
def Good : Rat → List (Rat × Rat) → Prop
  | v, [] => v = 0
  | v, r :: rs => Bz 20 r.1 ∧ 0 < r.1 ∧ Bz 240 r.2 ∧ Bz 210 v ∧ Good (v + r.2 * r.1) rs
theorem Good.bz {v : Rat} {rs : List (Rat × Rat)} (h : Good v rs) : Bz 210 v := by
  cases rs with
  | nil => rw [show v = 0 from h]; exact bz0.mono (by decide)
  | cons r rs => exact h.2.2.2.1
theorem Good.fin : ∀ {rs : List (Rat × Rat)} {v : Rat}, Good v rs → finV v rs = 0
  | [], v, h => h
  | r :: rs, v, h => Good.fin (rs := rs) h.2.2.2.2
/-- a good move -/
def GoodM (rs : List (Rat × Rat)) : Prop := Good 0 rs ∧ rs.length ≤ 6
end
end Vs
namespace Vs
open PySem PySem.Spec PyProof.Rows L2
section
variable {μ : Mu} {δ : Sl}
structure PcB (c : Pc) : Prop where
  t : Bz 121 c.t
  e : Bz 121 c.e
  p : Bz 3073 c.p
  v : Bz 210 c.v
  a : Bz 240 c.a
structure PcOk (c : Pc) : Prop extends PcB c where
  d : Bz 20 (c.e - c.t)
  lt : c.t < c.e
theorem pcs_ok : ∀ (rs : List (Rat × Rat)) (t p v : Rat) (nt np : Nat), Good v rs → Bz nt t → Bz np p → nt + 20 * rs.length ≤ 121 → np + 512 * rs.length ≤ 3073 → ∀ c ∈ pcs t p v rs, PcOk c
  | [], _, _, _, _, _, _, _, _, _, _, c, hc => by cases hc
  | r :: rs, t, p, v, nt, np, g, ht, hp, h1, h2, c, hc => by
    obtain ⟨g1, g2, g3, g4, g5⟩ := g
    simp only [List.length_cons] at h1 h2
    rcases List.mem_cons.mp hc with rfl | hc
    · exact { t := ht.mono (by omega), e := (ht.add g1).mono (by omega), p := hp.mono (by omega), v := g4, a := g3, d := by show Bz 20 (t + r.1 - t); rw [show t + r.1 - t = r.1 by grind]; exact g1, lt := by show t < t + r.1; grind }
    · exact pcs_ok rs _ _ _ (nt + 20) (np + 512) g5 (ht.add g1) ((rch_bz hp g4 g3 g1).mono (by omega)) (by omega) (by omega) c hc
theorem fin_bz : ∀ (rs : List (Rat × Rat)) (t p v : Rat) (nt np : Nat), Good v rs → Bz nt t → Bz np p → nt + 20 * rs.length ≤ 121 → np + 512 * rs.length ≤ 3073 → Bz 121 (finT t rs) ∧ Bz 3073 (finP p v rs)
  | [], _, _, _, _, _, _, ht, hp, h1, h2 => ⟨ht.mono (by simp at h1; omega), hp.mono (by simp at h2; omega)⟩
  | r :: rs, t, p, v, nt, np, g, ht, hp, h1, h2 => by
    obtain ⟨g1, g2, g3, g4, g5⟩ := g
    simp only [List.length_cons] at h1 h2
    exact fin_bz rs _ _ _ (nt + 20) (np + 512) g5 (ht.add g1) ((rch_bz hp g4 g3 g1).mono (by omega)) (by omega) (by omega)
theorem GoodM.ok {rs : List (Rat × Rat)} (h : GoodM rs) : ∀ c ∈ pcs 0 0 0 rs, PcOk c := pcs_ok rs 0 0 0 1 1 h.1 bz0 bz0 (by have := h.2; omega) (by have := h.2; omega)
theorem GoodM.fin {rs : List (Rat × Rat)} (h : GoodM rs) : Bz 121 (finT 0 rs) ∧ Bz 3073 (finP 0 0 rs) := fin_bz rs 0 0 0 1 1 h.1 bz0 bz0 (by have := h.2; omega) (by have := h.2; omega)
theorem at_last {xs : List P} {x : P} : atI (xs ++ [x]) (-1) = some x := by
  unfold atI
  have h : ixN (xs ++ [x]).length (-1) = some xs.length := by
    unfold ixN
    simp
    try omega
  rw [h]
  simp
end
end Vs
namespace Vs
open PySem PySem.Spec PyProof.Rows L2
section
variable {δ : Sl}
theorem lcL_map {A : Type} {ts : Tgt} {e : Ev} {δ0 : Sl} {μ : Mu} (g f : A → P) : ∀ (as : List A) (acc : List P), (∀ a ∈ as, ∃ δ1, ts (g a) δ0 = some δ1 ∧ ∀ ν, e δ1 ν = some (.ok (.p (f a)), ν)) → acc.length + as.length ≤ sizeLine →
    lcL ts evTrue e δ0 μ.length (as.map g) (μ ++ [some (.lst acc)]) = some (μ ++ [some (.lst (acc ++ as.map f))])
  | [], acc, h, hl => by simp [lcL]
  | x :: xs, acc, h, hl => by
    obtain ⟨δ1, h1, h2⟩ := h x List.mem_cons_self
    have hl' : acc.length < sizeLine := by simp at hl; omega
    have ih := lcL_map (e := e) (μ := μ) g f xs (acc ++ [f x]) (fun y hy => h y (List.mem_cons_of_mem _ hy)) (by simp at hl ⊢; omega)
    rw [List.map_cons]
    unfold lcL
    rw [h1]
    dsimp only
    rw [evTrue_eq]
    dsimp only
    rw [h2]
    dsimp only
    rw [toP_p]
    dsimp only
    rw [cellL_end rfl]
    dsimp only
    rw [if_pos hl', set_end rfl, ih, List.append_assoc]
    rfl
theorem lc_map {A : Type} {it : EvG (List P)} {ts : Tgt} {e : Ev} {vs : List Nat} {μ ν : Mu} {as : List A} (g f : A → P) (hi : it δ μ = some (.ok (as.map g), ν)) (h : ∀ a ∈ as, ∃ δ1, ts (g a) (wipeS δ vs) = some δ1 ∧ ∀ ν, e δ1 ν = some (.ok (.p (f a)), ν)) (hl : as.length ≤ sizeLine) :
    evLc it ts evTrue e vs δ μ = some (.ok (.p (.lst (as.map f))), ν) := by
  rw [evLc_eq, hi, bindG_ok, lcL_map g f as [] h (by simpa using hl)]
  unfold lcEnd
  dsimp only
  rw [cellL_end rfl]
  dsimp only
  rw [List.take_left, List.nil_append]
theorem rng_small {v : Int} (h : 0 ≤ v) (h2 : v < 1000) : rngOk v = true := by
  unfold rngOk
  rw [Bool.and_eq_true]
  exact ⟨decide_eq_true (by omega), decide_eq_true (by omega)⟩
end
end Vs
namespace Vs
open PySem PySem.Spec PyProof.Rows L2
section
@[simp] theorem evV_11 {a0 a1 a2 a3 a4 a5 a6 a7 a8 a9 a10 : Option D} {d : D} {δ : Sl} {μ : Mu} : evV 11 (a0 :: a1 :: a2 :: a3 :: a4 :: a5 :: a6 :: a7 :: a8 :: a9 :: a10 :: some d :: δ) μ = some (.ok d, μ) := rfl
@[simp] theorem evV_12 {a0 a1 a2 a3 a4 a5 a6 a7 a8 a9 a10 a11 : Option D} {d : D} {δ : Sl} {μ : Mu} : evV 12 (a0 :: a1 :: a2 :: a3 :: a4 :: a5 :: a6 :: a7 :: a8 :: a9 :: a10 :: a11 :: some d :: δ) μ = some (.ok d, μ) := rfl
@[simp] theorem evV_13 {a0 a1 a2 a3 a4 a5 a6 a7 a8 a9 a10 a11 a12 : Option D} {d : D} {δ : Sl} {μ : Mu} : evV 13 (a0 :: a1 :: a2 :: a3 :: a4 :: a5 :: a6 :: a7 :: a8 :: a9 :: a10 :: a11 :: a12 :: some d :: δ) μ = some (.ok d, μ) := rfl
@[simp] theorem evV_14 {a0 a1 a2 a3 a4 a5 a6 a7 a8 a9 a10 a11 a12 a13 : Option D} {d : D} {δ : Sl} {μ : Mu} : evV 14 (a0 :: a1 :: a2 :: a3 :: a4 :: a5 :: a6 :: a7 :: a8 :: a9 :: a10 :: a11 :: a12 :: a13 :: some d :: δ) μ = some (.ok d, μ) := rfl
@[simp] theorem evV_15 {a0 a1 a2 a3 a4 a5 a6 a7 a8 a9 a10 a11 a12 a13 a14 : Option D} {d : D} {δ : Sl} {μ : Mu} : evV 15 (a0 :: a1 :: a2 :: a3 :: a4 :: a5 :: a6 :: a7 :: a8 :: a9 :: a10 :: a11 :: a12 :: a13 :: a14 :: some d :: δ) μ = some (.ok d, μ) := rfl
@[simp] theorem evV_16 {a0 a1 a2 a3 a4 a5 a6 a7 a8 a9 a10 a11 a12 a13 a14 a15 : Option D} {d : D} {δ : Sl} {μ : Mu} : evV 16 (a0 :: a1 :: a2 :: a3 :: a4 :: a5 :: a6 :: a7 :: a8 :: a9 :: a10 :: a11 :: a12 :: a13 :: a14 :: a15 :: some d :: δ) μ = some (.ok d, μ) := rfl
@[simp] theorem evV_17 {a0 a1 a2 a3 a4 a5 a6 a7 a8 a9 a10 a11 a12 a13 a14 a15 a16 : Option D} {d : D} {δ : Sl} {μ : Mu} : evV 17 (a0 :: a1 :: a2 :: a3 :: a4 :: a5 :: a6 :: a7 :: a8 :: a9 :: a10 :: a11 :: a12 :: a13 :: a14 :: a15 :: a16 :: some d :: δ) μ = some (.ok d, μ) := rfl
@[simp] theorem evV_18 {a0 a1 a2 a3 a4 a5 a6 a7 a8 a9 a10 a11 a12 a13 a14 a15 a16 a17 : Option D} {d : D} {δ : Sl} {μ : Mu} : evV 18 (a0 :: a1 :: a2 :: a3 :: a4 :: a5 :: a6 :: a7 :: a8 :: a9 :: a10 :: a11 :: a12 :: a13 :: a14 :: a15 :: a16 :: a17 :: some d :: δ) μ = some (.ok d, μ) := rfl
@[simp] theorem evV_19 {a0 a1 a2 a3 a4 a5 a6 a7 a8 a9 a10 a11 a12 a13 a14 a15 a16 a17 a18 : Option D} {d : D} {δ : Sl} {μ : Mu} : evV 19 (a0 :: a1 :: a2 :: a3 :: a4 :: a5 :: a6 :: a7 :: a8 :: a9 :: a10 :: a11 :: a12 :: a13 :: a14 :: a15 :: a16 :: a17 :: a18 :: some d :: δ) μ = some (.ok d, μ) := rfl
@[simp] theorem evV_20 {a0 a1 a2 a3 a4 a5 a6 a7 a8 a9 a10 a11 a12 a13 a14 a15 a16 a17 a18 a19 : Option D} {d : D} {δ : Sl} {μ : Mu} : evV 20 (a0 :: a1 :: a2 :: a3 :: a4 :: a5 :: a6 :: a7 :: a8 :: a9 :: a10 :: a11 :: a12 :: a13 :: a14 :: a15 :: a16 :: a17 :: a18 :: a19 :: some d :: δ) μ = some (.ok d, μ) := rfl
end
end Vs
namespace Vs
open PySem PySem.Spec PyProof.Rows L2
section
variable {μ : Mu} {δ : Sl}
structure Cue where
  (p : Int) (lo hi : Rat)
def Cue.q (c : Cue) : P := .tup [.int c.p, pr c.lo, pr c.hi]
def intsP (a n : Nat) : List P := (List.range' a n).map fun (i : Nat) => P.int (i : Int)
theorem range_ints (n : Nat) : rangeP 0 n = intsP 0 n := by
  unfold rangeP intsP
  rw [List.range_eq_range']
  simp
theorem intsP_succ (a n : Nat) : intsP a (n + 1) = .int (a : Int) :: intsP (a + 1) n := by
  unfold intsP
  rw [List.range'_succ, List.map_cons]
theorem rng_n (n : Nat) {e : Ev} {ν : Mu} (he : e δ μ = some (.ok (.p (.int (n : Int))), ν)) (h : n < 1000) : evRng1 e δ μ = some (.ok (intsP 0 n), ν) := by
  have hr := rng_small (v := (n : Int)) (by omega) (by omega)
  rw [evRng1_eq, he, bindG_ok]
  dsimp only
  rw [if_pos hr, Int.toNat_natCast, range_ints]
def bf (all : List Rat) (p : Int) : Rat := all.getD p.toNat 0
end
end Vs
namespace Vs
open PySem PySem.Spec PyProof.Rows L2
structure Ext (μ ν : Mu) : Prop where
  len : μ.length ≤ ν.length
  get : ∀ j, j < μ.length → ν[j]? = μ[j]?
theorem Ext.refl {μ : Mu} : Ext μ μ := ⟨Nat.le_refl _, fun _ _ => rfl⟩
theorem Ext.trans {μ ν ξ : Mu} (a : Ext μ ν) (b : Ext ν ξ) : Ext μ ξ := ⟨Nat.le_trans a.len b.len, fun j h => (b.get j (Nat.lt_of_lt_of_le h a.len)).trans (a.get j h)⟩
theorem Ext.app {μ : Mu} (r : Mu) : Ext μ (μ ++ r) := ⟨by simp, fun j h => List.getElem?_append_left h⟩
theorem Ext.set {μ ν : Mu} (e : Ext μ ν) {l : Nat} (h : μ.length ≤ l) (o : Option MO) : Ext μ (ν.set l o) := ⟨by rw [List.length_set]; exact e.len, fun j hj => by rw [List.getElem?_set_ne (by omega)]; exact e.get j hj⟩
theorem Ext.take {μ ν : Mu} (e : Ext μ ν) : ν.take μ.length = μ := by
  apply List.ext_getElem?
  intro j
  by_cases h : j < μ.length
  · rw [List.getElem?_take_of_lt h, e.get j h]
  · rw [List.getElem?_eq_none (by rw [List.length_take]; have := e.len; omega), List.getElem?_eq_none (by omega)]
theorem Ext.at {μ ν : Mu} (e : Ext μ ν) {l : Nat} {m : Option MO} (h : μ[l]? = some m) : ν[l]? = some m := by
  rw [e.get l (List.getElem?_eq_some_iff.mp h).1]; exact h
theorem Ext.ok {μ ν : Mu} (e : Ext μ ν) {g : Gd} (h : okG μ g) : okG ν g := by
  cases g with
  | none => trivial
  | some x => exact e.at h
theorem Ext.of {μ ν : Mu} (h : μ.length ≤ ν.length) (g : ∀ j, j < μ.length → ν[j]? = μ[j]?) : Ext μ ν := ⟨h, g⟩
theorem Ext.eq {μ ν : Mu} (e : Ext μ ν) (h : ν.length = μ.length) : ν = μ := by
  have := e.take
  rwa [← h, List.take_length] at this
structure Live (n0 : Nat) (μ : Mu) (l : Nat) (Rs : List (List P)) (ks : List Nat) : Prop where
  len : ks.length = Rs.length
  pw : ks.Pairwise (· < ·)
  lo : ∀ k ∈ ks, n0 ≤ k
  hi : ∀ k ∈ ks, k < l
  l0 : n0 ≤ l
  at' : μ[l]? = some (some (.dl (ks.map .loc)))
  row : ∀ (i k : Nat) (R : List P), ks[i]? = some k → Rs[i]? = some R → μ[k]? = some (some (.lst R))
theorem Live.ext {n0 : Nat} {μ ν : Mu} {l : Nat} {Rs : List (List P)} {ks : List Nat} (L : Live n0 μ l Rs ks) (e : Ext μ ν) : Live n0 ν l Rs ks :=
  ⟨L.len, L.pw, L.lo, L.hi, L.l0, e.at L.at', fun i k R h h2 => e.at (L.row i k R h h2)⟩
theorem Live.le {n0 n1 : Nat} {μ : Mu} {l : Nat} {Rs : List (List P)} {ks : List Nat} (L : Live n0 μ l Rs ks) (h : n1 ≤ n0) : Live n1 μ l Rs ks :=
  ⟨L.len, L.pw, fun k hk => Nat.le_trans h (L.lo k hk), L.hi, Nat.le_trans h L.l0, L.at', L.row⟩
theorem Live.get {n0 : Nat} {μ : Mu} {l : Nat} {Rs : List (List P)} {ks : List Nat} (L : Live n0 μ l Rs ks) {i : Nat} {R : List P} (h : Rs[i]? = some R) : ∃ k, ks[i]? = some k ∧ μ[k]? = some (some (.lst R)) := by
  have hi : i < ks.length := by rw [L.len]; exact (List.getElem?_eq_some_iff.mp h).1
  exact ⟨ks[i], List.getElem?_eq_getElem hi, L.row i _ R (List.getElem?_eq_getElem hi) h⟩
theorem Live.lt {n0 : Nat} {μ : Mu} {l : Nat} {Rs : List (List P)} {ks : List Nat} (L : Live n0 μ l Rs ks) : l < μ.length := (List.getElem?_eq_some_iff.mp L.at').1
theorem pw_ne {ks : List Nat} (h : ks.Pairwise (· < ·)) {i j k : Nat} (h1 : ks[i]? = some k) (h2 : ks[j]? = some k) : i = j := by
  have a := List.getElem?_eq_some_iff.mp h1
  have b := List.getElem?_eq_some_iff.mp h2
  obtain ⟨a1, a2⟩ := a
  obtain ⟨b1, b2⟩ := b
  rw [List.pairwise_iff_getElem] at h
  rcases Nat.lt_trichotomy i j with q | q | q
  · have := h i j a1 b1 q; omega
  · exact q
  · have := h j i b1 a1 q; omega
/-- a row is written -/
theorem Live.set {n0 : Nat} {μ : Mu} {l : Nat} {Rs : List (List P)} {ks : List Nat} (L : Live n0 μ l Rs ks) {i k : Nat} (h : ks[i]? = some k) (R : List P) : Live n0 (μ.set k (some (.lst R))) l (Rs.set i R) ks := by
  have hk := List.mem_of_getElem? h
  have hlt := L.hi k hk
  refine ⟨by rw [List.length_set]; exact L.len, L.pw, L.lo, L.hi, L.l0, by rw [List.getElem?_set_ne (by omega)]; exact L.at', fun j k' R' h1 h2 => ?_⟩
  by_cases q : i = j
  · subst q
    rw [h] at h1; cases h1
    rw [List.getElem?_set_self (by have := (List.getElem?_eq_some_iff.mp h).1; have := L.len; omega)] at h2
    cases h2
    exact List.getElem?_set_self (Nat.lt_trans hlt L.lt)
  · rw [List.getElem?_set_ne q] at h2
    have hne : k ≠ k' := fun z => by subst z; exact q (pw_ne L.pw h h1)
    rw [List.getElem?_set_ne hne]
    exact L.row j k' R' h1 h2
theorem items_live {n0 : Nat} {μ : Mu} {l : Nat} {Rs : List (List P)} {ks : List Nat} (L : Live n0 μ l Rs ks) : items μ (.loc l) = some (false, ks.map .loc, some (l, .dl (ks.map .loc))) := by
  unfold items; dsimp only; rw [L.at']
theorem items_lst {μ : Mu} {k : Nat} {R : List P} (h : μ[k]? = some (some (.lst R))) : items μ (.loc k) = some (false, R.map .p, some (k, .lst R)) := by
  unfold items; dsimp only; rw [h]
@[simp] theorem items_plst {μ : Mu} {R : List P} : items μ (.p (.lst R)) = some (false, R.map .p, none) := rfl
section
variable {δ : Sl} {μ ν : Mu} {e : Ev}
@[simp] theorem evFrz_eq : evFrz e δ μ = bindG (e δ μ) fun d μ1 => frzEnd (frzD μ1 d) := rfl
@[simp] theorem frzEnd_some {x : P} : frzEnd (some (x, μ)) = some (.ok (.p x), μ) := rfl
@[simp] theorem frzD_p {x : P} : frzD μ (.p x) = some (x, μ) := rfl
@[simp] theorem evIsiD_eq {t : P → Option Bool} : evIsiD t e δ μ = bindG (e δ μ) fun d μ1 => isiVEnd t μ1 (kindD μ1 d) := rfl
@[simp] theorem evItL_eq : evItL e δ μ = bindG (e δ μ) fun d μ1 => match items μ1 d with
  | some (_, ds, g) => some (.ok (ds.map .one, g), μ1)
  | none => none := rfl
@[simp] theorem evUpI_eq {it : EvG (List P)} : evUpI it δ μ = bindG (it δ μ) fun xs μ1 => some (.ok (xs.map fun x => .one (.p x), none), μ1) := rfl
theorem bodySemK_eq {N : Nat} {a : SEv} {ds : List D} : bodySemK N a ds μ = retK (a (ds.map some ++ List.replicate (N - ds.length) none) μ) := rfl
@[simp] theorem retK_ret {d : D} : retK (some (.ret d, δ, μ)) = some (.ok d, μ) := rfl
@[simp] theorem retK_nx : retK (some (.nx, δ, μ)) = some (.ok (.p .non), μ) := rfl
@[simp] theorem retK_exc {c : Nat} : retK (some (.exc c, δ, μ)) = some (.exc c, μ) := rfl
/-- a comprehension that makes one list that may change -/
theorem lcC_map {A : Type} {it : EvG (List P)} {ts : Tgt} {vs : List Nat} {as : List A} (g f : A → P) (hi : it δ μ = some (.ok (as.map g), ν)) (h : ∀ a ∈ as, ∃ δ1, ts (g a) (wipeS δ vs) = some δ1 ∧ ∀ ξ, e δ1 ξ = some (.ok (.p (f a)), ξ)) (hl : as.length ≤ sizeLine) :
    evLcC it ts evTrue e vs δ μ = some (.ok (.loc ν.length), ν ++ [some (.lst (as.map f))]) := by
  show bindG (it δ μ) (fun xs μ1 => lcEndC μ1.length (lcL ts evTrue e (wipeS δ vs) μ1.length xs (μ1 ++ [some (.lst [])]))) = _
  rw [hi, bindG_ok, lcL_map g f as [] h (by simpa using hl)]
  unfold lcEndC
  dsimp only
  rw [cellL_end rfl, List.nil_append]
  dsimp only
  rw [show ν.length + 1 = (ν ++ [some (MO.lst (as.map f))]).length by simp, List.take_length]
/-- a comprehension over what may change, whose items change nothing -/
theorem lcI_loop {A : Type} {ts : TgtI} {δ0 : Sl} (g : A → It2) (f : A → P) {gd : Gd} (hg : okG ν gd) : ∀ (as : List A) (acc : List P), (∀ a ∈ as, ∃ δ1, ts (g a) δ0 = some δ1 ∧ ∀ ξ, Ext ν ξ → e δ1 ξ = some (.ok (.p (f a)), ξ)) → acc.length + as.length ≤ sizeLine →
    lcI ts evTrue e gd δ0 ν.length (as.map g) (ν ++ [some (.lst acc)]) = some (ν ++ [some (.lst (acc ++ as.map f))])
  | [], acc, h, hl => by
    simp only [List.map_nil, List.append_nil]
    unfold lcI
    exact gIf_pos ((Ext.app _).ok hg)
  | a :: as, acc, h, hl => by
    obtain ⟨δ1, h1, h2⟩ := h a List.mem_cons_self
    have hl' : acc.length < sizeLine := by simp at hl; omega
    have ih := lcI_loop g f hg as (acc ++ [f a]) (fun y hy => h y (List.mem_cons_of_mem _ hy)) (by simp at hl ⊢; omega)
    rw [List.map_cons]
    unfold lcI
    rw [gIf_pos ((Ext.app _).ok hg), h1]
    dsimp only
    rw [evTrue_eq]
    dsimp only
    rw [h2 _ (Ext.app _)]
    dsimp only
    rw [toP_p]
    dsimp only
    rw [cellL_end rfl]
    dsimp only
    rw [if_pos hl', set_end rfl, ih, List.append_assoc]
    rfl
theorem lcI_map {A : Type} {it : EvI} {ts : TgtI} {vs : List Nat} {as : List A} {gd : Gd} (g : A → It2) (f : A → P) (hi : it δ μ = some (.ok (as.map g, gd), ν)) (hg : okG ν gd) (h : ∀ a ∈ as, ∃ δ1, ts (g a) (wipeS δ vs) = some δ1 ∧ ∀ ξ, Ext ν ξ → e δ1 ξ = some (.ok (.p (f a)), ξ)) (hl : as.length ≤ sizeLine) :
    evLcI it ts evTrue e vs δ μ = some (.ok (.p (.lst (as.map f))), ν) := by
  show bindG (it δ μ) (fun xg μ1 => lcEnd μ1.length (lcI ts evTrue e xg.2 (wipeS δ vs) μ1.length xg.1 (μ1 ++ [some (.lst [])]))) = _
  rw [hi, bindG_ok]
  dsimp only
  rw [lcI_loop g f hg as [] h (by simpa using hl)]
  unfold lcEnd
  dsimp only
  rw [cellL_end rfl]
  dsimp only
  rw [List.take_left, List.nil_append]
theorem forI_end {ts : TgtI} {body : SEv} {gd : Gd} {δ : Sl} {μ : Mu} (hg : okG μ gd) : forI ts body gd [] δ μ = some (.nx, δ, μ) := gIf_pos hg
@[simp] theorem sForI_eq {it : EvI} {ts : TgtI} {a : SEv} : sForI it ts a δ μ = bindS (it δ μ) δ fun xg μ1 => forI ts a xg.2 xg.1 δ μ1 := rfl
@[simp] theorem tgNI_one {i : Nat} {d : D} : tgNI i (.one d) δ = some (δ.set i (some d)) := rfl
@[simp] theorem tgTI_two {i j : Nat} {d f : D} : tgTI i j (.two d f) δ = some ((δ.set i (some d)).set j (some f)) := rfl
@[simp] theorem tgUp_one {ts : Tgt} {x : P} : tgUp ts (.one (.p x)) δ = ts x δ := rfl
end
end Vs
namespace Vs
open PySem PySem.Spec PyProof.Rows L2
structure Nok (N : Nat) : Prop where
  pos : 0 < N
  lt : N < 2 ^ 3000
def Cz (N m : Nat) (q : Rat) : Prop := ∃ t : Int, q = Rat.divInt t (N : Int) ∧ Sz m t
section
variable {N m k : Nat} {a b : Rat}
theorem Cz.bz (hN : Nok N) (h : Cz N m a) (hm : m ≤ 200000 := by omega) : Bz 3000 a := by
  obtain ⟨t, rfl, ht⟩ := h
  have h0 : (N : Int) ≠ 0 := by have := hN.pos; omega
  exact ⟨by decide, (num_sz ht).mono (by omega), den_sz (show Sz 3000 (N : Int) by unfold Sz; rw [Int.natAbs_natCast]; exact hN.lt) h0⟩
theorem Cz.mono (h : Cz N m a) (e : m ≤ k) : Cz N k a := by
  obtain ⟨t, e1, ht⟩ := h
  exact ⟨t, e1, ht.mono e⟩
theorem Cz.add (hN : Nok N) (ha : Cz N m a) (hb : Cz N m b) : Cz N (m + 1) (a + b) := by
  obtain ⟨t, rfl, ht⟩ := ha
  obtain ⟨u, rfl, hu⟩ := hb
  have h0 : (N : Int) ≠ 0 := by have := hN.pos; omega
  refine ⟨t + u, ?_, by simpa using ht.add hu⟩
  rw [Rat.divInt_add_divInt _ _ h0 h0, ← Int.add_mul]
  exact Rat.divInt_mul_right h0
theorem Cz.neg (hN : Nok N) (ha : Cz N m a) : Cz N m (-a) := by
  obtain ⟨t, rfl, ht⟩ := ha
  exact ⟨-t, by rw [Rat.neg_divInt], ht.neg⟩
end
def opR : Option Rat → P
  | none => .non
  | some q => rat q
def opQ : Option Rat → P
  | none => .non
  | some q => pr q
@[simp] theorem opR_some {q : Rat} : opR (some q) = rat q := rfl
@[simp] theorem opQ_some {q : Rat} : opQ (some q) = pr q := rfl
@[simp] theorem opR_none : opR none = .non := rfl
@[simp] theorem opQ_none : opQ none = .non := rfl
def omin : Option Rat → Option Rat → Option Rat
  | none, b => b
  | a, none => a
  | some x, some y => some (if y < x then y else x)
def osum : Option Rat → Option Rat → Option Rat
  | some x, some y => some (x + y)
  | _, _ => none
def CzO (N m : Nat) (o : Option Rat) : Prop := ∀ q, o = some q → Cz N m q
section
variable {N m k : Nat} {a b : Option Rat} {μ : Mu}
theorem CzO.mono (h : CzO N m a) (e : m ≤ k) : CzO N k a := fun q hq => (h q hq).mono e
theorem CzO.sum (hN : Nok N) (ha : CzO N m a) (hb : CzO N m b) : CzO N (m + 1) (osum a b) := fun q h => by
  unfold osum at h
  split at h
  · cases h
    exact (ha _ rfl).add hN (hb _ rfl)
  · cases h
@[simp] theorem isNon_rat {q : Rat} : isNon (.p (rat q)) = false := rfl
@[simp] theorem isNon_pr {q : Rat} : isNon (.p (pr q)) = false := rfl
end
abbrev Tf := Nat → Nat → Option Rat
def rwL (n : Nat) (F : Nat → P) : List P := (List.range n).map F
def CzT (N m n : Nat) (f : Tf) : Prop := ∀ i j, i < n → j < n → CzO N m (f i j)
theorem CzT.mono {N m k n : Nat} {f : Tf} (h : CzT N m n f) (e : m ≤ k) : CzT N k n f := fun i j hi hj => (h i j hi hj).mono e
end Vs
namespace Vs
open PySem PySem.Spec PyProof.Rows L2
def f0 (f : Tf) : Tf := fun i j => if i = j then omin (f i i) (some 0) else f i j
def ng (o : Option Rat) : Bool := match o with
  | some q => decide (q < 0)
  | none => false
def neg (n : Nat) (g : Tf) : Bool := (List.range n).any fun i => ng (g i i)
end Vs
namespace Vs
open PySem PySem.Spec PyProof.Rows L2
def rwQ (n : Nat) (h : Nat → Option Rat) : List P := rwL n fun j => opQ (h j)
def tbQ (n : Nat) (f : Tf) : List (List P) := (List.range n).map fun i => rwQ n (f i)
def tqP (n : Nat) (f : Tf) : P := .lst ((tbQ n f).map .lst)
theorem tbQ_get {n i : Nat} {f : Tf} (h : i < n) : (tbQ n f)[i]? = some (rwQ n (f i)) := by
  unfold tbQ; rw [List.getElem?_map, List.getElem?_range h]; rfl
section
variable {μ ν : Mu} {N m n : Nat} {f : Tf} {a b : Option Rat}
/-- a value that shows the table -/
def FAt (μ : Mu) (n : Nat) (d : D) (f : Tf) : Prop := view μ d = some (tqP n f)
theorem FAt.ext {d : D} (h : FAt μ n d f) (e : Ext μ ν) : FAt ν n d f := by
  cases d with
  | p x => exact h
  | loc l =>
    obtain ⟨xs, e1, e2⟩ := view_loc h
    exact (view_l (e.at e2)).trans (by rw [← e1])
theorem FAt.row {d : D} (h : FAt μ n d f) {i : Nat} (hi : i < n) : fIx d (.p (.int (i : Int))) μ = some (.p (.lst (rwQ n (f i))), μ) := by
  rw [fIx_lst h, atI_nat (j := i) (by rw [List.getElem?_map, tbQ_get hi]; rfl)]
  rfl
@[simp] theorem isNon_opQ {o : Option Rat} : isNon (.p (opQ o)) = !o.isSome := by cases o <;> rfl
end
end Vs
namespace Vs
open PySem PySem.Spec PyProof.Rows L2
section
variable {μ ν : Mu} {N m n : Nat} {f fd fs : Tf} {δ : Sl}
/-- a comprehension with a test -/
theorem lcL_filt {A : Type} {ts : Tgt} {t : EvT} {e : Ev} {δ0 : Sl} (g f : A → P) (tst : A → Bool) : ∀ (as : List A) (acc : List P), (∀ a ∈ as, ∃ δ1, ts (g a) δ0 = some δ1 ∧ ∀ ξ, Ext ν ξ → t δ1 ξ = some (.ok (tst a), ξ) ∧ e δ1 ξ = some (.ok (.p (f a)), ξ)) → acc.length + as.length ≤ sizeLine →
    lcL ts t e δ0 ν.length (as.map g) (ν ++ [some (.lst acc)]) = some (ν ++ [some (.lst (acc ++ (as.filter tst).map f))])
  | [], acc, h, hl => by simp [lcL]
  | a :: as, acc, h, hl => by
    obtain ⟨δ1, h1, h2⟩ := h a List.mem_cons_self
    obtain ⟨h3, h4⟩ := h2 (ν ++ [some (.lst acc)]) (Ext.app _)
    have hl' : acc.length < sizeLine := by simp at hl; omega
    rw [List.map_cons]
    unfold lcL
    rw [h1]
    dsimp only
    rw [h3]
    cases q : tst a with
    | false =>
      dsimp only
      rw [lcL_filt g f tst as acc (fun y hy => h y (List.mem_cons_of_mem _ hy)) (by simp at hl ⊢; omega)]
      simp [q]
    | true =>
      dsimp only
      rw [h4]
      dsimp only
      rw [toP_p]
      dsimp only
      rw [cellL_end rfl]
      dsimp only
      rw [if_pos hl', set_end rfl, lcL_filt g f tst as (acc ++ [f a]) (fun y hy => h y (List.mem_cons_of_mem _ hy)) (by simp at hl ⊢; omega)]
      simp [q]
theorem lc_filt {A : Type} {it : EvG (List P)} {ts : Tgt} {t : EvT} {e : Ev} {vs : List Nat} {as : List A} (g f : A → P) (tst : A → Bool) (hi : it δ μ = some (.ok (as.map g), ν)) (h : ∀ a ∈ as, ∃ δ1, ts (g a) (wipeS δ vs) = some δ1 ∧ ∀ ξ, Ext ν ξ → t δ1 ξ = some (.ok (tst a), ξ) ∧ e δ1 ξ = some (.ok (.p (f a)), ξ)) (hl : as.length ≤ sizeLine) :
    evLc it ts t e vs δ μ = some (.ok (.p (.lst ((as.filter tst).map f))), ν) := by
  rw [evLc_eq, hi, bindG_ok, lcL_filt g f tst as [] h (by simpa using hl)]
  unfold lcEnd
  dsimp only
  rw [cellL_end rfl]
  dsimp only
  rw [List.take_left, List.nil_append]
/-- a comprehension whose items read what may change -/
theorem lc_mapE {A : Type} {it : EvG (List P)} {ts : Tgt} {e : Ev} {vs : List Nat} {as : List A} (g f : A → P) (hi : it δ μ = some (.ok (as.map g), ν)) (h : ∀ a ∈ as, ∃ δ1, ts (g a) (wipeS δ vs) = some δ1 ∧ ∀ ξ, Ext ν ξ → e δ1 ξ = some (.ok (.p (f a)), ξ)) (hl : as.length ≤ sizeLine) :
    evLc it ts evTrue e vs δ μ = some (.ok (.p (.lst (as.map f))), ν) := by
  have := lc_filt (t := evTrue) (e := e) g f (fun _ => true) hi (fun a ha => by
    obtain ⟨δ1, h1, h2⟩ := h a ha
    exact ⟨δ1, h1, fun ξ ex => ⟨rfl, h2 ξ ex⟩⟩) hl
  rwa [List.filter_eq_self.mpr (fun _ _ => rfl)] at this
def oT (n : Nat) : Option Tf → P
  | none => .non
  | some g => tqP n g
end
end Vs
namespace Vs
open PySem PySem.Spec PyProof.Rows L2
def RowAt (μ : Mu) (d : D) (R : List P) : Prop := d = .p (.lst R) ∨ ∃ k, d = .loc k ∧ μ[k]? = some (some (.lst R))
def TabAt (μ : Mu) (d : D) (Rs : List (List P)) : Prop := d = .p (.lst (Rs.map .lst)) ∨ (∃ k, d = .loc k ∧ μ[k]? = some (some (.lst (Rs.map .lst)))) ∨ ∃ n0 l ks, d = .loc l ∧ Live n0 μ l Rs ks
section
variable {μ ν : Mu} {d : D} {R : List P} {Rs : List (List P)}
theorem RowAt.ext (h : RowAt μ d R) (e : Ext μ ν) : RowAt ν d R := h.elim .inl fun ⟨k, h1, h2⟩ => .inr ⟨k, h1, e.at h2⟩
theorem TabAt.ext (h : TabAt μ d Rs) (e : Ext μ ν) : TabAt ν d Rs := h.elim .inl fun h => .inr (h.elim (fun ⟨k, h1, h2⟩ => .inl ⟨k, h1, e.at h2⟩) fun ⟨n0, l, ks, h1, h2⟩ => .inr ⟨n0, l, ks, h1, h2.ext e⟩)
theorem RowAt.items (h : RowAt μ d R) : ∃ g, okG μ g ∧ ∀ ν, Ext μ ν → items ν d = some (false, R.map .p, g) ∧ isiVEnd (isiT 1 "list") ν (kindD ν d) = some (.ok (.p (.bl true)), ν) := by
  rcases h with rfl | ⟨k, rfl, h⟩
  · exact ⟨none, trivial, fun ν _ => ⟨rfl, isiVEnd_some rfl⟩⟩
  · refine ⟨_, show okG μ (some (k, .lst R)) from h, fun ν ex => ⟨items_lst (ex.at h), ?_⟩⟩
    have : kindD ν (.loc k) = some (.lst []) := by unfold kindD; dsimp only; rw [ex.at h]
    rw [this]
    exact isiVEnd_some rfl
theorem TabAt.items (h : TabAt μ d Rs) : ∃ ds g, okG μ g ∧ (∀ ν, Ext μ ν → items ν d = some (false, ds, g) ∧ isiVEnd (isiT 1 "list") ν (kindD ν d) = some (.ok (.p (.bl true)), ν)) ∧ ds.length = Rs.length ∧ ∀ (i : Nat) (R : List P), Rs[i]? = some R → ∃ e, ds[i]? = some e ∧ RowAt μ e R := by
  rcases h with rfl | ⟨k, rfl, h⟩ | ⟨n0, l, ks, rfl, L⟩
  · exact ⟨_, none, trivial, fun ν _ => ⟨rfl, isiVEnd_some rfl⟩, by simp, fun i R hi => ⟨.p (.lst R), by simp [hi], .inl rfl⟩⟩
  · refine ⟨_, _, show okG μ (some (k, .lst (Rs.map .lst))) from h, fun ν ex => ⟨items_lst (ex.at h), ?_⟩, by simp, fun i R hi => ⟨.p (.lst R), by simp [hi], .inl rfl⟩⟩
    have : kindD ν (.loc k) = some (.lst []) := by unfold kindD; dsimp only; rw [ex.at h]
    rw [this]
    exact isiVEnd_some rfl
  · refine ⟨_, _, show okG μ (some (l, .dl (ks.map .loc))) from L.at', fun ν ex => ⟨items_live (L.ext ex), ?_⟩, by rw [List.length_map, L.len], fun i R hi => ?_⟩
    · have : kindD ν (.loc l) = some (.lst []) := by unfold kindD; dsimp only; rw [ex.at L.at']
      rw [this]
      exact isiVEnd_some rfl
    · obtain ⟨k, h1, h2⟩ := L.get hi
      exact ⟨.loc k, by rw [List.getElem?_map, h1]; rfl, .inr ⟨k, rfl, h2⟩⟩
@[simp] theorem isNon_opR {o : Option Rat} : isNon (.p (opR o)) = !o.isSome := by cases o <;> rfl
end
end Vs
namespace Vs
inductive Wk (n : Nat) (f : Tf) : Nat → Nat → Nat → Rat → Prop
  | nil {i : Nat} : i < n → Wk n f 0 i i 0
  | cons {m i k j : Nat} {x w : Rat} : i < n → f i k = some x → Wk n f m k j w → Wk n f (m + 1) i j (x + w)
/-- a is at most w -/
def ole (a : Option Rat) (w : Rat) : Prop := ∃ x, a = some x ∧ x ≤ w
section
variable {n : Nat} {f g h : Tf}
theorem ole.le {a : Option Rat} {v w : Rat} (h : ole a v) (e : v ≤ w) : ole a w := let ⟨x, h1, h2⟩ := h; ⟨x, h1, by grind⟩
theorem ole_omin_l {a b : Option Rat} {w : Rat} (h : ole a w) : ole (omin a b) w := by
  obtain ⟨x, rfl, h⟩ := h
  cases b with
  | none => exact ⟨x, rfl, h⟩
  | some y =>
    refine ⟨_, rfl, ?_⟩
    split <;> grind
theorem ole_omin_r {a b : Option Rat} {w : Rat} (h : ole b w) : ole (omin a b) w := by
  obtain ⟨x, rfl, h⟩ := h
  cases a with
  | none => exact ⟨x, rfl, h⟩
  | some y =>
    refine ⟨_, rfl, ?_⟩
    split <;> grind
theorem Wk.lt {m i j : Nat} {w : Rat} (h : Wk n f m i j w) : i < n := by cases h <;> assumption
theorem Wk.lt2 {m i j : Nat} {w : Rat} (h : Wk n f m i j w) : j < n := by
  induction h with
  | nil h => exact h
  | cons _ _ _ ih => exact ih
theorem Wk.app {m m' i k j : Nat} {w w' : Rat} (h : Wk n f m i k w) (h2 : Wk n f m' k j w') : Wk n f (m + m') i j (w + w') := by
  induction h with
  | nil h => rw [Nat.zero_add, Rat.zero_add]; exact h2
  | cons h1 h3 h4 ih =>
    rename_i m i k' j x w
    have := Wk.cons h1 h3 (ih h2)
    rw [show m + 1 + m' = m + m' + 1 by omega, Rat.add_assoc]
    exact this
theorem Wk.one {i j : Nat} {x : Rat} (hi : i < n) (hj : j < n) (h : f i j = some x) : Wk n f 1 i j x := by
  have := Wk.cons hi h (Wk.nil hj)
  rwa [Rat.add_zero] at this
/-- each entry is the sum of a way -/
def Snd (n : Nat) (f g : Tf) : Prop := ∀ i j x, i < n → j < n → g i j = some x → ∃ m, Wk n f m i j x
/-- no entry is greater than the sum by way of a k before K -/
def Tri (n K : Nat) (g : Tf) : Prop := ∀ i j k x y, i < n → j < n → k < K → g i k = some x → g k j = some y → ole (g i j) (x + y)
def LeT (n : Nat) (f g : Tf) : Prop := ∀ i j x, i < n → j < n → f i j = some x → ole (g i j) x
theorem LeT.trans (h1 : LeT n f g) (h2 : LeT n g h) : LeT n f h := fun i j x hi hj e => by
  obtain ⟨y, e1, l1⟩ := h1 i j x hi hj e
  exact (h2 i j y hi hj e1).le l1
structure Cl (n : Nat) (f g : Tf) : Prop where
  snd : Snd n f g
  low : ∀ m i j w, Wk n f m i j w → ole (g i j) w
theorem f0_le : LeT n f (f0 f) := fun i j x hi hj h => by
  unfold f0
  split
  · rename_i q; subst q; exact ole_omin_l ⟨x, h, by grind⟩
  · exact ⟨x, h, by grind⟩
theorem f0_diag {i : Nat} : ole (f0 f i i) 0 := by
  unfold f0
  rw [if_pos rfl]
  exact ole_omin_r ⟨0, rfl, by grind⟩
/-- what the program's closing gives -/
structure FinT (n : Nat) (f g : Tf) : Prop where
  snd : Snd n f g
  tri : Tri n n g
  le : LeT n (f0 f) g
  nn : ∀ i, i < n → ∃ q, g i i = some q ∧ 0 ≤ q
theorem FinT.cl (F : FinT n f g) : Cl n f g := ⟨F.snd, fun m i j w h => by
  induction h with
  | nil h =>
    obtain ⟨x, e, l⟩ := f0_diag (f := f)
    exact (F.le _ _ x h h e).le l
  | cons h1 h2 h3 ih =>
    obtain ⟨x, e, l⟩ := f0_le _ _ _ h1 h3.lt h2
    obtain ⟨y, e1, l1⟩ := F.le _ _ x h1 h3.lt e
    obtain ⟨z, e2, l2⟩ := ih
    exact (F.tri _ _ _ y z h1 h3.lt2 h3.lt e1 e2).le (by grind)⟩
end
end Vs
namespace Vs
open PySem PySem.Spec PyProof.Rows L2
/-- plain data that is equal to itself -/
def Pln (k : Nat) (x : P) : Prop := ∃ d, toPD x = some d ∧ PyData.canLay0 d = true ∧ d.depth ≤ k ∧ PyData.eqv d d = true
def PlnL (k : Nat) (xs : List P) : Prop := ∃ ds, toPDs xs = some ds ∧ PyData.canLayAll0 ds = true ∧ PyData.depthAll ds ≤ k ∧ PyData.eqvAll ds ds = true
theorem plnL {k : Nat} : ∀ {xs : List P}, (∀ x ∈ xs, Pln k x) → PlnL k xs
  | [], _ => ⟨[], rfl, by simp [PyData.canLayAll0], by simp [PyData.depthAll], by simp [PyData.eqvAll]⟩
  | x :: xs, h => by
    obtain ⟨d, h1, h2, h3, h4⟩ := h x List.mem_cons_self
    obtain ⟨ds, g1, g2, g3, g4⟩ := plnL fun y hy => h y (List.mem_cons_of_mem _ hy)
    refine ⟨d :: ds, by simp [toPDs, h1, g1], by simp [PyData.canLayAll0, h2, g2], by simp only [PyData.depthAll]; omega, by simp [PyData.eqvAll, h4, g4]⟩
theorem pln_int {k : Nat} {i : Int} : Pln k (.int i) := ⟨.int i, rfl, by simp [PyData.canLay0], by simp [PyData.depth], by simp [PyData.eqv]⟩
theorem pln_tup {k : Nat} {xs : List P} (h : ∀ x ∈ xs, Pln k x) : Pln (k + 1) (.tup xs) := by
  obtain ⟨ds, g1, g2, g3, g4⟩ := plnL h
  exact ⟨.tuple ds, by simp [toPD, g1], by simp [PyData.canLay0, g2], by simp only [PyData.depth]; omega, by simp [PyData.eqv, g4]⟩
theorem pln_lst {k : Nat} {xs : List P} (h : ∀ x ∈ xs, Pln k x) : Pln (k + 1) (.lst xs) := by
  obtain ⟨ds, g1, g2, g3, g4⟩ := plnL h
  exact ⟨.list ds, by simp [toPD, g1], by simp [PyData.canLay0, g2], by simp only [PyData.depth]; omega, by simp [PyData.eqv, g4]⟩
theorem eqP_self {x : P} (h : Pln 64 x) : eqP x x = some true := by
  obtain ⟨d, h1, h2, h3, h4⟩ := h
  have hd : eqDeep x x = some true := by
    unfold eqDeep
    rw [h1]
    dsimp only
    have hs : SeqAt.shaped d = true := by unfold SeqAt.shaped; rw [h2]; simpa using h3
    rw [hs, h4]
    rfl
  unfold eqP
  cases x <;> first | exact hd | (simp [eqAt])
theorem Pln.mono {k m : Nat} {x : P} (h : Pln k x) (e : k ≤ m) : Pln m x := let ⟨d, a, b, c, f⟩ := h; ⟨d, a, b, Nat.le_trans c e, f⟩
def dn : Option Rat → Nat
  | none => 1
  | some q => q.den
theorem pr_int (k : Int) : pr (k : Rat) = .tup [.int k, .int 1] := rfl
theorem draw0 {s : SS} (many : Int) (hs : s.Ok) (hm : 0 < many := by decide) (hz : many.natAbs.log2 < 9000 := by decide) :
    ∃ v s', SS.Ok s' ∧ 0 ≤ v ∧ v < many ∧ ∀ r : Mu, m__law_draw [.loc 0, .p (.int many)] (st s :: r) = some (.ok (.p (.int v)), st s' :: r) := by
  obtain ⟨v, s', o, l, u, e⟩ := draw_ex many hs hm hz
  exact ⟨v, s', o, l, u, fun r => e (μ := none :: r) (l := 0) (by simp)⟩
theorem draw0n {s : SS} {n : Nat} (hs : s.Ok) (hn : 0 < n) (h2 : n < 1000) :
    ∃ v : Nat, ∃ s', SS.Ok s' ∧ v < n ∧ ∀ r : Mu, m__law_draw [.loc 0, .p (.int (n : Int))] (st s :: r) = some (.ok (.p (.int (v : Int))), st s' :: r) := by
  obtain ⟨v, s', o, l, u, e⟩ := draw0 (n : Int) hs (by omega) (Nat.lt_of_lt_of_le (PySem.Flt.log2_lt_of (k := 10) (by decide) (by omega)) (by decide))
  exact ⟨v.toNat, s', o, by omega, fun r => by rw [e r, show ((v.toNat : Nat) : Int) = v by omega]⟩
end Vs
namespace Vs
open PySem PySem.Spec PyProof.Rows L2
variable {α : Amb} {W : WX} {X : Cx}
theorem Sq.here {G : Hp} {ρ : List Addr} {σ : L2.St} {δ : Sl} (s : Sq α G ρ σ δ) {v : V} {d : D} {i : Nat} (h : σ[i]? = some (some v)) (r : RepD α G ρ v d) : Sq α G ρ σ (δ.set i (some d)) := by
  refine ⟨by rw [List.length_set]; exact s.len, fun j x e => ?_⟩
  by_cases q : i = j
  · subst q
    have hl : i < δ.length := by
      have := (List.getElem?_eq_some_iff.mp e).1
      rw [List.length_set] at this
      exact this
    rw [List.getElem?_set_self hl] at e
    cases e
    exact ⟨v, h, r⟩
  · rw [List.getElem?_set_ne q] at e
    exact s.get j x e
noncomputable def frzSlot (i : Nat) (δ : Sl) (μ : Mu) : Option (Option D) → Option (Fl × Sl × Mu)
  | some (some d) => match frzD μ d with
    | some (x, μ') => some (.nx, δ.set i (some (.p x)), μ')
    | none => none
  | _ => none
noncomputable def sFrzS (i : Nat) : SEv := fun δ μ => frzSlot i δ μ δ[i]?
theorem v_pre (i : Nat) {st : Stmt} {a : SEv} (h : PS X st (tS α W a)) : PS X st (tS α W (seqS (sFrzS i) a)) :=
  PS.imp h fun Dn σ H ⟨G, ρ, δ, μ, z, s, p⟩ => by
    have e : seqS (sFrzS i) a δ μ = match frzSlot i δ μ δ[i]? with | some (.nx, δ', μ') => a δ' μ' | r => r := rfl
    rw [e] at p
    cases q : δ[i]? with
    | none => rw [q] at p; exact p.elim
    | some o =>
      cases o with
      | none => rw [q] at p; exact p.elim
      | some d =>
        rw [q] at p
        cases q2 : frzD μ d with
        | none => simp only [frzSlot, q2] at p; exact p.elim
        | some y =>
          obtain ⟨x, μ'⟩ := y
          simp only [frzSlot, q2] at p
          obtain ⟨v, hv, r⟩ := s.get i d q
          obtain ⟨G2, u2, z2, r2⟩ := frzD_ok z r q2
          exact ⟨G2, ρ, δ.set i (some (.p x)), μ', z2, (s.up u2).here hv r2, SPost.up (r := a (δ.set i (some (.p x))) μ') p u2⟩
theorem sFrzS_at {i : Nat} {δ : Sl} {μ μ' : Mu} {d : D} {x : P} (h : δ[i]? = some (some d)) (e : frzD μ d = some (x, μ')) : sFrzS i δ μ = some (.nx, δ.set i (some (.p x)), μ') := by
  unfold sFrzS
  rw [h]
  simp only [frzSlot, e]
end Vs
namespace Vs
open PySem PySem.Spec PyProof.Rows L2
section
variable {α : Amb} {W : WX} {X : Cx}
/-- a list, as a test -/
def evTruL (a : Ev) : EvT := fun δ μ => bindG (a δ μ) fun x μ1 => match lstOf μ1 x with
  | some xs => some (.ok (!xs.isEmpty), μ1)
  | none => none
theorem v_truL {e : Expr} {ea : Ev} (hK : X.K = α.K) (h : PE X e (tV α W ea)) (he : ∀ whole, isTrue e X.env whole = (do let v ← whole; standAt e.pos; holding [v] (truthy v)) := by intro _; rfl) : PT X e (tVt α W (evTruL ea)) :=
  PT.imp (pt_truth h he) fun σ H Q ⟨G, ρ, δ, μ, z, s, p⟩ => ⟨G, ρ, δ, μ, z, s, Post.bind p fun x μ1 v H1 G1 ρ1 u z1 r1 p1 => by
    split at p1
    · rename_i xs hx
      obtain ⟨a, vs, rfl, h1, h2⟩ := lst_of z1 r1 hx
      exact ⟨!xs.isEmpty, .inl ⟨vs, by rw [hK]; exact h1, by rw [reps_empty h2]⟩, p1 _ H1 G1 ρ1 Up.refl z1 rfl⟩
    · exact p1.elim⟩
/-- xs[::-1] -/
def evRevL (a : Ev) : Ev := fun δ μ => bindG (a δ μ) fun x μ1 => match lstOf μ1 x with
  | some xs => some (.ok (.p (.lst xs.reverse)), μ1)
  | none => none
theorem Reps.reverse {G : Hp} : ∀ {vs : List V} {xs : List P}, Reps α G vs xs → Reps α G vs.reverse xs.reverse
  | _, _, .nil => .nil
  | _, _, .cons h t => by
    rw [List.reverse_cons, List.reverse_cons]
    exact Reps.append (Reps.reverse t) (.cons h .nil)
theorem v_revL {e : Expr} {k : Nat} {p1 p2 p3 pos : Pos} {ea : Ev} (hK : X.K = α.K) (h : PE X e (tV α W ea)) : PE X (.Subscript e (.Slice none none (some (.UnaryOp .USub (.Constant (.int 1) k p1) p2)) p3) pos) (tV α W (evRevL ea)) :=
  PE.imp (pe_revL h) fun σ H Q ⟨G, ρ, δ, μ, z, s, p⟩ => ⟨G, ρ, δ, μ, z, s, Post.bind p fun x μ1 v H1 G1 ρ1 u z1 r1 p1 => by
    split at p1
    · rename_i xs hx
      obtain ⟨a, vs, rfl, h1, h2⟩ := lst_of z1 r1 hx
      exact ⟨a, vs, rfl, by rw [hK]; exact h1, fun q hq => p1 _ _ _ _ (up_new (z1.free hq)) (z1.new hq _) (.lst upd_same (Reps.mono (same_upd (z1.free hq)) h2.reverse))⟩
    · exact p1.elim⟩
end
section
variable {δ : Sl} {μ : Mu} {e : Ev}
def truLEnd (μ : Mu) : Option (List P) → Option (Out Bool × Mu)
  | some xs => some (.ok (!xs.isEmpty), μ)
  | none => none
@[simp] theorem evTruL_eq : evTruL e δ μ = bindG (e δ μ) fun x μ1 => truLEnd μ1 (lstOf μ1 x) := rfl
@[simp] theorem truLEnd_some {xs : List P} : truLEnd μ (some xs) = some (.ok (!xs.isEmpty), μ) := rfl
def revLEnd (μ : Mu) : Option (List P) → Option (Out D × Mu)
  | some xs => some (.ok (.p (.lst xs.reverse)), μ)
  | none => none
@[simp] theorem evRevL_eq : evRevL e δ μ = bindG (e δ μ) fun x μ1 => revLEnd μ1 (lstOf μ1 x) := rfl
@[simp] theorem revLEnd_some {xs : List P} : revLEnd μ (some xs) = some (.ok (.p (.lst xs.reverse)), μ) := rfl
end
end Vs
namespace Vs
open PySem PySem.Spec PyProof.Rows L2
structure TxR (K : PySem.W.Frag) (mg : Str → Option Value) (cs : List Addr) : Prop extends Tx K mg cs where
  b_lcm : mg "lcm" = some (.builtin "math.lcm")
  b_zip : mg "zip" = none
  b_enumerate : mg "enumerate" = none
  b_any : mg "any" = none
  b_all : mg "all" = none
  b_sum : mg "sum" = none
  b_repr : mg "repr" = none
end Vs
namespace Vs
open PySem PySem.Spec PyProof.Rows L2
noncomputable abbrev lb__law_divisor_0 : SEv := (seqS (sIf (evB (evBin fEq (evV 1) (evC (.int 0)))) sBrk sNil) (sPar 0 1 (evCons (evV 1) (evCons (evBin fMod (evBI fInt (evCons (evV 0) evNil)) (evV 1)) evNil))))
noncomputable def sv__law_divisor : SEv := (seqS (sSet 0 (evBI fAbs (evCons (evV 0) evNil))) (seqS (sSet 1 (evBI fAbs (evCons (evV 1) evNil))) (seqS (sFor (evRng1 (evC (.int 5000))) (tgN 2) (seqS (sIf (evB (evBin fEq (evV 1) (evC (.int 0)))) sBrk sNil) (sPar 0 1 (evCons (evV 1) (evCons (evBin fMod (evBI fInt (evCons (evV 0) evNil)) (evV 1)) evNil))))) (sRet (evV 0)))))
noncomputable def m__law_divisor : FSem := arF 2 (bodySem 3 sv__law_divisor)
theorem ar__law_divisor : Arity m__law_divisor 2 := arF_ar
theorem le__law_divisor : ∀ ds μ r, m__law_divisor ds μ = some r → bodySem 3 sv__law_divisor ds μ = some r := arF_le
noncomputable def sv__law_q : SEv := (seqS (sIf (evB (evBin fLt (evV 1) (evC (.int 0)))) (seqS (sSet 0 (evUn fNeg (evV 0))) (sSet 1 (evUn fNeg (evV 1)))) sNil) (seqS (sSet 2 (evCall m__law_divisor [] (evCons (evV 0) (evCons (evV 1) evNil)))) (sRet (evTup (evCons (evBin fDiv (evV 0) (evV 2)) (evCons (evBin fDiv (evV 1) (evV 2)) evNil))))))
noncomputable def m__law_q : FSem := arF 2 (bodySem 3 sv__law_q)
theorem ar__law_q : Arity m__law_q 2 := arF_ar
theorem le__law_q : ∀ ds μ r, m__law_q ds μ = some r → bodySem 3 sv__law_q ds μ = some r := arF_le
noncomputable def sv__law_rnumber : SEv := (seqS (sIf (evB (evBin fEq (evCall m__law_draw [] (evCons (evV 0) (evCons (evC (.int 2)) evNil))) (evC (.int 0)))) (sRet (evTup (evCons (evBin fSub (evCall m__law_draw [] (evCons (evV 0) (evCons (evC (.int 9)) evNil))) (evC (.int 4))) (evCons (evC (.int 1)) evNil)))) sNil) (sRet (evCall m__law_q [] (evCons (evBin fSub (evCall m__law_draw [] (evCons (evV 0) (evCons (evC (.int 19)) evNil))) (evC (.int 9))) (evCons (evBin fAdd (evC (.int 1)) (evCall m__law_draw [] (evCons (evV 0) (evCons (evC (.int 6)) evNil)))) evNil)))))
noncomputable def m__law_rnumber : FSem := arF 1 (bodySem 1 sv__law_rnumber)
theorem ar__law_rnumber : Arity m__law_rnumber 1 := arF_ar
theorem le__law_rnumber : ∀ ds μ r, m__law_rnumber ds μ = some r → bodySem 1 sv__law_rnumber ds μ = some r := arF_le
noncomputable def sv__law_as : SEv := (sRet (evMake 0 2 m_Ratiou_initu [] (evCons (evBin fIx (evV 0) (evC (.int 0))) (evCons (evBin fIx (evV 0) (evC (.int 1))) evNil))))
noncomputable def m__law_as : FSem := arF 1 (bodySem 1 sv__law_as)
theorem ar__law_as : Arity m__law_as 1 := arF_ar
theorem le__law_as : ∀ ds μ r, m__law_as ds μ = some r → bodySem 1 sv__law_as ds μ = some r := arF_le
noncomputable def sv__law_form_as : SEv := (sRet (evTup (evCons (evBI fTupOf (evCons (evLc (evIt (evBin fIx (evV 0) (evC (.int 0)))) (tgN 1) evTrue (evCall m__law_as [] (evCons (evV 1) evNil)) [1]) evNil)) (evCons (evCall m__law_as [] (evCons (evBin fIx (evV 0) (evC (.int 1))) evNil)) evNil))))
noncomputable def m__law_form_as : FSem := arF 1 (bodySem 2 sv__law_form_as)
theorem ar__law_form_as : Arity m__law_form_as 1 := arF_ar
theorem le__law_form_as : ∀ ds μ r, m__law_form_as ds μ = some r → bodySem 2 sv__law_form_as ds μ = some r := arF_le
noncomputable def sv__law_rpair : SEv := (seqS (sIf (tNotV (evB (evIsiV (isiO 0) (evV 0)))) (sRet (evC .non)) sNil) (sRet (evTup (evCons (evUn (fFld 0 0) (evV 0)) (evCons (evUn (fFld 0 1) (evV 0)) evNil)))))
noncomputable def m__law_rpair : FSem := arF 1 (bodySem 1 sv__law_rpair)
theorem ar__law_rpair : Arity m__law_rpair 1 := arF_ar
theorem le__law_rpair : ∀ ds μ r, m__law_rpair ds μ = some r → bodySem 1 sv__law_rpair ds μ = some r := arF_le
noncomputable def sv__law_add : SEv := (sRet (evCall m__law_q [] (evCons (evBin fAdd (evBin fMul (evBin fIx (evV 0) (evC (.int 0))) (evBin fIx (evV 1) (evC (.int 1)))) (evBin fMul (evBin fIx (evV 1) (evC (.int 0))) (evBin fIx (evV 0) (evC (.int 1))))) (evCons (evBin fMul (evBin fIx (evV 0) (evC (.int 1))) (evBin fIx (evV 1) (evC (.int 1)))) evNil))))
noncomputable def m__law_add : FSem := arF 2 (bodySem 2 sv__law_add)
theorem ar__law_add : Arity m__law_add 2 := arF_ar
theorem le__law_add : ∀ ds μ r, m__law_add ds μ = some r → bodySem 2 sv__law_add ds μ = some r := arF_le
noncomputable def sv__law_mul : SEv := (sRet (evCall m__law_q [] (evCons (evBin fMul (evBin fIx (evV 0) (evC (.int 0))) (evBin fIx (evV 1) (evC (.int 0)))) (evCons (evBin fMul (evBin fIx (evV 0) (evC (.int 1))) (evBin fIx (evV 1) (evC (.int 1)))) evNil))))
noncomputable def m__law_mul : FSem := arF 2 (bodySem 2 sv__law_mul)
theorem ar__law_mul : Arity m__law_mul 2 := arF_ar
theorem le__law_mul : ∀ ds μ r, m__law_mul ds μ = some r → bodySem 2 sv__law_mul ds μ = some r := arF_le
noncomputable abbrev lb__law_value_0 : SEv := (sSet 2 (evCall m__law_add [] (evCons (evV 2) (evCons (evCall m__law_mul [] (evCons (evBin fIx (evBin fIx (evV 0) (evC (.int 0))) (evV 3)) (evCons (evBin fIx (evV 1) (evV 3)) evNil))) evNil))))
noncomputable def sv__law_value : SEv := (seqS (sSet 2 (evBin fIx (evV 0) (evC (.int 1)))) (seqS (sFor (evRng1 (evBI fLen (evCons (evV 1) evNil))) (tgN 3) (sSet 2 (evCall m__law_add [] (evCons (evV 2) (evCons (evCall m__law_mul [] (evCons (evBin fIx (evBin fIx (evV 0) (evC (.int 0))) (evV 3)) (evCons (evBin fIx (evV 1) (evV 3)) evNil))) evNil))))) (sRet (evV 2))))
noncomputable def m__law_value : FSem := arF 2 (bodySem 4 sv__law_value)
theorem ar__law_value : Arity m__law_value 2 := arF_ar
theorem le__law_value : ∀ ds μ r, m__law_value ds μ = some r → bodySem 4 sv__law_value ds μ = some r := arF_le
end Vs
namespace Vs
open PySem PySem.Spec PyProof.Rows L2
section
variable {μ : Mu} {δ : Sl}
theorem div_loop : ∀ (xs : List P) (a b : Nat) (c : Option D) (μ : Mu), ∃ b' c', forL (tgN 2) lb__law_divisor_0 xs
    [some (.p (.int (a : Int))), some (.p (.int (b : Int))), c] μ = some (.nx, [some (.p (.int (eu xs.length a b : Nat))), b', c'], μ)
  | [], a, b, c, μ => ⟨_, _, rfl⟩
  | x :: xs, a, b, c, μ => by
    by_cases hb : b = 0
    · subst hb
      refine ⟨some (.p (.int 0)), some (.p x), ?_⟩
      rw [forL]
      simp [tgN, eu]
    · have hb' : ¬ ((b : Int) = 0) := by omega
      obtain ⟨b', c', e⟩ := div_loop xs b (a % b) (some (.p x)) μ
      refine ⟨b', c', ?_⟩
      have em : (a : Int).fmod (b : Int) = ((a % b : Nat) : Int) := by rw [Int.fmod_eq_emod_of_nonneg _ (by omega)]; rfl
      rw [forL]
      simp only [tgN, List.set_cons_succ, List.set_cons_zero]
      rw [Int.natCast_emod] at e
      simp [hb', em, e, eu, hb]
theorem ev_divisor {a b : Int} (hb : Sz 2400 b) : m__law_divisor [.p (.int a), .p (.int b)] μ = some (.ok (.p (.int (Nat.gcd a.natAbs b.natAbs : Nat))), μ) := by
  obtain ⟨b', c', e⟩ := div_loop (rangeP 0 5000) a.natAbs b.natAbs none μ
  have hlen : (rangeP 0 5000).length = 5000 := by simp [rangeP]
  rw [hlen, eu_gcd 2400 5000 _ _ hb (by decide)] at e
  have hr : rngOk 5000 = true := by decide
  simp [m__law_divisor, arF, bodySem_eq, sv__law_divisor, abs_nat, hr, e]
theorem ev_q {n d : Int} (hd : d ≠ 0) (hs : Sz 2400 d) : m__law_q [.p (.int n), .p (.int d)] μ = some (.ok (.p (pr (Rat.divInt n d))), μ) := by
  have hg : (Nat.gcd n.natAbs d.natAbs).log2 < 9000 := Nat.lt_of_lt_of_le (PySem.Flt.log2_lt_of (by decide) (gcd_sz hs hd)) (by decide)
  have g0 : (Nat.gcd n.natAbs d.natAbs : Int) ≠ 0 := gcd_ne hd
  have hk : ∀ (i : Int), divOk i (Nat.gcd n.natAbs d.natAbs : Int) = true := fun i => divOk_of g0 (by simpa using hg)
  by_cases hn : d < 0
  · have q := qn_eq (n := -n) (d := -d) (by omega)
    rw [Rat.neg_divInt_neg] at q
    unfold qn at q
    rw [if_neg (by omega)] at q
    simp only [Int.natAbs_neg] at q
    simp [m__law_q, arF, bodySem_eq, sv__law_q, hn, ev_divisor hs.neg, hk, pr]
    exact Prod.ext_iff.mp q
  · have q := qn_eq (n := n) hd
    unfold qn at q
    rw [if_neg hn] at q
    simp [m__law_q, arF, bodySem_eq, sv__law_q, hn, ev_divisor hs, hk, pr]
    exact Prod.ext_iff.mp q
variable {a b : Rat} {n m : Nat}
theorem ev_radd (ha : Bz n a) (hb : Bz m b) (h : n + m ≤ 2400) : m__law_add [.p (pr a), .p (pr b)] μ = some (.ok (.p (pr (a + b))), μ) := by
  have e := ev_q (n := a.num * (b.den : Int) + b.num * (a.den : Int)) (d := (a.den : Int) * (b.den : Int)) (μ := μ) (mul_ne (den_ne a) (den_ne b)) ((ha.2.2.mul hb.2.2).mono h)
  rw [add_eq] at e
  unfold pr at e ⊢
  simp [m__law_add, arF, bodySem_eq, sv__law_add, ok1 ha hb (by omega), ok1 hb ha (by omega), ok2 ha hb (by omega), e]
theorem ev_rmul (ha : Bz n a) (hb : Bz m b) (h : n + m ≤ 2400) : m__law_mul [.p (pr a), .p (pr b)] μ = some (.ok (.p (pr (a * b))), μ) := by
  have e := ev_q (n := a.num * b.num) (d := (a.den : Int) * (b.den : Int)) (μ := μ) (mul_ne (den_ne a) (den_ne b)) ((ha.2.2.mul hb.2.2).mono h)
  rw [mul_eq] at e
  unfold pr at e ⊢
  simp [m__law_mul, arF, bodySem_eq, sv__law_mul, ok3 ha hb (by omega), ok2 ha hb (by omega), e]
theorem ev_ras (ha : Bz n a) (h : n ≤ 9000) : m__law_as [.p (pr a)] μ = some (.ok (.p (rat a)), μ) := by
  have e := ev_mk' (n := a.num) (d := (a.den : Int)) (μ := μ) (den_ne a) ha.2.2 h ha.1
  rw [Rat.num_divInt_den] at e
  unfold pr
  simp [m__law_as, arF, bodySem_eq, sv__law_as, e]
theorem ev_rpair : m__law_rpair [.p (rat a)] μ = some (.ok (.p (pr a)), μ) := by
  have h : isiVEnd (isiO 0) μ (some (rat a)) = some (.ok (.p (.bl true)), μ) := isiVEnd_some rfl
  unfold rat at h ⊢
  simp [m__law_rpair, arF, bodySem_eq, sv__law_rpair, pr, h]
end
end Vs
namespace Vs
open PySem PySem.Spec PyProof.Rows L2
section
variable {δ : Sl}
theorem set_self {ν : Mu} {l : Nat} {o : Option MO} (h : ν[l]? = some o) : ν.set l o = ν := by
  apply List.ext_getElem?
  intro i
  by_cases hi : l = i
  · subst hi
    rw [List.getElem?_set_self (List.getElem?_eq_some_iff.mp h).1, h]
  · rw [List.getElem?_set_ne hi]
theorem take_of_set {ν : Mu} {l n : Nat} {o : Option MO} : (ν.set l o).take n = (ν.take n).set l o := by
  apply List.ext_getElem?
  intro i
  by_cases hn : i < n
  · rw [List.getElem?_take_of_lt hn]
    by_cases hi : l = i
    · subst hi
      rw [List.getElem?_set, List.getElem?_set]
      simp only [if_true, List.length_take]
      by_cases q : l < ν.length
      · rw [if_pos q, if_pos (by omega)]
      · rw [if_neg q, if_neg (by omega)]
    · rw [List.getElem?_set_ne hi, List.getElem?_set_ne hi, List.getElem?_take_of_lt hn]
  · rw [List.getElem?_eq_none (by rw [List.length_take]; omega), List.getElem?_eq_none (by rw [List.length_set, List.length_take]; omega)]
/-- the state of the outer loop: its squares stand behind what was -/
structure Iv (μ : Mu) (l : Nat) (s : SS) (ν : Mu) (acc : List P) : Prop where
  t : ν.take μ.length = μ.set l (st s)
  p : ν[μ.length]? = some (some (.lst acc))
theorem Iv.lt {μ ν : Mu} {l : Nat} {s : SS} {acc : List P} (h : Iv μ l s ν acc) : μ.length < ν.length := (List.getElem?_eq_some_iff.mp h.p).1
theorem Iv.at {μ ν : Mu} {l : Nat} {s : SS} {acc : List P} (h : Iv μ l s ν acc) (hl : l < μ.length) : ν.set l (st s) = ν := by
  refine set_self ?_
  have e : (ν.take μ.length)[l]? = some (st s) := by rw [h.t, List.getElem?_set_self hl]
  rwa [List.getElem?_take_of_lt hl] at e
theorem Iv.draw {μ ν : Mu} {l : Nat} {s s' : SS} {acc : List P} (h : Iv μ l s ν acc) (hl : l < μ.length) : Iv μ l s' (ν.set l (st s')) acc :=
  ⟨by rw [take_of_set, h.t]; exact st_set, by rw [List.getElem?_set_ne (by omega)]; exact h.p⟩
def rowT (r : List Rat) : P := .tup (r.map pr)
def quadP (sq : List (List Rat)) (co : List Rat) (tot : Rat) : P := .tup [.tup (sq.map rowT), .tup [.tup (co.map pr), pr tot]]
end
end Vs
namespace Vs
open PySem PySem.Spec PyProof.Rows L2
def dotF : Rat → List Rat → List Rat → Rat
  | s, r :: rs, x :: xs => dotF (s + r * x) rs xs
  | s, _, _ => s
end Vs
namespace Vs
open PySem PySem.Spec PyProof.Rows L2
section
variable {δ : Sl} {μ : Mu}
theorem at_drop {A : Type} {f : A → P} {xs : List A} {a : Nat} (h : a < xs.length) : atI (xs.map f) (a : Int) = some (f xs[a]) := atI_nat (by rw [List.getElem?_map, List.getElem?_eq_getElem h]; rfl)
end
end Vs
namespace Vs
open PySem PySem.Spec PyProof.Rows L2
noncomputable abbrev lb__with_pivot_0 : SEv := (sIf (evB (evBin fNe (evBin fIx (evBin fIx (evV 0) (evV 2)) (evV 1)) (evC (.int 0)))) (sRet (evBin fCatL (evBin fCatL (evBin fCatL (evSl (evV 0) evNoP (evPt (evV 1))) (evLst (evCons (evBin fIx (evV 0) (evV 2)) evNil))) (evSl (evV 0) (evPt (evV 1)) (evPt (evV 2)))) (evSl (evV 0) (evPt (evBin fAdd (evV 2) (evC (.int 1)))) evNoP))) sNil)
noncomputable def sv__with_pivot : SEv := (seqS (sFor (evRng2 (evV 1) (evBI fLen (evCons (evV 0) evNil))) (tgN 2) (sIf (evB (evBin fNe (evBin fIx (evBin fIx (evV 0) (evV 2)) (evV 1)) (evC (.int 0)))) (sRet (evBin fCatL (evBin fCatL (evBin fCatL (evSl (evV 0) evNoP (evPt (evV 1))) (evLst (evCons (evBin fIx (evV 0) (evV 2)) evNil))) (evSl (evV 0) (evPt (evV 1)) (evPt (evV 2)))) (evSl (evV 0) (evPt (evBin fAdd (evV 2) (evC (.int 1)))) evNoP))) sNil)) (sRet (evC .non)))
noncomputable def m__with_pivot : FSem := arF 2 (bodySem 3 sv__with_pivot)
theorem ar__with_pivot : Arity m__with_pivot 2 := arF_ar
theorem le__with_pivot : ∀ ds μ r, m__with_pivot ds μ = some r → bodySem 3 sv__with_pivot ds μ = some r := arF_le
noncomputable def sv__cleared : SEv := (seqS (sSet 4 (evBin fIx (evV 1) (evV 2))) (seqS (sSet 5 (evBin fIx (evV 0) (evV 2))) (sRet (evLc (evZip (evCons (evV 0) (evCons (evV 1) evNil))) (tgT [6, 7]) evTrue (evBin fDiv (evBin fSub (evBin fMul (evV 4) (evV 6)) (evBin fMul (evV 5) (evV 7))) (evV 3)) [6, 7]))))
noncomputable def m__cleared : FSem := arF 4 (bodySem 8 sv__cleared)
theorem ar__cleared : Arity m__cleared 4 := arF_ar
theorem le__cleared : ∀ ds μ r, m__cleared ds μ = some r → bodySem 8 sv__cleared ds μ = some r := arF_le
noncomputable abbrev lb__common_zero_0 : SEv := (seqS (sSet 2 (evCall m__with_pivot [] (evCons (evV 2) (evCons (evV 4) evNil)))) (seqS (sIf (evB (evBin (fIs false) (evV 2) (evC .non))) (sRet (evC .non)) sNil) (seqS (sSet 5 (evBin fIx (evV 2) (evV 4))) (seqS (sSet 2 (evLc (evEnum (evCons (evV 2) evNil)) (tgT [6, 7]) evTrue (evIf (evB (evBin fEq (evV 6) (evV 4))) (evV 7) (evCall m__cleared [] (evCons (evV 7) (evCons (evV 5) (evCons (evV 4) (evCons (evV 3) evNil)))))) [6, 7])) (sSet 3 (evBin fIx (evV 5) (evV 4)))))))
noncomputable def sv__common_zero : SEv := (seqS (sSet 2 (evBI fList (evCons (evV 0) evNil))) (seqS (sSet 3 (evC (.int 1))) (seqS (sFor (evRng1 (evV 1)) (tgN 4) (seqS (sSet 2 (evCall m__with_pivot [] (evCons (evV 2) (evCons (evV 4) evNil)))) (seqS (sIf (evB (evBin (fIs false) (evV 2) (evC .non))) (sRet (evC .non)) sNil) (seqS (sSet 5 (evBin fIx (evV 2) (evV 4))) (seqS (sSet 2 (evLc (evEnum (evCons (evV 2) evNil)) (tgT [6, 7]) evTrue (evIf (evB (evBin fEq (evV 6) (evV 4))) (evV 7) (evCall m__cleared [] (evCons (evV 7) (evCons (evV 5) (evCons (evV 4) (evCons (evV 3) evNil)))))) [6, 7])) (sSet 3 (evBin fIx (evV 5) (evV 4)))))))) (seqS (sIf (evB (evBI fAny (evCons (evLc (evIt (evSl (evV 2) (evPt (evV 1)) evNoP)) (tgN 7) evTrue (evBin fNe (evBin fIx (evV 7) (evV 1)) (evC (.int 0))) [7]) evNil))) (sRet (evC .non)) sNil) (seqS (sIf (evB (evBin fLt (evV 3) (evC (.int 0)))) (sRet (evBin fCatL (evLc (evIt (evSl (evV 2) evNoP (evPt (evV 1)))) (tgN 7) evTrue (evBin fIx (evV 7) (evV 1)) [7]) (evLst (evCons (evUn fNeg (evV 3)) evNil)))) sNil) (sRet (evBin fCatL (evLc (evIt (evSl (evV 2) evNoP (evPt (evV 1)))) (tgN 7) evTrue (evUn fNeg (evBin fIx (evV 7) (evV 1))) [7]) (evLst (evCons (evV 3) evNil)))))))))
noncomputable def m__common_zero : FSem := arF 2 (bodySem 8 sv__common_zero)
theorem ar__common_zero : Arity m__common_zero 2 := arF_ar
theorem le__common_zero : ∀ ds μ r, m__common_zero ds μ = some r → bodySem 8 sv__common_zero ds μ = some r := arF_le
noncomputable def sv__point_of : SEv := (sRet (evLcC (evIt (evSl (evV 0) evNoP (evPt (evUn fNeg (evC (.int 1)))))) (tgN 1) evTrue (evMake 0 2 m_Ratiou_initu [] (evCons (evV 1) (evCons (evBin fIx (evV 0) (evUn fNeg (evC (.int 1)))) evNil))) [1]))
noncomputable def m__point_of : FSem := arF 1 (bodySemC 2 sv__point_of)
theorem ar__point_of : Arity m__point_of 1 := arF_ar
theorem le__point_of : ∀ ds μ r, m__point_of ds μ = some r → bodySemC 2 sv__point_of ds μ = some r := arF_le
noncomputable abbrev lb__whole_0 : SEv := (sSet 1 (evBI fLcm (evCons (evV 1) (evCons (evUn (fFld 0 1) (evV 2)) evNil))))
noncomputable def sv__whole : SEv := (seqS (sSet 1 (evC (.int 1))) (seqS (sFor (evIt (evV 0)) (tgN 2) (sSet 1 (evBI fLcm (evCons (evV 1) (evCons (evUn (fFld 0 1) (evV 2)) evNil))))) (sRet (evLc (evIt (evV 0)) (tgN 2) evTrue (evBin fMul (evUn (fFld 0 0) (evV 2)) (evBin fDiv (evV 1) (evUn (fFld 0 1) (evV 2)))) [2]))))
noncomputable def m__whole : FSem := arF 1 (bodySem 3 sv__whole)
theorem ar__whole : Arity m__whole 1 := arF_ar
theorem le__whole : ∀ ds μ r, m__whole ds μ = some r → bodySem 3 sv__whole ds μ = some r := arF_le
noncomputable def sv__law_rover : SEv := (sRet (evCall m__law_q [] (evCons (evBin fMul (evBin fIx (evV 0) (evC (.int 0))) (evBin fIx (evV 1) (evC (.int 1)))) (evCons (evBin fMul (evBin fIx (evV 0) (evC (.int 1))) (evBin fIx (evV 1) (evC (.int 0)))) evNil))))
noncomputable def m__law_rover : FSem := arF 2 (bodySem 2 sv__law_rover)
theorem ar__law_rover : Arity m__law_rover 2 := arF_ar
theorem le__law_rover : ∀ ds μ r, m__law_rover ds μ = some r → bodySem 2 sv__law_rover ds μ = some r := arF_le
noncomputable def sv__law_sub : SEv := (sRet (evCall m__law_q [] (evCons (evBin fSub (evBin fMul (evBin fIx (evV 0) (evC (.int 0))) (evBin fIx (evV 1) (evC (.int 1)))) (evBin fMul (evBin fIx (evV 1) (evC (.int 0))) (evBin fIx (evV 0) (evC (.int 1))))) (evCons (evBin fMul (evBin fIx (evV 0) (evC (.int 1))) (evBin fIx (evV 1) (evC (.int 1)))) evNil))))
noncomputable def m__law_sub : FSem := arF 2 (bodySem 2 sv__law_sub)
theorem ar__law_sub : Arity m__law_sub 2 := arF_ar
theorem le__law_sub : ∀ ds μ r, m__law_sub ds μ = some r → bodySem 2 sv__law_sub ds μ = some r := arF_le
noncomputable def sv__law_without : SEv := (seqS (sSet 3 (evBin fIx (evV 0) (evV 2))) (seqS (sIf (evB (evBin fEq (evBin fIx (evV 3) (evC (.int 0))) (evC (.int 0)))) (sRet (evV 0)) sNil) (sRet (evLc (evRng1 (evBI fLen (evCons (evV 0) evNil))) (tgN 4) evTrue (evCall m__law_sub [] (evCons (evBin fIx (evV 0) (evV 4)) (evCons (evCall m__law_mul [] (evCons (evV 3) (evCons (evBin fIx (evV 1) (evV 4)) evNil))) evNil))) [4]))))
noncomputable def m__law_without : FSem := arF 3 (bodySem 5 sv__law_without)
theorem ar__law_without : Arity m__law_without 3 := arF_ar
theorem le__law_without : ∀ ds μ r, m__law_without ds μ = some r → bodySem 5 sv__law_without ds μ = some r := arF_le
noncomputable abbrev lb__law_reduced_0 : SEv := (seqS (sSet 7 (evLc (evRng1 (evBI fLen (evCons (evV 2) evNil))) (tgN 8) (evB (evBin fNe (evBin fIx (evBin fIx (evBin fIx (evV 2) (evV 8)) (evV 6)) (evC (.int 0))) (evC (.int 0)))) (evV 8) [8])) (sIf (evTruL (evV 7)) (seqS (sSet 9 (evBin fIx (evV 2) (evBin fIx (evV 7) (evC (.int 0))))) (seqS (sSet 2 (evLc (evRng1 (evBI fLen (evCons (evV 2) evNil))) (tgN 8) (evB (evBin fNe (evV 8) (evBin fIx (evV 7) (evC (.int 0))))) (evBin fIx (evV 2) (evV 8)) [8])) (seqS (sSet 9 (evLc (evIt (evV 9)) (tgN 10) evTrue (evCall m__law_rover [] (evCons (evV 10) (evCons (evBin fIx (evV 9) (evV 6)) evNil))) [10])) (seqS (sSet 2 (evLc (evIt (evV 2)) (tgN 3) evTrue (evCall m__law_without [] (evCons (evV 3) (evCons (evV 9) (evCons (evV 6) evNil)))) [3])) (seqS (sSet 4 (evBin fCatL (evLc (evIt (evV 4)) (tgN 3) evTrue (evCall m__law_without [] (evCons (evV 3) (evCons (evV 9) (evCons (evV 6) evNil)))) [3]) (evLst (evCons (evV 9) evNil)))) (sExpr (evBM isLst fApp (evV 5) (evCons (evV 6) evNil)))))))) sNil))
noncomputable def sv__law_reduced : SEv := (seqS (sSet 2 (evLc (evIt (evV 0)) (tgN 3) evTrue (evBI fList (evCons (evV 3) evNil)) [3])) (seqS (sSet 4 (evLst evNil)) (seqS (sSet 5 (evLstC evNil)) (seqS (sFor (evRng1 (evV 1)) (tgN 6) (seqS (sSet 7 (evLc (evRng1 (evBI fLen (evCons (evV 2) evNil))) (tgN 8) (evB (evBin fNe (evBin fIx (evBin fIx (evBin fIx (evV 2) (evV 8)) (evV 6)) (evC (.int 0))) (evC (.int 0)))) (evV 8) [8])) (sIf (evTruL (evV 7)) (seqS (sSet 9 (evBin fIx (evV 2) (evBin fIx (evV 7) (evC (.int 0))))) (seqS (sSet 2 (evLc (evRng1 (evBI fLen (evCons (evV 2) evNil))) (tgN 8) (evB (evBin fNe (evV 8) (evBin fIx (evV 7) (evC (.int 0))))) (evBin fIx (evV 2) (evV 8)) [8])) (seqS (sSet 9 (evLc (evIt (evV 9)) (tgN 10) evTrue (evCall m__law_rover [] (evCons (evV 10) (evCons (evBin fIx (evV 9) (evV 6)) evNil))) [10])) (seqS (sSet 2 (evLc (evIt (evV 2)) (tgN 3) evTrue (evCall m__law_without [] (evCons (evV 3) (evCons (evV 9) (evCons (evV 6) evNil)))) [3])) (seqS (sSet 4 (evBin fCatL (evLc (evIt (evV 4)) (tgN 3) evTrue (evCall m__law_without [] (evCons (evV 3) (evCons (evV 9) (evCons (evV 6) evNil)))) [3]) (evLst (evCons (evV 9) evNil)))) (sExpr (evBM isLst fApp (evV 5) (evCons (evV 6) evNil)))))))) sNil))) (sRet (evTup (evCons (evV 4) (evCons (evV 5) evNil))))))))
noncomputable def m__law_reduced : FSem := arF 2 (bodySem 11 sv__law_reduced)
theorem ar__law_reduced : Arity m__law_reduced 2 := arF_ar
theorem le__law_reduced : ∀ ds μ r, m__law_reduced ds μ = some r → bodySem 11 sv__law_reduced ds μ = some r := arF_le
noncomputable def sv__law_solution : SEv := (seqS (sSet 2 (evBI fLen (evCons (evBin fIx (evV 0) (evC (.int 0))) evNil))) (seqS (sAsgT (tgT [3, 4]) (evCall m__law_reduced [] (evCons (evLc (evRng1 (evBI fLen (evCons (evV 0) evNil))) (tgN 5) evTrue (evBin fCatL (evBin fIx (evV 0) (evV 5)) (evLst (evCons (evBin fIx (evV 1) (evV 5)) evNil))) [5]) (evCons (evBin fAdd (evV 2) (evC (.int 1))) evNil)))) (seqS (sIf (evB (evBin fNe (evV 4) (evLc (evRng1 (evV 2)) (tgN 5) evTrue (evV 5) [5]))) (sRet (evC .non)) sNil) (sRet (evLc (evIt (evV 3)) (tgN 6) evTrue (evBin fIx (evV 6) (evV 2)) [6])))))
noncomputable def m__law_solution : FSem := arF 2 (bodySem 7 sv__law_solution)
theorem ar__law_solution : Arity m__law_solution 2 := arF_ar
theorem le__law_solution : ∀ ds μ r, m__law_solution ds μ = some r → bodySem 7 sv__law_solution ds μ = some r := arF_le
noncomputable def sv__law_unit : SEv := (sRet (evBI fTupOf (evCons (evLc (evRng1 (evV 0)) (tgN 3) evTrue (evTup (evCons (evBin fMul (evV 2) (evBI fInt (evCons (evBin fEq (evV 3) (evV 1)) evNil))) (evCons (evC (.int 1)) evNil))) [3]) evNil)))
noncomputable def m__law_unit : FSem := arF 3 (bodySem 4 sv__law_unit)
theorem ar__law_unit : Arity m__law_unit 3 := arF_ar
theorem le__law_unit : ∀ ds μ r, m__law_unit ds μ = some r → bodySem 4 sv__law_unit ds μ = some r := arF_le
noncomputable abbrev lb__law_region_0 : SEv := (seqS (sSet 4 (evCall m__law_rnumber [] (evCons (evV 0) evNil))) (seqS (sSet 5 (evCall m__law_add [] (evCons (evV 4) (evCons (evTup (evCons (evBin fSub (evCall m__law_draw [] (evCons (evV 0) (evCons (evC (.int 6)) evNil))) (evBI fInt (evCons (evBin fEq (evCall m__law_draw [] (evCons (evV 0) (evCons (evC (.int 12)) evNil))) (evC (.int 0))) evNil))) (evCons (evBin fAdd (evC (.int 1)) (evCall m__law_draw [] (evCons (evV 0) (evCons (evC (.int 2)) evNil)))) evNil))) evNil)))) (seqS (sExpr (evBM isLst fApp (evV 2) (evCons (evTup (evCons (evCall m__law_unit [] (evCons (evV 1) (evCons (evV 3) (evCons (evC (.int 1)) evNil)))) (evCons (evTup (evCons (evUn fNeg (evBin fIx (evV 4) (evC (.int 0)))) (evCons (evBin fIx (evV 4) (evC (.int 1))) evNil))) evNil))) evNil))) (sExpr (evBM isLst fApp (evV 2) (evCons (evTup (evCons (evCall m__law_unit [] (evCons (evV 1) (evCons (evV 3) (evCons (evUn fNeg (evC (.int 1))) evNil)))) (evCons (evV 5) evNil))) evNil))))))
noncomputable abbrev lb__law_region_1 : SEv := (sExpr (evBM isLst fApp (evV 2) (evCons (evTup (evCons (evBI fTupOf (evCons (evLc (evRng1 (evV 1)) (tgN 6) evTrue (evTup (evCons (evBin fSub (evCall m__law_draw [] (evCons (evV 0) (evCons (evC (.int 5)) evNil))) (evC (.int 2))) (evCons (evC (.int 1)) evNil))) [6]) evNil)) (evCons (evCall m__law_rnumber [] (evCons (evV 0) evNil)) evNil))) evNil)))
noncomputable def sv__law_region : SEv := (seqS (sSet 2 (evLstC evNil)) (seqS (sFor (evRng1 (evV 1)) (tgN 3) (seqS (sSet 4 (evCall m__law_rnumber [] (evCons (evV 0) evNil))) (seqS (sSet 5 (evCall m__law_add [] (evCons (evV 4) (evCons (evTup (evCons (evBin fSub (evCall m__law_draw [] (evCons (evV 0) (evCons (evC (.int 6)) evNil))) (evBI fInt (evCons (evBin fEq (evCall m__law_draw [] (evCons (evV 0) (evCons (evC (.int 12)) evNil))) (evC (.int 0))) evNil))) (evCons (evBin fAdd (evC (.int 1)) (evCall m__law_draw [] (evCons (evV 0) (evCons (evC (.int 2)) evNil)))) evNil))) evNil)))) (seqS (sExpr (evBM isLst fApp (evV 2) (evCons (evTup (evCons (evCall m__law_unit [] (evCons (evV 1) (evCons (evV 3) (evCons (evC (.int 1)) evNil)))) (evCons (evTup (evCons (evUn fNeg (evBin fIx (evV 4) (evC (.int 0)))) (evCons (evBin fIx (evV 4) (evC (.int 1))) evNil))) evNil))) evNil))) (sExpr (evBM isLst fApp (evV 2) (evCons (evTup (evCons (evCall m__law_unit [] (evCons (evV 1) (evCons (evV 3) (evCons (evUn fNeg (evC (.int 1))) evNil)))) (evCons (evV 5) evNil))) evNil))))))) (seqS (sFor (evRng1 (evCall m__law_draw [] (evCons (evV 0) (evCons (evC (.int 3)) evNil)))) (tgN 3) (sExpr (evBM isLst fApp (evV 2) (evCons (evTup (evCons (evBI fTupOf (evCons (evLc (evRng1 (evV 1)) (tgN 6) evTrue (evTup (evCons (evBin fSub (evCall m__law_draw [] (evCons (evV 0) (evCons (evC (.int 5)) evNil))) (evC (.int 2))) (evCons (evC (.int 1)) evNil))) [6]) evNil)) (evCons (evCall m__law_rnumber [] (evCons (evV 0) evNil)) evNil))) evNil)))) (seqS (sIf (evB (evBin fEq (evCall m__law_draw [] (evCons (evV 0) (evCons (evC (.int 3)) evNil))) (evC (.int 0)))) (sSet 2 (evRevL (evV 2))) sNil) (sRet (evV 2))))))
noncomputable def m__law_region : FSem := arF 2 (bodySem 7 sv__law_region)
theorem ar__law_region : Arity m__law_region 2 := arF_ar
theorem le__law_region : ∀ ds μ r, m__law_region ds μ = some r → bodySem 7 sv__law_region ds μ = some r := arF_le
noncomputable def sv__law_region_as : SEv := (sRet (evBI fTupOf (evCons (evLc (evIt (evV 0)) (tgN 1) evTrue (evCall m__law_form_as [] (evCons (evV 1) evNil)) [1]) evNil)))
noncomputable def m__law_region_as : FSem := arF 1 (bodySem 2 sv__law_region_as)
theorem ar__law_region_as : Arity m__law_region_as 1 := arF_ar
theorem le__law_region_as : ∀ ds μ r, m__law_region_as ds μ = some r → bodySem 2 sv__law_region_as ds μ = some r := arF_le
noncomputable def sv__law_point : SEv := (seqS (sIf (tNotV (evB (evIsiD (isiT 1 "list") (evV 0)))) (sRet (evC .non)) sNil) (sRet (evLcI (evItL (evV 0)) (tgNI 1) evTrue (evCall m__law_rpair [] (evCons (evV 1) evNil)) [1])))
noncomputable def m__law_point : FSem := arF 1 (bodySem 2 sv__law_point)
theorem ar__law_point : Arity m__law_point 1 := arF_ar
theorem le__law_point : ∀ ds μ r, m__law_point ds μ = some r → bodySem 2 sv__law_point ds μ = some r := arF_le
noncomputable abbrev lb__keeps_0 : SEv := (sIf (evB (evBin fLt (evBI fSum (evCons (evLc (evZip (evCons (evV 2) (evCons (evV 1) evNil))) (tgT [3, 4]) evTrue (evBin fMul (evV 3) (evV 4)) [3, 4]) evNil)) (evC (.int 0)))) (sRet (evC (.bl false))) sNil)
noncomputable def sv__keeps : SEv := (seqS (sFor (evIt (evV 0)) (tgN 2) (sIf (evB (evBin fLt (evBI fSum (evCons (evLc (evZip (evCons (evV 2) (evCons (evV 1) evNil))) (tgT [3, 4]) evTrue (evBin fMul (evV 3) (evV 4)) [3, 4]) evNil)) (evC (.int 0)))) (sRet (evC (.bl false))) sNil)) (sRet (evC (.bl true))))
noncomputable def m__keeps : FSem := arF 2 (bodySem 5 sv__keeps)
theorem ar__keeps : Arity m__keeps 2 := arF_ar
theorem le__keeps : ∀ ds μ r, m__keeps ds μ = some r → bodySem 5 sv__keeps ds μ = some r := arF_le
noncomputable def sv__rows_of : SEv := (sRet (evLc (evIt (evV 0)) (tgT [1, 2]) evTrue (evCall m__whole [] (evCons (evLst (evStar (evV 1) (evCons (evV 2) evNil))) evNil)) [1, 2]))
noncomputable def m__rows_of : FSem := arF 1 (bodySem 3 sv__rows_of)
theorem ar__rows_of : Arity m__rows_of 1 := arF_ar
theorem le__rows_of : ∀ ds μ r, m__rows_of ds μ = some r → bodySem 3 sv__rows_of ds μ = some r := arF_le
noncomputable def sv__law_inside : SEv := (sRet (evBI fAll (evCons (evLc (evIt (evV 0)) (tgN 2) evTrue (evBin fGe (evBin fIx (evCall m__law_value [] (evCons (evV 2) (evCons (evV 1) evNil))) (evC (.int 0))) (evC (.int 0))) [2]) evNil)))
noncomputable def m__law_inside : FSem := arF 2 (bodySem 3 sv__law_inside)
theorem ar__law_inside : Arity m__law_inside 2 := arF_ar
theorem le__law_inside : ∀ ds μ r, m__law_inside ds μ = some r → bodySem 3 sv__law_inside ds μ = some r := arF_le
end Vs
namespace Vs
open PySem PySem.Spec PyProof.Rows L2
section
variable {α : Amb} {W : WX} {X : Cx}
/-- a tuple, as a test -/
def evTruT (a : Ev) : EvT := fun δ μ => bindG (a δ μ) fun x μ1 => match x with
  | .p (.tup xs) => some (.ok (!xs.isEmpty), μ1)
  | _ => none
/-- [x, ..] * k, as data -/
def fRepL : F2 := fun x y μ => match x, y with
  | .p (.lst xs), .p (.int k) => if 0 ≤ k ∧ k < 2 ^ 63 ∧ xs.length * k.toNat ≤ sizeLine then some (.p (.lst (List.replicate k.toNat xs).flatten), μ) else none
  | _, _ => none
theorem o_repL : OpR X (binaryOp .Mult) (r2V α fRepL) := OpR.imp op_rep fun x y H Q h => by
  obtain ⟨G, ρ, μ, dx, dy, z, rx, ry, q⟩ := h
  unfold fRepL at q
  split at q
  · rename_i xs k
    split at q
    · rename_i hk
      have ry := repInt ry
      cases rx with
      | lst h r =>
        refine ⟨_, k, _, rfl, ry, z.sub _ _ h, by omega, hk.2.1, by rw [r.length]; exact hk.2.2, fun p hp => ?_⟩
        exact q _ _ _ _ (up_new (z.free hp)) (z.new hp _) (.lst upd_same ((reps_flatD r _).mono (same_upd (z.free hp))))
    · exact q.elim
  · exact q.elim
end
section
variable {δ : Sl} {μ : Mu} {e : Ev}
def truTEnd (μ : Mu) : D → Option (Out Bool × Mu)
  | .p (.tup xs) => some (.ok (!xs.isEmpty), μ)
  | _ => none
@[simp] theorem evTruT_eq : evTruT e δ μ = bindG (e δ μ) fun x μ1 => truTEnd μ1 x := rfl
@[simp] theorem truTEnd_tup {xs : List P} : truTEnd μ (.p (.tup xs)) = some (.ok (!xs.isEmpty), μ) := rfl
theorem fRepL_p {xs : List P} {k : Nat} (hk : k < 1000) (h : xs.length ≤ 10) : fRepL (.p (.lst xs)) (.p (.int (k : Int))) μ = some (.p (.lst (List.replicate k xs).flatten), μ) := by
  have hl : xs.length * k ≤ sizeLine := by
    have : xs.length * k ≤ 10 * 1000 := Nat.mul_le_mul h (Nat.le_of_lt hk)
    exact Nat.le_trans this (by decide)
  have h2 : (k : Int) < 2 ^ 63 := by omega
  unfold fRepL
  dsimp only
  rw [Int.toNat_natCast, if_pos ⟨by omega, h2, hl⟩]
end
end Vs
namespace Vs
open PySem PySem.Spec PyProof.Rows L2
noncomputable abbrev lb__law_picks_0 : SEv := (sSet 4 (evBin fCatL (evV 4) (evLc (evRng2 (evBin fAdd (evBin fIx (evBin fCatL (evLst (evCons (evUn fNeg (evC (.int 1))) evNil)) (evBI fList (evCons (evV 5) evNil))) (evUn fNeg (evC (.int 1)))) (evC (.int 1))) (evV 0)) (tgN 6) evTrue (evBin fCatT (evV 5) (evTup (evCons (evV 6) evNil))) [6])))
noncomputable abbrev lb__law_picks_1 : SEv := (seqS (sSet 4 (evLst evNil)) (seqS (sFor (evIt (evV 2)) (tgN 5) (sSet 4 (evBin fCatL (evV 4) (evLc (evRng2 (evBin fAdd (evBin fIx (evBin fCatL (evLst (evCons (evUn fNeg (evC (.int 1))) evNil)) (evBI fList (evCons (evV 5) evNil))) (evUn fNeg (evC (.int 1)))) (evC (.int 1))) (evV 0)) (tgN 6) evTrue (evBin fCatT (evV 5) (evTup (evCons (evV 6) evNil))) [6])))) (sSet 2 (evV 4))))
noncomputable def sv__law_picks : SEv := (seqS (sSet 2 (evLst (evCons (evTup evNil) evNil))) (seqS (sFor (evRng1 (evV 1)) (tgN 3) (seqS (sSet 4 (evLst evNil)) (seqS (sFor (evIt (evV 2)) (tgN 5) (sSet 4 (evBin fCatL (evV 4) (evLc (evRng2 (evBin fAdd (evBin fIx (evBin fCatL (evLst (evCons (evUn fNeg (evC (.int 1))) evNil)) (evBI fList (evCons (evV 5) evNil))) (evUn fNeg (evC (.int 1)))) (evC (.int 1))) (evV 0)) (tgN 6) evTrue (evBin fCatT (evV 5) (evTup (evCons (evV 6) evNil))) [6])))) (sSet 2 (evV 4))))) (sRet (evV 2))))
noncomputable def m__law_picks : FSem := arF 2 (bodySem 7 sv__law_picks)
theorem ar__law_picks : Arity m__law_picks 2 := arF_ar
theorem le__law_picks : ∀ ds μ r, m__law_picks ds μ = some r → bodySem 7 sv__law_picks ds μ = some r := arF_le
noncomputable def sv__law_rless : SEv := (sRet (evBin fLt (evBin fMul (evBin fIx (evV 0) (evC (.int 0))) (evBin fIx (evV 1) (evC (.int 1)))) (evBin fMul (evBin fIx (evV 1) (evC (.int 0))) (evBin fIx (evV 0) (evC (.int 1))))))
noncomputable def m__law_rless : FSem := arF 2 (bodySem 2 sv__law_rless)
theorem ar__law_rless : Arity m__law_rless 2 := arF_ar
theorem le__law_rless : ∀ ds μ r, m__law_rless ds μ = some r → bodySem 2 sv__law_rless ds μ = some r := arF_le
noncomputable abbrev lb__law_before_0 : SEv := (sIf (evB (evBin fNe (evBin fIx (evV 0) (evV 2)) (evBin fIx (evV 1) (evV 2)))) (sRet (evCall m__law_rless [] (evCons (evBin fIx (evV 0) (evV 2)) (evCons (evBin fIx (evV 1) (evV 2)) evNil)))) sNil)
noncomputable def sv__law_before : SEv := (seqS (sFor (evRng1 (evBI fLen (evCons (evV 0) evNil))) (tgN 2) (sIf (evB (evBin fNe (evBin fIx (evV 0) (evV 2)) (evBin fIx (evV 1) (evV 2)))) (sRet (evCall m__law_rless [] (evCons (evBin fIx (evV 0) (evV 2)) (evCons (evBin fIx (evV 1) (evV 2)) evNil)))) sNil)) (sRet (evC (.bl false))))
noncomputable def m__law_before : FSem := arF 2 (bodySem 3 sv__law_before)
theorem ar__law_before : Arity m__law_before 2 := arF_ar
theorem le__law_before : ∀ ds μ r, m__law_before ds μ = some r → bodySem 3 sv__law_before ds μ = some r := arF_le
end Vs
namespace Vs.Bar
abbrev Vec := Nat → Int
abbrev Mat := Nat → Vec
/-- a sum of c terms -/
def S : Nat → (Nat → Int) → Int
  | 0, _ => 0
  | c + 1, f => S c f + f c
theorem S_congr : ∀ {c : Nat} {f g : Nat → Int}, (∀ l, l < c → f l = g l) → S c f = S c g
  | 0, _, _, _ => rfl
  | c + 1, f, g, h => by
    show S c f + f c = S c g + g c
    rw [S_congr (fun l hl => h l (by omega)), h c (by omega)]
theorem S_zero : ∀ {c : Nat} {f : Nat → Int}, (∀ l, l < c → f l = 0) → S c f = 0
  | 0, _, _ => rfl
  | c + 1, f, h => by
    show S c f + f c = 0
    rw [S_zero (fun l hl => h l (by omega)), h c (by omega)]; rfl
theorem S_lin (a b : Int) : ∀ (c : Nat) (f g : Nat → Int), S c (fun l => a * f l + b * g l) = a * S c f + b * S c g
  | 0, _, _ => by simp [S]
  | c + 1, f, g => by
    show S c _ + _ = a * (S c f + f c) + b * (S c g + g c)
    rw [S_lin a b c f g]; grind
theorem S_mul (a : Int) (c : Nat) (f : Nat → Int) : S c (fun l => a * f l) = a * S c f := by
  have := S_lin a 0 c f (fun _ => 0)
  simpa using this
theorem S_one {i : Nat} : ∀ {c : Nat} {f : Nat → Int}, i < c → (∀ l, l < c → l ≠ i → f l = 0) → S c f = f i
  | 0, _, h, _ => by omega
  | c + 1, f, h, k => by
    show S c f + f c = f i
    by_cases e : i = c
    · subst e
      rw [S_zero fun l hl => k l (by omega) (by omega)]; omega
    · rw [S_one (i := i) (by omega) fun l hl n => k l (by omega) n, k c (by omega) (by omega)]; omega
theorem S_if {i : Nat} {c : Nat} (h : i < c) (x : Int) : S c (fun m => if m = i then x else 0) = x := by
  rw [S_one (f := fun m => if m = i then x else 0) h (fun m _ h => by simp [h])]; simp
theorem S_two {i m : Nat} {c : Nat} {f : Nat → Int} (hi : i < c) (hm : m < c) (n : i ≠ m) (k : ∀ l, l < c → l ≠ i → l ≠ m → f l = 0) : S c f = f i + f m := by
  have e : S c f = S c (fun l => 1 * (if l = i then f i else 0) + 1 * (if l = m then f m else 0)) := by
    refine S_congr fun l hl => ?_
    by_cases h1 : l = i
    · subst h1; simp [n]
    · by_cases h2 : l = m
      · subst h2; simp [h1]
      · rw [k l hl h1 h2]; simp [h1, h2]
  rw [e, S_lin, S_one hi (fun l _ h => by simp [h]), S_one hm (fun l _ h => by simp [h])]
  simp
/-- a row replaced -/
def upd (v : Mat) (l : Nat) (x : Vec) : Mat := fun i => if i = l then x else v i
theorem upd_self (v : Mat) (l : Nat) (x : Vec) : upd v l x l = x := by simp [upd]
theorem upd_ne (v : Mat) {l i : Nat} (x : Vec) (h : i ≠ l) : upd v l x i = v i := by simp [upd, h]
theorem upd_id (v : Mat) (l : Nat) : upd v l (v l) = v := by funext i; by_cases h : i = l <;> simp [upd, h]
theorem upd_upd (v : Mat) (l : Nat) (x y : Vec) : upd (upd v l x) l y = upd v l y := by funext i; by_cases h : i = l <;> simp [upd, h]
theorem upd_comm (v : Mat) {l m : Nat} (x y : Vec) (h : l ≠ m) : upd (upd v l x) m y = upd (upd v m y) l x := by
  funext i
  by_cases h1 : i = l
  · subst h1; simp [upd, h]
  · by_cases h2 : i = m
    · subst h2; simp [upd, h1]
    · simp [upd, h1, h2]
/-- the determinant of the first c columns of the first c rows -/
def Dt : Nat → Mat → Int
  | 0, _ => 1
  | c + 1, v => Dt c v * v c c - S c (fun l => Dt c (upd v l (v c)) * v l c)
theorem Dt_congr : ∀ {c : Nat} {v w : Mat}, (∀ i j, i < c → j < c → v i j = w i j) → Dt c v = Dt c w
  | 0, _, _, _ => rfl
  | c + 1, v, w, h => by
    show Dt c v * v c c - _ = Dt c w * w c c - _
    rw [Dt_congr (fun i j hi hj => h i j (by omega) (by omega)), h c c (by omega) (by omega)]
    congr 1
    refine S_congr fun l hl => ?_
    rw [h l c (by omega) (by omega)]
    congr 1
    refine Dt_congr fun i j hi hj => ?_
    by_cases e : i = l
    · subst e; rw [upd_self, upd_self]; exact h c j (by omega) (by omega)
    · rw [upd_ne _ _ e, upd_ne _ _ e]; exact h i j (by omega) (by omega)
theorem Dt_lin (a b : Int) (x y : Vec) : ∀ {c : Nat} {v : Mat} {l : Nat}, l < c → Dt c (upd v l (fun j => a * x j + b * y j)) = a * Dt c (upd v l x) + b * Dt c (upd v l y)
  | 0, _, _, h => by omega
  | c + 1, v, l, h => by
    by_cases e : l = c
    · subst e
      have f : ∀ z : Vec, Dt (l + 1) (upd v l z) = Dt l v * z l - S l (fun m => Dt l (upd v m z) * v m l) := fun z => by
        show Dt l (upd v l z) * (upd v l z) l l - _ = _
        rw [upd_self]
        rw [Dt_congr (w := v) fun i j hi hj => by rw [upd_ne _ _ (by omega)]]
        congr 1
        refine S_congr fun m hm => ?_
        rw [upd_ne _ _ (show m ≠ l by omega)]
        rw [Dt_congr (w := upd v m z) fun i j hi hj => by
          by_cases e : i = m
          · subst e; rw [upd_self, upd_self]
          · rw [upd_ne _ _ e, upd_ne _ _ e, upd_ne _ _ (by omega)]]
      rw [f, f, f]
      have : S l (fun m => Dt l (upd v m fun j => a * x j + b * y j) * v m l) = a * S l (fun m => Dt l (upd v m x) * v m l) + b * S l (fun m => Dt l (upd v m y) * v m l) := by
        rw [← S_lin]
        refine S_congr fun m hm => ?_
        rw [Dt_lin a b x y hm]; grind
      rw [this]; grind
    · have hl : l < c := by omega
      have f : ∀ z : Vec, Dt (c + 1) (upd v l z) = Dt c (upd v l z) * v c c - (S c (fun m => if m = l then 0 else Dt c (upd (upd v m (v c)) l z) * v m c) + Dt c (upd v l (v c)) * z c) := fun z => by
        show Dt c (upd v l z) * (upd v l z) c c - S c (fun m => Dt c (upd (upd v l z) m ((upd v l z) c)) * (upd v l z) m c) = _
        rw [upd_ne _ _ (show c ≠ l by omega)]
        congr 1
        have e1 : S c (fun m => Dt c (upd (upd v l z) m (v c)) * (upd v l z) m c) = S c (fun m => 1 * (if m = l then 0 else Dt c (upd (upd v m (v c)) l z) * v m c) + 1 * (if m = l then Dt c (upd v l (v c)) * z c else 0)) := by
          refine S_congr fun m hm => ?_
          by_cases e : m = l
          · subst e; rw [upd_upd, upd_self]; simp
          · rw [upd_ne _ _ e, upd_comm _ _ _ (fun q => e q.symm)]; simp [e]
        rw [e1, S_lin, S_if hl]
        simp
      rw [f, f, f, Dt_lin a b x y hl]
      have : S c (fun m => if m = l then 0 else Dt c (upd (upd v m (v c)) l fun j => a * x j + b * y j) * v m c) = a * S c (fun m => if m = l then 0 else Dt c (upd (upd v m (v c)) l x) * v m c) + b * S c (fun m => if m = l then 0 else Dt c (upd (upd v m (v c)) l y) * v m c) := by
        rw [← S_lin]
        refine S_congr fun m hm => ?_
        by_cases e : m = l
        · simp [e]
        · simp only [if_neg e]
          rw [Dt_lin a b x y hl]; grind
      rw [this]; grind
/-- two rows turned about, if equal rows give 0 -/
theorem Dt_swap' {c : Nat} (alt : ∀ (v : Mat) (i j : Nat), i < c → j < c → i ≠ j → v i = v j → Dt c v = 0) (v : Mat) {i j : Nat} (hi : i < c) (hj : j < c) (n : i ≠ j) (x y : Vec) : Dt c (upd (upd v i x) j y) = - Dt c (upd (upd v i y) j x) := by
  have z := alt (upd (upd v i (fun k => 1 * x k + 1 * y k)) j (fun k => 1 * x k + 1 * y k)) i j hi hj n (by rw [upd_ne _ _ n, upd_self, upd_self])
  rw [Dt_lin 1 1 x y hj, upd_comm _ _ _ n, Dt_lin 1 1 x y hi, upd_comm (v := v) _ _ n, Dt_lin 1 1 x y hi] at z
  have z1 := alt (upd (upd v i x) j x) i j hi hj n (by rw [upd_ne _ _ n, upd_self, upd_self])
  have z2 := alt (upd (upd v i y) j y) i j hi hj n (by rw [upd_ne _ _ n, upd_self, upd_self])
  rw [upd_comm _ _ _ n] at z1 z2
  rw [upd_comm _ _ _ n, upd_comm _ y x n]
  omega
theorem Dt_alt : ∀ {c : Nat} (v : Mat) (i j : Nat), i < c → j < c → i ≠ j → v i = v j → Dt c v = 0
  | 0, _, _, _, h, _, _, _ => by omega
  | c + 1, v, i, j, hi, hj, n, e => by
    have main : ∀ (i j : Nat), i < c + 1 → j < c + 1 → i < j → v i = v j → Dt (c + 1) v = 0 := fun i j hi hj n e => by
      show Dt c v * v c c - S c (fun l => Dt c (upd v l (v c)) * v l c) = 0
      by_cases hc : j = c
      · subst hc
        rw [S_one (i := i) n (fun l hl h => by
          rw [Dt_alt (upd v l (v j)) l i hl (by omega) h (by rw [upd_self, upd_ne _ _ (Ne.symm h)]; exact e.symm)]; simp)]
        rw [← e, upd_id]; omega
      · rw [Dt_alt v i j (by omega) (by omega) (by omega) e]
        rw [S_two (i := i) (m := j) (by omega) (by omega) (by omega) (fun l hl h1 h2 => by
          rw [Dt_alt (upd v l (v c)) i j (by omega) (by omega) (by omega) (by rw [upd_ne _ _ (Ne.symm h1), upd_ne _ _ (Ne.symm h2)]; exact e)]; simp)]
        have s := Dt_swap' (c := c) (fun v i j => Dt_alt v i j) v (i := i) (j := j) (by omega) (by omega) (by omega) (v c) (v i)
        rw [upd_comm _ _ _ (show i ≠ j by omega), show upd (upd v j (v i)) i (v c) = upd v i (v c) by rw [e, upd_id], upd_id] at s
        rw [s, e]; grind
    rcases Nat.lt_or_gt_of_ne n with h | h
    · exact main i j hi hj h e
    · exact main j i hj hi h e.symm
theorem Dt_swap {c : Nat} (v : Mat) {i j : Nat} (hi : i < c) (hj : j < c) (n : i ≠ j) (x y : Vec) : Dt c (upd (upd v i x) j y) = - Dt c (upd (upd v i y) j x) := Dt_swap' (fun v i j => Dt_alt v i j) v hi hj n x y
theorem Dt_sum {c : Nat} {v : Mat} {i : Nat} (hi : i < c) (a : Nat → Int) (w : Mat) : ∀ (m : Nat), Dt c (upd v i (fun j => S m (fun k => a k * w k j))) = S m (fun k => a k * Dt c (upd v i (w k)))
  | 0 => by
    have := Dt_lin 0 0 (fun _ => 0) (fun _ => 0) (v := v) hi
    simpa [S] using this
  | m + 1 => by
    have := Dt_lin 1 (a m) (fun j => S m (fun k => a k * w k j)) (w m) (v := v) hi
    rw [Dt_sum hi a w m] at this
    simpa [S] using this
/-- the row u less its part in the first c rows -/
def W (c : Nat) (v : Mat) (u : Vec) : Vec := fun j => Dt c v * u j - S c (fun l => Dt c (upd v l u) * v l j)
theorem W_congr {c : Nat} {v w : Mat} {u : Vec} (h : ∀ i, i < c → v i = w i) (j : Nat) : W c v u j = W c w u j := by
  unfold W
  rw [Dt_congr (w := w) fun i j hi _ => by rw [h i hi]]
  congr 1
  refine S_congr fun l hl => ?_
  rw [h l hl, Dt_congr (w := upd w l u) fun i j hi _ => by
    by_cases e : i = l
    · subst e; rw [upd_self, upd_self]
    · rw [upd_ne _ _ e, upd_ne _ _ e, h i hi]]
theorem Dt_W (c : Nat) (v : Mat) (u : Vec) : Dt (c + 1) (upd v c u) = W c v u c := by
  show Dt c (upd v c u) * (upd v c u) c c - S c (fun l => Dt c (upd (upd v c u) l ((upd v c u) c)) * (upd v c u) l c) = _
  unfold W
  rw [upd_self, Dt_congr (w := v) fun i j hi _ => by rw [upd_ne _ _ (by omega)]]
  congr 1
  refine S_congr fun l hl => ?_
  rw [upd_ne _ _ (show l ≠ c by omega), Dt_congr (w := upd v l u) fun i j hi _ => by
    by_cases e : i = l
    · subst e; rw [upd_self, upd_self]
    · rw [upd_ne _ _ e, upd_ne _ _ e, upd_ne _ _ (by omega)]]
def Cramer (c : Nat) (v : Mat) : Prop := ∀ u j, j < c → W c v u j = 0
theorem pluecker {c : Nat} {v : Mat} (h : Cramer c v) (u r : Vec) {l i : Nat} (hl : l < c) (hi : i < c) (n : l ≠ i) : Dt c v * Dt c (upd (upd v l u) i r) = Dt c (upd v l u) * Dt c (upd v i r) - Dt c (upd v l r) * Dt c (upd v i u) := by
  have e1 : Dt c v * Dt c (upd (upd v l u) i r) = Dt c (upd (upd v l u) i (fun j => S c (fun m => Dt c (upd v m r) * v m j))) := by
    have := Dt_lin (Dt c v) 0 r r (v := upd v l u) hi
    rw [Int.zero_mul, Int.add_zero] at this
    rw [← this]
    refine Dt_congr fun a j ha hj => ?_
    by_cases e : a = i
    · subst e
      rw [upd_self, upd_self]
      have := h r j hj
      unfold W at this
      omega
    · rw [upd_ne _ _ e, upd_ne _ _ e]
  rw [e1, Dt_sum hi]
  rw [S_two (i := i) (m := l) hi hl (Ne.symm n) (fun m hm h1 h2 => by
    rw [Dt_alt (upd (upd v l u) i (v m)) m i hm hi h1 (by rw [upd_self, upd_ne _ _ h1, upd_ne _ _ h2])]; simp)]
  rw [Dt_swap v hl hi n u (v l), upd_id, upd_comm _ _ _ n, upd_id]
  grind
theorem star {c : Nat} {v : Mat} (h : Cramer c v) (r u : Vec) (j : Nat) : Dt c v * W (c + 1) (upd v c r) u j = W c v r c * W c v u j - W c v u c * W c v r j := by
  have d : ∀ l, l < c → Dt c v * Dt (c + 1) (upd (upd v c r) l u) = Dt c (upd v l u) * W c v r c - Dt c (upd v l r) * W c v u c := fun l hl => by
    rw [← upd_comm _ _ _ (show l ≠ c by omega), Dt_W]
    have e2 : Dt c v * S c (fun m => Dt c (upd (upd v l u) m r) * upd v l u m c) = S c (fun m => 1 * ((Dt c (upd v l u) * Dt c (upd v m r) - Dt c (upd v l r) * Dt c (upd v m u)) * v m c) + 1 * (if m = l then Dt c v * Dt c (upd v l r) * u c else 0)) := by
      rw [← S_mul]
      refine S_congr fun m hm => ?_
      by_cases e : m = l
      · subst e; rw [upd_upd, upd_self, if_pos rfl]; grind
      · rw [upd_ne _ _ e, if_neg e, ← pluecker h u r hl hm (Ne.symm e)]; grind
    have e3 : S c (fun m => (Dt c (upd v l u) * Dt c (upd v m r) - Dt c (upd v l r) * Dt c (upd v m u)) * v m c) = Dt c (upd v l u) * S c (fun m => Dt c (upd v m r) * v m c) + (- Dt c (upd v l r)) * S c (fun m => Dt c (upd v m u) * v m c) := by
      rw [← S_lin]
      refine S_congr fun m hm => ?_
      grind
    rw [S_lin, e3, S_if hl] at e2
    have e4 : Dt c v * W c (upd v l u) r c = Dt c v * (Dt c (upd v l u) * r c) - Dt c v * S c (fun m => Dt c (upd (upd v l u) m r) * upd v l u m c) := by
      unfold W; grind
    rw [e4, e2]
    unfold W
    grind
  have e5 : Dt c v * S (c + 1) (fun l => Dt (c + 1) (upd (upd v c r) l u) * upd v c r l j) = W c v r c * S c (fun l => Dt c (upd v l u) * v l j) + (- W c v u c) * S c (fun l => Dt c (upd v l r) * v l j) + Dt c v * (W c v u c * r j) := by
    show Dt c v * (S c (fun l => Dt (c + 1) (upd (upd v c r) l u) * upd v c r l j) + Dt (c + 1) (upd (upd v c r) c u) * upd v c r c j) = _
    rw [upd_upd, Dt_W, upd_self, ← S_lin, Int.mul_add, ← S_mul]
    congr 1
    refine S_congr fun l hl => ?_
    rw [upd_ne _ _ (show l ≠ c by omega), ← Int.mul_assoc, d l hl]; grind
  have e6 : Dt c v * W (c + 1) (upd v c r) u j = Dt c v * (W c v r c * u j) - Dt c v * S (c + 1) (fun l => Dt (c + 1) (upd (upd v c r) l u) * upd v c r l j) := by
    show Dt c v * (Dt (c + 1) (upd v c r) * u j - _) = _
    rw [Dt_W]; grind
  rw [e6, e5]
  have e7 : W c v u j = Dt c v * u j - S c (fun l => Dt c (upd v l u) * v l j) := rfl
  have e8 : W c v r j = Dt c v * r j - S c (fun l => Dt c (upd v l r) * v l j) := rfl
  rw [e7, e8]
  grind
theorem cramer0 (v : Mat) : Cramer 0 v := fun _ _ h => by omega
theorem cramer_succ {c : Nat} {v : Mat} (h : Cramer c v) (hd : Dt c v ≠ 0) (r : Vec) : Cramer (c + 1) (upd v c r) := fun u j hj => by
  have s := star h r u j
  have z : Dt c v * W (c + 1) (upd v c r) u j = 0 := by
    rw [s]
    by_cases e : j = c
    · subst e; grind
    · rw [h u j (by omega), h r j (by omega)]; simp
  exact (Int.mul_eq_zero.mp z).resolve_left hd
/-- a unit row -/
def un (i : Nat) : Vec := fun j => if j = i then 1 else 0
theorem W_un {c : Nat} {v : Mat} (i : Nat) (hi : c ≤ i) (j : Nat) : W c v (un i) j = Dt c v * un i j := by
  unfold W
  rw [S_zero fun l hl => by
    have : Dt c (upd v l (un i)) = 0 := by
      have z := Dt_lin 0 0 (un i) (un i) (v := v) hl
      simp only [Int.zero_mul, Int.add_zero] at z
      rw [← z]
      refine Dt_congr fun a k ha hk => ?_
      by_cases e : a = l
      · subst e; rw [upd_self, upd_self]; simp [un]; omega
      · rw [upd_ne _ _ e, upd_ne _ _ e]
    rw [this]; simp]
  omega
end Vs.Bar
namespace Vs.Bar
def SR : Nat → (Nat → Rat) → Rat
  | 0, _ => 0
  | c + 1, f => SR c f + f c
theorem SR_congr : ∀ {c : Nat} {f g : Nat → Rat}, (∀ l, l < c → f l = g l) → SR c f = SR c g
  | 0, _, _, _ => rfl
  | c + 1, f, g, h => by
    show SR c f + f c = SR c g + g c
    rw [SR_congr (fun l hl => h l (by omega)), h c (by omega)]
theorem SR_zero : ∀ {c : Nat} {f : Nat → Rat}, (∀ l, l < c → f l = 0) → SR c f = 0
  | 0, _, _ => rfl
  | c + 1, f, h => by
    show SR c f + f c = 0
    rw [SR_zero (fun l hl => h l (by omega)), h c (by omega)]; grind
theorem SR_lin (a b : Rat) : ∀ (c : Nat) (f g : Nat → Rat), SR c (fun l => a * f l + b * g l) = a * SR c f + b * SR c g
  | 0, _, _ => by simp only [SR]; grind
  | c + 1, f, g => by
    show SR c _ + _ = a * (SR c f + f c) + b * (SR c g + g c)
    rw [SR_lin a b c f g]; grind
theorem SR_add (c : Nat) (f g : Nat → Rat) : SR c (fun l => f l + g l) = SR c f + SR c g := by
  have := SR_lin 1 1 c f g
  simp only [Rat.one_mul] at this
  exact this
theorem SR_mul (a : Rat) (c : Nat) (f : Nat → Rat) : SR c (fun l => a * f l) = a * SR c f := by
  have := SR_lin a 0 c f (fun _ => 0)
  simp only [Rat.zero_mul, Rat.add_zero] at this
  exact this
theorem SR_one {i : Nat} : ∀ {c : Nat} {f : Nat → Rat}, i < c → (∀ l, l < c → l ≠ i → f l = 0) → SR c f = f i
  | 0, _, h, _ => by omega
  | c + 1, f, h, k => by
    show SR c f + f c = f i
    by_cases e : i = c
    · subst e
      rw [SR_zero fun l hl => k l (by omega) (by omega)]; grind
    · rw [SR_one (i := i) (by omega) fun l hl n => k l (by omega) n, k c (by omega) (by omega)]; grind
theorem SR_two {i m : Nat} {c : Nat} {f : Nat → Rat} (hi : i < c) (hm : m < c) (n : i ≠ m) (k : ∀ l, l < c → l ≠ i → l ≠ m → f l = 0) : SR c f = f i + f m := by
  have e : SR c f = SR c (fun l => (if l = i then f i else 0) + (if l = m then f m else 0)) := by
    refine SR_congr fun l hl => ?_
    by_cases h1 : l = i
    · subst h1; simp only [if_true, if_neg n]; grind
    · by_cases h2 : l = m
      · subst h2; simp only [if_true, if_neg h1]; grind
      · rw [k l hl h1 h2]; simp only [if_neg h1, if_neg h2]; grind
  rw [e, SR_add, SR_one (f := fun l => if l = i then f i else 0) hi (fun l _ h => if_neg h), SR_one (f := fun l => if l = m then f m else 0) hm (fun l _ h => if_neg h)]
  simp only [if_true]
abbrev Row := List Int
def gt (r : Row) (j : Nat) : Int := r.getD j 0
/-- the value of a row at a place whose last entry is 1 -/
def ev (n : Nat) (r : Row) (x : Nat → Rat) : Rat := SR n (fun j => (gt r j : Rat) * x j) + (gt r n : Rat)
def Sol (n : Nat) (rows : List Row) (x : Nat → Rat) : Prop := ∀ r ∈ rows, ev n r x = 0
def clr (head factor div : Int) (row pivot : Row) : Row := List.zipWith (fun a b => (head * a - factor * b).fdiv div) row pivot
theorem gt_lt {r : Row} {j : Nat} (h : j < r.length) : gt r j = r[j] := by simp [gt, List.getD, h]
theorem gt_ge {r : Row} {j : Nat} (h : r.length ≤ j) : gt r j = 0 := by simp [gt, List.getD, h]
theorem clr_len {h f d : Int} {r p : Row} {n : Nat} (hr : r.length = n) (hp : p.length = n) : (clr h f d r p).length = n := by
  simp [clr, hr, hp]
theorem clr_gt {h f d : Int} {r p : Row} {n j : Nat} (hr : r.length = n) (hp : p.length = n) (hj : j < n) : gt (clr h f d r p) j = (h * gt r j - f * gt p j).fdiv d := by
  rw [gt_lt (by rw [clr_len hr hp]; exact hj), gt_lt (by omega), gt_lt (by omega)]
  simp [clr]
theorem ev_clr {n : Nat} {h f d : Int} {r p : Row} (hr : r.length = n + 1) (hp : p.length = n + 1) (ex : ∀ j, j < n + 1 → h * gt r j - f * gt p j = d * gt (clr h f d r p) j) (x : Nat → Rat) : (d : Rat) * ev n (clr h f d r p) x = (h : Rat) * ev n r x - (f : Rat) * ev n p x := by
  have k : ∀ j, j < n + 1 → (d : Rat) * (gt (clr h f d r p) j : Rat) = (h : Rat) * (gt r j : Rat) - (f : Rat) * (gt p j : Rat) := fun j hj => by
    have := ex j hj
    rw [← Rat.intCast_mul, ← Rat.intCast_mul, ← Rat.intCast_mul, ← Rat.intCast_sub, this]
  have e : (d : Rat) * SR n (fun j => (gt (clr h f d r p) j : Rat) * x j) = (h : Rat) * SR n (fun j => (gt r j : Rat) * x j) + (-(f : Rat)) * SR n (fun j => (gt p j : Rat) * x j) := by
    rw [← SR_mul, ← SR_lin]
    refine SR_congr fun j hj => ?_
    have := k j (by omega)
    grind
  have := k n (by omega)
  unfold ev
  grind
/-- the state when c columns are done -/
structure Inv (n c : Nat) (left : List Row) (bottom : Int) : Prop where
  len : ∀ r ∈ left, r.length = n + 1
  ge : c ≤ left.length
  ne : bottom ≠ 0
  ex : ∃ v : Mat, Cramer c v ∧ bottom = Dt c v ∧ (∀ i r, left[i]? = some r → i < c → ∀ j, j < n + 1 → gt r j = bottom * un i j - W c v (un i) j) ∧ (∀ i r, left[i]? = some r → c ≤ i → ∃ u, ∀ j, j < n + 1 → gt r j = W c v u j)
theorem Inv.start {n : Nat} {rows : List Row} (h : ∀ r ∈ rows, r.length = n + 1) : Inv n 0 rows 1 :=
  ⟨h, Nat.zero_le _, by decide, fun _ _ => 0, cramer0 _, rfl, fun i r _ h => by omega, fun i r _ _ => ⟨fun j => gt r j, fun j _ => by simp [W, Dt, S]⟩⟩
/-- zeros in the columns that are done -/
theorem Inv.low {n c : Nat} {left : List Row} {bottom : Int} (h : Inv n c left bottom) (hc : c ≤ n) {i : Nat} {r : Row} (e : left[i]? = some r) {j : Nat} (hj : j < c) : gt r j = if i = j then bottom else 0 := by
  obtain ⟨v, h1, h2, h3, h4⟩ := h.ex
  by_cases hi : i < c
  · rw [h3 i r e hi j (by omega), h1 _ _ hj]
    by_cases q : i = j
    · subst q; simp [un]
    · simp [un, q, Ne.symm q]
  · obtain ⟨u, hu⟩ := h4 i r e (by omega)
    rw [hu j (by omega), h1 _ _ hj, if_neg (by omega)]
/-- the row p is moved to the position c -/
def mv (left : List Row) (c k : Nat) (p : Row) : List Row := left.take c ++ [p] ++ (left.drop c).take (k - c) ++ left.drop (k + 1)
theorem mv_mem {left : List Row} {c k : Nat} {p : Row} (hk : c ≤ k) (e : left[k]? = some p) (r : Row) : r ∈ mv left c k p ↔ r ∈ left := by
  have hl := (List.getElem?_eq_some_iff.mp e).1
  have e1 : left = left.take c ++ ((left.drop c).take (k - c) ++ left.drop k) := by
    have : (left.drop c).drop (k - c) = left.drop k := by rw [List.drop_drop]; congr 1; omega
    rw [← this, List.take_append_drop, List.take_append_drop]
  have e2 : left.drop k = p :: left.drop (k + 1) := by
    rw [List.drop_eq_getElem_cons hl]
    congr 1
    exact (List.getElem?_eq_some_iff.mp e).2
  rw [e2] at e1
  have : r ∈ left ↔ r ∈ left.take c ++ ((left.drop c).take (k - c) ++ p :: left.drop (k + 1)) := by rw [← e1]
  rw [this]
  simp only [mv, List.mem_append, List.mem_cons, List.mem_nil_iff, or_false]
  grind
theorem mv_at {left : List Row} {c k : Nat} {p : Row} (hk : c ≤ k) (e : left[k]? = some p) : (mv left c k p)[c]? = some p := by
  have hl := (List.getElem?_eq_some_iff.mp e).1
  simp only [mv, List.append_assoc]
  rw [List.getElem?_append_right (by simp; omega)]
  simp; rw [show c - min c left.length = 0 by omega]; simp
theorem mv_lo {left : List Row} {c k : Nat} {p : Row} (hk : c ≤ k) (e : left[k]? = some p) {i : Nat} (hi : i < c) : (mv left c k p)[i]? = left[i]? := by
  have hl := (List.getElem?_eq_some_iff.mp e).1
  simp only [mv, List.append_assoc]
  rw [List.getElem?_append_left (by simp; omega), List.getElem?_take_of_lt hi]
theorem mv_hi {left : List Row} {c k : Nat} {p : Row} (hk : c ≤ k) (e : left[k]? = some p) {i : Nat} {r : Row} (hi : c ≤ i) (h : (mv left c k p)[i]? = some r) : ∃ i', c ≤ i' ∧ left[i']? = some r := by
  have hl := (List.getElem?_eq_some_iff.mp e).1
  simp only [mv, List.append_assoc] at h
  rw [List.getElem?_append_right (by simp; omega)] at h
  have : r ∈ [p] ++ ((left.drop c).take (k - c) ++ left.drop (k + 1)) := List.mem_iff_getElem?.mpr ⟨_, h⟩
  simp only [List.mem_append, List.mem_cons, List.mem_nil_iff, or_false] at this
  rcases this with rfl | h | h
  · exact ⟨k, hk, e⟩
  · obtain ⟨j, hj⟩ := List.mem_iff_getElem?.mp (List.mem_of_mem_take h)
    rw [List.getElem?_drop] at hj
    exact ⟨_, Nat.le_add_right _ _, hj⟩
  · obtain ⟨j, hj⟩ := List.mem_iff_getElem?.mp h
    rw [List.getElem?_drop] at hj
    exact ⟨_, by omega, hj⟩
theorem mv_len {left : List Row} {c k : Nat} {p : Row} (hk : c ≤ k) (e : left[k]? = some p) : (mv left c k p).length = left.length := by
  have hl := (List.getElem?_eq_some_iff.mp e).1
  simp [mv]; omega
/-- one column -/
def stepRow (c : Nat) (p : Row) (bottom : Int) (i : Nat) (r : Row) : Row := if i = c then r else clr (gt p c) (gt r c) bottom r p
def stepL (left : List Row) (c : Nat) (p : Row) (bottom : Int) : List Row := left.mapIdx (stepRow c p bottom)
theorem Inv.mv {n c : Nat} {left : List Row} {bottom : Int} (h : Inv n c left bottom) {k : Nat} {p : Row} (hk : c ≤ k) (e : left[k]? = some p) : Inv n c (mv left c k p) bottom := by
  obtain ⟨v, h1, h2, h3, h4⟩ := h.ex
  refine ⟨fun r hr => h.len r ((mv_mem hk e r).mp hr), by rw [mv_len hk e]; exact h.ge, h.ne, v, h1, h2, fun i r hr hi => h3 i r (by rw [← mv_lo hk e hi]; exact hr) hi, fun i r hr hi => ?_⟩
  obtain ⟨i', a, b⟩ := mv_hi hk e hi hr
  exact h4 i' r b a
theorem Inv.exact {n c : Nat} {left : List Row} {bottom : Int} (h : Inv n c left bottom) (hc : c < n) {p : Row} (e : left[c]? = some p) (hp : gt p c ≠ 0) :
    Inv n (c + 1) (stepL left c p bottom) (gt p c) ∧ (∀ i r, left[i]? = some r → i ≠ c → ∀ j, j < n + 1 → gt p c * gt r j - gt r c * gt p j = bottom * gt (clr (gt p c) (gt r c) bottom r p) j) := by
  obtain ⟨v, h1, h2, h3, h4⟩ := h.ex
  have hl := (List.getElem?_eq_some_iff.mp e).1
  have lp : p.length = n + 1 := h.len p (List.mem_of_getElem? e)
  obtain ⟨r0, hr0⟩ := h4 c p e (Nat.le_refl _)
  have hd : Dt c v ≠ 0 := h2 ▸ h.ne
  have hh : gt p c = W c v r0 c := hr0 c (by omega)
  have hD : Dt (c + 1) (upd v c r0) = gt p c := by rw [Dt_W, hh]
  -- what stands in the new rows
  have hi' : ∀ i r, left[i]? = some r → c < i → ∃ u, ∀ j, j < n + 1 → gt p c * gt r j - gt r c * gt p j = bottom * W (c + 1) (upd v c r0) u j := fun i r hr hci => by
    obtain ⟨u, hu⟩ := h4 i r hr (by omega)
    refine ⟨u, fun j hj => ?_⟩
    rw [h2, star h1 r0 u j, hu j hj, hu c (by omega), hr0 j hj, hh]
  have lo' : ∀ i r, left[i]? = some r → i < c → ∀ j, j < n + 1 → gt p c * gt r j - gt r c * gt p j = bottom * (gt p c * un i j - W (c + 1) (upd v c r0) (un i) j) := fun i r hr hci j hj => by
    rw [Int.mul_sub, h2, star h1 r0 (un i) j, h3 i r hr hci j hj, h3 i r hr hci c (by omega), hr0 j hj, hh, h2]
    have : un i c = 0 := by simp [un]; omega
    rw [this]; grind
  have at' : ∀ j, j < n + 1 → gt p j = gt p c * un c j - W (c + 1) (upd v c r0) (un c) j := fun j hj => by
    have s := star h1 r0 (un c) j
    rw [W_un c (Nat.le_refl _), W_un c (Nat.le_refl _), ← hh, ← hr0 j hj] at s
    have u1 : un c c = 1 := by simp [un]
    rw [u1] at s
    have : Dt c v * (gt p j - (gt p c * un c j - W (c + 1) (upd v c r0) (un c) j)) = 0 := by grind
    have := (Int.mul_eq_zero.mp this).resolve_left hd
    omega
  have ex' : ∀ i r, left[i]? = some r → i ≠ c → ∀ j, j < n + 1 → gt p c * gt r j - gt r c * gt p j = bottom * gt (clr (gt p c) (gt r c) bottom r p) j := fun i r hr n j hj => by
    have lr : r.length = _ := h.len r (List.mem_of_getElem? hr)
    rw [clr_gt lr lp hj]
    have : ∃ q, gt p c * gt r j - gt r c * gt p j = bottom * q := by
      rcases Nat.lt_or_gt_of_ne n with q | q
      · exact ⟨_, lo' i r hr q j hj⟩
      · obtain ⟨u, hu⟩ := hi' i r hr q; exact ⟨_, hu j hj⟩
    obtain ⟨q, hq⟩ := this
    rw [hq, Int.mul_comm bottom q, Int.mul_fdiv_cancel _ h.ne, Int.mul_comm]
  refine ⟨⟨fun r hr => ?_, by simp [stepL]; omega, hp, upd v c r0, cramer_succ h1 hd r0, hD.symm, fun i r hr hi j hj => ?_, fun i r hr hi => ?_⟩, ex'⟩
  · obtain ⟨i, hi⟩ := List.mem_iff_getElem?.mp hr
    rw [stepL, List.getElem?_mapIdx] at hi
    cases q : left[i]? with
    | none => rw [q] at hi; cases hi
    | some r' =>
      rw [q] at hi; cases hi
      have lr := h.len r' (List.mem_of_getElem? q)
      unfold stepRow
      split
      · exact lr
      · exact clr_len lr lp
  · rw [stepL, List.getElem?_mapIdx] at hr
    cases q : left[i]? with
    | none => rw [q] at hr; cases hr
    | some r' =>
      rw [q] at hr; cases hr
      unfold stepRow
      by_cases ec : i = c
      · subst ec
        rw [if_pos rfl]
        rw [e] at q; cases q
        exact at' j hj
      · rw [if_neg ec]
        have a := ex' i r' q ec j hj
        rw [lo' i r' q (by omega) j hj] at a
        exact (Int.eq_of_mul_eq_mul_left h.ne a).symm
  · rw [stepL, List.getElem?_mapIdx] at hr
    cases q : left[i]? with
    | none => rw [q] at hr; cases hr
    | some r' =>
      rw [q] at hr; cases hr
      unfold stepRow
      rw [if_neg (by omega)]
      obtain ⟨u, hu⟩ := hi' i r' q (by omega)
      refine ⟨u, fun j hj => ?_⟩
      have a := ex' i r' q (by omega) j hj
      rw [hu j hj] at a
      exact (Int.eq_of_mul_eq_mul_left h.ne a).symm
/-- the solutions stay -/
theorem Inv.sol {n c : Nat} {left : List Row} {bottom : Int} (h : Inv n c left bottom) (hc : c < n) {p : Row} (e : left[c]? = some p) (hp : gt p c ≠ 0) (x : Nat → Rat) : Sol n (stepL left c p bottom) x ↔ Sol n left x := by
  have ex := (h.exact hc e hp).2
  have lp : p.length = n + 1 := h.len p (List.mem_of_getElem? e)
  have hb : (bottom : Rat) ≠ 0 := fun q => h.ne (by exact_mod_cast q)
  have hg : (gt p c : Rat) ≠ 0 := fun q => hp (by exact_mod_cast q)
  have pm : p ∈ stepL left c p bottom := by
    refine List.mem_iff_getElem?.mpr ⟨c, ?_⟩
    rw [stepL, List.getElem?_mapIdx, e]
    simp [stepRow]
  constructor
  · intro s r hr
    obtain ⟨i, hi⟩ := List.mem_iff_getElem?.mp hr
    have sp := s p pm
    by_cases ec : i = c
    · subst ec; rw [e] at hi; cases hi; exact sp
    · have lr := h.len r hr
      have s2 := s (clr (gt p c) (gt r c) bottom r p) (List.mem_iff_getElem?.mpr ⟨i, by rw [stepL, List.getElem?_mapIdx, hi]; simp [stepRow, ec]⟩)
      have := ev_clr lr lp (ex i r hi ec) x
      rw [s2, sp, Rat.mul_zero, Rat.mul_zero] at this
      have : (gt p c : Rat) * ev n r x = 0 := by grind
      exact (Rat.mul_eq_zero.mp this).resolve_left hg
  · intro s r hr
    obtain ⟨i, hi⟩ := List.mem_iff_getElem?.mp hr
    rw [stepL, List.getElem?_mapIdx] at hi
    cases q : left[i]? with
    | none => rw [q] at hi; cases hi
    | some r' =>
      rw [q] at hi; cases hi
      unfold stepRow
      by_cases ec : i = c
      · rw [if_pos ec]; exact s r' (List.mem_of_getElem? q)
      · rw [if_neg ec]
        have := ev_clr (h.len r' (List.mem_of_getElem? q)) lp (ex i r' q ec) x
        rw [s r' (List.mem_of_getElem? q), s p (List.mem_of_getElem? e)] at this
        have : (bottom : Rat) * ev n (clr (gt p c) (gt r' c) bottom r' p) x = 0 := by rw [this]; grind
        exact (Rat.mul_eq_zero.mp this).resolve_left hb
end Vs.Bar
namespace Vs.Bar
def findK (left : List Row) (c : Nat) : Option Nat := (List.range' c (left.length - c)).find? (fun k => decide (gt (left.getD k []) c ≠ 0))
def wpv (left : List Row) (c : Nat) : Option (List Row) := match findK left c with
  | some k => some (mv left c k (left.getD k []))
  | none => none
def red : Nat → Nat → List Row → Int → Option (List Row × Int)
  | 0, _, left, b => some (left, b)
  | m + 1, c, left, b => match wpv left c with
    | none => none
    | some l1 => red m (c + 1) (stepL l1 c (l1.getD c []) b) (gt (l1.getD c []) c)
def cz (rows : List Row) (n : Nat) : Option Row := match red n 0 rows 1 with
  | none => none
  | some (left, b) => if (left.drop n).any (fun r => decide (gt r n ≠ 0)) = true then none else if b < 0 then some ((left.take n).map (fun r => gt r n) ++ [-b]) else some ((left.take n).map (fun r => - gt r n) ++ [b])
theorem findK_some {left : List Row} {c k : Nat} (h : findK left c = some k) : c ≤ k ∧ left[k]? = some (left.getD k []) ∧ gt (left.getD k []) c ≠ 0 := by
  unfold findK at h
  have h1 := List.mem_of_find?_eq_some h
  have h2 := List.find?_some h
  rw [List.mem_range'_1] at h1
  refine ⟨h1.1, ?_, of_decide_eq_true h2⟩
  rw [List.getD_eq_getElem?_getD, List.getElem?_eq_getElem (by omega)]; rfl
theorem findK_none {left : List Row} {c : Nat} (h : findK left c = none) {i : Nat} {r : Row} (hi : c ≤ i) (e : left[i]? = some r) : gt r c = 0 := by
  unfold findK at h
  rw [List.find?_eq_none] at h
  have hl := (List.getElem?_eq_some_iff.mp e).1
  have := h i (by rw [List.mem_range'_1]; omega)
  rw [List.getD_eq_getElem?_getD, e] at this
  simpa using this
/-- what a column does -/
theorem wpv_some {n c : Nat} {left l1 : List Row} {bottom : Int} (h : Inv n c left bottom) (hc : c < n) (e : wpv left c = some l1) :
    ∃ k p, c ≤ k ∧ left[k]? = some p ∧ gt p c ≠ 0 ∧ l1 = mv left c k p ∧ l1.getD c [] = p ∧ l1[c]? = some p ∧ Inv n c l1 bottom ∧ Inv n (c + 1) (stepL l1 c p bottom) (gt p c) ∧ ∀ x, Sol n (stepL l1 c p bottom) x ↔ Sol n left x := by
  unfold wpv at e
  cases q : findK left c with
  | none => rw [q] at e; cases e
  | some k =>
    rw [q] at e
    cases e
    obtain ⟨a, b, d⟩ := findK_some q
    generalize left.getD k [] = p at *
    have m := mv_at a b
    have I1 := h.mv a b
    refine ⟨k, p, a, b, d, rfl, by rw [List.getD_eq_getElem?_getD, m]; rfl, m, I1, (I1.exact hc m d).1, fun x => ?_⟩
    rw [I1.sol hc m d x]
    exact ⟨fun s r hr => s r ((mv_mem a b r).mpr hr), fun s r hr => s r ((mv_mem a b r).mp hr)⟩
/-- a column without a pivot: solutions are not alone -/
theorem stuck {n c : Nat} {left : List Row} {bottom : Int} (h : Inv n c left bottom) (hc : c < n) (e : wpv left c = none) {x : Nat → Rat} (s : Sol n left x) : ∃ y, Sol n left y ∧ ∃ i, i < n ∧ y i ≠ x i := by
  have hn : findK left c = none := by
    unfold wpv at e
    cases q : findK left c with
    | none => rfl
    | some k => rw [q] at e; cases e
  have hb : (bottom : Rat) ≠ 0 := fun q => h.ne (by exact_mod_cast q)
  let d : Nat → Rat := fun i => if i < c then - (gt (left.getD i []) c : Rat) else if i = c then (bottom : Rat) else 0
  have dc : d c = bottom := by show (if c < c then _ else if c = c then _ else _) = _; rw [if_neg (by omega), if_pos rfl]
  refine ⟨fun i => x i + d i, fun r hr => ?_, c, hc, fun q => hb ?_⟩
  · obtain ⟨i, hi⟩ := List.mem_iff_getElem?.mp hr
    have z : SR n (fun j => (gt r j : Rat) * d j) = 0 := by
      have out : ∀ j, j < n → c < j → (gt r j : Rat) * d j = 0 := fun j _ h2 => by
        show _ * (if j < c then _ else if j = c then _ else _) = _
        rw [if_neg (by omega), if_neg (by omega)]; grind
      by_cases hic : i < c
      · rw [SR_two (i := i) (m := c) (by omega) hc (by omega) (fun j hj n1 n2 => by
          by_cases q : j < c
          · rw [h.low (Nat.le_of_lt hc) hi q, if_neg (Ne.symm n1)]
            simp only [Rat.intCast_zero]; grind
          · exact out j hj (by omega)), dc]
        have di : d i = - (gt r c : Rat) := by
          show (if i < c then _ else _) = _
          rw [if_pos hic, List.getD_eq_getElem?_getD, hi]; rfl
        rw [di, h.low (Nat.le_of_lt hc) hi hic, if_pos rfl]; grind
      · refine SR_zero fun j hj => ?_
        by_cases q : j < c
        · rw [h.low (Nat.le_of_lt hc) hi q, if_neg (by omega)]
          simp only [Rat.intCast_zero]; grind
        · by_cases q2 : j = c
          · subst q2
            rw [findK_none hn (by omega) hi]
            simp only [Rat.intCast_zero]; grind
          · exact out j hj (by omega)
    have e1 : SR n (fun j => (gt r j : Rat) * (x j + d j)) = SR n (fun j => (gt r j : Rat) * x j) + SR n (fun j => (gt r j : Rat) * d j) := by
      rw [← SR_add]; exact SR_congr fun j _ => by grind
    have := s r hr
    unfold ev at this ⊢
    rw [e1, z]; grind
  · have q : x c + d c = x c := q
    rw [dc] at q; grind
theorem red_none {n : Nat} : ∀ {m c : Nat} {left : List Row} {bottom : Int}, Inv n c left bottom → c + m = n → red m c left bottom = none → ∀ {x : Nat → Rat}, Sol n left x → ∃ y, Sol n left y ∧ ∃ i, i < n ∧ y i ≠ x i
  | 0, _, _, _, _, _, e, _, _ => by cases e
  | m + 1, c, left, bottom, h, hc, e, x, s => by
    unfold red at e
    cases q : wpv left c with
    | none => exact stuck h (by omega) q s
    | some l1 =>
      rw [q] at e
      obtain ⟨k, p, a, b, d, f, g, g2, I1, I2, so⟩ := wpv_some h (by omega) q
      have e : red m (c + 1) (stepL l1 c (l1.getD c []) bottom) (gt (l1.getD c []) c) = none := e
      rw [g] at e
      obtain ⟨y, hy, hn⟩ := red_none I2 (by omega) e ((so x).mpr s)
      exact ⟨y, (so y).mp hy, hn⟩
theorem red_some {n : Nat} : ∀ {m c : Nat} {left : List Row} {bottom : Int} {l2 : List Row} {b2 : Int}, Inv n c left bottom → c + m = n → red m c left bottom = some (l2, b2) → Inv n n l2 b2 ∧ ∀ x, Sol n l2 x ↔ Sol n left x
  | 0, c, left, bottom, l2, b2, h, hc, e => by
    cases e
    have : c = n := by omega
    subst this
    exact ⟨h, fun _ => Iff.rfl⟩
  | m + 1, c, left, bottom, l2, b2, h, hc, e => by
    unfold red at e
    cases q : wpv left c with
    | none => rw [q] at e; cases e
    | some l1 =>
      rw [q] at e
      obtain ⟨k, p, a, b, d, f, g, g2, I1, I2, so⟩ := wpv_some h (by omega) q
      have e : red m (c + 1) (stepL l1 c (l1.getD c []) bottom) (gt (l1.getD c []) c) = some (l2, b2) := e
      rw [g] at e
      obtain ⟨I3, s3⟩ := red_some I2 (by omega) e
      exact ⟨I3, fun x => (s3 x).trans (so x)⟩
theorem ev_done {n : Nat} {left : List Row} {bottom : Int} (h : Inv n n left bottom) {i : Nat} {r : Row} (e : left[i]? = some r) (x : Nat → Rat) : ev n r x = (if i < n then (bottom : Rat) * x i else 0) + (gt r n : Rat) := by
  unfold ev
  congr 1
  by_cases hi : i < n
  · rw [if_pos hi, SR_one hi (fun j hj q => by
      rw [h.low (Nat.le_refl _) e hj, if_neg (Ne.symm q)]
      simp only [Rat.intCast_zero]; grind), h.low (Nat.le_refl _) e hi, if_pos rfl]
  · rw [if_neg hi]
    refine SR_zero fun j hj => ?_
    rw [h.low (Nat.le_refl _) e hj, if_neg (by omega)]
    simp only [Rat.intCast_zero]; grind
theorem cz_none {n : Nat} {rows : List Row} (hl : ∀ r ∈ rows, r.length = n + 1) (e : cz rows n = none) {x : Nat → Rat} (s : Sol n rows x) : ∃ y, Sol n rows y ∧ ∃ i, i < n ∧ y i ≠ x i := by
  unfold cz at e
  cases q : red n 0 rows 1 with
  | none => exact red_none (Inv.start hl) (by omega) q s
  | some lb =>
    obtain ⟨left, b⟩ := lb
    rw [q] at e
    obtain ⟨I, so⟩ := red_some (Inv.start hl) (by omega) q
    have s' := (so x).mpr s
    have e : (if (left.drop n).any (fun r => decide (gt r n ≠ 0)) = true then (none : Option Row) else if b < 0 then some ((left.take n).map (fun r => gt r n) ++ [-b]) else some ((left.take n).map (fun r => - gt r n) ++ [b])) = none := e
    split at e
    · rename_i ha
      obtain ⟨r, hr, hz⟩ := List.any_eq_true.mp ha
      have hz := of_decide_eq_true hz
      obtain ⟨i, hi⟩ := List.mem_iff_getElem?.mp hr
      rw [List.getElem?_drop] at hi
      have := s' r (List.mem_of_getElem? hi)
      rw [ev_done I hi, if_neg (by omega)] at this
      exact absurd (show gt r n = 0 by have : (gt r n : Rat) = 0 := by grind
                                       exact_mod_cast this) hz
    · split at e <;> cases e
theorem cz_some {n : Nat} {rows : List Row} (hl : ∀ r ∈ rows, r.length = n + 1) {pl : Row} (e : cz rows n = some pl) : pl.length = n + 1 ∧ 0 < gt pl n ∧ ∀ x, Sol n rows x ↔ ∀ i, i < n → x i = (gt pl i : Rat) / (gt pl n : Rat) := by
  unfold cz at e
  cases q : red n 0 rows 1 with
  | none => rw [q] at e; cases e
  | some lb =>
    obtain ⟨left, b⟩ := lb
    rw [q] at e
    obtain ⟨I, so⟩ := red_some (Inv.start hl) (by omega) q
    have e : (if (left.drop n).any (fun r => decide (gt r n ≠ 0)) = true then (none : Option Row) else if b < 0 then some ((left.take n).map (fun r => gt r n) ++ [-b]) else some ((left.take n).map (fun r => - gt r n) ++ [b])) = some pl := e
    split at e
    · cases e
    · rename_i ha
      have hz : ∀ i r, left[i]? = some r → n ≤ i → gt r n = 0 := fun i r hr hi => by
        by_cases z : gt r n = 0
        · exact z
        · refine absurd (List.any_eq_true.mpr ⟨r, List.mem_iff_getElem?.mpr ⟨i - n, by rw [List.getElem?_drop, Nat.add_sub_cancel' hi]; exact hr⟩, decide_eq_true z⟩) ha
      have hb : (b : Rat) ≠ 0 := fun q => I.ne (by exact_mod_cast q)
      have main : ∀ x, Sol n rows x ↔ ∀ i, i < n → x i = - (gt (left.getD i []) n : Rat) / (b : Rat) := fun x => by
        rw [← so x]
        constructor
        · intro s i hi
          have hil : i < left.length := Nat.lt_of_lt_of_le hi I.ge
          have hr : left[i]? = some (left.getD i []) := by rw [List.getD_eq_getElem?_getD, List.getElem?_eq_getElem hil]; rfl
          have := s _ (List.mem_of_getElem? hr)
          rw [ev_done I hr, if_pos hi] at this
          grind
        · intro h r hr
          obtain ⟨i, hi⟩ := List.mem_iff_getElem?.mp hr
          rw [ev_done I hi]
          by_cases q : i < n
          · rw [if_pos q, h i q, List.getD_eq_getElem?_getD, hi]
            simp only [Option.getD_some]; grind
          · rw [if_neg q, hz i r hi (by omega)]
            simp only [Rat.intCast_zero]; grind
      have tl : (left.take n).length = n := by rw [List.length_take]; exact Nat.min_eq_left I.ge
      have at1 : ∀ (f : Row → Int) (z : Int) (i : Nat), i < n → gt ((left.take n).map f ++ [z]) i = f (left.getD i []) := fun f z i hi => by
        have hil : i < left.length := Nat.lt_of_lt_of_le hi I.ge
        unfold gt
        rw [List.getD_eq_getElem?_getD, List.getElem?_append_left (by rw [List.length_map, tl]; exact hi), List.getElem?_map, List.getElem?_take_of_lt hi, List.getD_eq_getElem?_getD, List.getElem?_eq_getElem hil]; rfl
      have at2 : ∀ (f : Row → Int) (z : Int), gt ((left.take n).map f ++ [z]) n = z := fun f z => by
        unfold gt
        rw [List.getD_eq_getElem?_getD, List.getElem?_append_right (by rw [List.length_map, tl]; exact Nat.le_refl _), List.length_map, tl, Nat.sub_self]; rfl
      split at e
      · rename_i hb0
        cases e
        refine ⟨by rw [List.length_append, List.length_map, tl]; rfl, by rw [at2]; omega, fun x => ?_⟩
        rw [main x]
        constructor <;> intro h i hi <;> rw [h i hi, at1 _ _ i hi, at2] <;> rw [Rat.intCast_neg] <;> grind
      · rename_i hb0
        cases e
        refine ⟨by rw [List.length_append, List.length_map, tl]; rfl, by rw [at2]; have := I.ne; omega, fun x => ?_⟩
        rw [main x]
        constructor <;> intro h i hi <;> rw [h i hi, at1 _ _ i hi, at2] <;> rw [Rat.intCast_neg]
def Bd (B : Nat) (r : Row) : Prop := ∀ j, (gt r j).natAbs < 2 ^ B
theorem Bd.mono {B C : Nat} {r : Row} (h : Bd B r) (e : B ≤ C) : Bd C r := fun j => Nat.lt_of_lt_of_le (h j) (Nat.pow_le_pow_right (by decide) e)
theorem bd_step {n c B : Nat} {left : List Row} {bottom : Int} (h : Inv n c left bottom) (hc : c < n) {p : Row} (e : left[c]? = some p) (hp : gt p c ≠ 0) (hb : ∀ r ∈ left, Bd B r) : ∀ r ∈ stepL left c p bottom, Bd (2 * B + 1) r := by
  intro r hr j
  obtain ⟨i, hi⟩ := List.mem_iff_getElem?.mp hr
  rw [stepL, List.getElem?_mapIdx] at hi
  cases q : left[i]? with
  | none => rw [q] at hi; cases hi
  | some r' =>
    rw [q] at hi; cases hi
    have hr' := hb r' (List.mem_of_getElem? q)
    have hpb := hb p (List.mem_of_getElem? e)
    have lr := h.len r' (List.mem_of_getElem? q)
    have lp := h.len p (List.mem_of_getElem? e)
    unfold stepRow
    by_cases ec : i = c
    · rw [if_pos ec]; exact (hr'.mono (by omega)) j
    · rw [if_neg ec]
      by_cases hj : j < n + 1
      · have x := (h.exact hc e hp).2 i r' q ec j hj
        have n1 : (bottom * gt (clr (gt p c) (gt r' c) bottom r' p) j).natAbs < 2 ^ (2 * B + 1) := by
          rw [← x]
          have m1 : (gt p c * gt r' j).natAbs < 2 ^ (2 * B) := by
            rw [Int.natAbs_mul, show 2 * B = B + B by omega, Nat.pow_add]
            exact Nat.mul_lt_mul'' (hpb c) (hr' j)
          have m2 : (gt r' c * gt p j).natAbs < 2 ^ (2 * B) := by
            rw [Int.natAbs_mul, show 2 * B = B + B by omega, Nat.pow_add]
            exact Nat.mul_lt_mul'' (hr' c) (hpb j)
          rw [Nat.pow_succ]; omega
        rw [Int.natAbs_mul] at n1
        have : 0 < bottom.natAbs := Int.natAbs_pos.mpr h.ne
        exact Nat.lt_of_le_of_lt (Nat.le_mul_of_pos_left _ this) n1
      · rw [gt_ge (by rw [clr_len lr lp]; omega)]
        exact Nat.pow_pos (by decide)
end Vs.Bar
namespace Vs
open PySem PySem.Spec PyProof.Rows L2
open Bar (gt cz red wpv findK mv stepL stepRow clr Inv Sol Bd)
section
variable {μ : Mu} {δ : Sl}
def slEnd (μ : Mu) (l h : Option Int) : Option (List P) → Option (Out D × Mu)
  | some xs => some (.ok (.p (.lst (cutP xs l h))), μ)
  | none => none
@[simp] theorem evSl_eq {e : Ev} {lo hi : EvO} : evSl e lo hi δ μ = bindG (e δ μ) fun x μ1 => bindG (lo δ μ1) fun l μ2 => bindG (hi δ μ2) fun h μ3 => slEnd μ3 l h (lstOf μ3 x) := rfl
@[simp] theorem slEnd_some {l h : Option Int} {xs : List P} : slEnd μ l h (some xs) = some (.ok (.p (.lst (cutP xs l h))), μ) := rfl
@[simp] theorem evNoP_eq : evNoP δ μ = some (.ok none, μ) := rfl
def ptEnd (μ : Mu) : D → Option (Out (Option Int) × Mu)
  | .p (.int i) => some (.ok (some i), μ)
  | _ => none
@[simp] theorem evPt_eq {e : Ev} : evPt e δ μ = bindG (e δ μ) fun d μ1 => ptEnd μ1 d := rfl
@[simp] theorem ptEnd_int {i : Int} : ptEnd μ (.p (.int i)) = some (.ok (some i), μ) := rfl
@[simp] theorem lstOf_lst {xs : List P} : lstOf μ (.p (.lst xs)) = some xs := rfl
theorem cut_lo {xs : List P} {k : Nat} : cutP xs none (some (k : Int)) = xs.take k := by
  unfold cutP
  rw [HT.sIx_nat]
  show (xs.drop 0).take (min k xs.length - 0) = _
  rw [List.drop_zero, Nat.sub_zero]
  rw [List.take_eq_take_iff]
  omega
theorem cut_hi {xs : List P} {k : Nat} : cutP xs (some (k : Int)) none = xs.drop k := by
  unfold cutP
  rw [HT.sIx_nat]
  show (xs.drop (min k xs.length)).take (xs.length - min k xs.length) = _
  rw [List.take_of_length_le (by rw [List.length_drop]; omega)]
  by_cases h : k ≤ xs.length
  · rw [Nat.min_eq_left h]
  · rw [Nat.min_eq_right (by omega), List.drop_of_length_le (by omega), List.drop_of_length_le (by omega)]
theorem cut_lohi {xs : List P} {a b : Nat} (h : b ≤ xs.length) (h2 : a ≤ b) : cutP xs (some (a : Int)) (some (b : Int)) = (xs.drop a).take (b - a) := by
  unfold cutP
  rw [HT.sIx_nat, HT.sIx_nat, Nat.min_eq_left h, Nat.min_eq_left (by omega)]
theorem cut_last {xs : List P} {x : P} : cutP (xs ++ [x]) none (some (-1)) = xs := by
  unfold cutP
  have : HT.sIx (xs ++ [x]).length (xs ++ [x]).length (some (-1)) = xs.length := by
    show (if (-1 : Int) < 0 then ((-1 : Int) + ((xs ++ [x]).length : Int)).toNat else min ((-1 : Int)).toNat (xs ++ [x]).length) = _
    rw [if_pos (by decide), List.length_append]
    simp; omega
  rw [this]
  show ((xs ++ [x]).drop 0).take (xs.length - 0) = _
  simp
theorem fCatL_p {xs ys : List P} (h : xs.length + ys.length ≤ sizeLine) : fCatL (.p (.lst xs)) (.p (.lst ys)) μ = some (.p (.lst (xs ++ ys)), μ) := by
  unfold fCatL
  simp only [view_p]
  rw [if_pos h]
theorem fSum_p {ns : List Int} : fSum [.p (.lst (ns.map .int))] μ = some (.p (.int ns.sum), μ) := by
  have : intsOf (ns.map P.int) = some ns := by
    induction ns with
    | nil => rfl
    | cons n ns ih => rw [List.map_cons, intsOf, ih]; rfl
  unfold fSum
  simp [this]
theorem blsOf_map {bs : List Bool} : blsOf (bs.map P.bl) = some bs := by
  induction bs with
  | nil => rfl
  | cons n ns ih => rw [List.map_cons, blsOf, ih]; rfl
theorem fAny_p {bs : List Bool} : fAny [.p (.lst (bs.map .bl))] μ = some (.p (.bl (bs.any id)), μ) := by
  unfold fAny
  simp [blsOf_map]
theorem fAll_p {bs : List Bool} : fAll [.p (.lst (bs.map .bl))] μ = some (.p (.bl (bs.all id)), μ) := by
  unfold fAll
  simp [blsOf_map]
theorem zip_p {as bs : List P} {a b : Ev} (h1 : a δ μ = some (.ok (.p (.lst as)), μ)) (h2 : b δ μ = some (.ok (.p (.lst bs)), μ)) : evZip (evCons a (evCons b evNil)) δ μ = some (.ok (zipP as bs), μ) := by
  unfold evZip
  rw [evCons_eq, h1, bindG_ok, evCons_eq, h2, bindG_ok, evNil_eq, bindG_ok, bindG_ok, bindG_ok]
  rfl
theorem zipP_map2 {A B : Type} (g : A → P) (f : B → P) : ∀ (xs : List A) (ys : List B), zipP (xs.map g) (ys.map f) = (xs.zip ys).map fun ab => P.tup [g ab.1, f ab.2]
  | x :: xs, y :: ys => by simp [zipP, zipP_map2 g f xs ys]
  | [], _ => by simp [zipP]
  | _ :: _, [] => by simp [zipP]
theorem enum_p {as : List P} {a : Ev} (h1 : a δ μ = some (.ok (.p (.lst as)), μ)) : evEnum (evCons a evNil) δ μ = some (.ok (enumP 0 as), μ) := by
  unfold evEnum
  rw [evCons_eq, h1, bindG_ok, evNil_eq, bindG_ok, bindG_ok]
  rfl
theorem rangeP_ints (x n : Nat) : rangeP (x : Int) n = intsP x n := by
  unfold rangeP intsP
  apply List.ext_getElem?
  intro i
  rw [List.getElem?_map, List.getElem?_map]
  by_cases h : i < n
  · rw [List.getElem?_range h, List.getElem?_range' h]
    simp
  · rw [List.getElem?_eq_none (by simp; omega), List.getElem?_eq_none (by simp; omega)]
    rfl
theorem rng2_n {a b : Ev} {x y : Nat} (h1 : a δ μ = some (.ok (.p (.int (x : Int))), μ)) (h2 : b δ μ = some (.ok (.p (.int (y : Int))), μ)) (hx : x < 1000) (hy : y < 1000) : evRng2 a b δ μ = some (.ok (intsP x (y - x)), μ) := by
  have r1 := rng_small (v := (x : Int)) (by omega) (by omega)
  have r2 := rng_small (v := (y : Int)) (by omega) (by omega)
  unfold evRng2
  rw [h1, bindG_ok, h2, bindG_ok]
  dsimp only
  rw [r1, r2, Bool.and_self, if_pos rfl]
  have : ((y : Int) - (x : Int)).toNat = y - x := by omega
  rw [this, rangeP_ints]
abbrev IRow := List Int
def rP (r : IRow) : P := .lst (r.map .int)
def rsP (rows : List IRow) : P := .lst (rows.map rP)
theorem at_row {r : IRow} {j : Nat} (h : j < r.length) : atI (r.map P.int) (j : Int) = some (.int (gt r j)) := atI_nat (by
  rw [List.getElem?_map, List.getElem?_eq_getElem h, Bar.gt_lt h]; rfl)
theorem bd_mem {B : Nat} {r : IRow} (h : Bd B r) {x : Int} (hx : x ∈ r) : Sz B x := by
  obtain ⟨i, hi⟩ := List.mem_iff_getElem?.mp hx
  have hl := (List.getElem?_eq_some_iff.mp hi).1
  have := h i
  rw [Bar.gt_lt hl, (List.getElem?_eq_some_iff.mp hi).2] at this
  exact this
theorem ev_cleared {row pivot : IRow} {c n B : Nat} {d : Int} (hr : row.length = n) (hp : pivot.length = n) (hc : c < n) (hn : n ≤ 50) (b1 : Bd B row) (b2 : Bd B pivot) (hB : B ≤ 40000) (hB0 : 0 < B) (h0 : d ≠ 0) (hd : d.natAbs.log2 < 9000) :
    m__cleared [.p (rP row), .p (rP pivot), .p (.int (c : Int)), .p (.int d)] μ = some (.ok (.p (rP (clr (gt pivot c) (gt row c) d row pivot))), μ) := by
  have i1 := at_row (r := row) (j := c) (by omega)
  have i2 := at_row (r := pivot) (j := c) (by omega)
  have mo : ∀ {x y : Int}, Sz B x → Sz B y → mulOk x y = true := fun h1 h2 => mulOk_of h1 h2 hB0 hB0 (by omega)
  have dk : ∀ i : Int, divOk i d = true := fun i => divOk_of h0 hd
  have e : ∀ (ν : Mu), evLc (evZip (evCons (evV 0) (evCons (evV 1) evNil))) (tgT [6, 7]) evTrue (evBin fDiv (evBin fSub (evBin fMul (evV 4) (evV 6)) (evBin fMul (evV 5) (evV 7))) (evV 3)) [6, 7]
      [some (.p (rP row)), some (.p (rP pivot)), some (.p (.int (c : Int))), some (.p (.int d)), some (.p (.int (gt pivot c))), some (.p (.int (gt row c))), none, none] ν = some (.ok (.p (rP (clr (gt pivot c) (gt row c) d row pivot))), ν) := fun ν => by
    have e1 := lc_map (δ := [some (.p (rP row)), some (.p (rP pivot)), some (.p (.int (c : Int))), some (.p (.int d)), some (.p (.int (gt pivot c))), some (.p (.int (gt row c))), none, none]) (it := evZip (evCons (evV 0) (evCons (evV 1) evNil))) (ts := tgT [6, 7]) (e := evBin fDiv (evBin fSub (evBin fMul (evV 4) (evV 6)) (evBin fMul (evV 5) (evV 7))) (evV 3)) (vs := [6, 7]) (μ := ν) (ν := ν) (as := row.zip pivot) (fun ab => P.tup [.int ab.1, .int ab.2]) (fun ab => .int ((gt pivot c * ab.1 - gt row c * ab.2).fdiv d)) (by
      rw [zip_p (as := row.map .int) (bs := pivot.map .int) rfl rfl, zipP_map2]) (fun ab hab => ⟨_, rfl, fun κ => by
        have ha := List.of_mem_zip hab
        have m1 := mo (b2 c) (bd_mem b1 ha.1)
        have m2 := mo (b1 c) (bd_mem b2 ha.2)
        simp [m1, m2, dk]⟩) (show (row.zip pivot).length ≤ sizeLine by rw [List.length_zip]; exact Nat.le_of_lt (line_k (by omega)))
    rw [e1]
    unfold rP clr
    rw [List.map_zipWith, List.zip, List.map_zipWith]
  simp [-evLc_eq, m__cleared, arF, bodySem_eq, sv__cleared, rP, i1, i2]
  have := e μ
  unfold rP at this
  rw [this]
  simp
end
end Vs
namespace Vs
open PySem PySem.Spec PyProof.Rows L2
open Bar (gt cz red wpv findK mv stepL stepRow clr Inv Sol Bd)
section
variable {μ : Mu} {δ : Sl}
theorem at_rows {rows : List IRow} {k : Nat} (h : k < rows.length) : atI (rows.map rP) (k : Int) = some (rP (rows.getD k [])) := atI_nat (by
  rw [List.getElem?_map, List.getD_eq_getElem?_getD, List.getElem?_eq_getElem h]; rfl)
theorem ix_rows {rows : List IRow} {k : Nat} (h : k < rows.length) : fIx (.p (rsP rows)) (.p (.int (k : Int))) μ = some (.p (rP (rows.getD k [])), μ) := by
  unfold rsP
  rw [fIx_lstp, at_rows h]; rfl
theorem ix_row {r : IRow} {j : Nat} (h : j < r.length) : fIx (.p (rP r)) (.p (.int (j : Int))) μ = some (.p (.int (gt r j)), μ) := by
  unfold rP
  rw [fIx_lstp, at_row h]; rfl
theorem getD_mem {A : Type} {l : List A} {k : Nat} {d : A} (h : k < l.length) : l.getD k d ∈ l := by
  rw [List.getD_eq_getElem?_getD, List.getElem?_eq_getElem h]
  exact List.getElem_mem h
theorem wp_ret {rows : List IRow} {c k : Nat} {c2 : Option D} (hk : k < rows.length) (hck : c ≤ k) (hn : rows.length ≤ 100) :
    sRet (evBin fCatL (evBin fCatL (evBin fCatL (evSl (evV 0) evNoP (evPt (evV 1))) (evLst (evCons (evBin fIx (evV 0) (evV 2)) evNil))) (evSl (evV 0) (evPt (evV 1)) (evPt (evV 2)))) (evSl (evV 0) (evPt (evBin fAdd (evV 2) (evC (.int 1)))) evNoP))
      [some (.p (rsP rows)), some (.p (.int (c : Int))), some (.p (.int (k : Int)))] μ = some (.ret (.p (rsP (mv rows c k (rows.getD k [])))), [some (.p (rsP rows)), some (.p (.int (c : Int))), some (.p (.int (k : Int)))], μ) := by
  have e1 : cutP (rows.map rP) none (some (c : Int)) = (rows.take c).map rP := by rw [cut_lo, List.map_take]
  have e2 : cutP (rows.map rP) (some (c : Int)) (some (k : Int)) = ((rows.drop c).take (k - c)).map rP := by
    rw [cut_lohi (by simp; omega) hck, List.map_take, List.map_drop]
  have e3 : cutP (rows.map rP) (some ((k : Int) + 1)) none = (rows.drop (k + 1)).map rP := by
    rw [show (k : Int) + 1 = ((k + 1 : Nat) : Int) by omega, cut_hi, List.map_drop]
  have e4 := ix_rows (μ := μ) hk
  have e5 : rsP (mv rows c k (rows.getD k [])) = .lst (((rows.take c).map rP ++ [rP (rows.getD k [])] ++ ((rows.drop c).take (k - c)).map rP) ++ (rows.drop (k + 1)).map rP) := by
    unfold rsP mv
    simp
  have l1 : ((rows.take c).map rP).length + [rP (rows.getD k [])].length ≤ sizeLine := Nat.le_of_lt (line_k (by simp; omega))
  have l2 : ((rows.take c).map rP ++ [rP (rows.getD k [])]).length + (((rows.drop c).take (k - c)).map rP).length ≤ sizeLine := Nat.le_of_lt (line_k (by simp; omega))
  have l3 : ((rows.take c).map rP ++ [rP (rows.getD k [])] ++ ((rows.drop c).take (k - c)).map rP).length + ((rows.drop (k + 1)).map rP).length ≤ sizeLine := Nat.le_of_lt (line_k (by simp; omega))
  have f1 := fCatL_p (μ := μ) l1
  have f2 := fCatL_p (μ := μ) l2
  have f3 := fCatL_p (μ := μ) l3
  rw [e5]
  unfold rsP at e4 ⊢
  generalize (rows.take c).map rP = x1 at *
  generalize ((rows.drop c).take (k - c)).map rP = x2 at *
  generalize (rows.drop (k + 1)).map rP = x3 at *
  generalize rP (rows.getD k []) = x4 at *
  simp only [sRet_eq, evBin_eq, evSl_eq, evV_0, evV_1, evV_2, bindG_ok, evNoP_eq, evPt_eq, ptEnd_int, lstOf_lst, slEnd_some, e1, evLst_eq, evCons_eq, evNil_eq, e4, okm_some, toPs_cons, toPs_nil, consP_some, lstEnd_some, List.length_singleton, line_1, if_true, f1, e2, f2, evC_eq, fII_int, e3, f3, bindS_ok]
theorem wp_loop {rows : List IRow} {c n : Nat} (hl : ∀ r ∈ rows, r.length = n) (hc : c < n) (hn : rows.length ≤ 100) : ∀ (m a : Nat) (c2 : Option D), c ≤ a → a + m = rows.length → ∃ c2',
    forL (tgN 2) lb__with_pivot_0 (intsP a m) [some (.p (rsP rows)), some (.p (.int (c : Int))), c2] μ = match (List.range' a m).find? (fun k => decide (gt (rows.getD k []) c ≠ 0)) with
      | some k => some (.ret (.p (rsP (mv rows c k (rows.getD k [])))), [some (.p (rsP rows)), some (.p (.int (c : Int))), c2'], μ)
      | none => some (.nx, [some (.p (rsP rows)), some (.p (.int (c : Int))), c2'], μ)
  | 0, a, c2, _, _ => ⟨c2, rfl⟩
  | m + 1, a, c2, ha, hm => by
    have hk : a < rows.length := by omega
    have e1 := ix_rows (μ := μ) hk
    have e2 := ix_row (μ := μ) (r := rows.getD a []) (j := c) (by rw [hl _ (getD_mem hk)]; exact hc)
    rw [intsP_succ, List.range'_succ, List.find?_cons]
    by_cases h : gt (rows.getD a []) c = 0
    · obtain ⟨c2', ih⟩ := wp_loop hl hc hn m (a + 1) (some (.p (.int (a : Int)))) (by omega) (by omega)
      refine ⟨c2', ?_⟩
      rw [show decide (gt (rows.getD a []) c ≠ 0) = false by rw [h]; rfl, forL_nx (δ1 := [some (.p (rsP rows)), some (.p (.int (c : Int))), some (.p (.int (a : Int)))]) (δ2 := [some (.p (rsP rows)), some (.p (.int (c : Int))), some (.p (.int (a : Int)))]) (μ2 := μ) rfl (by
        unfold lb__with_pivot_0
        rw [sIf_eq]
        simp only [evB_eq', evBin_eq, evV_0, evV_1, evV_2, bindG_ok, e1, okm_some, e2, evC_eq, fEqG_p, eqP_int, eqAns_t, toB_bl, bindS_ok, h, decide_true, Bool.not_true, Bool.false_eq_true, if_false, sNil_eq]), ih]
    · refine ⟨some (.p (.int (a : Int))), ?_⟩
      rw [show decide (gt (rows.getD a []) c ≠ 0) = true from decide_eq_true h, forL_ret (δ1 := [some (.p (rsP rows)), some (.p (.int (c : Int))), some (.p (.int (a : Int)))]) (δ2 := [some (.p (rsP rows)), some (.p (.int (c : Int))), some (.p (.int (a : Int)))]) (d := .p (rsP (mv rows c a (rows.getD a [])))) (μ2 := μ) rfl (by
        have w := wp_ret (μ := μ) (rows := rows) (c := c) (c2 := c2) hk ha hn
        unfold lb__with_pivot_0
        rw [sIf_eq]
        simp only [evB_eq', evBin_eq, evV_0, evV_1, evV_2, bindG_ok, e1, okm_some, e2, evC_eq, fEqG_p, eqP_int, eqAns_t, toB_bl, bindS_ok, h, decide_false, Bool.not_false, if_true]
        exact w)]
theorem len_rows {rows : List IRow} {e : Ev} (h : e δ μ = some (.ok (.p (rsP rows)), μ)) : evBI fLen (evCons e evNil) δ μ = some (.ok (.p (.int (rows.length : Int))), μ) := by
  rw [evBI_eq, evCons_eq, h, bindG_ok, evNil_eq, bindG_ok, bindG_ok]
  unfold rsP
  rw [fLen_lst, List.length_map]
  rfl
theorem ev_with_pivot {rows : List IRow} {c n : Nat} (hl : ∀ r ∈ rows, r.length = n) (hc : c < n) (hn : rows.length ≤ 100) (hcn : c ≤ rows.length) :
    m__with_pivot [.p (rsP rows), .p (.int (c : Int))] μ = some (.ok (.p (match wpv rows c with | some l1 => rsP l1 | none => .non)), μ) := by
  obtain ⟨c2', e⟩ := wp_loop (μ := μ) hl hc hn (rows.length - c) c none (Nat.le_refl _) (by omega)
  have h1 : evV 1 [some (D.p (rsP rows)), some (.p (.int (c : Int))), none] μ = some (.ok (.p (.int (c : Int))), μ) := evV_1
  have h2 : evBI fLen (evCons (evV 0) evNil) [some (D.p (rsP rows)), some (.p (.int (c : Int))), none] μ = some (.ok (.p (.int (rows.length : Int))), μ) := len_rows evV_0
  have r := rng2_n h1 h2 (show c < 1000 by omega) (show rows.length < 1000 by omega)
  unfold wpv findK
  unfold m__with_pivot arF
  rw [if_pos (show [D.p (rsP rows), D.p (P.int (c : Int))].length = 2 from rfl), bodySem_eq]
  unfold sv__with_pivot
  rw [show [D.p (rsP rows), D.p (P.int (c : Int))].map some ++ List.replicate (3 - [D.p (rsP rows), D.p (P.int (c : Int))].length) (none : Option D) = [some (.p (rsP rows)), some (.p (.int (c : Int))), none] from rfl]
  rw [seqS_eq, sFor_eq, r, bindS_ok]
  have e := e
  unfold lb__with_pivot_0 at e
  rw [e]
  cases (List.range' c (rows.length - c)).find? (fun k => decide (gt (rows.getD k []) c ≠ 0)) with
  | none => simp
  | some k => simp
theorem enumP_map {A : Type} (g : A → P) : ∀ (xs : List A) (a : Nat), enumP a (xs.map g) = (xs.zipIdx a).map fun ri => P.tup [.int (ri.2 : Int), g ri.1]
  | [], a => rfl
  | x :: xs, a => by
    rw [List.map_cons, List.zipIdx_cons, List.map_cons, enumP, enumP_map g xs (a + 1)]
theorem mapIdx_zip {A B : Type} (f : Nat → A → B) (xs : List A) : xs.zipIdx.map (fun ri => f ri.2 ri.1) = xs.mapIdx f := by
  apply List.ext_getElem?
  intro i
  rw [List.getElem?_map, List.getElem?_zipIdx, List.getElem?_mapIdx]
  cases xs[i]? <;> simp
theorem map_mapIdx' {A B C : Type} (g : B → C) (f : Nat → A → B) (xs : List A) : (xs.mapIdx f).map g = xs.mapIdx fun i x => g (f i x) := by
  apply List.ext_getElem?
  intro i
  rw [List.getElem?_map, List.getElem?_mapIdx, List.getElem?_mapIdx]
  cases xs[i]? <;> rfl
theorem cz_map {l1 : List IRow} {p : IRow} {c n B : Nat} {b : Int} {c0 c1 : Option D} {ν : Mu} (hl : ∀ r ∈ l1, r.length = n) (hp : p ∈ l1) (hc : c < n) (hn : n ≤ 50) (hr : l1.length ≤ 100) (hb : ∀ r ∈ l1, Bd B r) (hB : B ≤ 9000) (hB0 : 0 < B) (h0 : b ≠ 0) (hbb : Sz B b) :
    evLc (evEnum (evCons (evV 2) evNil)) (tgT [6, 7]) evTrue (evIf (evB (evBin fEq (evV 6) (evV 4))) (evV 7) (evCall m__cleared [] (evCons (evV 7) (evCons (evV 5) (evCons (evV 4) (evCons (evV 3) evNil)))))) [6, 7]
      [c0, c1, some (.p (rsP l1)), some (.p (.int b)), some (.p (.int (c : Int))), some (.p (rP p)), none, none] ν = some (.ok (.p (rsP (stepL l1 c p b))), ν) := by
  have hd : b.natAbs.log2 < 9000 := Nat.lt_of_lt_of_le (hbb.log hB0) hB
  have e1 := lc_map (δ := [c0, c1, some (.p (rsP l1)), some (.p (.int b)), some (.p (.int (c : Int))), some (.p (rP p)), none, none]) (it := evEnum (evCons (evV 2) evNil)) (ts := tgT [6, 7]) (e := evIf (evB (evBin fEq (evV 6) (evV 4))) (evV 7) (evCall m__cleared [] (evCons (evV 7) (evCons (evV 5) (evCons (evV 4) (evCons (evV 3) evNil)))))) (vs := [6, 7]) (μ := ν) (ν := ν) (as := l1.zipIdx)
    (fun ri => P.tup [.int (ri.2 : Int), rP ri.1]) (fun ri => rP (stepRow c p b ri.2 ri.1)) (by
      rw [enum_p (as := l1.map rP) rfl, enumP_map]) (fun ri hri => ⟨_, rfl, fun κ => by
      have hm : ri.1 ∈ l1 := by
        obtain ⟨x, i⟩ := ri
        exact List.fst_mem_of_mem_zipIdx hri
      have e2 := ev_cleared (μ := κ) (hl _ hm) (hl _ hp) hc hn (hb _ hm) (hb _ hp) (by omega) hB0 h0 hd
      unfold stepRow
      by_cases q : ri.2 = c
      · simp [q]
      · have q' : ¬ ((ri.2 : Int) = (c : Int)) := by omega
        simp [q, q', e2]⟩) (show l1.zipIdx.length ≤ sizeLine by rw [List.length_zipIdx]; exact Nat.le_of_lt (line_k (by omega)))
  rw [e1]
  have := mapIdx_zip (fun i r => rP (stepRow c p b i r)) l1
  rw [this]
  unfold rsP stepL
  rw [map_mapIdx']
end
end Vs
namespace Vs
open PySem PySem.Spec PyProof.Rows L2
open Bar (gt cz red wpv findK mv stepL stepRow clr Inv Sol Bd)
section
variable {μ : Mu} {δ : Sl}
theorem stepL_len {l1 : List IRow} {c : Nat} {p : IRow} {b : Int} : (stepL l1 c p b).length = l1.length := by unfold stepL; simp
theorem cz_loop {n : Nat} (hn : n ≤ 40) {c0 : Option D} : ∀ (m c : Nat) (left : List IRow) (b : Int) (B : Nat) (c4 c5 : Option D), Inv n c left b → c + m = n → (∀ r ∈ left, Bd B r) → Sz B b → 0 < B → (B + 1) * 2 ^ m ≤ 9000 → left.length ≤ 100 → ∃ δ' c4' c5',
    forL (tgN 4) lb__common_zero_0 (intsP c m) [c0, some (.p (.int (n : Int))), some (.p (rsP left)), some (.p (.int b)), c4, c5, none, none] μ = match red m c left b with
      | none => some (.ret (.p .non), δ', μ)
      | some (l2, b2) => some (.nx, [c0, some (.p (.int (n : Int))), some (.p (rsP l2)), some (.p (.int b2)), c4', c5', none, none], μ)
  | 0, c, left, b, B, c4, c5, I, hc, hb, hbb, hB0, hB, hl => ⟨[], c4, c5, rfl⟩
  | m + 1, c, left, b, B, c4, c5, I, hc, hb, hbb, hB0, hB, hl => by
    have hc' : c < n := by omega
    have hB2 : B + 1 ≤ 9000 := by
      rw [Nat.pow_succ] at hB
      have : 1 ≤ 2 ^ m := Nat.one_le_two_pow
      have : (B + 1) * 1 ≤ (B + 1) * (2 ^ m * 2) := Nat.mul_le_mul_left _ (by omega)
      omega
    have w := fun ν : Mu => ev_with_pivot (μ := ν) (c := c) (n := n + 1) I.len (by omega) hl I.ge
    rw [intsP_succ]
    unfold red
    cases q : wpv left c with
    | none =>
      rw [q] at w
      refine ⟨[c0, some (.p (.int (n : Int))), some (.p .non), some (.p (.int b)), some (.p (.int (c : Int))), c5, none, none], c4, c5, ?_⟩
      rw [forL_ret (δ1 := [c0, some (.p (.int (n : Int))), some (.p (rsP left)), some (.p (.int b)), some (.p (.int (c : Int))), c5, none, none]) (δ2 := [c0, some (.p (.int (n : Int))), some (.p .non), some (.p (.int b)), some (.p (.int (c : Int))), c5, none, none]) (μ2 := μ) (d := .p .non) rfl (by
        unfold lb__common_zero_0
        rw [seqS_eq, sSet_eq, evCall_eq, evCons_eq, evV_2, bindG_ok, evCons_eq, evV_4, bindG_ok, evNil_eq, bindG_ok, bindG_ok, bindG_ok, List.map_nil, List.append_nil, w, bindS_ok, andThen_nx]
        simp only [List.set_cons_succ, List.set_cons_zero]
        simp [-evLc_eq])]
    | some l1 =>
      rw [q] at w
      obtain ⟨k, p, hck, hk, hp, e1, e2, e3, I1, I2, so⟩ := Bar.wpv_some I hc' q
      have hm : ∀ r ∈ l1, Bd B r := fun r hr => hb r ((Bar.mv_mem hck hk r).mp (by rw [← e1]; exact hr))
      have hl1 : l1.length ≤ 100 := by rw [e1, Bar.mv_len hck hk]; exact hl
      have hpm : p ∈ l1 := List.mem_of_getElem? e3
      have hcl : c < l1.length := (List.getElem?_eq_some_iff.mp e3).1
      dsimp only
      rw [e2]
      obtain ⟨δ', c4', c5', ih⟩ := cz_loop hn (c0 := c0) m (c + 1) (stepL l1 c p b) (gt p c) (2 * B + 1) (some (.p (.int (c : Int)))) (some (.p (rP p))) I2 (by omega) (Bar.bd_step I1 hc' e3 hp hm) (Sz.mono (hm p hpm c) (by omega)) (by omega) (by rw [Nat.pow_succ] at hB; rw [show 2 * B + 1 + 1 = (B + 1) * 2 by omega, Nat.mul_assoc, Nat.mul_comm 2]; exact hB) (by rw [stepL_len]; exact hl1)
      refine ⟨δ', c4', c5', ?_⟩
      have x1 := fun ν : Mu => ix_rows (μ := ν) hcl
      rw [e2] at x1
      have x2 := fun ν : Mu => ix_row (μ := ν) (r := p) (j := c) (by rw [I1.len p hpm]; omega)
      have mp := cz_map (l1 := l1) (p := p) (c := c) (b := b) (B := B) (c0 := c0) (c1 := some (.p (.int (n : Int)))) (ν := μ) I1.len hpm (by omega) (by omega) hl1 hm (by omega) hB0 I.ne hbb
      rw [forL_nx (δ1 := [c0, some (.p (.int (n : Int))), some (.p (rsP left)), some (.p (.int b)), some (.p (.int (c : Int))), c5, none, none]) (δ2 := [c0, some (.p (.int (n : Int))), some (.p (rsP (stepL l1 c p b))), some (.p (.int (gt p c))), some (.p (.int (c : Int))), some (.p (rP p)), none, none]) (μ2 := μ) rfl (by
        unfold lb__common_zero_0
        rw [seqS_eq, sSet_eq, evCall_eq, evCons_eq, evV_2, bindG_ok, evCons_eq, evV_4, bindG_ok, evNil_eq, bindG_ok, bindG_ok, bindG_ok, List.map_nil, List.append_nil, w, bindS_ok, andThen_nx]
        simp only [List.set_cons_succ, List.set_cons_zero]
        rw [seqS_eq, sIf_eq, evB_eq', evBin_eq, evV_2, bindG_ok, evC_eq, bindG_ok, fIs_non, okm_some, bindG_ok]
        unfold rsP at x1 ⊢
        rw [isNon_lst]
        simp only [Bool.false_eq_true, if_false, toB_bl, bindS_ok, sNil_eq, andThen_nx]
        rw [seqS_eq, sSet_eq, evBin_eq, evV_2, bindG_ok, evV_4, bindG_ok, x1, okm_some, bindS_ok, andThen_nx]
        simp only [List.set_cons_succ, List.set_cons_zero]
        unfold rsP at mp
        rw [seqS_eq, sSet_eq, mp, bindS_ok, andThen_nx]
        simp only [List.set_cons_succ, List.set_cons_zero]
        rw [sSet_eq, evBin_eq, evV_5, bindG_ok, evV_4, bindG_ok, x2, okm_some, bindS_ok]
        simp only [List.set_cons_succ, List.set_cons_zero]), ih]
theorem red_bd {n : Nat} : ∀ (m c : Nat) (left : List IRow) (b : Int) (B : Nat) {l2 : List IRow} {b2 : Int}, Inv n c left b → c + m = n → (∀ r ∈ left, Bd B r) → Sz B b → red m c left b = some (l2, b2) → (∀ r ∈ l2, Bd ((B + 1) * 2 ^ m) r) ∧ Sz ((B + 1) * 2 ^ m) b2 ∧ l2.length = left.length
  | 0, c, left, b, B, l2, b2, I, hc, hb, hbb, e => by
    cases e
    exact ⟨fun r hr => (hb r hr).mono (by simp), hbb.mono (by simp), rfl⟩
  | m + 1, c, left, b, B, l2, b2, I, hc, hb, hbb, e => by
    unfold red at e
    cases q : wpv left c with
    | none => rw [q] at e; cases e
    | some l1 =>
      rw [q] at e
      obtain ⟨k, p, hck, hk, hp, e1, e2, e3, I1, I2, so⟩ := Bar.wpv_some I (by omega) q
      have hm : ∀ r ∈ l1, Bd B r := fun r hr => hb r ((Bar.mv_mem hck hk r).mp (by rw [← e1]; exact hr))
      have hpm : p ∈ l1 := List.mem_of_getElem? e3
      dsimp only at e
      rw [e2] at e
      obtain ⟨h1, h2, h3⟩ := red_bd m (c + 1) (stepL l1 c p b) (gt p c) (2 * B + 1) I2 (by omega) (Bar.bd_step I1 (by omega) e3 hp hm) (Sz.mono (hm p hpm c) (by omega)) e
      have e4 : (2 * B + 1 + 1) * 2 ^ m = (B + 1) * 2 ^ (m + 1) := by rw [show 2 * B + 1 + 1 = (B + 1) * 2 by omega, Nat.mul_assoc, Nat.pow_succ, Nat.mul_comm 2]
      rw [e4] at h1 h2
      exact ⟨h1, h2, by rw [h3, stepL_len, e1, Bar.mv_len hck hk]⟩
end
end Vs
namespace Vs
open PySem PySem.Spec PyProof.Rows L2
open Bar (gt cz red wpv findK mv stepL stepRow clr Inv Sol Bd)
section
variable {μ : Mu} {δ : Sl}
def czP (rows : List IRow) (n : Nat) : P := match cz rows n with
  | some pl => rP pl
  | none => .non
theorem arF2 {s : SEv} {N : Nat} {a b : D} : arF 2 (bodySem N s) [a, b] μ = retF μ.length (s ([some a, some b] ++ List.replicate (N - 2) none) μ) := by
  unfold arF
  rw [if_pos (show [a, b].length = 2 from rfl), bodySem_eq]
  rfl
theorem arF1 {s : SEv} {N : Nat} {a : D} : arF 1 (bodySem N s) [a] μ = retF μ.length (s ([some a] ++ List.replicate (N - 1) none) μ) := by
  unfold arF
  rw [if_pos (show [a].length = 1 from rfl), bodySem_eq]
  rfl
theorem arF3 {s : SEv} {N : Nat} {a b c : D} : arF 3 (bodySem N s) [a, b, c] μ = retF μ.length (s ([some a, some b, some c] ++ List.replicate (N - 3) none) μ) := by
  unfold arF
  rw [if_pos (show [a, b, c].length = 3 from rfl), bodySem_eq]
  rfl
theorem lcCol {c0 c3 c4 c5 : Option D} {l2 ys : List IRow} {n : Nat} {lo hi : EvO} {a b : Option Int} (f : Int → P) (e : Ev) (hlo : lo [c0, some (.p (.int (n : Int))), some (.p (rsP l2)), c3, c4, c5, none, none] μ = some (.ok a, μ)) (hhi : hi [c0, some (.p (.int (n : Int))), some (.p (rsP l2)), c3, c4, c5, none, none] μ = some (.ok b, μ)) (hc : cutP (l2.map rP) a b = ys.map rP) (hy : ∀ r ∈ ys, r.length = n + 1) (hl : ys.length ≤ 100)
    (he : ∀ (r : IRow) (ν : Mu), r.length = n + 1 → e [c0, some (.p (.int (n : Int))), some (.p (rsP l2)), c3, c4, c5, none, some (.p (rP r))] ν = some (.ok (.p (f (gt r n))), ν)) :
    evLc (evIt (evSl (evV 2) lo hi)) (tgN 7) evTrue e [7] [c0, some (.p (.int (n : Int))), some (.p (rsP l2)), c3, c4, c5, none, none] μ = some (.ok (.p (.lst (ys.map fun r => f (gt r n)))), μ) := by
  refine lc_map rP (fun r => f (gt r n)) ?_ (fun r hr => ⟨_, rfl, fun κ => he r κ (hy r hr)⟩) (Nat.le_of_lt (line_k (by omega)))
  unfold evIt
  rw [evSl_eq, evV_2, bindG_ok, hlo, bindG_ok, hhi, bindG_ok]
  unfold rsP
  rw [lstOf_lst, slEnd_some, bindG_ok, hc]
  rfl
theorem lt_int {i j : Int} : fLt (.p (.int i)) (.p (.int j)) μ = some (.p (.bl (decide (i < j))), μ) := by simp
theorem cz_bd {rows : List IRow} {n B : Nat} (hl : ∀ r ∈ rows, r.length = n + 1) (hb : ∀ r ∈ rows, Bd B r) (hB0 : 0 < B) {pl : IRow} (e : cz rows n = some pl) : Bd ((B + 1) * 2 ^ n) pl := by
  unfold cz at e
  cases q : red n 0 rows 1 with
  | none => rw [q] at e; cases e
  | some lb =>
    obtain ⟨l2, b⟩ := lb
    obtain ⟨d1, d2, d3⟩ := red_bd n 0 rows 1 B (Inv.start hl) (by omega) hb (show Sz B 1 from Nat.one_lt_two_pow (by omega)) q
    rw [q] at e
    have key : ∀ (s : Int) (f : IRow → Int), (∀ r, (f r).natAbs = (gt r n).natAbs) → s.natAbs = b.natAbs → Bd ((B + 1) * 2 ^ n) ((l2.take n).map f ++ [s]) := fun s f hf hs j => by
      by_cases hj : j < ((l2.take n).map f ++ [s]).length
      · rw [Bar.gt_lt hj]
        have hm := List.getElem_mem hj
        generalize ((l2.take n).map f ++ [s])[j] = y at *
        rcases List.mem_append.mp hm with h | h
        · obtain ⟨r, hr, rfl⟩ := List.mem_map.mp h
          rw [hf]; exact d1 r (List.mem_of_mem_take hr) n
        · simp at h; subst h; rw [hs]; exact d2
      · rw [Bar.gt_ge (by omega)]; exact Nat.pow_pos (by decide)
    have e : (if (l2.drop n).any (fun r => decide (gt r n ≠ 0)) = true then (none : Option IRow) else if b < 0 then some ((l2.take n).map (fun r => gt r n) ++ [-b]) else some ((l2.take n).map (fun r => - gt r n) ++ [b])) = some pl := e
    split at e
    · cases e
    · split at e
      · cases e; exact key _ _ (fun r => rfl) (by omega)
      · cases e; exact key _ _ (fun r => by omega) rfl
end
end Vs
namespace Vs
open PySem PySem.Spec PyProof.Rows L2
open Bar (gt cz red wpv findK mv stepL stepRow clr Inv Sol Bd SR)
section
variable {μ : Mu} {δ : Sl}
def scl : List Rat → Nat → Nat
  | [], s => s
  | q :: qs, s => scl qs (Nat.lcm s q.den)
def sc (qs : List Rat) : Nat := scl qs 1
theorem scl_pos : ∀ (qs : List Rat) (s : Nat), 0 < s → 0 < scl qs s
  | [], s, h => h
  | q :: qs, s, h => scl_pos qs _ (Nat.lcm_pos h q.den_pos)
theorem sc_pos (qs : List Rat) : 0 < sc qs := scl_pos qs 1 (by decide)
theorem scl_dvd : ∀ (qs : List Rat) (s : Nat), s ∣ scl qs s
  | [], s => Nat.dvd_refl s
  | q :: qs, s => Nat.dvd_trans (Nat.dvd_lcm_left s q.den) (scl_dvd qs _)
theorem scl_den : ∀ (qs : List Rat) (s : Nat) (q : Rat), q ∈ qs → q.den ∣ scl qs s
  | [], _, _, h => by cases h
  | q :: qs, s, q', h => by
    rcases List.mem_cons.mp h with rfl | h
    · exact Nat.dvd_trans (Nat.dvd_lcm_right s q'.den) (scl_dvd qs _)
    · exact scl_den qs _ q' h
def whole (qs : List Rat) : IRow := qs.map fun q => q.num * ((sc qs : Int).fdiv (q.den : Int))
theorem whole_len (qs : List Rat) : (whole qs).length = qs.length := by simp [whole]
theorem whole_one {s : Nat} {q : Rat} (h : q.den ∣ s) : ((q.num * ((s : Int).fdiv (q.den : Int)) : Int) : Rat) = q * (s : Rat) := by
  obtain ⟨k, rfl⟩ := h
  have e : ((q.den * k : Nat) : Int).fdiv (q.den : Int) = (k : Int) := by
    rw [Int.natCast_mul, Int.mul_comm, Int.mul_fdiv_cancel _ (den_ne q)]
  rw [e, Rat.intCast_mul, Rat.natCast_mul]
  have h1 : (q.num : Rat) = q * (q.den : Rat) := by
    have := Rat.num_divInt_den q
    rw [Rat.divInt_eq_div, Rat.intCast_natCast] at this
    have hd : (q.den : Rat) ≠ 0 := by have := q.den_nz; exact_mod_cast this
    grind
  rw [h1, Rat.mul_assoc]
  rfl
theorem whole_gt {qs : List Rat} {j : Nat} (h : j < qs.length) : (gt (whole qs) j : Rat) = qs.getD j 0 * (sc qs : Rat) := by
  rw [Bar.gt_lt (by rw [whole_len]; exact h), List.getD_eq_getElem?_getD, List.getElem?_eq_getElem h]
  unfold whole
  rw [List.getElem_map]
  exact whole_one (scl_den qs 1 _ (List.getElem_mem h))
theorem whole_bd {qs : List Rat} {N S : Nat} (hN : ∀ q ∈ qs, Sz N q.num) (hS : sc qs < 2 ^ S) : Bd (N + S) (whole qs) := fun j => by
  by_cases h : j < qs.length
  · rw [Bar.gt_lt (by rw [whole_len]; exact h)]
    unfold whole
    rw [List.getElem_map]
    have hm := List.getElem_mem h
    have h1 : Sz S ((sc qs : Int).fdiv ((qs[j]).den : Int)) := by
      have h0 : (0 : Int) ≤ ((qs[j]).den : Int) := by omega
      rw [Int.fdiv_eq_ediv_of_nonneg _ h0]
      have : ((sc qs : Int) / ((qs[j]).den : Int)).natAbs ≤ sc qs := by
        rw [← Int.natCast_ediv, Int.natAbs_natCast]
        exact Nat.div_le_self _ _
      exact Nat.lt_of_le_of_lt this hS
    exact (hN _ hm).mul h1
  · rw [Bar.gt_ge (by rw [whole_len]; omega)]
    exact Nat.pow_pos (by decide)
theorem ev_fld0 {q : Rat} : fFld 0 0 (.p (rat q)) μ = some (.p (.int q.num), μ) := by unfold rat; simp
theorem ev_fld1 {q : Rat} : fFld 0 1 (.p (rat q)) μ = some (.p (.int (q.den : Int)), μ) := by unfold rat; simp
theorem lt6 {a b : Nat} (h : a ∣ b) (hb : 0 < b) (h2 : b < 2 ^ 6000) : a < 2 ^ 6000 := Nat.lt_of_le_of_lt (Nat.le_of_dvd hb h) h2
theorem lcm_step {s d : Nat} (h : Nat.lcm s d < 2 ^ 6000) (hs : 0 < s) (hd : 0 < d) : fLcm [.p (.int (s : Int)), .p (.int (d : Int))] μ = some (.p (.int (Nat.lcm s d : Nat)), μ) := by
  have hp := Nat.lcm_pos hs hd
  have h1 := lt6 (Nat.dvd_lcm_left s d) hp h
  have h2 := lt6 (Nat.dvd_lcm_right s d) hp h
  unfold fLcm
  simp only [Int.natAbs_natCast]
  rw [if_pos ⟨h1, h2⟩]
theorem div_int {i j : Int} (h : divOk i j = true) : fDiv (.p (.int i)) (.p (.int j)) μ = some (.p (.int (i.fdiv j)), μ) := by
  show (if divOk i j = true then some (D.p (P.int (i.fdiv j)), μ) else none) = _
  rw [if_pos h]
theorem mul_int {i j : Int} (h : mulOk i j = true) : fMul (.p (.int i)) (.p (.int j)) μ = some (.p (.int (i * j)), μ) := by
  show (if mulOk i j = true then some (D.p (P.int (i * j)), μ) else none) = _
  rw [if_pos h]
theorem whole_loop {c0 : Option D} : ∀ (qs : List Rat) (s : Nat) (c2 : Option D), 0 < s → scl qs s < 2 ^ 6000 → ∃ c2', forL (tgN 2) lb__whole_0 (qs.map rat) [c0, some (.p (.int (s : Int))), c2] μ = some (.nx, [c0, some (.p (.int (scl qs s : Nat))), c2'], μ)
  | [], s, c2, _, _ => ⟨c2, rfl⟩
  | q :: qs, s, c2, hs, h => by
    have hp := Nat.lcm_pos hs q.den_pos
    obtain ⟨c2', ih⟩ := whole_loop (c0 := c0) qs (Nat.lcm s q.den) (some (.p (rat q))) hp h
    refine ⟨c2', ?_⟩
    have hl : Nat.lcm s q.den < 2 ^ 6000 := lt6 (scl_dvd qs _) (scl_pos qs _ hp) h
    have f := lcm_step (μ := μ) hl hs q.den_pos
    have g := ev_fld1 (μ := μ) (q := q)
    rw [List.map_cons, forL_nx (δ1 := [c0, some (.p (.int (s : Int))), some (.p (rat q))]) (δ2 := [c0, some (.p (.int (Nat.lcm s q.den : Nat))), some (.p (rat q))]) (μ2 := μ) rfl (by
      unfold lb__whole_0
      rw [sSet_eq, evBI_eq, evCons_eq, evV_1, bindG_ok, evCons_eq, evUn_eq, evV_2, bindG_ok, g, okm_some, bindG_ok, evNil_eq, bindG_ok, bindG_ok, bindG_ok, f, okm_some, bindS_ok]
      rfl), ih]
    rfl
theorem ev_whole {qs : List Rat} (hs : sc qs < 2 ^ 6000) (hN : ∀ q ∈ qs, Sz 900000 q.num) (hl : qs.length ≤ 900) : m__whole [.p (.lst (qs.map rat))] μ = some (.ok (.p (rP (whole qs))), μ) := by
  obtain ⟨c2', e⟩ := whole_loop (μ := μ) (c0 := some (.p (.lst (qs.map rat)))) qs 1 none (by decide) hs
  have lc := lc_map (δ := [some (.p (.lst (qs.map rat))), some (.p (.int (sc qs : Nat))), c2']) (μ := μ) (ν := μ) (it := evIt (evV 0)) (ts := tgN 2) (e := evBin fMul (evUn (fFld 0 0) (evV 2)) (evBin fDiv (evV 1) (evUn (fFld 0 1) (evV 2)))) (vs := [2]) (as := qs) rat (fun q => .int (q.num * ((sc qs : Int).fdiv (q.den : Int)))) rfl (fun q hq => ⟨_, rfl, fun κ => by
    have f0 := ev_fld0 (μ := κ) (q := q)
    have f1 := ev_fld1 (μ := κ) (q := q)
    have hd : q.den ∣ sc qs := scl_den qs 1 q hq
    have hd6 : q.den < 2 ^ 6000 := lt6 hd (sc_pos qs) hs
    have dk : divOk (sc qs : Int) (q.den : Int) = true := divOk_of (den_ne q) (Nat.lt_of_lt_of_le (PySem.Flt.log2_lt_of (k := 6000) (by decide) (by simpa using hd6)) (by decide))
    have h1 : Sz 6000 ((sc qs : Int).fdiv (q.den : Int)) := by
      rw [Int.fdiv_eq_ediv_of_nonneg _ (by omega)]
      have : ((sc qs : Int) / (q.den : Int)).natAbs ≤ sc qs := by
        rw [← Int.natCast_ediv, Int.natAbs_natCast]
        exact Nat.div_le_self _ _
      exact Nat.lt_of_le_of_lt this hs
    have mk : mulOk q.num ((sc qs : Int).fdiv (q.den : Int)) = true := mulOk_of (hN q hq) h1 (by decide) (by decide) (by decide)
    show evBin fMul (evUn (fFld 0 0) (evV 2)) (evBin fDiv (evV 1) (evUn (fFld 0 1) (evV 2))) [some (.p (.lst (qs.map rat))), some (.p (.int (sc qs : Nat))), some (.p (rat q))] κ = _
    rw [evBin_eq, evUn_eq, evV_2, bindG_ok, f0, okm_some, bindG_ok, evBin_eq, evV_1, bindG_ok, evUn_eq, evV_2, bindG_ok, f1, okm_some, bindG_ok, div_int dk, okm_some, bindG_ok, mul_int mk, okm_some]⟩) (Nat.le_of_lt (line_k (by omega)))
  unfold m__whole
  rw [arF1]
  unfold sv__whole
  simp only [List.replicate, List.cons_append, List.nil_append]
  rw [seqS_eq, sSet_eq, evC_eq, bindS_ok, andThen_nx]
  simp only [List.set_cons_succ, List.set_cons_zero]
  rw [seqS_eq, sFor_eq, show evIt (evV 0) [some (D.p (.lst (qs.map rat))), some (.p (.int 1)), none] μ = some (.ok (qs.map rat), μ) from rfl, bindS_ok]
  unfold lb__whole_0 at e
  rw [show (1 : Int) = ((1 : Nat) : Int) from rfl, e, andThen_nx, sRet_eq]
  rw [show scl qs 1 = sc qs from rfl, lc, bindS_ok, retF_p, List.take_length]
  unfold rP whole
  rw [List.map_map]
  rfl
/-- a form: its coefficients and its constant -/
abbrev Fm := List Rat × Rat
def fmR (f : Fm) : P := .tup [.tup (f.1.map rat), rat f.2]
def fmQ (f : Fm) : P := .tup [.tup (f.1.map pr), pr f.2]
def rgR (R : List Fm) : P := .tup (R.map fmR)
def fmL (f : Fm) : List Rat := f.1 ++ [f.2]
structure FmOk (n N S : Nat) (f : Fm) : Prop where
  len : f.1.length = n
  nz : ∀ q ∈ fmL f, Sz N q.num
  s : sc (fmL f) < 2 ^ S
theorem lst_star {a b : Ev} {xs : List P} {x : P} (h1 : a δ μ = some (.ok (.p (.tup xs)), μ) ∨ a δ μ = some (.ok (.p (.lst xs)), μ)) (h2 : b δ μ = some (.ok (.p x), μ)) (hl : xs.length ≤ 900) : evLst (evStar a (evCons b evNil)) δ μ = some (.ok (.p (.lst (xs ++ [x]))), μ) := by
  have e : evStar a (evCons b evNil) δ μ = some (.ok ((xs ++ [x]).map .p), μ) := by
    unfold evStar
    rcases h1 with h1 | h1
    · rw [h1, bindG_ok]
      show bindG (evCons b evNil δ μ) (fun ys μ2 => some (Out.ok (xs.map .p ++ ys), μ2)) = _
      rw [evCons_eq, h2, bindG_ok, evNil_eq, bindG_ok, bindG_ok, List.map_append]
      rfl
    · rw [h1, bindG_ok]
      show bindG (evCons b evNil δ μ) (fun ys μ2 => some (Out.ok (xs.map .p ++ ys), μ2)) = _
      rw [evCons_eq, h2, bindG_ok, evNil_eq, bindG_ok, bindG_ok, List.map_append]
      rfl
  rw [evLst_eq, e, bindG_ok, toPs_map, lstEnd_some, if_pos (Nat.le_of_lt (line_k (by simp; omega)))]
theorem map_snoc {A : Type} (g : A → P) (xs : List A) (x : A) : (xs ++ [x]).map g = xs.map g ++ [g x] := by simp
theorem ev_rows_of {R : List Fm} {n N S : Nat} (hR : ∀ f ∈ R, FmOk n N S f) (hN : N ≤ 900000) (hS : S ≤ 6000) (hn : n ≤ 800) (hl : R.length ≤ 900) : m__rows_of [.p (rgR R)] μ = some (.ok (.p (rsP (R.map fun f => whole (fmL f)))), μ) := by
  have lc := lc_map (δ := [some (.p (rgR R)), none, none]) (μ := μ) (ν := μ) (it := evIt (evV 0)) (ts := tgT [1, 2]) (e := evCall m__whole [] (evCons (evLst (evStar (evV 1) (evCons (evV 2) evNil))) evNil)) (vs := [1, 2]) (as := R) fmR (fun f => rP (whole (fmL f))) rfl (fun f hf => ⟨_, rfl, fun κ => by
    have h := hR f hf
    have w := ev_whole (μ := κ) (qs := fmL f) (Nat.lt_of_lt_of_le h.s (Nat.pow_le_pow_right (by decide) hS)) (fun q hq => (h.nz q hq).mono hN) (by unfold fmL; rw [List.length_append, h.len]; show n + 1 ≤ 900; omega)
    have s := lst_star (δ := [some (.p (rgR R)), some (.p (.tup (f.1.map rat))), some (.p (rat f.2))]) (μ := κ) (a := evV 1) (b := evV 2) (.inl evV_1) evV_2 (by rw [List.length_map, h.len]; omega)
    rw [← map_snoc] at s
    show evCall m__whole [] (evCons (evLst (evStar (evV 1) (evCons (evV 2) evNil))) evNil) [some (.p (rgR R)), some (.p (.tup (f.1.map rat))), some (.p (rat f.2))] κ = _
    rw [evCall_eq, evCons_eq, s, bindG_ok, evNil_eq, bindG_ok, bindG_ok, List.map_nil, List.append_nil]
    exact w⟩) (Nat.le_of_lt (line_k (by omega)))
  unfold m__rows_of
  rw [arF1]
  unfold sv__rows_of
  simp only [List.replicate, List.cons_append, List.nil_append]
  rw [sRet_eq, lc, bindS_ok, retF_p, List.take_length]
  unfold rsP
  rw [List.map_map]
  rfl
end
end Vs
namespace Vs.Bar
def fac : Nat → Nat
  | 0 => 1
  | n + 1 => (n + 1) * fac n
theorem S_le {B : Nat} : ∀ {c : Nat} {f : Nat → Int}, (∀ l, l < c → (f l).natAbs ≤ B) → (S c f).natAbs ≤ c * B
  | 0, _, _ => by simp [S]
  | c + 1, f, h => by
    have h1 := S_le (c := c) (f := f) fun l hl => h l (by omega)
    have h2 := h c (by omega)
    have : S (c + 1) f = S c f + f c := rfl
    rw [this, Nat.add_mul]
    omega
theorem Dt_le {M : Nat} : ∀ {c : Nat} {v : Mat}, (∀ i j, i < c → j < c → (v i j).natAbs ≤ M) → (Dt c v).natAbs ≤ fac c * M ^ c
  | 0, _, _ => by simp [Dt, fac]
  | c + 1, v, h => by
    have h1 : (Dt c v * v c c).natAbs ≤ fac c * M ^ c * M := by
      rw [Int.natAbs_mul]
      exact Nat.mul_le_mul (Dt_le fun i j hi hj => h i j (by omega) (by omega)) (h c c (by omega) (by omega))
    have h2 : (S c (fun l => Dt c (upd v l (v c)) * v l c)).natAbs ≤ c * (fac c * M ^ c * M) := S_le fun l hl => by
      rw [Int.natAbs_mul]
      refine Nat.mul_le_mul (Dt_le fun i j hi hj => ?_) (h l c (by omega) (by omega))
      by_cases e : i = l
      · subst e; rw [upd_self]; exact h c j (by omega) (by omega)
      · rw [upd_ne _ _ e]; exact h i j (by omega) (by omega)
    have e : Dt (c + 1) v = Dt c v * v c c - S c (fun l => Dt c (upd v l (v c)) * v l c) := rfl
    have e2 : fac (c + 1) * M ^ (c + 1) = fac c * M ^ c * M + c * (fac c * M ^ c * M) := by
      show (c + 1) * fac c * M ^ (c + 1) = _
      rw [Nat.pow_succ]; grind
    rw [e, e2]
    omega
/-- the column x of the row u less its part in the rows R, that the columns `lead` find -/
def WY (c : Nat) (lead : Nat → Nat) (R : Mat) (u : Vec) (x : Nat) : Int := Dt c (fun i j => R i (lead j)) * u x - S c (fun l => Dt c (upd (fun i j => R i (lead j)) l (fun j => u (lead j))) * R l x)
def DX (c : Nat) (lead : Nat → Nat) (R : Mat) : Int := Dt c (fun i j => R i (lead j))
def CramerX (c : Nat) (lead : Nat → Nat) (R : Mat) : Prop := ∀ u j, j < c → WY c lead R u (lead j) = 0
def updN (lead : Nat → Nat) (c l : Nat) : Nat → Nat := fun j => if j = c then l else lead j
/-- WY as W, for any columns that begin with the leads -/
theorem WY_W {c : Nat} {lead κ : Nat → Nat} {R : Mat} {u : Vec} {j : Nat} (h : ∀ a, a < c → κ a = lead a) : W c (fun i a => R i (κ a)) (fun a => u (κ a)) j = WY c lead R u (κ j) := by
  unfold W WY
  rw [Dt_congr (w := fun i j => R i (lead j)) fun i a hi ha => by show R i (κ a) = _; rw [h a ha]]
  congr 1
  refine S_congr fun l hl => ?_
  congr 1
  refine Dt_congr fun i a hi ha => ?_
  by_cases e : i = l
  · subst e; rw [upd_self, upd_self]; show u (κ a) = _; rw [h a ha]
  · rw [upd_ne _ _ e, upd_ne _ _ e]; show R i (κ a) = _; rw [h a ha]
/-- Cramer's for free vectors: the leading columns alone matter -/
theorem cramer_of {c : Nat} {lead : Nat → Nat} {R : Mat} (hinj : ∀ a b, a < c → b < c → lead a = lead b → a = b) (h : CramerX c lead R) {κ : Nat → Nat} (hk : ∀ a, a < c → κ a = lead a) : Cramer c (fun i a => R i (κ a)) := fun u j hj => by
  -- a vector over all columns that is u at the leads
  let u' : Vec := fun x => S c (fun a => if lead a = x then u a else 0)
  have hu : ∀ a, a < c → u' (lead a) = u a := fun a ha => by
    show S c (fun b => if lead b = lead a then u b else 0) = u a
    rw [S_one (i := a) ha fun b hb n => if_neg fun e => n (hinj b a hb ha e), if_pos rfl]
  have e := h u' j hj
  rw [← hk j hj, ← WY_W hk] at e
  rw [← e]
  unfold W
  have e1 : u j = u' (κ j) := by rw [hk j hj, hu j hj]
  rw [e1]
  congr 1
  refine S_congr fun l hl => ?_
  congr 1
  refine Dt_congr fun i a hi ha => ?_
  by_cases q : i = l
  · subst q; rw [upd_self, upd_self, hk a ha, hu a ha]
  · rw [upd_ne _ _ q, upd_ne _ _ q]
theorem DX_succ {c : Nat} {lead : Nat → Nat} {R : Mat} {r : Vec} {l : Nat} : DX (c + 1) (updN lead c l) (upd R c r) = WY c lead R r l := by
  have e := Dt_W c (fun i a => R i (updN lead c l a)) (fun a => r (updN lead c l a))
  rw [WY_W (lead := lead) fun a ha => by unfold updN; rw [if_neg (by omega)]] at e
  rw [show updN lead c l c = l by unfold updN; rw [if_pos rfl]] at e
  rw [← e]
  unfold DX
  refine Dt_congr fun i j hi hj => ?_
  by_cases q : i = c
  · subst q; rw [upd_self, upd_self]
  · rw [upd_ne _ _ q, upd_ne _ _ q]
theorem starX {c : Nat} {lead : Nat → Nat} {R : Mat} (hinj : ∀ a b, a < c → b < c → lead a = lead b → a = b) (h : CramerX c lead R) (r u : Vec) (l x : Nat) :
    DX c lead R * WY (c + 1) (updN lead c l) (upd R c r) u x = WY c lead R r l * WY c lead R u x - WY c lead R u l * WY c lead R r x := by
  let κ : Nat → Nat := fun j => if j < c then lead j else if j = c then l else x
  have k1 : ∀ a, a < c → κ a = lead a := fun a ha => if_pos ha
  have kc : κ c = l := by show (if c < c then _ else if c = c then _ else _) = _; rw [if_neg (by omega), if_pos rfl]
  have kx : κ (c + 1) = x := by show (if c + 1 < c then _ else if c + 1 = c then _ else _) = _; rw [if_neg (by omega), if_neg (by omega)]
  have k2 : ∀ a, a < c + 1 → κ a = updN lead c l a := fun a ha => by
    unfold updN
    by_cases q : a = c
    · subst q; rw [if_pos rfl]; exact kc
    · rw [if_neg q]; exact k1 a (by omega)
  have s := star (cramer_of hinj h k1) (fun a => r (κ a)) (fun a => u (κ a)) (c + 1)
  rw [WY_W k1, WY_W k1, WY_W k1, WY_W k1, kc, kx] at s
  have e1 : W (c + 1) (upd (fun i a => R i (κ a)) c (fun a => r (κ a))) (fun a => u (κ a)) (c + 1) = WY (c + 1) (updN lead c l) (upd R c r) u x := by
    rw [← kx, ← WY_W k2]
    refine W_congr (fun i hi => ?_) _
    by_cases q : i = c
    · subst q; rw [upd_self]; funext a; rw [upd_self]
    · rw [upd_ne _ _ q]; funext a; rw [upd_ne _ _ q]
  rw [e1] at s
  rw [← s]
  congr 1
  unfold DX
  exact Dt_congr fun i j hi hj => by rw [k1 j hj]
theorem cramerX0 (lead : Nat → Nat) (R : Mat) : CramerX 0 lead R := fun _ _ h => by omega
theorem cramerX_succ {c : Nat} {lead : Nat → Nat} {R : Mat} (hinj : ∀ a b, a < c → b < c → lead a = lead b → a = b) (h : CramerX c lead R) (hd : DX c lead R ≠ 0) (r : Vec) (l : Nat) : CramerX (c + 1) (updN lead c l) (upd R c r) := fun u j hj => by
  have s := starX hinj h r u l (updN lead c l j)
  have z : DX c lead R * WY (c + 1) (updN lead c l) (upd R c r) u (updN lead c l j) = 0 := by
    rw [s]
    by_cases e : j = c
    · subst e
      rw [show updN lead j l j = l by unfold updN; rw [if_pos rfl]]; grind
    · rw [show updN lead c l j = lead j by unfold updN; rw [if_neg e], h u j (by omega), h r j (by omega)]; simp
  exact (Int.mul_eq_zero.mp z).resolve_left hd
theorem WY_un {c : Nat} {lead : Nat → Nat} {R : Mat} {l : Nat} (h : ∀ a, a < c → lead a ≠ l) (x : Nat) : WY c lead R (un l) x = DX c lead R * un l x := by
  unfold WY DX
  rw [S_zero fun a ha => by
    have : Dt c (upd (fun i j => R i (lead j)) a (fun j => un l (lead j))) = 0 := by
      have z := Dt_lin 0 0 (un l) (un l) (v := fun i j => R i (lead j)) ha
      simp only [Int.zero_mul, Int.add_zero] at z
      rw [← z]
      refine Dt_congr fun i j hi hj => ?_
      by_cases e : i = a
      · subst e; rw [upd_self, upd_self]; simp [un, h j hj]
      · rw [upd_ne _ _ e, upd_ne _ _ e]
    rw [this]; simp]
  omega
theorem WY_le {M c : Nat} {lead : Nat → Nat} {R : Mat} {u : Vec} (hR : ∀ i x, i < c → (R i x).natAbs ≤ M) (hu : ∀ x, (u x).natAbs ≤ M) (x : Nat) : (WY c lead R u x).natAbs ≤ fac (c + 1) * M ^ (c + 1) := by
  have h1 : (Dt c (fun i j => R i (lead j)) * u x).natAbs ≤ fac c * M ^ c * M := by
    rw [Int.natAbs_mul]
    exact Nat.mul_le_mul (Dt_le fun i j hi hj => hR i _ hi) (hu x)
  have h2 : (S c (fun l => Dt c (upd (fun i j => R i (lead j)) l (fun j => u (lead j))) * R l x)).natAbs ≤ c * (fac c * M ^ c * M) := S_le fun l hl => by
    rw [Int.natAbs_mul]
    refine Nat.mul_le_mul (Dt_le fun i j hi hj => ?_) (hR l x hl)
    by_cases e : i = l
    · subst e; rw [upd_self]; exact hu _
    · rw [upd_ne _ _ e]; exact hR i _ hi
  have e2 : fac (c + 1) * M ^ (c + 1) = fac c * M ^ c * M + c * (fac c * M ^ c * M) := by
    show (c + 1) * fac c * M ^ (c + 1) = _
    rw [Nat.pow_succ]; grind
  rw [e2]
  unfold WY
  omega
theorem DX_le {M c : Nat} {lead : Nat → Nat} {R : Mat} (hR : ∀ i x, i < c → (R i x).natAbs ≤ M) : (DX c lead R).natAbs ≤ fac c * M ^ c := Dt_le fun i j hi hj => hR i _ hi
end Vs.Bar
namespace Vs.Bar
abbrev QRow := List Rat
def rg (r : QRow) (j : Nat) : Rat := r.getD j 0
theorem rg_lt {r : QRow} {j : Nat} (h : j < r.length) : rg r j = r[j] := by simp [rg, List.getD, h]
/-- the row without its part in `one` -/
def wo (c : Nat) (one row : QRow) : QRow := if rg row c = 0 then row else (List.range row.length).map fun k => rg row k - rg row c * rg one k
theorem wo_len {c : Nat} {one row : QRow} : (wo c one row).length = row.length := by
  unfold wo; split <;> simp
theorem wo_rg {c : Nat} {one row : QRow} {k : Nat} (h : k < row.length) : rg (wo c one row) k = rg row k - rg row c * rg one k := by
  unfold wo
  split
  · rename_i e; rw [e]; grind
  · rw [rg_lt (by simpa using h)]; simp
def dv (p : QRow) (c : Nat) : QRow := p.map fun q => q / rg p c
theorem dv_len {p : QRow} {c : Nat} : (dv p c).length = p.length := by simp [dv]
theorem dv_rg {p : QRow} {c k : Nat} (h : k < p.length) : rg (dv p c) k = rg p k / rg p c := by
  rw [rg_lt (by rw [dv_len]; exact h), rg_lt h]; simp [dv]
def pks (left : List QRow) (c : Nat) : List Nat := (List.range left.length).filter fun k => decide (rg (left.getD k []) c ≠ 0)
def dropAt (left : List QRow) (k : Nat) : List QRow := ((List.range left.length).filter fun i => decide (i ≠ k)).map fun i => left.getD i []
structure GS where
  left : List QRow
  done : List QRow
  leads : List Nat
def gst (c : Nat) (s : GS) : GS := match pks s.left c with
  | [] => s
  | k :: _ => ⟨(dropAt s.left k).map (wo c (dv (s.left.getD k []) c)), s.done.map (wo c (dv (s.left.getD k []) c)) ++ [dv (s.left.getD k []) c], s.leads ++ [c]⟩
def gredL : Nat → Nat → GS → GS
  | 0, _, s => s
  | m + 1, c, s => gredL m (c + 1) (gst c s)
theorem pks_none {left : List QRow} {c : Nat} (h : pks left c = []) {r : QRow} (hr : r ∈ left) : rg r c = 0 := by
  obtain ⟨k, hk⟩ := List.mem_iff_getElem?.mp hr
  have hl := (List.getElem?_eq_some_iff.mp hk).1
  by_cases z : rg r c = 0
  · exact z
  · have : k ∈ pks left c := List.mem_filter.mpr ⟨List.mem_range.mpr hl, decide_eq_true (by rw [List.getD_eq_getElem?_getD, hk]; exact z)⟩
    rw [h] at this; cases this
theorem pks_some {left : List QRow} {c k : Nat} {ks : List Nat} (h : pks left c = k :: ks) : k < left.length ∧ left[k]? = some (left.getD k []) ∧ rg (left.getD k []) c ≠ 0 := by
  have : k ∈ pks left c := by rw [h]; exact List.mem_cons_self
  obtain ⟨h1, h2⟩ := List.mem_filter.mp this
  have h1 := List.mem_range.mp h1
  exact ⟨h1, by rw [List.getD_eq_getElem?_getD, List.getElem?_eq_getElem h1]; rfl, of_decide_eq_true h2⟩
theorem drop_mem {left : List QRow} {k : Nat} {r : QRow} (h : r ∈ dropAt left k) : r ∈ left := by
  obtain ⟨i, hi, rfl⟩ := List.mem_map.mp h
  have := List.mem_range.mp (List.mem_filter.mp hi).1
  rw [List.getD_eq_getElem?_getD, List.getElem?_eq_getElem this]
  exact List.getElem_mem this
theorem mem_drop {left : List QRow} {k : Nat} {r : QRow} (h : r ∈ left) : r = left.getD k [] ∨ r ∈ dropAt left k := by
  obtain ⟨i, hi⟩ := List.mem_iff_getElem?.mp h
  have hl := (List.getElem?_eq_some_iff.mp hi).1
  by_cases e : i = k
  · subst e; left; rw [List.getD_eq_getElem?_getD, hi]; rfl
  · right
    refine List.mem_map.mpr ⟨i, List.mem_filter.mpr ⟨List.mem_range.mpr hl, decide_eq_true e⟩, ?_⟩
    rw [List.getD_eq_getElem?_getD, hi]; rfl
/-- the solutions of the homogeneous equations -/
def HS (w : Nat) (rows : List QRow) (y : Nat → Rat) : Prop := ∀ r ∈ rows, SR w (fun j => rg r j * y j) = 0
structure GI (w M S : Nat) (rows0 : List QRow) (col : Nat) (s : GS) : Prop where
  ll : ∀ r ∈ s.left, r.length = w
  dl : ∀ r ∈ s.done, r.length = w
  n : s.done.length = s.leads.length
  asc : s.leads.Pairwise (· < ·)
  lt : ∀ l ∈ s.leads, l < col
  lz : ∀ r ∈ s.left, ∀ j, j < col → rg r j = 0
  ec : ∀ i r, s.done[i]? = some r → ∀ x, x < s.leads.getD i 0 → rg r x = 0
  sol : ∀ y, HS w (s.left ++ s.done) y ↔ HS w rows0 y
  sz : ∃ R : Mat, (∀ i x, (R i x).natAbs ≤ M) ∧ CramerX s.leads.length (s.leads.getD · 0) R ∧ DX s.leads.length (s.leads.getD · 0) R ≠ 0 ∧
    (∀ i r, s.done[i]? = some r → ∀ x, x < w → (DX s.leads.length (s.leads.getD · 0) R : Rat) * rg r x = ((DX s.leads.length (s.leads.getD · 0) R * un (s.leads.getD i 0) x - WY s.leads.length (s.leads.getD · 0) R (un (s.leads.getD i 0)) x : Int) : Rat)) ∧
    (∀ r ∈ s.left, ∃ (u : Vec) (t : Int), (∀ x, (u x).natAbs ≤ M) ∧ 0 < t ∧ t < 2 ^ S ∧ ∀ x, x < w → (t : Rat) * (DX s.leads.length (s.leads.getD · 0) R : Rat) * rg r x = ((WY s.leads.length (s.leads.getD · 0) R u x : Int) : Rat))
/-- rows that can be told by integers of at most M over integers of less than 2^S -/
def RowIn (w M S : Nat) (r : QRow) : Prop := r.length = w ∧ ∃ (u : Vec) (t : Int), (∀ x, (u x).natAbs ≤ M) ∧ 0 < t ∧ t < 2 ^ S ∧ ∀ x, x < w → (t : Rat) * rg r x = ((u x : Int) : Rat)
theorem GI.start {w M S : Nat} {rows : List QRow} (h : ∀ r ∈ rows, RowIn w M S r) : GI w M S rows 0 ⟨rows, [], []⟩ := by
  refine ⟨fun r hr => (h r hr).1, by simp, rfl, .nil, by simp, fun r _ j hj => by omega, by simp, fun y => by rw [List.append_nil], fun _ _ => 0, by simp, cramerX0 _ _, by simp [DX, Dt], by simp, fun r hr => ?_⟩
  obtain ⟨_, u, t, h1, h2, h3, h4⟩ := h r hr
  refine ⟨u, t, h1, h2, h3, fun x hx => ?_⟩
  have e1 : WY ([] : List Nat).length (([] : List Nat).getD · 0) (fun _ _ => 0) u x = u x := by simp [WY, Dt, Bar.S]
  have e2 : DX ([] : List Nat).length (([] : List Nat).getD · 0) (fun _ _ => 0) = 1 := by simp [DX, Dt]
  show (t : Rat) * ((DX ([] : List Nat).length (([] : List Nat).getD · 0) (fun _ _ => 0) : Int) : Rat) * rg r x = ((WY ([] : List Nat).length (([] : List Nat).getD · 0) (fun _ _ => 0) u x : Int) : Rat)
  rw [e1, e2, ← h4 x hx]
  simp only [Rat.intCast_one]; grind
theorem leads_inj {ls : List Nat} (h : ls.Pairwise (· < ·)) : ∀ a b, a < ls.length → b < ls.length → ls.getD a 0 = ls.getD b 0 → a = b := fun a b ha hb e => by
  rw [List.getD_eq_getElem?_getD, List.getD_eq_getElem?_getD, List.getElem?_eq_getElem ha, List.getElem?_eq_getElem hb] at e
  have e : ls[a] = ls[b] := e
  rcases Nat.lt_trichotomy a b with q | q | q
  · have := List.pairwise_iff_getElem.mp h a b ha hb q; omega
  · exact q
  · have := List.pairwise_iff_getElem.mp h b a hb ha q; omega
/-- what is done is 1 at its own lead, and 0 at the others -/
theorem GI.dn {w M S : Nat} {rows0 : List QRow} {col : Nat} {s : GS} (h : GI w M S rows0 col s) (hw : col ≤ w) {i j : Nat} {r : QRow} (hr : s.done[i]? = some r) (hj : j < s.leads.length) : rg r (s.leads.getD j 0) = if i = j then 1 else 0 := by
  obtain ⟨R, hR, hC, hD, hd, _⟩ := h.sz
  have hi : i < s.leads.length := by rw [← h.n]; exact (List.getElem?_eq_some_iff.mp hr).1
  have hm : s.leads.getD j 0 ∈ s.leads := by
    rw [List.getD_eq_getElem?_getD, List.getElem?_eq_getElem hj]; exact List.getElem_mem hj
  have e := hd i r hr (s.leads.getD j 0) (Nat.lt_of_lt_of_le (h.lt _ hm) hw)
  rw [hC _ j hj] at e
  have hD' : (DX s.leads.length (s.leads.getD · 0) R : Rat) ≠ 0 := fun q => hD (by exact_mod_cast q)
  by_cases q : i = j
  · subst q
    rw [if_pos rfl]
    rw [show un (s.leads.getD i 0) (s.leads.getD i 0) = 1 by simp [un]] at e
    simp only [Int.mul_one, Int.sub_zero] at e
    grind
  · rw [if_neg q]
    have : un (s.leads.getD i 0) (s.leads.getD j 0) = 0 := by
      simp only [un]; rw [if_neg fun e => q (leads_inj h.asc j i hj hi e).symm]
    rw [this] at e
    simp only [Int.mul_zero, Int.sub_zero, Rat.intCast_zero] at e
    exact (Rat.mul_eq_zero.mp e).resolve_left hD'
theorem getD_app1 {A : Type} {l : List A} {x d : A} {i : Nat} (h : i < l.length) : (l ++ [x]).getD i d = l.getD i d := by
  rw [List.getD_eq_getElem?_getD, List.getD_eq_getElem?_getD, List.getElem?_append_left h]
theorem getD_app2 {A : Type} {l : List A} {x d : A} : (l ++ [x]).getD l.length d = x := by
  rw [List.getD_eq_getElem?_getD, List.getElem?_append_right (Nat.le_refl _), Nat.sub_self]; rfl
theorem WY_lead {c : Nat} {lead lead' : Nat → Nat} {R : Mat} {u : Vec} (h : ∀ a, a < c → lead a = lead' a) (x : Nat) : WY c lead R u x = WY c lead' R u x := by
  unfold WY
  rw [Dt_congr (w := fun i j => R i (lead' j)) fun i a hi ha => by show R i _ = R i _; rw [h a ha]]
  congr 1
  refine S_congr fun l hl => ?_
  congr 1
  refine Dt_congr fun i a hi ha => ?_
  by_cases e : i = l
  · subst e; rw [upd_self, upd_self]; show u _ = u _; rw [h a ha]
  · rw [upd_ne _ _ e, upd_ne _ _ e]; show R i _ = R i _; rw [h a ha]
theorem DX_lead {c : Nat} {lead lead' : Nat → Nat} {R : Mat} (h : ∀ a, a < c → lead a = lead' a) : DX c lead R = DX c lead' R := by
  unfold DX
  exact Dt_congr fun i a hi ha => by rw [h a ha]
theorem GI.skip {w M S : Nat} {rows0 : List QRow} {col : Nat} {s : GS} (h : GI w M S rows0 col s) (e : pks s.left col = []) : GI w M S rows0 (col + 1) s :=
  ⟨h.ll, h.dl, h.n, h.asc, fun l hl => Nat.lt_succ_of_lt (h.lt l hl), fun r hr j hj => by
    by_cases q : j = col
    · subst q; exact pks_none e hr
    · exact h.lz r hr j (by omega), h.ec, h.sol, h.sz⟩
theorem GI.step {w M S : Nat} {rows0 : List QRow} {col : Nat} {s : GS} (h : GI w M S rows0 col s) (hw : col < w) (hM : 1 ≤ M) {k : Nat} {ks : List Nat} (e : pks s.left col = k :: ks) : GI w M S rows0 (col + 1) (gst col s) := by
  obtain ⟨hk, hp, hz⟩ := pks_some e
  have hg : gst col s = ⟨(dropAt s.left k).map (wo col (dv (s.left.getD k []) col)), s.done.map (wo col (dv (s.left.getD k []) col)) ++ [dv (s.left.getD k []) col], s.leads ++ [col]⟩ := by
    unfold gst; rw [e]
  rw [hg]
  generalize s.left.getD k [] = p at *
  have pm : p ∈ s.left := List.mem_of_getElem? hp
  have pl : p.length = w := h.ll p pm
  have ol : (dv p col).length = w := by rw [dv_len, pl]
  have o1 : rg (dv p col) col = 1 := by rw [dv_rg (by omega)]; grind
  have orr : ∀ x, x < w → rg (dv p col) x = rg p x / rg p col := fun x hx => dv_rg (by omega)
  obtain ⟨R, hR, hC, hD, hd, hl⟩ := h.sz
  obtain ⟨rv, t, hrM, ht0, htS, hrv⟩ := hl p pm
  have inj := leads_inj h.asc
  -- the new ones
  have lead_eq : ∀ a, a < s.leads.length + 1 → updN (s.leads.getD · 0) s.leads.length col a = (s.leads ++ [col]).getD a 0 := fun a ha => by
    unfold updN
    by_cases q : a = s.leads.length
    · subst q; rw [if_pos rfl, getD_app2]
    · rw [if_neg q, getD_app1 (by omega)]
  have ln : (s.leads ++ [col]).length = s.leads.length + 1 := by simp
  have D' : DX (s.leads.length + 1) (updN (s.leads.getD · 0) s.leads.length col) (upd R s.leads.length rv) = WY s.leads.length (s.leads.getD · 0) R rv col := DX_succ
  have tD : (t : Rat) * (DX s.leads.length (s.leads.getD · 0) R : Rat) ≠ 0 := by
    have h1 : (t : Rat) ≠ 0 := fun q => by have : t = 0 := by exact_mod_cast q
                                           omega
    have h2 : (DX s.leads.length (s.leads.getD · 0) R : Rat) ≠ 0 := fun q => hD (by exact_mod_cast q)
    grind
  have Dr : (DX s.leads.length (s.leads.getD · 0) R : Rat) ≠ 0 := fun q => hD (by exact_mod_cast q)
  have hW : (WY s.leads.length (s.leads.getD · 0) R rv col : Rat) ≠ 0 := by rw [← hrv col hw]; grind
  have hW' : WY s.leads.length (s.leads.getD · 0) R rv col ≠ 0 := fun q => hW (by rw [q]; rfl)
  -- the new row over the new determinant
  have one_eq : ∀ x, x < w → (WY s.leads.length (s.leads.getD · 0) R rv col : Rat) * rg (dv p col) x = (WY s.leads.length (s.leads.getD · 0) R rv x : Rat) := fun x hx => by
    rw [orr x hx, ← hrv col hw, ← hrv x hx]; grind
  have star' := fun (u : Vec) (x : Nat) => congrArg (fun z : Int => (z : Rat)) (starX inj hC rv u col x)
  refine ⟨fun r hr => ?_, fun r hr => ?_, by simp [h.n], ?_, fun l hl' => ?_, fun r hr j hj => ?_, fun i r hr x hx => ?_, fun y => ?_, upd R s.leads.length rv, fun i x => ?_, ?_, ?_, fun i r hr x hx => ?_, fun r hr => ?_⟩
  · obtain ⟨r', hr', rfl⟩ := List.mem_map.mp hr
    rw [wo_len]; exact h.ll r' (drop_mem hr')
  · rcases List.mem_append.mp hr with hr | hr
    · obtain ⟨r', hr', rfl⟩ := List.mem_map.mp hr
      rw [wo_len]; exact h.dl r' hr'
    · simp at hr; subst hr; exact ol
  · refine List.pairwise_append.mpr ⟨h.asc, List.pairwise_singleton _ _, fun a ha b hb => ?_⟩
    simp at hb; subst hb; exact h.lt a ha
  · rcases List.mem_append.mp hl' with q | q
    · exact Nat.lt_succ_of_lt (h.lt l q)
    · simp at q; subst q; exact Nat.lt_succ_self _
  · obtain ⟨r', hr', rfl⟩ := List.mem_map.mp hr
    have hr' := drop_mem hr'
    rw [wo_rg (by rw [h.ll r' hr']; omega)]
    by_cases q : j = col
    · subst q; rw [o1]; grind
    · rw [orr j (by omega), h.lz r' hr' j (by omega), h.lz p pm j (by omega)]; grind
  · by_cases hi : i < s.done.length
    · rw [List.getElem?_append_left (by simpa using hi), List.getElem?_map] at hr
      cases q : s.done[i]? with
      | none => rw [q] at hr; cases hr
      | some r' =>
        rw [q] at hr; cases hr
        have il : i < s.leads.length := by rw [← h.n]; exact hi
        have hx : x < (s.leads ++ [col]).getD i 0 := hx
        rw [getD_app1 il] at hx
        have hm : s.leads.getD i 0 ∈ s.leads := by rw [List.getD_eq_getElem?_getD, List.getElem?_eq_getElem il]; exact List.getElem_mem il
        have hlc := h.lt _ hm
        rw [wo_rg (by rw [h.dl r' (List.mem_of_getElem? q)]; omega), h.ec i r' q x hx, orr x (by omega), h.lz p pm x (by omega)]; grind
    · rw [List.getElem?_append_right (by simpa using hi)] at hr
      have hi0 : i = s.done.length := by
        by_cases q : i - (List.map (wo col (dv p col)) s.done).length = 0
        · simp at q; omega
        · rw [List.getElem?_eq_none (by simp at q ⊢; omega)] at hr; cases hr
      subst hi0
      simp at hr
      subst hr
      have hx : x < (s.leads ++ [col]).getD s.done.length 0 := hx
      rw [h.n, getD_app2] at hx
      rw [orr x (by omega), h.lz p pm x hx]; grind
  · rw [← h.sol y]
    have lin : ∀ r : QRow, r.length = w → SR w (fun j => rg (wo col (dv p col) r) j * y j) = SR w (fun j => rg r j * y j) + (- rg r col) * SR w (fun j => rg (dv p col) j * y j) := fun r hr => by
      rw [← SR_mul, ← SR_add]
      exact SR_congr fun j hj => by rw [wo_rg (by omega)]; grind
    have one' : SR w (fun j => rg (dv p col) j * y j) = (1 / rg p col) * SR w (fun j => rg p j * y j) := by
      rw [← SR_mul]
      exact SR_congr fun j hj => by rw [orr j hj]; grind
    constructor
    · intro hy
      have zo : SR w (fun j => rg (dv p col) j * y j) = 0 := hy _ (by simp)
      have zp : SR w (fun j => rg p j * y j) = 0 := by
        rw [one'] at zo
        rcases Rat.mul_eq_zero.mp zo with q | q
        · exfalso; grind
        · exact q
      intro r hr
      rcases List.mem_append.mp hr with hr | hr
      · rcases mem_drop (k := k) hr with q | q
        · have : s.left.getD k [] = p := by rw [List.getD_eq_getElem?_getD, hp]; rfl
          rw [this] at q; subst q; exact zp
        · have := hy _ (List.mem_append_left _ (List.mem_map.mpr ⟨r, q, rfl⟩))
          rw [lin r (h.ll r hr), zo] at this; grind
      · have := hy _ (List.mem_append_right _ (List.mem_append_left _ (List.mem_map.mpr ⟨r, hr, rfl⟩)))
        rw [lin r (h.dl r hr), zo] at this; grind
    · intro hy
      have zp : SR w (fun j => rg p j * y j) = 0 := hy p (List.mem_append_left _ pm)
      have zo : SR w (fun j => rg (dv p col) j * y j) = 0 := by rw [one', zp]; grind
      intro r hr
      rcases List.mem_append.mp hr with hr | hr
      · obtain ⟨r', hr', rfl⟩ := List.mem_map.mp hr
        have hm := drop_mem hr'
        rw [lin r' (h.ll r' hm), zo, hy r' (List.mem_append_left _ hm)]; grind
      · rcases List.mem_append.mp hr with hr | hr
        · obtain ⟨r', hr', rfl⟩ := List.mem_map.mp hr
          rw [lin r' (h.dl r' hr'), zo, hy r' (List.mem_append_right _ hr')]; grind
        · simp at hr; subst hr; exact zo
  · by_cases q : i = s.leads.length
    · subst q; rw [upd_self]; exact hrM x
    · rw [upd_ne _ _ q]; exact hR i x
  · intro u j hj
    have hj : j < s.leads.length + 1 := by rw [← ln]; exact hj
    have c := cramerX_succ inj hC hD rv col u j hj
    rw [lead_eq j hj] at c
    rw [ln, ← c]
    exact (WY_lead lead_eq _).symm
  · rw [ln, ← DX_lead lead_eq, D']; exact hW'
  · rw [ln, ← DX_lead lead_eq, ← WY_lead lead_eq, D']
    have hsu : ∀ u, (DX s.leads.length (s.leads.getD · 0) R : Rat) * (WY (s.leads.length + 1) (updN (s.leads.getD · 0) s.leads.length col) (upd R s.leads.length rv) u x : Rat) = (WY s.leads.length (s.leads.getD · 0) R rv col : Rat) * (WY s.leads.length (s.leads.getD · 0) R u x : Rat) - (WY s.leads.length (s.leads.getD · 0) R u col : Rat) * (WY s.leads.length (s.leads.getD · 0) R rv x : Rat) := fun u => by
      have := star' u x
      simp only [Rat.intCast_mul, Rat.intCast_sub] at this
      exact this
    have ne_col : ∀ a, a < s.leads.length → s.leads.getD a 0 ≠ col := fun a ha => by
      have : s.leads.getD a 0 ∈ s.leads := by rw [List.getD_eq_getElem?_getD, List.getElem?_eq_getElem ha]; exact List.getElem_mem ha
      have := h.lt _ this; omega
    by_cases hi : i < s.done.length
    · rw [List.getElem?_append_left (by simpa using hi), List.getElem?_map] at hr
      cases q : s.done[i]? with
      | none => rw [q] at hr; cases hr
      | some r' =>
        rw [q] at hr; cases hr
        have hr'l := h.dl r' (List.mem_of_getElem? q)
        have e1 := hd i r' q x hx
        have e2 := hd i r' q col hw
        have il : i < s.leads.length := by rw [← h.n]; exact hi
        rw [getD_app1 il]
        have u0 : un (s.leads.getD i 0) col = 0 := by simp only [un]; rw [if_neg fun z => ne_col i il z.symm]
        rw [u0] at e2
        rw [wo_rg (by omega)]
        have o := one_eq x hx
        have sx := hsu (un (s.leads.getD i 0))
        simp only [Rat.intCast_mul, Rat.intCast_sub, Rat.intCast_zero] at e1 e2 ⊢
        have key : (DX s.leads.length (s.leads.getD · 0) R : Rat) * ((WY s.leads.length (s.leads.getD · 0) R rv col : Rat) * (rg r' x - rg r' col * rg (dv p col) x) - ((WY s.leads.length (s.leads.getD · 0) R rv col : Rat) * ((un (s.leads.getD i 0) x : Int) : Rat) - (WY (s.leads.length + 1) (updN (s.leads.getD · 0) s.leads.length col) (upd R s.leads.length rv) (un (s.leads.getD i 0)) x : Rat))) = 0 := by
          grind
        have := (Rat.mul_eq_zero.mp key).resolve_left Dr
        grind
    · rw [List.getElem?_append_right (by simpa using hi)] at hr
      have hi0 : i = s.done.length := by
        by_cases q : i - (List.map (wo col (dv p col)) s.done).length = 0
        · simp at q; omega
        · rw [List.getElem?_eq_none (by simp at q ⊢; omega)] at hr; cases hr
      subst hi0
      simp at hr
      subst hr
      rw [h.n, getD_app2]
      have o := one_eq x hx
      have sx := hsu (un col)
      rw [WY_un ne_col, WY_un ne_col] at sx
      have u1 : un col col = 1 := by simp [un]
      rw [u1] at sx
      simp only [Rat.intCast_mul, Rat.intCast_sub, Int.mul_one] at sx ⊢
      rw [o]
      have key : (DX s.leads.length (s.leads.getD · 0) R : Rat) * ((WY s.leads.length (s.leads.getD · 0) R rv x : Rat) - ((WY s.leads.length (s.leads.getD · 0) R rv col : Rat) * ((un col x : Int) : Rat) - (WY (s.leads.length + 1) (updN (s.leads.getD · 0) s.leads.length col) (upd R s.leads.length rv) (un col) x : Rat))) = 0 := by
        grind
      have := (Rat.mul_eq_zero.mp key).resolve_left Dr
      grind
  · obtain ⟨r', hr', rfl⟩ := List.mem_map.mp hr
    have hm := drop_mem hr'
    obtain ⟨u, t', hu, ht', htS', hur⟩ := hl r' hm
    refine ⟨u, t', hu, ht', htS', fun x hx => ?_⟩
    rw [ln, ← DX_lead lead_eq, ← WY_lead lead_eq, D']
    rw [wo_rg (by rw [h.ll r' hm]; exact hx)]
    have o := one_eq x hx
    have e1 := hur x hx
    have e2 := hur col hw
    have sx := star' u x
    simp only [Rat.intCast_mul, Rat.intCast_sub] at sx
    have key : (DX s.leads.length (s.leads.getD · 0) R : Rat) * ((t' : Rat) * (WY s.leads.length (s.leads.getD · 0) R rv col : Rat) * (rg r' x - rg r' col * rg (dv p col) x) - (WY (s.leads.length + 1) (updN (s.leads.getD · 0) s.leads.length col) (upd R s.leads.length rv) u x : Rat)) = 0 := by
      grind
    have := (Rat.mul_eq_zero.mp key).resolve_left Dr
    grind
end Vs.Bar
namespace Vs.Bar
theorem gredL_GI {w M S : Nat} {rows0 : List QRow} (hM : 1 ≤ M) : ∀ (m c : Nat) (s : GS), c + m = w → GI w M S rows0 c s → GI w M S rows0 w (gredL m c s)
  | 0, c, s, hc, h => by
    have : c = w := by omega
    subst this; exact h
  | m + 1, c, s, hc, h => by
    refine gredL_GI hM m (c + 1) (gst c s) (by omega) ?_
    cases e : pks s.left c with
    | nil => have : gst c s = s := by unfold gst; rw [e]
             rw [this]; exact h.skip e
    | cons k ks => exact h.step (by omega) hM e
def gred (w : Nat) (rows : List QRow) : GS := gredL w 0 ⟨rows, [], []⟩
theorem gred_GI {w M S : Nat} {rows : List QRow} (hM : 1 ≤ M) (h : ∀ r ∈ rows, RowIn w M S r) : GI w M S rows w (gred w rows) := gredL_GI hM w 0 _ (by omega) (GI.start h)
/-- the equations r(0) x(0) + .. + r(n-1) x(n-1) = r(n) -/
def ESol (n : Nat) (rows : List QRow) (x : Nat → Rat) : Prop := ∀ r ∈ rows, SR n (fun j => rg r j * x j) = rg r n
def gsol (n : Nat) (rows : List QRow) : Option QRow := if (gred (n + 1) rows).leads = List.range n then some ((gred (n + 1) rows).done.map fun r => rg r n) else none
def aug (n : Nat) (x : Nat → Rat) : Nat → Rat := fun j => if j < n then x j else -1
theorem SR_aug (n : Nat) (f x : Nat → Rat) : SR (n + 1) (fun j => f j * aug n x j) = SR n (fun j => f j * x j) - f n := by
  show SR n _ + f n * aug n x n = _
  rw [SR_congr (g := fun j => f j * x j) fun j hj => by simp only [aug]; rw [if_pos hj]]
  have : aug n x n = -1 := by simp [aug]
  rw [this]; grind
theorem ESol_HS {n : Nat} {rows : List QRow} {x : Nat → Rat} : ESol n rows x ↔ HS (n + 1) rows (aug n x) := by
  constructor
  · intro h r hr; rw [SR_aug, h r hr]; grind
  · intro h r hr
    have := h r hr
    rw [SR_aug] at this; grind
theorem left_zero {w M S : Nat} {rows0 : List QRow} {s : GS} (h : GI w M S rows0 w s) {r : QRow} (hr : r ∈ s.left) (y : Nat → Rat) : SR w (fun j => rg r j * y j) = 0 :=
  SR_zero fun j hj => by rw [h.lz r hr j hj]; grind
theorem HS_done {w M S : Nat} {rows0 : List QRow} {s : GS} (h : GI w M S rows0 w s) (y : Nat → Rat) : HS w rows0 y ↔ ∀ r ∈ s.done, SR w (fun j => rg r j * y j) = 0 := by
  rw [← h.sol y]
  constructor
  · intro k r hr; exact k r (List.mem_append_right _ hr)
  · intro k r hr
    rcases List.mem_append.mp hr with q | q
    · exact left_zero h q y
    · exact k r q
theorem range_getD {n i : Nat} (h : i < n) : (List.range n).getD i 0 = i := by
  rw [List.getD_eq_getElem?_getD, List.getElem?_range h]; rfl
theorem gsol_some {n M S : Nat} {rows : List QRow} (hM : 1 ≤ M) (hr : ∀ r ∈ rows, RowIn (n + 1) M S r) {pt : QRow} (e : gsol n rows = some pt) : pt.length = n ∧ ∀ x, ESol n rows x ↔ ∀ i, i < n → x i = rg pt i := by
  have I := gred_GI hM hr
  unfold gsol at e
  generalize gred (n + 1) rows = s at *
  split at e
  · rename_i hl
    cases e
    have ln : s.leads.length = n := by rw [hl]; simp
    have dl : s.done.length = n := by rw [I.n, ln]
    refine ⟨by simp [dl], fun x => ?_⟩
    rw [ESol_HS, HS_done I]
    have ev : ∀ i (hi : i < n), SR (n + 1) (fun j => rg (s.done.getD i []) j * aug n x j) = x i - rg (s.done.getD i []) n := fun i hi => by
      have hq : s.done[i]? = some (s.done.getD i []) := by rw [List.getD_eq_getElem?_getD, List.getElem?_eq_getElem (by omega)]; rfl
      rw [SR_aug]
      have dn : ∀ j, j < n → rg (s.done.getD i []) j = if i = j then 1 else 0 := fun j hj => by
        have := I.dn (Nat.le_refl _) hq (j := j) (by omega)
        rwa [hl, range_getD hj] at this
      rw [SR_one (i := i) hi fun j hj q => by rw [dn j hj, if_neg (Ne.symm q)]; grind]
      rw [dn i hi, if_pos rfl]; grind
    have pt : ∀ i, i < n → rg (s.done.map fun r => rg r n) i = rg (s.done.getD i []) n := fun i hi => by
      rw [rg_lt (by simp; omega), List.getElem_map, List.getD_eq_getElem?_getD, List.getElem?_eq_getElem (by omega)]; rfl
    constructor
    · intro h i hi
      have hm : s.done.getD i [] ∈ s.done := by rw [List.getD_eq_getElem?_getD, List.getElem?_eq_getElem (by omega)]; exact List.getElem_mem (by omega)
      have := h _ hm
      rw [ev i hi] at this
      rw [pt i hi]; grind
    · intro h r hr
      obtain ⟨i, hi⟩ := List.mem_iff_getElem?.mp hr
      have hi' : i < n := by have := (List.getElem?_eq_some_iff.mp hi).1; omega
      have : r = s.done.getD i [] := by rw [List.getD_eq_getElem?_getD, hi]; rfl
      rw [this, ev i hi', h i hi', pt i hi']; grind
  · cases e
/-- a column that no row leads frees a variable -/
theorem free_col {w M S : Nat} {rows0 : List QRow} {s : GS} (h : GI w M S rows0 w s) {j : Nat} (hj : j < w) (hn : j ∉ s.leads) : ∃ d : Nat → Rat, d j = 1 ∧ (∀ l, l < w → l ∉ s.leads → l ≠ j → d l = 0) ∧ HS w rows0 d := by
  let d : Nat → Rat := fun l => if l = j then 1 else if l ∈ s.leads then - rg (s.done.getD (s.leads.idxOf l) []) j else 0
  have dj : d j = 1 := by show (if j = j then _ else _) = _; rw [if_pos rfl]
  refine ⟨d, dj, fun l _ h1 h2 => by show (if l = j then _ else if l ∈ s.leads then _ else _) = _; rw [if_neg h2, if_neg h1], (HS_done h d).mpr fun r hr => ?_⟩
  obtain ⟨i, hi⟩ := List.mem_iff_getElem?.mp hr
  have il : i < s.leads.length := by rw [← h.n]; exact (List.getElem?_eq_some_iff.mp hi).1
  have hli : s.leads[i]? = some (s.leads.getD i 0) := by rw [List.getD_eq_getElem?_getD, List.getElem?_eq_getElem il]; rfl
  have hm : s.leads.getD i 0 ∈ s.leads := List.mem_of_getElem? hli
  have hlw := h.lt _ hm
  have hne : s.leads.getD i 0 ≠ j := fun q => hn (q ▸ hm)
  rw [SR_two (i := s.leads.getD i 0) (m := j) hlw hj hne fun l hl n1 n2 => by
    by_cases q : l ∈ s.leads
    · obtain ⟨a, ha⟩ := List.mem_iff_getElem?.mp q
      have al := (List.getElem?_eq_some_iff.mp ha).1
      have ea : s.leads.getD a 0 = l := by rw [List.getD_eq_getElem?_getD, ha]; rfl
      have := h.dn (Nat.le_refl _) hi (j := a) al
      rw [ea, if_neg (fun z => n1 (by rw [z, ea]))] at this
      rw [this]; grind
    · have : d l = 0 := by show (if l = j then _ else if l ∈ s.leads then _ else _) = _; rw [if_neg n2, if_neg q]
      rw [this]; grind]
  have e1 := h.dn (Nat.le_refl _) hi (j := i) il
  rw [if_pos rfl] at e1
  have nd : s.leads.Nodup := h.asc.imp fun h => Nat.ne_of_lt h
  have ei : s.leads.idxOf (s.leads.getD i 0) = i := by
    have hlt : s.leads.idxOf (s.leads.getD i 0) < s.leads.length := List.idxOf_lt_length_iff.mpr hm
    refine leads_inj h.asc _ _ hlt il ?_
    rw [List.getD_eq_getElem?_getD, List.getElem?_eq_getElem hlt]
    exact List.getElem_idxOf hlt
  have e2 : d (s.leads.getD i 0) = - rg r j := by
    show (if s.leads.getD i 0 = j then _ else if s.leads.getD i 0 ∈ s.leads then - rg (s.done.getD (s.leads.idxOf (s.leads.getD i 0)) []) j else _) = _
    rw [if_neg hne, if_pos hm, ei, List.getD_eq_getElem?_getD, hi]; rfl
  rw [e1, e2, dj]; grind
theorem asc_range : ∀ (ls : List Nat) (a n : Nat), ls.Pairwise (· < ·) → (∀ l ∈ ls, a ≤ l) → (∀ j, a ≤ j → j < a + n → j ∈ ls) → (∀ l ∈ ls, l < a + n) → ls = List.range' a n
  | [], a, 0, _, _, _, _ => rfl
  | [], a, n + 1, _, _, h, _ => by have := h a (Nat.le_refl _) (by omega); cases this
  | l :: ls, a, 0, _, h1, _, h3 => by have := h1 l List.mem_cons_self; have := h3 l List.mem_cons_self; omega
  | l :: ls, a, n + 1, hp, h1, h2, h3 => by
    have hp' := List.pairwise_cons.mp hp
    have la : l = a := by
      have := h2 a (Nat.le_refl _) (by omega)
      rcases List.mem_cons.mp this with q | q
      · exact q.symm
      · have := hp'.1 a q; have := h1 l List.mem_cons_self; omega
    subst la
    rw [List.range'_succ]
    congr 1
    refine asc_range ls (l + 1) n hp'.2 (fun x hx => hp'.1 x hx) (fun j hj hj2 => ?_) (fun x hx => ?_)
    · rcases List.mem_cons.mp (h2 j (by omega) (by omega)) with q | q
      · omega
      · exact q
    · have := h3 x (List.mem_cons_of_mem _ hx); omega
theorem gsol_none {n M S : Nat} {rows : List QRow} (hM : 1 ≤ M) (hr : ∀ r ∈ rows, RowIn (n + 1) M S r) (e : gsol n rows = none) {x : Nat → Rat} (hx : ESol n rows x) : ∃ y, ESol n rows y ∧ ∃ i, i < n ∧ y i ≠ x i := by
  have I := gred_GI hM hr
  unfold gsol at e
  generalize gred (n + 1) rows = s at *
  split at e
  · cases e
  · rename_i hl
    have hy := ESol_HS.mp hx
    have nl : n ∉ s.leads := fun hm => by
      obtain ⟨k, hk⟩ := List.mem_iff_getElem?.mp hm
      have kl := (List.getElem?_eq_some_iff.mp hk).1
      have ek : s.leads.getD k 0 = n := by rw [List.getD_eq_getElem?_getD, hk]; rfl
      have kd : k < s.done.length := by rw [I.n]; exact kl
      have hq : s.done[k]? = some (s.done.getD k []) := by rw [List.getD_eq_getElem?_getD, List.getElem?_eq_getElem kd]; rfl
      have := (HS_done I _).mp hy _ (List.mem_of_getElem? hq)
      have dk := I.dn (Nat.le_refl _) hq (j := k) kl
      rw [ek, if_pos rfl] at dk
      rw [SR_aug, SR_zero fun j hj => by rw [I.ec k _ hq j (by rw [ek]; exact hj)]; grind, dk] at this
      grind
    obtain ⟨j, hj, hjn⟩ : ∃ j, j < n ∧ j ∉ s.leads := by
      by_cases z : ∃ j, j < n ∧ j ∉ s.leads
      · exact z
      · refine absurd ?_ hl
        rw [List.range_eq_range']
        refine asc_range s.leads 0 n I.asc (fun _ _ => Nat.zero_le _) (fun j _ hj => ?_) (fun l hl' => ?_)
        · by_cases q : j ∈ s.leads
          · exact q
          · exact absurd ⟨j, by omega, q⟩ z
        · have := I.lt l hl'
          have : l ≠ n := fun q => nl (q ▸ hl')
          omega
    obtain ⟨d, d1, d0, dh⟩ := free_col I (by omega) hjn
    have dn : d n = 0 := d0 n (by omega) nl (by omega)
    refine ⟨fun i => x i + d i, fun r hr => ?_, j, hj, fun q => ?_⟩
    · have h1 := hx r hr
      have h2 := dh r hr
      have e1 : SR (n + 1) (fun i => rg r i * d i) = SR n (fun i => rg r i * d i) + rg r n * d n := rfl
      rw [e1, dn] at h2
      have e2 : SR n (fun i => rg r i * (x i + d i)) = SR n (fun i => rg r i * x i) + SR n (fun i => rg r i * d i) := by
        rw [← SR_add]; exact SR_congr fun i _ => by grind
      rw [e2, h1]; grind
    · have q : x j + d j = x j := q
      rw [d1] at q; grind
/-- two ways to the only solution -/
theorem sol_same {n : Nat} {P Q : (Nat → Rat) → Prop} (hPQ : ∀ x, P x ↔ Q x) {a b : Option QRow}
    (a1 : ∀ p, a = some p → p.length = n ∧ ∀ x, P x ↔ ∀ i, i < n → x i = rg p i) (a2 : a = none → ∀ x, P x → ∃ y, P y ∧ ∃ i, i < n ∧ y i ≠ x i)
    (b1 : ∀ p, b = some p → p.length = n ∧ ∀ x, Q x ↔ ∀ i, i < n → x i = rg p i) (b2 : b = none → ∀ x, Q x → ∃ y, Q y ∧ ∃ i, i < n ∧ y i ≠ x i) : a = b := by
  cases a with
  | none =>
    cases b with
    | none => rfl
    | some p =>
      obtain ⟨_, h⟩ := b1 p rfl
      obtain ⟨y, hy, i, hi, hn⟩ := a2 rfl (rg p) ((hPQ _).mpr ((h _).mpr fun i _ => rfl))
      exact absurd ((h y).mp ((hPQ y).mp hy) i hi) hn
  | some p =>
    obtain ⟨l1, h1⟩ := a1 p rfl
    cases b with
    | none =>
      obtain ⟨y, hy, i, hi, hn⟩ := b2 rfl (rg p) ((hPQ _).mp ((h1 _).mpr fun i _ => rfl))
      exact absurd ((h1 y).mp ((hPQ y).mpr hy) i hi) hn
    | some q =>
      obtain ⟨l2, h2⟩ := b1 q rfl
      congr 1
      apply List.ext_getElem (by omega)
      intro i h h'
      have := (h2 (rg p)).mp ((hPQ _).mp ((h1 _).mpr fun i _ => rfl)) i (by omega)
      rw [rg_lt h, rg_lt h'] at this
      exact this
theorem fac_mono {a b : Nat} (h : a ≤ b) : fac a ≤ fac b := by
  induction h with
  | refl => exact Nat.le_refl _
  | step h ih =>
    refine Nat.le_trans ih ?_
    show fac _ ≤ (_ + 1) * fac _
    exact Nat.le_mul_of_pos_left _ (by omega)
end Vs.Bar
namespace Vs
open PySem PySem.Spec PyProof.Rows L2
open Bar (rg wo dv pks dropAt GS gst gredL gred gsol GI RowIn fac WY DX un SR)
section
variable {μ : Mu} {δ : Sl}
/-- numerator and denominator of less than b bits -/
def Qz (b : Nat) (q : Rat) : Prop := 1 ≤ b ∧ Sz b q.num ∧ Sz b (q.den : Int)
theorem Qz.bz {b : Nat} {q : Rat} (h : Qz b q) : Bz b q := ⟨h.1, h.2.1.mono (by omega), h.2.2⟩
theorem Qz.mono {a b : Nat} {q : Rat} (h : Qz a q) (e : a ≤ b) : Qz b q := ⟨Nat.le_trans h.1 e, h.2.1.mono e, h.2.2.mono e⟩
theorem qz_of {x y : Int} {a : Nat} (h1 : 1 ≤ a) (h0 : y ≠ 0) (hx : Sz a x) (hy : Sz a y) : Qz a (Rat.divInt x y) := ⟨h1, num_sz hx, den_sz hy h0⟩
theorem qz_eq {x y : Int} {a : Nat} {q : Rat} (h1 : 1 ≤ a) (h0 : y ≠ 0) (hx : Sz a x) (hy : Sz a y) (e : (y : Rat) * q = (x : Rat)) : Qz a q := by
  have : q = Rat.divInt x y := by
    rw [Rat.divInt_eq_div, ← e]
    have : (y : Rat) ≠ 0 := fun z => h0 (by exact_mod_cast z)
    grind
  rw [this]
  exact qz_of h1 h0 hx hy
theorem Qz.add {a b : Nat} {x y : Rat} (hx : Qz a x) (hy : Qz b y) : Qz (a + b + 1) (x + y) := by
  rw [← add_eq]
  have h1 := (hx.2.1.mul hy.2.2).add (hy.2.1.mul hx.2.2)
  exact qz_of (by omega) (mul_ne (den_ne x) (den_ne y)) (h1.mono (by omega)) ((hx.2.2.mul hy.2.2).mono (by omega))
theorem Qz.mul {a b : Nat} {x y : Rat} (hx : Qz a x) (hy : Qz b y) : Qz (a + b) (x * y) := by
  rw [← mul_eq]
  have := hx.1
  exact qz_of (by omega) (mul_ne (den_ne x) (den_ne y)) (hx.2.1.mul hy.2.1) (hx.2.2.mul hy.2.2)
theorem Qz.neg {a : Nat} {x : Rat} (hx : Qz a x) : Qz a (-x) := by
  rw [← neg_eq]
  exact qz_of hx.1 (den_ne x) hx.2.1.neg hx.2.2
theorem Qz.sub {a b : Nat} {x y : Rat} (hx : Qz a x) (hy : Qz b y) : Qz (a + b + 1) (x - y) := by
  rw [show x - y = x + -y from Rat.sub_eq_add_neg _ _]; exact hx.add hy.neg
variable {a b : Rat} {n m : Nat}
theorem ev_rsub (ha : Bz n a) (hb : Bz m b) (h : n + m ≤ 2400) : m__law_sub [.p (pr a), .p (pr b)] μ = some (.ok (.p (pr (a - b))), μ) := by
  have e := ev_q (n := a.num * (b.den : Int) - b.num * (a.den : Int)) (d := (a.den : Int) * (b.den : Int)) (μ := μ) (mul_ne (den_ne a) (den_ne b)) ((ha.2.2.mul hb.2.2).mono h)
  rw [sub_eq] at e
  unfold pr at e ⊢
  simp [m__law_sub, arF, bodySem_eq, sv__law_sub, ok1 ha hb (by omega), ok1 hb ha (by omega), ok2 ha hb (by omega), e]
theorem ev_rover (ha : Qz n a) (hb : Qz m b) (h0 : b ≠ 0) (h : n + m ≤ 2400) : m__law_rover [.p (pr a), .p (pr b)] μ = some (.ok (.p (pr (a / b))), μ) := by
  have hb' : b.num ≠ 0 := fun z => h0 (Rat.num_eq_zero.mp z)
  have e := ev_q (n := a.num * (b.den : Int)) (d := (a.den : Int) * b.num) (μ := μ) (mul_ne (den_ne a) hb') ((ha.2.2.mul hb.2.1).mono h)
  rw [div_eq _ _ h0] at e
  unfold pr at e ⊢
  simp [m__law_rover, arF, bodySem_eq, sv__law_rover, ok1 ha.bz hb.bz (by omega), ok4 ha.bz hb.bz (by omega), e]
def qP (r : List Rat) : P := .lst (r.map pr)
def qsP (rows : List (List Rat)) : P := .lst (rows.map qP)
theorem at_q {r : List Rat} {j : Nat} (h : j < r.length) : atI (r.map pr) (j : Int) = some (pr (rg r j)) := atI_nat (by
  rw [List.getElem?_map, List.getElem?_eq_getElem h, Bar.rg_lt h]; rfl)
theorem ix_q {r : List Rat} {j : Nat} (h : j < r.length) : fIx (.p (qP r)) (.p (.int (j : Int))) μ = some (.p (pr (rg r j)), μ) := by
  unfold qP
  rw [fIx_lstp, at_q h]; rfl
theorem ix_qs {rows : List (List Rat)} {k : Nat} (h : k < rows.length) : fIx (.p (qsP rows)) (.p (.int (k : Int))) μ = some (.p (qP (rows.getD k [])), μ) := by
  unfold qsP
  rw [fIx_lstp, atI_nat (v := qP (rows.getD k [])) (by rw [List.getElem?_map, List.getD_eq_getElem?_getD, List.getElem?_eq_getElem h]; rfl)]; rfl
theorem ix_pr0 : fIx (.p (pr a)) (.p (.int 0)) μ = some (.p (.int a.num), μ) := by unfold pr; simp
theorem ix_pr1 : fIx (.p (pr a)) (.p (.int 1)) μ = some (.p (.int (a.den : Int)), μ) := by unfold pr; simp
theorem len_q {r : List Rat} {e : Ev} (h : e δ μ = some (.ok (.p (qP r)), μ)) : evBI fLen (evCons e evNil) δ μ = some (.ok (.p (.int (r.length : Int))), μ) := by
  rw [evBI_eq, evCons_eq, h, bindG_ok, evNil_eq, bindG_ok, bindG_ok]
  unfold qP
  rw [fLen_lst, List.length_map]
  rfl
theorem len_qs {r : List (List Rat)} {e : Ev} (h : e δ μ = some (.ok (.p (qsP r)), μ)) : evBI fLen (evCons e evNil) δ μ = some (.ok (.p (.int (r.length : Int))), μ) := by
  rw [evBI_eq, evCons_eq, h, bindG_ok, evNil_eq, bindG_ok, bindG_ok]
  unfold qsP
  rw [fLen_lst, List.length_map]
  rfl
theorem intsP_map (n : Nat) : intsP 0 n = (List.range n).map fun (i : Nat) => P.int (i : Int) := by
  unfold intsP; rw [List.range_eq_range']
theorem eq_int {i j : Int} : fEq (.p (.int i)) (.p (.int j)) μ = some (.p (.bl (decide (i = j))), μ) := by simp
theorem ne_int {i j : Int} : fNe (.p (.int i)) (.p (.int j)) μ = some (.p (.bl (!decide (i = j))), μ) := by simp
theorem ev_without {row one : List Rat} {c w B : Nat} (hr : row.length = w) (ho : one.length = w) (hc : c < w) (hw : w ≤ 50) (b1 : ∀ x, x < w → Qz B (rg row x)) (b2 : ∀ x, x < w → Qz B (rg one x)) (hB : 3 * B ≤ 2400) :
    m__law_without [.p (qP row), .p (qP one), .p (.int (c : Int))] μ = some (.ok (.p (qP (wo c one row))), μ) := by
  have i1 := ix_q (μ := μ) (r := row) (j := c) (by omega)
  have i2 := ix_pr0 (μ := μ) (a := rg row c)
  have z : (rg row c).num = 0 ↔ rg row c = 0 := Rat.num_eq_zero
  have lc := lc_map (δ := [some (.p (qP row)), some (.p (qP one)), some (.p (.int (c : Int))), some (.p (pr (rg row c))), none]) (μ := μ) (ν := μ) (it := evRng1 (evBI fLen (evCons (evV 0) evNil))) (ts := tgN 4) (e := evCall m__law_sub [] (evCons (evBin fIx (evV 0) (evV 4)) (evCons (evCall m__law_mul [] (evCons (evV 3) (evCons (evBin fIx (evV 1) (evV 4)) evNil))) evNil))) (vs := [4]) (as := List.range w) (fun i => P.int (i : Int)) (fun k => pr (rg row k - rg row c * rg one k)) (by
      rw [rng_n w (by rw [len_q evV_0, hr]) (by omega), intsP_map]) (fun k hk => ⟨_, rfl, fun κ => by
      have hk := List.mem_range.mp hk
      have e1 := ix_q (μ := κ) (r := row) (j := k) (by omega)
      have e2 := ix_q (μ := κ) (r := one) (j := k) (by omega)
      have m1 := ev_rmul (μ := κ) (b1 c hc).bz (b2 k hk).bz (by omega)
      have m2 := ev_rsub (μ := κ) (b1 k hk).bz ((b1 c hc).mul (b2 k hk)).bz (by omega)
      show evCall m__law_sub [] (evCons (evBin fIx (evV 0) (evV 4)) (evCons (evCall m__law_mul [] (evCons (evV 3) (evCons (evBin fIx (evV 1) (evV 4)) evNil))) evNil)) [some (.p (qP row)), some (.p (qP one)), some (.p (.int (c : Int))), some (.p (pr (rg row c))), some (.p (.int (k : Int)))] κ = _
      rw [evCall_eq, evCons_eq, evBin_eq, evV_0, bindG_ok, evV_4, bindG_ok, e1, okm_some, bindG_ok, evCons_eq, evCall_eq, evCons_eq, evV_3, bindG_ok, evCons_eq, evBin_eq, evV_1, bindG_ok, evV_4, bindG_ok, e2, okm_some, bindG_ok, evNil_eq, bindG_ok, bindG_ok, bindG_ok, List.map_nil, List.append_nil, m1, bindG_ok, evNil_eq, bindG_ok, bindG_ok, bindG_ok, List.append_nil, m2]⟩) (show (List.range w).length ≤ sizeLine by rw [List.length_range]; exact Nat.le_of_lt (line_k (by omega)))
  unfold m__law_without
  rw [arF3]
  unfold sv__law_without
  simp only [List.replicate, List.cons_append, List.nil_append]
  rw [seqS_eq, sSet_eq, evBin_eq, evV_0, bindG_ok, evV_2, bindG_ok, i1, okm_some, bindS_ok, andThen_nx]
  simp only [List.set_cons_succ, List.set_cons_zero]
  rw [seqS_eq, sIf_eq, evB_eq', evBin_eq, evBin_eq, evV_3, bindG_ok, evC_eq, bindG_ok, i2, okm_some, bindG_ok, evC_eq, bindG_ok, eq_int, okm_some, bindG_ok, toB_bl, bindS_ok]
  unfold wo
  by_cases h : rg row c = 0
  · rw [if_pos (decide_eq_true (z.mpr h)), if_pos h, sRet_eq, evV_0, bindS_ok, andThen_ret, retF_p, List.take_length]
  · rw [if_neg (by simpa using fun q => h (z.mp q)), if_neg h, sNil_eq, andThen_nx, sRet_eq, lc, bindS_ok, retF_p, List.take_length, hr]
    unfold qP
    rw [List.map_map]
    rfl
end
end Vs
namespace Vs
open PySem PySem.Spec PyProof.Rows L2
open Bar (rg wo dv pks dropAt GS gst gredL gred gsol GI RowIn fac WY DX un SR)
section
variable {μ : Mu} {δ : Sl}
theorem fac7 {c : Nat} (h : c ≤ 7) : fac c < 2 ^ 13 := Nat.lt_of_le_of_lt (Bar.fac_mono h) (by decide)
theorem pow_bd {m c w : Nat} (hc : c ≤ 7) (hw : c ≤ w) : fac c * (2 ^ m) ^ c < 2 ^ (13 + m * w) := by
  rw [← Nat.pow_mul, Nat.pow_add]
  have h1 := fac7 hc
  have h2 : 2 ^ (m * c) ≤ 2 ^ (m * w) := Nat.pow_le_pow_right (by decide) (Nat.mul_le_mul_left _ hw)
  exact Nat.mul_lt_mul_of_lt_of_le h1 h2 (Nat.pow_pos (by decide))
theorem GI_left {w m S : Nat} {rows0 : List (List Rat)} {col : Nat} {s : GS} (h : GI w (2 ^ m) S rows0 col s) (hc : s.leads.length < w) (hw : w ≤ 7) {r : List Rat} (hr : r ∈ s.left) {x : Nat} (hx : x < w) : Qz (S + m * w + 20) (rg r x) := by
  obtain ⟨R, hR, hC, hD, hd, hl⟩ := h.sz
  obtain ⟨u, t, hu, ht, htS, e⟩ := hl r hr
  have e := e x hx
  have b1 := Bar.WY_le (c := s.leads.length) (lead := (s.leads.getD · 0)) (fun i x _ => hR i x) hu x
  have b2 := Bar.DX_le (lead := (s.leads.getD · 0)) (c := s.leads.length) (fun i x _ => hR i x)
  have c1 := pow_bd (m := m) (c := s.leads.length + 1) (w := w) (by omega) (by omega)
  have c2 := pow_bd (m := m) (c := s.leads.length) (w := w) (by omega) (by omega)
  have tz : t.natAbs < 2 ^ S := by
    have e2 : ((2 ^ S : Nat) : Int) = (2 : Int) ^ S := by rw [Int.natCast_pow]; rfl
    rw [← e2] at htS
    generalize 2 ^ S = y at *
    show t.natAbs < y
    omega
  have dz : Sz (13 + m * w) (DX s.leads.length (s.leads.getD · 0) R) := Nat.lt_of_le_of_lt b2 c2
  have wz : Sz (13 + m * w) (WY s.leads.length (s.leads.getD · 0) R u x) := Nat.lt_of_le_of_lt b1 c1
  refine qz_eq (x := WY s.leads.length (s.leads.getD · 0) R u x) (y := t * DX s.leads.length (s.leads.getD · 0) R) (by omega) (mul_ne (by omega) hD) (wz.mono (by omega)) ((Sz.mul (show Sz S t from tz) dz).mono (by omega)) ?_
  rw [Rat.intCast_mul]; exact e
theorem GI_done {w m S : Nat} {rows0 : List (List Rat)} {col : Nat} {s : GS} (h : GI w (2 ^ m) S rows0 col s) {v : Nat} (hc : s.leads.length < v) (hv : v ≤ 8) {r : List Rat} (hr : r ∈ s.done) {x : Nat} (hx : x < w) : Qz (m * v + 20) (rg r x) := by
  obtain ⟨R, hR, hC, hD, hd, hl⟩ := h.sz
  obtain ⟨i, hi⟩ := List.mem_iff_getElem?.mp hr
  have e := hd i r hi x hx
  have M1 : 1 ≤ 2 ^ m := Nat.one_le_two_pow
  have b1 := Bar.WY_le (c := s.leads.length) (lead := (s.leads.getD · 0)) (u := un (s.leads.getD i 0)) (fun i x _ => hR i x) (fun y => by unfold un; split <;> simp <;> omega) x
  have b2 := Bar.DX_le (lead := (s.leads.getD · 0)) (c := s.leads.length) (fun i x _ => hR i x)
  have p1 : fac (s.leads.length + 1) * (2 ^ m) ^ (s.leads.length + 1) < 2 ^ (16 + m * v) := by
    rw [← Nat.pow_mul, Nat.pow_add]
    have h1 : fac (s.leads.length + 1) < 2 ^ 16 := Nat.lt_of_le_of_lt (Bar.fac_mono (show s.leads.length + 1 ≤ 8 by omega)) (by decide)
    exact Nat.mul_lt_mul_of_lt_of_le h1 (Nat.pow_le_pow_right (by decide) (Nat.mul_le_mul_left _ (by omega))) (Nat.pow_pos (by decide))
  have p2 : fac s.leads.length * (2 ^ m) ^ s.leads.length < 2 ^ (16 + m * v) := by
    refine Nat.lt_of_le_of_lt ?_ p1
    exact Nat.mul_le_mul (Bar.fac_mono (by omega)) (Nat.pow_le_pow_right M1 (by omega))
  have dz : Sz (16 + m * v) (DX s.leads.length (s.leads.getD · 0) R) := Nat.lt_of_le_of_lt b2 p2
  have wz : Sz (16 + m * v) (WY s.leads.length (s.leads.getD · 0) R (un (s.leads.getD i 0)) x) := Nat.lt_of_le_of_lt b1 p1
  have uz : Sz (16 + m * v) (DX s.leads.length (s.leads.getD · 0) R * un (s.leads.getD i 0) x) := by
    unfold un
    split
    · simpa using dz
    · simp only [Int.mul_zero]; exact Nat.pow_pos (by decide)
  refine qz_eq (by omega) hD ((uz.sub wz).mono (by omega)) (dz.mono (by omega)) e
theorem GI_one {w m S : Nat} {rows0 : List (List Rat)} {col : Nat} {s : GS} (h : GI w (2 ^ m) S rows0 col s) (hc : s.leads.length < w) (hw : w ≤ 7) {p : List Rat} (hp : p ∈ s.left) (hcol : col < w) (hz : rg p col ≠ 0) {x : Nat} (hx : x < w) : Qz (S + m * w + 20) (rg (dv p col) x) := by
  obtain ⟨R, hR, hC, hD, hd, hl⟩ := h.sz
  obtain ⟨u, t, hu, ht, htS, e⟩ := hl p hp
  have e1 := e x hx
  have e2 := e col hcol
  have b1 := fun y => Bar.WY_le (c := s.leads.length) (lead := (s.leads.getD · 0)) (fun i x _ => hR i x) hu y
  have c1 := pow_bd (m := m) (c := s.leads.length + 1) (w := w) (by omega) (by omega)
  have wz : ∀ y, Sz (13 + m * w) (WY s.leads.length (s.leads.getD · 0) R u y) := fun y => Nat.lt_of_le_of_lt (b1 y) c1
  have tD : (t : Rat) * (DX s.leads.length (s.leads.getD · 0) R : Rat) ≠ 0 := by
    have h1 : (t : Rat) ≠ 0 := fun q => by have : t = 0 := by exact_mod_cast q
                                           omega
    have h2 : (DX s.leads.length (s.leads.getD · 0) R : Rat) ≠ 0 := fun q => hD (by exact_mod_cast q)
    grind
  have hW : (WY s.leads.length (s.leads.getD · 0) R u col : Rat) ≠ 0 := by rw [← e2]; grind
  refine qz_eq (x := WY s.leads.length (s.leads.getD · 0) R u x) (y := WY s.leads.length (s.leads.getD · 0) R u col) (by omega) (fun q => hW (by rw [q]; rfl)) ((wz x).mono (by omega)) ((wz col).mono (by omega)) ?_
  rw [Bar.dv_rg (by rw [h.ll p hp]; exact hx), ← e1, ← e2]
  grind
theorem leads_le {w M S : Nat} {rows0 : List (List Rat)} {col : Nat} {s : GS} (h : GI w M S rows0 col s) : s.leads.length ≤ col := by
  have : ∀ (ls : List Nat) (a : Nat), ls.Pairwise (· < ·) → (∀ l ∈ ls, a ≤ l ∧ l < col) → a + ls.length ≤ col ∨ ls = [] := by
    intro ls
    induction ls with
    | nil => intro a _ _; exact .inr rfl
    | cons l ls ih =>
      intro a hp hl
      have hp' := List.pairwise_cons.mp hp
      have hl0 := hl l List.mem_cons_self
      rcases ih (l + 1) hp'.2 (fun x hx => ⟨hp'.1 x hx, (hl x (List.mem_cons_of_mem _ hx)).2⟩) with q | q
      · left; simp; omega
      · subst q; left; simp; omega
  rcases this s.leads 0 h.asc (fun l hl => ⟨Nat.zero_le _, h.lt l hl⟩) with q | q
  · omega
  · rw [q]; simp
theorem catL1 {xs : List P} {x : P} {a b : Ev} (h1 : a δ μ = some (.ok (.p (.lst xs)), μ)) (h2 : b δ μ = some (.ok (.p x), μ)) (hl : xs.length ≤ 900) : evBin fCatL a (evLst (evCons b evNil)) δ μ = some (.ok (.p (.lst (xs ++ [x]))), μ) := by
  have f := fCatL_p (μ := μ) (xs := xs) (ys := [x]) (Nat.le_of_lt (line_k (by simp; omega)))
  rw [evBin_eq, h1, bindG_ok, evLst_eq, evCons_eq, h2, bindG_ok, evNil_eq, bindG_ok, bindG_ok, toPs_cons, toPs_nil, consP_some, lstEnd_some, if_pos (show [x].length ≤ sizeLine from line_1), bindG_ok, f, okm_some]
/-- the store: the leads stand behind what was -/
def ldO (ls : List Nat) : Option MO := some (.lst (ls.map fun (l : Nat) => P.int (l : Int)))
theorem wo_lc {rows : List (List Rat)} {c0 c1 c2 c4 c5 c7 c8 c10 : Option D} {one : List Rat} {c w B : Nat} {it : EvG (List P)} {ν : Mu}
    (hi : it [c0, c1, c2, none, c4, c5, some (.p (.int (c : Int))), c7, c8, some (.p (qP one)), c10] ν = some (.ok (rows.map qP), ν)) (hr : ∀ r ∈ rows, r.length = w ∧ ∀ x, x < w → Qz B (rg r x)) (ho : one.length = w) (b2 : ∀ x, x < w → Qz B (rg one x)) (hc : c < w) (hw : w ≤ 50) (hB : 3 * B ≤ 2400) (hl : rows.length ≤ 100) {c3 : Option D}
    (hi' : it [c0, c1, c2, c3, c4, c5, some (.p (.int (c : Int))), c7, c8, some (.p (qP one)), c10] ν = some (.ok (rows.map qP), ν)) :
    evLc it (tgN 3) evTrue (evCall m__law_without [] (evCons (evV 3) (evCons (evV 9) (evCons (evV 6) evNil)))) [3] [c0, c1, c2, c3, c4, c5, some (.p (.int (c : Int))), c7, c8, some (.p (qP one)), c10] ν = some (.ok (.p (qsP (rows.map (wo c one)))), ν) := by
  have e := lc_map (δ := [c0, c1, c2, c3, c4, c5, some (.p (.int (c : Int))), c7, c8, some (.p (qP one)), c10]) (ts := tgN 3) (vs := [3]) (e := evCall m__law_without [] (evCons (evV 3) (evCons (evV 9) (evCons (evV 6) evNil)))) qP (fun r => qP (wo c one r)) hi' (fun r hr' => ⟨_, rfl, fun κ => by
    have e1 := ev_without (μ := κ) (hr r hr').1 ho hc hw (hr r hr').2 b2 hB
    show evCall m__law_without [] (evCons (evV 3) (evCons (evV 9) (evCons (evV 6) evNil))) [c0, c1, c2, some (.p (qP r)), c4, c5, some (.p (.int (c : Int))), c7, c8, some (.p (qP one)), c10] κ = _
    simp only [evCall_eq, evCons_eq, evNil_eq, evBin_eq, evUn_eq, evC_eq, evV_0, evV_1, evV_2, evV_3, evV_4, evV_5, evV_6, evV_7, evV_8, evV_9, evV_10, evB_eq', evBI_eq, bindG_ok, bindS_ok, okm_some, toB_bl, andThen_nx, andThen_ret, seqS_eq, sSet_eq, sIf_eq, sRet_eq, sExpr_eq, sNil_eq, List.set_cons_succ, List.set_cons_zero, List.map_nil, List.append_nil, List.cons_append, List.nil_append, retF_p, List.take_length, List.replicate, if_true, e1]⟩) (Nat.le_of_lt (line_k (by omega)))
  rw [e]
  unfold qsP
  rw [List.map_map]
  rfl
theorem it_qs {rows : List (List Rat)} {e : Ev} {ν : Mu} (h : e δ ν = some (.ok (.p (qsP rows)), ν)) : evIt e δ ν = some (.ok (rows.map qP), ν) := by
  unfold evIt
  rw [h, bindG_ok]
  rfl
theorem red_step {w m S : Nat} {rows0 : List (List Rat)} {c : Nat} {s : GS} (h : GI w (2 ^ m) S rows0 c s) (hcw : c < w) (hw : w ≤ 7) (hB : 3 * (S + m * w + 20) ≤ 2400) (hl : s.left.length ≤ 90) {c0 c1 c3 c7 c8 c9 c10 : Option D} : ∃ c7' c9',
    lb__law_reduced_0 [c0, c1, some (.p (qsP s.left)), c3, some (.p (qsP s.done)), some (.loc μ.length), some (.p (.int (c : Int))), c7, c8, c9, c10] (μ ++ [ldO s.leads])
      = some (.nx, [c0, c1, some (.p (qsP (gst c s).left)), c3, some (.p (qsP (gst c s).done)), some (.loc μ.length), some (.p (.int (c : Int))), c7', c8, c9', c10], μ ++ [ldO (gst c s).leads]) := by
  have ll := leads_le h
  have lk : s.leads.length < w := by omega
  have p1 := lc_filt (δ := [c0, c1, some (.p (qsP s.left)), c3, some (.p (qsP s.done)), some (.loc μ.length), some (.p (.int (c : Int))), c7, c8, c9, c10]) (μ := μ ++ [ldO s.leads]) (ν := μ ++ [ldO s.leads]) (it := evRng1 (evBI fLen (evCons (evV 2) evNil))) (ts := tgN 8) (t := evB (evBin fNe (evBin fIx (evBin fIx (evBin fIx (evV 2) (evV 8)) (evV 6)) (evC (.int 0))) (evC (.int 0)))) (e := evV 8) (vs := [8]) (as := List.range s.left.length) (fun k => P.int (k : Int)) (fun k => P.int (k : Int)) (fun k => decide (rg (s.left.getD k []) c ≠ 0))
    (by rw [rng_n s.left.length (len_qs evV_2) (by omega), intsP_map]) (fun k hk => ⟨_, rfl, fun ξ _ => by
      have hk := List.mem_range.mp hk
      have i1 := ix_qs (μ := ξ) hk
      have i2 := ix_q (μ := ξ) (r := s.left.getD k []) (j := c) (by rw [h.ll _ (getD_mem hk)]; exact hcw)
      have i3 := ix_pr0 (μ := ξ) (a := rg (s.left.getD k []) c)
      have z : (!decide ((rg (s.left.getD k []) c).num = 0)) = decide (rg (s.left.getD k []) c ≠ 0) := by
        by_cases q : rg (s.left.getD k []) c = 0
        · simp [q]
        · simp [q, Rat.num_eq_zero]
      constructor
      · show evB (evBin fNe (evBin fIx (evBin fIx (evBin fIx (evV 2) (evV 8)) (evV 6)) (evC (.int 0))) (evC (.int 0))) [c0, c1, some (.p (qsP s.left)), c3, some (.p (qsP s.done)), some (.loc μ.length), some (.p (.int (c : Int))), c7, some (.p (.int (k : Int))), c9, c10] ξ = _
        simp only [evCall_eq, evCons_eq, evNil_eq, evBin_eq, evUn_eq, evC_eq, evV_0, evV_1, evV_2, evV_3, evV_4, evV_5, evV_6, evV_7, evV_8, evV_9, evV_10, evB_eq', evBI_eq, bindG_ok, bindS_ok, okm_some, toB_bl, andThen_nx, andThen_ret, seqS_eq, sSet_eq, sIf_eq, sRet_eq, sExpr_eq, sNil_eq, List.set_cons_succ, List.set_cons_zero, List.map_nil, List.append_nil, List.cons_append, List.nil_append, retF_p, List.take_length, List.replicate, if_true, i1, i2, i3, ne_int, z]
      · exact evV_8⟩) (show (List.range s.left.length).length ≤ sizeLine by rw [List.length_range]; exact Nat.le_of_lt (line_k (by omega)))
  have hpk : List.filter (fun k => decide (rg (s.left.getD k []) c ≠ 0)) (List.range s.left.length) = pks s.left c := rfl
  rw [hpk] at p1
  cases e : pks s.left c with
  | nil =>
    have hg : gst c s = s := by unfold gst; rw [e]
    rw [e] at p1
    refine ⟨some (.p (.lst [])), c9, ?_⟩
    rw [hg]
    unfold lb__law_reduced_0
    rw [seqS_eq, sSet_eq, p1, bindS_ok, andThen_nx]
    simp only [evCall_eq, evCons_eq, evNil_eq, evBin_eq, evUn_eq, evC_eq, evV_0, evV_1, evV_2, evV_3, evV_4, evV_5, evV_6, evV_7, evV_8, evV_9, evV_10, evB_eq', evBI_eq, bindG_ok, bindS_ok, okm_some, toB_bl, andThen_nx, andThen_ret, seqS_eq, sSet_eq, sIf_eq, sRet_eq, sExpr_eq, sNil_eq, List.set_cons_succ, List.set_cons_zero, List.map_nil, List.append_nil, List.cons_append, List.nil_append, retF_p, List.take_length, List.replicate, if_true, evTruL_eq, lstOf_lst, truLEnd_some, List.isEmpty_nil, Bool.not_true, Bool.false_eq_true, if_false]
  | cons k ks =>
    obtain ⟨hk, hp, hz⟩ := Bar.pks_some e
    have hg : gst c s = ⟨(dropAt s.left k).map (wo c (dv (s.left.getD k []) c)), s.done.map (wo c (dv (s.left.getD k []) c)) ++ [dv (s.left.getD k []) c], s.leads ++ [c]⟩ := by
      unfold gst; rw [e]
    rw [e] at p1
    have pm : s.left.getD k [] ∈ s.left := List.mem_of_getElem? hp
    have pl := h.ll _ pm
    have i1 := fun ξ : Mu => ix_qs (μ := ξ) hk
    have i2 := fun ξ : Mu => ix_q (μ := ξ) (r := s.left.getD k []) (j := c) (by rw [pl]; exact hcw)
    rw [hg]
    generalize hpp : s.left.getD k [] = p at *
    have ik : ∀ ξ : Mu, fIx (.p (.lst (P.int (k : Int) :: ks.map fun (k : Nat) => P.int (k : Int)))) (.p (.int 0)) ξ = some (.p (.int (k : Int)), ξ) := fun ξ => by simp
    -- without the pivot row
    have p2 := lc_filt (δ := [c0, c1, some (.p (qsP s.left)), c3, some (.p (qsP s.done)), some (.loc μ.length), some (.p (.int (c : Int))), some (.p (.lst (P.int (k : Int) :: ks.map fun (k : Nat) => P.int (k : Int)))), c8, some (.p (qP p)), c10]) (μ := μ ++ [ldO s.leads]) (ν := μ ++ [ldO s.leads]) (it := evRng1 (evBI fLen (evCons (evV 2) evNil))) (ts := tgN 8) (t := evB (evBin fNe (evV 8) (evBin fIx (evV 7) (evC (.int 0))))) (e := evBin fIx (evV 2) (evV 8)) (vs := [8]) (as := List.range s.left.length) (fun k => P.int (k : Int)) (fun i => qP (s.left.getD i [])) (fun i => decide (i ≠ k))
      (by rw [rng_n s.left.length (len_qs evV_2) (by omega), intsP_map]) (fun i hi => ⟨_, rfl, fun ξ _ => by
        have hi := List.mem_range.mp hi
        have j1 := ix_qs (μ := ξ) hi
        have z : (!decide ((i : Int) = (k : Int))) = decide (i ≠ k) := by
          by_cases q : i = k
          · simp [q]
          · have : ¬ ((i : Int) = (k : Int)) := by omega
            simp [q, this]
        constructor
        · show evB (evBin fNe (evV 8) (evBin fIx (evV 7) (evC (.int 0)))) [c0, c1, some (.p (qsP s.left)), c3, some (.p (qsP s.done)), some (.loc μ.length), some (.p (.int (c : Int))), some (.p (.lst (P.int (k : Int) :: ks.map fun (k : Nat) => P.int (k : Int)))), some (.p (.int (i : Int))), some (.p (qP p)), c10] ξ = _
          simp only [evCall_eq, evCons_eq, evNil_eq, evBin_eq, evUn_eq, evC_eq, evV_0, evV_1, evV_2, evV_3, evV_4, evV_5, evV_6, evV_7, evV_8, evV_9, evV_10, evB_eq', evBI_eq, bindG_ok, bindS_ok, okm_some, toB_bl, andThen_nx, andThen_ret, seqS_eq, sSet_eq, sIf_eq, sRet_eq, sExpr_eq, sNil_eq, List.set_cons_succ, List.set_cons_zero, List.map_nil, List.append_nil, List.cons_append, List.nil_append, retF_p, List.take_length, List.replicate, if_true, ik, ne_int, z]
        · show evBin fIx (evV 2) (evV 8) [c0, c1, some (.p (qsP s.left)), c3, some (.p (qsP s.done)), some (.loc μ.length), some (.p (.int (c : Int))), some (.p (.lst (P.int (k : Int) :: ks.map fun (k : Nat) => P.int (k : Int)))), some (.p (.int (i : Int))), some (.p (qP p)), c10] ξ = _
          simp only [evCall_eq, evCons_eq, evNil_eq, evBin_eq, evUn_eq, evC_eq, evV_0, evV_1, evV_2, evV_3, evV_4, evV_5, evV_6, evV_7, evV_8, evV_9, evV_10, evB_eq', evBI_eq, bindG_ok, bindS_ok, okm_some, toB_bl, andThen_nx, andThen_ret, seqS_eq, sSet_eq, sIf_eq, sRet_eq, sExpr_eq, sNil_eq, List.set_cons_succ, List.set_cons_zero, List.map_nil, List.append_nil, List.cons_append, List.nil_append, retF_p, List.take_length, List.replicate, if_true, j1]⟩) (show (List.range s.left.length).length ≤ sizeLine by rw [List.length_range]; exact Nat.le_of_lt (line_k (by omega)))
    have hdr : List.map (fun i => qP (s.left.getD i [])) (List.filter (fun i => decide (i ≠ k)) (List.range s.left.length)) = (dropAt s.left k).map qP := by
      unfold dropAt; rw [List.map_map]; rfl
    rw [hdr] at p2
    have dll : (dropAt s.left k).length ≤ 90 := by
      unfold dropAt
      rw [List.length_map]
      exact Nat.le_trans (List.length_filter_le _ _) (by rw [List.length_range]; exact hl)
    -- the new row
    have p3 := lc_map (δ := [c0, c1, some (.p (qsP (dropAt s.left k))), c3, some (.p (qsP s.done)), some (.loc μ.length), some (.p (.int (c : Int))), some (.p (.lst (P.int (k : Int) :: ks.map fun (k : Nat) => P.int (k : Int)))), c8, some (.p (qP p)), c10]) (μ := μ ++ [ldO s.leads]) (ν := μ ++ [ldO s.leads]) (it := evIt (evV 9)) (ts := tgN 10) (e := evCall m__law_rover [] (evCons (evV 10) (evCons (evBin fIx (evV 9) (evV 6)) evNil))) (vs := [10]) (as := p) pr (fun q => pr (q / rg p c)) rfl (fun q hq => ⟨_, rfl, fun κ => by
      obtain ⟨x, hx⟩ := List.mem_iff_getElem?.mp hq
      have xl := (List.getElem?_eq_some_iff.mp hx).1
      have hqx : q = rg p x := by rw [Bar.rg_lt xl]; exact (List.getElem?_eq_some_iff.mp hx).2.symm
      have b := GI_left h lk hw pm (x := x) (by omega)
      rw [← hqx] at b
      have e1 := ev_rover (μ := κ) b (GI_left h lk hw pm hcw) hz (by omega)
      show evCall m__law_rover [] (evCons (evV 10) (evCons (evBin fIx (evV 9) (evV 6)) evNil)) [c0, c1, some (.p (qsP (dropAt s.left k))), c3, some (.p (qsP s.done)), some (.loc μ.length), some (.p (.int (c : Int))), some (.p (.lst (P.int (k : Int) :: ks.map fun (k : Nat) => P.int (k : Int)))), c8, some (.p (qP p)), some (.p (pr q))] κ = _
      simp only [evCall_eq, evCons_eq, evNil_eq, evBin_eq, evUn_eq, evC_eq, evV_0, evV_1, evV_2, evV_3, evV_4, evV_5, evV_6, evV_7, evV_8, evV_9, evV_10, evB_eq', evBI_eq, bindG_ok, bindS_ok, okm_some, toB_bl, andThen_nx, andThen_ret, seqS_eq, sSet_eq, sIf_eq, sRet_eq, sExpr_eq, sNil_eq, List.set_cons_succ, List.set_cons_zero, List.map_nil, List.append_nil, List.cons_append, List.nil_append, retF_p, List.take_length, List.replicate, if_true, i2, e1]⟩) (Nat.le_of_lt (line_k (by omega)))
    have hdv : P.lst (p.map fun q => pr (q / rg p c)) = qP (dv p c) := by
      unfold qP dv; rw [List.map_map]; rfl
    rw [hdv] at p3
    have ob : ∀ x, x < w → Qz (S + m * w + 20) (rg (dv p c) x) := fun x hx => GI_one h lk hw pm hcw hz hx
    have ol : (dv p c).length = w := by rw [Bar.dv_len, pl]
    have lb : ∀ r ∈ dropAt s.left k, r.length = w ∧ ∀ x, x < w → Qz (S + m * w + 20) (rg r x) := fun r hr => ⟨h.ll r (Bar.drop_mem hr), fun x hx => GI_left h lk hw (Bar.drop_mem hr) hx⟩
    have db : ∀ r ∈ s.done, r.length = w ∧ ∀ x, x < w → Qz (S + m * w + 20) (rg r x) := fun r hr => ⟨h.dl r hr, fun x hx => (GI_done h (v := w) lk (by omega) hr hx).mono (by omega)⟩
    have dnl : s.done.length ≤ 90 := by rw [h.n]; omega
    have p4 := wo_lc (rows := dropAt s.left k) (it := evIt (evV 2)) (ν := μ ++ [ldO s.leads]) (c0 := c0) (c1 := c1) (c2 := some (.p (qsP (dropAt s.left k)))) (c3 := c3) (c4 := some (.p (qsP s.done))) (c5 := some (.loc μ.length)) (c7 := some (.p (.lst (P.int (k : Int) :: ks.map fun (k : Nat) => P.int (k : Int))))) (c8 := c8) (c10 := c10) (it_qs evV_2) lb ol ob hcw (by omega) hB (by omega) (it_qs evV_2)
    have p5 := wo_lc (rows := s.done) (it := evIt (evV 4)) (ν := μ ++ [ldO s.leads]) (c0 := c0) (c1 := c1) (c2 := some (.p (qsP ((dropAt s.left k).map (wo c (dv p c)))))) (c3 := c3) (c4 := some (.p (qsP s.done))) (c5 := some (.loc μ.length)) (c7 := some (.p (.lst (P.int (k : Int) :: ks.map fun (k : Nat) => P.int (k : Int))))) (c8 := c8) (c10 := c10) (it_qs evV_4) db ol ob hcw (by omega) hB (by omega) (it_qs evV_4)
    unfold qsP at p5
    have p6 := catL1 (b := evV 9) (x := qP (dv p c)) p5 evV_9 (by simp; omega)
    have hcat : P.lst ((s.done.map (wo c (dv p c))).map qP ++ [qP (dv p c)]) = qsP (s.done.map (wo c (dv p c)) ++ [dv p c]) := by
      unfold qsP; simp
    rw [hcat] at p6
    refine ⟨some (.p (.lst (P.int (k : Int) :: ks.map fun (k : Nat) => P.int (k : Int)))), some (.p (qP (dv p c))), ?_⟩
    have ap : fApp (.loc μ.length) [.p (.int (c : Int))] (μ ++ [ldO s.leads]) = some (.p .non, μ ++ [ldO (s.leads ++ [c])]) := by
      have := ap1 (μ := μ) (acc := s.leads.map fun (l : Nat) => P.int (l : Int)) (y := P.int (c : Int)) (line_k (by simp; omega))
      unfold ldO
      rw [this, List.map_append]
      rfl
    have isl : isLst (μ ++ [ldO s.leads]) (.loc μ.length) = true := isLst_l (xs := s.leads.map fun (l : Nat) => P.int (l : Int)) (by unfold ldO; simp)
    unfold lb__law_reduced_0
    rw [seqS_eq, sSet_eq, p1, bindS_ok, andThen_nx]
    simp only [List.set_cons_succ, List.set_cons_zero, List.map_cons]
    rw [sIf_eq, evTruL_eq, evV_7, bindG_ok, lstOf_lst, truLEnd_some, bindS_ok, List.isEmpty_cons, Bool.not_false, if_pos rfl]
    rw [seqS_eq, sSet_eq, evBin_eq, evV_2, bindG_ok, evBin_eq, evV_7, bindG_ok, evC_eq, bindG_ok, ik, okm_some, bindG_ok, i1, okm_some, bindS_ok, andThen_nx]
    simp only [List.set_cons_succ, List.set_cons_zero]
    rw [seqS_eq, sSet_eq, p2, bindS_ok, andThen_nx]
    simp only [List.set_cons_succ, List.set_cons_zero]
    rw [seqS_eq, sSet_eq, show P.lst ((dropAt s.left k).map qP) = qsP (dropAt s.left k) from rfl, p3, bindS_ok, andThen_nx]
    simp only [List.set_cons_succ, List.set_cons_zero]
    rw [seqS_eq, sSet_eq, p4, bindS_ok, andThen_nx]
    simp only [List.set_cons_succ, List.set_cons_zero]
    rw [seqS_eq, sSet_eq]
    unfold qsP at p6 ⊢
    rw [p6, bindS_ok, andThen_nx]
    simp only [List.set_cons_succ, List.set_cons_zero]
    rw [sExpr_eq, evBM_eq, evV_5, bindG_ok, if_pos isl, evCons_eq, evV_6, bindG_ok, evNil_eq, bindG_ok, bindG_ok, ap, okm_some, bindS_ok]
end
end Vs
namespace Vs
open PySem PySem.Spec PyProof.Rows L2
mutual
def nb : P → Bool
  | .non => true
  | .int _ => true
  | .str _ => true
  | .tup xs => nbs xs
  | .lst xs => nbs xs
  | _ => false
def nbs : List P → Bool
  | [] => true
  | x :: xs => nb x && nbs xs
end
theorem nbs_of {xs : List P} (h : ∀ x ∈ xs, nb x = true) : nbs xs = true := by
  induction xs with
  | nil => rfl
  | cons x xs ih => rw [nbs, h x List.mem_cons_self, ih fun y hy => h y (List.mem_cons_of_mem _ hy)]; rfl
mutual
theorem eqv_eq : ∀ (x y : P) (d e : PyData), nb x = true → nb y = true → toPD x = some d → toPD y = some e → PyData.eqv d e = true → x = y
  | .non, y, d, e, hx, hy, h1, h2, h => by
    cases h1
    cases y <;> first | rfl | (simp [nb] at hy; done) | (simp [toPD] at h2; done) | skip
    · cases h2; simp [PyData.eqv] at h
    · cases h2; simp [PyData.eqv] at h
    · simp only [toPD, Option.map_eq_some_iff] at h2; obtain ⟨ds, _, rfl⟩ := h2; simp [PyData.eqv] at h
    · simp only [toPD, Option.map_eq_some_iff] at h2; obtain ⟨ds, _, rfl⟩ := h2; simp [PyData.eqv] at h
  | .int i, y, d, e, hx, hy, h1, h2, h => by
    cases h1
    cases y <;> first | (simp [nb] at hy; done) | skip
    · cases h2; simp [PyData.eqv] at h
    · cases h2; simp [PyData.eqv] at h; rw [h]
    · cases h2; simp [PyData.eqv] at h
    · simp only [toPD, Option.map_eq_some_iff] at h2; obtain ⟨ds, _, rfl⟩ := h2; simp [PyData.eqv] at h
    · simp only [toPD, Option.map_eq_some_iff] at h2; obtain ⟨ds, _, rfl⟩ := h2; simp [PyData.eqv] at h
  | .str i, y, d, e, hx, hy, h1, h2, h => by
    cases h1
    cases y <;> first | (simp [nb] at hy; done) | skip
    · cases h2; simp [PyData.eqv] at h
    · cases h2; simp [PyData.eqv] at h
    · cases h2; simp [PyData.eqv] at h; rw [h]
    · simp only [toPD, Option.map_eq_some_iff] at h2; obtain ⟨ds, _, rfl⟩ := h2; simp [PyData.eqv] at h
    · simp only [toPD, Option.map_eq_some_iff] at h2; obtain ⟨ds, _, rfl⟩ := h2; simp [PyData.eqv] at h
  | .tup xs, y, d, e, hx, hy, h1, h2, h => by
    simp only [toPD, Option.map_eq_some_iff] at h1
    obtain ⟨ds, h1, rfl⟩ := h1
    cases y <;> first | (simp [nb] at hy; done) | skip
    · cases h2; simp [PyData.eqv] at h
    · cases h2; simp [PyData.eqv] at h
    · cases h2; simp [PyData.eqv] at h
    · simp only [toPD, Option.map_eq_some_iff] at h2; obtain ⟨es, h2, rfl⟩ := h2
      simp only [PyData.eqv] at h
      rw [eqvs_eq xs _ ds es (by simpa [nb] using hx) (by simpa [nb] using hy) h1 h2 h]
    · simp only [toPD, Option.map_eq_some_iff] at h2; obtain ⟨es, _, rfl⟩ := h2; simp [PyData.eqv] at h
  | .lst xs, y, d, e, hx, hy, h1, h2, h => by
    simp only [toPD, Option.map_eq_some_iff] at h1
    obtain ⟨ds, h1, rfl⟩ := h1
    cases y <;> first | (simp [nb] at hy; done) | skip
    · cases h2; simp [PyData.eqv] at h
    · cases h2; simp [PyData.eqv] at h
    · cases h2; simp [PyData.eqv] at h
    · simp only [toPD, Option.map_eq_some_iff] at h2; obtain ⟨es, _, rfl⟩ := h2; simp [PyData.eqv] at h
    · simp only [toPD, Option.map_eq_some_iff] at h2; obtain ⟨es, h2, rfl⟩ := h2
      simp only [PyData.eqv] at h
      rw [eqvs_eq xs _ ds es (by simpa [nb] using hx) (by simpa [nb] using hy) h1 h2 h]
  | .bl _, _, _, _, hx, _, _, _, _ => by simp [nb] at hx
  | .wl _, _, _, _, hx, _, _, _, _ => by simp [nb] at hx
  | .obj _ _, _, _, _, hx, _, _, _, _ => by simp [nb] at hx
theorem eqvs_eq : ∀ (xs ys : List P) (ds es : List PyData), nbs xs = true → nbs ys = true → toPDs xs = some ds → toPDs ys = some es → PyData.eqvAll ds es = true → xs = ys
  | [], [], _, _, _, _, _, _, _ => rfl
  | [], y :: ys, ds, es, _, _, h1, h2, h => by
    cases h1
    simp only [toPDs] at h2
    split at h2
    · cases h2; simp [PyData.eqvAll] at h
    · cases h2
  | x :: xs, [], ds, es, _, _, h1, h2, h => by
    cases h2
    simp only [toPDs] at h1
    split at h1
    · cases h1; simp [PyData.eqvAll] at h
    · cases h1
  | x :: xs, y :: ys, ds, es, hx, hy, h1, h2, h => by
    simp only [toPDs] at h1 h2
    split at h1
    · rename_i d ds' e1 e2
      cases h1
      split at h2
      · rename_i e es' e3 e4
        cases h2
        simp only [PyData.eqvAll, Bool.and_eq_true] at h
        simp only [nbs, Bool.and_eq_true] at hx hy
        rw [eqv_eq x y d e hx.1 hy.1 e1 e3 h.1, eqvs_eq xs ys ds' es' hx.2 hy.2 e2 e4 h.2]
      · cases h2
    · cases h1
end
theorem eqP_ne {x y : P} (h : Pln 64 x) (h2 : Pln 64 y) (n1 : nb x = true) (n2 : nb y = true) (ne : x ≠ y) : eqP x y = some false := by
  obtain ⟨d, a1, a2, a3, a4⟩ := h
  obtain ⟨e, b1, b2, b3, b4⟩ := h2
  have hd : eqDeep x y = some false := by
    unfold eqDeep
    rw [a1, b1]
    dsimp only
    have hs : SeqAt.shaped d = true := by unfold SeqAt.shaped; rw [a2]; simpa using a3
    have hs2 : SeqAt.shaped e = true := by unfold SeqAt.shaped; rw [b2]; simpa using b3
    rw [hs, hs2]
    have : PyData.eqv d e = false := by
      cases q : PyData.eqv d e with
      | false => rfl
      | true => exact absurd (eqv_eq x y d e n1 n2 a1 b1 q) ne
    rw [this]
    rfl
  unfold eqP
  cases x <;> cases y
  all_goals first | exact hd | (exact absurd rfl ne) | (simp [nb] at n1; done) | skip
  · rename_i i j
    have : i ≠ j := fun q => ne (by rw [q])
    simp [eqAt, this]
/-- == of plain data -/
theorem eqP_dec {x y : P} (h : Pln 64 x) (h2 : Pln 64 y) (n1 : nb x = true) (n2 : nb y = true) {q : Prop} [Decidable q] (e : x = y ↔ q) : eqP x y = some (decide q) := by
  by_cases z : x = y
  · subst z
    rw [eqP_self h, decide_eq_true (e.mp rfl)]
  · rw [eqP_ne h h2 n1 n2 z, decide_eq_false fun k => z (e.mpr k)]
theorem fNe_p {μ : Mu} {x y : P} {b : Bool} (h : eqP x y = some b) : fNe (.p x) (.p y) μ = some (.p (.bl (!b)), μ) := by
  show fEqG true (.p x) (.p y) μ = _
  rw [fEqG_p, h, eqAns_t]
theorem pln_ints {xs : List Int} : Pln 64 (.lst (xs.map .int)) ∧ nb (.lst (xs.map .int)) = true :=
  ⟨(pln_lst (k := 0) fun x hx => by obtain ⟨i, _, rfl⟩ := List.mem_map.mp hx; exact pln_int).mono (by decide), by
    rw [nb]; exact nbs_of fun x hx => by obtain ⟨i, _, rfl⟩ := List.mem_map.mp hx; rfl⟩
end Vs
namespace Vs
open PySem PySem.Spec PyProof.Rows L2
open Bar (rg wo dv pks dropAt GS gst gredL gred gsol GI RowIn fac WY DX un SR)
section
variable {μ : Mu} {δ : Sl}
theorem gst_len {c : Nat} {s : GS} : (gst c s).left.length ≤ s.left.length := by
  unfold gst
  split
  · exact Nat.le_refl _
  · rw [List.length_map]
    unfold dropAt
    rw [List.length_map]
    exact Nat.le_trans (List.length_filter_le _ _) (by rw [List.length_range]; exact Nat.le_refl _)
theorem red_loop {w m S : Nat} {rows0 : List (List Rat)} (hw : w ≤ 7) (hB : 3 * (S + m * w + 20) ≤ 2400) {c0 c1 c3 c8 c10 : Option D} : ∀ (k c : Nat) (s : GS) (c6 c7 c9 : Option D), GI w (2 ^ m) S rows0 c s → c + k = w → s.left.length ≤ 90 → ∃ c6' c7' c9',
    forL (tgN 6) lb__law_reduced_0 (intsP c k) [c0, c1, some (.p (qsP s.left)), c3, some (.p (qsP s.done)), some (.loc μ.length), c6, c7, c8, c9, c10] (μ ++ [ldO s.leads])
      = some (.nx, [c0, c1, some (.p (qsP (gredL k c s).left)), c3, some (.p (qsP (gredL k c s).done)), some (.loc μ.length), c6', c7', c8, c9', c10], μ ++ [ldO (gredL k c s).leads])
  | 0, c, s, c6, c7, c9, h, hc, hl => ⟨c6, c7, c9, rfl⟩
  | k + 1, c, s, c6, c7, c9, h, hc, hl => by
    obtain ⟨c7', c9', e⟩ := red_step (μ := μ) h (by omega) hw hB hl (c0 := c0) (c1 := c1) (c3 := c3) (c7 := c7) (c8 := c8) (c9 := c9) (c10 := c10)
    have h' : GI w (2 ^ m) S rows0 (c + 1) (gst c s) := by
      cases q : pks s.left c with
      | nil =>
        have : gst c s = s := by unfold gst; rw [q]
        rw [this]; exact h.skip q
      | cons a as => exact h.step (by omega) Nat.one_le_two_pow q
    obtain ⟨c6', c7'', c9'', ih⟩ := red_loop hw hB (c0 := c0) (c1 := c1) (c3 := c3) (c8 := c8) (c10 := c10) k (c + 1) (gst c s) (some (.p (.int (c : Int)))) c7' c9' h' (by omega) (Nat.le_trans gst_len hl)
    refine ⟨c6', c7'', c9'', ?_⟩
    rw [intsP_succ, forL_nx rfl e, ih]
    rfl
def ldP (ls : List Nat) : P := .lst (ls.map fun (l : Nat) => P.int (l : Int))
theorem ev_reduced {rows : List (List Rat)} {w m S : Nat} (hr : ∀ r ∈ rows, RowIn w (2 ^ m) S r) (hw : w ≤ 7) (hB : 3 * (S + m * w + 20) ≤ 2400) (hl : rows.length ≤ 90) :
    m__law_reduced [.p (qsP rows), .p (.int (w : Int))] μ = some (.ok (.p (.tup [qsP (gred w rows).done, ldP (gred w rows).leads])), μ) := by
  have I := GI.start hr
  obtain ⟨c6', c7', c9', e⟩ := red_loop (μ := μ) hw hB (c0 := some (.p (qsP rows))) (c1 := some (.p (.int (w : Int)))) (c3 := none) (c8 := none) (c10 := none) w 0 ⟨rows, [], []⟩ none none none I (by omega) hl
  have p1 := lc_map (δ := [some (.p (qsP rows)), some (.p (.int (w : Int))), none, none, none, none, none, none, none, none, none]) (μ := μ) (ν := μ) (it := evIt (evV 0)) (ts := tgN 3) (e := evBI fList (evCons (evV 3) evNil)) (vs := [3]) (as := rows) qP qP (it_qs evV_0) (fun r hr => ⟨_, rfl, fun κ => by
    have f : fList [.p (qP r)] κ = some (.p (qP r), κ) := rfl
    show evBI fList (evCons (evV 3) evNil) [some (.p (qsP rows)), some (.p (.int (w : Int))), none, some (.p (qP r)), none, none, none, none, none, none, none] κ = _
    simp only [evCall_eq, evCons_eq, evNil_eq, evBin_eq, evUn_eq, evC_eq, evV_0, evV_1, evV_2, evV_3, evV_4, evV_5, evV_6, evV_7, evV_8, evV_9, evV_10, evB_eq', evBI_eq, bindG_ok, bindS_ok, okm_some, toB_bl, andThen_nx, andThen_ret, seqS_eq, sSet_eq, sIf_eq, sRet_eq, sExpr_eq, sNil_eq, List.set_cons_succ, List.set_cons_zero, List.map_nil, List.append_nil, List.cons_append, List.nil_append, retF_p, List.take_length, List.replicate, if_true, f]⟩) (Nat.le_of_lt (line_k (by omega)))
  have r1 : evRng1 (evV 1) [some (D.p (qsP rows)), some (.p (.int (w : Int))), some (.p (qsP rows)), none, some (.p (qsP [])), some (.loc μ.length), none, none, none, none, none] (μ ++ [ldO []]) = some (.ok (intsP 0 w), μ ++ [ldO []]) := rng_n w evV_1 (by omega)
  have fz : toPs (μ ++ [ldO (gred w rows).leads]) [.p (qsP (gred w rows).done), .loc μ.length] = some ([qsP (gred w rows).done, ldP (gred w rows).leads], (μ ++ [ldO (gred w rows).leads]).set μ.length none) := by
    unfold ldO
    simp [toPs, toP, cellL, ldP]
  unfold m__law_reduced
  rw [arF2]
  unfold sv__law_reduced
  simp only [List.replicate, List.cons_append, List.nil_append]
  rw [seqS_eq, sSet_eq, p1, bindS_ok, andThen_nx]
  simp only [List.set_cons_succ, List.set_cons_zero]
  rw [seqS_eq, sSet_eq, evLst_eq, evNil_eq, bindG_ok, toPs_nil, lstEnd_some, if_pos (show ([] : List P).length ≤ sizeLine from line_0), bindS_ok, andThen_nx]
  simp only [List.set_cons_succ, List.set_cons_zero]
  rw [seqS_eq, sSet_eq, evLstC_eq, evNil_eq, bindG_ok, toPs_nil, lstEndC_some, if_pos (show ([] : List P).length ≤ sizeLine from line_0), bindS_ok, andThen_nx]
  simp only [List.set_cons_succ, List.set_cons_zero]
  unfold lb__law_reduced_0 at e
  rw [seqS_eq, sFor_eq]
  rw [show P.lst (rows.map qP) = qsP rows from rfl, show P.lst [] = qsP [] from rfl, show [some (MO.lst [])] = [ldO []] from rfl, r1, bindS_ok, e, andThen_nx]
  rw [show gredL w 0 ⟨rows, [], []⟩ = gred w rows from rfl]
  rw [sRet_eq, evTup_eq, evCons_eq, evV_4, bindG_ok, evCons_eq, evV_5, bindG_ok, evNil_eq, bindG_ok, bindG_ok, bindG_ok, fz, tupEnd_some, if_pos (show [qsP (gred w rows).done, ldP (gred w rows).leads].length ≤ sizeLine from line_2), bindS_ok, retF_p]
  rw [set_end rfl, List.take_left]
def augR (rows : List (List Rat)) (cs : List Rat) : List (List Rat) := (List.range rows.length).map fun k => rows.getD k [] ++ [cs.getD k 0]
def oqP : Option (List Rat) → P
  | none => .non
  | some pt => qP pt
theorem ldP_pl {ls : List Nat} : Pln 64 (ldP ls) ∧ nb (ldP ls) = true := by
  have := pln_ints (xs := ls.map fun (l : Nat) => (l : Int))
  rw [List.map_map] at this
  exact this
theorem ldP_inj {as bs : List Nat} (h : ldP as = ldP bs) : as = bs := by
  have h : (as.map fun (l : Nat) => P.int (l : Int)) = bs.map fun (l : Nat) => P.int (l : Int) := by injection h
  refine List.map_inj_right (f := fun (l : Nat) => P.int (l : Int)) (fun x y e => ?_) |>.mp h
  injection e with e; omega
theorem ev_solution {rows : List (List Rat)} {cs : List Rat} {n m S : Nat} (h1 : 0 < rows.length) (hn : ∀ r ∈ rows, r.length = n) (hcs : cs.length = rows.length) (hr : ∀ r ∈ augR rows cs, RowIn (n + 1) (2 ^ m) S r) (hw : n + 1 ≤ 7) (hB : 3 * (S + m * (n + 1) + 20) ≤ 2400) (hl : rows.length ≤ 90) :
    m__law_solution [.p (qsP rows), .p (qP cs)] μ = some (.ok (.p (oqP (gsol n (augR rows cs)))), μ) := by
  have i0 := fun κ : Mu => ix_qs (μ := κ) (rows := rows) (k := 0) h1
  have l0 : (rows.getD 0 []).length = n := hn _ (getD_mem h1)
  have ln : ∀ κ : Mu, fLen [.p (qP (rows.getD 0 []))] κ = some (.p (.int (n : Int)), κ) := fun κ => by
    unfold qP; rw [fLen_lst, List.length_map, l0]
  have p1 := lc_map (δ := [some (.p (qsP rows)), some (.p (qP cs)), some (.p (.int (n : Int))), none, none, none, none]) (μ := μ) (ν := μ) (it := evRng1 (evBI fLen (evCons (evV 0) evNil))) (ts := tgN 5) (e := evBin fCatL (evBin fIx (evV 0) (evV 5)) (evLst (evCons (evBin fIx (evV 1) (evV 5)) evNil))) (vs := [5]) (as := List.range rows.length) (fun k => P.int (k : Int)) (fun k => qP (rows.getD k [] ++ [cs.getD k 0]))
    (by rw [rng_n rows.length (len_qs evV_0) (by omega), intsP_map]) (fun k hk => ⟨_, rfl, fun κ => by
      have hk := List.mem_range.mp hk
      have i1 := ix_qs (μ := κ) hk
      have i2 := ix_q (μ := κ) (r := cs) (j := k) (by omega)
      have lk : (rows.getD k []).length = n := hn _ (getD_mem hk)
      have c := catL1 (δ := [some (.p (qsP rows)), some (.p (qP cs)), some (.p (.int (n : Int))), none, none, some (.p (.int (k : Int))), none]) (μ := κ) (xs := (rows.getD k []).map pr) (x := pr (rg cs k)) (a := evBin fIx (evV 0) (evV 5)) (b := evBin fIx (evV 1) (evV 5)) (by
        simp only [evCall_eq, evCons_eq, evNil_eq, evBin_eq, evUn_eq, evC_eq, evV_0, evV_1, evV_2, evV_3, evV_4, evV_5, evV_6, evV_7, evV_8, evV_9, evV_10, evB_eq', evBI_eq, bindG_ok, bindS_ok, okm_some, toB_bl, andThen_nx, andThen_ret, seqS_eq, sSet_eq, sIf_eq, sRet_eq, sExpr_eq, sNil_eq, List.set_cons_succ, List.set_cons_zero, List.map_nil, List.append_nil, List.cons_append, List.nil_append, retF_p, List.take_length, List.replicate, if_true, i1]; rfl) (by simp only [evCall_eq, evCons_eq, evNil_eq, evBin_eq, evUn_eq, evC_eq, evV_0, evV_1, evV_2, evV_3, evV_4, evV_5, evV_6, evV_7, evV_8, evV_9, evV_10, evB_eq', evBI_eq, bindG_ok, bindS_ok, okm_some, toB_bl, andThen_nx, andThen_ret, seqS_eq, sSet_eq, sIf_eq, sRet_eq, sExpr_eq, sNil_eq, List.set_cons_succ, List.set_cons_zero, List.map_nil, List.append_nil, List.cons_append, List.nil_append, retF_p, List.take_length, List.replicate, if_true, i2]) (by rw [List.length_map, lk]; omega)
      show evBin fCatL (evBin fIx (evV 0) (evV 5)) (evLst (evCons (evBin fIx (evV 1) (evV 5)) evNil)) [some (.p (qsP rows)), some (.p (qP cs)), some (.p (.int (n : Int))), none, none, some (.p (.int (k : Int))), none] κ = _
      rw [c]
      unfold qP
      rw [List.map_append]
      rfl⟩) (show (List.range rows.length).length ≤ sizeLine by rw [List.length_range]; exact Nat.le_of_lt (line_k (by omega)))
  have haug : P.lst ((List.range rows.length).map fun k => qP (rows.getD k [] ++ [cs.getD k 0])) = qsP (augR rows cs) := by
    unfold qsP augR; rw [List.map_map]; rfl
  rw [haug] at p1
  have red := fun κ : Mu => ev_reduced (μ := κ) hr hw hB (by unfold augR; simp; omega)
  rw [show ((n + 1 : Nat) : Int) = (n : Int) + 1 by omega] at red
  have p2 := lc_map (δ := [some (.p (qsP rows)), some (.p (qP cs)), some (.p (.int (n : Int))), some (.p (qsP (gred (n + 1) (augR rows cs)).done)), some (.p (ldP (gred (n + 1) (augR rows cs)).leads)), none, none]) (μ := μ) (ν := μ) (it := evRng1 (evV 2)) (ts := tgN 5) (e := evV 5) (vs := [5]) (as := List.range n) (fun k => P.int (k : Int)) (fun k => P.int (k : Int))
    (by rw [rng_n n evV_2 (by omega), intsP_map]) (fun k hk => ⟨_, rfl, fun κ => rfl⟩) (show (List.range n).length ≤ sizeLine by rw [List.length_range]; exact Nat.le_of_lt (line_k (by omega)))
  have I := Bar.gred_GI Nat.one_le_two_pow hr
  have p3 := lc_map (δ := [some (.p (qsP rows)), some (.p (qP cs)), some (.p (.int (n : Int))), some (.p (qsP (gred (n + 1) (augR rows cs)).done)), some (.p (ldP (gred (n + 1) (augR rows cs)).leads)), none, none]) (μ := μ) (ν := μ) (it := evIt (evV 3)) (ts := tgN 6) (e := evBin fIx (evV 6) (evV 2)) (vs := [6]) (as := (gred (n + 1) (augR rows cs)).done) qP (fun r => pr (rg r n)) (it_qs evV_3) (fun r hr' => ⟨_, rfl, fun κ => by
      have i1 := ix_q (μ := κ) (r := r) (j := n) (by rw [I.dl r hr']; omega)
      show evBin fIx (evV 6) (evV 2) [some (.p (qsP rows)), some (.p (qP cs)), some (.p (.int (n : Int))), some (.p (qsP (gred (n + 1) (augR rows cs)).done)), some (.p (ldP (gred (n + 1) (augR rows cs)).leads)), none, some (.p (qP r))] κ = _
      simp only [evCall_eq, evCons_eq, evNil_eq, evBin_eq, evUn_eq, evC_eq, evV_0, evV_1, evV_2, evV_3, evV_4, evV_5, evV_6, evV_7, evV_8, evV_9, evV_10, evB_eq', evBI_eq, bindG_ok, bindS_ok, okm_some, toB_bl, andThen_nx, andThen_ret, seqS_eq, sSet_eq, sIf_eq, sRet_eq, sExpr_eq, sNil_eq, List.set_cons_succ, List.set_cons_zero, List.map_nil, List.append_nil, List.cons_append, List.nil_append, retF_p, List.take_length, List.replicate, if_true, i1]⟩) (Nat.le_of_lt (line_k (by rw [I.n]; have := leads_le I; omega)))
  have eqd : ∀ κ : Mu, fNe (.p (ldP (gred (n + 1) (augR rows cs)).leads)) (.p (ldP (List.range n))) κ = some (.p (.bl (!decide ((gred (n + 1) (augR rows cs)).leads = List.range n))), κ) := fun κ => by
    exact fNe_p (eqP_dec ldP_pl.1 ldP_pl.1 ldP_pl.2 ldP_pl.2 (q := (gred (n + 1) (augR rows cs)).leads = List.range n) ⟨ldP_inj, fun h => by rw [h]⟩)
  rw [show P.lst ((List.range n).map fun k : Nat => P.int (k : Int)) = ldP (List.range n) from rfl] at p2
  unfold m__law_solution
  rw [arF2]
  unfold sv__law_solution
  simp only [List.replicate, List.cons_append, List.nil_append]
  rw [seqS_eq, sSet_eq, evBI_eq, evCons_eq, evBin_eq, evV_0, bindG_ok, evC_eq, bindG_ok]
  have i0 := i0 μ
  rw [show ((0 : Nat) : Int) = 0 from rfl] at i0
  rw [i0, okm_some, bindG_ok, evNil_eq, bindG_ok, bindG_ok, ln, okm_some, bindS_ok, andThen_nx]
  simp only [List.set_cons_succ, List.set_cons_zero]
  have add1 : ∀ κ : Mu, fAdd (.p (.int (n : Int))) (.p (.int 1)) κ = some (.p (.int ((n : Int) + 1)), κ) := fun κ => by simp
  rw [seqS_eq, sAsgT_eq, evCall_eq, evCons_eq, p1, bindG_ok, evCons_eq, evBin_eq, evV_2, bindG_ok, evC_eq, bindG_ok, add1, okm_some, bindG_ok, evNil_eq, bindG_ok, bindG_ok, bindG_ok, List.map_nil, List.append_nil, red, bindS_ok, asgEnd_p, tgT_eq, setAll_cons, setAll_cons, setAll_nil, Option.map_some, andThen_nx]
  simp only [List.set_cons_succ, List.set_cons_zero]
  rw [seqS_eq, sIf_eq, evB_eq', evBin_eq, evV_4, bindG_ok, p2, bindG_ok, eqd, okm_some, bindG_ok, toB_bl, bindS_ok]
  unfold gsol
  by_cases q : (gred (n + 1) (augR rows cs)).leads = List.range n
  · rw [if_neg (by simp [q]), if_pos q, sNil_eq, andThen_nx, sRet_eq, p3, bindS_ok, retF_p, List.take_length]
    show _ = some (Out.ok (D.p (P.lst (((gred (n + 1) (augR rows cs)).done.map fun r => rg r n).map pr))), μ)
    rw [List.map_map]
    rfl
  · rw [if_pos (by simp [q]), if_neg q, sRet_eq, evC_eq, bindS_ok, andThen_ret, retF_p, List.take_length]
    rfl
end
end Vs
namespace Vs
open PySem PySem.Spec PyProof.Rows L2
open Bar (gt cz Sol Bd rg gsol RowIn ESol SR)
section
variable {μ : Mu} {δ : Sl}
def Tq (s A : Nat) (q : Rat) : Prop := 0 < s ∧ ∃ z : Int, (s : Rat) * q = (z : Rat) ∧ z.natAbs ≤ s * A
theorem Tq.eq {s A : Nat} {q : Rat} (h : Tq s A q) : ∃ z : Int, q = Rat.divInt z (s : Int) ∧ z.natAbs ≤ s * A := by
  obtain ⟨h0, z, e, hz⟩ := h
  refine ⟨z, ?_, hz⟩
  rw [Rat.divInt_eq_div, ← e, Rat.intCast_natCast]
  have : (s : Rat) ≠ 0 := fun q => by have : s = 0 := by exact_mod_cast q
                                      omega
  grind
theorem Tq.den {s A : Nat} {q : Rat} (h : Tq s A q) : q.den ∣ s := by
  obtain ⟨z, e, _⟩ := h.eq
  have h0 := h.1
  rw [e, Rat.den_divInt, if_neg (by omega), Int.natAbs_natCast]
  refine Nat.div_dvd_of_dvd ?_
  exact Nat.gcd_dvd_left _ _
theorem Tq.num {s A : Nat} {q : Rat} (h : Tq s A q) : q.num.natAbs ≤ s * A := by
  obtain ⟨z, e, hz⟩ := h.eq
  have h0 := h.1
  rw [e, Rat.num_divInt]
  refine Nat.le_trans (Int.natAbs_ediv_le_natAbs _ _) ?_
  rw [Int.natAbs_mul, Int.sign_eq_one_of_pos (by omega)]
  simpa using hz
theorem Tq.mono {s A B : Nat} {q : Rat} (h : Tq s A q) (e : A ≤ B) : Tq s B q := let ⟨h0, z, a, b⟩ := h; ⟨h0, z, a, Nat.le_trans b (Nat.mul_le_mul_left _ e)⟩
theorem Tq.add {s A B : Nat} {q r : Rat} (h : Tq s A q) (h2 : Tq s B r) : Tq s (A + B) (q + r) := by
  obtain ⟨h0, z, e, hz⟩ := h
  obtain ⟨_, y, e2, hy⟩ := h2
  refine ⟨h0, z + y, by rw [Rat.intCast_add, ← e, ← e2]; grind, ?_⟩
  rw [Nat.mul_add]; omega
theorem Tq.neg {s A : Nat} {q : Rat} (h : Tq s A q) : Tq s A (-q) := by
  obtain ⟨h0, z, e, hz⟩ := h
  exact ⟨h0, -z, by rw [Rat.intCast_neg, ← e]; grind, by omega⟩
theorem Tq.mul {s t A B : Nat} {q r : Rat} (h : Tq s A q) (h2 : Tq t B r) : Tq (s * t) (A * B) (q * r) := by
  obtain ⟨h0, z, e, hz⟩ := h
  obtain ⟨h1, y, e2, hy⟩ := h2
  refine ⟨Nat.mul_pos h0 h1, z * y, by rw [Rat.intCast_mul, ← e, ← e2, Rat.natCast_mul]; grind, ?_⟩
  rw [Int.natAbs_mul]
  calc z.natAbs * y.natAbs ≤ (s * A) * (t * B) := Nat.mul_le_mul hz hy
    _ = s * t * (A * B) := by grind
theorem Tq.up {s A : Nat} {q : Rat} (h : Tq s A q) (t : Nat) (ht : 0 < t) : Tq (s * t) A q := by
  obtain ⟨h0, z, e, hz⟩ := h
  refine ⟨Nat.mul_pos h0 ht, z * t, by rw [Rat.intCast_mul, ← e, Rat.natCast_mul, Rat.intCast_natCast]; grind, ?_⟩
  rw [Int.natAbs_mul, Int.natAbs_natCast]
  calc z.natAbs * t ≤ (s * A) * t := Nat.mul_le_mul_right _ hz
    _ = s * t * A := by grind
theorem Tq.qz {s A b : Nat} {q : Rat} (h : Tq s A q) (hb : 1 ≤ b) (h1 : s * A < 2 ^ b) (h2 : s < 2 ^ b) : Qz b q :=
  ⟨hb, Nat.lt_of_le_of_lt h.num h1, Nat.lt_of_le_of_lt (by rw [Int.natAbs_natCast]; exact Nat.le_of_dvd h.1 h.den) h2⟩
theorem scl_of {s : Nat} : ∀ (qs : List Rat) (a : Nat), a ∣ s → (∀ q ∈ qs, q.den ∣ s) → scl qs a ∣ s
  | [], a, h, _ => h
  | q :: qs, a, h, k => scl_of qs _ (Nat.lcm_dvd h (k q List.mem_cons_self)) fun x hx => k x (List.mem_cons_of_mem _ hx)
theorem Tq.sc {s A : Nat} {qs : List Rat} (hs : 0 < s) (h : ∀ q ∈ qs, Tq s A q) : sc qs ≤ s := Nat.le_of_dvd hs (scl_of qs 1 (Nat.one_dvd _) fun q hq => (h q hq).den)
theorem Tq.fm {s A n N S : Nat} {f : Fm} (hn : f.1.length = n) (hs : 0 < s) (h : ∀ q ∈ fmL f, Tq s A q) (h1 : s * A < 2 ^ N) (h2 : s < 2 ^ S) : FmOk n N S f :=
  ⟨hn, fun q hq => Nat.lt_of_le_of_lt (h q hq).num h1, Nat.lt_of_le_of_lt (Tq.sc hs h) h2⟩
theorem Tq.row {s A w M S : Nat} {r : List Rat} (hr : r.length = w) (hs : 0 < s) (h : ∀ q ∈ r, Tq s A q) (h1 : s * A ≤ M) (h2 : s < 2 ^ S) : RowIn w M S r := by
  have key : ∀ x, x < w → ∃ z : Int, (s : Rat) * rg r x = (z : Rat) ∧ z.natAbs ≤ s * A := fun x hx => by
    rw [Bar.rg_lt (by omega)]
    exact (h _ (List.getElem_mem (by omega))).2
  refine ⟨hr, fun x => ((s : Rat) * rg r x).num, (s : Int), fun x => ?_, by omega, by exact_mod_cast h2, fun x hx => ?_⟩
  · show ((s : Rat) * rg r x).num.natAbs ≤ M
    by_cases hx : x < w
    · obtain ⟨z, e, hz⟩ := key x hx
      rw [e]
      exact Nat.le_trans hz h1
    · have : rg r x = 0 := by simp [rg, List.getD, List.getElem?_eq_none (show r.length ≤ x by omega)]
      rw [this, Rat.mul_zero]
      exact Nat.zero_le _
  · obtain ⟨z, e, hz⟩ := key x hx
    show ((s : Int) : Rat) * rg r x = ((((s : Rat) * rg r x).num : Int) : Rat)
    rw [Rat.intCast_natCast, e]
    rfl
def insideB (R : List Fm) (xs : List Rat) : Bool := R.all fun f => decide (0 ≤ dotF f.2 f.1 xs)
theorem ev_keeps_loop {pl : IRow} {c0 : Option D} {n B C : Nat} (hp : pl.length = n) (hpb : Bd C pl) (hn : n ≤ 800) (hB : B + C ≤ 1000000) (hB0 : 0 < B) (hC0 : 0 < C) : ∀ (rows : List IRow) (c2 : Option D), (∀ r ∈ rows, r.length = n ∧ Bd B r) → ∃ c2',
    forL (tgN 2) lb__keeps_0 (rows.map rP) [c0, some (.p (rP pl)), c2, none, none] μ = if rows.all (fun r => decide (¬ (List.zipWith (· * ·) r pl).sum < 0)) = true then some (.nx, [c0, some (.p (rP pl)), c2', none, none], μ) else some (.ret (.p (.bl false)), [c0, some (.p (rP pl)), c2', none, none], μ)
  | [], c2, _ => ⟨c2, rfl⟩
  | r :: rows, c2, h => by
    obtain ⟨hr, hb⟩ := h r List.mem_cons_self
    have lc := lc_map (δ := [c0, some (.p (rP pl)), some (.p (rP r)), none, none]) (μ := μ) (ν := μ) (it := evZip (evCons (evV 2) (evCons (evV 1) evNil))) (ts := tgT [3, 4]) (e := evBin fMul (evV 3) (evV 4)) (vs := [3, 4]) (as := r.zip pl) (fun ab => P.tup [.int ab.1, .int ab.2]) (fun ab => .int (ab.1 * ab.2)) (by
      rw [zip_p (as := r.map .int) (bs := pl.map .int) rfl rfl, zipP_map2]) (fun ab hab => ⟨_, rfl, fun κ => by
      have ha := List.of_mem_zip hab
      have mk : mulOk ab.1 ab.2 = true := mulOk_of (bd_mem hb ha.1) (bd_mem hpb ha.2) hB0 hC0 hB
      show evBin fMul (evV 3) (evV 4) [c0, some (.p (rP pl)), some (.p (rP r)), some (.p (.int ab.1)), some (.p (.int ab.2))] κ = _
      rw [evBin_eq, evV_3, bindG_ok, evV_4, bindG_ok, mul_int mk, okm_some]⟩) (show (r.zip pl).length ≤ sizeLine by rw [List.length_zip]; exact Nat.le_of_lt (line_k (by omega)))
    have hz : (List.map (fun ab : Int × Int => P.int (ab.1 * ab.2)) (r.zip pl)) = (List.zipWith (· * ·) r pl).map P.int := by
      rw [List.map_zipWith, List.zip, List.map_zipWith]
    rw [hz] at lc
    have sm := fSum_p (μ := μ) (ns := List.zipWith (· * ·) r pl)
    generalize hS : (List.zipWith (· * ·) r pl).sum = S at *
    have body : lb__keeps_0 [c0, some (.p (rP pl)), some (.p (rP r)), none, none] μ = if S < 0 then some (.ret (.p (.bl false)), [c0, some (.p (rP pl)), some (.p (rP r)), none, none], μ) else some (.nx, [c0, some (.p (rP pl)), some (.p (rP r)), none, none], μ) := by
      unfold lb__keeps_0
      rw [sIf_eq, evB_eq', evBin_eq, evBI_eq, evCons_eq, lc, bindG_ok, evNil_eq, bindG_ok, bindG_ok, sm, okm_some, bindG_ok, evC_eq, bindG_ok, lt_int, okm_some, bindG_ok, toB_bl, bindS_ok]
      by_cases q : S < 0
      · rw [if_pos (decide_eq_true q), if_pos q, sRet_eq, evC_eq, bindS_ok]
      · rw [if_neg (by simpa using q), if_neg q, sNil_eq]
    rw [List.map_cons, List.all_cons, hS]
    by_cases q : S < 0
    · refine ⟨some (.p (rP r)), ?_⟩
      rw [if_pos q] at body
      rw [forL_ret rfl body, if_neg (by simp [q])]
    · rw [if_neg q] at body
      obtain ⟨c2', ih⟩ := ev_keeps_loop (c0 := c0) hp hpb hn hB hB0 hC0 rows (some (.p (rP r))) fun x hx => h x (List.mem_cons_of_mem _ hx)
      refine ⟨c2', ?_⟩
      rw [forL_nx rfl body, ih]
      simp [q]
theorem ev_keeps {rows : List IRow} {pl : IRow} {n B C : Nat} (hp : pl.length = n) (hpb : Bd C pl) (hn : n ≤ 800) (hB : B + C ≤ 1000000) (hB0 : 0 < B) (hC0 : 0 < C) (h : ∀ r ∈ rows, r.length = n ∧ Bd B r) :
    m__keeps [.p (rsP rows), .p (rP pl)] μ = some (.ok (.p (.bl (rows.all fun r => decide (¬ (List.zipWith (· * ·) r pl).sum < 0)))), μ) := by
  obtain ⟨c2', e⟩ := ev_keeps_loop (μ := μ) (c0 := some (.p (rsP rows))) hp hpb hn hB hB0 hC0 rows none h
  unfold m__keeps
  rw [arF2]
  unfold sv__keeps
  simp only [List.replicate, List.cons_append, List.nil_append]
  unfold lb__keeps_0 at e
  rw [seqS_eq, sFor_eq, show evIt (evV 0) [some (D.p (rsP rows)), some (.p (rP pl)), none, none, none] μ = some (.ok (rows.map rP), μ) from rfl, bindS_ok, e]
  cases rows.all fun r => decide (¬ (List.zipWith (· * ·) r pl).sum < 0) with
  | true => simp
  | false => simp
end
end Vs
namespace Vs
open PySem PySem.Spec PyProof.Rows L2
open Bar (gt cz Sol Bd rg gsol RowIn ESol SR QRow)
section
variable {μ : Mu} {δ : Sl}
/-- the point of a place -/
def ptOf (pl : IRow) (n : Nat) : List Rat := (List.range n).map fun i => (gt pl i : Rat) / (gt pl n : Rat)
theorem pl_split {pl : IRow} {n : Nat} (h : pl.length = n + 1) : pl = pl.take n ++ [gt pl n] := by
  have e := List.take_append_drop n pl
  have d : pl.drop n = [gt pl n] := by
    rw [List.drop_eq_getElem_cons (by omega), Bar.gt_lt (by omega), List.drop_eq_nil_of_le (by omega)]
  rw [d] at e
  exact e.symm
theorem ptOf_eq {pl : IRow} {n : Nat} (h : pl.length = n + 1) : ptOf pl n = (pl.take n).map fun x => Rat.divInt x (gt pl n) := by
  unfold ptOf
  apply List.ext_getElem
  · simp; omega
  · intro i h1 h2
    simp at h1
    simp only [List.getElem_map, List.getElem_range, List.getElem_take]
    rw [Rat.divInt_eq_div, Bar.gt_lt (by omega)]
theorem ev_point_of {pl : IRow} {n C : Nat} (h : pl.length = n + 1) (hb : Bd C pl) (h0 : gt pl n ≠ 0) (hC : C ≤ 9000) (hC0 : 0 < C) (hn : n ≤ 700) :
    m__point_of [.p (rP pl)] μ = some (.ok (.loc μ.length), μ ++ [some (.lst ((ptOf pl n).map rat))]) := by
  have hs := pl_split h
  have hP : rP pl = .lst ((pl.take n).map .int ++ [.int (gt pl n)]) := by
    unfold rP
    conv => lhs; rw [hs]
    rw [List.map_append]; rfl
  have itx : evIt (evSl (evV 0) evNoP (evPt (evUn fNeg (evC (.int 1))))) [some (D.p (rP pl)), none] μ = some (.ok ((pl.take n).map .int), μ) := by
    unfold evIt
    rw [hP, evSl_eq, evV_0, bindG_ok, evNoP_eq, bindG_ok, evPt_eq, evUn_eq, evC_eq, bindG_ok, fNeg_int, okm_some, bindG_ok, ptEnd_int, bindG_ok, lstOf_lst, slEnd_some, bindG_ok, cut_last]
    rfl
  have lc := lcC_map (δ := [some (.p (rP pl)), none]) (μ := μ) (ν := μ) (ts := tgN 1) (e := evMake 0 2 m_Ratiou_initu [] (evCons (evV 1) (evCons (evBin fIx (evV 0) (evUn fNeg (evC (.int 1)))) evNil))) (vs := [1]) (as := pl.take n) .int (fun x => rat (Rat.divInt x (gt pl n))) itx (fun x hx => ⟨_, rfl, fun ξ => by
    have ix : fIx (.p (rP pl)) (.p (.int (-1))) ξ = some (.p (.int (gt pl n)), ξ) := by
      rw [hP, fIx_lstp, at_last]; rfl
    have mk := ev_mk' (n := x) (d := gt pl n) (μ := ξ) h0 (hb n) hC hC0
    show evMake 0 2 m_Ratiou_initu [] (evCons (evV 1) (evCons (evBin fIx (evV 0) (evUn fNeg (evC (.int 1)))) evNil)) [some (.p (rP pl)), some (.p (.int x))] ξ = _
    rw [evMake_eq, evCons_eq, evV_1, bindG_ok, evCons_eq, evBin_eq, evV_0, bindG_ok, evUn_eq, evC_eq, bindG_ok, fNeg_int, okm_some, bindG_ok, ix, okm_some, bindG_ok, evNil_eq, bindG_ok, bindG_ok, bindG_ok, List.map_nil, List.append_nil]
    exact mk⟩) (Nat.le_of_lt (line_k (by rw [List.length_take]; omega)))
  unfold m__point_of arF
  rw [if_pos (show [D.p (rP pl)].length = 1 from rfl), bodySemC_eq]
  unfold sv__point_of
  rw [show [D.p (rP pl)].map some ++ List.replicate (2 - [D.p (rP pl)].length) (none : Option D) = [some (.p (rP pl)), none] from rfl, sRet_eq, lc, bindS_ok]
  unfold retC
  dsimp only
  unfold retLC
  rw [if_neg (by omega), cellL_end rfl]
  dsimp only
  rw [List.take_left, ptOf_eq h, List.map_map]
  rfl
def zers (rows : List (List Rat)) (cs : List Rat) : List IRow := (rows.zip cs).map fun rc => whole (rc.1 ++ [-rc.2])
theorem SR_int {n : Nat} {qs : List Rat} (h : qs.length = n + 1) (x : Nat → Rat) : Bar.ev n (whole qs) x = (sc qs : Rat) * (SR n (fun j => rg qs j * x j) + rg qs n) := by
  unfold Bar.ev
  rw [whole_gt (by omega), ← show qs.getD n 0 = rg qs n from rfl]
  have : SR n (fun j => (gt (whole qs) j : Rat) * x j) = (sc qs : Rat) * SR n (fun j => rg qs j * x j) := by
    rw [← Bar.SR_mul]
    exact Bar.SR_congr fun j hj => by rw [whole_gt (by omega), ← show qs.getD j 0 = rg qs j from rfl]; grind
  rw [this]; grind
theorem sc_ne (qs : List Rat) : (sc qs : Rat) ≠ 0 := fun q => by
  have h1 := sc_pos qs
  have h2 : sc qs = 0 := by exact_mod_cast q
  omega
theorem rg_app1 {r : List Rat} {c : Rat} {j : Nat} (h : j < r.length) : rg (r ++ [c]) j = rg r j := Bar.getD_app1 h
theorem rg_app2 {r : List Rat} {c : Rat} : rg (r ++ [c]) r.length = c := Bar.getD_app2
theorem zers_sol {rows : List (List Rat)} {cs : List Rat} {n : Nat} (hn : ∀ r ∈ rows, r.length = n) (hcs : cs.length = rows.length) (x : Nat → Rat) : Sol n (zers rows cs) x ↔ ESol n (augR rows cs) x := by
  have key : ∀ k, k < rows.length → (Bar.ev n (whole (rows.getD k [] ++ [-(cs.getD k 0)])) x = 0 ↔ SR n (fun j => rg (rows.getD k [] ++ [cs.getD k 0]) j * x j) = rg (rows.getD k [] ++ [cs.getD k 0]) n) := fun k hk => by
    have lk : (rows.getD k []).length = n := hn _ (getD_mem hk)
    rw [SR_int (by rw [List.length_append, lk]; rfl)]
    have e1 : SR n (fun j => rg (rows.getD k [] ++ [-(cs.getD k 0)]) j * x j) = SR n (fun j => rg (rows.getD k [] ++ [cs.getD k 0]) j * x j) := Bar.SR_congr fun j hj => by rw [rg_app1 (by omega), rg_app1 (by omega)]
    have e2 : rg (rows.getD k [] ++ [-(cs.getD k 0)]) n = -(cs.getD k 0) := by rw [← lk]; exact rg_app2
    have e3 : rg (rows.getD k [] ++ [cs.getD k 0]) n = cs.getD k 0 := by rw [← lk]; exact rg_app2
    rw [e1, e2, e3]
    constructor
    · intro h
      rcases Rat.mul_eq_zero.mp h with q | q
      · exact absurd q (sc_ne _)
      · grind
    · intro h; rw [h]; grind
  have zat : ∀ k, k < rows.length → (zers rows cs)[k]? = some (whole (rows.getD k [] ++ [-(cs.getD k 0)])) := fun k hk => by
    unfold zers
    have hz : (rows.zip cs)[k]? = some (rows.getD k [], cs.getD k 0) := List.getElem?_zip_eq_some.mpr ⟨by rw [List.getD_eq_getElem?_getD, List.getElem?_eq_getElem hk]; rfl, by
      show cs[k]? = some (cs.getD k 0)
      rw [List.getD_eq_getElem?_getD, List.getElem?_eq_getElem (show k < cs.length by omega)]; rfl⟩
    rw [List.getElem?_map, hz]
    rfl
  constructor
  · intro h r hr
    obtain ⟨k, hk, rfl⟩ := List.mem_map.mp hr
    have hk := List.mem_range.mp hk
    exact (key k hk).mp (h _ (List.mem_of_getElem? (zat k hk)))
  · intro h r hr
    obtain ⟨k, hk⟩ := List.mem_iff_getElem?.mp hr
    have kl : k < rows.length := by
      have := (List.getElem?_eq_some_iff.mp hk).1
      unfold zers at this
      simp at this; omega
    rw [zat k kl] at hk
    cases hk
    exact (key k kl).mpr (h _ (List.mem_map.mpr ⟨k, List.mem_range.mpr kl, rfl⟩))
theorem rg_ptOf {pl : IRow} {n i : Nat} (h : i < n) : rg (ptOf pl n) i = (gt pl i : Rat) / (gt pl n : Rat) := by
  unfold ptOf
  rw [Bar.rg_lt (by simp; exact h)]
  simp
/-- both ways find the same point -/
theorem cz_gsol {rows : List IRow} {eqs : List (List Rat)} {n M S : Nat} (hl : ∀ r ∈ rows, r.length = n + 1) (hM : 1 ≤ M) (hr : ∀ r ∈ eqs, RowIn (n + 1) M S r) (hs : ∀ x, Sol n rows x ↔ ESol n eqs x) : (cz rows n).map (fun pl => ptOf pl n) = gsol n eqs := by
  refine Bar.sol_same (n := n) hs (fun p e => ?_) (fun e x hx => ?_) (fun p e => Bar.gsol_some hM hr e) (fun e x hx => Bar.gsol_none hM hr e hx)
  · obtain ⟨pl, h1, rfl⟩ := Option.map_eq_some_iff.mp e
    obtain ⟨a, b, c⟩ := Bar.cz_some hl h1
    refine ⟨by simp [ptOf], fun x => ?_⟩
    rw [c x]
    exact ⟨fun h i hi => by rw [h i hi, rg_ptOf hi], fun h i hi => by rw [h i hi, rg_ptOf hi]⟩
  · exact Bar.cz_none hl (Option.map_eq_none_iff.mp e) hx
end
end Vs
namespace Vs
open PySem PySem.Spec PyProof.Rows L2
open Bar (gt cz Sol Bd rg gsol RowIn ESol SR QRow)
section
variable {μ : Mu} {δ : Sl}
theorem lcdL {A : Type} {B : A → Prop} (f : A → P) {ts : Tgt} {e : Ev} (Cond : Sl → Prop) (step : ∀ s : SS, s.Ok → ∃ a s', SS.Ok s' ∧ B a ∧ ∀ (δ1 : Sl) (r : Mu), Cond δ1 → e δ1 (st s :: r) = some (.ok (.p (f a)), st s' :: r)) :
    ∀ (k : Nat) (s : SS), s.Ok → ∃ (as : List A) (s' : SS), SS.Ok s' ∧ (∀ a ∈ as, B a) ∧ as.length = k ∧ ∀ (δ0 : Sl) (xs : List P) (r : Mu) (acc : List P), xs.length = k → (∀ x ∈ xs, ∃ δ1, ts x δ0 = some δ1 ∧ Cond δ1) → acc.length + k ≤ 900 →
      lcL ts evTrue e δ0 (r.length + 1) xs (st s :: (r ++ [some (.lst acc)])) = some (st s' :: (r ++ [some (.lst (acc ++ as.map f))]))
  | 0, s, hs => ⟨[], s, hs, (by intro a h; cases h), rfl, fun δ0 xs r acc hx _ _ => by
      have : xs = [] := List.length_eq_zero_iff.mp hx
      subst this
      simp [lcL]⟩
  | k + 1, s, hs => by
    obtain ⟨a, s1, o1, b1, h1⟩ := step s hs
    obtain ⟨as, s', o', b', l', ih⟩ := lcdL f Cond step k s1 o1
    refine ⟨a :: as, s', o', ?_, by simp [l'], fun δ0 xs r acc hx ht ha => ?_⟩
    · intro y hy
      rcases List.mem_cons.mp hy with rfl | hy
      · exact b1
      · exact b' y hy
    · cases xs with
      | nil => simp at hx
      | cons x xs =>
        obtain ⟨δ1, t1, c1⟩ := ht x List.mem_cons_self
        have hl' : acc.length < sizeLine := line_k (by omega)
        have e1 := h1 δ1 (r ++ [some (.lst acc)]) c1
        have hc : cellL (st s1 :: (r ++ [some (.lst acc)])) (r.length + 1) = some acc := by
          unfold cellL
          simp
        have hset : (st s1 :: (r ++ [some (MO.lst acc)])).set (r.length + 1) (some (.lst (acc ++ [f a]))) = st s1 :: (r ++ [some (.lst (acc ++ [f a]))]) := by
          rw [List.set_cons_succ, set_end rfl]
        unfold lcL
        rw [t1]
        dsimp only
        rw [evTrue_eq]
        dsimp only
        rw [e1]
        dsimp only
        rw [toP_p]
        dsimp only
        rw [hc]
        dsimp only
        rw [if_pos hl', hset, ih δ0 xs r (acc ++ [f a]) (by simpa using hx) (fun y hy => ht y (List.mem_cons_of_mem _ hy)) (by simp; omega), List.append_assoc]
        rfl
theorem lcd {A : Type} {B : A → Prop} (f : A → P) {ts : Tgt} {e : Ev} {vs : List Nat} (Cond : Sl → Prop) (step : ∀ s : SS, s.Ok → ∃ a s', SS.Ok s' ∧ B a ∧ ∀ (δ1 : Sl) (r : Mu), Cond δ1 → e δ1 (st s :: r) = some (.ok (.p (f a)), st s' :: r)) (k : Nat) (hk : k ≤ 800) {s : SS} (hs : s.Ok) :
    ∃ (as : List A) (s' : SS), SS.Ok s' ∧ (∀ a ∈ as, B a) ∧ as.length = k ∧ ∀ (δ : Sl) (it : EvG (List P)) (xs : List P) (r : Mu), it δ (st s :: r) = some (.ok xs, st s :: r) → xs.length = k → (∀ x ∈ xs, ∃ δ1, ts x (wipeS δ vs) = some δ1 ∧ Cond δ1) →
      evLc it ts evTrue e vs δ (st s :: r) = some (.ok (.p (.lst (as.map f))), st s' :: r) ∧ evLcC it ts evTrue e vs δ (st s :: r) = some (.ok (.loc (r.length + 1)), st s' :: (r ++ [some (.lst (as.map f))])) := by
  obtain ⟨as, s', o', b', l', h⟩ := lcdL f (ts := ts) Cond step k s hs
  refine ⟨as, s', o', b', l', fun δ it xs r hi hx ht => ?_⟩
  have h := h (wipeS δ vs) xs r [] hx ht (by simp; omega)
  have hc : cellL (st s' :: (r ++ [some (.lst (as.map f))])) (r.length + 1) = some (as.map f) := by
    unfold cellL; simp
  rw [List.nil_append] at h
  constructor
  · rw [evLc_eq, hi, bindG_ok]
    rw [show (st s :: r).length = r.length + 1 from rfl, show (st s :: r) ++ [some (MO.lst [])] = st s :: (r ++ [some (MO.lst [])]) from rfl, h]
    unfold lcEnd
    dsimp only
    rw [hc]
    dsimp only
    rw [List.take_succ_cons, List.take_left]
  · show bindG (it δ (st s :: r)) (fun xs μ1 => lcEndC μ1.length (lcL ts evTrue e (wipeS δ vs) μ1.length xs (μ1 ++ [some (.lst [])]))) = _
    rw [hi, bindG_ok]
    rw [show (st s :: r).length = r.length + 1 from rfl, show (st s :: r) ++ [some (MO.lst [])] = st s :: (r ++ [some (MO.lst [])]) from rfl, h]
    unfold lcEndC
    dsimp only
    rw [hc]
    dsimp only
    rw [List.take_of_length_le (by simp)]
theorem tq_int {s A : Nat} {k : Int} (hs : 0 < s) (h : k.natAbs ≤ A) : Tq s A (k : Rat) := ⟨hs, s * k, by rw [Rat.intCast_mul, Rat.intCast_natCast], by rw [Int.natAbs_mul, Int.natAbs_natCast]; exact Nat.mul_le_mul_left _ h⟩
theorem tq_div {s A : Nat} {x y : Int} (hs : 0 < s) (hy : 0 < y) (hd : y ∣ (s : Int)) (hx : x.natAbs ≤ A) : Tq s A (Rat.divInt x y) := by
  obtain ⟨k, hk⟩ := hd
  have hy' : (y : Rat) ≠ 0 := fun q => by have : y = 0 := by exact_mod_cast q
                                          omega
  refine ⟨hs, x * k, ?_, ?_⟩
  · rw [Rat.divInt_eq_div, Rat.intCast_mul, ← Rat.intCast_natCast, hk, Rat.intCast_mul]; grind
  · rw [Int.natAbs_mul]
    have h1 : k.natAbs ≤ s := by
      have : (s : Int).natAbs = y.natAbs * k.natAbs := by rw [hk, Int.natAbs_mul]
      rw [Int.natAbs_natCast] at this
      rw [this]
      exact Nat.le_mul_of_pos_left _ (by omega)
    rw [Nat.mul_comm]
    exact Nat.mul_le_mul h1 hx
theorem num0 {s : SS} (hs : s.Ok) : ∃ q s', SS.Ok s' ∧ Tq 60 9 q ∧ ∀ r : Mu, m__law_rnumber [.loc 0] (st s :: r) = some (.ok (.p (pr q)), st s' :: r) := by
  obtain ⟨v, s1, o1, l1, u1, e1⟩ := draw0 2 hs
  by_cases h : v = 0
  · subst h
    obtain ⟨x, s2, o2, l2, u2, e2⟩ := draw0 9 o1
    have ex : P.tup [.int (x - 4), .int 1] = pr ((x - 4 : Int) : Rat) := rfl
    refine ⟨((x - 4 : Int) : Rat), s2, o2, tq_int (by decide) (by omega), fun r => ?_⟩
    generalize ((x - 4 : Int) : Rat) = z at *
    simp [m__law_rnumber, arF, bodySem_eq, sv__law_rnumber, e1, e2, ex]
  · obtain ⟨x, s2, o2, l2, u2, e2⟩ := draw0 19 o1
    obtain ⟨y, s3, o3, l3, u3, e3⟩ := draw0 6 o2
    have h0 : 1 + y ≠ 0 := by omega
    have zy : Sz 3 (1 + y) := sz_lt 6 (by omega)
    have dv : (1 + y) ∣ ((60 : Nat) : Int) := by
      have : y = 0 ∨ y = 1 ∨ y = 2 ∨ y = 3 ∨ y = 4 ∨ y = 5 := by omega
      rcases this with rfl | rfl | rfl | rfl | rfl | rfl <;> decide
    refine ⟨Rat.divInt (x - 9) (1 + y), s3, o3, tq_div (by decide) (by omega) dv (by omega), fun r => ?_⟩
    have e5 := fun ν : Mu => ev_q (n := x - 9) (μ := ν) h0 (zy.mono (by decide))
    generalize Rat.divInt (x - 9) (1 + y) = z at *
    simp [m__law_rnumber, arF, bodySem_eq, sv__law_rnumber, e1, e2, e3, e5, h]
/-- a sum with a pair that need not be in lowest terms -/
theorem ev_rawadd {a : Rat} {n : Nat} {x d : Int} (ha : Qz n a) (hx : Sz 20 x) (hd : 0 < d) (hd2 : Sz 20 d) (h : n + 20 ≤ 2000) : m__law_add [.p (pr a), .p (.tup [.int x, .int d])] μ = some (.ok (.p (pr (a + Rat.divInt x d))), μ) := by
  have e := ev_q (n := a.num * d + x * (a.den : Int)) (d := (a.den : Int) * d) (μ := μ) (mul_ne (den_ne a) (by omega)) ((ha.2.2.mul hd2).mono (by omega))
  have q : Rat.divInt (a.num * d + x * (a.den : Int)) ((a.den : Int) * d) = a + Rat.divInt x d := by
    rw [← Rat.divInt_add_divInt _ _ (den_ne a) (by omega), Rat.num_divInt_den]
  rw [q] at e
  have m1 : mulOk a.num d = true := mulOk_of ha.2.1 hd2 (by have := ha.1; omega) (by decide) (by omega)
  have m2 : mulOk x (a.den : Int) = true := mulOk_of hx ha.2.2 (by decide) (by have := ha.1; omega) (by omega)
  have m3 : mulOk (a.den : Int) d = true := mulOk_of ha.2.2 hd2 (by have := ha.1; omega) (by decide) (by omega)
  unfold pr at e ⊢
  simp [m__law_add, arF, bodySem_eq, sv__law_add, m1, m2, m3, e]
def ut (n k : Nat) (sg : Int) : List Rat := (List.range n).map fun j => ((if j = k then sg else 0 : Int) : Rat)
theorem ev_unit {n k : Nat} {sg : Int} (hn : n ≤ 3) (hk : k ≤ 3) (hs : sg = 1 ∨ sg = -1) : m__law_unit [.p (.int (n : Int)), .p (.int (k : Int)), .p (.int sg)] μ = some (.ok (.p (.tup ((ut n k sg).map pr))), μ) := by
  have lc := lc_map (δ := [some (.p (.int (n : Int))), some (.p (.int (k : Int))), some (.p (.int sg)), none]) (μ := μ) (ν := μ) (it := evRng1 (evV 0)) (ts := tgN 3) (e := evTup (evCons (evBin fMul (evV 2) (evBI fInt (evCons (evBin fEq (evV 3) (evV 1)) evNil))) (evCons (evC (.int 1)) evNil))) (vs := [3]) (as := List.range n) (fun j => P.int (j : Int)) (fun j => pr ((if j = k then sg else 0 : Int) : Rat)) (by rw [rng_n n evV_0 (by omega), intsP_map]) (fun j hj => ⟨_, rfl, fun κ => by
    have hj := List.mem_range.mp hj
    show evTup (evCons (evBin fMul (evV 2) (evBI fInt (evCons (evBin fEq (evV 3) (evV 1)) evNil))) (evCons (evC (.int 1)) evNil)) [some (.p (.int (n : Int))), some (.p (.int (k : Int))), some (.p (.int sg)), some (.p (.int (j : Int)))] κ = _
    have mk : ∀ b : Int, b = 0 ∨ b = 1 → mulOk sg b = true := fun b hb => by rcases hs with rfl | rfl <;> rcases hb with rfl | rfl <;> decide
    by_cases q : j = k
    · have q' : (j : Int) = (k : Int) := by omega
      rw [if_pos q, pr_int]
      simp [q', mk 1 (.inr rfl)]
    · have q' : ¬ ((j : Int) = (k : Int)) := by omega
      rw [if_neg q, pr_int]
      simp [q', mk 0 (.inl rfl)]⟩) (show (List.range n).length ≤ sizeLine by rw [List.length_range]; exact Nat.le_of_lt (line_k (by omega)))
  have ft : ∀ xs : List P, fTupOf [.p (.lst xs)] μ = some (.p (.tup xs), μ) := fun xs => rfl
  unfold m__law_unit
  rw [arF3]
  unfold sv__law_unit
  simp only [List.replicate, List.cons_append, List.nil_append]
  rw [sRet_eq, evBI_eq, evCons_eq, lc, bindG_ok, evNil_eq, bindG_ok, bindG_ok, ft, okm_some, bindS_ok, retF_p, List.take_length]
  unfold ut
  rw [List.map_map]
  rfl
theorem ut_tq {n k : Nat} {sg : Int} (hs : sg = 1 ∨ sg = -1) : ∀ q ∈ ut n k sg, Tq 60 1 q := fun q hq => by
  obtain ⟨j, _, rfl⟩ := List.mem_map.mp hq
  refine tq_int (by decide) ?_
  split
  · rcases hs with rfl | rfl <;> decide
  · decide
theorem ut_int {n k : Nat} {sg : Int} : ∀ q ∈ ut n k sg, ∃ z : Int, (z : Rat) = q := fun q hq => by
  obtain ⟨j, _, rfl⟩ := List.mem_map.mp hq
  exact ⟨_, rfl⟩
theorem ut_len {n k : Nat} {sg : Int} : (ut n k sg).length = n := by simp [ut]
structure FmT (n : Nat) (f : Fm) : Prop where
  len : f.1.length = n
  co : ∀ q ∈ f.1, Tq 60 2 q
  c : Tq 60 15 f.2
  ci : ∀ q ∈ f.1, ∃ z : Int, (z : Rat) = q
theorem FmT.all {n : Nat} {f : Fm} (h : FmT n f) : ∀ q ∈ fmL f, Tq 60 15 q := fun q hq => by
  rcases List.mem_append.mp hq with h' | h'
  · exact (h.co q h').mono (by decide)
  · simp at h'; subst h'; exact h.c
theorem pr_neg (q : Rat) : P.tup [.int (-q.num), .int (q.den : Int)] = pr (-q) := by
  rfl
def bdR (a m n : Nat) (R : List Fm) : Prop := ∀ k, a ≤ k → k < a + m → ∃ lo hi : Rat, (ut n k 1, -lo) ∈ R ∧ (ut n k (-1), hi) ∈ R
theorem ap0 {acc : List P} {y : P} {s : SS} {r : Mu} (h : acc.length ≤ 900) : fApp (.loc (r.length + 1)) [.p y] (st s :: (r ++ [some (.lst acc)])) = some (.p .non, st s :: (r ++ [some (.lst (acc ++ [y]))])) := by
  have := ap1 (μ := st s :: r) (acc := acc) (y := y) (line_k (by omega))
  exact this
theorem is0 {acc : List P} {s : SS} {r : Mu} : isLst (st s :: (r ++ [some (.lst acc)])) (.loc (r.length + 1)) = true := is1 (μ := st s :: r)
theorem tup2 {x y : P} : tupEnd (some ([x, y], μ)) = some (.ok (.p (.tup [x, y])), μ) := by
  rw [tupEnd_some, if_pos (show [x, y].length ≤ sizeLine from line_2)]
theorem reg_sum {s1 s2 s3 s4 : SS} {x y z b : Int} {c0 c1 c2 c3 c4 c5 : Option D} (e2 : ∀ r : Mu, m__law_draw [.loc 0, .p (.int 6)] (st s1 :: r) = some (.ok (.p (.int x)), st s2 :: r)) (e3 : ∀ r : Mu, m__law_draw [.loc 0, .p (.int 12)] (st s2 :: r) = some (.ok (.p (.int y)), st s3 :: r)) (e4 : ∀ r : Mu, m__law_draw [.loc 0, .p (.int 2)] (st s3 :: r) = some (.ok (.p (.int z)), st s4 :: r)) (hb : b = (if y = 0 then 1 else 0)) (ν : Mu) :
    evTup (evCons (evBin fSub (evCall m__law_draw [] (evCons (evV 0) (evCons (evC (.int 6)) evNil))) (evBI fInt (evCons (evBin fEq (evCall m__law_draw [] (evCons (evV 0) (evCons (evC (.int 12)) evNil))) (evC (.int 0))) evNil))) (evCons (evBin fAdd (evC (.int 1)) (evCall m__law_draw [] (evCons (evV 0) (evCons (evC (.int 2)) evNil)))) evNil)) [some (.loc 0), c0, c1, c2, c3, c4, c5] (st s1 :: ν) = some (.ok (.p (.tup [.int (x - b), .int (1 + z)])), st s4 :: ν) := by
  have fi : ∀ κ : Mu, fInt [.p (.bl (decide (y = 0)))] κ = some (.p (.int b), κ) := fun κ => by rw [fInt_bl, hb]; simp
  have sb : ∀ κ : Mu, fSub (.p (.int x)) (.p (.int b)) κ = some (.p (.int (x - b)), κ) := fun κ => by simp
  have ad : ∀ κ : Mu, fAdd (.p (.int 1)) (.p (.int z)) κ = some (.p (.int (1 + z)), κ) := fun κ => by simp
  simp only [evCall_eq, evCons_eq, evNil_eq, evBin_eq, evUn_eq, evC_eq, evV_0, evV_1, evV_2, evV_3, evV_4, evV_5, evV_6, evV_7, evV_8, evV_9, evV_10, evB_eq', evBI_eq, bindG_ok, bindS_ok, okm_some, toB_bl, andThen_nx, andThen_ret, seqS_eq, sSet_eq, sIf_eq, sRet_eq, sExpr_eq, sNil_eq, List.set_cons_succ, List.set_cons_zero, List.map_nil, List.append_nil, List.cons_append, List.nil_append, retF_p, List.take_length, List.replicate, if_true, evTup_eq, e2, e3, e4, eq_int, fi, sb, ad, toPs_cons, toPs_nil, consP_some, tup2]
theorem reg_body {n a : Nat} (hn : n ≤ 3) (ha : a ≤ 3) {lo hi : Rat} {s s1 s2 s3 s4 : SS} {x y z b : Int} {r : Mu} {acc : List P} {c4 c5 c6 : Option D} (e1 : ∀ r : Mu, m__law_rnumber [.loc 0] (st s :: r) = some (.ok (.p (pr lo)), st s1 :: r)) (e2 : ∀ r : Mu, m__law_draw [.loc 0, .p (.int 6)] (st s1 :: r) = some (.ok (.p (.int x)), st s2 :: r)) (e3 : ∀ r : Mu, m__law_draw [.loc 0, .p (.int 12)] (st s2 :: r) = some (.ok (.p (.int y)), st s3 :: r)) (e4 : ∀ r : Mu, m__law_draw [.loc 0, .p (.int 2)] (st s3 :: r) = some (.ok (.p (.int z)), st s4 :: r)) (hb : b = (if y = 0 then 1 else 0))
    (ad : ∀ ν : Mu, m__law_add [.p (pr lo), .p (.tup [.int (x - b), .int (1 + z)])] ν = some (.ok (.p (pr hi)), ν)) (hacc : acc.length ≤ 800) :
    lb__law_region_0 [some (.loc 0), some (.p (.int (n : Int))), some (.loc (r.length + 1)), some (.p (.int (a : Int))), c4, c5, c6] (st s :: (r ++ [some (.lst acc)])) = some (.nx, [some (.loc 0), some (.p (.int (n : Int))), some (.loc (r.length + 1)), some (.p (.int (a : Int))), some (.p (pr lo)), some (.p (pr hi)), c6], st s4 :: (r ++ [some (.lst (acc ++ [fmQ (ut n a 1, -lo)] ++ [fmQ (ut n a (-1), hi)]))])) := by
  have u1 := fun ν : Mu => ev_unit (μ := ν) (n := n) (k := a) hn ha (.inl rfl)
  have u2 := fun ν : Mu => ev_unit (μ := ν) (n := n) (k := a) hn ha (.inr rfl)
  have i0 := fun ν : Mu => ix_pr0 (μ := ν) (a := lo)
  have i1 := fun ν : Mu => ix_pr1 (μ := ν) (a := lo)
  have p1 := ap0 (s := s4) (r := r) (acc := acc) (y := fmQ (ut n a 1, -lo)) (by omega)
  have p2 := ap0 (s := s4) (r := r) (acc := acc ++ [fmQ (ut n a 1, -lo)]) (y := fmQ (ut n a (-1), hi)) (by rw [List.length_append]; show acc.length + 1 ≤ 900; omega)
  have t1' : ∀ ν : Mu, evTup (evCons (evCall m__law_unit [] (evCons (evV 1) (evCons (evV 3) (evCons (evC (.int 1)) evNil)))) (evCons (evTup (evCons (evUn fNeg (evBin fIx (evV 4) (evC (.int 0)))) (evCons (evBin fIx (evV 4) (evC (.int 1))) evNil))) evNil)) [some (.loc 0), some (.p (.int (n : Int))), some (.loc (r.length + 1)), some (.p (.int (a : Int))), some (.p (pr lo)), some (.p (pr hi)), c6] ν = some (.ok (.p (fmQ (ut n a 1, -lo))), ν) := fun ν => by
    unfold fmQ
    rw [← pr_neg]
    rw [evTup_eq, evCons_eq, evCall_eq, evCons_eq, evV_1, bindG_ok, evCons_eq, evV_3, bindG_ok, evCons_eq, evC_eq, bindG_ok, evNil_eq, bindG_ok, bindG_ok, bindG_ok, bindG_ok, List.map_nil, List.append_nil, u1, bindG_ok, evCons_eq, evTup_eq, evCons_eq, evUn_eq, evBin_eq, evV_4, bindG_ok, evC_eq, bindG_ok, i0, okm_some, bindG_ok, fNeg_int, okm_some, bindG_ok, evCons_eq, evBin_eq, evV_4, bindG_ok, evC_eq, bindG_ok, i1, okm_some, bindG_ok, evNil_eq, bindG_ok, bindG_ok, bindG_ok, toPs_cons, toPs_cons, toPs_nil, consP_some, consP_some, tup2, bindG_ok, evNil_eq, bindG_ok, bindG_ok, bindG_ok, toPs_cons, toPs_cons, toPs_nil, consP_some, consP_some, tup2]
  have t2' : ∀ ν : Mu, evTup (evCons (evCall m__law_unit [] (evCons (evV 1) (evCons (evV 3) (evCons (evUn fNeg (evC (.int 1))) evNil)))) (evCons (evV 5) evNil)) [some (.loc 0), some (.p (.int (n : Int))), some (.loc (r.length + 1)), some (.p (.int (a : Int))), some (.p (pr lo)), some (.p (pr hi)), c6] ν = some (.ok (.p (fmQ (ut n a (-1), hi))), ν) := fun ν => by
    unfold fmQ
    rw [evTup_eq, evCons_eq, evCall_eq, evCons_eq, evV_1, bindG_ok, evCons_eq, evV_3, bindG_ok, evCons_eq, evUn_eq, evC_eq, bindG_ok, fNeg_int, okm_some, bindG_ok, evNil_eq, bindG_ok, bindG_ok, bindG_ok, bindG_ok, List.map_nil, List.append_nil, u2, bindG_ok, evCons_eq, evV_5, bindG_ok, evNil_eq, bindG_ok, bindG_ok, bindG_ok, toPs_cons, toPs_cons, toPs_nil, consP_some, consP_some, tup2]
  unfold lb__law_region_0
  rw [seqS_eq, sSet_eq, evCall_eq, evCons_eq, evV_0, bindG_ok, evNil_eq, bindG_ok, bindG_ok, List.map_nil, List.append_nil, e1, bindS_ok, andThen_nx]
  simp only [List.set_cons_succ, List.set_cons_zero]
  rw [seqS_eq, sSet_eq, evCall_eq, evCons_eq, evV_4, bindG_ok, evCons_eq, reg_sum e2 e3 e4 hb, bindG_ok, evNil_eq, bindG_ok, bindG_ok, bindG_ok, List.map_nil, List.append_nil, ad, bindS_ok, andThen_nx]
  simp only [List.set_cons_succ, List.set_cons_zero]
  rw [seqS_eq, sExpr_eq, evBM_eq, evV_2, bindG_ok, if_pos is0, evCons_eq, t1', bindG_ok, evNil_eq, bindG_ok, bindG_ok, p1, okm_some, bindS_ok, andThen_nx]
  rw [sExpr_eq, evBM_eq, evV_2, bindG_ok, if_pos is0, evCons_eq, t2', bindG_ok, evNil_eq, bindG_ok, bindG_ok, p2, okm_some, bindS_ok]
theorem high_tq {lo : Rat} {x y z : Int} (t1 : Tq 60 9 lo) (l2 : 0 ≤ x) (u2 : x < 6) (l4 : 0 ≤ z) (u4 : z < 2) : ∃ b hi, b = (if y = 0 then 1 else 0) ∧ Tq 60 15 hi ∧ ∀ ν : Mu, m__law_add [.p (pr lo), .p (.tup [.int (x - b), .int (1 + z)])] ν = some (.ok (.p (pr hi)), ν) := by
  have hb : ∃ b : Int, (b = 0 ∨ b = 1) ∧ b = (if y = 0 then 1 else 0) := by
    by_cases q : y = 0
    · exact ⟨1, .inr rfl, by rw [if_pos q]⟩
    · exact ⟨0, .inl rfl, by rw [if_neg q]⟩
  obtain ⟨b, hb, hbi⟩ := hb
  have lq : Qz 10 lo := t1.qz (by decide) (by decide) (by decide)
  have dz : (1 + z) ∣ ((60 : Nat) : Int) := by
    have : z = 0 ∨ z = 1 := by omega
    rcases this with rfl | rfl <;> decide
  exact ⟨b, lo + Rat.divInt (x - b) (1 + z), hbi, (t1.add (tq_div (A := 6) (by decide) (by omega) dz (by omega))).mono (by decide), fun ν => ev_rawadd lq (sz_lt 10 (by omega)) (by omega) (sz_lt 10 (by omega)) (by decide)⟩
theorem reg_loop1 {n : Nat} (hn : n ≤ 3) : ∀ (m a : Nat) (s : SS), s.Ok → a + m ≤ 3 → ∃ (R : List Fm) (s' : SS), SS.Ok s' ∧ (∀ f ∈ R, FmT n f) ∧ R.length = 2 * m ∧ bdR a m n R ∧
    ∀ (r : Mu) (acc : List P) (c3 c4 c5 c6 : Option D), acc.length + 2 * m ≤ 800 → ∃ c3' c4' c5',
      forL (tgN 3) lb__law_region_0 (intsP a m) [some (.loc 0), some (.p (.int (n : Int))), some (.loc (r.length + 1)), c3, c4, c5, c6] (st s :: (r ++ [some (.lst acc)])) = some (.nx, [some (.loc 0), some (.p (.int (n : Int))), some (.loc (r.length + 1)), c3', c4', c5', c6], st s' :: (r ++ [some (.lst (acc ++ R.map fmQ))])) := by
  intro m
  induction m with
  | zero => exact fun a s hs _ => ⟨[], s, hs, (by intro f h; cases h), rfl, fun k h1 h2 => by omega, fun r acc c3 c4 c5 c6 ha => ⟨c3, c4, c5, by simp [intsP, forL]⟩⟩
  | succ m ihm =>
    intro a s hs ham
    obtain ⟨lo, s1, o1, t1, e1⟩ := num0 hs
    obtain ⟨x, s2, o2, l2, u2, e2⟩ := draw0 6 o1
    obtain ⟨y, s3, o3, l3, u3, e3⟩ := draw0 12 o2
    obtain ⟨z, s4, o4, l4, u4, e4⟩ := draw0 2 o3
    obtain ⟨b, hi, hbi, th, ad⟩ := high_tq (y := y) t1 l2 u2 l4 u4
    obtain ⟨R, s', o', F', n', bd, ih⟩ := ihm (a + 1) s4 o4 (by omega)
    refine ⟨(ut n a 1, -lo) :: (ut n a (-1), hi) :: R, s', o', ?_, by simp [n']; omega, ?_, fun r acc c3 c4 c5 c6 ha => ?_⟩
    · intro f hf
      rcases List.mem_cons.mp hf with rfl | hf
      · exact ⟨ut_len, fun q hq => (ut_tq (.inl rfl) q hq).mono (by decide), t1.neg.mono (by decide), ut_int⟩
      · rcases List.mem_cons.mp hf with rfl | hf
        · exact ⟨ut_len, fun q hq => (ut_tq (.inr rfl) q hq).mono (by decide), th, ut_int⟩
        · exact F' f hf
    · intro k h1 h2
      by_cases q : k = a
      · subst q; exact ⟨lo, hi, by simp, by simp⟩
      · obtain ⟨lo', hi', p1, p2⟩ := bd k (by omega) (by omega)
        exact ⟨lo', hi', by simp [p1], by simp [p2]⟩
    · have hacc : acc.length + 2 * (m + 1) ≤ 800 := ha
      obtain ⟨c3', c4', c5', ih⟩ := ih r (acc ++ [fmQ (ut n a 1, -lo)] ++ [fmQ (ut n a (-1), hi)]) (some (.p (.int (a : Int)))) (some (.p (pr lo))) (some (.p (pr hi))) c6 (by rw [List.length_append, List.length_append]; show acc.length + 1 + 1 + 2 * m ≤ 800; omega)
      refine ⟨c3', c4', c5', ?_⟩
      rw [intsP_succ, forL_nx rfl (reg_body hn (by omega) e1 e2 e3 e4 hbi ad (by omega)), ih]
      simp only [List.append_assoc, List.map_cons, List.cons_append, List.nil_append]
end
end Vs
namespace Vs
open PySem PySem.Spec PyProof.Rows L2
open Bar (gt cz Sol Bd rg gsol RowIn ESol SR QRow)
section
variable {μ : Mu} {δ : Sl}
theorem co_ex {n : Nat} (hn : n ≤ 3) {s : SS} (hs : s.Ok) : ∃ (co : List Int) (s' : SS), SS.Ok s' ∧ (∀ z ∈ co, z.natAbs ≤ 2) ∧ co.length = n ∧ ∀ (r : Mu) (c2 c3 c4 c5 c6 : Option D),
    evLc (evRng1 (evV 1)) (tgN 6) evTrue (evTup (evCons (evBin fSub (evCall m__law_draw [] (evCons (evV 0) (evCons (evC (.int 5)) evNil))) (evC (.int 2))) (evCons (evC (.int 1)) evNil))) [6] [some (.loc 0), some (.p (.int (n : Int))), c2, c3, c4, c5, c6] (st s :: r) = some (.ok (.p (.lst (co.map fun z : Int => pr (z : Rat)))), st s' :: r) := by
  obtain ⟨co, s', o', b', l', h⟩ := lcd (B := fun z : Int => z.natAbs ≤ 2) (fun z : Int => pr (z : Rat)) (ts := tgN 6) (vs := [6]) (e := evTup (evCons (evBin fSub (evCall m__law_draw [] (evCons (evV 0) (evCons (evC (.int 5)) evNil))) (evC (.int 2))) (evCons (evC (.int 1)) evNil))) (fun δ1 => δ1[0]? = some (some (.loc 0))) (fun s hs => by
    obtain ⟨x, s1, o1, l1, u1, e1⟩ := draw0 5 hs
    refine ⟨x - 2, s1, o1, by omega, fun δ1 r hd => ?_⟩
    have sb : ∀ κ : Mu, fSub (.p (.int x)) (.p (.int 2)) κ = some (.p (.int (x - 2)), κ) := fun κ => by simp
    rw [evTup_eq, evCons_eq, evBin_eq, evCall_eq, evCons_eq, evV_at hd, bindG_ok, evCons_eq, evC_eq, bindG_ok, evNil_eq, bindG_ok, bindG_ok, bindG_ok, List.map_nil, List.append_nil, e1, bindG_ok, evC_eq, bindG_ok, sb, okm_some, bindG_ok, evCons_eq, evC_eq, bindG_ok, evNil_eq, bindG_ok, bindG_ok, bindG_ok, toPs_cons, toPs_cons, toPs_nil, consP_some, consP_some, tup2]
    rfl) n (by omega) hs
  refine ⟨co, s', o', b', l', fun r c2 c3 c4 c5 c6 => ?_⟩
  exact (h [some (.loc 0), some (.p (.int (n : Int))), c2, c3, c4, c5, c6] (evRng1 (evV 1)) (intsP 0 n) r (rng_n n evV_1 (by omega)) (by unfold intsP; simp) (fun x hx => ⟨_, rfl, rfl⟩)).1
theorem reg_body2 {n a : Nat} {co : List Int} {c : Rat} {s s1 s2 : SS} {r : Mu} {acc : List P} {c4 c5 c6 : Option D}
    (e1 : evLc (evRng1 (evV 1)) (tgN 6) evTrue (evTup (evCons (evBin fSub (evCall m__law_draw [] (evCons (evV 0) (evCons (evC (.int 5)) evNil))) (evC (.int 2))) (evCons (evC (.int 1)) evNil))) [6] [some (.loc 0), some (.p (.int (n : Int))), some (.loc (r.length + 1)), some (.p (.int (a : Int))), c4, c5, c6] (st s :: (r ++ [some (.lst acc)])) = some (.ok (.p (.lst (co.map fun z : Int => pr (z : Rat)))), st s1 :: (r ++ [some (.lst acc)])))
    (e2 : ∀ r : Mu, m__law_rnumber [.loc 0] (st s1 :: r) = some (.ok (.p (pr c)), st s2 :: r)) (hacc : acc.length ≤ 900) :
    lb__law_region_1 [some (.loc 0), some (.p (.int (n : Int))), some (.loc (r.length + 1)), some (.p (.int (a : Int))), c4, c5, c6] (st s :: (r ++ [some (.lst acc)])) = some (.nx, [some (.loc 0), some (.p (.int (n : Int))), some (.loc (r.length + 1)), some (.p (.int (a : Int))), c4, c5, c6], st s2 :: (r ++ [some (.lst (acc ++ [fmQ (co.map fun z : Int => (z : Rat), c)]))])) := by
  have ft : ∀ (xs : List P) (κ : Mu), fTupOf [.p (.lst xs)] κ = some (.p (.tup xs), κ) := fun xs κ => rfl
  have p1 := ap0 (s := s2) (r := r) (acc := acc) (y := fmQ (co.map fun z : Int => (z : Rat), c)) hacc
  have hf : P.tup [.tup (co.map fun z : Int => pr (z : Rat)), pr c] = fmQ (co.map fun z : Int => (z : Rat), c) := by
    unfold fmQ
    rw [List.map_map]
    rfl
  unfold lb__law_region_1
  rw [sExpr_eq, evBM_eq, evV_2, bindG_ok, if_pos is0, evCons_eq, evTup_eq, evCons_eq, evBI_eq, evCons_eq, e1, bindG_ok, evNil_eq, bindG_ok, bindG_ok, ft, okm_some, bindG_ok, evCons_eq, evCall_eq, evCons_eq, evV_0, bindG_ok, evNil_eq, bindG_ok, bindG_ok, List.map_nil, List.append_nil, e2, bindG_ok, evNil_eq, bindG_ok, bindG_ok, bindG_ok, toPs_cons, toPs_cons, toPs_nil, consP_some, consP_some, tup2, bindG_ok, evNil_eq, bindG_ok, bindG_ok, hf, p1, okm_some, bindS_ok]
theorem reg_loop2 {n : Nat} (hn : n ≤ 3) : ∀ (m a : Nat) (s : SS), s.Ok → ∃ (R : List Fm) (s' : SS), SS.Ok s' ∧ (∀ f ∈ R, FmT n f) ∧ R.length = m ∧
    ∀ (r : Mu) (acc : List P) (c3 c4 c5 c6 : Option D), acc.length + m ≤ 900 → ∃ c3',
      forL (tgN 3) lb__law_region_1 (intsP a m) [some (.loc 0), some (.p (.int (n : Int))), some (.loc (r.length + 1)), c3, c4, c5, c6] (st s :: (r ++ [some (.lst acc)])) = some (.nx, [some (.loc 0), some (.p (.int (n : Int))), some (.loc (r.length + 1)), c3', c4, c5, c6], st s' :: (r ++ [some (.lst (acc ++ R.map fmQ))])) := by
  intro m
  induction m with
  | zero => exact fun a s hs => ⟨[], s, hs, (by intro f h; cases h), rfl, fun r acc c3 c4 c5 c6 ha => ⟨c3, by simp [intsP, forL]⟩⟩
  | succ m ihm =>
    intro a s hs
    obtain ⟨co, s1, o1, b1, l1, e1⟩ := co_ex hn hs
    obtain ⟨c, s2, o2, t2, e2⟩ := num0 o1
    obtain ⟨R, s', o', F', n', ih⟩ := ihm (a + 1) s2 o2
    refine ⟨(co.map fun z : Int => (z : Rat), c) :: R, s', o', ?_, by simp [n'], fun r acc c3 c4 c5 c6 ha => ?_⟩
    · intro f hf
      rcases List.mem_cons.mp hf with rfl | hf
      · refine ⟨by simp [l1], fun q hq => ?_, t2.mono (by decide), fun q hq => by
          obtain ⟨z, _, rfl⟩ := List.mem_map.mp hq
          exact ⟨z, rfl⟩⟩
        obtain ⟨z, hz, rfl⟩ := List.mem_map.mp hq
        exact tq_int (by decide) (b1 z hz)
      · exact F' f hf
    · obtain ⟨c3', ih⟩ := ih r (acc ++ [fmQ (co.map fun z : Int => (z : Rat), c)]) (some (.p (.int (a : Int)))) c4 c5 c6 (by rw [List.length_append]; show acc.length + 1 + m ≤ 900; omega)
      refine ⟨c3', ?_⟩
      rw [intsP_succ, forL_nx rfl (reg_body2 (e1 _ _ _ _ _ _) e2 (by omega)), ih]
      simp only [List.append_assoc, List.map_cons, List.cons_append, List.nil_append]
def rgQ (R : List Fm) : P := .lst (R.map fmQ)
structure RegT (n : Nat) (R : List Fm) : Prop where
  fm : ∀ f ∈ R, FmT n f
  len : R.length ≤ 2 * n + 2
  pos : 2 * n ≤ R.length
  bd : bdR 0 n n R
theorem reg_ex {n : Nat} (hn : n ≤ 3) {s : SS} (hs : s.Ok) : ∃ R s', SS.Ok s' ∧ RegT n R ∧ ∀ r : Mu, m__law_region [.loc 0, .p (.int (n : Int))] (st s :: r) = some (.ok (.p (rgQ R)), st s' :: r) := by
  obtain ⟨R1, s1, o1, F1, l1, bd1, h1⟩ := reg_loop1 hn n 0 s hs (by omega)
  obtain ⟨m, s2, o2, m2, e2⟩ := draw0n (n := 3) o1 (by decide) (by decide)
  obtain ⟨R2, s3, o3, F2, l2, h2⟩ := reg_loop2 hn m 0 s2 o2
  obtain ⟨y, s4, o4, y0, y3, e4⟩ := draw0 3 o3
  have F : ∀ f ∈ R1 ++ R2, FmT n f := fun f hf => by
    rcases List.mem_append.mp hf with h | h
    · exact F1 f h
    · exact F2 f h
  have ll : (R1 ++ R2).length = 2 * n + m := by rw [List.length_append, l1, l2]
  have bd : bdR 0 n n (R1 ++ R2) := fun k a b => by
    obtain ⟨lo, hi, p, q⟩ := bd1 k a b
    exact ⟨lo, hi, List.mem_append_left _ p, List.mem_append_left _ q⟩
  have T1 : RegT n (R1 ++ R2) := ⟨F, by omega, by omega, bd⟩
  have T2 : RegT n (R1 ++ R2).reverse := ⟨fun f hf => F f (List.mem_reverse.mp hf), by rw [List.length_reverse]; omega, by rw [List.length_reverse]; omega, fun k a b => by
    obtain ⟨lo, hi, p, q⟩ := bd k a b
    exact ⟨lo, hi, List.mem_reverse.mpr p, List.mem_reverse.mpr q⟩⟩
  have key : ∀ (r : Mu), ∃ c3 c4 c5, m__law_region [.loc 0, .p (.int (n : Int))] (st s :: r) = retF (r.length + 1) (andThen (sRet (evV 2)) (sIf (evB (evBin fEq (evCall m__law_draw [] (evCons (evV 0) (evCons (evC (.int 3)) evNil))) (evC (.int 0)))) (sSet 2 (evRevL (evV 2))) sNil [some (.loc 0), some (.p (.int (n : Int))), some (.loc (r.length + 1)), c3, c4, c5, none] (st s3 :: (r ++ [some (.lst ((R1 ++ R2).map fmQ))])))) := fun r => by
    obtain ⟨c3', c4', c5', h1⟩ := h1 r [] none none none none (by simp; omega)
    obtain ⟨c3'', h2⟩ := h2 r ([] ++ R1.map fmQ) c3' c4' c5' none (by simp; omega)
    refine ⟨c3'', c4', c5', ?_⟩
    have r1 : evRng1 (evV 1) [some (.loc 0), some (.p (.int (n : Int))), some (.loc (r.length + 1)), none, none, none, none] (st s :: (r ++ [some (MO.lst [])])) = some (.ok (intsP 0 n), st s :: (r ++ [some (MO.lst [])])) := rng_n n evV_1 (by omega)
    have r2 : evRng1 (evCall m__law_draw [] (evCons (evV 0) (evCons (evC (.int 3)) evNil))) [some (.loc 0), some (.p (.int (n : Int))), some (.loc (r.length + 1)), c3', c4', c5', none] (st s1 :: (r ++ [some (MO.lst ([] ++ R1.map fmQ))])) = some (.ok (intsP 0 m), st s2 :: (r ++ [some (MO.lst ([] ++ R1.map fmQ))])) := by
      have e2 := e2 (r ++ [some (MO.lst ([] ++ R1.map fmQ))])
      have hr := rng_small (v := (m : Int)) (by omega) (by omega)
      rw [evRng1_eq, evCall_eq, evCons_eq, evV_0, bindG_ok, evCons_eq, evC_eq, bindG_ok, evNil_eq, bindG_ok, bindG_ok, bindG_ok, List.map_nil, List.append_nil, show ((3 : Int)) = ((3 : Nat) : Int) from rfl, e2, bindG_ok]
      dsimp only
      rw [if_pos hr, Int.toNat_natCast, range_ints]
    unfold m__law_region
    rw [arF2]
    unfold sv__law_region
    simp only [List.replicate, List.cons_append, List.nil_append]
    unfold lb__law_region_0 at h1
    unfold lb__law_region_1 at h2
    rw [seqS_eq, sSet_eq, evLstC_eq, evNil_eq, bindG_ok, toPs_nil, lstEndC_some, if_pos (show ([] : List P).length ≤ sizeLine from line_0), bindS_ok, andThen_nx]
    simp only [List.set_cons_succ, List.set_cons_zero, List.length_cons, List.cons_append]
    rw [seqS_eq, sFor_eq, r1, bindS_ok, h1, andThen_nx]
    rw [seqS_eq, sFor_eq, r2, bindS_ok, h2, andThen_nx]
    rw [seqS_eq, List.nil_append, List.map_append]
  by_cases q : y = 0
  · refine ⟨(R1 ++ R2).reverse, s4, o4, T2, fun r => ?_⟩
    obtain ⟨c3, c4, c5, k⟩ := key r
    have lo : lstOf (st s4 :: (r ++ [some (MO.lst ((R1 ++ R2).map fmQ))])) (.loc (r.length + 1)) = some ((R1 ++ R2).map fmQ) := by
      unfold lstOf
      rw [view_l (xs := (R1 ++ R2).map fmQ) (by simp)]
    rw [k, sIf_eq, evB_eq', evBin_eq, evCall_eq, evCons_eq, evV_0, bindG_ok, evCons_eq, evC_eq, bindG_ok, evNil_eq, bindG_ok, bindG_ok, bindG_ok, List.map_nil, List.append_nil, e4, bindG_ok, evC_eq, bindG_ok, eq_int, okm_some, bindG_ok, toB_bl, bindS_ok, if_pos (decide_eq_true q), sSet_eq, evRevL_eq, evV_2, bindG_ok, lo, revLEnd_some, bindS_ok, andThen_nx]
    simp only [List.set_cons_succ, List.set_cons_zero]
    rw [sRet_eq, evV_2, bindS_ok, retF_p, List.take_succ_cons, List.take_left]
    unfold rgQ
    rw [List.map_reverse]
  · refine ⟨R1 ++ R2, s4, o4, T1, fun r => ?_⟩
    obtain ⟨c3, c4, c5, k⟩ := key r
    rw [k, sIf_eq, evB_eq', evBin_eq, evCall_eq, evCons_eq, evV_0, bindG_ok, evCons_eq, evC_eq, bindG_ok, evNil_eq, bindG_ok, bindG_ok, bindG_ok, List.map_nil, List.append_nil, e4, bindG_ok, evC_eq, bindG_ok, eq_int, okm_some, bindG_ok, toB_bl, bindS_ok, if_neg (by simpa using q), sNil_eq, andThen_nx, sRet_eq, evV_2, bindS_ok]
    unfold retF
    dsimp only
    unfold retL
    rw [if_neg (by omega)]
    have hc : cellL (st s4 :: (r ++ [some (MO.lst ((R1 ++ R2).map fmQ))])) (r.length + 1) = some ((R1 ++ R2).map fmQ) := cellL_l (by simp)
    rw [hc]
    dsimp only
    rw [List.take_succ_cons, List.take_left]
    rfl
end
end Vs
namespace Vs
open PySem PySem.Spec PyProof.Rows L2
open Bar (gt cz Sol Bd rg gsol RowIn ESol SR QRow)
section
variable {μ : Mu} {δ : Sl}
def LsD (μ : Mu) (d : D) (xs : List P) : Prop := d = .p (.lst xs) ∨ ∃ l, d = .loc l ∧ μ[l]? = some (some (.lst xs))
theorem LsD.view {d : D} {xs : List P} (h : LsD μ d xs) : view μ d = some (.lst xs) := by
  rcases h with rfl | ⟨l, rfl, h⟩
  · rfl
  · exact view_l h
theorem LsD.ext {d : D} {xs : List P} {ξ : Mu} (h : LsD μ d xs) (e : Ext μ ξ) : LsD ξ d xs := by
  rcases h with rfl | ⟨l, rfl, h⟩
  · exact .inl rfl
  · exact .inr ⟨l, rfl, by rw [e.get l (List.getElem?_eq_some_iff.mp h).1]; exact h⟩
theorem LsD.items {d : D} {xs : List P} (h : LsD μ d xs) : ∃ g, items μ d = some (false, xs.map .p, g) ∧ okG μ g := by
  rcases h with rfl | ⟨l, rfl, h⟩
  · exact ⟨none, rfl, trivial⟩
  · refine ⟨some (l, .lst xs), ?_, h⟩
    show (match μ[l]? with
      | some (some (.lst xs)) => some (false, xs.map D.p, some (l, MO.lst xs))
      | some (some (.dl ds)) => some (false, ds, some (l, MO.dl ds))
      | _ => none) = _
    rw [h]
theorem LsD.len {d : D} {xs : List P} {n : Nat} (h : LsD μ d xs) (hn : xs.length = n) : fLen [d] μ = some (.p (.int (n : Int)), μ) := by
  rcases h with rfl | ⟨l, rfl, h⟩
  · rw [fLen_lst, hn]
  · unfold fLen
    simp [view_l h, hn]
theorem LsD.ix {d : D} {xs : List P} {j : Nat} {x : P} (h : LsD μ d xs) (hx : xs[j]? = some x) : fIx d (.p (.int (j : Int))) μ = some (.p x, μ) := by
  rw [fIx_lst h.view, atI_nat hx]; rfl
theorem lvG_loop {f : Fm} {xs : List Rat} {d : D} {a b : Nat} (hd : LsD μ d (xs.map pr)) (ha : ∀ q ∈ f.1, Qz a q) (hb : ∀ q ∈ xs, Qz b q) (hl : f.1.length = xs.length) (ha0 : 1 ≤ a) (hb0 : 1 ≤ b) : ∀ (m i : Nat) (g : Rat) (n : Nat) (c3 : Option D), i + m = xs.length → Qz n g → n + m * (a + b + 1) ≤ 2400 → ∃ c3',
    forL (tgN 3) lb__law_value_0 (intsP i m) [some (.p (fmQ f)), some d, some (.p (pr g)), c3] μ = some (.nx, [some (.p (fmQ f)), some d, some (.p (pr (dotF g (f.1.drop i) (xs.drop i)))), c3'], μ)
  | 0, i, g, n, c3, hi, hg, hn => ⟨c3, by rw [List.drop_eq_nil_of_le (show f.1.length ≤ i by omega)]; simp [intsP, forL, dotF]⟩
  | m + 1, i, g, n, c3, hi, hg, hn => by
    have h1 : i < f.1.length := by omega
    have h2 : i < xs.length := by omega
    have b1 := ha f.1[i] (List.getElem_mem h1)
    have b2 := hb xs[i] (List.getElem_mem h2)
    have hn' : n + (m * (a + b + 1) + (a + b + 1)) ≤ 2400 := by rw [← Nat.succ_mul]; exact hn
    obtain ⟨c3', ih⟩ := lvG_loop hd ha hb hl ha0 hb0 m (i + 1) (g + f.1[i] * xs[i]) (n + (a + b) + 1) (some (.p (.int (i : Int)))) (by omega) (hg.add (b1.mul b2)) (by omega)
    refine ⟨c3', ?_⟩
    have x1 : fIx (.p (fmQ f)) (.p (.int 0)) μ = some (.p (.tup (f.1.map pr)), μ) := by unfold fmQ; simp
    have x2 : fIx (.p (.tup (f.1.map pr))) (.p (.int (i : Int))) μ = some (.p (pr f.1[i]), μ) := by rw [fIx_tup, at_drop h1]; rfl
    have x3 := hd.ix (j := i) (x := pr xs[i]) (by rw [List.getElem?_map, List.getElem?_eq_getElem h2]; rfl)
    have x4 := ev_rmul (μ := μ) b1.bz b2.bz (by omega)
    have x5 := ev_radd (μ := μ) hg.bz (b1.mul b2).bz (by omega)
    rw [intsP_succ, forL_nx (δ1 := [some (.p (fmQ f)), some d, some (.p (pr g)), some (.p (.int (i : Int)))]) (δ2 := [some (.p (fmQ f)), some d, some (.p (pr (g + f.1[i] * xs[i]))), some (.p (.int (i : Int)))]) (μ2 := μ) rfl (by
      unfold lb__law_value_0
      rw [sSet_eq, evCall_eq, evCons_eq, evV_2, bindG_ok, evCons_eq, evCall_eq, evCons_eq, evBin_eq, evBin_eq, evV_0, bindG_ok, evC_eq, bindG_ok, x1, okm_some, bindG_ok, evV_3, bindG_ok, x2, okm_some, bindG_ok, evCons_eq, evBin_eq, evV_1, bindG_ok, evV_3, bindG_ok, x3, okm_some, bindG_ok, evNil_eq, bindG_ok, bindG_ok, bindG_ok, List.map_nil, List.append_nil, x4, bindG_ok, evNil_eq, bindG_ok, bindG_ok, bindG_ok, List.append_nil, x5, bindS_ok]
      rfl), ih, List.drop_eq_getElem_cons h1, List.drop_eq_getElem_cons h2]
    rfl
theorem ev_lvalueG {f : Fm} {xs : List Rat} {d : D} {a b c : Nat} (hd : LsD μ d (xs.map pr)) (ha : ∀ q ∈ f.1, Qz a q) (hb : ∀ q ∈ xs, Qz b q) (hc : Qz c f.2) (hl : f.1.length = xs.length) (ha0 : 1 ≤ a) (hb0 : 1 ≤ b) (hx : xs.length ≤ 500) (hn : c + xs.length * (a + b + 1) ≤ 2400) : m__law_value [.p (fmQ f), d] μ = some (.ok (.p (pr (dotF f.2 f.1 xs))), μ) := by
  obtain ⟨c3', e⟩ := lvG_loop hd ha hb hl ha0 hb0 xs.length 0 f.2 c none (by omega) hc hn
  have x1 : fIx (.p (fmQ f)) (.p (.int 1)) μ = some (.p (pr f.2), μ) := by unfold fmQ; simp
  have x2 := hd.len (n := xs.length) (by simp)
  have r := rng_n xs.length (δ := [some (.p (fmQ f)), some d, some (.p (pr f.2)), none]) (μ := μ) (e := evBI fLen (evCons (evV 1) evNil)) (ν := μ) (by rw [evBI_eq, evCons_eq, evV_1, bindG_ok, evNil_eq, bindG_ok, bindG_ok, x2, okm_some]) (by omega)
  unfold m__law_value
  rw [arF2]
  unfold sv__law_value
  simp only [List.replicate, List.cons_append, List.nil_append]
  unfold lb__law_value_0 at e
  rw [seqS_eq, sSet_eq, evBin_eq, evV_0, bindG_ok, evC_eq, bindG_ok, x1, okm_some, bindS_ok, andThen_nx]
  simp only [List.set_cons_succ, List.set_cons_zero]
  rw [seqS_eq, sFor_eq, r, bindS_ok, e, andThen_nx, sRet_eq, evV_2, bindS_ok, retF_p, List.take_length, List.drop_zero, List.drop_zero]
theorem ge_int {i j : Int} : fGe (.p (.int i)) (.p (.int j)) μ = some (.p (.bl (decide (j ≤ i))), μ) := by simp
theorem ev_linside {R : List Fm} {xs : List Rat} {d : D} {a b c : Nat} (hd : LsD μ d (xs.map pr)) (ha : ∀ f ∈ R, ∀ q ∈ f.1, Qz a q) (hb : ∀ q ∈ xs, Qz b q) (hc : ∀ f ∈ R, Qz c f.2) (hl : ∀ f ∈ R, f.1.length = xs.length) (ha0 : 1 ≤ a) (hb0 : 1 ≤ b) (hx : xs.length ≤ 500) (hn : c + xs.length * (a + b + 1) ≤ 2400) (hR : R.length ≤ 900) : m__law_inside [.p (rgQ R), d] μ = some (.ok (.p (.bl (insideB R xs))), μ) := by
  have lc := lc_mapE (δ := [some (.p (rgQ R)), some d, none]) (μ := μ) (ν := μ) (it := evIt (evV 0)) (ts := tgN 2) (e := evBin fGe (evBin fIx (evCall m__law_value [] (evCons (evV 2) (evCons (evV 1) evNil))) (evC (.int 0))) (evC (.int 0))) (vs := [2]) (as := R) fmQ (fun f => P.bl (decide (0 ≤ dotF f.2 f.1 xs))) rfl (fun f hf => ⟨_, rfl, fun ξ ex => by
    have v := ev_lvalueG (hd.ext ex) (ha f hf) hb (hc f hf) (hl f hf) ha0 hb0 hx hn
    have i0 := ix_pr0 (μ := ξ) (a := dotF f.2 f.1 xs)
    show evBin fGe (evBin fIx (evCall m__law_value [] (evCons (evV 2) (evCons (evV 1) evNil))) (evC (.int 0))) (evC (.int 0)) [some (.p (rgQ R)), some d, some (.p (fmQ f))] ξ = _
    rw [evBin_eq, evBin_eq, evCall_eq, evCons_eq, evV_2, bindG_ok, evCons_eq, evV_1, bindG_ok, evNil_eq, bindG_ok, bindG_ok, bindG_ok, List.map_nil, List.append_nil, v, bindG_ok, evC_eq, bindG_ok, i0, okm_some, bindG_ok, evC_eq, bindG_ok, ge_int, okm_some]
    have : decide (0 ≤ (dotF f.2 f.1 xs).num) = decide (0 ≤ dotF f.2 f.1 xs) := by rw [decide_eq_decide]; exact Rat.num_nonneg
    rw [this]⟩) (Nat.le_of_lt (line_k (by omega)))
  have fa := fAll_p (μ := μ) (bs := R.map fun f => decide (0 ≤ dotF f.2 f.1 xs))
  rw [List.map_map] at fa
  unfold m__law_inside
  rw [arF2]
  unfold sv__law_inside
  simp only [List.replicate, List.cons_append, List.nil_append]
  rw [sRet_eq, evBI_eq, evCons_eq, lc, bindG_ok, evNil_eq, bindG_ok, bindG_ok]
  rw [show (fun f : Fm => P.bl (decide (0 ≤ dotF f.2 f.1 xs))) = P.bl ∘ fun f => decide (0 ≤ dotF f.2 f.1 xs) from rfl, fa, okm_some, bindS_ok, retF_p, List.take_length]
  unfold insideB
  rw [List.all_map]
  rfl
theorem ev_formas {f : Fm} {b : Nat} (h : ∀ q ∈ fmL f, Qz b q) (hb : b ≤ 9000) (hl : f.1.length ≤ 900) : m__law_form_as [.p (fmQ f)] μ = some (.ok (.p (fmR f)), μ) := by
  have i0 : ∀ κ : Mu, fIx (.p (fmQ f)) (.p (.int 0)) κ = some (.p (.tup (f.1.map pr)), κ) := fun κ => by unfold fmQ; simp
  have i1 : ∀ κ : Mu, fIx (.p (fmQ f)) (.p (.int 1)) κ = some (.p (pr f.2), κ) := fun κ => by unfold fmQ; simp
  have lc := lc_map (δ := [some (.p (fmQ f)), none]) (μ := μ) (ν := μ) (it := evIt (evBin fIx (evV 0) (evC (.int 0)))) (ts := tgN 1) (e := evCall m__law_as [] (evCons (evV 1) evNil)) (vs := [1]) (as := f.1) pr rat (by
    unfold evIt
    rw [evBin_eq, evV_0, bindG_ok, evC_eq, bindG_ok, i0, okm_some, bindG_ok]
    rfl) (fun q hq => ⟨_, rfl, fun κ => by
    have e := ev_ras (μ := κ) (h q (List.mem_append_left _ hq)).bz hb
    show evCall m__law_as [] (evCons (evV 1) evNil) [some (.p (fmQ f)), some (.p (pr q))] κ = _
    rw [evCall_eq, evCons_eq, evV_1, bindG_ok, evNil_eq, bindG_ok, bindG_ok, List.map_nil, List.append_nil, e]⟩) (Nat.le_of_lt (line_k (by omega)))
  have e2 := ev_ras (μ := μ) (h f.2 (by unfold fmL; simp)).bz hb
  have ft : ∀ (xs : List P) (κ : Mu), fTupOf [.p (.lst xs)] κ = some (.p (.tup xs), κ) := fun xs κ => rfl
  unfold m__law_form_as
  rw [arF1]
  unfold sv__law_form_as
  simp only [List.replicate, List.cons_append, List.nil_append]
  rw [sRet_eq, evTup_eq, evCons_eq, evBI_eq, evCons_eq, lc, bindG_ok, evNil_eq, bindG_ok, bindG_ok, ft, okm_some, bindG_ok, evCons_eq, evCall_eq, evCons_eq, evBin_eq, evV_0, bindG_ok, evC_eq, bindG_ok, i1, okm_some, bindG_ok, evNil_eq, bindG_ok, bindG_ok, List.map_nil, List.append_nil, e2, bindG_ok, evNil_eq, bindG_ok, bindG_ok, bindG_ok, toPs_cons, toPs_cons, toPs_nil, consP_some, consP_some, tup2, bindS_ok, retF_p, List.take_length]
  rfl
theorem ev_regionas {R : List Fm} {b : Nat} (h : ∀ f ∈ R, f.1.length ≤ 900 ∧ ∀ q ∈ fmL f, Qz b q) (hb : b ≤ 9000) (hl : R.length ≤ 900) : m__law_region_as [.p (rgQ R)] μ = some (.ok (.p (rgR R)), μ) := by
  have lc := lc_map (δ := [some (.p (rgQ R)), none]) (μ := μ) (ν := μ) (it := evIt (evV 0)) (ts := tgN 1) (e := evCall m__law_form_as [] (evCons (evV 1) evNil)) (vs := [1]) (as := R) fmQ fmR rfl (fun f hf => ⟨_, rfl, fun κ => by
    have e := ev_formas (μ := κ) (h f hf).2 hb (h f hf).1
    show evCall m__law_form_as [] (evCons (evV 1) evNil) [some (.p (rgQ R)), some (.p (fmQ f))] κ = _
    rw [evCall_eq, evCons_eq, evV_1, bindG_ok, evNil_eq, bindG_ok, bindG_ok, List.map_nil, List.append_nil, e]⟩) (Nat.le_of_lt (line_k (by omega)))
  have ft : ∀ (xs : List P) (κ : Mu), fTupOf [.p (.lst xs)] κ = some (.p (.tup xs), κ) := fun xs κ => rfl
  unfold m__law_region_as
  rw [arF1]
  unfold sv__law_region_as
  simp only [List.replicate, List.cons_append, List.nil_append]
  rw [sRet_eq, evBI_eq, evCons_eq, lc, bindG_ok, evNil_eq, bindG_ok, bindG_ok, ft, okm_some, bindS_ok, retF_p, List.take_length]
  rfl
theorem ev_lpoint {d : D} {xs : List Rat} (hd : LsD μ d (xs.map rat)) (hl : xs.length ≤ 900) : m__law_point [d] μ = some (.ok (.p (qP xs)), μ) := by
  obtain ⟨g, h1, h2⟩ := hd.items
  have kd : isiVEnd (isiT 1 "list") μ (kindD μ d) = some (.ok (.p (.bl true)), μ) := by
    rcases hd with rfl | ⟨l, rfl, h⟩
    · exact isiVEnd_some rfl
    · unfold kindD
      dsimp only
      rw [h]
      exact isiVEnd_some rfl
  have lc := lcI_map (δ := [some d, none]) (μ := μ) (ν := μ) (it := evItL (evV 0)) (ts := tgNI 1) (e := evCall m__law_rpair [] (evCons (evV 1) evNil)) (vs := [1]) (as := xs) (gd := g) (fun q => .one (.p (rat q))) pr (by
    rw [evItL_eq, evV_0, bindG_ok, h1]
    dsimp only
    rw [List.map_map, List.map_map]
    rfl) h2 (fun q hq => ⟨_, rfl, fun ξ ex => by
    have e := ev_rpair (μ := ξ) (a := q)
    show evCall m__law_rpair [] (evCons (evV 1) evNil) [some d, some (.p (rat q))] ξ = _
    rw [evCall_eq, evCons_eq, evV_1, bindG_ok, evNil_eq, bindG_ok, bindG_ok, List.map_nil, List.append_nil, e]⟩) (Nat.le_of_lt (line_k (by omega)))
  have tb : toB μ (.p (.bl true)) = some (.ok true, μ) := rfl
  unfold m__law_point
  rw [arF1]
  unfold sv__law_point
  simp only [List.replicate, List.cons_append, List.nil_append]
  rw [seqS_eq, sIf_eq, tNotV_eq, evB_eq', evIsiD_eq, evV_0, bindG_ok, kd, bindG_ok, toB_bl, bindG_ok, bindS_ok]
  rw [if_neg (by decide), sNil_eq, andThen_nx, sRet_eq, lc, bindS_ok, retF_p, List.take_length]
  rfl
end
end Vs
namespace Vs
open PySem PySem.Spec PyProof.Rows L2
open Bar (gt cz Sol Bd rg gsol RowIn ESol SR QRow)
section
variable {μ : Mu} {δ : Sl}
theorem pln_pr {k : Nat} {q : Rat} : Pln (k + 1) (pr q) := pln_tup fun x hx => by
  simp only [List.mem_cons, List.mem_nil_iff, or_false] at hx
  rcases hx with rfl | rfl <;> exact pln_int
theorem nb_pr {q : Rat} : nb (pr q) = true := rfl
theorem pln_q {k : Nat} {xs : List Rat} : Pln (k + 2) (qP xs) := pln_lst fun x hx => by
  obtain ⟨q, _, rfl⟩ := List.mem_map.mp hx
  exact pln_pr
theorem nb_q {xs : List Rat} : nb (qP xs) = true := by
  unfold qP
  rw [nb]
  exact nbs_of fun x hx => by obtain ⟨q, _, rfl⟩ := List.mem_map.mp hx; exact nb_pr
theorem pr_inj {a b : Rat} (h : pr a = pr b) : a = b := by
  unfold pr at h
  simp only [P.tup.injEq, List.cons.injEq, P.int.injEq, and_true] at h
  exact Rat.ext h.1 (by omega)
theorem qP_inj {xs ys : List Rat} (h : qP xs = qP ys) : xs = ys := by
  unfold qP at h
  injection h with h
  exact List.map_inj_right (f := pr) (fun _ _ => pr_inj) |>.mp h
theorem repr_bl {b : Bool} : fRepr [.p (.bl b)] μ = some (.p (.str (boolStr b)), μ) := fRepr_bl
theorem ne_str {x : Str} : fNe (.p (.str x)) (.p (.str x)) μ = some (.p (.bl false), μ) := by simp
theorem gt_int {i j : Int} : fGt (.p (.int i)) (.p (.int j)) μ = some (.p (.bl (decide (j < i))), μ) := by simp
end
end Vs
namespace Vs.Bar
def dq (n : Nat) (r : QRow) (d : Nat → Rat) : Rat := SR n (fun j => rg r j * d j)
def IndP (n : Nat) (rows : List QRow) : Prop := ∀ pre r post, rows = pre ++ r :: post → ∃ d, HS n pre d ∧ dq n r d ≠ 0
end Vs.Bar
namespace Vs.Bar
/-- sums of multiples -/
def InSp (n : Nat) : List Row → (Nat → Rat) → Prop
  | [], d => ∀ x, x < n → d x = 0
  | v :: vs, d => ∃ s : Rat, InSp n vs (fun x => d x - s * (gt v x : Rat))
theorem InSp.congr {n : Nat} : ∀ {vs : List Row} {d e : Nat → Rat}, (∀ x, x < n → d x = e x) → InSp n vs d → InSp n vs e
  | [], d, e, h, hd => fun x hx => by rw [← h x hx]; exact hd x hx
  | v :: vs, d, e, h, ⟨s, hs⟩ => ⟨s, InSp.congr (fun x hx => by rw [h x hx]) hs⟩
theorem InSp.mid {n : Nat} {p : Row} {b : List Row} : ∀ {a : List Row} {d : Nat → Rat}, InSp n (a ++ p :: b) d ↔ ∃ s : Rat, InSp n (a ++ b) (fun x => d x - s * (gt p x : Rat))
  | [], d => Iff.rfl
  | v :: a, d => by
    show (∃ t : Rat, InSp n (a ++ p :: b) (fun x => d x - t * (gt v x : Rat))) ↔ ∃ s : Rat, ∃ t : Rat, InSp n (a ++ b) (fun x => d x - s * (gt p x : Rat) - t * (gt v x : Rat))
    constructor
    · rintro ⟨t, h⟩
      obtain ⟨s, h⟩ := InSp.mid.mp h
      exact ⟨s, t, h.congr fun x _ => by grind⟩
    · rintro ⟨s, t, h⟩
      exact ⟨t, InSp.mid.mpr ⟨s, h.congr fun x _ => by grind⟩⟩
/-- a linear function that vanishes on some rows vanishes on their sums -/
theorem InSp.lin {n : Nat} {g : Nat → Rat} : ∀ {vs : List Row} {d : Nat → Rat}, InSp n vs d → (∀ v ∈ vs, SR n (fun x => g x * (gt v x : Rat)) = 0) → SR n (fun x => g x * d x) = 0
  | [], d, h, _ => SR_zero fun x hx => by rw [h x hx]; grind
  | v :: vs, d, ⟨s, h⟩, k => by
    have ih := InSp.lin h fun w hw => k w (List.mem_cons_of_mem _ hw)
    have e : SR n (fun x => g x * (d x - s * (gt v x : Rat))) = SR n (fun x => g x * d x) + (-s) * SR n (fun x => g x * (gt v x : Rat)) := by
      rw [← SR_mul, ← SR_add]
      exact SR_congr fun x _ => by grind
    rw [e, k v List.mem_cons_self] at ih
    grind
theorem InSp.zero {n : Nat} : ∀ {vs : List Row}, InSp n vs (fun _ => 0)
  | [] => fun _ _ => rfl
  | v :: vs => ⟨0, (InSp.zero (vs := vs)).congr fun x _ => by grind⟩
theorem InSp.mem {n : Nat} : ∀ {vs : List Row} {v : Row}, v ∈ vs → InSp n vs (fun x => (gt v x : Rat))
  | w :: vs, v, h => by
    rcases List.mem_cons.mp h with rfl | h
    · exact ⟨1, (InSp.zero (vs := vs)).congr fun x _ => by grind⟩
    · exact ⟨0, (InSp.mem h).congr fun x _ => by grind⟩
/-- the sum of products, as the program works it out -/
def dotI (d r : Row) : Int := (List.zipWith (· * ·) d r).sum
theorem SR_shift : ∀ (n : Nat) (f : Nat → Rat), SR (n + 1) f = f 0 + SR n (fun x => f (x + 1))
  | 0, f => by show SR 0 f + f 0 = f 0 + SR 0 _; simp only [SR]; grind
  | n + 1, f => by
    show SR (n + 1) f + f (n + 1) = f 0 + (SR n (fun x => f (x + 1)) + f (n + 1))
    rw [SR_shift n f]; grind
theorem gt_cons {a : Int} {r : Row} {x : Nat} : gt (a :: r) (x + 1) = gt r x := by simp [gt]
theorem dotI_SR : ∀ {d r : Row} {n : Nat}, d.length = n → n ≤ r.length → (dotI d r : Rat) = SR n (fun x => (gt d x : Rat) * (gt r x : Rat))
  | [], r, n, h, _ => by
    have : n = 0 := by simpa using h.symm
    subst this
    simp [dotI, SR]
  | a :: d, r, n, h, hr => by
    obtain ⟨m, rfl⟩ : ∃ m, n = m + 1 := ⟨d.length, by simpa using h.symm⟩
    cases r with
    | nil => simp at hr
    | cons b r =>
      have ih := dotI_SR (d := d) (r := r) (n := m) (by simpa using h) (by simpa using hr)
      have e : dotI (a :: d) (b :: r) = a * b + dotI d r := by simp [dotI]
      rw [e, Rat.intCast_add, Rat.intCast_mul, ih, SR_shift]
      simp only [gt_cons]
      simp [gt]
def chgK (D : List Row) (r : Row) : Option Nat := (List.range D.length).find? fun k => decide (dotI (D.getD k []) r ≠ 0)
def wrow (D : List Row) (r : Row) (k : Nat) : List Row := ((List.range D.length).filter fun j => decide (j ≠ k)).map fun j => List.zipWith (fun a b => dotI (D.getD k []) r * a - dotI (D.getD j []) r * b) (D.getD j []) (D.getD k [])
def withRow (D : List Row) (r : Row) : Option (List Row) := match chgK D r with
  | some k => some (wrow D r k)
  | none => none
structure Span (n : Nat) (names : List QRow) (D : List Row) : Prop where
  len : ∀ d ∈ D, d.length = n
  iff : ∀ d, HS n names d ↔ InSp n D d
/-- a row of integers for one of fractions -/
def RowOf (n : Nat) (r : Row) (q : QRow) : Prop := r.length = n + 1 ∧ ∃ t : Rat, t ≠ 0 ∧ ∀ x, x < n → (gt r x : Rat) = t * rg q x
theorem RowOf.dq {n : Nat} {r : Row} {q : QRow} (h : RowOf n r q) (d : Nat → Rat) : (SR n (fun x => (gt r x : Rat) * d x) = 0 ↔ Bar.dq n q d = 0) := by
  obtain ⟨_, t, ht, e⟩ := h
  have : SR n (fun x => (gt r x : Rat) * d x) = t * Bar.dq n q d := by
    unfold Bar.dq
    rw [← SR_mul]
    exact SR_congr fun x hx => by rw [e x hx]; grind
  rw [this]
  constructor
  · intro z; exact (Rat.mul_eq_zero.mp z).resolve_left ht
  · intro z; rw [z]; grind
/-- all directions -/
def units (n : Nat) : List Row := (List.range n).map fun i => (List.range n).map fun j => if i = j then 1 else 0
end Vs.Bar
namespace Vs.Bar
/-- the face's equations with directions: v k the values of the forms, g the slopes -/
def PSol (n m : Nat) (v : Nat → (Nat → Rat) → Rat) (g : (Nat → Rat) → Nat → Rat) (D : List Row) (x : Nat → Rat) : Prop := (∀ k, k < m → v k x = 0) ∧ ∀ d ∈ D, SR n (fun i => (gt d i : Rat) * g x i) = 0
/-- with multipliers -/
def LSol (n m : Nat) (coefs : List QRow) (v : Nat → (Nat → Rat) → Rat) (g : (Nat → Rat) → Nat → Rat) (y : Nat → Rat) : Prop := (∀ i, i < n → g y i = SR m (fun k => y (n + k) * rg (coefs.getD k []) i)) ∧ ∀ k, k < m → v k y = 0
end Vs.Bar
namespace Vs
open PySem PySem.Spec PyProof.Rows L2
open Bar (gt cz Sol Bd rg gsol RowIn ESol SR QRow InSp Span IndP withRow wrow chgK dotI PSol LSol RowOf HS)
section
variable {μ : Mu} {δ : Sl}
/-- all slopes' numbers, one after another -/
def flatR (n : Nat) (sq : List (List Rat)) (co : List Rat) : Nat → Nat → List Rat
  | 0, _ => []
  | m + 1, i => ((List.range n).map fun j => rg (sq.getD i []) j + rg (sq.getD j []) i) ++ [rg co i] ++ flatR n sq co m (i + 1)
/-- the slopes in integers -/
def slp (n : Nat) (sq : List (List Rat)) (co : List Rat) : List IRow := (List.range n).map fun i => ((whole (flatR n sq co n 0)).drop (i * (n + 1))).take (n + 1)
/-- how the slopes change along d -/
def alo (n : Nat) (sl : List IRow) (d : IRow) : IRow := (List.range (n + 1)).map fun j => Bar.S n (fun i => gt d i * gt (sl.getD i []) j)
/-- the rows of a face -/
def fcRows (n : Nat) (R : List Fm) (sq : List (List Rat)) (co : List Rat) (names : List Nat) (D : List IRow) : List IRow := names.map (fun k => whole (fmL (R.getD k ([], 0)))) ++ D.map (alo n (slp n sq co))
end
end Vs
namespace Vs
open PySem PySem.Spec PyProof.Rows L2
open Bar (gt cz Sol Bd rg gsol RowIn ESol SR QRow InSp Span IndP withRow wrow chgK dotI PSol LSol RowOf HS)
section
variable {μ : Mu} {δ : Sl}
theorem add_ints {i j : Int} : fAdd (.p (.int i)) (.p (.int j)) μ = some (.p (.int (i + j)), μ) := by simp
end
end Vs
namespace Vs
open PySem PySem.Spec PyProof.Rows L2
open Bar (gt cz Sol Bd rg gsol RowIn ESol SR QRow InSp Span IndP withRow wrow chgK dotI PSol LSol RowOf HS)
section
variable {μ : Mu} {δ : Sl}
/-- a quadratic with small numbers; the total may be great -/
structure QuT (n : Nat) (sq : List (List Rat)) (co : List Rat) (tot : Rat) : Prop where
  n3 : n ≤ 3
  sl : sq.length = n
  sr : ∀ r ∈ sq, r.length = n ∧ ∀ q ∈ r, Tq 60 9 q
  cl : co.length = n
  cb : ∀ q ∈ co, Tq 60 9 q
  tb : Qz 150 tot
theorem at_D {A : Type} {f : A → P} {xs : List A} {a : Nat} (d : A) (h : a < xs.length) : atI (xs.map f) (a : Int) = some (f (xs.getD a d)) := atI_nat (by rw [List.getElem?_map, List.getElem?_eq_getElem h, List.getD_eq_getElem?_getD, List.getElem?_eq_getElem h]; rfl)
theorem lix {A : Type} {f : A → P} {xs : List A} {a : Nat} (d : A) (h : a < xs.length) : fIx (.p (.lst (xs.map f))) (.p (.int (a : Int))) μ = some (.p (f (xs.getD a d)), μ) := by rw [fIx_lstp, at_D d h]; rfl
theorem QuT.at {n : Nat} {sq : List (List Rat)} {co : List Rat} {tot : Rat} (h : QuT n sq co tot) {i j : Nat} (hi : i < n) (hj : j < n) : (sq.getD i []).length = n ∧ Tq 60 9 (rg (sq.getD i []) j) := by
  have m := h.sr _ (getD_mem (d := []) (show i < sq.length by rw [h.sl]; exact hi))
  exact ⟨m.1, m.2 _ (getD_mem (by rw [m.1]; exact hj))⟩
end
end Vs
namespace Vs
open PySem PySem.Spec PyProof.Rows L2
open Bar (gt cz Sol Bd rg gsol RowIn ESol SR QRow)
def befO : List Rat → List Rat → Option Bool
  | a :: as, b :: bs => if a = b then befO as bs else some (decide (a < b))
  | _, _ => none
def bef (xs ys : List Rat) : Bool := (befO xs ys).getD false
section
variable {μ : Mu} {δ : Sl}
theorem eq_rat2 {a b : Rat} : (a.num = b.num ∧ a.den = b.den) ↔ a = b := ⟨fun ⟨h1, h2⟩ => Rat.ext h1 h2, fun h => by subst h; exact ⟨rfl, rfl⟩⟩
theorem ev_req2 {a b : Rat} : m_Ratiou_equ [.p (rat a), .p (rat b)] μ = some (.ok (.p (.bl (decide (a = b)))), μ) := by
  have h : isiVEnd (isiO 0) μ (some (rat b)) = some (.ok (.p (.bl true)), μ) := isiVEnd_some rfl
  by_cases h1 : a.num = b.num
  · by_cases h2 : a.den = b.den
    · have e := eq_rat2.mp ⟨h1, h2⟩
      unfold rat at h ⊢
      simp [m_Ratiou_equ, arF, bodySem_eq, sv_Ratiou_equ, h, e]
    · have e : ¬ a = b := fun q => h2 (eq_rat2.mpr q).2
      unfold rat at h ⊢
      have h2' : ¬ (a.den : Int) = (b.den : Int) := by omega
      simp [m_Ratiou_equ, arF, bodySem_eq, sv_Ratiou_equ, h, e, h1, h2']
  · have e : ¬ a = b := fun q => h1 (eq_rat2.mpr q).1
    unfold rat at h ⊢
    simp [m_Ratiou_equ, arF, bodySem_eq, sv_Ratiou_equ, h, e, h1]
theorem ne_ratG {a b : Rat} : fNeO 0 m_Ratiou_equ (.p (rat a)) (.p (rat b)) μ = some (.p (.bl (!decide (a = b))), μ) := by
  have hc : (isObj 0 (.p (rat a)) && okSide 0 (.p (rat b))) = true := rfl
  unfold fNeO
  rw [if_pos hc, semD_ok ev_req2]
  rfl
theorem ev_rless {a b : Rat} (ha : Bz 2307 a) (hb : Bz 2307 b) : m__law_rless [.p (pr a), .p (pr b)] μ = some (.ok (.p (.bl (decide (a < b)))), μ) := by
  have e : decide (a.num * (b.den : Int) < b.num * (a.den : Int)) = decide (a < b) := by rw [decide_eq_decide]; exact lt_iff'
  have m1 : mulOk a.num (b.den : Int) = true := mulOk_of ha.2.1 hb.2.2 (by decide) (by decide) (by decide)
  have m2 : mulOk b.num (a.den : Int) = true := mulOk_of hb.2.1 ha.2.2 (by decide) (by decide) (by decide)
  unfold m__law_rless
  rw [arF2]
  unfold sv__law_rless
  simp only [List.replicate, List.cons_append, List.nil_append]
  rw [sRet_eq, evBin_eq, evBin_eq, evBin_eq, evV_0, bindG_ok, evC_eq, bindG_ok, ix_pr0, okm_some, bindG_ok, evBin_eq, evV_1, bindG_ok, evC_eq, bindG_ok, ix_pr1, okm_some, bindG_ok, mul_int m1, okm_some, bindG_ok, evBin_eq, evBin_eq, evV_1, bindG_ok, evC_eq, bindG_ok, ix_pr0, okm_some, bindG_ok, evBin_eq, evV_0, bindG_ok, evC_eq, bindG_ok, ix_pr1, okm_some, bindG_ok, mul_int m2, okm_some, bindG_ok, lt_int, okm_some, bindS_ok, retF_p, List.take_length, e]
theorem eqP_prG {a b : Rat} : eqP (pr a) (pr b) = some (decide (a = b)) := eqP_dec (pln_pr.mono (k := 1) (by decide)) (pln_pr.mono (k := 1) (by decide)) nb_pr nb_pr ⟨pr_inj, fun h => by rw [h]⟩
end
end Vs
namespace Vs
open PySem PySem.Spec PyProof.Rows L2
open Bar (gt cz Sol Bd rg gsol RowIn ESol SR QRow InSp Span IndP withRow wrow chgK dotI PSol LSol RowOf HS)
section
variable {μ : Mu} {δ : Sl}
abbrev Face := List Nat × List IRow
def ixP (ns : List Nat) : P := .tup (ns.map fun k : Nat => P.int (k : Int))
def lo (ns : List Nat) : Nat := match ns.getLast? with
  | none => 0
  | some j => j + 1
theorem ix_snoc {ns : List Nat} {k : Nat} : P.tup ((ns.map fun k : Nat => P.int (k : Int)) ++ [.int (k : Int)]) = ixP (ns ++ [k]) := by unfold ixP; rw [List.map_append]; rfl
theorem lo_le {ns : List Nat} {w : Nat} (h : ∀ k ∈ ns, k < w) : lo ns ≤ w := by
  unfold lo
  cases e : ns.getLast? with
  | none => exact Nat.zero_le _
  | some j => exact h j (List.mem_of_getLast? e)
end
end Vs
namespace Vs
open PySem PySem.Spec PyProof.Rows L2
open Bar (gt cz Sol Bd rg gsol RowIn ESol SR QRow gred GS)
section
variable {μ : Mu} {δ : Sl}
def extP (w : Nat) (ns : List Nat) : List (List Nat) := (List.range' (lo ns) (w - lo ns)).map fun j => ns ++ [j]
def extL (w : Nat) : List (List Nat) → List (List Nat)
  | [] => []
  | r :: rs => extP w r ++ extL w rs
def pk (w : Nat) : Nat → List (List Nat)
  | 0 => [[]]
  | k + 1 => extL w (pk w k)
theorem extP_len {w : Nat} {ns : List Nat} : (extP w ns).length ≤ w := by simp [extP]
theorem extL_len {w : Nat} : ∀ rs : List (List Nat), (extL w rs).length ≤ rs.length * w
  | [] => by simp [extL]
  | r :: rs => by
    have := extP_len (w := w) (ns := r)
    have := extL_len (w := w) rs
    rw [extL, List.length_append, List.length_cons, Nat.add_mul]; omega
theorem pk_ok {w : Nat} : ∀ k, ∀ ns ∈ pk w k, ns.length = k ∧ ∀ x ∈ ns, x < w
  | 0, ns, h => by simp [pk] at h; subst h; exact ⟨rfl, fun x hx => by simp at hx⟩
  | k + 1, ns, h => by
    have : ∀ rs : List (List Nat), (∀ r ∈ rs, r.length = k ∧ ∀ x ∈ r, x < w) → ∀ ns ∈ extL w rs, ns.length = k + 1 ∧ ∀ x ∈ ns, x < w := fun rs => by
      induction rs with
      | nil => intro _ ns h; simp [extL] at h
      | cons r rs ih =>
        intro hr ns h
        rw [extL] at h
        rcases List.mem_append.mp h with q | q
        · obtain ⟨j, hj, rfl⟩ := List.mem_map.mp q
          have hj := List.mem_range'_1.mp hj
          obtain ⟨a, b⟩ := hr r List.mem_cons_self
          have ll := lo_le b
          refine ⟨by rw [List.length_append, a]; rfl, fun x hx => ?_⟩
          rcases List.mem_append.mp hx with z | z
          · exact b x z
          · simp at z; omega
        · exact ih (fun x hx => hr x (List.mem_cons_of_mem _ hx)) ns q
    exact this _ (pk_ok k) ns h
theorem cat_tG {xs ys : List P} (h : xs.length + ys.length ≤ 100) : fCatT (.p (.tup xs)) (.p (.tup ys)) μ = some (.p (.tup (xs ++ ys)), μ) := by
  unfold fCatT
  dsimp only
  rw [if_pos (Nat.le_trans h (by decide))]
def lsB : Ev := evBin fAdd (evBin fIx (evBin fCatL (evLst (evCons (evUn fNeg (evC (.int 1))) evNil)) (evBI fList (evCons (evV 5) evNil))) (evUn fNeg (evC (.int 1)))) (evC (.int 1))
theorem ev_lsB {c0 c1 c2 c3 c4 c6 : Option D} {ns : List Nat} (hl : ns.length ≤ 900) : lsB [c0, c1, c2, c3, c4, some (.p (ixP ns)), c6] μ = some (.ok (.p (.int (lo ns : Nat))), μ) := by
  have fl : fList [.p (ixP ns)] μ = some (.p (.lst (ns.map fun k : Nat => P.int (k : Int))), μ) := rfl
  have ct := fCatL_p (μ := μ) (xs := [P.int (-1)]) (ys := ns.map fun k : Nat => P.int (k : Int)) (Nat.le_of_lt (line_k (by simp; omega)))
  have ix : fIx (.p (.lst ([P.int (-1)] ++ ns.map fun k : Nat => P.int (k : Int)))) (.p (.int (-1))) μ = some (.p (.int ((lo ns : Nat) - 1 : Int)), μ) := by
    rcases List.eq_nil_or_concat ns with rfl | ⟨ms, j, rfl⟩
    · rfl
    · rw [List.concat_eq_append, List.map_append, ← List.append_assoc, fIx_lstp]
      show ixAns μ (atI (_ ++ [P.int (j : Int)]) (-1)) = _
      rw [at_last]
      unfold lo
      rw [List.getLast?_append]
      show _ = some (D.p (.int (((j + 1 : Nat) : Int) - 1)), μ)
      rw [show (((j + 1 : Nat) : Int) - 1) = (j : Int) by omega]; rfl
  unfold lsB
  rw [evBin_eq, evBin_eq, evBin_eq, evLst_eq, evCons_eq, evUn_eq, evC_eq, bindG_ok, fNeg_int, okm_some, bindG_ok, evNil_eq, bindG_ok, bindG_ok, toPs_cons, toPs_nil, consP_some, lstEnd_some, if_pos (show ([P.int (-1)] : List P).length ≤ sizeLine from line_1), bindG_ok, evBI_eq, evCons_eq, evV_5, bindG_ok, evNil_eq, bindG_ok, bindG_ok, fl, okm_some, bindG_ok, ct, okm_some, bindG_ok, evUn_eq, evC_eq, bindG_ok, fNeg_int, okm_some, bindG_ok, ix, okm_some, bindG_ok, evC_eq, bindG_ok, add_ints, okm_some, show ((lo ns : Nat) - 1 : Int) + 1 = (lo ns : Nat) by omega]
end
end Vs
namespace Vs
open PySem PySem.Spec PyProof.Rows L2
open Bar (gt cz Sol Bd rg gsol RowIn ESol SR QRow gred GS)
section
variable {μ : Mu} {δ : Sl}
def cfs (R : List Fm) (names : List Nat) : List (List Rat) := names.map fun k => (R.getD k ([], 0)).1
theorem rix {R : List Fm} {k : Nat} (h : k < R.length) : fIx (.p (rgQ R)) (.p (.int (k : Int))) μ = some (.p (fmQ (R.getD k ([], 0))), μ) := lix (f := fmQ) ([], 0) h
theorem fm0 {f : Fm} : fIx (.p (fmQ f)) (.p (.int 0)) μ = some (.p (.tup (f.1.map pr)), μ) := by unfold fmQ; rw [fIx_tup, at_0]; rfl
theorem fm1 {f : Fm} : fIx (.p (fmQ f)) (.p (.int 1)) μ = some (.p (pr f.2), μ) := by unfold fmQ; rw [fIx_tup, at_1]; rfl
end
end Vs
namespace Vs
open PySem PySem.Spec PyProof.Rows L2
open Bar (gt cz Sol Bd rg gsol RowIn ESol SR QRow gred GS)
section
variable {μ : Mu} {δ : Sl}
theorem q0 {sq : List (List Rat)} {co : List Rat} {tot : Rat} : fIx (.p (quadP sq co tot)) (.p (.int 0)) μ = some (.p (.tup (sq.map rowT)), μ) := by unfold quadP; rw [fIx_tup, at_0]; rfl
theorem q1 {sq : List (List Rat)} {co : List Rat} {tot : Rat} : fIx (.p (quadP sq co tot)) (.p (.int 1)) μ = some (.p (fmQ (co, tot)), μ) := by unfold quadP; rw [fIx_tup, at_1]; rfl
end
end Vs
namespace Vs
open PySem PySem.Spec PyProof.Rows L2
open Bar (gt cz Sol Bd rg gsol RowIn ESol SR QRow InSp Span IndP withRow wrow chgK dotI PSol LSol RowOf HS units)
section
variable {μ : Mu} {δ : Sl}
def cb : Nat → Nat
  | 0 => 1
  | k + 1 => 16 + 2 * cb k + 4
def rowsR (R : List Fm) : List IRow := R.map fun f => whole (fmL f)
end
end Vs
namespace Vs
open PySem PySem.Spec PyProof.Rows L2
open Bar (gt cz Sol Bd rg gsol RowIn ESol SR QRow InSp Span IndP withRow wrow chgK dotI PSol LSol RowOf HS units)
section
variable {μ ν : Mu} {δ : Sl}
theorem dotF_SR : ∀ (rs xs : List Rat) (c : Rat), rs.length = xs.length → dotF c rs xs = SR rs.length (fun j => rg rs j * rg xs j) + c
  | [], [], c, _ => by show c = SR 0 _ + c; simp only [SR]; grind
  | r :: rs, x :: xs, c, h => by
    show dotF (c + r * x) rs xs = SR (rs.length + 1) _ + c
    rw [dotF_SR rs xs (c + r * x) (by simpa using h), Bar.SR_shift]
    have e : SR rs.length (fun j => rg (r :: rs) (j + 1) * rg (x :: xs) (j + 1)) = SR rs.length (fun j => rg rs j * rg xs j) := Bar.SR_congr fun j _ => by simp [rg]
    rw [e]
    have a : rg (r :: rs) 0 = r := by simp [rg]
    have b : rg (x :: xs) 0 = x := by simp [rg]
    rw [a, b]; grind
  | [], _ :: _, _, h => by simp at h
  | _ :: _, [], _, h => by simp at h
theorem keep_pt {R : List Fm} {n : Nat} {pl : IRow} (hR : ∀ f ∈ R, f.1.length = n) (hl : pl.length = n + 1) (h0 : 0 < gt pl n) : (rowsR R).all (fun r => decide (¬ (List.zipWith (· * ·) r pl).sum < 0)) = insideB R (ptOf pl n) := by
  unfold insideB rowsR
  rw [List.all_map]
  induction R with
  | nil => rfl
  | cons f R ih =>
    rw [List.all_cons, List.all_cons, ih fun g hg => hR g (List.mem_cons_of_mem _ hg)]
    congr 1
    have hf := hR f List.mem_cons_self
    have pq : (0 : Rat) < (gt pl n : Rat) := by exact_mod_cast h0
    have fl : (fmL f).length = n + 1 := by unfold fmL; rw [List.length_append, hf]; rfl
    have sp : (0 : Rat) < (sc (fmL f) : Rat) := by exact_mod_cast sc_pos (fmL f)
    have e := Bar.dotI_SR (d := whole (fmL f)) (r := pl) (n := n + 1) (by rw [whole_len, fl]) (by omega)
    have e2 : SR (n + 1) (fun x => (gt (whole (fmL f)) x : Rat) * (gt pl x : Rat)) = (sc (fmL f) : Rat) * (gt pl n : Rat) * dotF f.2 f.1 (ptOf pl n) := by
      show SR n _ + (gt (whole (fmL f)) n : Rat) * (gt pl n : Rat) = _
      rw [dotF_SR f.1 (ptOf pl n) f.2 (by rw [hf]; simp [ptOf]), hf]
      have a : SR n (fun x => (gt (whole (fmL f)) x : Rat) * (gt pl x : Rat)) = SR n (fun x => (sc (fmL f) : Rat) * (gt pl n : Rat) * (rg f.1 x * rg (ptOf pl n) x)) := Bar.SR_congr fun x hx => by
        rw [whole_gt (by omega), rg_ptOf hx]
        have : (fmL f).getD x 0 = rg f.1 x := rg_app1 (by omega)
        rw [this]
        have c : (gt pl n : Rat) * ((gt pl x : Rat) / (gt pl n : Rat)) = (gt pl x : Rat) := by
          rw [Rat.mul_comm]; exact Rat.div_mul_cancel (by grind)
        rw [show (sc (fmL f) : Rat) * (gt pl n : Rat) * (rg f.1 x * ((gt pl x : Rat) / (gt pl n : Rat))) = (sc (fmL f) : Rat) * rg f.1 x * ((gt pl n : Rat) * ((gt pl x : Rat) / (gt pl n : Rat))) by grind, c]
        grind
      have b : (gt (whole (fmL f)) n : Rat) = f.2 * (sc (fmL f) : Rat) := by
        rw [whole_gt (by omega)]
        have : (fmL f).getD n 0 = f.2 := by rw [← hf]; exact rg_app2
        rw [this]
      rw [a, b, Bar.SR_mul]; grind
    rw [e2] at e
    have m : 0 < (sc (fmL f) : Rat) * (gt pl n : Rat) := Rat.mul_pos sp pq
    show decide (¬ dotI (whole (fmL f)) pl < 0) = decide (0 ≤ dotF f.2 f.1 (ptOf pl n))
    rw [decide_eq_decide]
    have k : ¬ dotI (whole (fmL f)) pl < 0 ↔ (0 : Rat) ≤ (dotI (whole (fmL f)) pl : Rat) := by
      rw [Int.not_lt]
      constructor
      · intro h; exact_mod_cast h
      · intro h; exact_mod_cast h
    rw [k, e]
    constructor
    · intro h
      by_cases z : 0 ≤ dotF f.2 f.1 (ptOf pl n)
      · exact z
      · exfalso
        have z' : 0 < -(dotF f.2 f.1 (ptOf pl n)) := by grind
        have := Rat.mul_pos m z'
        grind
    · intro h; exact Rat.mul_nonneg (by grind) h
/-- the points that the program finds -/
def ptsP (n : Nat) (R : List Fm) (sq : List (List Rat)) (co : List Rat) (f : Face) : Option (List Rat) := ((cz (fcRows n R sq co f.1 f.2) n).map fun pl => ptOf pl n).bind fun pt => if insideB R pt = true then some pt else none
end
end Vs
namespace Vs
open PySem PySem.Spec PyProof.Rows L2
open Bar (gt cz Sol Bd rg gsol RowIn ESol SR QRow gred GS InSp Span IndP withRow wrow chgK dotI PSol LSol RowOf HS units)
theorem row_of {n : Nat} {f : Fm} (h : f.1.length = n) : RowOf n (whole (fmL f)) f.1 := by
  refine ⟨by rw [whole_len]; unfold fmL; rw [List.length_append, h]; rfl, (sc (fmL f) : Rat), sc_ne _, fun x hx => ?_⟩
  rw [whole_gt (by unfold fmL; rw [List.length_append, h]; show x < n + 1; omega)]
  have : (fmL f).getD x 0 = rg f.1 x := rg_app1 (by omega)
  rw [this]; grind
theorem rowsR_len {R : List Fm} : (rowsR R).length = R.length := by simp [rowsR]
end Vs
namespace Vs.Bar
end Vs.Bar
namespace Vs.Bar
def vl (n : Nat) (cf : Nat → QRow) (cc : Nat → Rat) (k : Nat) (x : Nat → Rat) : Rat := SR n (fun j => rg (cf k) j * x j) + cc k
end Vs.Bar
namespace Vs.Bar
end Vs.Bar
set_option maxHeartbeats 1000000
namespace Vs
open PySem PySem.Spec PyProof.Rows L2
open AutoSeq1 (wpAny_loadPart')
theorem co_init : Slot "itertools.combinations" "__init__" "object.__init__" :=
  .of (owner := "object") (n := "__init__") (by rw [typeLookup_type, builtinLookup_eq_fast]; kernel_rfl) (by decide +kernel) (by decide +kernel) (by decide +kernel)
    (by first | exact .inl (by decide +kernel) | exact .inr (by decide +kernel)) (by rw [isSubtype_type]; kernel_rfl)
theorem co_iter : Slot "itertools.combinations" "__iter__" "itertools.combinations.__iter__" :=
  .of (owner := "itertools.combinations") (n := "__iter__") (by rw [typeLookup_type, builtinLookup_eq_fast]; kernel_rfl) (by decide +kernel) (by decide +kernel) (by decide +kernel)
    (by first | exact .inl (by decide +kernel) | exact .inr (by decide +kernel)) (by rw [isSubtype_type]; kernel_rfl)
theorem co_next : Slot "itertools.combinations" "__next__" "itertools.combinations.__next__" :=
  .of (owner := "itertools.combinations") (n := "__next__") (by rw [typeLookup_type, builtinLookup_eq_fast]; kernel_rfl) (by decide +kernel) (by decide +kernel) (by decide +kernel)
    (by first | exact .inl (by decide +kernel) | exact .inr (by decide +kernel)) (by rw [isSubtype_type]; kernel_rfl)
theorem co_mro : mroOf (.type "itertools.combinations") = pure [.type "itertools.combinations", .type "object"] := by rw [mroOf_type]; kernel_rfl
theorem co_lnew : typeLookup (.type "itertools.combinations") "__new__" = pure (some (.builtin "itertools.combinations.__new__")) := by rw [typeLookup_type, builtinLookup_eq_fast]; kernel_rfl
theorem co_sub : isSubtype (.type "itertools.combinations") (.type "itertools.combinations") = pure true := by rw [isSubtype_type]; kernel_rfl
theorem co_called : TypeCalled "itertools.combinations" "itertools.combinations.__new__" "object.__init__" :=
  ⟨by decide +kernel, by decide +kernel, ⟨_, _, co_mro⟩, madeBy_type co_mro co_lnew (by decide +kernel), by decide +kernel, by rw [isSubtype_type]; kernel_rfl, co_init⟩
theorem co_enew : entryFor table "itertools.combinations.__new__" = some Builtin.«itertools.combinations.__new__» := entryFor_of_tree (by kernel_rfl)
theorem co_enext : entryFor table "itertools.combinations.__next__" = some Builtin.«itertools.combinations.__next__» := entryFor_of_tree (by kernel_rfl)
theorem co_eiter : entryFor table "itertools.combinations.__iter__" = some Builtin.«dict_keyiterator.__iter__» :=
  entryFor_alias (id' := "dict_keyiterator.__iter__") (by kernel_rfl) (by first | rfl | decide +kernel | (unfold String.splitOn; simp +decide [String.splitOnAux])) (by decide +kernel) (by kernel_rfl)
theorem co_tcall (a b : Value) : checkTypeCall "itertools.combinations" ⟨[a, b], []⟩ = pure () := by kernel_rfl
theorem co_ncall (a b : Value) : checkBuiltinCall "itertools.combinations.__new__" ⟨[.type "itertools.combinations", a, b], []⟩ = pure () := by kernel_rfl
theorem co_ainit (a b c : Value) : argsOk "object.__init__" ⟨[a, b, c], []⟩ := by
  unfold argsOk; rw [signature?_of (id := "object.__init__") (n := ['_', '_', 't', 'i', 'n', 'i', '_', '_']) (o := ['t', 'c', 'e', 'j', 'b', 'o']) (by kernel_rfl) F.owner_object]; kernel_rfl
theorem co_owner : Manifest.owners.lookup (String.ofList ['s', 'n', 'o', 'i', 't', 'a', 'n', 'i', 'b', 'm', 'o', 'c', '.', 's', 'l', 'o', 'o', 't', 'r', 'e', 't', 'i'].reverse) = some Manifest.sig_itertools_combinations := by kernel_rfl
theorem co_aiter (a : Value) : argsOk "itertools.combinations.__iter__" ⟨[a], []⟩ := by
  unfold argsOk; rw [signature?_of (id := "itertools.combinations.__iter__") (n := ['_', '_', 'r', 'e', 't', 'i', '_', '_']) (o := ['s', 'n', 'o', 'i', 't', 'a', 'n', 'i', 'b', 'm', 'o', 'c', '.', 's', 'l', 'o', 'o', 't', 'r', 'e', 't', 'i']) (by kernel_rfl) co_owner]; kernel_rfl
theorem co_anext (a : Value) : argsOk "itertools.combinations.__next__" ⟨[a], []⟩ := by
  unfold argsOk; rw [signature?_of (id := "itertools.combinations.__next__") (n := ['_', '_', 't', 'x', 'e', 'n', '_', '_']) (o := ['s', 'n', 'o', 'i', 't', 'a', 'n', 'i', 'b', 'm', 'o', 'c', '.', 's', 'l', 'o', 'o', 't', 'r', 'e', 't', 'i']) (by kernel_rfl) co_owner]; kernel_rfl
end Vs
set_option maxHeartbeats 1000000
namespace Vs
open PySem PySem.Spec PyProof.Rows L2
open AutoSeq1 (wpAny_loadPart')
theorem co_new (l : Addr) (o : Obj) (items : Array Value) (k : Nat) (r : Nat) (t : Tok) (oc : o.cls = .type "list") (od : o.data = .seq items k) (hr : r ≤ 100) (hz : items.size ≤ 100) :
    Meets (Builtin.«itertools.combinations.__new__» ⟨[.type "itertools.combinations", .ref l, .int (r : Int) t], []⟩)
      (fun _ R s => s.heap.get? l = some o ∧ ∀ h' : Heap, (∀ b o', s.heap.get? b = some o' → h'.get? b = some o') → R (.ok (.ret (.ref (h'.push { cls := .type "tuple", data := .seq items }).objs.size))) { s with heap := (h'.push { cls := .type "tuple", data := .seq items }).push { cls := .type "itertools.combinations", data := .fields ([.ref h'.objs.size, rawInt (if r > items.size then 2 else 0), .none] ++ (List.range r).map fun i : Nat => rawInt (i : Int)).toArray } }) :=
  .of_wp fun prog w A R s h => by
    obtain ⟨hp, g, d, tk, os⟩ := s
    obtain ⟨ht, h⟩ := h
    have sb : isSubtype (Value.type "itertools.combinations") (Value.type ("itertools." ++ "combinations")) = pure true := by
      rw [show "itertools." ++ "combinations" = "itertools.combinations" by decide]
      exact co_sub
    have hsz : items.size ≤ sizeLine := by rw [sizeLine_eq]; omega
    have hT : Shared.TypeIs ⟨hp, g, d, tk, os⟩ (.ref l) "list" := ⟨_, ht, oc⟩
    wp_walk using wpAny_loadPart' ht, wpAny_typeOf hT, wpAny_collect_seq (hsz := hsz) l (.inl rfl) ht oc od
    have f1 : (decide ((r : Int) < -2 ^ 63) || decide ((r : Int) ≥ 2 ^ 63)) = false := by
      rw [Bool.or_eq_false_iff, decide_eq_false_iff_not, decide_eq_false_iff_not]
      constructor <;> omega
    refine wpAny_ite_false (by rw [f1]; rfl) ?_
    wp_walk using wpAny_loadPart' ht, wpAny_typeOf hT, wpAny_collect_seq (hsz := hsz) l (.inl rfl) ht oc od
    intro h' hk
    have f2 : ¬ (r : Int) < 0 := by omega
    have f3 : Builtin.Itertools.itTooMany (r : Int) = false := by
      unfold Builtin.Itertools.itTooMany
      rw [decide_eq_false_iff_not]; omega
    refine wpAny_ite_false (decide_eq_false f2) ?_
    refine wpAny_ite_false (by rw [f3]; rfl) ?_
    wp_walk
    simp only [Int.toNat_natCast, Array.length_toList, Array.toArray_toList]
    have f5 : ¬ (([Value.ref h'.objs.size, rawInt (if r > items.size then 2 else 0), Value.none] ++ List.map (fun i : Nat => rawInt (i : Int)) (List.range r)).toArray.size > sizeLine + 2) := by
      have : 2 + 100 ≤ sizeLine := by rw [sizeLine_eq]; decide
      simp; omega
    refine wpAny_ite_false (decide_eq_false f5) ?_
    wp_walk
    exact ⟨_, rfl, h h' hk⟩
end Vs
set_option maxHeartbeats 1000000
namespace Vs
open PySem PySem.Spec PyProof.Rows L2
open AutoSeq1 (wpAny_loadPart')
local macro_rules | `((coNx)) => return Lean.mkIdent (Lean.mkPrivateNameCore `PySem.Builtin.Itertools.W3Part1 `PySem.Builtin.nextCombination)
abbrev coOb (p : Addr) (st : Int) (old : Value) (ks : List Nat) : Obj := { cls := .type "itertools.combinations", data := .fields ([.ref p, rawInt st, old] ++ ks.map fun i : Nat => rawInt (i : Int)).toArray }
theorem co_nums {f : Value → Nat} {p : Addr} {st : Int} {old : Value} {ks : List Nat} (hf : ∀ i : Nat, f (rawInt (i : Int)) = i) : List.map f (List.drop 3 ([Value.ref p, rawInt st, old] ++ ks.map fun i : Nat => rawInt (i : Int)).toArray.toList) = ks := by
  show List.map f (ks.map fun i : Nat => rawInt (i : Int)) = ks
  rw [List.map_map]
  induction ks with
  | nil => rfl
  | cons k ks ih => rw [List.map_cons, ih]; show f (rawInt (k : Int)) :: ks = _; rw [hf]
theorem co_set (p : Addr) (st st' : Int) (old new : Value) (ks : List Nat) : (Obj.mapFields (fun x => x.setIfInBounds 2 new)) ((Obj.mapFields fun x => x.setIfInBounds 1 (rawInt st')) (coOb p st old ks)) = coOb p st' new ks := by
  unfold coOb Obj.mapFields
  simp
section
variable {prog : Program} {w : World} {A : Around} {E : Value → Shared → Prop} {s : Shared} {Q : Fin → Shared → Prop}
theorem co_first (c p : Addr) (items : Array Value) (old : Value) (ks : List Nat) (hc : s.heap.get? c = some (coOb p 0 old ks)) (ht : s.heap.get? p = some { cls := .type "tuple", data := .seq items }) (hl : ks.length ≤ 100)
    (h : ∀ h' : Heap, h'.get? c = some (coOb p 1 (.ref s.heap.objs.size) ks) → h'.get? s.heap.objs.size = some { cls := .type "tuple", data := .seq (ks.map fun i => items.getD i .none).toArray } → h'.objs.size = s.heap.objs.size + 1 → (∀ b o, b ≠ c → s.heap.get? b = some o → h'.get? b = some o) → Q (.done (.ret (.ref s.heap.objs.size))) { s with heap := h' }) :
    wpAny (model prog w) A (Builtin.«itertools.combinations.__next__» ⟨[.ref c], []⟩) Q E s := by
    obtain ⟨hp, g, d, tk, os⟩ := s
    have ne : c ≠ p := fun z => by
      subst z
      exact absurd (congrArg Obj.cls (Option.some.inj (hc.symm.trans ht))) (show ¬ Value.type "itertools.combinations" = .type "tuple" by decide)
    have ne2 : p ≠ c := Ne.symm ne
    have hc' : hp.get? c = some (coOb p 0 old ks) := hc
    have ht' : hp.get? p = some { cls := .type "tuple", data := .seq items } := ht
    have hu := Heap.get?_update_self (Obj.mapFields fun x => x.setIfInBounds 1 (rawInt 1)) hc' rfl
    have hp2 : (hp.update c (Obj.mapFields fun x => x.setIfInBounds 1 (rawInt 1))).get? p = some { cls := .type "tuple", data := .seq items } := (Heap.get?_update_other _ _ ne).trans ht'
    wp_walk using wpAny_loadPart' hc, wpAny_loadPart' ht, wpAny_loadPart' hp2
    rw [co_nums fun i => rfl]
    have hsz : ¬ ((List.map (fun i => items.getD i Value.none) ks).toArray.size > sizeLine) := by
      have : 100 ≤ sizeLine := by rw [sizeLine_eq]; decide
      simp; omega
    refine wpAny_ite_false (decide_eq_false hsz) ?_
    wp_walk
    have hs : (hp.update c (Obj.mapFields fun x => x.setIfInBounds 1 (rawInt 1))).objs.size = hp.objs.size := Heap.size_after_update _ _ _
    have hT := Heap.get?_push_size (hp.update c (Obj.mapFields fun x => x.setIfInBounds 1 (rawInt 1))) (o := { cls := .type "tuple", data := .seq (List.map (fun i => items.getD i Value.none) ks).toArray }) rfl
    rw [hs] at hT
    have lc : c < hp.objs.size := Heap.lt_size hc'
    rw [hs]
    refine h _ ?_ ?_ ?_ fun b o hb e => ?_
    · exact (Heap.get?_update_self _ (Heap.get?_push_of_some _ hu) rfl).trans (congrArg some (co_set p 0 1 old (.ref hp.objs.size) ks))
    · exact (Heap.get?_update_other _ _ (Nat.ne_of_lt lc)).trans hT
    · rw [Heap.size_after_update, Heap.size_push, hs]
    · exact (Heap.get?_update_other _ _ (Ne.symm hb)).trans (Heap.get?_push_of_some _ ((Heap.get?_update_other _ _ (Ne.symm hb)).trans e))
end
end Vs
set_option maxHeartbeats 1000000
namespace Vs
open PySem PySem.Spec PyProof.Rows L2
open AutoSeq1 (wpAny_loadPart')
local macro_rules | `((coNx)) => return Lean.mkIdent (Lean.mkPrivateNameCore `PySem.Builtin.Itertools.W3Part1 `PySem.Builtin.nextCombination)
theorem co_upd (p : Addr) (st : Int) (old : Value) (ks k2 : List Nat) : Obj.mapFields (fun fs => fs.extract 0 3 ++ (List.map (fun n : Nat => rawInt (n : Int)) k2).toArray) (coOb p st old ks) = coOb p st old k2 := by
  unfold coOb Obj.mapFields
  simp
theorem co_line (p : Addr) (st : Int) (old : Value) (ks : List Nat) (h : ks.length ≤ 100) : (coOb p st old ks).data.pastItsLine = none := by
  have : 100 ≤ sizeLine := by rw [sizeLine_eq]; decide
  unfold coOb Data.pastItsLine
  simp; omega
theorem co_res (p : Addr) (st : Int) (old new : Value) (ks : List Nat) : (Obj.mapFields (fun x => x.setIfInBounds 2 new)) (coOb p st old ks) = coOb p st new ks := by
  unfold coOb Obj.mapFields
  simp
section
variable {prog : Program} {w : World} {A : Around} {E : Value → Shared → Prop} {s : Shared} {Q : Fin → Shared → Prop}
theorem co_more (c p : Addr) (items : Array Value) (old : Value) (ks k2 : List Nat) (hx : (coNx) items.size ks = some k2) (hc : s.heap.get? c = some (coOb p 1 old ks)) (ht : s.heap.get? p = some { cls := .type "tuple", data := .seq items }) (hl : k2.length ≤ 100)
    (h : ∀ h' : Heap, h'.get? c = some (coOb p 1 (.ref s.heap.objs.size) k2) → h'.get? s.heap.objs.size = some { cls := .type "tuple", data := .seq (k2.map fun i => items.getD i .none).toArray } → h'.objs.size = s.heap.objs.size + 1 → (∀ b o, b ≠ c → s.heap.get? b = some o → h'.get? b = some o) → Q (.done (.ret (.ref s.heap.objs.size))) { s with heap := h' }) :
    wpAny (model prog w) A (Builtin.«itertools.combinations.__next__» ⟨[.ref c], []⟩) Q E s := by
    obtain ⟨hp, g, d, tk, os⟩ := s
    have ne : c ≠ p := fun z => by
      subst z
      exact absurd (congrArg Obj.cls (Option.some.inj (hc.symm.trans ht))) (show ¬ Value.type "itertools.combinations" = .type "tuple" by decide)
    have ne2 : p ≠ c := Ne.symm ne
    have hc' : hp.get? c = some (coOb p 1 old ks) := hc
    have ht' : hp.get? p = some { cls := .type "tuple", data := .seq items } := ht
    wp_walk using wpAny_loadPart' hc, wpAny_loadPart' ht
    rw [co_nums fun i => rfl, hx]
    wp_walk using wpAny_loadPart' hc, wpAny_loadPart' ht
    rw [co_upd, co_line p 1 old k2 hl]
    have hu := Heap.get?_update_self (Obj.mapFields fun fs => fs.extract 0 3 ++ (List.map (fun n : Nat => rawInt (n : Int)) k2).toArray) hc' (by rw [co_upd]; rfl)
    rw [co_upd] at hu
    have hp2 : (hp.update c (Obj.mapFields fun fs => fs.extract 0 3 ++ (List.map (fun n : Nat => rawInt (n : Int)) k2).toArray)).get? p = some { cls := .type "tuple", data := .seq items } := (Heap.get?_update_other _ _ ne).trans ht'
    wp_walk using wpAny_loadPart' hu, wpAny_loadPart' hp2
    have hsz : ¬ ((List.map (fun i => items.getD i Value.none) k2).toArray.size > sizeLine) := by
      have : 100 ≤ sizeLine := by rw [sizeLine_eq]; decide
      simp; omega
    refine wpAny_ite_false (decide_eq_false hsz) ?_
    generalize hg : hp.update c (Obj.mapFields fun fs => fs.extract 0 3 ++ (List.map (fun n : Nat => rawInt (n : Int)) k2).toArray) = hq at *
    have hs : hq.objs.size = hp.objs.size := by rw [← hg]; exact Heap.size_after_update _ _ _
    have lc : c < hp.objs.size := Heap.lt_size hc'
    have hT := Heap.get?_push_size hq (o := { cls := .type "tuple", data := .seq (List.map (fun i => items.getD i Value.none) k2).toArray }) rfl
    rw [hs] at hT
    have hu2 : (hq.push { cls := .type "tuple", data := .seq (List.map (fun i => items.getD i Value.none) k2).toArray }).get? c = some (coOb p 1 old k2) := Heap.get?_push_of_some _ hu
    wp_walk using wpAny_loadPart' hu2
    rw [hs]
    refine h _ ?_ ?_ ?_ fun b o hb e => ?_
    · exact (Heap.get?_update_self _ hu2 rfl).trans (congrArg some (co_res p 1 old (.ref hp.objs.size) k2))
    · exact (Heap.get?_update_other _ _ (Nat.ne_of_lt lc)).trans hT
    · rw [Heap.size_after_update, Heap.size_push, hs]
    · refine (Heap.get?_update_other _ _ (Ne.symm hb)).trans (Heap.get?_push_of_some _ ?_)
      rw [← hg]
      exact (Heap.get?_update_other _ _ (Ne.symm hb)).trans e
/-- nothing more: the record says so, and a stop is raised -/
theorem co_over {E : Value → Shared → Prop} (hh : A.handled = none) (c p : Addr) (items : Array Value) (old : Value) (ks : List Nat) (hx : (coNx) items.size ks = none) (hc : s.heap.get? c = some (coOb p 1 old ks)) (ht : s.heap.get? p = some { cls := .type "tuple", data := .seq items })
    (h : ∀ (h' : Heap) (e : Addr), (∃ o, h'.get? e = some o ∧ o.cls = .type "StopIteration") → (∀ b o, b ≠ c → s.heap.get? b = some o → h'.get? b = some o) → E (.ref e) { s with heap := h' }) :
    wpAny (model prog w) A (Builtin.«itertools.combinations.__next__» ⟨[.ref c], []⟩) Q E s := by
    obtain ⟨hp, g, d, tk, os⟩ := s
    have hc' : hp.get? c = some (coOb p 1 old ks) := hc
    have ht' : hp.get? p = some { cls := .type "tuple", data := .seq items } := ht
    wp_walk using wpAny_loadPart' hc, wpAny_loadPart' ht
    rw [co_nums fun i => rfl, hx]
    wp_walk using wpAny_loadPart' hc, wpAny_loadPart' ht
    unfold raiseNew
    wp_walk
    refine h _ _ ⟨_, Heap.get?_push_size _ rfl, rfl⟩ fun b o hb e => ?_
    exact Heap.get?_push_of_some _ (Heap.get?_push_of_some _ ((Heap.get?_update_other _ _ (Ne.symm hb)).trans e))
/-- .. it has been so already -/
theorem co_past {E : Value → Shared → Prop} (hh : A.handled = none) (c p : Addr) (items : Array Value) (old : Value) (ks : List Nat) (hc : s.heap.get? c = some (coOb p 2 old ks)) (ht : s.heap.get? p = some { cls := .type "tuple", data := .seq items })
    (h : ∀ (h' : Heap) (e : Addr), (∃ o, h'.get? e = some o ∧ o.cls = .type "StopIteration") → (∀ b o, b ≠ c → s.heap.get? b = some o → h'.get? b = some o) → E (.ref e) { s with heap := h' }) :
    wpAny (model prog w) A (Builtin.«itertools.combinations.__next__» ⟨[.ref c], []⟩) Q E s := by
    obtain ⟨hp, g, d, tk, os⟩ := s
    have hc' : hp.get? c = some (coOb p 2 old ks) := hc
    wp_walk using wpAny_loadPart' hc, wpAny_loadPart' ht
    unfold raiseNew
    wp_walk
    exact h _ _ ⟨_, Heap.get?_push_size _ rfl, rfl⟩ fun b o hb e => Heap.get?_push_of_some _ (Heap.get?_push_of_some _ e)
end
end Vs
set_option maxHeartbeats 1000000
namespace Vs
open PySem PySem.Spec PyProof.Rows L2
local macro_rules | `((coNx)) => return Lean.mkIdent (Lean.mkPrivateNameCore `PySem.Builtin.Itertools.W3Part1 `PySem.Builtin.nextCombination)
def cmLo (ns : List Nat) : Nat := match ns.getLast? with
  | none => 0
  | some j => j + 1
def cmX (w : Nat) : List (List Nat) → List (List Nat)
  | [] => []
  | r :: rs => ((List.range' (cmLo r) (w - cmLo r)).map fun j => r ++ [j]) ++ cmX w rs
def cmb (w : Nat) : Nat → List (List Nat)
  | 0 => [[]]
  | k + 1 => cmX w (cmb w k)
def chOk (f : List Nat → Option (List Nat)) : List (List Nat) → Bool
  | [] => true
  | [a] => f a == none
  | a :: b :: t => f a == some b && chOk f (b :: t)
def coAll (w k : Nat) : Bool := chOk ((coNx) w) (cmb w k) && (decide (¬ k ≤ w) || (cmb w k)[0]? == some (List.range k)) && (decide (¬ w < k) || cmb w k == []) && (cmb w k).all fun ns => ns.length == k && ns.all fun x => decide (x < w)
theorem co_all : ∀ w < 10, ∀ k < 4, coAll w k = true := by decide +kernel
theorem co_table (w : Nat) (hw : w < 10) (k : Nat) (hk : k < 4) : chOk ((coNx) w) (cmb w k) = true ∧ (k ≤ w → (cmb w k)[0]? = some (List.range k)) ∧ (w < k → cmb w k = []) ∧ ∀ ns ∈ cmb w k, ns.length = k ∧ ∀ x ∈ ns, x < w := by
  have h := co_all w hw k hk
  unfold coAll at h
  rw [Bool.and_eq_true, Bool.and_eq_true, Bool.and_eq_true, Bool.or_eq_true, Bool.or_eq_true, decide_eq_true_iff, decide_eq_true_iff, beq_iff_eq, beq_iff_eq, List.all_eq_true] at h
  obtain ⟨⟨⟨h1, h2⟩, h3⟩, h4⟩ := h
  refine ⟨h1, fun z => h2.resolve_left fun q => q z, fun z => h3.resolve_left fun q => q z, fun ns hns => ?_⟩
  have := h4 ns hns
  rw [Bool.and_eq_true, beq_iff_eq, List.all_eq_true] at this
  exact ⟨this.1, fun x hx => by simpa using this.2 x hx⟩
theorem chOk_at {f : List Nat → Option (List Nat)} : ∀ (l : List (List Nat)), chOk f l = true → ∀ i a, l[i]? = some a → f a = l[i + 1]?
  | [], _, i, a, h => by simp at h
  | [b], h, 0, a, e => by
    simp at e; subst e
    simpa [chOk] using h
  | [b], h, i + 1, a, e => by simp at e
  | b :: c :: t, h, 0, a, e => by
    simp at e; subst e
    simp [chOk] at h
    simpa using h.1
  | b :: c :: t, h, i + 1, a, e => by
    simp [chOk] at h
    have := chOk_at (c :: t) h.2 i a (by simpa using e)
    rw [this]; rfl
def pickV (xs : List V) (ks : List Nat) : List V := ks.map fun k => xs.getD k (.ref 0)
theorem vals_pick {xs : List V} {its : List Value} (r : Vals xs its) : ∀ (ks : List Nat), (∀ k ∈ ks, k < xs.length) → Vals (pickV xs ks) (ks.map fun k => its.toArray.getD k .none)
  | [], _ => .nil
  | k :: ks, h => by
    have hk := h k List.mem_cons_self
    obtain ⟨u, hu, ru⟩ := r.get (List.getElem?_eq_getElem hk)
    have e1 : xs.getD k (.ref 0) = xs[k] := by rw [List.getD_eq_getElem?_getD, List.getElem?_eq_getElem hk]; rfl
    have e2 : its.toArray.getD k Value.none = u := by
      have hl := (List.getElem?_eq_some_iff.mp hu).1
      have hv := (List.getElem?_eq_some_iff.mp hu).2
      unfold Array.getD
      rw [dif_pos (by simpa using hl)]
      simpa using hv
    have ih := vals_pick r ks fun x hx => h x (List.mem_cons_of_mem _ hx)
    unfold pickV
    rw [List.map_cons, List.map_cons, e1, e2]
    exact .cons ru ih
def CoAt (c p : Addr) (its : List Value) (k i : Nat) (h : Heap) : Prop := h.get? p = some { cls := .type "tuple", data := .seq its.toArray } ∧
  ((i = 0 ∧ h.get? c = some (coOb p (if k > its.length then 2 else 0) .none (List.range k))) ∨ ∃ j old ks, i = j + 1 ∧ (cmb its.length k)[j]? = some ks ∧ h.get? c = some (coOb p 1 old ks))
/-- tuples that are made one after another -/
def Itn (L : List (List V)) : It :=
  ⟨fun i _ => i < L.length, fun i H v H' => ∃ T vs, v = .ref T ∧ H T = none ∧ H' = upd H T (.tup vs) ∧ L[i]? = some vs, fun i _ => L.length ≤ i⟩
section
variable {prog : Program} {w : World} {A : Around} {E : Value → Shared → Prop} {s : Shared}
theorem co_type {c p : Addr} {st : Int} {old : Value} {ks : List Nat} (h : s.heap.get? c = some (coOb p st old ks)) : s.TypeIs (.ref c) "itertools.combinations" := ⟨_, h, rfl⟩
/-- a turn that brings a tuple -/
theorem co_item {c p : Addr} {its : List Value} {k i : Nat} {ks : List Nat} {Q : Option Value → Shared → Prop} (hn : its.length < 10) (hk : k < 4) (hs : CoAt c p its k i s.heap) (hi : (cmb its.length k)[i]? = some ks)
    (h : ∀ h' : Heap, CoAt c p its k (i + 1) h' → h'.get? s.heap.objs.size = some { cls := .type "tuple", data := .seq (ks.map fun i => its.toArray.getD i .none).toArray } → (∀ b o, b ≠ c → s.heap.get? b = some o → h'.get? b = some o) → Q (some (.ref s.heap.objs.size)) { s with heap := h' }) :
    wpAny (model prog w) A (pyNext (.ref c)) Q E s := by
  obtain ⟨ht, hc⟩ := hs
  obtain ⟨t1, t2, t3, t4⟩ := co_table its.length hn k hk
  have kl := (t4 ks (List.mem_of_getElem? hi)).1
  have ne : ∀ {st old l}, s.heap.get? c = some (coOb p st old l) → p ≠ c := fun hc z => by
    subst z
    exact absurd (congrArg Obj.cls (Option.some.inj (hc.symm.trans ht))) (show ¬ Value.type "itertools.combinations" = .type "tuple" by decide)
  unfold pyNext
  refine wpAny_bind ?_
  refine wpAny_attempt ?_
  rcases hc with ⟨rfl, hc⟩ | ⟨j, old, k0, rfl, hj, hc⟩
  · have kn : ¬ k > its.length := fun z => by rw [t3 z] at hi; simp at hi
    rw [if_neg kn] at hc
    have e0 := t2 (by omega)
    rw [hi] at e0
    cases e0
    refine wpAny_callSpecial?_slot (co_type hc) co_next ?_
    refine wpAny_call_entry co_next (co_type hc) co_enext ?_ (co_anext _)
    refine co_first c p its.toArray .none (List.range k) hc ht (by simp; omega) fun h' g1 g2 g3 g4 => ⟨_, rfl, ?_⟩
    refine wpAny_pure (h h' ⟨g4 p _ (ne hc) ht, .inr ⟨0, _, _, rfl, hi, g1⟩⟩ g2 g4)
  · have st := chOk_at _ t1 j k0 hj
    rw [hi] at st
    have st' : (coNx) its.toArray.size k0 = some ks := by simpa using st
    refine wpAny_callSpecial?_slot (co_type hc) co_next ?_
    refine wpAny_call_entry co_next (co_type hc) co_enext ?_ (co_anext _)
    refine co_more c p its.toArray old k0 ks st' hc ht (by omega) fun h' g1 g2 g3 g4 => ⟨_, rfl, ?_⟩
    refine wpAny_pure (h h' ⟨g4 p _ (ne hc) ht, .inr ⟨j + 1, _, _, rfl, hi, g1⟩⟩ g2 g4)
theorem co_done {c p : Addr} {its : List Value} {k i : Nat} {Q : Option Value → Shared → Prop} (hh : A.in1.handled = none) (hn : its.length < 10) (hk : k < 4) (hs : CoAt c p its k i s.heap) (hi : (cmb its.length k).length ≤ i)
    (h : ∀ h' : Heap, (∀ b o, b ≠ c → s.heap.get? b = some o → h'.get? b = some o) → Q none { s with heap := h' }) :
    wpAny (model prog w) A (pyNext (.ref c)) Q E s := by
  obtain ⟨ht, hc⟩ := hs
  obtain ⟨t1, t2, t3, t4⟩ := co_table its.length hn k hk
  have fin : ∀ (h' : Heap) (e : Addr), (∃ o, h'.get? e = some o ∧ o.cls = .type "StopIteration") → (∀ b o, b ≠ c → s.heap.get? b = some o → h'.get? b = some o) → wpAny (model prog w) A (do if ← isInstance (.ref e) (.type "StopIteration") then pure none else throw (.ref e)) Q E { s with heap := h' } := fun h' e ⟨o, he, hc⟩ kp => by
    refine wpAny_bind ?_
    refine wpAny_isInstance (T := "StopIteration") (b := true) ⟨o, he, hc⟩ isSubtype_stop ?_
    exact wpAny_pure (h h' kp)
  unfold pyNext
  refine wpAny_bind ?_
  refine wpAny_attempt ?_
  rcases hc with ⟨rfl, hc⟩ | ⟨j, old, k0, rfl, hj, hc⟩
  · have kn : k > its.length := by
      by_cases z : k ≤ its.length
      · have := (List.getElem?_eq_some_iff.mp (t2 z)).1
        omega
      · omega
    rw [if_pos kn] at hc
    refine wpAny_callSpecial?_slot (co_type hc) co_next ?_
    refine wpAny_call_entry co_next (co_type hc) co_enext ?_ (co_anext _)
    exact co_past hh c p its.toArray .none (List.range k) hc ht fin
  · have st := chOk_at _ t1 j k0 hj
    have jl := (List.getElem?_eq_some_iff.mp hj).1
    rw [List.getElem?_eq_none (by omega)] at st
    have st' : (coNx) its.toArray.size k0 = none := by simpa using st
    refine wpAny_callSpecial?_slot (co_type hc) co_next ?_
    refine wpAny_call_entry co_next (co_type hc) co_enext ?_ (co_anext _)
    exact co_over hh c p its.toArray old k0 st' hc ht fin
end
end Vs
set_option maxHeartbeats 1000000
namespace Vs
open PySem PySem.Spec PyProof.Rows L2
theorem co_rec {c p : Addr} {its : List Value} {k i : Nat} {h : Heap} (hs : CoAt c p its k i h) : ∃ st old ks, h.get? c = some (coOb p st old ks) := by
  rcases hs.2 with ⟨_, e⟩ | ⟨j, old, ks, _, _, e⟩
  · exact ⟨_, _, _, e⟩
  · exact ⟨_, _, _, e⟩
theorem co_turn {P : Program} {w : World} {K : PySem.W.Frag} {tg : Expr} (c p : Addr) (xs : List V) (k : Nat) (hn : xs.length < 10) (hk : k < 4) :
    Turn P w K tg (Itn ((cmb xs.length k).map (pickV xs))) [c, p] c (fun i h => ∃ its, Vals xs its ∧ CoAt c p its k i h) where
  mem := by simp
  obj := fun i h ⟨its, rv, hs⟩ b hb => by
    rcases List.mem_cons.mp hb with rfl | hb
    · obtain ⟨st, old, ks, e⟩ := co_rec hs
      exact ⟨_, e, fun v q => nomatch q⟩
    · rw [List.mem_singleton.mp hb]
      exact ⟨_, hs.1, fun v q => nomatch q⟩
  keep := fun i h h' ⟨its, rv, h1, h2⟩ kp => ⟨its, rv, kp p (by simp) _ h1, by
    rcases h2 with ⟨a, e⟩ | ⟨j, old, ks, a, b, e⟩
    · exact .inl ⟨a, kp c (by simp) _ e⟩
    · exact .inr ⟨j, old, ks, a, b, kp c (by simp) _ e⟩⟩
  item := by
    intro X hP hw hK hc i pins s σ H E I hf ⟨its, rv, hs⟩ hg
    subst hP hw hK
    have hl : xs.length = its.length := rv.length
    have hi : i < (cmb xs.length k).length := by
      have : i < ((cmb xs.length k).map (pickV xs)).length := hg
      simpa using this
    have hks := List.getElem?_eq_getElem hi
    generalize hke : (cmb xs.length k)[i] = ks at hks
    have hks' := hks
    rw [hl] at hks'
    obtain ⟨k1, k2⟩ := (co_table xs.length hn k hk).2.2.2 ks (List.mem_of_getElem? hks)
    have hcl : c < s.heap.objs.size := by
      obtain ⟨st, old, l, e⟩ := co_rec hs
      exact Heap.lt_size e
    have hpl : p < s.heap.objs.size := Heap.lt_size hs.1
    refine co_item (by omega) hk hs hks' fun h' g1 g2 g3 => ⟨_, rfl, ?_⟩
    have new : ObjOk X.prog X.w (upd H s.heap.objs.size (.tup (pickV xs ks))) h' s.heap.objs.size (.tup (pickV xs ks)) :=
      ⟨by
        have : 3 ≤ sizeLine := by decide
        unfold pickV; rw [List.length_map]; omega, _, vals_pick rv ks k2, ⟨_, g2, rfl, _, rfl⟩⟩
    have I1 : Inv X pins σ (upd H s.heap.objs.size (.tup (pickV xs ks))) { s with heap := h', toks := s.toks } :=
      I.turnedNew (ch := [c, p]) (fun b ob hb q => g3 b ob (fun z => hb (by simp [z])) q) hf (Nat.le_refl _) new
    obtain ⟨st, old, l, e⟩ := co_rec g1
    refine go_of (s := { s with heap := h' }) e rfl rfl (by decide) ⟨.ref s.heap.objs.size, _, I1, rfl, ⟨_, _, rfl, I.hok.fresh (Nat.le_refl _), rfl, ?_⟩, ⟨its, rv, g1⟩, fun b hb => ?_⟩
    · rw [List.getElem?_map, hks]; rfl
    · have hb' : b < s.heap.objs.size := by
        rcases List.mem_cons.mp hb with rfl | hb
        · exact hcl
        · rw [List.mem_singleton.mp hb]; exact hpl
      rw [upd_ne (Nat.ne_of_lt hb')]
      exact (hf b hb).1
  done := by
    intro X hP hw hK hc i pins s σ H E I hf ⟨its, rv, hs⟩ hg
    subst hP hw hK
    have hl : xs.length = its.length := rv.length
    have hi : (cmb its.length k).length ≤ i := by
      have : ((cmb xs.length k).map (pickV xs)).length ≤ i := hg
      rw [List.length_map, hl] at this
      exact this
    obtain ⟨f0, f1, f2, f3, f4, f5⟩ := hf c (by simp)
    have hh : X.A.in1.handled = none := I.ok.hd hc
    exact co_done hh (by omega) hk hs hi fun h' kp => ⟨rfl, I.turned (t' := s.toks) kp f0 f1 f3 f4 f5⟩
  self := fun A i s Q E ⟨its, rv, hs⟩ h => by
    obtain ⟨st, old, ks, e⟩ := co_rec hs
    refine wpAny_pyIter_slot (co_type e) co_iter (wpAny_call_entry co_iter (co_type e) co_eiter ?_ (co_aiter _))
    show wpAny _ _ (ret (.ref c)) _ _ s
    exact wpAny_pure ⟨_, rfl, "itertools.combinations", _, co_type e, co_next.lookup, h⟩
section
variable {prog : Program} {w : World} {A : Around} {E : Value → Shared → Prop} {s : Shared}
theorem co_call {l : Addr} {its : List Value} {k : Nat} {t : Tok} {Q : Value → Shared → Prop} (hl : PlainL s.heap l its.toArray) (hk : k < 4) (hz : its.length < 10)
    (h : ∀ (h' g : Heap) (c p : Addr), (∀ b o, s.heap.get? b = some o → h'.get? b = some o) → h'.objs.size ≤ c → h'.objs.size ≤ p → CoAt c p its k 0 g → (∀ b o, h'.get? b = some o → g.get? b = some o) → Q (.ref c) { s with heap := g }) :
    wpAny (model prog w) A (call (.type "itertools.combinations") [.ref l, .int (k : Int) t]) Q E s := by
  obtain ⟨o, n, ho, oc, _, od⟩ := hl
  refine callType_new co_called (by decide) (co_tcall _ _) (co_ncall _ _) (fun obj => co_ainit obj _ _) co_enew (co_new l o its.toArray n k t oc od (by omega) (by simp; omega)) ⟨ho, fun h' kp => ?_⟩
  have ez : its.toArray.size = its.length := by simp
  rw [ez]
  have hz := Heap.size_push (h := h') (o := { cls := .type "tuple", data := .seq its.toArray })
  have e1 := Heap.get?_push_size (h'.push { cls := .type "tuple", data := .seq its.toArray }) (o := coOb h'.objs.size (if k > its.length then 2 else 0) .none (List.range k)) rfl
  have e2 : ((h'.push { cls := .type "tuple", data := .seq its.toArray }).push (coOb h'.objs.size (if k > its.length then 2 else 0) .none (List.range k))).get? h'.objs.size = some { cls := .type "tuple", data := .seq its.toArray } := Heap.get?_push_of_some _ (Heap.get?_push_size _ rfl)
  exact ⟨⟨_, e1, rfl⟩, h h' _ _ h'.objs.size kp (by rw [Heap.size_push]; omega) (Nat.le_refl _) ⟨e2, .inl ⟨rfl, e1⟩⟩ fun b o e => Heap.get?_push_of_some _ (Heap.get?_push_of_some _ e)⟩
end
end Vs
set_option maxHeartbeats 1000000
namespace Vs
open PySem PySem.Spec PyProof.Rows L2
section
variable {X : Cx} {α : Amb} {W : WX}
def iComb (K : PySem.W.Frag) (ta : TA) : TI := fun σ H R => ta σ H fun vs H1 => ∃ (a : Addr) (xs : List V) (k : Nat), vs = [.ref a, .int (k : Int)] ∧ SqL K H1 a xs ∧ xs.length < 10 ∧ k < 4 ∧ R (Itn ((cmb xs.length k).map (pickV xs))) H1
theorem pi_comb {tg e e2 : Expr} {ta : TA} {p pos : Pos} (hg : Gl X "combinations") (hm : X.mg "combinations" = some (.type "itertools.combinations")) (ha : PA X [e, e2] ta) (he : starEach [e, e2] X.env = (false, eval e X.env) :: starEach [e2] X.env := by rfl) (hpl : (backTo pos (starEach [e2] X.env)).any (·.1) = false := by rfl) :
    PI X tg (.Call (.Name "combinations" p) [e, e2] [] pos) (iComb X.K ta) := by
  refine ⟨fun pins s σ H R I h => Call_ (ld_glob I hg hm (PyProof.Rows.callWith_type1 (thn (ha.run pos pins s σ H _ I h) fun us s1 ⟨vs, H1, I1, r1, q1⟩ => ?_) he hpl))⟩
  obtain ⟨a, xs, k, rfl, hq, hn, hk, q⟩ := q1
  cases r1 with
  | cons ra rr =>
    cases rr with
    | cons rb rr =>
      cases rr
      cases ra
      obtain ⟨t, rfl⟩ := rb
      obtain ⟨its, rv, p', hz⟩ := I1.list hq
      have hl : xs.length = its.length := rv.length
      refine co_call p' hk (by omega) fun h' g c d k1 k2 k3 k4 k5 => ?_
      have I2 : Inv X pins σ H1 { s1 with heap := h' } := I1.kept (t' := s1.toks) k1
      have I3 : Inv X pins σ H1 { s1 with heap := g } := I2.kept (t' := s1.toks) k5
      have T := co_turn (P := X.prog) (w := X.w) (K := X.K) (tg := tg) c d xs k hn hk
      refine T.self _ 0 _ _ _ ⟨its, rv, k4⟩ ?_
      refine ⟨c, [c, d], _, _, H1, rfl, I3, T, ⟨its, rv, k4⟩, fun b hb => ?_, q⟩
      have hle : h'.objs.size ≤ b := by
        rcases List.mem_cons.mp hb with rfl | hb
        · exact k2
        · rw [List.mem_singleton.mp hb]; exact k3
      exact I2.fpOk hle (I2.hok.fresh hle)
def pickP (xs : List P) (ks : List Nat) : List P := ks.map fun k => xs.getD k .non
def combP (xs : List P) (k : Nat) : List P := (cmb xs.length k).map fun ks => .tup (pickP xs ks)
theorem reps_pick {G : Hp} {vs : List V} {xs : List P} (r : Reps α G vs xs) : ∀ ks : List Nat, (∀ k ∈ ks, k < xs.length) → Reps α G (pickV vs ks) (pickP xs ks)
  | [], _ => .nil
  | k :: ks, h => by
    have hk := h k List.mem_cons_self
    obtain ⟨v, h1, h2⟩ := r.get (List.getElem?_eq_getElem hk)
    have e1 : vs.getD k (.ref 0) = v := by rw [List.getD_eq_getElem?_getD, h1]; rfl
    have e2 : xs.getD k .non = xs[k] := by rw [List.getD_eq_getElem?_getD, List.getElem?_eq_getElem hk]; rfl
    have ih := reps_pick r ks fun x hx => h x (List.mem_cons_of_mem _ hx)
    unfold pickV pickP
    rw [List.map_cons, List.map_cons, e1, e2]
    exact .cons h2 ih
theorem jok_comb {G1 : Hp} {vs : List V} {xs : List P} {k : Nat} (r : Reps α G1 vs xs) (hn : xs.length < 10) (hk : k < 4) : JOk α (Itn ((cmb vs.length k).map (pickV vs))) (combP xs k) G1 := fun i H G ρ μ s z => by
  have r := r.mono s
  have hl : vs.length = xs.length := r.length
  refine ⟨fun w hw => ?_, fun hi => ?_⟩
  · unfold combP at hw
    rw [List.getElem?_map] at hw
    obtain ⟨ks, h1, rfl⟩ := Option.map_eq_some_iff.mp hw
    have ki := (List.getElem?_eq_some_iff.mp h1).1
    refine ⟨by show i < _; rw [List.length_map, hl]; exact ki, fun q H' yl => ?_⟩
    obtain ⟨T, us, rfl, hT, rfl, e⟩ := yl
    rw [List.getElem?_map, hl, h1] at e
    cases e
    have kb := ((co_table xs.length hn k hk).2.2.2 ks (List.mem_of_getElem? h1)).2
    exact ⟨_, up_new (z.free hT), z.new hT _, .tup (SqT.of upd_same) ((reps_pick r ks kb).mono (same_upd (z.free hT)))⟩
  · show _ ≤ i
    unfold combP at hi
    rw [List.length_map] at hi ⊢
    rw [hl]; exact hi
def combEnd (μ : Mu) : List D → Option (Out (List P) × Mu)
  | [d, .p (.int i)] => match toP μ d with
    | some (x, μ1) => match asLst x with
      | some xs => if xs.length < 10 ∧ 0 ≤ i ∧ i < 4 then some (.ok (combP xs i.toNat), μ1) else none
      | none => none
    | none => none
  | _ => none
def evComb (a : EvA) : EvG (List P) := fun δ μ => bindG (a δ μ) fun ds μ1 => combEnd μ1 ds
theorem vi_comb {tg e e2 : Expr} {a : EvA} {p pos : Pos} (hK : X.K = α.K) (hm : X.mg "combinations" = some (.type "itertools.combinations")) (ha : PA X [e, e2] (tVs α W a)) (hg : Gl X "combinations" := by rfl) (he : starEach [e, e2] X.env = (false, eval e X.env) :: starEach [e2] X.env := by rfl) (hpl : (backTo pos (starEach [e2] X.env)).any (·.1) = false := by rfl) :
    VI α W X tg (.Call (.Name "combinations" p) [e, e2] [] pos) (evComb a) := by
  refine ⟨_, pi_comb hg hm ha he hpl, fun σ H G ρ δ μ R z s pq => ⟨G, ρ, δ, μ, z, s, Post.bind pq fun ds μ1 vs H1 G1 ρ1 u z1 r1 p1 => ?_⟩⟩
  unfold combEnd at p1
  split at p1
  · rename_i d i
    obtain ⟨v, v2, rfl, ra, rb⟩ := rds2 r1
    split at p1
    · rename_i x μ2 q1
      obtain ⟨G2, u2, z2, r2⟩ := toP_ok z1 ra q1
      split at p1
      · rename_i xs h1
        obtain ⟨b1, vs1, rfl, s1, t1⟩ := sq_asLst r2 h1
        split at p1
        · rename_i c
          obtain ⟨c1, c2, c3⟩ := c
          have hl : vs1.length = xs.length := t1.length
          have e2 : v2 = .int ((i.toNat : Nat) : Int) := by
            cases rb with
            | int => rw [Int.toNat_of_nonneg c2]
          refine ⟨b1, vs1, i.toNat, by rw [e2], ?_, by omega, by omega, ?_⟩
          · rw [hK]; exact seqL z2.sub s1
          · exact p1 _ H1 G2 ρ1 u2 z2 (jok_comb t1 c1 (by omega))
        · exact p1.elim
      · exact p1.elim
    · exact p1.elim
  · exact p1.elim
theorem comb_p {δ : Sl} {μ : Mu} {xs : List P} {k : Nat} {a b : Ev} (h1 : a δ μ = some (.ok (.p (.lst xs)), μ)) (h2 : b δ μ = some (.ok (.p (.int (k : Int))), μ)) (hn : xs.length < 10) (hk : k < 4) : evComb (evCons a (evCons b evNil)) δ μ = some (.ok (combP xs k), μ) := by
  unfold evComb
  rw [evCons_eq, h1, bindG_ok, evCons_eq, h2, bindG_ok, evNil_eq, bindG_ok, bindG_ok, bindG_ok]
  show (if xs.length < 10 ∧ (0 : Int) ≤ (k : Int) ∧ (k : Int) < 4 then some (Out.ok (combP xs (k : Int).toNat), μ) else none) = _
  rw [if_pos ⟨hn, by omega, by omega⟩, Int.toNat_natCast]
end
end Vs
set_option maxHeartbeats 1000000
namespace Vs
open PySem PySem.Spec PyProof.Rows L2
open PySem.SeqAt MeetsSeq MeetsSeq2 MeetsSeq3 SeqRoads2
open AutoSeq1 (wpAny_loadPart')
section
variable {prog : Program} {w : World} {A : Around} {R : Result → Shared → Prop}
/-- at each turn the two lists are read anew; e tells which items are equal -/
def NeI (prog : Program) (w : World) (A : Around) (E : Value → Shared → Prop) (l b : Addr) (N : Nat) (e : Nat → Bool) (I : Shared → Prop) : Prop :=
  ∀ s, I s → ∃ (xs ys : Array Value) (m n : Nat), s.heap.get? l = some { cls := .type "list", data := .seq xs m } ∧ s.heap.get? b = some { cls := .type "list", data := .seq ys n } ∧ xs.size = N ∧ ys.size = N ∧
    ∀ i (h1 : i < xs.size) (h2 : i < ys.size), wpAny (model prog w) A.in1 (eqBool xs[i] ys[i]) (fun r s' => r = e i ∧ I s') E s
theorem ne_loop (l b : Addr) (N : Nat) (e : Nat → Bool) (I : Shared → Prop) (hl : NeI prog w A (fun x s' => R (.error x) s') l b N e I)
    (finF : (∀ j, j < N → e j = true) → ∀ s, I s → R (.ok (.ret (.bool false))) s) (finT : (∃ j, j < N ∧ e j = false) → ∀ s, I s → R (.ok (.ret (.bool true))) s) (k : Nat) :
    ∀ i : Nat, N - i = k → i ≤ N → (∀ j, j < i → e j = true) → ∀ s, I s →
      wpAny (model prog w) A.in1 (Builtin.«list.__eq__.loop» ⟨[.ref l, .ref b, rawInt i, rawInt 3], []⟩) (GQ.FinOf prog w A R) (fun x s' => R (.error x) s') s := by
  induction k with
  | zero =>
    intro i hk hi hp s h
    obtain ⟨xs, ys, m, n, hl1, hb1, hs1, hs2, _⟩ := hl _ h
    have iN : i = N := by omega
    have hR := finF (fun j hj => hp j (by omega)) s h
    obtain ⟨hp', g, d, tk, os⟩ := s
    wp_walk using wpAny_loadPart' hl1, wpAny_loadPart' hb1
    have hi1 : xs[((i : Nat) : Int).toNat]? = none := by simp; omega
    have hi2 : ys[((i : Nat) : Int).toNat]? = none := by simp; omega
    rw [hi1, hi2]
    wp_walk using wpAny_loadPart' hl1, wpAny_loadPart' hb1
    show R (.ok (.ret (.bool (xs.size != ys.size)))) _
    rw [hs1, hs2]
    simpa using hR
  | succ k ih =>
    intro i hk hi hp s h
    obtain ⟨xs, ys, m, n, hl1, hb1, hs1, hs2, turn⟩ := hl _ h
    have hlt : i < xs.size := by omega
    have hlt2 : i < ys.size := by omega
    have ht := turn i hlt hlt2
    obtain ⟨hp', g, d, tk, os⟩ := s
    wp_walk using wpAny_loadPart' hl1, wpAny_loadPart' hb1
    have hi1 : xs[((i : Nat) : Int).toNat]? = some xs[i] := by simp [hlt]
    have hi2 : ys[((i : Nat) : Int).toNat]? = some ys[i] := by simp [hlt2]
    have hc : ((i : Int) + 1) = ((i + 1 : Nat) : Int) := by omega
    rw [hi1, hi2]
    refine wpAny_bind ?_
    refine wpAny_mono ht (fun r s2 h2 => ?_) fun _ _ x => x
    obtain ⟨hr, h2⟩ := h2
    cases q : e i with
    | true =>
      rw [q] at hr
      subst hr
      have hrec := ih (i + 1) (by omega) (by omega) (fun j hj => by
        by_cases z : j = i
        · subst z; exact q
        · exact hp j (by omega)) s2 h2
      obtain ⟨hp2, g2, d2, tk2, os2⟩ := s2
      wp_walk
      rw [hc]
      refine ⟨plainId_quiet plain_eq_loop _, codeAny_builtin entry_eq_loop ?_⟩
      rw [Around.under_plainId plain_eq_loop _]
      exact hrec
    | false =>
      rw [q] at hr
      subst hr
      have hR := finT ⟨i, by omega, q⟩ s2 h2
      obtain ⟨xs2, ys2, m2, n2, hl2, hb2, hs3, hs4, _⟩ := hl _ h2
      obtain ⟨hp2, g2, d2, tk2, os2⟩ := s2
      wp_walk using wpAny_loadPart' hl2, wpAny_loadPart' hb2
      have hi3 : xs2[((i : Nat) : Int).toNat]? = some (xs2[i]'(by omega)) := by
        rw [Int.toNat_natCast]; exact Array.getElem?_eq_getElem _
      have hi4 : ys2[((i : Nat) : Int).toNat]? = some (ys2[i]'(by omega)) := by
        rw [Int.toNat_natCast]; exact Array.getElem?_eq_getElem _
      rw [hi3, hi4]
      wp_walk
      exact hR
theorem ne_list (l b : Addr) (N : Nat) (e : Nat → Bool) (I : Shared → Prop) (hl : NeI prog w A (fun x s' => R (.error x) s') l b N e I)
    (finF : (∀ j, j < N → e j = true) → ∀ s, I s → R (.ok (.ret (.bool false))) s) (finT : (∃ j, j < N ∧ e j = false) → ∀ s, I s → R (.ok (.ret (.bool true))) s) {s : Shared} (h : I s) :
    wpAny (model prog w) A.in1 (Builtin.«list.__ne__» ⟨[.ref l, .ref b], []⟩) (GQ.FinOf prog w A R) (fun x s' => R (.error x) s') s := by
  obtain ⟨xs, ys, m, n, hl1, hb1, hs1, hs2, _⟩ := hl _ h
  have hrec := ne_loop (A := A) (R := R) l b N e I hl finF finT _ 0 rfl (Nat.zero_le _) (fun j hj => by omega) s h
  obtain ⟨hp', g, d, tk, os⟩ := s
  have f3 := AutoSeq1.sub_list_list
  have hne : ¬ (xs.size != ys.size) = true := by simp [hs1, hs2]
  wp_walk using wpAny_loadPart' hl1, wpAny_loadPart' hb1
  refine ⟨plainId_quiet plain_eq_loop _, codeAny_builtin entry_eq_loop ?_⟩
  rw [Around.under_plainId plain_eq_loop _]
  exact hrec
end
section
variable {prog : Program} {w : World} {A : Around} {E : Value → Shared → Prop} {s : Shared}
theorem rc_ne {l b : Addr} {N : Nat} {e : Nat → Bool} {Q : Value → Shared → Prop} (hu : A.units < cLine) (I : Shared → Prop) (hl : NeI prog w A E l b N e I)
    (finF : (∀ j, j < N → e j = true) → ∀ s, I s → Q (.bool false) s) (finT : (∃ j, j < N ∧ e j = false) → ∀ s, I s → Q (.bool true) s) (h : I s) : wpAny (model prog w) A (richCompare .NotEq (.ref l) (.ref b)) Q E s := by
  obtain ⟨xs, ys, m, n, hl1, hb1, _, _, _⟩ := hl _ h
  refine wpAny_richCompare_same_room (op := .NotEq) ⟨_, hl1, rfl⟩ ⟨_, hb1, rfl⟩ F.slot_list_ne (GQ.call_here F.slot_list_ne ⟨_, hl1, rfl⟩ F.entry_list_ne (F.args_list_ne_2 _ _) ?_) hu
  exact ne_list (R := wants (fun v s' => v ≠ .notImplemented ∧ Q v s') E) l b N e I hl (fun a s' q => ⟨(fun x => nomatch x), finF a s' q⟩) (fun a s' q => ⟨(fun x => nomatch x), finT a s' q⟩) h
end
end Vs
set_option maxHeartbeats 1000000
namespace Vs
open PySem PySem.Spec PyProof.Rows L2
/-- what an own == promises that may also say False -/
def spEqB (R : Addr → Addr → Hp → Bool → Prop) : Sp := fun vs H Q _ => ∃ a b r, vs = [.ref a, .ref b] ∧ R a b H r ∧ ∀ H', L2.Ext H H' → Q (.bl r) H'
section
variable {X : Cx} {n : Nat}
theorem rcB_ins {CX : CXT} {C f : Addr} {fd : FuncData} {ps : List Str} {R : Addr → Addr → Hp → Bool → Prop} {E : XK} (F : FnOk X.prog X.w X.K X.mg X.base CX n f fd ps (spEqB R))
    (hs : PySem.W.findIn X.K (.ref C) "__eq__" = some (some (.ref f))) (hf : PySem.W.isFn X.K (.ref f) = true) (hb : Binds X.K fd ps []) (hx : Passes CX X E)
    {A : Around} {pins : List (Addr × Obj)} {s : Shared} {σ : L2.St} {H : Hp} {a b dx dy : Addr} {fs gs : List (Str × V)} {r : Bool} (sb : Sub X n A) (I : Inv X pins σ H s) (ha : H a = some (.ins C dx fs)) (hb' : H b = some (.ins C dy gs)) (hr : R a b H r) :
    wpAny (model X.prog X.w) A (richCompare .Eq (.ref a) (.ref b)) (fun v s' => v = .bool r ∧ ∃ H', Inv X pins σ H' s' ∧ L2.Ext H H') X.xe s := by
  obtain ⟨mA, J, _⟩ := ins_get I.hok ha
  obtain ⟨mB, K2, _⟩ := ins_get I.hok hb'
  obtain ⟨od, J, _⟩ := J.look
  obtain ⟨od2, K2, _⟩ := K2.look
  obtain ⟨m, hF⟩ := I.fr
  refine PySem.W.cmp_K (op := .Eq) (tb := .ref C) sb.room.units0 hF I.ok.mod.kin J K2.type (by simp [PySem.W.notFirst]) hs hf ?_
  have hsp : spEqB R [.ref a, .ref b] H (fun v H' => v = .bl r ∧ L2.Ext H H') E := ⟨a, b, r, rfl, hr, fun H' e => ⟨rfl, e⟩⟩
  have e0 : Env0 X.prog X.w X.K X.mg X.base A X.stack s H := by
    have ev := I.env0
    refine ⟨?_, ev.mod, ev.bs, ev.bsz, ev.funs, ev.frf, ev.hok, ev.bare⟩
    rw [sb.fr]; exact ev.frames
  have vs2 : Vals [V.ref a, V.ref b] [Value.ref a, Value.ref b] := .cons rfl (.cons rfl .nil)
  have bd : _ := hb s [.ref a, .ref b] I.kIn (by simpa using F.len _ _ _ _ hsp)
  refine wpAny_call ?_
  refine codeAny_mono (F.run A X.stack s H ⟨[.ref a, .ref b], []⟩ [.ref a, .ref b] [.ref a, .ref b] _ E sb.room e0 (by simpa using bd) vs2 hsp) fun u s' hq => ?_
  cases u with
  | error e => exact hx pins σ H s e s' I hq
  | ok fl =>
    cases fl with
    | ret w =>
      obtain ⟨z, H', I', rz, ez, ex⟩ := I.after hq
      subst ez
      cases rz
      exact ⟨rfl, H', I', ex⟩
    | next => exact hq.elim
    | brk => exact hq.elim
    | cont => exact hq.elim
theorem eqB_ins {CX : CXT} {C f : Addr} {fd : FuncData} {ps : List Str} {R : Addr → Addr → Hp → Bool → Prop} {E : XK} (F : FnOk X.prog X.w X.K X.mg X.base CX n f fd ps (spEqB R))
    (hs : PySem.W.findIn X.K (.ref C) "__eq__" = some (some (.ref f))) (hf : PySem.W.isFn X.K (.ref f) = true) (hb : Binds X.K fd ps []) (hx : Passes CX X E) (hsame : ∀ a H r, R a a H r → r = true)
    {A : Around} {pins : List (Addr × Obj)} {s : Shared} {σ : L2.St} {H : Hp} {a b dx dy : Addr} {fs gs : List (Str × V)} {r : Bool} (sb : Sub X n A) (I : Inv X pins σ H s) (ha : H a = some (.ins C dx fs)) (hb' : H b = some (.ins C dy gs)) (hr : R a b H r) :
    wpAny (model X.prog X.w) A (eqBool (.ref a) (.ref b)) (fun v s' => v = r ∧ ∃ H', Inv X pins σ H' s' ∧ L2.Ext H H') X.xe s := by
  by_cases q : a = b
  · subst q
    have e := hsame a H r hr
    subst e
    exact PySem.SeqAt.EqAt.same (A := A) (s := s) (.ref a) X.prog X.w X.xe _ ⟨rfl, H, I, L2.Ext.rfl'⟩
  · refine GQ.eqBool_refG q (wpAny_mono (rcB_ins F hs hf hb hx sb I ha hb' hr) (fun v s' z => ?_) fun _ _ x => x)
    exact ⟨r, z.1, rfl, z.2⟩
end
section
variable {X : Cx} {α : Amb} {W : WX}
def RatB (α : Amb) (c : Nat) (a b : Addr) (H : Hp) (r : Bool) : Prop := ∃ (i j k l : Int) (dx dy : Addr), H a = some (.ins (α.cl c) dx ((α.fl c).zip [.int i, .int j])) ∧ H b = some (.ins (α.cl c) dy ((α.fl c).zip [.int k, .int l])) ∧ r = decide (i = k ∧ j = l)
theorem ratsP_at {c : Nat} : ∀ {xs : List P} {i : Nat} {x : P}, ratsP c xs = true → xs[i]? = some x → ∃ a b : Int, x = .obj c [.int a, .int b]
  | [], i, x, _, h => by simp at h
  | x :: xs, i, y, h, e => by
    unfold ratsP at h
    split at h
    · rename_i q; cases q
    · rename_i c' a b ys q
      cases q
      rw [Bool.and_eq_true, beq_iff_eq] at h
      cases i with
      | zero => simp at e; subst e; exact ⟨a, b, by rw [h.1]⟩
      | succ i => exact ratsP_at h.2 (by simpa using e)
    · cases h
end
end Vs
set_option maxHeartbeats 1000000
namespace Vs
open PySem PySem.Spec PyProof.Rows L2
section
variable {X : Cx} {α : Amb} {W : WX}
theorem rep_obj2 {c : Nat} {G : Hp} {v : V} {i j : Int} (hl : (α.fl c).length = 2) (r : Rep α G v (.obj c [.int i, .int j])) : ∃ (p dx : Addr), v = .ref p ∧ G p = some (.ins (α.cl c) dx ((α.fl c).zip [.int i, .int j])) := by
  cases r with
  | obj g l q =>
    cases q with
    | cons a1 q =>
      cases q with
      | cons a2 q =>
        cases q
        cases a1
        cases a2
        exact ⟨_, _, rfl, g⟩
end
end Vs
set_option maxHeartbeats 1000000
namespace Vs
open PySem PySem.Spec PyProof.Rows L2
open PySem.SeqAt MeetsSeq MeetsSeq2 MeetsSeq3 SeqRoads2
open AutoSeq1 (wpAny_loadPart')
section
variable {prog : Program} {w : World} {A : Around} {R : Result → Shared → Prop}
theorem eq_diff (l b : Addr) {xs ys : Array Value} {m n : Nat} {s : Shared} (hl : s.heap.get? l = some { cls := .type "list", data := .seq xs m }) (hb : s.heap.get? b = some { cls := .type "list", data := .seq ys n }) (hd : xs.size ≠ ys.size) (h : R (.ok (.ret (.bool false))) s) :
    wpAny (model prog w) A.in1 (Builtin.«list.__eq__» ⟨[.ref l, .ref b], []⟩) (GQ.FinOf prog w A R) (fun x s' => R (.error x) s') s := by
  obtain ⟨hp', g, d, tk, os⟩ := s
  have f3 := AutoSeq1.sub_list_list
  have hne : (xs.size != ys.size) = true := by simpa using hd
  wp_walk using wpAny_loadPart' hl, wpAny_loadPart' hb
  exact h
end
section
variable {prog : Program} {w : World} {A : Around} {E : Value → Shared → Prop} {s : Shared}
theorem rc_diff {l b : Addr} {Q : Value → Shared → Prop} {xs ys : Array Value} {m n : Nat} (hu : A.units < cLine) (hl : s.heap.get? l = some { cls := .type "list", data := .seq xs m }) (hb : s.heap.get? b = some { cls := .type "list", data := .seq ys n }) (hd : xs.size ≠ ys.size) (h : Q (.bool false) s) : wpAny (model prog w) A (richCompare .Eq (.ref l) (.ref b)) Q E s := by
  refine wpAny_richCompare_same_room (op := .Eq) ⟨_, hl, rfl⟩ ⟨_, hb, rfl⟩ F.slot_list_eq (GQ.call_here F.slot_list_eq ⟨_, hl, rfl⟩ F.entry_list_eq (F.args_list_eq_2 _ _) ?_) hu
  exact eq_diff (R := wants (fun v s' => v ≠ .notImplemented ∧ Q v s') E) l b hl hb hd ⟨(fun x => nomatch x), h⟩
end
section
variable {X : Cx} {α : Amb} {W : WX}
def fEqNil : F2 := fun x y μ => match x, y with
  | .p (.lst xs), .p (.lst []) => some (.p (.bl xs.isEmpty), μ)
  | _, _ => none
theorem o_eqNil (hu : X.A.units < cLine) : OpR X (compareOp .Eq) (r2V α fEqNil) := by
  intro pins s σ H x y v u Q I rv ru ⟨G, ρ, μ, dx, dy, z, rx, ry, q⟩
  unfold fEqNil at q
  split at q
  · rename_i xs
    cases rx with
    | lst g1 r1 =>
      rename_i a vs
      cases ry with
      | lst g2 r2 =>
        rename_i b ws
        cases rv
        cases ru
        cases r2
        have l1 := r1.length
        have fin : ∀ (t : Bool) s', t = xs.isEmpty → Inv X pins σ H s' → EP X pins σ Q (.bool t) s' := fun t s' ht I' => by
          subst ht
          exact ⟨.bl _, H, I', rfl, q _ H G ρ Up.refl z (.bl _)⟩
        show wpAny (model X.prog X.w) X.A (richCompare .Eq (.ref a) (.ref b)) (EP X pins σ Q) X.xe s
        obtain ⟨_, its, k1, t1, w1⟩ := I.hok a _ (z.sub _ _ g1)
        obtain ⟨_, its2, k2, t2, w2⟩ := I.hok b _ (z.sub _ _ g2)
        have n2 : its2.length = 0 := by rw [← t2.length]; rfl
        have n1 : its.length = xs.length := by rw [← t1.length, l1]
        by_cases h0 : xs = []
        · subst h0
          have z1 : its.length = 0 := n1
          refine GQ.rc_listG (N := 0) hu (fun _ s' => Inv X pins σ H s') (fun i s' I1 => ?_) (fun s' I1 => fin true s' rfl I1) I
          obtain ⟨_, jts, j1, u1, x1⟩ := I1.hok a _ (z.sub _ _ g1)
          obtain ⟨_, jts2, j2, u2, x2⟩ := I1.hok b _ (z.sub _ _ g2)
          refine ⟨jts.toArray, jts2.toArray, j1, j2, x1, x2, by rw [List.size_toArray, ← u1.length, l1]; rfl, by rw [List.size_toArray, ← u2.length]; rfl, fun h1 h2 => ?_⟩
          exfalso
          have : i < jts2.length := by simpa using h2
          rw [← u2.length] at this
          exact absurd this (Nat.not_lt_zero _)
        · refine rc_diff hu w1 w2 (by rw [List.size_toArray, List.size_toArray, n1, n2]; exact fun e => h0 (List.length_eq_zero_iff.mp e)) (fin false s ?_ I)
          cases xs with
          | nil => exact absurd rfl h0
          | cons _ _ => rfl
  · exact q.elim
end
end Vs
namespace Vs
open PySem PySem.Spec PyProof.Rows L2
structure TxC (K : PySem.W.Frag) (mg : Str → Option Value) (cs : List Addr) : Prop extends TxR K mg cs where
  b_combinations : mg "combinations" = some (.type "itertools.combinations")
theorem eq_two (i j k l : Int) : m_Ratiou_equ [.p (.obj 0 [.int i, .int j]), .p (.obj 0 [.int k, .int l])] [] = some (.ok (.p (.bl (decide (i = k ∧ j = l)))), []) := by
  have h : isiVEnd (isiO 0) ([] : Mu) (some (.obj 0 [.int k, .int l])) = some (.ok (.p (.bl true)), []) := isiVEnd_some rfl
  by_cases h1 : i = k
  · by_cases h2 : j = l
    · simp [m_Ratiou_equ, arF, bodySem_eq, sv_Ratiou_equ, h, h1, h2]
    · simp [m_Ratiou_equ, arF, bodySem_eq, sv_Ratiou_equ, h, h1, h2]
  · simp [m_Ratiou_equ, arF, bodySem_eq, sv_Ratiou_equ, h, h1]
end Vs
namespace Vs
open PySem PySem.Spec PyProof.Rows L2
open Bar (gt cz red wpv findK mv stepL stepRow clr Inv Sol Bd)
section
variable {μ : Mu} {δ : Sl}
theorem ev_common_zeroT {rows : List IRow} {n B : Nat} (hl : ∀ r ∈ rows, r.length = n + 1) (hn : n ≤ 40) (hb : ∀ r ∈ rows, Bd B r) (hB0 : 0 < B) (hB : (B + 1) * 2 ^ n ≤ 9000) (hr : rows.length ≤ 100) :
    m__common_zero [.p (.tup (rows.map rP)), .p (.int (n : Int))] μ = some (.ok (.p (czP rows n)), μ) := by
  obtain ⟨δ', c4', c5', e⟩ := cz_loop (μ := μ) hn (c0 := some (.p (.tup (rows.map rP)))) n 0 rows 1 B none none (Inv.start hl) (by omega) hb (show Sz B 1 from Nat.one_lt_two_pow (by omega)) hB0 hB hr
  have r1 : evRng1 (evV 1) [some (D.p (.tup (rows.map rP))), some (.p (.int (n : Int))), some (.p (rsP rows)), some (.p (.int 1)), none, none, none, none] μ = some (.ok (intsP 0 n), μ) := rng_n n evV_1 (by omega)
  have fl : fList [.p (.tup (rows.map rP))] μ = some (.p (rsP rows), μ) := rfl
  unfold m__common_zero
  rw [arF2]
  unfold sv__common_zero
  simp only [List.replicate, List.cons_append, List.nil_append]
  rw [seqS_eq, sSet_eq, evBI_eq, evCons_eq, evV_0, bindG_ok, evNil_eq, bindG_ok, bindG_ok, fl, okm_some, bindS_ok, andThen_nx]
  simp only [List.set_cons_succ, List.set_cons_zero]
  rw [seqS_eq, sSet_eq, evC_eq, bindS_ok, andThen_nx]
  simp only [List.set_cons_succ, List.set_cons_zero]
  rw [seqS_eq, sFor_eq, r1, bindS_ok]
  unfold lb__common_zero_0 at e
  rw [e]
  unfold czP cz
  cases q : red n 0 rows 1 with
  | none => simp
  | some lb =>
    obtain ⟨l2, b⟩ := lb
    obtain ⟨I2, so⟩ := Bar.red_some (Inv.start hl) (by omega) q
    obtain ⟨d1, d2, d3⟩ := red_bd n 0 rows 1 B (Inv.start hl) (by omega) hb (show Sz B 1 from Nat.one_lt_two_pow (by omega)) q
    dsimp only
    rw [andThen_nx]
    have tl : ∀ r ∈ l2.take n, r.length = n + 1 := fun r h => I2.len r (List.mem_of_mem_take h)
    have dl : ∀ r ∈ l2.drop n, r.length = n + 1 := fun r h => I2.len r (List.mem_of_mem_drop h)
    have a1 := lcCol (μ := μ) (c0 := some (.p (.tup (rows.map rP)))) (c3 := some (.p (.int b))) (c4 := c4') (c5 := c5') (l2 := l2) (ys := l2.drop n) (n := n) (lo := evPt (evV 1)) (hi := evNoP) (a := some (n : Int)) (b := none) (fun x => .bl (decide (x ≠ 0))) (evBin fNe (evBin fIx (evV 7) (evV 1)) (evC (.int 0))) (by simp) rfl (by rw [cut_hi, List.map_drop]) dl (by simp; omega) (fun r ν hr => by
      have x := ix_row (μ := ν) (r := r) (j := n) (by omega)
      simp [x])
    have a2 := lcCol (μ := μ) (c0 := some (.p (.tup (rows.map rP)))) (c3 := some (.p (.int b))) (c4 := c4') (c5 := c5') (l2 := l2) (ys := l2.take n) (n := n) (lo := evNoP) (hi := evPt (evV 1)) (a := none) (b := some (n : Int)) (fun x => .int x) (evBin fIx (evV 7) (evV 1)) rfl (by simp) (by rw [cut_lo, List.map_take]) tl (by simp; omega) (fun r ν hr => by
      have x := ix_row (μ := ν) (r := r) (j := n) (by omega)
      simp [x])
    have a3 := lcCol (μ := μ) (c0 := some (.p (.tup (rows.map rP)))) (c3 := some (.p (.int b))) (c4 := c4') (c5 := c5') (l2 := l2) (ys := l2.take n) (n := n) (lo := evNoP) (hi := evPt (evV 1)) (a := none) (b := some (n : Int)) (fun x => .int (-x)) (evUn fNeg (evBin fIx (evV 7) (evV 1))) rfl (by simp) (by rw [cut_lo, List.map_take]) tl (by simp; omega) (fun r ν hr => by
      have x := ix_row (μ := ν) (r := r) (j := n) (by omega)
      simp [x])
    have an : fAny [.p (.lst ((l2.drop n).map fun r => P.bl (decide (gt r n ≠ 0))))] μ = some (.p (.bl ((l2.drop n).any fun r => decide (gt r n ≠ 0))), μ) := by
      have := fAny_p (μ := μ) (bs := (l2.drop n).map fun r => decide (gt r n ≠ 0))
      rw [List.map_map] at this
      rw [show (P.bl ∘ fun r => decide (gt r n ≠ 0)) = fun r => P.bl (decide (gt r n ≠ 0)) from rfl] at this
      rw [this, List.any_map]
      rfl
    rw [seqS_eq, sIf_eq, evB_eq', evBI_eq, evCons_eq, a1, bindG_ok, evNil_eq, bindG_ok, bindG_ok, an, okm_some, bindG_ok, toB_bl, bindS_ok]
    by_cases ha : ((l2.drop n).any fun r => decide (gt r n ≠ 0)) = true
    · rw [if_pos ha, if_pos ha, sRet_eq, evC_eq, bindS_ok, andThen_ret, retF_p, List.take_length]
    · have l1 : ((l2.take n).map fun r => P.int (gt r n)).length + [P.int (-b)].length ≤ sizeLine := Nat.le_of_lt (line_k (by simp; omega))
      have l1' : ((l2.take n).map fun r => P.int (-gt r n)).length + [P.int b].length ≤ sizeLine := Nat.le_of_lt (line_k (by simp; omega))
      have f1 := fCatL_p (μ := μ) l1
      have f2 := fCatL_p (μ := μ) l1'
      rw [if_neg ha, if_neg ha, sNil_eq, andThen_nx, seqS_eq, sIf_eq, evB_eq', evBin_eq, evV_3, bindG_ok, evC_eq, bindG_ok, lt_int, okm_some, bindG_ok, toB_bl, bindS_ok]
      by_cases hb0 : b < 0
      · rw [if_pos (decide_eq_true hb0), if_pos hb0, sRet_eq, evBin_eq, a2, bindG_ok, evLst_eq, evCons_eq, evUn_eq, evV_3, bindG_ok, fNeg_int, okm_some, bindG_ok, evNil_eq, bindG_ok, bindG_ok, toPs_cons, toPs_nil, consP_some, lstEnd_some, if_pos (show [P.int (-b)].length ≤ sizeLine from line_1), bindG_ok, f1, okm_some, bindS_ok, andThen_ret, retF_p, List.take_length]
        unfold rP
        simp only [List.map_append, List.map_map, List.map_cons, List.map_nil]
        rfl
      · rw [if_neg (by simpa using hb0), if_neg hb0, sNil_eq, andThen_nx, sRet_eq, evBin_eq, a3, bindG_ok, evLst_eq, evCons_eq, evV_3, bindG_ok, evNil_eq, bindG_ok, bindG_ok, toPs_cons, toPs_nil, consP_some, lstEnd_some, if_pos (show [P.int b].length ≤ sizeLine from line_1), bindG_ok, f2, okm_some, bindS_ok, retF_p, List.take_length]
        unfold rP
        simp only [List.map_append, List.map_map, List.map_cons, List.map_nil]
        rfl
/-- the rows that are chosen -/
theorem cmb_pk {w : Nat} : ∀ k, cmb w k = pk w k
  | 0 => rfl
  | k + 1 => by
    show cmX w (cmb w k) = extL w (pk w k)
    rw [cmb_pk k]
    generalize pk w k = L
    induction L with
    | nil => rfl
    | cons r rs ih =>
      show _ ++ cmX w rs = extP w r ++ extL w rs
      rw [ih]; rfl
theorem combP_rows {rows : List IRow} {k : Nat} (h : ∀ ns ∈ pk rows.length k, ∀ x ∈ ns, x < rows.length) : combP (rows.map rP) k = (pk rows.length k).map fun ns => P.tup ((ns.map fun j => rows.getD j []).map rP) := by
  unfold combP
  rw [List.length_map, cmb_pk]
  refine List.map_congr_left fun ns hns => ?_
  unfold pickP
  rw [List.map_map]
  congr 1
  refine List.map_congr_left fun j hj => ?_
  have jl := h ns hns j hj
  show (rows.map rP).getD j .non = rP (rows.getD j [])
  rw [List.getD_eq_getElem?_getD, List.getElem?_map, List.getElem?_eq_getElem jl, List.getD_eq_getElem?_getD, List.getElem?_eq_getElem jl]; rfl
end
end Vs
namespace Vs
open PySem PySem.Spec PyProof.Rows L2
open Bar (gt cz rg SR)
/-- where it goes -/
def bsr (pts : List (List Rat)) (p : List Rat) : Nat → Nat → Nat → Nat
  | 0, lo, _ => lo
  | f + 1, lo, hi => if lo < hi then (if bef (pts.getD ((lo + hi) / 2) []) p = true then bsr pts p f ((lo + hi) / 2 + 1) hi else bsr pts p f lo ((lo + hi) / 2)) else lo
theorem bsr_le {pts : List (List Rat)} {p : List Rat} : ∀ (f lo hi : Nat), lo ≤ hi → bsr pts p f lo hi ≤ hi
  | 0, lo, hi, h => h
  | f + 1, lo, hi, h => by
    unfold bsr
    split
    · split
      · exact bsr_le f _ hi (by omega)
      · exact Nat.le_trans (bsr_le f lo _ (by omega)) (by omega)
    · exact h
theorem bsr_fuel {pts : List (List Rat)} {p : List Rat} : ∀ (f g lo hi : Nat), hi - lo < f → hi - lo < g → bsr pts p f lo hi = bsr pts p g lo hi
  | 0, _, _, _, h, _ => by omega
  | _, 0, _, _, _, h => by omega
  | f + 1, g + 1, lo, hi, h1, h2 => by
    unfold bsr
    by_cases q : lo < hi
    · rw [if_pos q, if_pos q]
      split
      · exact bsr_fuel f g _ hi (by omega) (by omega)
      · exact bsr_fuel f g lo _ (by omega) (by omega)
    · rw [if_neg q, if_neg q]
def bsl (pts : List (List Rat)) (p : List Rat) : Nat := bsr pts p (pts.length + 1) 0 pts.length
open Classical in
noncomputable def insP (pts : List (List Rat)) (p : List Rat) : List (List Rat) := if bsl pts p = pts.length ∨ pts.getD (bsl pts p) [] ≠ p then pts.take (bsl pts p) ++ [p] ++ pts.drop (bsl pts p) else pts
theorem insP_mem {pts : List (List Rat)} {p x : List Rat} : x ∈ insP pts p ↔ x = p ∨ x ∈ pts := by
  have hl : bsl pts p ≤ pts.length := bsr_le _ _ _ (Nat.zero_le _)
  unfold insP
  split
  · rw [List.mem_append, List.mem_append]
    constructor
    · rintro ((h | h) | h)
      · exact .inr (List.mem_of_mem_take h)
      · simp at h; exact .inl h
      · exact .inr (List.mem_of_mem_drop h)
    · rintro (h | h)
      · exact .inl (.inr (by simp [h]))
      · rw [← List.take_append_drop (bsl pts p) pts] at h
        rcases List.mem_append.mp h with z | z
        · exact .inl (.inl z)
        · exact .inr z
  · rename_i h
    rw [not_or] at h
    have e : pts.getD (bsl pts p) [] = p := Classical.not_not.mp h.2
    constructor
    · exact .inr
    · rintro (rfl | z)
      · rw [← e]; exact getD_mem (by omega)
      · exact z
section
variable {μ : Mu} {δ : Sl}
theorem whL_go {c : EvT} {body : SEv} {n : Nat} {δ δ2 : Sl} {μ μ1 μ2 : Mu} (h1 : c δ μ = some (.ok true, μ1)) (h2 : body δ μ1 = some (.nx, δ2, μ2)) : whL c body (n + 1) δ μ = whL c body n δ2 μ2 := by
  rw [whL, h1, bindS_ok, if_pos rfl, h2]
theorem whL_end {c : EvT} {body : SEv} {n : Nat} {δ : Sl} {μ μ1 : Mu} (h1 : c δ μ = some (.ok false, μ1)) : whL c body (n + 1) δ μ = some (.nx, δ, μ1) := by
  rw [whL, h1, bindS_ok, if_neg (by decide)]
end
end Vs
namespace Vs
open PySem PySem.Spec PyProof.Rows L2
open Bar (gt cz rg SR)
theorem ratsP_map : ∀ xs : List Rat, ratsP 0 (xs.map rat) = true
  | [] => rfl
  | x :: xs => by
    show (0 == 0 && ratsP 0 (xs.map rat)) = true
    rw [ratsP_map xs]; rfl
theorem rat_inj {a b : Rat} (h : rat a = rat b) : a = b := by
  unfold rat at h
  simp only [P.obj.injEq, List.cons.injEq, P.int.injEq, and_true, true_and] at h
  exact Rat.ext h.1 (by omega)
end Vs
namespace Vs
open PySem PySem.Spec PyProof.Rows L2
open Bar (gt cz Sol Bd rg gsol RowIn ESol SR QRow gred GS InSp Span IndP withRow wrow chgK dotI PSol LSol RowOf HS units dq)
def sV : Nat := 60 * 442720643463713815200
theorem Tq.le {s A : Nat} {q : Rat} (h : Tq s A q) : q ≤ (A : Rat) ∧ -(A : Rat) ≤ q := by
  obtain ⟨h0, z, e, hz⟩ := h
  have sp : (0 : Rat) < (s : Rat) := by exact_mod_cast h0
  have c1 : (((s * A : Nat) : Int) : Rat) = (s : Rat) * (A : Rat) := by rw [Rat.intCast_natCast, Rat.natCast_mul]
  have z1 : (z : Rat) ≤ (s : Rat) * (A : Rat) := by
    have : z ≤ ((s * A : Nat) : Int) := by generalize s * A = m at *; omega
    rw [← c1]; exact_mod_cast this
  have z2 : -((s : Rat) * (A : Rat)) ≤ (z : Rat) := by
    have : -((s * A : Nat) : Int) ≤ z := by generalize s * A = m at *; omega
    have : ((-((s * A : Nat) : Int) : Int) : Rat) ≤ (z : Rat) := by exact_mod_cast this
    rw [Rat.intCast_neg, c1] at this; exact this
  constructor
  · by_cases y : q ≤ (A : Rat)
    · exact y
    · exfalso
      have := Rat.mul_pos sp (show 0 < q - (A : Rat) by grind)
      grind
  · by_cases y : -(A : Rat) ≤ q
    · exact y
    · exfalso
      have := Rat.mul_pos sp (show 0 < -(A : Rat) - q by grind)
      grind
/-- the vertex that these forms cut out -/
abbrev vPt (n : Nat) (R : List Fm) (ns : List Nat) : Option (List Rat) := ptsP n R [] [] (ns, [])
theorem vPt_some {n : Nat} {R : List Fm} {ns : List Nat} {pt : List Rat} (e : vPt n R ns = some pt) : ∃ pl, cz (fcRows n R [] [] ns []) n = some pl ∧ pt = ptOf pl n ∧ insideB R pt = true := by
  unfold vPt ptsP at e
  cases q : cz (fcRows n R [] [] ns []) n with
  | none => simp [q] at e
  | some pl =>
    simp only [q, Option.map_some, Option.bind_some] at e
    split at e
    · rename_i h; cases e; exact ⟨pl, rfl, rfl, h⟩
    · cases e
theorem ptOf_len {pl : IRow} {n : Nat} : (ptOf pl n).length = n := by simp [ptOf]
noncomputable def vIns (n : Nat) (R : List Fm) (acc : List (List Rat)) (ns : List Nat) : List (List Rat) := match vPt n R ns with
  | none => acc
  | some pt => insP acc pt
noncomputable def vtxL (n : Nat) (R : List Fm) (L : List (List Nat)) (acc : List (List Rat)) : List (List Rat) := L.foldl (vIns n R) acc
noncomputable def vtx (n : Nat) (R : List Fm) : List (List Rat) := vtxL n R (pk R.length n) []
theorem vtxL_mem {n : Nat} {R : List Fm} {pt : List Rat} : ∀ (L : List (List Nat)) (acc : List (List Rat)), pt ∈ vtxL n R L acc ↔ pt ∈ acc ∨ ∃ ns ∈ L, vPt n R ns = some pt
  | [], acc => by simp [vtxL]
  | ns :: L, acc => by
    have ih := vtxL_mem (pt := pt) (n := n) (R := R) L (vIns n R acc ns)
    show pt ∈ vtxL n R L (vIns n R acc ns) ↔ _
    rw [ih]
    unfold vIns
    cases q : vPt n R ns with
    | none => simp [q]
    | some p =>
      dsimp only
      rw [insP_mem]
      constructor
      · rintro ((rfl | h) | ⟨m, hm, h⟩)
        · exact .inr ⟨ns, List.mem_cons_self, q⟩
        · exact .inl h
        · exact .inr ⟨m, List.mem_cons_of_mem _ hm, h⟩
      · rintro (h | ⟨m, hm, h⟩)
        · exact .inl (.inr h)
        · rcases List.mem_cons.mp hm with rfl | hm
          · rw [q] at h; cases h; exact .inl (.inl rfl)
          · exact .inr ⟨m, hm, h⟩
theorem vtx_mem {n : Nat} {R : List Fm} {pt : List Rat} : pt ∈ vtx n R ↔ ∃ ns ∈ pk R.length n, vPt n R ns = some pt := by
  unfold vtx
  rw [vtxL_mem]; simp
theorem insP_len {pts : List (List Rat)} {p : List Rat} : (insP pts p).length ≤ pts.length + 1 := by
  have hl : bsl pts p ≤ pts.length := bsr_le _ _ _ (Nat.zero_le _)
  unfold insP
  split
  · simp; omega
  · omega
theorem vtxL_len {n : Nat} {R : List Fm} : ∀ (L : List (List Nat)) (acc : List (List Rat)), (vtxL n R L acc).length ≤ acc.length + L.length
  | [], acc => by simp [vtxL]
  | ns :: L, acc => by
    have ih := vtxL_len (n := n) (R := R) L (vIns n R acc ns)
    have : (vIns n R acc ns).length ≤ acc.length + 1 := by
      unfold vIns
      split
      · omega
      · exact insP_len
    show (vtxL n R L (vIns n R acc ns)).length ≤ _
    rw [List.length_cons]; omega
end Vs
namespace Vs
open PySem PySem.Spec PyProof.Rows L2
open Bar (gt cz Sol Bd rg gsol RowIn ESol SR QRow gred GS InSp Span IndP withRow wrow chgK dotI PSol LSol RowOf HS units dq)
section
variable {μ : Mu} {δ : Sl}
theorem rows_pick {n : Nat} {R : List Fm} {ns : List Nat} (hk : ∀ k ∈ ns, k < R.length) : (ns.map fun j => (rowsR R).getD j []) = fcRows n R [] [] ns [] := by
  unfold fcRows
  rw [List.map_nil, List.append_nil]
  refine List.map_congr_left fun j hj => ?_
  have al := hk j hj
  unfold rowsR
  rw [List.getD_eq_getElem?_getD, List.getElem?_map, List.getElem?_eq_getElem al, List.getD_eq_getElem?_getD, List.getElem?_eq_getElem al]; rfl
theorem vPt_none {n : Nat} {R : List Fm} {ns : List Nat} (q : cz (fcRows n R [] [] ns []) n = none) : vPt n R ns = none := by
  unfold vPt ptsP
  rw [q]; rfl
theorem vPt_pl {n : Nat} {R : List Fm} {ns : List Nat} {pl : IRow} (q : cz (fcRows n R [] [] ns []) n = some pl) : vPt n R ns = if insideB R (ptOf pl n) = true then some (ptOf pl n) else none := by
  unfold vPt ptsP
  rw [q]; rfl
theorem ev_comb {n : Nat} {R : List Fm} (hn : n ≤ 3) (hw : R.length ≤ 9) {i j : Nat} {δ : Sl} (h1 : evV i δ μ = some (.ok (.p (rsP (rowsR R))), μ)) (h2 : evV j δ μ = some (.ok (.p (.int (n : Int))), μ)) :
    evComb (evCons (evV i) (evCons (evV j) evNil)) δ μ = some (.ok ((pk R.length n).map fun ns => P.tup ((ns.map fun j => (rowsR R).getD j []).map rP)), μ) := by
  have l : (rowsR R).length = R.length := rowsR_len
  have c := comb_p (xs := (rowsR R).map rP) (k := n) h1 h2 (by rw [List.length_map, l]; omega) (by omega)
  rw [c, combP_rows (fun ns h => (pk_ok n ns h).2), l]
end
end Vs
namespace Vs
open PySem PySem.Spec PyProof.Rows L2
open Bar (gt cz Sol Bd rg gsol RowIn ESol SR QRow)
theorem Tq.bz {s A : Nat} {q : Rat} (h : Tq s A q) (h1 : s < 2 ^ 97) (h2 : s * A < 2 ^ (100 * 97)) : Bz 97 q :=
  ⟨by decide, Nat.lt_of_le_of_lt h.num h2, Nat.lt_of_le_of_lt (by rw [Int.natAbs_natCast]; exact Nat.le_of_dvd h.1 h.den) h1⟩
theorem Tq.bzV {t A : Nat} {q : Rat} (h : Tq (sV * t) A q) (ht : t ≤ 2048) (hA : A ≤ 40000) : Bz 97 q := by
  have a : sV * t ≤ sV * 2048 := Nat.mul_le_mul_left _ ht
  refine h.bz (Nat.lt_of_le_of_lt a (by decide +kernel)) (Nat.lt_of_le_of_lt (Nat.mul_le_mul a hA) (by decide +kernel))
theorem tq_zero {s : Nat} (h : 0 < s) : Tq s 0 0 := ⟨h, 0, by simp, by simp⟩
theorem tq_wt {w T : Int} (hT : 0 < T) (h0 : 0 ≤ w) (h5 : w < 5) : Tq T.toNat 4 (Rat.divInt w T) := by
  have e : ((T.toNat : Nat) : Int) = T := Int.toNat_of_nonneg (by omega)
  have T0 : (T : Rat) ≠ 0 := fun q => by have : T = 0 := by exact_mod_cast q
                                         omega
  refine ⟨by omega, w, ?_, ?_⟩
  · rw [← Rat.intCast_natCast, e, Rat.divInt_eq_div, Rat.mul_comm]
    exact Rat.div_mul_cancel T0
  · have : 1 * 4 ≤ T.toNat * 4 := Nat.mul_le_mul_right _ (by omega)
    omega
/-- the sum up to k -/
def bs (C : List (List Rat)) (ws : List Int) (T : Int) (j k : Nat) : Rat := SR k (fun i => rg (C.getD i []) j * Rat.divInt (ws.getD i 0) T)
theorem bs_succ {C : List (List Rat)} {ws : List Int} {T : Int} {j k : Nat} : bs C ws T j (k + 1) = bs C ws T j k + rg (C.getD k []) j * Rat.divInt (ws.getD k 0) T := rfl
structure CW (n : Nat) (C : List (List Rat)) (ws : List Int) (T : Int) : Prop where
  c : ∀ p ∈ C, p.length = n ∧ ∀ q ∈ p, Tq sV 15 q
  l : ws.length = C.length
  w : ∀ w ∈ ws, 0 ≤ w ∧ w < 5
  m : C.length ≤ 512
  t0 : 0 < T
  t : T ≤ 2048
theorem CW.tm {n : Nat} {C : List (List Rat)} {ws : List Int} {T : Int} (h : CW n C ws T) {j k : Nat} (hj : j < n) (hk : k < C.length) : Tq sV 15 (rg (C.getD k []) j) ∧ Tq T.toNat 4 (Rat.divInt (ws.getD k 0) T) := by
  have hl := h.l
  obtain ⟨a, b⟩ := h.c _ (getD_mem (d := ([] : List Rat)) hk)
  obtain ⟨c, d⟩ := h.w _ (getD_mem (d := (0 : Int)) (show k < ws.length by omega))
  exact ⟨b _ (getD_mem (d := (0 : Rat)) (by omega)), tq_wt h.t0 c d⟩
theorem CW.bs {n : Nat} {C : List (List Rat)} {ws : List Int} {T : Int} (h : CW n C ws T) {j : Nat} (hj : j < n) : ∀ k, k ≤ C.length → Tq (sV * T.toNat) (60 * k) (Vs.bs C ws T j k)
  | 0, _ => tq_zero (Nat.mul_pos (by decide) (by have := h.t0; omega))
  | k + 1, hk => by
    obtain ⟨a, b⟩ := h.tm hj (show k < C.length by omega)
    rw [bs_succ]
    exact (h.bs hj k (by omega)).add (a.mul b)
/-- between them -/
structure Btw (n : Nat) (C : List (List Rat)) (x : List Rat) : Prop where
  l : x.length = n
  q : ∃ t, 0 < t ∧ t ≤ 2048 ∧ ∀ q ∈ x, Tq (sV * t) 30720 q
  i : ∀ R : List Fm, (∀ f ∈ R, f.1.length = n) → (∀ p ∈ C, insideB R p = true) → insideB R x = true
theorem Btw.bz {n : Nat} {C : List (List Rat)} {x : List Rat} (h : Btw n C x) : ∀ q ∈ x, Bz 97 q := fun q hq => by
  obtain ⟨t, t0, t1, ht⟩ := h.q
  exact (ht q hq).bzV t1 (by decide)
end Vs
namespace Vs
open PySem PySem.Spec PyProof.Rows L2
noncomputable abbrev lb_is_empty_0 : SEv := (seqS (sSet 4 (evCall m__common_zero [] (evCons (evV 3) (evCons (evV 1) evNil)))) (sIf (tAndV' (evB (evBin (fIs true) (evV 4) (evC .non))) (evB (evCall m__keeps [] (evCons (evV 2) (evCons (evV 4) evNil))))) (sRet (evC (.bl false))) sNil))
noncomputable def sv_is_empty : SEv := (seqS (sSet 2 (evCall m__rows_of [] (evCons (evV 0) evNil))) (seqS (sFor (evComb (evCons (evV 2) (evCons (evV 1) evNil))) (tgN 3) (seqS (sSet 4 (evCall m__common_zero [] (evCons (evV 3) (evCons (evV 1) evNil)))) (sIf (tAndV' (evB (evBin (fIs true) (evV 4) (evC .non))) (evB (evCall m__keeps [] (evCons (evV 2) (evCons (evV 4) evNil))))) (sRet (evC (.bl false))) sNil))) (sRet (evC (.bl true)))))
noncomputable def m_is_empty : FSem := arF 2 (bodySem 5 sv_is_empty)
theorem ar_is_empty : Arity m_is_empty 2 := arF_ar
theorem le_is_empty : ∀ ds μ r, m_is_empty ds μ = some r → bodySem 5 sv_is_empty ds μ = some r := arF_le
end Vs
namespace Vs
open PySem PySem.Spec PyProof.Rows L2
open Bar (gt cz Sol Bd rg gsol RowIn ESol SR QRow)
section
variable {μ : Mu} {δ : Sl}
theorem vtx_nil {n : Nat} {R : List Fm} : vtx n R = [] ↔ ∀ ns ∈ pk R.length n, vPt n R ns = none := by
  constructor
  · intro h ns hns
    cases q : vPt n R ns with
    | none => rfl
    | some pt =>
      have : pt ∈ vtx n R := vtx_mem.mpr ⟨ns, hns, q⟩
      rw [h] at this; cases this
  · intro h
    cases q : vtx n R with
    | nil => rfl
    | cons p ps =>
      have : p ∈ vtx n R := by rw [q]; exact List.mem_cons_self
      obtain ⟨ns, h1, h2⟩ := vtx_mem.mp this
      rw [h ns h1] at h2; cases h2
theorem FmOk.up {n N S N' S' : Nat} {f : Fm} (h : FmOk n N S f) (a : N ≤ N') (b : S ≤ S') : FmOk n N' S' f := ⟨h.len, fun q hq => (h.nz q hq).mono a, Nat.lt_of_lt_of_le h.s (Nat.pow_le_pow_right (by decide) b)⟩
end
end Vs
set_option maxHeartbeats 1000000
namespace Vs
open PySem PySem.Spec PyProof.Rows L2
theorem upd_id {H : Hp} {a : Addr} {o : HO} (h : H a = some o) : upd H a o = H := by
  funext b
  by_cases e : b = a
  · subst e; rw [upd_same, h]
  · rw [upd_ne e]
theorem RepDs.take {α : Amb} {G : Hp} {ρ : List Addr} : ∀ {vs : List V} {xs : List D} (n : Nat), RepDs α G ρ vs xs → RepDs α G ρ (vs.take n) (xs.take n)
  | _, _, 0, _ => .nil
  | _, _, _ + 1, .nil => .nil
  | _, _, n + 1, .cons r t => .cons r (RepDs.take n t)
theorem RepDs.drop {α : Amb} {G : Hp} {ρ : List Addr} : ∀ {vs : List V} {xs : List D} (n : Nat), RepDs α G ρ vs xs → RepDs α G ρ (vs.drop n) (xs.drop n)
  | _, _, 0, r => r
  | _, _, _ + 1, .nil => .nil
  | _, _, n + 1, .cons _ t => RepDs.drop n t
def mvD (μ : Mu) (l : Nat) : Option Mu := match μ[l]? with
  | some (some (.dl ds)) => some (μ.set l none ++ [some (.dl ds)])
  | some (some (.lst xs)) => some (μ.set l none ++ [some (.dl (xs.map .p))])
  | _ => none
theorem blw_p {l : Nat} {xs : List P} : Blw l (xs.map .p) := fun k hk => by simp at hk
theorem mvD_ok {α : Amb} {H G : Hp} {ρ : List Addr} {μ μ2 : Mu} {l : Nat} {a : Addr} (z : Zn α H G ρ μ) (ha : ρ[l]? = some a) (e : mvD μ l = some μ2) : Zn α H G (ρ ++ [a]) μ2 ∧ (ρ ++ [a])[μ.length]? = some a := by
  have at' : (ρ ++ [a])[μ.length]? = some a := by rw [← z.len]; simp
  refine ⟨?_, at'⟩
  unfold mvD at e
  split at e
  · rename_i ds hm
    cases e
    obtain ⟨a', h1, h2, vs, h3, h4, h5⟩ := z.cell l _ hm
    rw [ha] at h1; cases h1
    have := z.move hm ha (o := .lst vs) (m' := .dl ds) ⟨vs, rfl, h4, h5.le (Nat.le_of_lt (List.getElem?_eq_some_iff.mp hm).1)⟩
    rw [upd_id h3] at this
    exact this
  · rename_i xs hm
    cases e
    obtain ⟨a', h1, h2, vs, h3, h4⟩ := z.cell l _ hm
    rw [ha] at h1; cases h1
    have := z.move hm ha (o := .lst vs) (m' := .dl (xs.map .p)) ⟨vs, rfl, reps_ds h4, blw_p⟩
    rw [upd_id h3] at this
    exact this
  · cases e
def mvEnd (δ : Sl) : Option (Out D × Mu) → Option (Fl × Sl × Mu)
  | some (.ok _, μ) => some (.nx, δ, μ)
  | _ => none
def mvS (sem : FSem) (i : Nat) (x : Ev) : SEv := fun δ μ => match δ[i]? with
  | some (some (.loc l)) => bindS (x δ μ) δ fun d μ1 => match mvD μ1 l with
    | some μ2 => mvEnd (δ.set i (some (.loc μ1.length))) (sem [.loc μ1.length, d] μ2)
    | none => none
  | _ => none
section
variable {α : Amb} {W : WX} {X : Cx}
section
variable {k n : Nat} {f : Addr} {fd : FuncData} {ps : List Str} {sem : FSem} {x : Str} {p pos pos2 : Pos} {e : Expr} {es : List Expr} {ex : Ev}
theorem v_mvCall (i : Nat) (tk : Takes X W) (hr : Room k X.A) (F : FnOk X.prog X.w X.K X.mg X.base (L2.CX X.prog X.w) k f fd ps (spF α 2 sem)) (hm : X.mg x = some (.ref f)) (hk : PySem.W.keepIn X.K (.ref f) = true) (hb : Binds X.K fd ps [])
    (ha : PA X (e :: es) (tVs α W (evCons (evV i) (evCons ex evNil)))) (hg : Gl X x := by rfl) (hdb : (x == ("__debug__" : Str)) = false := by decide) (he : starEach (e :: es) X.env = (false, eval e X.env) :: starEach es X.env := by rfl) (hpl : (backTo pos (starEach es X.env)).any (·.1) = false := by rfl)
    (hs : swapsWith (.Call (.Name x p) (e :: es) [] pos) none pos2.line X.env = pure false := by rfl) :
    PS X (.Expr (.Call (.Name x p) (e :: es) [] pos) pos2) (tS α W (mvS sem i ex)) :=
  PS.imp (ps_expr (pe_callSD (dvs := []) F hr hg hm hk hb .nil (fun σ => passAt tk σ) ha hdb he hpl) hs) fun Dn σ H ⟨G, ρ, δ, μ, z, s, p⟩ => by
    unfold mvS at p
    split at p
    · rename_i l hl
      refine ⟨G, ρ, δ, μ, z, s, ?_⟩
      have e1 : evCons (evV i) (evCons ex evNil) δ μ = bindG (ex δ μ) fun d μ1 => some (.ok [.loc l, d], μ1) := by
        have : evV i δ μ = some (.ok (.loc l), μ) := by unfold evV; rw [hl]
        rw [evCons_eq, this, bindG_ok, evCons_eq]
        cases ex δ μ with
        | none => rfl
        | some y =>
          obtain ⟨o, μ1⟩ := y
          cases o <;> rfl
      rw [e1]
      match q : ex δ μ, p with
      | some (.exc c, μ1), p => exact fun H' G' ρ' u z => p σ H' G' ρ' u z (s.up u)
      | some (.ok d, μ1), p =>
        intro vs H1 G1 ρ1 u z1 r1
        have p : SPost α W Dn G ρ (match mvD μ1 l with
          | some μ2 => mvEnd (δ.set i (some (.loc μ1.length))) (sem [.loc μ1.length, d] μ2)
          | none => none) := p
        cases q2 : mvD μ1 l with
        | none => rw [q2] at p; exact p.elim
        | some μ2 =>
          rw [q2] at p
          obtain ⟨v, w, rfl, rv, rw'⟩ := rds2 r1
          obtain ⟨v0, g0, a0, rfl, h0⟩ := s.get i _ hl
          obtain ⟨a, rfl, hρ⟩ := rv
          have ea : a = a0 := by have := u.get h0; rw [hρ] at this; exact Option.some.inj this
          subst ea
          obtain ⟨z2, hat⟩ := mvD_ok z1 hρ q2
          refine ⟨rfl, G1, ρ1 ++ [a], μ2, [.loc μ1.length, d], z2, .cons ⟨a, rfl, hat⟩ (.cons (rw'.up up_place) .nil), ?_⟩
          dsimp only at p
          match q3 : sem [.loc μ1.length, d] μ2, p with
          | some (.ok y, μ3), p =>
            intro v' H' G' ρ' u' z' _
            have uu : Up G ρ G' ρ' := u.trans (up_place.trans u')
            have sq := (s.up uu).set (v := .ref a) (d := .loc μ1.length) ⟨a, rfl, u'.get hat⟩ i
            have es : σ.set i (some (V.ref a)) = σ := by
              apply List.ext_getElem?
              intro j
              by_cases hj : i = j
              · subst hj
                rw [List.getElem?_set_self (List.getElem?_eq_some_iff.mp g0).1, g0]
              · rw [List.getElem?_set_ne hj]
            rw [es] at sq
            exact p σ H' G' ρ' uu z' sq
    · exact p.elim
theorem Om.mvCall {k : Nat} {sem : FSem} {x : Str} {p pos pos2 : Pos} {e : Expr} {es : List Expr} {ex : Ev} (i : Nat) (tk : Takes X W) (hr : Room k X.A) (F : Fn X.prog X.w X.K X.mg X.base α k x 2 sem)
    (ha : PA X (e :: es) (tVs α W (evCons (evV i) (evCons ex evNil)))) (hg : Gl X x := by rfl) (hdb : (x == ("__debug__" : Str)) = false := by decide) (he : starEach (e :: es) X.env = (false, eval e X.env) :: starEach es X.env := by rfl) (hpl : (backTo pos (starEach es X.env)).any (·.1) = false := by rfl)
    (hs : swapsWith (.Call (.Name x p) (e :: es) [] pos) none pos2.line X.env = pure false := by rfl) :
    PS X (.Expr (.Call (.Name x p) (e :: es) [] pos) pos2) (tS α W (mvS sem i ex)) := by
  obtain ⟨⟨f, fd, ps, hm, hk, hb, F⟩, _⟩ := F
  exact v_mvCall i tk hr F hm hk hb ha hg hdb he hpl hs
end
abbrev EvJ := EvG (List It2 × Gd × Gd)
def JOkJ (α : Amb) (J : It) (xs : List It2) (g g2 : Gd) (G1 : Hp) (ρ1 : List Addr) : Prop := ∀ i H G ρ μ, Up G1 ρ1 G ρ → Zn α H G ρ μ → okG μ g → okG μ g2 →
  (∀ x, xs[i]? = some x → J.go i H ∧ ∀ v H', J.yld i H v H' → ∃ G', Up G ρ G' ρ ∧ Zn α H' G' ρ μ ∧ RepI α G' ρ v x) ∧ (xs.length ≤ i → J.stop i H)
def VIJ (α : Amb) (W : WX) (X : Cx) (tg iter : Expr) (ev : EvJ) : Prop := ∃ wi : TI, PI X tg iter wi ∧ ∀ σ H G ρ δ μ (R : It → Hp → Prop), Zn α H G ρ μ → Sq α G ρ σ δ →
  Post α W (fun G' ρ' (J : It) xg => JOkJ α J xg.1 xg.2.1 xg.2.2 G' ρ') G ρ σ R (ev δ μ) → wi σ H R
def zipI : List D → List D → List It2
  | x :: xs, y :: ys => .two x y :: zipI xs ys
  | _, _ => []
theorem zipI_get : ∀ (xs ys : List D) (i : Nat) (w : It2), (zipI xs ys)[i]? = some w → ∃ x y, xs[i]? = some x ∧ ys[i]? = some y ∧ w = .two x y
  | x :: xs, y :: ys, 0, w, h => by cases h; exact ⟨x, y, rfl, rfl, rfl⟩
  | x :: xs, y :: ys, i + 1, w, h => zipI_get xs ys i w h
  | [], ys, i, w, h => by simp [zipI] at h
  | x :: xs, [], i, w, h => by simp [zipI] at h
theorem zipI_len : ∀ (xs ys : List D), (zipI xs ys).length = min xs.length ys.length
  | [], ys => by simp [zipI]
  | x :: xs, [] => by simp [zipI]
  | x :: xs, y :: ys => by simp [zipI, zipI_len xs ys]
def zipJEnd (μ : Mu) : List D → Option (Out (List It2 × Gd × Gd) × Mu)
  | [d, e] => match items μ d, items μ e with
    | some (false, xs, g), some (false, ys, g2) => some (.ok (zipI xs ys, g, g2), μ)
    | _, _ => none
  | _ => none
def evZipJ (a : EvA) : EvJ := fun δ μ => bindG (a δ μ) fun ds μ1 => zipJEnd μ1 ds
theorem vij_zip {e e2 : Expr} {a : EvA} {p pos tpos : Pos} {elts : List Expr} {kk : Nat} (hK : X.K = α.K) (hm : X.mg "zip" = none) (ha : PA X [e, e2] (tVs α W a)) (hg : Gl X "zip" := by rfl)
    (hs : starEach [e, e2] X.env = (false, eval e X.env) :: starEach [e2] X.env := by rfl) (hpl : (backTo pos (starEach [e2] X.env)).any (·.1) = false := by rfl) :
    VIJ α W X (.Tuple elts kk tpos) (.Call (.Name "zip" p) [e, e2] [] pos) (evZipJ a) := by
  refine ⟨_, pi_zip hg hm ha hs hpl, fun σ H G ρ δ μ R z s pq => ⟨G, ρ, δ, μ, z, s, Post.bind pq fun ds μ1 vs H1 G1 ρ1 u z1 r1 p1 => ?_⟩⟩
  unfold zipJEnd at p1
  split at p1
  · rename_i d d'
    obtain ⟨v, w, rfl, ra, rb⟩ := rds2 r1
    split at p1
    · rename_i xs g ys g2 h1 h2
      obtain ⟨a1, rfl, ok1, hs1⟩ := items_ok z1 ra h1
      obtain ⟨a2, rfl, ok2, hs2⟩ := items_ok z1 rb h2
      obtain ⟨vs1, k1, _⟩ := hs1 H1 G1 ρ1 μ1 Up.refl z1 ok1
      obtain ⟨vs2, k2, _⟩ := hs2 H1 G1 ρ1 μ1 Up.refl z1 ok2
      rw [if_neg (by decide)] at k1 k2
      refine ⟨a1, a2, vs1, vs2, rfl, by rw [hK]; exact k1, by rw [hK]; exact k2, ?_⟩
      rw [hK]
      refine p1 (Itz α.K a1 a2) H1 G1 ρ1 Up.refl z1 fun i H G ρ μ u z o1 o2 => ?_
      obtain ⟨vs, hv, r⟩ := hs1 H G ρ μ u z o1
      obtain ⟨ws, hw, r2⟩ := hs2 H G ρ μ u z o2
      rw [if_neg (by decide)] at hv hw
      refine ⟨fun w hw' => ?_, fun hi => ⟨vs, ws, hv, hw, by rw [r.length, r2.length]; dsimp only at hi; rw [zipI_len] at hi; omega⟩⟩
      obtain ⟨x, y, e1, e2, rfl⟩ := zipI_get _ _ _ _ hw'
      obtain ⟨v, h3, h4⟩ := r.get e1
      obtain ⟨u', h5, h6⟩ := r2.get e2
      refine ⟨⟨vs, ws, v, u', hv, hw, h3, h5⟩, fun q H' yl => ?_⟩
      obtain ⟨T, x', y', rfl, hT, rfl, f1, f2⟩ := yl
      have g1 := f1 vs hv
      have g2 := f2 ws hw
      rw [h3] at g1
      rw [h5] at g2
      cases g1
      cases g2
      exact ⟨_, up_new (z.free hT), z.new hT _, T, _, _, rfl, SqT.of upd_same, h4.up (up_new (z.free hT)), h6.up (up_new (z.free hT))⟩
    · exact p1.elim
  · exact p1.elim
noncomputable def forJ (ts : TgtI) (body : SEv) (g g2 : Gd) : List It2 → SEv
  | [], δ, μ => gIf μ g (gIf μ g2 (some (.nx, δ, μ)))
  | x :: xs, δ, μ => gIf μ g (gIf μ g2 (match ts x δ with
    | none => none
    | some δ1 => match body δ1 μ with
      | some (.nx, δ2, μ2) => forJ ts body g g2 xs δ2 μ2
      | some (.cont, δ2, μ2) => forJ ts body g g2 xs δ2 μ2
      | some (.brk, δ2, μ2) => some (.nx, δ2, μ2)
      | r => r))
noncomputable def sForJ (it : EvJ) (ts : TgtI) (body : SEv) : SEv := fun δ μ => bindS (it δ μ) δ fun xg μ1 => forJ ts body xg.2.1 xg.2.2 xg.1 δ μ1
theorem v_forJ {tg iter : Expr} {body : List Stmt} {ev : EvJ} {ts : TgtI} {sb : SEv} {pos : Pos} (hc : X.calm = true) (hp : PassesOwn (model X.prog X.w) X.A X.env X.xe) (hi : VIJ α W X tg iter ev) (hg : VGI α X tg ts) (hb : PSs X body (tS α W sb))
    (hs : ∀ x, foldedSetIterable iter X.env x = pure x := by intro _; rfl) : PS X (.For tg iter body [] pos) (tS α W (sForJ ev ts sb)) := by
  obtain ⟨wi, pi, hi⟩ := hi
  obtain ⟨g, pg, hg⟩ := hg
  refine PS.imp (ps_for hp hc pi pg hb hs) fun Dn σ H ⟨G, ρ, δ, μ, z, s, p⟩ => ?_
  refine hi σ H G ρ δ μ _ z s (SPost.bind p s fun xg μ1 J H1 G1 ρ1 u z1 j1 p1 => ?_)
  obtain ⟨xs, gd, gd2⟩ := xg
  dsimp only at p1 j1
  refine ⟨fun i m σ H => m + i = xs.length ∧ ∃ G' ρ' δ' μ', Up G1 ρ1 G' ρ' ∧ Zn α H G' ρ' μ' ∧ Sq α G' ρ' σ δ' ∧ SPost α W Dn G' ρ' (forJ ts sb gd gd2 (xs.drop i) δ' μ'), ⟨xs.length, by omega, G1, ρ1, δ, μ1, Up.refl, z1, s.up u, by simpa using p1⟩, ?_⟩
  rintro i m σ2 H2 ⟨hm, G2, ρ2, δ2, μ2, u2, z2, s2, p2⟩
  by_cases h : i < xs.length
  · obtain ⟨x, hx⟩ : ∃ x, xs[i]? = some x := ⟨xs[i], List.getElem?_eq_getElem h⟩
    have hd : xs.drop i = x :: xs.drop (i + 1) := by
      rw [List.drop_eq_getElem_cons h]
      rw [List.getElem?_eq_getElem h] at hx
      cases hx; rfl
    rw [hd] at p2
    unfold forJ at p2
    obtain ⟨ok, p2⟩ := gIf_post p2
    obtain ⟨ok2, p2⟩ := gIf_post p2
    obtain ⟨jgo, jstop⟩ := j1 i H2 G2 ρ2 μ2 u2 z2 ok ok2
    obtain ⟨go, yl⟩ := jgo x hx
    refine .inr ⟨go, fun σ' H' => ∃ G' ρ' δ' μ', Up G1 ρ1 G' ρ' ∧ Zn α H' G' ρ' μ' ∧ Sq α G' ρ' σ' δ' ∧ SPost α W Dn G' ρ' (forJ ts sb gd gd2 (xs.drop (i + 1)) δ' μ'), fun σ' H' hN => ⟨m - 1, by omega, by omega, hN⟩, fun v H' y => ?_⟩
    obtain ⟨G3, u3, z3, r3⟩ := yl v H' y
    cases q : ts x δ2 with
    | none => rw [q] at p2; exact p2.elim
    | some δ3 =>
      rw [q] at p2
      refine hg G3 ρ2 H' μ2 σ2 δ2 v x δ3 _ z3 (s2.up u3) r3 q fun σ3 s3 => ⟨G3, ρ2, δ3, μ2, z3, s3, ?_⟩
      have p2 := SPost.up p2 u3
      have u23 := u2.trans u3
      dsimp only at p2
      match q2 : sb δ3 μ2, p2 with
      | some (.nx, δ4, μ4), p2 => exact fun σ' H' G' ρ' u' z' s' => ⟨G', ρ', δ4, μ4, u23.trans u', z', s', SPost.up (r := forJ ts sb gd gd2 (xs.drop (i + 1)) δ4 μ4) p2 u'⟩
      | some (.cont, δ4, μ4), p2 => exact fun σ' H' G' ρ' u' z' s' => ⟨G', ρ', δ4, μ4, u23.trans u', z', s', SPost.up (r := forJ ts sb gd gd2 (xs.drop (i + 1)) δ4 μ4) p2 u'⟩
      | some (.brk, δ4, μ4), p2 => exact p2
      | some (.ret d, δ4, μ4), p2 => exact p2
      | some (.exc c, δ4, μ4), p2 => exact p2
  · have hd : xs.drop i = [] := List.drop_eq_nil_of_le (by omega)
    rw [hd] at p2
    unfold forJ at p2
    obtain ⟨ok, p2⟩ := gIf_post p2
    obtain ⟨ok2, p2⟩ := gIf_post p2
    obtain ⟨jgo, jstop⟩ := j1 i H2 G2 ρ2 μ2 u2 z2 ok ok2
    exact .inl ⟨jstop (by omega), p2 σ2 H2 G2 ρ2 Up.refl z2 s2⟩
def blwB (l : Nat) : D → Bool
  | .loc k => decide (k < l)
  | .p _ => true
def fInsD : FM := fun x ds μ => match x, ds with
  | .loc l, [.p (.int i), d] => match μ[l]? with
    | some (some (.dl es)) => if es.length < sizeLine ∧ 0 ≤ i ∧ i < 2 ^ 63 ∧ blwB l d = true then some (.p .non, μ.set l (some (.dl (es.take i.toNat ++ [d] ++ es.drop i.toNat)))) else none
    | _ => none
  | _, _ => none
theorem m_insertD : MtR X "list.insert" (rMV α fInsD) := MtR.imp mt_insert fun x vs H Q ⟨G, ρ, μ, d, ds, z, r, rs, q⟩ => by
  unfold fInsD at q
  split at q
  · rename_i l i d'
    obtain ⟨v, w, rfl, ri, rs1⟩ := rds2 rs
    split at q
    · rename_i es h2
      split at q
      · rename_i hl
        obtain ⟨a, rfl, ha⟩ := r
        obtain ⟨a', g0, g1, ws, g2, g3, g4⟩ := z.cell l _ h2
        rw [ha] at g0; cases g0
        refine ⟨a, ws, i, w, rfl, by rw [repInt ri], g2, by rw [g3.length]; exact hl.1, hl.2.1, hl.2.2.1, q _ _ G ρ Up.refl (z.write h2 ha (m' := .dl _) ⟨_, rfl, ((g3.take _).append (.cons rs1 .nil)).append (g3.drop _), fun k hk => ?_⟩) .non⟩
        rcases List.mem_append.mp hk with q | q
        · rcases List.mem_append.mp q with q | q
          · exact g4 k (List.mem_of_mem_take q)
          · simp at q
            subst q
            exact of_decide_eq_true hl.2.2.2
        · exact g4 k (List.mem_of_mem_drop q)
      · exact q.elim
    · exact q.elim
  · exact q.elim
def isLd (μ : Mu) (d : D) : Bool := isDl μ d || isLst μ d
theorem ty_ld {H G : Hp} {ρ : List Addr} {μ : Mu} {v : V} {d : D} (z : Zn α H G ρ μ) (r : RepD α G ρ v d) (h : isLd μ d = true) : tyV X.K "list" v H := by
  unfold isLd at h
  rw [Bool.or_eq_true] at h
  rcases h with h | h
  · exact ty_dl z r h
  · exact ty_lst z r h
def fAppE : FM := fun x ds μ => if isDl μ x then fAppD x ds μ else fApp x ds μ
theorem MtR.or2 {id : String} {r r' : V → List V → Hp → VK → Prop} (h : MtR X id r) (h' : MtR X id r') : MtR X id fun x y H Q => r x y H Q ∨ r' x y H Q := by
  intro pins s σ H x xs v us Q I rx rxs q
  rcases q with q | q
  · exact h pins s σ H x xs v us Q I rx rxs q
  · exact h' pins s σ H x xs v us Q I rx rxs q
theorem m_appE : MtR X "list.append" (rMV α fAppE) := MtR.imp (MtR.or2 (m_appendD (α := α)) (m_append (α := α))) fun x vs H Q ⟨G, ρ, μ, d, ds, z, r, rs, q⟩ => by
  unfold fAppE at q
  split at q
  · exact .inl ⟨G, ρ, μ, d, ds, z, r, rs, q⟩
  · exact .inr ⟨G, ρ, μ, d, ds, z, r, rs, q⟩
def ratOf (μ : Mu) : D → Option (List P)
  | .p (.lst xs) => some xs
  | .loc l => cellL μ l
  | _ => none
theorem ratOf_ok {H G : Hp} {ρ : List Addr} {μ : Mu} {v : V} {d : D} {xs : List P} (z : Zn α H G ρ μ) (r : RepD α G ρ v d) (h : ratOf μ d = some xs) : ∃ a vs, v = .ref a ∧ H a = some (.lst vs) ∧ Reps α G vs xs := by
  unfold ratOf at h
  split at h
  · cases h
    cases r with
    | lst g r => exact ⟨_, _, rfl, z.sub _ _ g, r⟩
  · rename_i l
    obtain ⟨a, rfl, ha⟩ := r
    obtain ⟨ws, g1, g2⟩ := cell_at z h ha
    exact ⟨a, ws, rfl, g1, g2⟩
  · cases h
open Classical in
noncomputable def fNeLstD (c : Nat) : F2 := fun x y μ => match ratOf μ x, ratOf μ y with
  | some xs, some ys => if ratsP c xs = true ∧ ratsP c ys = true ∧ xs.length = ys.length then some (.p (.bl (decide (xs ≠ ys))), μ) else none
  | _, _ => none
open Classical in
theorem o_neLstD {c k : Nat} {sem : FSem} (hr : Room (k + 1) X.A) (F : Mt X.prog X.w X.K X.mg X.base α k (α.cl c) "__eq__" 2 sem) (hl : (α.fl c).length = 2)
    (he : ∀ i j k l : Int, sem [.p (.obj c [.int i, .int j]), .p (.obj c [.int k, .int l])] [] = some (.ok (.p (.bl (decide (i = k ∧ j = l)))), [])) : OpR X (compareOp .NotEq) (r2V α (fNeLstD c)) := by
  obtain ⟨⟨f, fd, ps, h1, h2, h3, hb, F⟩, ar⟩ := F
  have F2 : FnOk X.prog X.w X.K X.mg X.base (L2.CX X.prog X.w) k f fd ps (spEqB (RatB α c)) := F.imp fun vs H Q E ⟨a, b, r, e, q, hq⟩ => by
    subst e
    obtain ⟨i, j, k, l, dx, dy, g1, g2, rfl⟩ := q
    have rp : ∀ (a dx : Addr) (x y : Int), H a = some (.ins (α.cl c) dx ((α.fl c).zip [.int x, .int y])) → Rep α H (.ref a) (.obj c [.int x, .int y]) := fun a dx x y g => .obj g (by rw [hl]; rfl) (.cons (.int x) (.cons (.int y) .nil))
    refine ⟨rfl, H, [], [], _, ⟨Same.refl H, rfl, fun l m e => by simp at e, fun l l' m m' a e => by simp at e⟩, .cons (x := .p (.obj c [.int i, .int j])) (rp a dx i j g1) (.cons (x := .p (.obj c [.int k, .int l])) (rp b dy k l g2) .nil), ?_⟩
    rw [he i j k l]
    intro v H' G' ρ' u z r
    cases r
    exact hq H' (u.same.trans z.sub)
  have hp : Passes (L2.CX X.prog X.w) X (fun _ _ _ => False) := passes_call takes0 fun _ _ _ _ h => h
  have hsame : ∀ a H r, RatB α c a a H r → r = true := fun a H r ⟨i, j, k, l, dx, dy, g1, g2, e⟩ => by
    rw [g1] at g2
    have g3 := Option.some.inj g2
    injection g3 with _ _ g4
    have : i = k ∧ j = l := by
      match hfl : α.fl c, hl with
      | [p, q], _ =>
        rw [hfl] at g4
        simp at g4
        exact g4
    rw [e, decide_eq_true this]
  intro pins s σ H x y v u Q I rv ru ⟨G, ρ, μ, dx, dy, z, rx, ry, q⟩
  unfold fNeLstD at q
  split at q
  · rename_i xs ys hx hy
    split at q
    · rename_i hc
      obtain ⟨c1, c2, c3⟩ := hc
      obtain ⟨a, vs, rfl, g1, r1⟩ := ratOf_ok z rx hx
      obtain ⟨b, ws, rfl, g2, r2⟩ := ratOf_ok z ry hy
      cases rv
      cases ru
      have l1 := r1.length
      have l2 := r2.length
      have fin : ∀ (t : Bool) s', t = decide (xs ≠ ys) → (∃ H', Inv X pins σ H' s' ∧ L2.Ext H H') → EP X pins σ Q (.bool t) s' := fun t s' ht ⟨H', I', e⟩ => by
        subst ht
        exact ⟨.bl _, H', I', rfl, q _ H' G ρ Up.refl (z.grow e) (.bl _)⟩
      show wpAny (model X.prog X.w) X.A (richCompare .NotEq (.ref a) (.ref b)) (EP X pins σ Q) X.xe s
      have sb : Sub X (k + 1) X.A := ⟨hr, rfl⟩
      refine rc_ne (N := vs.length) (e := fun i => decide (xs[i]? = ys[i]?)) hr.units0 (fun s' => ∃ H', Inv X pins σ H' s' ∧ L2.Ext H H') (fun s' ⟨H1, I1, e1⟩ => ?_) (fun hall s' h => fin _ s' ?_ h) (fun hex s' h => fin _ s' ?_ h) ⟨H, I, L2.Ext.rfl'⟩
      · obtain ⟨_, its, k1, t1, w1⟩ := I1.hok a _ (e1 _ _ g1)
        obtain ⟨_, its2, k2, t2, w2⟩ := I1.hok b _ (e1 _ _ g2)
        refine ⟨its.toArray, its2.toArray, k1, k2, w1, w2, by rw [List.size_toArray, ← t1.length], by rw [List.size_toArray, ← t2.length]; omega, fun i i1 i2 => ?_⟩
        have j1 : i < its.length := by simpa using i1
        have j2 : i < its2.length := by simpa using i2
        have m1 : i < xs.length := by rw [← l1, t1.length]; exact j1
        have m2 : i < ys.length := by rw [← l2, t2.length]; exact j2
        obtain ⟨p, q', ex⟩ := ratsP_at c1 (List.getElem?_eq_getElem m1)
        obtain ⟨p2, q2, ey⟩ := ratsP_at c2 (List.getElem?_eq_getElem m2)
        obtain ⟨v1, n1, o1⟩ := r1.get (List.getElem?_eq_getElem m1)
        obtain ⟨v2, n2, o2⟩ := r2.get (List.getElem?_eq_getElem m2)
        rw [ex] at o1
        rw [ey] at o2
        obtain ⟨A1, D1, rfl, G1⟩ := rep_obj2 hl o1
        obtain ⟨A2, D2, rfl, G2⟩ := rep_obj2 hl o2
        obtain ⟨u1, b1, d1⟩ := t1.get n1
        obtain ⟨u2, b2, d2⟩ := t2.get n2
        cases d1
        cases d2
        have s1 : its.toArray[i] = Value.ref A1 := by
          have : its[i] = Value.ref A1 := by
            rw [List.getElem?_eq_getElem j1] at b1; exact Option.some.inj b1
          simpa using this
        have s2 : its2.toArray[i] = Value.ref A2 := by
          have : its2[i] = Value.ref A2 := by
            rw [List.getElem?_eq_getElem j2] at b2; exact Option.some.inj b2
          simpa using this
        rw [s1, s2]
        refine wpAny_mono (eqB_ins F2 h1 h2 hb hp hsame sb.in1 I1 (e1 _ _ (z.sub _ _ G1)) (e1 _ _ (z.sub _ _ G2)) ⟨p, q', p2, q2, D1, D2, e1 _ _ (z.sub _ _ G1), e1 _ _ (z.sub _ _ G2), rfl⟩) (fun t s2 ht => ?_) fun _ _ x => x
        obtain ⟨ht, H2, I2, e2⟩ := ht
        refine ⟨?_, H2, I2, e1.trans e2⟩
        rw [ht, decide_eq_decide, List.getElem?_eq_getElem m1, List.getElem?_eq_getElem m2, ex, ey]
        simp
      · have : xs = ys := by
          apply List.ext_getElem?
          intro i
          by_cases hi : i < vs.length
          · exact of_decide_eq_true (hall i hi)
          · rw [List.getElem?_eq_none (by omega), List.getElem?_eq_none (by omega)]
        rw [decide_eq_false (by rw [this]; simp)]
      · obtain ⟨i, hi, hd⟩ := hex
        have : xs ≠ ys := fun e => by
          subst e
          simp at hd
        rw [decide_eq_true this]
    · exact q.elim
  · exact q.elim
def inDeep (x : P) (ys : List P) : Option Bool := match toPD x, toPD (.lst ys) with
  | some d, some (.list ds) => if SeqAt.shaped d && SeqAt.shaped (.list ds) then some (ds.any fun z => PyData.eqv z d) else none
  | _, _ => none
def fInD (neg : Bool) : F2 := fun x y μ => match view μ x, view μ y with
  | some x, some (.lst ys) => match inDeep x ys with
    | some b => some (.p (.bl (if neg then !b else b)), μ)
    | none => none
  | _, _ => none
theorem fInD_imp {neg : Bool} {x y : V} {H : Hp} {Q : VK} (h : r2V α (fInD neg) x y H Q) : ∃ d ds, Dp α.K H x d ∧ Dp α.K H y (.list ds) ∧ SeqAt.shaped d = true ∧ SeqAt.shaped (.list ds) = true ∧ Q (.bl (if neg then !ds.any fun z => PyData.eqv z d else ds.any fun z => PyData.eqv z d)) H := by
  obtain ⟨G, ρ, μ, dx, dy, z, rx, ry, q⟩ := h
  unfold fInD at q
  split at q
  · rename_i x' ys h1 h2
    split at q
    · rename_i b hb
      unfold inDeep at hb
      split at hb
      · rename_i d ds hd he
        split at hb
        · rename_i hs
          cases hb
          rw [Bool.and_eq_true] at hs
          exact ⟨d, ds, view_dp z rx h1 hd, view_dp z ry h2 he, hs.1, hs.2, q _ H G ρ Up.refl z (.bl _)⟩
        · cases hb
      · cases hb
    · exact q.elim
  · exact q.elim
theorem o_notInD {k : Nat} (hr : Room k X.A) (hK : X.K = α.K) : OpR X (compareOp .NotIn) (r2V α (fInD true)) := OpR.imp (op_notInD (by have := hr.un; omega)) fun _ _ _ _ h => by
  obtain ⟨d, ds, h1, h2, h3, h4, q⟩ := fInD_imp h
  exact ⟨d, ds, by rw [hK]; exact h1, by rw [hK]; exact h2, h3, h4, q⟩
end
end Vs
namespace Vs
open PySem PySem.Spec PyProof.Rows L2
noncomputable abbrev lb__law_corners_0 : SEv := (seqS (sSet 4 (evLc (evIt (evV 3)) (tgN 5) evTrue (evBI fList (evCons (evBin fIx (evBin fIx (evV 0) (evV 5)) (evC (.int 0))) evNil)) [5])) (seqS (sSet 6 (evCall m__law_solution [] (evCons (evV 4) (evCons (evLc (evIt (evV 3)) (tgN 5) evTrue (evTup (evCons (evUn fNeg (evBin fIx (evBin fIx (evBin fIx (evV 0) (evV 5)) (evC (.int 1))) (evC (.int 0)))) (evCons (evBin fIx (evBin fIx (evBin fIx (evV 0) (evV 5)) (evC (.int 1))) (evC (.int 1))) evNil))) [5]) evNil)))) (sIf (tAndV' (evB (evBin (fIs true) (evV 6) (evC .non))) (tAndV' (evB (evCall m__law_inside [] (evCons (evV 0) (evCons (evV 6) evNil)))) (evB (evBin (fInD true) (evV 6) (evV 2))))) (seqS (sSet 7 (evBI fLen (evCons (evLc (evIt (evV 2)) (tgN 8) (evB (evCall m__law_before [] (evCons (evV 8) (evCons (evV 6) evNil)))) (evV 8) [8]) evNil))) (sSet 2 (evBin fCatL (evBin fCatL (evSl (evV 2) evNoP (evPt (evV 7))) (evLst (evCons (evV 6) evNil))) (evSl (evV 2) (evPt (evV 7)) evNoP)))) sNil)))
noncomputable def sv__law_corners : SEv := (seqS (sIf (evB (evBin fEq (evV 1) (evC (.int 0)))) (sRet (evBin fRepL (evLst (evCons (evLst evNil) evNil)) (evBI fInt (evCons (evCall m__law_inside [] (evCons (evV 0) (evCons (evLst evNil) evNil))) evNil)))) sNil) (seqS (sSet 2 (evLst evNil)) (seqS (sFor (evIt (evCall m__law_picks [] (evCons (evBI fLen (evCons (evV 0) evNil)) (evCons (evV 1) evNil)))) (tgN 3) (seqS (sSet 4 (evLc (evIt (evV 3)) (tgN 5) evTrue (evBI fList (evCons (evBin fIx (evBin fIx (evV 0) (evV 5)) (evC (.int 0))) evNil)) [5])) (seqS (sSet 6 (evCall m__law_solution [] (evCons (evV 4) (evCons (evLc (evIt (evV 3)) (tgN 5) evTrue (evTup (evCons (evUn fNeg (evBin fIx (evBin fIx (evBin fIx (evV 0) (evV 5)) (evC (.int 1))) (evC (.int 0)))) (evCons (evBin fIx (evBin fIx (evBin fIx (evV 0) (evV 5)) (evC (.int 1))) (evC (.int 1))) evNil))) [5]) evNil)))) (sIf (tAndV' (evB (evBin (fIs true) (evV 6) (evC .non))) (tAndV' (evB (evCall m__law_inside [] (evCons (evV 0) (evCons (evV 6) evNil)))) (evB (evBin (fInD true) (evV 6) (evV 2))))) (seqS (sSet 7 (evBI fLen (evCons (evLc (evIt (evV 2)) (tgN 8) (evB (evCall m__law_before [] (evCons (evV 8) (evCons (evV 6) evNil)))) (evV 8) [8]) evNil))) (sSet 2 (evBin fCatL (evBin fCatL (evSl (evV 2) evNoP (evPt (evV 7))) (evLst (evCons (evV 6) evNil))) (evSl (evV 2) (evPt (evV 7)) evNoP)))) sNil)))) (sRet (evV 2)))))
noncomputable def m__law_corners : FSem := arF 2 (bodySem 9 sv__law_corners)
theorem ar__law_corners : Arity m__law_corners 2 := arF_ar
theorem le__law_corners : ∀ ds μ r, m__law_corners ds μ = some r → bodySem 9 sv__law_corners ds μ = some r := arF_le
noncomputable abbrev lb_is_beforeJ_0 : SEv := (sIf (evB (evBin (fNeO 0 m_Ratiou_equ) (evV 2) (evV 3))) (sRet (evCall m_is_less [] (evCons (evV 2) (evCons (evV 3) evNil)))) sNil)
noncomputable def sv_is_beforeJ : SEv := (seqS (sForJ (evZipJ (evCons (evV 0) (evCons (evV 1) evNil))) (tgTI 2 3) (sIf (evB (evBin (fNeO 0 m_Ratiou_equ) (evV 2) (evV 3))) (sRet (evCall m_is_less [] (evCons (evV 2) (evCons (evV 3) evNil)))) sNil)) (sRet (evC (.bl false))))
noncomputable def m_is_beforeJ : FSem := arF 2 (bodySem 4 sv_is_beforeJ)
theorem ar_is_beforeJ : Arity m_is_beforeJ 2 := arF_ar
theorem le_is_beforeJ : ∀ ds μ r, m_is_beforeJ ds μ = some r → bodySem 4 sv_is_beforeJ ds μ = some r := arF_le
noncomputable abbrev lb__insertJ_0 : SEv := (seqS (sSet 4 (evBin fDiv (evBin fAdd (evV 2) (evV 3)) (evC (.int 2)))) (sIf (evB (evCall m_is_beforeJ [] (evCons (evBin fIxD (evV 0) (evV 4)) (evCons (evV 1) evNil)))) (sSet 2 (evBin fAdd (evV 4) (evC (.int 1)))) (sSet 3 (evV 4))))
noncomputable def sv__insertJ : SEv := (seqS (sSet 2 (evC (.int 0))) (seqS (sSet 3 (evBI fLenD (evCons (evV 0) evNil))) (seqS (sWhile 1000000 (evB (evBin fLt (evV 2) (evV 3))) (seqS (sSet 4 (evBin fDiv (evBin fAdd (evV 2) (evV 3)) (evC (.int 2)))) (sIf (evB (evCall m_is_beforeJ [] (evCons (evBin fIxD (evV 0) (evV 4)) (evCons (evV 1) evNil)))) (sSet 2 (evBin fAdd (evV 4) (evC (.int 1)))) (sSet 3 (evV 4))))) (sIf (tOrV' (evB (evBin fEq (evV 2) (evBI fLenD (evCons (evV 0) evNil)))) (evB (evBin (fNeLstD 0) (evBin fIxD (evV 0) (evV 2)) (evV 1)))) (sExpr (evBM isDl fInsD (evV 0) (evCons (evV 2) (evCons (evV 1) evNil)))) sNil))))
noncomputable def m__insertJ : FSem := arF 2 (bodySem 5 sv__insertJ)
theorem ar__insertJ : Arity m__insertJ 2 := arF_ar
theorem le__insertJ : ∀ ds μ r, m__insertJ ds μ = some r → bodySem 5 sv__insertJ ds μ = some r := arF_le
noncomputable abbrev lb_verticesJ_0 : SEv := (seqS (sSet 5 (evCall m__common_zero [] (evCons (evV 4) (evCons (evV 1) evNil)))) (sIf (tAndV' (evB (evBin (fIs true) (evV 5) (evC .non))) (evB (evCall m__keeps [] (evCons (evV 2) (evCons (evV 5) evNil))))) (mvS m__insertJ 3 (evCall m__point_of [] (evCons (evV 5) evNil))) sNil))
noncomputable def sv_verticesJ : SEv := (seqS (sSet 2 (evCall m__rows_of [] (evCons (evV 0) evNil))) (seqS (sSet 3 (evLstC evNil)) (seqS (sFor (evComb (evCons (evV 2) (evCons (evV 1) evNil))) (tgN 4) (seqS (sSet 5 (evCall m__common_zero [] (evCons (evV 4) (evCons (evV 1) evNil)))) (sIf (tAndV' (evB (evBin (fIs true) (evV 5) (evC .non))) (evB (evCall m__keeps [] (evCons (evV 2) (evCons (evV 5) evNil))))) (mvS m__insertJ 3 (evCall m__point_of [] (evCons (evV 5) evNil))) sNil))) (sRet (evV 3)))))
noncomputable def m_verticesJ : FSem := arF 2 (bodySemK 6 sv_verticesJ)
theorem ar_verticesJ : Arity m_verticesJ 2 := arF_ar
theorem le_verticesJ : ∀ ds μ r, m_verticesJ ds μ = some r → bodySemK 6 sv_verticesJ ds μ = some r := arF_le
end Vs
namespace Vs
open PySem PySem.Spec PyProof.Rows L2
open Bar (gt cz Sol Bd rg gsol RowIn ESol SR QRow gred GS InSp Span IndP withRow wrow chgK dotI PSol LSol RowOf HS units dq)
section
variable {μ : Mu} {δ : Sl}
theorem pk_len9 {w : Nat} (hw : w ≤ 9) : ∀ k, (pk w k).length ≤ 9 ^ k
  | 0 => by simp [pk]
  | k + 1 => by
    have := extL_len (w := w) (pk w k)
    have h2 : (pk w k).length * w ≤ 9 ^ k * 9 := Nat.mul_le_mul (pk_len9 hw k) hw
    rw [Nat.pow_succ]
    show (extL w (pk w k)).length ≤ _
    omega
theorem pk_step9 {c1 c2 c3 : Option D} {w : Nat} (hw : w ≤ 9) : ∀ (rs acc : List (List Nat)) (c5 c6 : Option D), (∀ r ∈ rs, r.length ≤ 90 ∧ ∀ x ∈ r, x < w) → acc.length + rs.length * w ≤ 900 → ∃ c5',
    forL (tgN 5) lb__law_picks_0 (rs.map ixP) [some (.p (.int (w : Int))), c1, c2, c3, some (.p (.lst (acc.map ixP))), c5, none] μ = some (.nx, [some (.p (.int (w : Int))), c1, c2, c3, some (.p (.lst ((acc ++ extL w rs).map ixP))), c5', none], μ) := by
  intro rs
  induction rs with
  | nil => intro acc c5 c6 _ _; exact ⟨c5, by simp [forL, extL]⟩
  | cons r rs ih =>
    intro acc c5 c6 hr hl
    obtain ⟨rl, rw'⟩ := hr r List.mem_cons_self
    have ll := lo_le rw'
    rw [List.length_cons, Nat.add_mul] at hl
    have el := extP_len (w := w) (ns := r)
    obtain ⟨c5', e⟩ := ih (acc ++ extP w r) (some (.p (ixP r))) c6 (fun x hx => hr x (List.mem_cons_of_mem _ hx)) (by rw [List.length_append]; omega)
    refine ⟨c5', ?_⟩
    have rn := rng2_n (δ := [some (.p (.int (w : Int))), c1, c2, c3, some (.p (.lst (acc.map ixP))), some (.p (ixP r)), none]) (μ := μ) (a := lsB) (b := evV 0) (ev_lsB (by omega)) evV_0 (by omega) (by omega)
    have lc := lc_map (δ := [some (.p (.int (w : Int))), c1, c2, c3, some (.p (.lst (acc.map ixP))), some (.p (ixP r)), none]) (μ := μ) (ν := μ) (it := evRng2 lsB (evV 0)) (ts := tgN 6) (e := evBin fCatT (evV 5) (evTup (evCons (evV 6) evNil))) (vs := [6]) (as := List.range' (lo r) (w - lo r)) (fun j : Nat => P.int (j : Int)) (fun j => ixP (r ++ [j])) rn (fun j hj => ⟨_, rfl, fun κ => by
      have ct : fCatT (.p (ixP r)) (.p (.tup [.int (j : Int)])) κ = some (.p (.tup ((r.map fun k : Nat => P.int (k : Int)) ++ [.int (j : Int)])), κ) := cat_tG (by simp; omega)
      show evBin fCatT (evV 5) (evTup (evCons (evV 6) evNil)) [some (.p (.int (w : Int))), c1, c2, c3, some (.p (.lst (acc.map ixP))), some (.p (ixP r)), some (.p (.int (j : Int)))] κ = _
      rw [evBin_eq, evV_5, bindG_ok, evTup_eq, evCons_eq, evV_6, bindG_ok, evNil_eq, bindG_ok, bindG_ok, toPs_cons, toPs_nil, consP_some, tupEnd_some, if_pos (show ([P.int (j : Int)] : List P).length ≤ sizeLine from line_1), bindG_ok, ct, okm_some, ix_snoc]⟩) (Nat.le_of_lt (line_k (by simp; omega)))
    have ct := fCatL_p (μ := μ) (xs := acc.map ixP) (ys := (List.range' (lo r) (w - lo r)).map fun j => ixP (r ++ [j])) (Nat.le_of_lt (line_k (by simp; omega)))
    have eq : acc.map ixP ++ (List.range' (lo r) (w - lo r)).map (fun j => ixP (r ++ [j])) = (acc ++ extP w r).map ixP := by
      unfold extP
      rw [List.map_append, List.map_map]; rfl
    rw [eq] at ct
    rw [List.map_cons, forL_nx (δ1 := [some (.p (.int (w : Int))), c1, c2, c3, some (.p (.lst (acc.map ixP))), some (.p (ixP r)), none]) rfl (by
      unfold lb__law_picks_0
      unfold lsB at lc
      rw [sSet_eq, evBin_eq, evV_4, bindG_ok, lc, bindG_ok, ct, okm_some, bindS_ok])]
    simp only [List.set_cons_succ, List.set_cons_zero]
    rw [e, extL, List.append_assoc]
theorem pk_loop9 {c1 : Option D} {w : Nat} (hw : w ≤ 9) : ∀ (m k : Nat) (c3 c4 c5 : Option D), k + m ≤ 3 → ∃ c3' c4' c5',
    forL (tgN 3) lb__law_picks_1 (intsP k m) [some (.p (.int (w : Int))), c1, some (.p (.lst ((pk w k).map ixP))), c3, c4, c5, none] μ = some (.nx, [some (.p (.int (w : Int))), c1, some (.p (.lst ((pk w (k + m)).map ixP))), c3', c4', c5', none], μ) := by
  intro m
  induction m with
  | zero => intro k c3 c4 c5 _; exact ⟨c3, c4, c5, rfl⟩
  | succ m ih =>
    intro k c3 c4 c5 hk
    have pl := pk_len9 hw k
    have p8 : 9 ^ k ≤ 9 ^ 2 := Nat.pow_le_pow_right (by decide) (by omega)
    obtain ⟨d5, e1⟩ := pk_step9 (μ := μ) (c1 := c1) (c2 := some (.p (.lst ((pk w k).map ixP)))) (c3 := some (.p (.int (k : Int)))) hw (pk w k) [] c5 none (fun r hr => by
      obtain ⟨a, b⟩ := pk_ok k r hr
      exact ⟨by omega, b⟩) (by
      have : (pk w k).length * w ≤ 81 * 9 := Nat.mul_le_mul (by omega) hw
      show 0 + _ ≤ 900; omega)
    obtain ⟨c3', c4', c5', e2⟩ := ih (k + 1) (some (.p (.int (k : Int)))) (some (.p (.lst ((pk w (k + 1)).map ixP)))) d5 (by omega)
    refine ⟨c3', c4', c5', ?_⟩
    rw [show k + (m + 1) = k + 1 + m by omega]
    rw [intsP_succ, forL_nx (δ1 := [some (.p (.int (w : Int))), c1, some (.p (.lst ((pk w k).map ixP))), some (.p (.int (k : Int))), c4, c5, none]) (δ2 := [some (.p (.int (w : Int))), c1, some (.p (.lst ((pk w (k + 1)).map ixP))), some (.p (.int (k : Int))), some (.p (.lst ((pk w (k + 1)).map ixP))), d5, none]) (μ2 := μ) rfl (by
      unfold lb__law_picks_1
      unfold lb__law_picks_0 at e1
      rw [List.map_nil] at e1
      rw [seqS_eq, sSet_eq, evLst_eq, evNil_eq, bindG_ok, toPs_nil, lstEnd_some, if_pos (show ([] : List P).length ≤ sizeLine from line_0), bindS_ok, andThen_nx]
      simp only [List.set_cons_succ, List.set_cons_zero]
      rw [seqS_eq, sFor_eq, show evIt (evV 2) [some (D.p (.int (w : Int))), c1, some (.p (.lst ((pk w k).map ixP))), some (.p (.int (k : Int))), some (.p (.lst [])), c5, none] μ = some (.ok ((pk w k).map ixP), μ) from rfl, bindS_ok, e1, andThen_nx, sSet_eq, evV_4, bindS_ok, List.nil_append]
      rfl), e2]
theorem ev_picks9 {w k : Nat} (hw : w ≤ 9) (hk : k ≤ 3) : m__law_picks [.p (.int (w : Int)), .p (.int (k : Int))] μ = some (.ok (.p (.lst ((pk w k).map ixP))), μ) := by
  obtain ⟨c3, c4, c5, e⟩ := pk_loop9 (μ := μ) (c1 := some (.p (.int (k : Int)))) hw k 0 none none none (by omega)
  rw [Nat.zero_add] at e
  unfold m__law_picks
  rw [arF2]
  unfold sv__law_picks
  simp only [List.replicate, List.cons_append, List.nil_append]
  unfold lb__law_picks_1 at e
  rw [seqS_eq, sSet_eq, evLst_eq, evCons_eq, evTup_eq, evNil_eq, bindG_ok, toPs_nil, tupEnd_some, if_pos (show ([] : List P).length ≤ sizeLine from line_0), bindG_ok, evNil_eq, bindG_ok, bindG_ok, toPs_cons, toPs_nil, consP_some, lstEnd_some, if_pos (show ([P.tup []] : List P).length ≤ sizeLine from line_1), bindS_ok, andThen_nx]
  simp only [List.set_cons_succ, List.set_cons_zero]
  rw [show ([P.tup []] : List P) = (pk w 0).map ixP from rfl, seqS_eq, sFor_eq, rng_n k evV_1 (by omega), bindS_ok, e, andThen_nx, sRet_eq, evV_2, bindS_ok, retF_p, List.take_length]
theorem lbef_loop7 {xs ys : List Rat} (h1 : ∀ q ∈ xs, Bz 700 q) (h2 : ∀ q ∈ ys, Bz 700 q) (hl : xs.length = ys.length) : ∀ (m i : Nat) (c2 : Option D), i + m = xs.length → ∃ δ', forL (tgN 2) lb__law_before_0 (intsP i m) [some (.p (qP xs)), some (.p (qP ys)), c2] μ = some ((match befO (xs.drop i) (ys.drop i) with
    | some b => Fl.ret (.p (.bl b))
    | none => Fl.nx), δ', μ) := by
  intro m
  induction m with
  | zero => intro i c2 hi; rw [List.drop_eq_nil_of_le (show xs.length ≤ i by omega)]; exact ⟨_, rfl⟩
  | succ m ih =>
    intro i c2 hi
    have i1 : i < xs.length := by omega
    have i2 : i < ys.length := by omega
    obtain ⟨δ', e⟩ := ih (i + 1) (some (.p (.int (i : Int)))) (by omega)
    have x1 : fIx (.p (qP xs)) (.p (.int (i : Int))) μ = some (.p (pr (rg xs i)), μ) := lix (f := pr) 0 i1
    have x2 : fIx (.p (qP ys)) (.p (.int (i : Int))) μ = some (.p (pr (rg ys i)), μ) := lix (f := pr) 0 i2
    have ne := fNe_p (μ := μ) (eqP_prG (a := rg xs i) (b := rg ys i))
    have ls := ev_rless (μ := μ) ((h1 _ (getD_mem (d := 0) i1)).mono (by decide)) ((h2 _ (getD_mem (d := 0) i2)).mono (by decide))
    rw [show xs.getD i 0 = rg xs i from rfl, show ys.getD i 0 = rg ys i from rfl] at ls
    rw [List.drop_eq_getElem_cons i1, List.drop_eq_getElem_cons i2, intsP_succ, ← Bar.rg_lt i1, ← Bar.rg_lt i2]
    unfold befO
    by_cases q : rg xs i = rg ys i
    · refine ⟨δ', ?_⟩
      rw [if_pos q, forL_nx rfl (by
        unfold lb__law_before_0
        simp only [List.set_cons_succ, List.set_cons_zero]
        rw [sIf_eq, evB_eq', evBin_eq, evBin_eq, evV_0, bindG_ok, evV_2, bindG_ok, x1, okm_some, bindG_ok, evBin_eq, evV_1, bindG_ok, evV_2, bindG_ok, x2, okm_some, bindG_ok, ne, okm_some, bindG_ok, toB_bl, bindS_ok, if_neg (by rw [decide_eq_true q]; decide), sNil_eq])]
      exact e
    · refine ⟨[some (.p (qP xs)), some (.p (qP ys)), some (.p (.int (i : Int)))], ?_⟩
      rw [if_neg q, forL_ret rfl (by
        unfold lb__law_before_0
        simp only [List.set_cons_succ, List.set_cons_zero]
        rw [sIf_eq, evB_eq', evBin_eq, evBin_eq, evV_0, bindG_ok, evV_2, bindG_ok, x1, okm_some, bindG_ok, evBin_eq, evV_1, bindG_ok, evV_2, bindG_ok, x2, okm_some, bindG_ok, ne, okm_some, bindG_ok, toB_bl, bindS_ok, if_pos (by rw [decide_eq_false q]; rfl), sRet_eq, evCall_eq, evCons_eq, evBin_eq, evV_0, bindG_ok, evV_2, bindG_ok, x1, okm_some, bindG_ok, evCons_eq, evBin_eq, evV_1, bindG_ok, evV_2, bindG_ok, x2, okm_some, bindG_ok, evNil_eq, bindG_ok, bindG_ok, bindG_ok, List.map_nil, List.append_nil, ls, bindS_ok])]
theorem ev_lbefore7 {xs ys : List Rat} (h1 : ∀ q ∈ xs, Bz 700 q) (h2 : ∀ q ∈ ys, Bz 700 q) (hl : xs.length = ys.length) (h9 : xs.length < 900) : m__law_before [.p (qP xs), .p (qP ys)] μ = some (.ok (.p (.bl (bef xs ys))), μ) := by
  obtain ⟨δ', e⟩ := lbef_loop7 (μ := μ) h1 h2 hl xs.length 0 none (by omega)
  rw [List.drop_zero, List.drop_zero] at e
  have r := rng_n xs.length (δ := [some (.p (qP xs)), some (.p (qP ys)), none]) (μ := μ) (len_q (r := xs) evV_0) (by omega)
  unfold m__law_before
  rw [arF2]
  unfold sv__law_before
  simp only [List.replicate, List.cons_append, List.nil_append]
  unfold lb__law_before_0 at e
  rw [seqS_eq, sFor_eq, r, bindS_ok, e]
  unfold bef
  cases befO xs ys with
  | none =>
    dsimp only
    rw [andThen_nx, sRet_eq, evC_eq, bindS_ok, retF_p, List.take_length]; rfl
  | some b =>
    dsimp only
    rw [andThen_ret, retF_p, List.take_length]; rfl
theorem vt_pick4 {n : Nat} {R : List Fm} (hn : n ≤ 3) (hR : ∀ f ∈ R, FmOk n 155 15 f) (hR' : ∀ f ∈ R, f.1.length = n) {ns : List Nat} (hl : ns.length = n) (hk : ∀ k ∈ ns, k < R.length) :
    m__common_zero [.p (.tup ((ns.map fun j => (rowsR R).getD j []).map rP)), .p (.int (n : Int))] μ = some (.ok (.p (czP (fcRows n R [] [] ns []) n)), μ) ∧
    ∀ pl, cz (fcRows n R [] [] ns []) n = some pl → pl.length = n + 1 ∧ 0 < gt pl n ∧ Bd 1370 pl ∧ m__keeps [.p (rsP (rowsR R)), .p (rP pl)] μ = some (.ok (.p (.bl (insideB R (ptOf pl n)))), μ) := by
  have hb : ∀ r ∈ rowsR R, r.length = n + 1 ∧ Bd 170 r := fun r hr => by
    obtain ⟨f, hf, rfl⟩ := List.mem_map.mp hr
    exact ⟨by rw [whole_len]; unfold fmL; rw [List.length_append, (hR f hf).len]; rfl, whole_bd (N := 155) (S := 15) (hR f hf).nz (hR f hf).s⟩
  have fr : ∀ r ∈ fcRows n R [] [] ns [], r.length = n + 1 ∧ Bd 170 r := fun r hr => by
    unfold fcRows at hr
    rw [List.map_nil, List.append_nil] at hr
    obtain ⟨k, hkk, rfl⟩ := List.mem_map.mp hr
    exact hb _ (List.mem_map.mpr ⟨_, getD_mem (hk k hkk), rfl⟩)
  have p8 : 2 ^ n ≤ 2 ^ 3 := Nat.pow_le_pow_right (by decide) hn
  have cl : (fcRows n R [] [] ns []).length = n := by
    unfold fcRows
    rw [List.map_nil, List.append_nil, List.length_map, hl]
  constructor
  · rw [rows_pick (n := n) hk]
    exact ev_common_zeroT (B := 170) (fun r hr => (fr r hr).1) (by omega) (fun r hr => (fr r hr).2) (by decide) (Nat.le_trans (Nat.mul_le_mul_left _ p8) (by decide)) (by omega)
  · intro pl q
    obtain ⟨l1, l2, _⟩ := Bar.cz_some (fun r hr => (fr r hr).1) q
    have bd : Bd 1370 pl := (cz_bd (fun r hr => (fr r hr).1) (fun r hr => (fr r hr).2) (by decide) q).mono (Nat.le_trans (Nat.mul_le_mul_left _ p8) (by decide))
    have kp := ev_keeps (μ := μ) (rows := rowsR R) (pl := pl) (n := n + 1) (B := 170) (C := 1370) l1 bd (by omega) (by decide) (by decide) (by decide) hb
    rw [keep_pt hR' l1 l2] at kp
    exact ⟨l1, l2, bd, kp⟩
theorem vt_cond4 {n : Nat} {R : List Fm} (hn : n ≤ 3) (hR : ∀ f ∈ R, FmOk n 155 15 f) (hR' : ∀ f ∈ R, f.1.length = n) {ns : List Nat} (hl : ns.length = n) (hk : ∀ k ∈ ns, k < R.length) {c0 c1 c3 c4 : Option D} :
    tAndV' (evB (evBin (fIs true) (evV 5) (evC .non))) (evB (evCall m__keeps [] (evCons (evV 2) (evCons (evV 5) evNil)))) [c0, c1, some (.p (rsP (rowsR R))), c3, c4, some (.p (czP (fcRows n R [] [] ns []) n))] μ = some (.ok (vPt n R ns).isSome, μ) := by
  obtain ⟨_, a⟩ := vt_pick4 (μ := μ) hn hR hR' hl hk
  cases q : cz (fcRows n R [] [] ns []) n with
  | none =>
    have : czP (fcRows n R [] [] ns []) n = .non := by unfold czP; rw [q]
    rw [vPt_none q, this, tAndV_eq, evB_eq', evBin_eq, evV_5, bindG_ok, evC_eq, bindG_ok, fIs_non, okm_some, bindG_ok, toB_bl, bindG_ok]
    rfl
  | some pl =>
    obtain ⟨_, _, _, kp⟩ := a pl q
    have hc : czP (fcRows n R [] [] ns []) n = rP pl := by unfold czP; rw [q]
    rw [hc, vPt_pl q, tAndV_eq, evB_eq', evBin_eq, evV_5, bindG_ok, evC_eq, bindG_ok, fIs_non, okm_some, bindG_ok, toB_bl, bindG_ok, show (if true = true then !isNon (D.p (rP pl)) else isNon (D.p (rP pl))) = true from rfl, if_pos rfl, evB_eq', evCall_eq, evCons_eq, evV_2, bindG_ok, evCons_eq, evV_5, bindG_ok, evNil_eq, bindG_ok, bindG_ok, bindG_ok, List.map_nil, List.append_nil, kp, bindG_ok, toB_bl]
    cases insideB R (ptOf pl n) <;> rfl
theorem ie_loop4 {n : Nat} {R : List Fm} (hn : n ≤ 3) (hR : ∀ f ∈ R, FmOk n 155 15 f) (hR' : ∀ f ∈ R, f.1.length = n) {c0 : Option D} : ∀ (L : List (List Nat)) (c3 c4 : Option D), (∀ ns ∈ L, ns.length = n ∧ ∀ k ∈ ns, k < R.length) → ∃ δ' fl,
    forL (tgN 3) lb_is_empty_0 (L.map fun ns => P.tup ((ns.map fun j => (rowsR R).getD j []).map rP)) [c0, some (.p (.int (n : Int))), some (.p (rsP (rowsR R))), c3, c4] μ = some (fl, δ', μ) ∧ ((fl = .nx ∧ ∀ ns ∈ L, vPt n R ns = none) ∨ (fl = .ret (.p (.bl false)) ∧ ∃ ns ∈ L, vPt n R ns ≠ none)) := by
  intro L
  induction L with
  | nil => intro c3 c4 _; exact ⟨_, _, rfl, .inl ⟨rfl, fun ns h => by cases h⟩⟩
  | cons ns L ih =>
    intro c3 c4 hL
    obtain ⟨nl, nk⟩ := hL ns List.mem_cons_self
    obtain ⟨e1, e2⟩ := vt_pick4 (μ := μ) hn hR hR' nl nk
    have cond : tAndV' (evB (evBin (fIs true) (evV 4) (evC .non))) (evB (evCall m__keeps [] (evCons (evV 2) (evCons (evV 4) evNil)))) [c0, some (.p (.int (n : Int))), some (.p (rsP (rowsR R))), some (.p (.tup ((ns.map fun j => (rowsR R).getD j []).map rP))), some (.p (czP (fcRows n R [] [] ns []) n))] μ = some (.ok (vPt n R ns).isSome, μ) := by
      cases q : cz (fcRows n R [] [] ns []) n with
      | none =>
        have : czP (fcRows n R [] [] ns []) n = .non := by unfold czP; rw [q]
        rw [vPt_none q, this, tAndV_eq, evB_eq', evBin_eq, evV_4, bindG_ok, evC_eq, bindG_ok, fIs_non, okm_some, bindG_ok, toB_bl, bindG_ok]
        rfl
      | some pl =>
        obtain ⟨_, _, _, kp⟩ := e2 pl q
        have hc : czP (fcRows n R [] [] ns []) n = rP pl := by unfold czP; rw [q]
        rw [hc, vPt_pl q, tAndV_eq, evB_eq', evBin_eq, evV_4, bindG_ok, evC_eq, bindG_ok, fIs_non, okm_some, bindG_ok, toB_bl, bindG_ok, show (if true = true then !isNon (D.p (rP pl)) else isNon (D.p (rP pl))) = true from rfl, if_pos rfl, evB_eq', evCall_eq, evCons_eq, evV_2, bindG_ok, evCons_eq, evV_4, bindG_ok, evNil_eq, bindG_ok, bindG_ok, bindG_ok, List.map_nil, List.append_nil, kp, bindG_ok, toB_bl]
        cases insideB R (ptOf pl n) <;> rfl
    have body : lb_is_empty_0 [c0, some (.p (.int (n : Int))), some (.p (rsP (rowsR R))), some (.p (.tup ((ns.map fun j => (rowsR R).getD j []).map rP))), c4] μ = if (vPt n R ns).isSome = true then some (.ret (.p (.bl false)), [c0, some (.p (.int (n : Int))), some (.p (rsP (rowsR R))), some (.p (.tup ((ns.map fun j => (rowsR R).getD j []).map rP))), some (.p (czP (fcRows n R [] [] ns []) n))], μ) else some (.nx, [c0, some (.p (.int (n : Int))), some (.p (rsP (rowsR R))), some (.p (.tup ((ns.map fun j => (rowsR R).getD j []).map rP))), some (.p (czP (fcRows n R [] [] ns []) n))], μ) := by
      unfold lb_is_empty_0
      rw [seqS_eq, sSet_eq, evCall_eq, evCons_eq, evV_3, bindG_ok, evCons_eq, evV_1, bindG_ok, evNil_eq, bindG_ok, bindG_ok, bindG_ok, List.map_nil, List.append_nil, e1, bindS_ok, andThen_nx]
      simp only [List.set_cons_succ, List.set_cons_zero]
      rw [sIf_eq, cond, bindS_ok, sRet_eq, evC_eq, bindS_ok, sNil_eq]
    cases q : vPt n R ns with
    | none =>
      rw [q, if_neg (by simp)] at body
      obtain ⟨δ', fl, e, h⟩ := ih (some (.p (.tup ((ns.map fun j => (rowsR R).getD j []).map rP)))) (some (.p (czP (fcRows n R [] [] ns []) n))) (fun m hm => hL m (List.mem_cons_of_mem _ hm))
      refine ⟨δ', fl, by rw [List.map_cons, forL_nx rfl body, e], ?_⟩
      rcases h with ⟨h1, h2⟩ | ⟨h1, m, h2, h3⟩
      · refine .inl ⟨h1, fun m hm => ?_⟩
        rcases List.mem_cons.mp hm with rfl | hm
        · exact q
        · exact h2 m hm
      · exact .inr ⟨h1, m, List.mem_cons_of_mem _ h2, h3⟩
    | some pt =>
      rw [q, if_pos (show (some pt).isSome = true from rfl)] at body
      exact ⟨_, _, by rw [List.map_cons, forL_ret rfl body], .inr ⟨rfl, ns, List.mem_cons_self, by rw [q]; simp⟩⟩
theorem ev_is_empty4 {n : Nat} {R : List Fm} (hn : n ≤ 3) (hR : ∀ f ∈ R, FmOk n 155 15 f) (hw : R.length ≤ 9) : m_is_empty [.p (rgR R), .p (.int (n : Int))] μ = some (.ok (.p (.bl (vtx n R).isEmpty)), μ) := by
  have e1 := ev_rows_of (μ := μ) hR (by decide) (by decide) (by omega) (by omega)
  rw [show rsP (R.map fun f => whole (fmL f)) = rsP (rowsR R) from rfl] at e1
  obtain ⟨δ', fl, e, h⟩ := ie_loop4 (μ := μ) (c0 := some (.p (rgR R))) hn hR (fun f hf => (hR f hf).len) (pk R.length n) none none (fun ns h => pk_ok n ns h)
  have cb := ev_comb (μ := μ) (n := n) (R := R) (i := 2) (j := 1) (δ := [some (.p (rgR R)), some (.p (.int (n : Int))), some (.p (rsP (rowsR R))), none, none]) hn (by omega) rfl rfl
  unfold m_is_empty
  rw [arF2]
  unfold sv_is_empty
  simp only [List.replicate, List.cons_append, List.nil_append]
  unfold lb_is_empty_0 at e
  rw [seqS_eq, sSet_eq, evCall_eq, evCons_eq, evV_0, bindG_ok, evNil_eq, bindG_ok, bindG_ok, List.map_nil, List.append_nil, e1, bindS_ok, andThen_nx]
  simp only [List.set_cons_succ, List.set_cons_zero]
  rw [seqS_eq, sFor_eq, cb, bindS_ok, e]
  rcases h with ⟨rfl, h2⟩ | ⟨rfl, ns, h2, h3⟩
  · rw [andThen_nx, sRet_eq, evC_eq, bindS_ok, retF_p, List.take_length, vtx_nil.mpr h2]; rfl
  · rw [andThen_ret, retF_p, List.take_length]
    have : vtx n R ≠ [] := fun z => h3 (vtx_nil.mp z ns h2)
    obtain ⟨p, ps, hp⟩ := List.exists_cons_of_ne_nil this
    rw [hp]; rfl
end
end Vs
namespace Vs
open PySem PySem.Spec PyProof.Rows L2
open Bar (gt cz Sol Bd rg gsol RowIn ESol SR QRow)
def rL (xs : List Rat) : List P := xs.map rat
structure Lv (n0 : Nat) (μ : Mu) (l : Nat) (Rs : List (List P)) (ks : List Nat) : Prop where
  len : ks.length = Rs.length
  nd : ks.Nodup
  lo : ∀ k ∈ ks, n0 ≤ k
  hi : ∀ k ∈ ks, k < l
  l0 : n0 ≤ l
  at' : ∃ m, μ[l]? = some (some m) ∧ (m = .dl (ks.map .loc) ∨ (ks = [] ∧ m = .lst []))
  row : ∀ (i k : Nat) (R : List P), ks[i]? = some k → Rs[i]? = some R → μ[k]? = some (some (.lst R))
theorem Lv.ext {n0 : Nat} {μ ν : Mu} {l : Nat} {Rs : List (List P)} {ks : List Nat} (L : Lv n0 μ l Rs ks) (e : Ext μ ν) : Lv n0 ν l Rs ks :=
  ⟨L.len, L.nd, L.lo, L.hi, L.l0, by obtain ⟨m, h, q⟩ := L.at'; exact ⟨m, e.at h, q⟩, fun i k R h h2 => e.at (L.row i k R h h2)⟩
theorem Lv.items {n0 : Nat} {μ : Mu} {l : Nat} {Rs : List (List P)} {ks : List Nat} (L : Lv n0 μ l Rs ks) : ∃ g, items μ (.loc l) = some (false, ks.map .loc, g) ∧ okG μ g := by
  obtain ⟨m, h, q⟩ := L.at'
  rcases q with rfl | ⟨rfl, rfl⟩
  · exact ⟨some (l, .dl (ks.map .loc)), by unfold Vs.items; dsimp only; rw [h], h⟩
  · exact ⟨some (l, .lst []), by unfold Vs.items; dsimp only; rw [h]; rfl, h⟩
theorem Lv.lt {n0 : Nat} {μ : Mu} {l : Nat} {Rs : List (List P)} {ks : List Nat} (L : Lv n0 μ l Rs ks) : l < μ.length := by
  obtain ⟨m, h, _⟩ := L.at'
  exact (List.getElem?_eq_some_iff.mp h).1
theorem Lv.get {n0 : Nat} {μ : Mu} {l : Nat} {Rs : List (List P)} {ks : List Nat} (L : Lv n0 μ l Rs ks) {i : Nat} (h : i < Rs.length) : ∃ k, ks[i]? = some k ∧ LsD μ (.loc k) (Rs.getD i []) := by
  have hi : i < ks.length := by rw [L.len]; exact h
  exact ⟨ks[i], List.getElem?_eq_getElem hi, .inr ⟨_, rfl, L.row i _ _ (List.getElem?_eq_getElem hi) (by rw [List.getD_eq_getElem?_getD, List.getElem?_eq_getElem h]; rfl)⟩⟩
/-- the list goes to the end -/
theorem Lv.move {n0 : Nat} {μ : Mu} {l : Nat} {Rs : List (List P)} {ks : List Nat} (L : Lv n0 μ l Rs ks) : mvD μ l = some (μ.set l none ++ [some (.dl (ks.map .loc))]) ∧ Lv n0 (μ.set l none ++ [some (.dl (ks.map .loc))]) μ.length Rs ks := by
  have ll := L.lt
  constructor
  · obtain ⟨m, h, q⟩ := L.at'
    unfold mvD
    rcases q with rfl | ⟨rfl, rfl⟩
    · rw [h]
    · rw [h]; rfl
  · refine ⟨L.len, L.nd, L.lo, fun k hk => by have := L.hi k hk; omega, by have := L.l0; omega, ⟨_, ?_, .inl rfl⟩, fun i k R h1 h2 => ?_⟩
    · rw [List.getElem?_append_right (by rw [List.length_set]; exact Nat.le_refl _), List.length_set, Nat.sub_self]; rfl
    · have hk := L.hi k (List.mem_of_getElem? h1)
      rw [List.getElem?_append_left (by rw [List.length_set]; omega), List.getElem?_set_ne (by omega)]
      exact L.row i k R h1 h2
theorem take_drop_get {α : Type} {xs : List α} {x : α} {b i : Nat} (hb : b ≤ xs.length) : (xs.take b ++ [x] ++ xs.drop b)[i]? = if i < b then xs[i]? else if i = b then some x else xs[i - 1]? := by
  have l1 : (xs.take b).length = b := by rw [List.length_take]; omega
  by_cases h : i < b
  · rw [if_pos h, List.append_assoc, List.getElem?_append_left (by omega), List.getElem?_take_of_lt h]
  · rw [if_neg h, List.append_assoc, List.getElem?_append_right (by omega), l1]
    by_cases q : i = b
    · rw [if_pos q, q, Nat.sub_self]; rfl
    · rw [if_neg q, List.getElem?_append_right (by simp; omega), List.getElem?_drop]
      congr 1
      simp; omega
theorem Lv.insert {n0 : Nat} {μ : Mu} {l : Nat} {Rs : List (List P)} {ks : List Nat} (L : Lv n0 μ l Rs ks) {b j : Nat} {R : List P} (hj : j ≤ ks.length) (h0 : n0 ≤ b) (hb : b < l) (hn : b ∉ ks) (hr : μ[b]? = some (some (.lst R))) :
    Lv n0 (μ.set l (some (.dl ((ks.take j ++ [b] ++ ks.drop j).map .loc)))) l (Rs.take j ++ [R] ++ Rs.drop j) (ks.take j ++ [b] ++ ks.drop j) := by
  have ll := L.lt
  have mm : ∀ k, k ∈ ks.take j ++ [b] ++ ks.drop j → k = b ∨ k ∈ ks := fun k h => by
    rcases List.mem_append.mp h with h | h
    · rcases List.mem_append.mp h with h | h
      · exact .inr (List.mem_of_mem_take h)
      · simp at h; exact .inl h
    · exact .inr (List.mem_of_mem_drop h)
  have e := L.len
  refine ⟨by simp; omega, ?_, fun k hk => ?_, fun k hk => ?_, L.l0, ⟨_, List.getElem?_set_self ll, .inl rfl⟩, fun i k R' h1 h2 => ?_⟩
  · have p : (ks.take j ++ [b] ++ ks.drop j).Perm (b :: ks) := by
      have : (b :: (ks.take j ++ ks.drop j)).Perm (ks.take j ++ [b] ++ ks.drop j) := by
        rw [List.append_assoc]
        exact (List.perm_middle (a := b) (l₁ := ks.take j) (l₂ := ks.drop j)).symm
      rw [List.take_append_drop] at this
      exact this.symm
    exact (p.nodup_iff).mpr (List.nodup_cons.mpr ⟨hn, L.nd⟩)
  · rcases mm k hk with rfl | h
    · exact h0
    · exact L.lo k h
  · rcases mm k hk with rfl | h
    · exact hb
    · exact L.hi k h
  · rw [take_drop_get hj] at h1
    rw [take_drop_get (by omega)] at h2
    split at h1
    · rename_i q
      rw [if_pos q] at h2
      have := L.hi k (List.mem_of_getElem? h1)
      rw [List.getElem?_set_ne (by omega)]
      exact L.row i k R' h1 h2
    · rename_i q
      rw [if_neg q] at h2
      split at h1
      · rename_i q2
        rw [if_pos q2] at h2
        cases h1; cases h2
        rw [List.getElem?_set_ne (by omega)]
        exact hr
      · rename_i q2
        rw [if_neg q2] at h2
        have := L.hi k (List.mem_of_getElem? h1)
        rw [List.getElem?_set_ne (by omega)]
        exact L.row _ k R' h1 h2
section
variable {μ : Mu} {δ : Sl}
theorem forJ_nx {ts : TgtI} {body : SEv} {g g2 : Gd} {x : It2} {xs : List It2} {δ δ1 δ2 : Sl} {μ μ2 : Mu} (hg : okG μ g) (hg2 : okG μ g2) (h1 : ts x δ = some δ1) (h2 : body δ1 μ = some (.nx, δ2, μ2)) : forJ ts body g g2 (x :: xs) δ μ = forJ ts body g g2 xs δ2 μ2 := by
  rw [forJ, gIf_pos hg, gIf_pos hg2, h1]; dsimp only; rw [h2]
theorem forJ_ret {ts : TgtI} {body : SEv} {g g2 : Gd} {x : It2} {xs : List It2} {δ δ1 δ2 : Sl} {μ μ2 : Mu} {d : D} (hg : okG μ g) (hg2 : okG μ g2) (h1 : ts x δ = some δ1) (h2 : body δ1 μ = some (.ret d, δ2, μ2)) : forJ ts body g g2 (x :: xs) δ μ = some (.ret d, δ2, μ2) := by
  rw [forJ, gIf_pos hg, gIf_pos hg2, h1]; dsimp only; rw [h2]
theorem forJ_end {ts : TgtI} {body : SEv} {g g2 : Gd} {δ : Sl} {μ : Mu} (hg : okG μ g) (hg2 : okG μ g2) : forJ ts body g g2 [] δ μ = some (.nx, δ, μ) := by
  rw [forJ, gIf_pos hg, gIf_pos hg2]
theorem bef_loopJ {g g2 : Gd} (hg : okG μ g) (hg2 : okG μ g2) {c0 c1 : Option D} : ∀ (xs ys : List Rat) (c2 c3 : Option D), (∀ q ∈ xs, Bz 700 q) → (∀ q ∈ ys, Bz 700 q) → ∃ δ', forJ (tgTI 2 3) lb_is_beforeJ_0 g g2 (zipI ((xs.map rat).map .p) ((ys.map rat).map .p)) [c0, c1, c2, c3] μ = some ((match befO xs ys with
    | some b => Fl.ret (.p (.bl b))
    | none => Fl.nx), δ', μ)
  | [], _, c2, c3, _, _ => ⟨_, forJ_end hg hg2⟩
  | _ :: _, [], c2, c3, _, _ => ⟨_, forJ_end hg hg2⟩
  | a :: xs, b :: ys, c2, c3, h1, h2 => by
    have ne := ne_ratG (μ := μ) (a := a) (b := b)
    have ls := ev_is_less (μ := μ) (h1 a List.mem_cons_self) (h2 b List.mem_cons_self) (by decide)
    obtain ⟨δ', e⟩ := bef_loopJ (c0 := c0) (c1 := c1) hg hg2 xs ys (some (.p (rat a))) (some (.p (rat b))) (fun q hq => h1 q (List.mem_cons_of_mem _ hq)) (fun q hq => h2 q (List.mem_cons_of_mem _ hq))
    rw [List.map_cons, List.map_cons, List.map_cons, List.map_cons]
    unfold zipI befO
    by_cases q : a = b
    · refine ⟨δ', ?_⟩
      rw [if_pos q, forJ_nx hg hg2 rfl (by
        unfold lb_is_beforeJ_0
        simp only [List.set_cons_succ, List.set_cons_zero]
        rw [sIf_eq, evB_eq', evBin_eq, evV_2, bindG_ok, evV_3, bindG_ok, ne, okm_some, bindG_ok, toB_bl, bindS_ok, if_neg (by rw [decide_eq_true q]; decide), sNil_eq])]
      exact e
    · refine ⟨[c0, c1, some (.p (rat a)), some (.p (rat b))], ?_⟩
      rw [if_neg q, forJ_ret hg hg2 rfl (by
        unfold lb_is_beforeJ_0
        simp only [List.set_cons_succ, List.set_cons_zero]
        rw [sIf_eq, evB_eq', evBin_eq, evV_2, bindG_ok, evV_3, bindG_ok, ne, okm_some, bindG_ok, toB_bl, bindS_ok, if_pos (by rw [decide_eq_false q]; rfl), sRet_eq, evCall_eq, evCons_eq, evV_2, bindG_ok, evCons_eq, evV_3, bindG_ok, evNil_eq, bindG_ok, bindG_ok, bindG_ok, List.map_nil, List.append_nil, ls, bindS_ok])]
theorem ev_beforeJ {xs ys : List Rat} (h1 : ∀ q ∈ xs, Bz 700 q) (h2 : ∀ q ∈ ys, Bz 700 q) {d1 d2 : D} (hd1 : LsD μ d1 (rL xs)) (hd2 : LsD μ d2 (rL ys)) : m_is_beforeJ [d1, d2] μ = some (.ok (.p (.bl (bef xs ys))), μ) := by
  obtain ⟨g, i1, o1⟩ := hd1.items
  obtain ⟨g2, i2, o2⟩ := hd2.items
  obtain ⟨δ', e⟩ := bef_loopJ (μ := μ) o1 o2 (c0 := some d1) (c1 := some d2) xs ys none none h1 h2
  have zp : evZipJ (evCons (evV 0) (evCons (evV 1) evNil)) [some d1, some d2, none, none] μ = some (.ok (zipI ((xs.map rat).map .p) ((ys.map rat).map .p), g, g2), μ) := by
    show bindG (evCons (evV 0) (evCons (evV 1) evNil) [some d1, some d2, none, none] μ) (fun ds μ1 => zipJEnd μ1 ds) = _
    rw [evCons_eq, evV_0, bindG_ok, evCons_eq, evV_1, bindG_ok, evNil_eq, bindG_ok, bindG_ok, bindG_ok]
    unfold zipJEnd
    dsimp only
    rw [i1, i2]
    rfl
  unfold m_is_beforeJ
  rw [arF2]
  unfold sv_is_beforeJ
  simp only [List.replicate, List.cons_append, List.nil_append]
  unfold lb_is_beforeJ_0 at e
  rw [seqS_eq]
  have fe : ∀ (it : EvJ) (ts : TgtI) (a : SEv) (δ : Sl) (μ : Mu), sForJ it ts a δ μ = bindS (it δ μ) δ fun xg μ1 => forJ ts a xg.2.1 xg.2.2 xg.1 δ μ1 := fun _ _ _ _ _ => rfl
  rw [fe, zp, bindS_ok, e]
  unfold bef
  cases befO xs ys with
  | none =>
    dsimp only
    rw [andThen_nx, sRet_eq, evC_eq, bindS_ok, retF_p, List.take_length]; rfl
  | some b =>
    dsimp only
    rw [andThen_ret, retF_p, List.take_length]; rfl
theorem ix_lv {n0 l : Nat} {Rs : List (List P)} {ks : List Nat} (L : Lv n0 μ l Rs ks) {j k : Nat} (h : ks[j]? = some k) : fIxD (.loc l) (.p (.int (j : Int))) μ = some (.loc k, μ) := by
  obtain ⟨g, i1, _⟩ := L.items
  unfold fIxD
  rw [i1]
  dsimp only
  have : atI (ks.map D.loc) (j : Int) = some (.loc k) := by
    have jl := (List.getElem?_eq_some_iff.mp h).1
    unfold atI
    rw [List.length_map, show ixN ks.length (j : Int) = some j by unfold ixN; simp; omega]
    show (ks.map D.loc)[j]? = _
    rw [List.getElem?_map, h]; rfl
  rw [this]; rfl
theorem len_lv {n0 l : Nat} {Rs : List (List P)} {ks : List Nat} (L : Lv n0 μ l Rs ks) : fLenD [.loc l] μ = some (.p (.int (Rs.length : Int)), μ) := by
  obtain ⟨g, i1, _⟩ := L.items
  unfold fLenD
  dsimp only
  rw [i1]
  dsimp only
  rw [List.length_map, L.len]
theorem ins_loopJ {n0 l : Nat} {pts : List (List Rat)} {ks : List Nat} {p : List Rat} {d : D} (L : Lv n0 μ l (pts.map rL) ks) (hd : LsD μ d (rL p)) (hp : ∀ x ∈ pts, ∀ q ∈ x, Bz 700 q) (hq : ∀ q ∈ p, Bz 700 q) : ∀ (f lo hi : Nat) (c4 : Option D), hi - lo < f → lo ≤ hi → hi ≤ pts.length → ∃ hi' c4',
    whL (evB (evBin fLt (evV 2) (evV 3))) lb__insertJ_0 f [some (.loc l), some d, some (.p (.int (lo : Int))), some (.p (.int (hi : Int))), c4] μ = some (.nx, [some (.loc l), some d, some (.p (.int (bsr pts p f lo hi : Nat))), some (.p (.int hi')), c4'], μ) := by
  intro f
  induction f with
  | zero => intro lo hi c4 h; omega
  | succ f ih =>
    intro lo hi c4 h hlh hhl
    by_cases q : lo < hi
    · have t1 : evB (evBin fLt (evV 2) (evV 3)) [some (.loc l), some d, some (.p (.int (lo : Int))), some (.p (.int (hi : Int))), c4] μ = some (.ok true, μ) := by
        rw [evB_eq', evBin_eq, evV_2, bindG_ok, evV_3, bindG_ok, lt_int, okm_some, bindG_ok, toB_bl, decide_eq_true (by omega)]
      have dv : divOk ((lo : Int) + (hi : Int)) 2 = true := divOk_of (by decide) (by decide)
      have mid : ((lo : Int) + (hi : Int)).fdiv 2 = (((lo + hi) / 2 : Nat) : Int) := by
        rw [Int.fdiv_eq_ediv_of_nonneg _ (by decide)]; omega
      have ml : (lo + hi) / 2 < pts.length := by omega
      obtain ⟨k, hk, hx⟩ := L.get (i := (lo + hi) / 2) (by rw [List.length_map]; exact ml)
      have x1 := ix_lv L hk
      have ge : (pts.map rL).getD ((lo + hi) / 2) [] = rL (pts.getD ((lo + hi) / 2) []) := by
        rw [List.getD_eq_getElem?_getD, List.getElem?_map, List.getD_eq_getElem?_getD, List.getElem?_eq_getElem ml]; rfl
      rw [ge] at hx
      have bf := ev_beforeJ (μ := μ) (hp _ (getD_mem (d := ([] : List Rat)) ml)) hq hx hd
      unfold bsr
      rw [if_pos q]
      by_cases b : bef (pts.getD ((lo + hi) / 2) []) p = true
      · obtain ⟨hi', c4', e⟩ := ih ((lo + hi) / 2 + 1) hi (some (.p (.int (((lo + hi) / 2 : Nat) : Int)))) (by omega) (by omega) hhl
        refine ⟨hi', c4', ?_⟩
        rw [whL_go t1 (δ2 := [some (.loc l), some d, some (.p (.int (((lo + hi) / 2 + 1 : Nat) : Int))), some (.p (.int (hi : Int))), some (.p (.int (((lo + hi) / 2 : Nat) : Int)))]) (μ2 := μ) (by
          unfold lb__insertJ_0
          rw [seqS_eq, sSet_eq, evBin_eq, evBin_eq, evV_2, bindG_ok, evV_3, bindG_ok, add_ints, okm_some, bindG_ok, evC_eq, bindG_ok, div_int dv, mid, okm_some, bindS_ok, andThen_nx]
          simp only [List.set_cons_succ, List.set_cons_zero]
          rw [sIf_eq, evB_eq', evCall_eq, evCons_eq, evBin_eq, evV_0, bindG_ok, evV_4, bindG_ok, x1, okm_some, bindG_ok, evCons_eq, evV_1, bindG_ok, evNil_eq, bindG_ok, bindG_ok, bindG_ok, List.map_nil, List.append_nil, bf, bindG_ok, toB_bl, bindS_ok, if_pos b, sSet_eq, evBin_eq, evV_4, bindG_ok, evC_eq, bindG_ok, add_ints, okm_some, bindS_ok]
          rfl), e, if_pos b]
      · obtain ⟨hi', c4', e⟩ := ih lo ((lo + hi) / 2) (some (.p (.int (((lo + hi) / 2 : Nat) : Int)))) (by omega) (by omega) (by omega)
        refine ⟨hi', c4', ?_⟩
        rw [whL_go t1 (δ2 := [some (.loc l), some d, some (.p (.int (lo : Int))), some (.p (.int (((lo + hi) / 2 : Nat) : Int))), some (.p (.int (((lo + hi) / 2 : Nat) : Int)))]) (μ2 := μ) (by
          unfold lb__insertJ_0
          rw [seqS_eq, sSet_eq, evBin_eq, evBin_eq, evV_2, bindG_ok, evV_3, bindG_ok, add_ints, okm_some, bindG_ok, evC_eq, bindG_ok, div_int dv, mid, okm_some, bindS_ok, andThen_nx]
          simp only [List.set_cons_succ, List.set_cons_zero]
          rw [sIf_eq, evB_eq', evCall_eq, evCons_eq, evBin_eq, evV_0, bindG_ok, evV_4, bindG_ok, x1, okm_some, bindG_ok, evCons_eq, evV_1, bindG_ok, evNil_eq, bindG_ok, bindG_ok, bindG_ok, List.map_nil, List.append_nil, bf, bindG_ok, toB_bl, bindS_ok, if_neg b, sSet_eq, evV_4, bindS_ok]
          rfl), e, if_neg b]
    · refine ⟨hi, c4, ?_⟩
      rw [whL_end (μ1 := μ) (by
        rw [evB_eq', evBin_eq, evV_2, bindG_ok, evV_3, bindG_ok, lt_int, okm_some, bindG_ok, toB_bl, decide_eq_false (by omega)])]
      unfold bsr
      rw [if_neg q]
theorem ratOf_ls {d : D} {xs : List P} (h : LsD μ d xs) : ratOf μ d = some xs := by
  rcases h with rfl | ⟨l, rfl, h⟩
  · rfl
  · exact cellL_l h
open Classical in
theorem ne_ptsD {xs ys : List Rat} {t : Bool} {d1 d2 : D} (hd1 : LsD μ d1 (rL xs)) (hd2 : LsD μ d2 (rL ys)) (hl : xs.length = ys.length) (ht : xs ≠ ys ↔ t = true) : fNeLstD 0 d1 d2 μ = some (.p (.bl t), μ) := by
  unfold fNeLstD
  rw [ratOf_ls hd1, ratOf_ls hd2]
  dsimp only
  rw [if_pos ⟨ratsP_map xs, ratsP_map ys, by simp [rL, hl]⟩]
  have : decide (rL xs ≠ rL ys) = t := by
    have a : rL xs ≠ rL ys ↔ t = true := by
      rw [← ht]
      exact ⟨fun h e => h (by rw [e]), fun h e => h (List.map_inj_right (f := rat) (fun _ _ => rat_inj) |>.mp e)⟩
    cases t with
    | true => exact decide_eq_true (a.mpr rfl)
    | false => exact decide_eq_false fun z => by have := a.mp z; cases this
  rw [this]
open Classical in
noncomputable def insK (pts : List (List Rat)) (p : List Rat) (ks : List Nat) (b : Nat) : List Nat := if bsl pts p = pts.length ∨ pts.getD (bsl pts p) [] ≠ p then ks.take (bsl pts p) ++ [b] ++ ks.drop (bsl pts p) else ks
open Classical in
theorem ev_insertJ {n0 l b : Nat} {pts : List (List Rat)} {ks : List Nat} {p : List Rat} (L : Lv n0 μ l (pts.map rL) ks) (hdl : μ[l]? = some (some (.dl (ks.map .loc)))) (h0 : n0 ≤ b) (hb : b < l) (hn : b ∉ ks) (hr : μ[b]? = some (some (.lst (rL p))))
    (hp : ∀ x ∈ pts, x.length = p.length ∧ ∀ q ∈ x, Bz 700 q) (hq : ∀ q ∈ p, Bz 700 q) (hl : pts.length ≤ 900) :
    ∃ μ', m__insertJ [.loc l, .loc b] μ = some (.ok (.p .non), μ') ∧ Lv n0 μ' l ((insP pts p).map rL) (insK pts p ks b) ∧ μ'.length = μ.length ∧ ∀ j, j ≠ l → μ'[j]? = μ[j]? := by
  have hd : LsD μ (.loc b) (rL p) := .inr ⟨b, rfl, hr⟩
  obtain ⟨hi', c4', e⟩ := ins_loopJ (μ := μ) L hd (fun x hx => (hp x hx).2) hq 1000000 0 pts.length none (by omega) (Nat.zero_le _) (Nat.le_refl _)
  rw [bsr_fuel 1000000 (pts.length + 1) 0 pts.length (by omega) (by omega)] at e
  have e : whL (evB (evBin fLt (evV 2) (evV 3))) lb__insertJ_0 1000000 [some (.loc l), some (.loc b), some (.p (.int 0)), some (.p (.int (pts.length : Int))), none] μ = some (.nx, [some (.loc l), some (.loc b), some (.p (.int (bsl pts p : Nat))), some (.p (.int hi')), c4'], μ) := e
  have bl : bsl pts p ≤ pts.length := bsr_le _ _ _ (Nat.zero_le _)
  have ln := len_lv L
  rw [List.length_map] at ln
  have kl : ks.length = pts.length := by rw [L.len, List.length_map]
  have ins : fInsD (.loc l) [.p (.int (bsl pts p : Nat)), .loc b] μ = some (.p .non, μ.set l (some (.dl ((ks.take (bsl pts p) ++ [b] ++ ks.drop (bsl pts p)).map .loc)))) := by
    unfold fInsD
    dsimp only
    rw [hdl]
    dsimp only
    rw [if_pos ⟨line_k (by rw [List.length_map]; omega), by omega, by omega, decide_eq_true hb⟩, Int.toNat_natCast, List.map_append, List.map_append, List.map_take, List.map_drop]
    rfl
  have cond : ∃ t : Bool, (t = true ↔ (bsl pts p = pts.length ∨ pts.getD (bsl pts p) [] ≠ p)) ∧ tOrV' (evB (evBin fEq (evV 2) (evBI fLenD (evCons (evV 0) evNil)))) (evB (evBin (fNeLstD 0) (evBin fIxD (evV 0) (evV 2)) (evV 1))) [some (.loc l), some (.loc b), some (.p (.int (bsl pts p : Nat))), some (.p (.int hi')), c4'] μ = some (.ok t, μ) := by
    by_cases q : bsl pts p = pts.length
    · refine ⟨true, ⟨fun _ => .inl q, fun _ => rfl⟩, ?_⟩
      rw [tOrV_eq, evB_eq', evBin_eq, evV_2, bindG_ok, evBI_eq, evCons_eq, evV_0, bindG_ok, evNil_eq, bindG_ok, bindG_ok, ln, okm_some, bindG_ok, eq_int, okm_some, bindG_ok, toB_bl, bindG_ok, if_pos (decide_eq_true (by rw [q]))]
    · have bl' : bsl pts p < pts.length := by omega
      obtain ⟨k, hk, hx⟩ := L.get (i := bsl pts p) (by rw [List.length_map]; exact bl')
      have x1 := ix_lv L hk
      have ge : (pts.map rL).getD (bsl pts p) [] = rL (pts.getD (bsl pts p) []) := by
        rw [List.getD_eq_getElem?_getD, List.getElem?_map, List.getD_eq_getElem?_getD, List.getElem?_eq_getElem bl']; rfl
      rw [ge] at hx
      refine ⟨decide (pts.getD (bsl pts p) [] ≠ p), ⟨fun h => .inr (of_decide_eq_true h), fun h => decide_eq_true (h.resolve_left q)⟩, ?_⟩
      have ne := ne_ptsD (μ := μ) (xs := pts.getD (bsl pts p) []) (ys := p) (t := decide (pts.getD (bsl pts p) [] ≠ p)) hx hd (hp _ (getD_mem bl')).1 ⟨fun h => decide_eq_true h, fun h => of_decide_eq_true h⟩
      rw [tOrV_eq, evB_eq', evBin_eq, evV_2, bindG_ok, evBI_eq, evCons_eq, evV_0, bindG_ok, evNil_eq, bindG_ok, bindG_ok, ln, okm_some, bindG_ok, eq_int, okm_some, bindG_ok, toB_bl, bindG_ok, if_neg (by simp; omega), evB_eq', evBin_eq, evBin_eq, evV_0, bindG_ok, evV_2, bindG_ok, x1, okm_some, bindG_ok, evV_1, bindG_ok, ne, okm_some, bindG_ok, toB_bl]
  obtain ⟨t, t1, t2⟩ := cond
  have isd : isDl μ (.loc l) = true := by unfold isDl; dsimp only; rw [hdl]
  have run : ∀ r, (if t = true then sExpr (evBM isDl fInsD (evV 0) (evCons (evV 2) (evCons (evV 1) evNil))) [some (.loc l), some (.loc b), some (.p (.int (bsl pts p : Nat))), some (.p (.int hi')), c4'] μ else sNil [some (.loc l), some (.loc b), some (.p (.int (bsl pts p : Nat))), some (.p (.int hi')), c4'] μ) = r → m__insertJ [.loc l, .loc b] μ = retF μ.length r := fun r hr => by
    unfold m__insertJ
    rw [arF2]
    unfold sv__insertJ
    simp only [List.replicate, List.cons_append, List.nil_append]
    unfold lb__insertJ_0 at e
    rw [seqS_eq, sSet_eq, evC_eq, bindS_ok, andThen_nx]
    simp only [List.set_cons_succ, List.set_cons_zero]
    rw [seqS_eq, sSet_eq, evBI_eq, evCons_eq, evV_0, bindG_ok, evNil_eq, bindG_ok, bindG_ok, ln, okm_some, bindS_ok, andThen_nx]
    simp only [List.set_cons_succ, List.set_cons_zero]
    unfold sWhile
    rw [seqS_eq, e, andThen_nx, sIf_eq, t2, bindS_ok, hr]
  unfold insP insK
  cases t with
  | true =>
    rw [if_pos (t1.mp rfl), if_pos (t1.mp rfl)]
    refine ⟨_, run _ (by
      rw [if_pos rfl, sExpr_eq, evBM_eq, evV_0, bindG_ok, if_pos isd, evCons_eq, evV_2, bindG_ok, evCons_eq, evV_1, bindG_ok, evNil_eq, bindG_ok, bindG_ok, bindG_ok, ins, okm_some, bindS_ok]) |>.trans (by rw [retF_nx, List.take_of_length_le (by rw [List.length_set]; exact Nat.le_refl _)]), ?_, by rw [List.length_set], fun j hj => List.getElem?_set_ne (by omega)⟩
    have := L.insert (b := b) (j := bsl pts p) (R := rL p) (by omega) h0 hb hn hr
    rw [← List.map_take, ← List.map_drop] at this
    simpa using this
  | false =>
    have nt : ¬ (bsl pts p = pts.length ∨ pts.getD (bsl pts p) [] ≠ p) := fun h => by have := t1.mpr h; cases this
    rw [if_neg nt, if_neg nt]
    exact ⟨μ, (run _ (by rw [if_neg (by decide), sNil_eq])).trans (by rw [retF_nx, List.take_length]), L, rfl, fun _ _ => rfl⟩
end
end Vs
namespace Vs
open PySem PySem.Spec PyProof.Rows L2
open Bar (gt cz Sol Bd rg gsol RowIn ESol SR QRow)
section
variable {μ : Mu} {δ : Sl}
theorem mvS_eq {sem : FSem} {i : Nat} {x : Ev} {l : Nat} (h : δ[i]? = some (some (.loc l))) : mvS sem i x δ μ = bindS (x δ μ) δ fun d μ1 => match mvD μ1 l with
    | some μ2 => mvEnd (δ.set i (some (.loc μ1.length))) (sem [.loc μ1.length, d] μ2)
    | none => none := by
  simp only [mvS, h] <;> rfl
theorem vt_loopJ {n : Nat} {R : List Fm} (hn : n ≤ 3) (hR : ∀ f ∈ R, FmOk n 155 15 f) (hR' : ∀ f ∈ R, f.1.length = n) {c0 : Option D} {ν : Mu} : ∀ (L : List (List Nat)) (acc : List (List Rat)) (μ : Mu) (l : Nat) (ks : List Nat) (c4 c5 : Option D), (∀ ns ∈ L, ns.length = n ∧ ∀ k ∈ ns, k < R.length) → (∀ x ∈ acc, x.length = n ∧ ∀ q ∈ x, Bz 700 q) → (∀ ns ∈ L, ∀ pt, vPt n R ns = some pt → ∀ q ∈ pt, Bz 700 q) → acc.length + L.length ≤ 900 →
    Lv ν.length μ l (acc.map rL) ks → Ext ν μ → ∃ μ' l' ks' c4' c5',
    forL (tgN 4) lb_verticesJ_0 (L.map fun ns => P.tup ((ns.map fun j => (rowsR R).getD j []).map rP)) [c0, some (.p (.int (n : Int))), some (.p (rsP (rowsR R))), some (.loc l), c4, c5] μ
      = some (.nx, [c0, some (.p (.int (n : Int))), some (.p (rsP (rowsR R))), some (.loc l'), c4', c5'], μ') ∧ Lv ν.length μ' l' ((vtxL n R L acc).map rL) ks' ∧ Ext ν μ' := by
  intro L
  induction L with
  | nil => intro acc μ l ks c4 c5 _ _ _ _ lv ex; exact ⟨μ, l, ks, c4, c5, rfl, lv, ex⟩
  | cons ns L ih =>
    intro acc μ l ks c4 c5 hL ha hz hl lv ex
    obtain ⟨nl, nk⟩ := hL ns List.mem_cons_self
    rw [List.length_cons] at hl
    obtain ⟨e1, e2⟩ := vt_pick4 (μ := μ) hn hR hR' nl nk
    have cond := vt_cond4 (μ := μ) hn hR hR' nl nk (c0 := c0) (c1 := some (.p (.int (n : Int)))) (c3 := some (.loc l)) (c4 := some (.p (.tup ((ns.map fun j => (rowsR R).getD j []).map rP))))
    have go : ∃ μ1 l1 ks1, lb_verticesJ_0 [c0, some (.p (.int (n : Int))), some (.p (rsP (rowsR R))), some (.loc l), some (.p (.tup ((ns.map fun j => (rowsR R).getD j []).map rP))), c5] μ = some (.nx, [c0, some (.p (.int (n : Int))), some (.p (rsP (rowsR R))), some (.loc l1), some (.p (.tup ((ns.map fun j => (rowsR R).getD j []).map rP))), some (.p (czP (fcRows n R [] [] ns []) n))], μ1)
        ∧ Lv ν.length μ1 l1 ((vIns n R acc ns).map rL) ks1 ∧ Ext ν μ1 := by
      unfold lb_verticesJ_0
      rw [seqS_eq, sSet_eq, evCall_eq, evCons_eq, evV_4, bindG_ok, evCons_eq, evV_1, bindG_ok, evNil_eq, bindG_ok, bindG_ok, bindG_ok, List.map_nil, List.append_nil, e1, bindS_ok, andThen_nx]
      simp only [List.set_cons_succ, List.set_cons_zero]
      rw [sIf_eq, cond, bindS_ok]
      cases q : vPt n R ns with
      | none =>
        refine ⟨μ, l, ks, ?_, ?_, ex⟩
        · rw [if_neg (by simp), sNil_eq]
        · unfold vIns
          rw [q]
          exact lv
      | some pt =>
        obtain ⟨pl, h1, h2, h3⟩ := vPt_some q
        obtain ⟨l1, l2, l3, _⟩ := e2 pl h1
        have hc : czP (fcRows n R [] [] ns []) n = rP pl := by unfold czP; rw [h1]
        have po := ev_point_of (μ := μ) l1 l3 (by omega) (by decide) (by decide) (by omega)
        rw [← h2] at po
        have pl' : pt.length = n := by rw [h2]; exact ptOf_len
        have ev5 : evCall m__point_of [] (evCons (evV 5) evNil) [c0, some (.p (.int (n : Int))), some (.p (rsP (rowsR R))), some (.loc l), some (.p (.tup ((ns.map fun j => (rowsR R).getD j []).map rP))), some (.p (rP pl))] μ = some (.ok (.loc μ.length), μ ++ [some (.lst (rL pt))]) := by
          rw [evCall_eq, evCons_eq, evV_5, bindG_ok, evNil_eq, bindG_ok, bindG_ok, List.map_nil, List.append_nil, po]; rfl
        have lv1 : Lv ν.length (μ ++ [some (.lst (rL pt))]) l (acc.map rL) ks := lv.ext (Ext.app _)
        obtain ⟨m1, m2⟩ := lv1.move
        have lt := lv.lt
        have eb : ((μ ++ [some (MO.lst (rL pt))]).set l none ++ [some (.dl (ks.map .loc))])[μ.length]? = some (some (.lst (rL pt))) := by
          rw [List.getElem?_append_left (by simp), List.getElem?_set_ne (by omega)]; simp
        have ed : ((μ ++ [some (MO.lst (rL pt))]).set l none ++ [some (.dl (ks.map .loc))])[(μ ++ [some (MO.lst (rL pt))]).length]? = some (some (.dl (ks.map .loc))) := by
          rw [List.getElem?_append_right (by simp)]; simp
        obtain ⟨μ', i1, i2, i3, i4⟩ := ev_insertJ (b := μ.length) m2 ed ex.len (by simp) (fun h => by have := lv.hi _ h; omega) eb (fun x hx => ⟨by rw [(ha x hx).1, pl'], (ha x hx).2⟩) (hz ns List.mem_cons_self pt q) (by omega)
        refine ⟨μ', (μ ++ [some (MO.lst (rL pt))]).length, insK acc pt ks μ.length, ?_, ?_, ?_⟩
        · rw [hc, if_pos (show (some pt).isSome = true from rfl), mvS_eq (l := l) rfl, ev5, bindS_ok, m1]
          dsimp only
          rw [i1]
          rfl
        · unfold vIns
          rw [q]
          exact i2
        · have l0 := lv.l0
          have e0 : Ext ν ((μ ++ [some (MO.lst (rL pt))]).set l none ++ [some (.dl (ks.map .loc))]) := ((ex.trans (Ext.app _)).set l0 none).trans (Ext.app _)
          exact ⟨by rw [i3]; exact e0.len, fun j hj => by
            have := ex.len
            rw [i4 j (by simp; omega)]; exact e0.get j hj⟩
    obtain ⟨μ1, l1, ks1, go, lv1, ex1⟩ := go
    have ha' : ∀ x ∈ vIns n R acc ns, x.length = n ∧ ∀ q ∈ x, Bz 700 q := fun x hx => by
      unfold vIns at hx
      cases q : vPt n R ns with
      | none => rw [q] at hx; exact ha x hx
      | some pt =>
        rw [q] at hx
        rcases insP_mem.mp hx with rfl | h
        · obtain ⟨pl, _, h2, _⟩ := vPt_some q
          exact ⟨by rw [h2]; exact ptOf_len, hz ns List.mem_cons_self _ q⟩
        · exact ha x h
    have ln : (vIns n R acc ns).length ≤ acc.length + 1 := by
      unfold vIns
      split
      · omega
      · exact insP_len
    obtain ⟨μ', l', ks', c4', c5', e, lv', ex'⟩ := ih (vIns n R acc ns) μ1 l1 ks1 (some (.p (.tup ((ns.map fun j => (rowsR R).getD j []).map rP)))) (some (.p (czP (fcRows n R [] [] ns []) n))) (fun m hm => hL m (List.mem_cons_of_mem _ hm)) ha' (fun m hm => hz m (List.mem_cons_of_mem _ hm)) (by omega) lv1 ex1
    refine ⟨μ', l', ks', c4', c5', ?_, lv', ex'⟩
    rw [List.map_cons, forL_nx rfl go, e]
theorem ev_verticesJ {n : Nat} {R : List Fm} (hn : n ≤ 3) (hR : ∀ f ∈ R, FmOk n 155 15 f) (hw : R.length ≤ 9) (hz : ∀ ns ∈ pk R.length n, ∀ pt, vPt n R ns = some pt → ∀ q ∈ pt, Bz 700 q) :
    ∃ μ' l ks, m_verticesJ [.p (rgR R), .p (.int (n : Int))] μ = some (.ok (.loc l), μ') ∧ Lv μ.length μ' l ((vtx n R).map rL) ks ∧ Ext μ μ' := by
  have e1 := ev_rows_of (μ := μ) hR (by decide) (by decide) (by omega) (by omega)
  rw [show rsP (R.map fun f => whole (fmL f)) = rsP (rowsR R) from rfl] at e1
  have p9 : 9 ^ n ≤ 9 ^ 3 := Nat.pow_le_pow_right (by decide) hn
  have pl := pk_len9 hw n
  have lv0 : Lv μ.length (μ ++ [some (MO.lst [])]) μ.length (([] : List (List Rat)).map rL) [] := ⟨rfl, .nil, fun k hk => by simp at hk, fun k hk => by simp at hk, Nat.le_refl _, ⟨.lst [], by simp, .inr ⟨rfl, rfl⟩⟩, fun i k R h => by simp at h⟩
  obtain ⟨μ', l', ks', c4, c5, e, lv, ex⟩ := vt_loopJ (ν := μ) (c0 := some (.p (rgR R))) hn hR (fun f hf => (hR f hf).len) (pk R.length n) [] (μ ++ [some (MO.lst [])]) μ.length [] none none (fun ns h => pk_ok n ns h) (fun x hx => by cases hx) hz (by simp; omega) lv0 (Ext.app _)
  have cb := ev_comb (μ := μ ++ [some (MO.lst [])]) (n := n) (R := R) (i := 2) (j := 1) (δ := [some (.p (rgR R)), some (.p (.int (n : Int))), some (.p (rsP (rowsR R))), some (.loc μ.length), none, none]) hn (by omega) rfl rfl
  refine ⟨μ', l', ks', ?_, lv, ex⟩
  unfold m_verticesJ
  show bodySemK 6 sv_verticesJ [.p (rgR R), .p (.int (n : Int))] μ = _
  rw [bodySemK_eq]
  unfold sv_verticesJ
  unfold lb_verticesJ_0 at e
  show retK ((seqS _ _) [some (.p (rgR R)), some (.p (.int (n : Int))), none, none, none, none] μ) = _
  rw [seqS_eq, sSet_eq, evCall_eq, evCons_eq, evV_0, bindG_ok, evNil_eq, bindG_ok, bindG_ok, List.map_nil, List.append_nil, e1, bindS_ok, andThen_nx]
  simp only [List.set_cons_succ, List.set_cons_zero]
  rw [seqS_eq, sSet_eq, evLstC_eq, evNil_eq, bindG_ok, toPs_nil, lstEndC_some, if_pos (show ([] : List P).length ≤ sizeLine from line_0), bindS_ok, andThen_nx]
  simp only [List.set_cons_succ, List.set_cons_zero]
  rw [seqS_eq, sFor_eq, cb, bindS_ok, e, andThen_nx, sRet_eq, evV_3, bindS_ok, retK_ret]
end
end Vs
namespace Vs
open PySem PySem.Spec PyProof.Rows L2
theorem bef_cons {a b : Rat} {as bs : List Rat} : bef (a :: as) (b :: bs) = if a = b then bef as bs else decide (a < b) := by
  unfold bef
  rw [befO]
  split <;> rfl
theorem bef_irr : ∀ a : List Rat, bef a a = false
  | [] => rfl
  | a :: as => by rw [bef_cons, if_pos rfl]; exact bef_irr as
theorem bef_trans : ∀ {a b c : List Rat}, a.length = b.length → b.length = c.length → bef a b = true → bef b c = true → bef a c = true
  | [], [], [], _, _, h, _ => h
  | [], _ :: _, _, h, _, _, _ => by simp at h
  | _ :: _, [], _, h, _, _, _ => by simp at h
  | _, [], _ :: _, _, h, _, _ => by simp at h
  | _, _ :: _, [], _, h, _, _ => by simp at h
  | a :: as, b :: bs, c :: cs, l1, l2, h1, h2 => by
    rw [bef_cons] at h1 h2 ⊢
    by_cases q : a = b
    · subst q
      rw [if_pos rfl] at h1
      by_cases r : a = c
      · rw [if_pos r] at h2 ⊢
        exact bef_trans (by simpa using l1) (by simpa using l2) h1 h2
      · rw [if_neg r] at h2 ⊢
        exact h2
    · rw [if_neg q] at h1
      have h1 := of_decide_eq_true h1
      by_cases r : b = c
      · subst r
        rw [if_neg q]
        exact decide_eq_true h1
      · rw [if_neg r] at h2
        have h2 := of_decide_eq_true h2
        have h3 : a < c := by grind
        rw [if_neg (by grind)]
        exact decide_eq_true h3
theorem bef_tri : ∀ {a b : List Rat}, a.length = b.length → a ≠ b → bef a b = true ∨ bef b a = true
  | [], [], _, h => absurd rfl h
  | [], _ :: _, h, _ => by simp at h
  | _ :: _, [], h, _ => by simp at h
  | a :: as, b :: bs, l, h => by
    rw [bef_cons, bef_cons]
    by_cases q : a = b
    · subst q
      rw [if_pos rfl, if_pos rfl]
      exact bef_tri (by simpa using l) fun z => h (by rw [z])
    · rw [if_neg q, if_neg fun z => q z.symm]
      by_cases z : a < b
      · exact .inl (decide_eq_true z)
      · exact .inr (decide_eq_true (by grind))
def Srt (n : Nat) (pts : List (List Rat)) : Prop := (∀ x ∈ pts, x.length = n) ∧ pts.Pairwise fun a b => bef a b = true
def cnt (pts : List (List Rat)) (p : List Rat) : Nat := (pts.filter fun x => bef x p).length
theorem cnt_le {pts : List (List Rat)} {p : List Rat} : cnt pts p ≤ pts.length := List.length_filter_le _ _
theorem cnt_iff {n : Nat} {p : List Rat} (hp : p.length = n) : ∀ {pts : List (List Rat)}, Srt n pts → ∀ i, i < pts.length → (bef (pts.getD i []) p = true ↔ i < cnt pts p)
  | [], _, i, h => by simp at h
  | x :: xs, ⟨h1, h2⟩, i, h => by
    rw [List.pairwise_cons] at h2
    have ih := cnt_iff hp (pts := xs) ⟨fun y hy => h1 y (List.mem_cons_of_mem _ hy), h2.2⟩
    unfold cnt at ih ⊢
    by_cases q : bef x p = true
    · rw [List.filter_cons_of_pos (p := fun x => bef x p) q, List.length_cons]
      cases i with
      | zero => exact ⟨fun _ => Nat.succ_pos _, fun _ => q⟩
      | succ i =>
        have := ih i (by simpa using h)
        rw [List.getD_cons_succ, this]
        omega
    · have e : xs.filter (fun x => bef x p) = [] := by
        rw [List.filter_eq_nil_iff]
        intro y hy hb
        exact q (bef_trans (by rw [h1 x List.mem_cons_self, h1 y (List.mem_cons_of_mem _ hy)]) (by rw [h1 y (List.mem_cons_of_mem _ hy), hp]) (h2.1 y hy) hb)
      rw [List.filter_cons_of_neg (p := fun x => bef x p) q, e, List.length_nil]
      cases i with
      | zero => exact ⟨fun z => absurd z q, fun z => absurd z (Nat.lt_irrefl _)⟩
      | succ i =>
        have := ih i (by simpa using h)
        rw [e] at this
        rw [List.getD_cons_succ, this]
        simp
theorem bsr_cnt {pts : List (List Rat)} {p : List Rat} {k : Nat} (hk : ∀ i, i < pts.length → (bef (pts.getD i []) p = true ↔ i < k)) : ∀ (f lo hi : Nat), hi - lo < f → lo ≤ k → k ≤ hi → hi ≤ pts.length → bsr pts p f lo hi = k
  | 0, _, _, h, _, _, _ => by omega
  | f + 1, lo, hi, h, h1, h2, h3 => by
    unfold bsr
    by_cases q : lo < hi
    · rw [if_pos q]
      have m := hk ((lo + hi) / 2) (by omega)
      split
      · rename_i b
        exact bsr_cnt hk f _ hi (by omega) (by have := m.mp b; omega) h2 h3
      · rename_i b
        exact bsr_cnt hk f lo _ (by omega) h1 (by
          have : ¬ (lo + hi) / 2 < k := fun z => b (m.mpr z)
          omega) (by omega)
    · rw [if_neg q]; omega
theorem bsl_cnt {n : Nat} {pts : List (List Rat)} {p : List Rat} (hp : p.length = n) (hs : Srt n pts) : bsl pts p = cnt pts p :=
  bsr_cnt (cnt_iff hp hs) _ _ _ (by omega) (Nat.zero_le _) cnt_le (Nat.le_refl _)
open Classical in
noncomputable def insL (pts : List (List Rat)) (p : List Rat) : List (List Rat) := if p ∈ pts then pts else pts.take (cnt pts p) ++ [p] ++ pts.drop (cnt pts p)
theorem mem_at {n : Nat} {pts : List (List Rat)} {p : List Rat} (hp : p.length = n) (hs : Srt n pts) : (cnt pts p = pts.length ∨ pts.getD (cnt pts p) [] ≠ p) ↔ p ∉ pts := by
  have ci := cnt_iff hp hs
  constructor
  · intro h hm
    obtain ⟨j, hj⟩ := List.mem_iff_getElem?.mp hm
    obtain ⟨jl, je⟩ := List.getElem?_eq_some_iff.mp hj
    have gj : pts.getD j [] = p := by rw [List.getD_eq_getElem?_getD, hj]; rfl
    have j1 : ¬ j < cnt pts p := fun z => by
      have := (ci j jl).mpr z
      rw [gj, bef_irr] at this; cases this
    have kl : cnt pts p < pts.length := by omega
    have j2 : j = cnt pts p := by
      rcases Nat.lt_or_eq_of_le (Nat.le_of_not_lt j1) with z | z
      · exfalso
        have pw := (List.pairwise_iff_getElem.mp hs.2) _ _ kl jl z
        rw [je] at pw
        have := (ci _ kl).mp (by rw [List.getD_eq_getElem?_getD, List.getElem?_eq_getElem kl]; exact pw)
        omega
      · exact z.symm
    rcases h with h | h
    · omega
    · exact h (by rw [← j2, gj])
  · intro h
    by_cases q : cnt pts p = pts.length
    · exact .inl q
    · refine .inr fun z => h ?_
      rw [← z]
      exact getD_mem (by have := cnt_le (pts := pts) (p := p); omega)
theorem insP_insL {n : Nat} {pts : List (List Rat)} {p : List Rat} (hp : p.length = n) (hs : Srt n pts) : insP pts p = insL pts p := by
  have m := mem_at hp hs
  unfold insP insL
  rw [bsl_cnt hp hs]
  by_cases q : p ∈ pts
  · rw [if_pos q, if_neg fun z => m.mp z q]
  · rw [if_neg q, if_pos (m.mpr q)]
theorem srt_ins {n : Nat} {pts : List (List Rat)} {p : List Rat} (hp : p.length = n) (hs : Srt n pts) : Srt n (insL pts p) := by
  have ci := cnt_iff hp hs
  unfold insL
  split
  · exact hs
  · rename_i hm
    refine ⟨fun x hx => ?_, ?_⟩
    · rcases List.mem_append.mp hx with h | h
      · rcases List.mem_append.mp h with h | h
        · exact hs.1 x (List.mem_of_mem_take h)
        · simp at h; rw [h]; exact hp
      · exact hs.1 x (List.mem_of_mem_drop h)
    · have lo : ∀ x ∈ pts.take (cnt pts p), bef x p = true := fun x hx => by
        obtain ⟨j, hj⟩ := List.mem_iff_getElem?.mp hx
        have jl := (List.getElem?_eq_some_iff.mp hj).1
        rw [List.length_take] at jl
        rw [List.getElem?_take_of_lt (by omega)] at hj
        have := (ci j (by omega)).mpr (by omega)
        rw [List.getD_eq_getElem?_getD, hj] at this
        exact this
      have hi : ∀ x ∈ pts.drop (cnt pts p), bef p x = true := fun x hx => by
        have xm := List.mem_of_mem_drop hx
        obtain ⟨j, hj⟩ := List.mem_iff_getElem?.mp hx
        rw [List.getElem?_drop] at hj
        have jl := (List.getElem?_eq_some_iff.mp hj).1
        have nb : ¬ bef x p = true := fun z => by
          have := (ci _ jl).mp (by rw [List.getD_eq_getElem?_getD, hj]; exact z)
          omega
        rcases bef_tri (a := x) (b := p) (by rw [hs.1 x xm, hp]) (fun z => hm (by rw [← z]; exact xm)) with z | z
        · exact absurd z nb
        · exact z
      rw [List.append_assoc, List.pairwise_append]
      refine ⟨hs.2.sublist (List.take_sublist _ _), ?_, fun a ha b hb => ?_⟩
      · show (p :: pts.drop (cnt pts p)).Pairwise _
        rw [List.pairwise_cons]
        exact ⟨hi, hs.2.sublist (List.drop_sublist _ _)⟩
      · have hb : b ∈ p :: pts.drop (cnt pts p) := hb
        have am := List.mem_of_mem_take ha
        rcases List.mem_cons.mp hb with rfl | hb
        · exact lo a ha
        · exact bef_trans (by rw [hs.1 a am, hp]) (by rw [hp, hs.1 b (List.mem_of_mem_drop hb)]) (lo a ha) (hi b hb)
theorem srt_vIns {n : Nat} {R : List Fm} {acc : List (List Rat)} {ns : List Nat} (hs : Srt n acc) : Srt n (vIns n R acc ns) := by
  unfold vIns
  cases q : vPt n R ns with
  | none => exact hs
  | some pt =>
    obtain ⟨pl, _, h2, _⟩ := vPt_some q
    have hp : pt.length = n := by rw [h2]; exact ptOf_len
    dsimp only
    rw [insP_insL hp hs]
    exact srt_ins hp hs
end Vs
namespace Vs
open PySem PySem.Spec PyProof.Rows L2
open Bar (gt cz Sol Bd rg gsol RowIn ESol SR QRow gred GS)
structure Fm4 (n : Nat) (f : Fm) : Prop where
  len : f.1.length = n
  co : ∀ q ∈ f.1, Tq 60 2 q
  c : Tq 25200 (2 ^ 140) f.2
theorem Fm4.all {n : Nat} {f : Fm} (h : Fm4 n f) : ∀ q ∈ fmL f, Tq 25200 (2 ^ 140) q := fun q hq => by
  rcases List.mem_append.mp hq with h1 | h1
  · exact ((h.co q h1).up 420 (by decide)).mono (B := 2 ^ 140) (by decide)
  · simp at h1; subst h1; exact h.c
theorem Fm4.ok {n : Nat} {f : Fm} (h : Fm4 n f) : FmOk n 155 15 f := Tq.fm (s := 25200) (A := 2 ^ 140) h.len (by decide) h.all (by decide) (by decide)
def lcs (R : List Fm) (ns : List Nat) : List Rat := ns.map fun k => -(R.getD k ([], 0)).2
theorem aug4 {n : Nat} {R : List Fm} (hR : ∀ f ∈ R, Fm4 n f) {ns : List Nat} (hk : ∀ k ∈ ns, k < R.length) : (∀ r ∈ cfs R ns, r.length = n) ∧ (lcs R ns).length = (cfs R ns).length ∧ ∀ r ∈ augR (cfs R ns) (lcs R ns), RowIn (n + 1) (2 ^ 155) 15 r := by
  have c : ∀ r ∈ cfs R ns, r.length = n ∧ ∀ q ∈ r, Tq 25200 (2 ^ 140) q := fun r hr => by
    obtain ⟨j, hj, rfl⟩ := List.mem_map.mp hr
    have f := hR _ (getD_mem (d := ([], 0)) (hk j hj))
    exact ⟨f.len, fun q hq => f.all q (List.mem_append_left _ hq)⟩
  have l : (lcs R ns).length = (cfs R ns).length := by simp [lcs, cfs]
  refine ⟨fun r hr => (c r hr).1, l, fun r hr => ?_⟩
  obtain ⟨k, hk', rfl⟩ := List.mem_map.mp hr
  have hk' := List.mem_range.mp hk'
  obtain ⟨r1, r2⟩ := c _ (getD_mem (d := []) hk')
  refine Tq.row (s := 25200) (A := 2 ^ 140) (by rw [List.length_append, r1]; rfl) (by decide) (fun q hq => ?_) (by decide) (by decide)
  rcases List.mem_append.mp hq with h | h
  · exact r2 q h
  · simp only [List.mem_cons, List.mem_nil_iff, or_false] at h
    subst h
    have m : (lcs R ns).getD k 0 ∈ lcs R ns := getD_mem (by omega)
    obtain ⟨j, hj, e⟩ := List.mem_map.mp m
    rw [← e]
    exact ((hR _ (getD_mem (d := ([], 0)) (hk j hj))).c).neg
theorem zers_fc {n : Nat} {R : List Fm} : ∀ ns : List Nat, zers (cfs R ns) (lcs R ns) = fcRows n R [] [] ns []
  | [] => rfl
  | k :: ns => by
    have ih := zers_fc (n := n) (R := R) ns
    unfold zers fcRows cfs lcs at ih ⊢
    rw [List.map_nil, List.append_nil] at ih ⊢
    rw [List.map_cons, List.map_cons, List.map_cons, List.zip_cons_cons, List.map_cons, ih]
    dsimp only
    rw [show -(-(R.getD k ([], 0)).2) = (R.getD k ([], 0)).2 by grind]
    rfl
theorem pt_gsol {n : Nat} {R : List Fm} (hR : ∀ f ∈ R, Fm4 n f) {ns : List Nat} (hk : ∀ k ∈ ns, k < R.length) : (cz (fcRows n R [] [] ns []) n).map (fun pl => ptOf pl n) = gsol n (augR (cfs R ns) (lcs R ns)) := by
  obtain ⟨a1, a2, a3⟩ := aug4 hR hk
  refine cz_gsol (M := 2 ^ 155) (S := 15) (fun r hr => ?_) Nat.one_le_two_pow a3 fun x => ?_
  · unfold fcRows at hr
    rw [List.map_nil, List.append_nil] at hr
    obtain ⟨k, hkk, rfl⟩ := List.mem_map.mp hr
    exact (row_of (hR _ (getD_mem (hk k hkk))).len).1
  · rw [← zers_fc (n := n) ns]
    exact zers_sol a1 a2 x
theorem vPt_gsol {n : Nat} {R : List Fm} (hR : ∀ f ∈ R, Fm4 n f) {ns : List Nat} (hk : ∀ k ∈ ns, k < R.length) : vPt n R ns = (gsol n (augR (cfs R ns) (lcs R ns))).bind fun pt => if insideB R pt = true then some pt else none := by
  rw [← pt_gsol hR hk]; rfl
theorem gsol_sz {n : Nat} {R : List Fm} (hn : n ≤ 3) (hR : ∀ f ∈ R, Fm4 n f) {ns : List Nat} (hk : ∀ k ∈ ns, k < R.length) {pt : List Rat} (e : gsol n (augR (cfs R ns) (lcs R ns)) = some pt) : pt.length = n ∧ ∀ q ∈ pt, Qz 700 q := by
  obtain ⟨_, _, a3⟩ := aug4 hR hk
  obtain ⟨l, _⟩ := Bar.gsol_some Nat.one_le_two_pow a3 e
  refine ⟨l, fun q hq => ?_⟩
  unfold gsol at e
  split at e
  · rename_i hl
    cases e
    obtain ⟨r, hr, rfl⟩ := List.mem_map.mp hq
    have I := Bar.gred_GI (M := 2 ^ 155) Nat.one_le_two_pow a3
    exact (GI_done (v := 4) I (by rw [hl, List.length_range]; omega) (by decide) hr (by omega)).mono (by decide)
  · cases e
theorem vPt_sz {n : Nat} {R : List Fm} (hn : n ≤ 3) (hR : ∀ f ∈ R, Fm4 n f) {ns : List Nat} (hk : ∀ k ∈ ns, k < R.length) {pt : List Rat} (e : vPt n R ns = some pt) : pt.length = n ∧ ∀ q ∈ pt, Qz 700 q := by
  rw [vPt_gsol hR hk] at e
  obtain ⟨p, h1, h2⟩ := Option.bind_eq_some_iff.mp e
  split at h2
  · cases h2; exact gsol_sz hn hR hk h1
  · cases h2
theorem any_q {p : List Rat} {d : PyData} (hd : toPD (qP p) = some d) (hs : PyData.eqv d d = true) : ∀ (pts : List (List Rat)) (ds : List PyData), toPDs (pts.map qP) = some ds → (ds.any fun z => PyData.eqv z d) = decide (p ∈ pts)
  | [], ds, h => by cases h; rfl
  | x :: xs, ds, h => by
    rw [List.map_cons] at h
    simp only [toPDs] at h
    split at h
    · rename_i z zs h1 h2
      cases h
      have ih := any_q hd hs xs zs h2
      rw [List.any_cons, ih]
      by_cases q : x = p
      · subst q
        rw [hd] at h1; cases h1
        rw [hs]
        simp
      · have : PyData.eqv z d = false := by
          cases e : PyData.eqv z d with
          | false => rfl
          | true => exact absurd (qP_inj (eqv_eq _ _ z d nb_q nb_q h1 hd e)) q
        rw [this, Bool.false_or, decide_eq_decide]
        exact ⟨fun h => List.mem_cons_of_mem _ h, fun h => (List.mem_cons.mp h).resolve_left fun e => q e.symm⟩
    · cases h
theorem in_q {p : List Rat} {pts : List (List Rat)} : inDeep (qP p) (pts.map qP) = some (decide (p ∈ pts)) := by
  obtain ⟨d, d1, d2, d3, d4⟩ := pln_q (k := 0) (xs := p)
  obtain ⟨e, e1, e2, e3, e4⟩ := pln_lst (k := 2) (xs := pts.map qP) fun x hx => by
    obtain ⟨y, _, rfl⟩ := List.mem_map.mp hx
    exact pln_q
  have e1' := e1
  simp only [toPD, Option.map_eq_some_iff] at e1'
  obtain ⟨ds, h1, rfl⟩ := e1'
  unfold inDeep
  rw [d1, e1]
  dsimp only
  have s1 : SeqAt.shaped d = true := by unfold SeqAt.shaped; rw [d2]; simp; omega
  have s2 : SeqAt.shaped (.list ds) = true := by unfold SeqAt.shaped; rw [e2]; simp; omega
  rw [s1, s2]
  show some _ = _
  rw [any_q d1 d4 pts ds h1]
section
variable {μ : Mu} {δ : Sl}
theorem notin_q {p : List Rat} {pts : List (List Rat)} : fInD true (.p (qP p)) (.p (qsP pts)) μ = some (.p (.bl (!decide (p ∈ pts))), μ) := by
  show (match inDeep (qP p) (pts.map qP) with
    | some b => some (D.p (.bl (if true = true then !b else b)), μ)
    | none => none) = _
  rw [in_q]; rfl
theorem sl_lo {pts : List (List Rat)} {k : Nat} {i j : Nat} (h1 : evV i δ μ = some (.ok (.p (qsP pts)), μ)) (h2 : evV j δ μ = some (.ok (.p (.int (k : Int))), μ)) : evSl (evV i) evNoP (evPt (evV j)) δ μ = some (.ok (.p (.lst ((pts.take k).map qP))), μ) := by
  rw [evSl_eq, h1, bindG_ok, evNoP_eq, bindG_ok, evPt_eq, h2, bindG_ok, ptEnd_int, bindG_ok]
  show slEnd _ _ _ (lstOf _ (.p (.lst (pts.map qP)))) = _
  rw [lstOf_lst, slEnd_some, cut_lo, List.map_take]
theorem sl_hi {pts : List (List Rat)} {k : Nat} {i j : Nat} (h1 : evV i δ μ = some (.ok (.p (qsP pts)), μ)) (h2 : evV j δ μ = some (.ok (.p (.int (k : Int))), μ)) : evSl (evV i) (evPt (evV j)) evNoP δ μ = some (.ok (.p (.lst ((pts.drop k).map qP))), μ) := by
  rw [evSl_eq, h1, bindG_ok, evPt_eq, h2, bindG_ok, ptEnd_int, bindG_ok, evNoP_eq, bindG_ok]
  show slEnd _ _ _ (lstOf _ (.p (.lst (pts.map qP)))) = _
  rw [lstOf_lst, slEnd_some, cut_hi, List.map_drop]
/-- one choice of forms -/
theorem crn_step {n : Nat} {R : List Fm} (hn0 : 1 ≤ n) (hn : n ≤ 3) (hR : ∀ f ∈ R, Fm4 n f) (hw : R.length ≤ 9) {ns : List Nat} (nl : ns.length = n) (nr : ∀ k ∈ ns, k < R.length) {acc : List (List Rat)} (hs : Srt n acc) (hq : ∀ x ∈ acc, ∀ q ∈ x, Bz 700 q) (hl : acc.length ≤ 900) {c4 c5 c6 c7 c8 : Option D} : ∃ c6' c7',
    lb__law_corners_0 [some (.p (rgQ R)), some (.p (.int (n : Int))), some (.p (qsP acc)), some (.p (ixP ns)), c4, c5, c6, c7, c8] μ = some (.nx, [some (.p (rgQ R)), some (.p (.int (n : Int))), some (.p (qsP (vIns n R acc ns))), some (.p (ixP ns)), some (.p (qsP (cfs R ns))), c5, c6', c7', c8], μ) := by
  obtain ⟨a1, a2, a3⟩ := aug4 hR nr
  have lc := lc_map (δ := [some (.p (rgQ R)), some (.p (.int (n : Int))), some (.p (qsP acc)), some (.p (ixP ns)), c4, c5, c6, c7, c8]) (μ := μ) (ν := μ) (it := evIt (evV 3)) (ts := tgN 5) (e := evBI fList (evCons (evBin fIx (evBin fIx (evV 0) (evV 5)) (evC (.int 0))) evNil)) (vs := [5]) (as := ns) (fun k : Nat => P.int (k : Int)) (fun k => qP (R.getD k ([], 0)).1) rfl (fun j hj => ⟨_, rfl, fun κ => by
      have x1 := rix (μ := κ) (nr j hj)
      have fl : fList [.p (.tup ((R.getD j ([], 0)).1.map pr))] κ = some (.p (qP (R.getD j ([], 0)).1), κ) := rfl
      show evBI fList (evCons (evBin fIx (evBin fIx (evV 0) (evV 5)) (evC (.int 0))) evNil) [some (.p (rgQ R)), some (.p (.int (n : Int))), some (.p (qsP acc)), some (.p (ixP ns)), c4, some (.p (.int (j : Int))), c6, c7, c8] κ = _
      rw [evBI_eq, evCons_eq, evBin_eq, evBin_eq, evV_0, bindG_ok, evV_5, bindG_ok, x1, okm_some, bindG_ok, evC_eq, bindG_ok, fm0, okm_some, bindG_ok, evNil_eq, bindG_ok, bindG_ok, fl, okm_some]⟩) (Nat.le_of_lt (line_k (by omega)))
  have eq : P.lst (ns.map fun k => qP (R.getD k ([], 0)).1) = qsP (cfs R ns) := by unfold qsP cfs; rw [List.map_map]; rfl
  rw [eq] at lc
  have lc2 := lc_map (δ := [some (.p (rgQ R)), some (.p (.int (n : Int))), some (.p (qsP acc)), some (.p (ixP ns)), some (.p (qsP (cfs R ns))), c5, c6, c7, c8]) (μ := μ) (ν := μ) (it := evIt (evV 3)) (ts := tgN 5) (e := evTup (evCons (evUn fNeg (evBin fIx (evBin fIx (evBin fIx (evV 0) (evV 5)) (evC (.int 1))) (evC (.int 0)))) (evCons (evBin fIx (evBin fIx (evBin fIx (evV 0) (evV 5)) (evC (.int 1))) (evC (.int 1))) evNil))) (vs := [5]) (as := ns) (fun k : Nat => P.int (k : Int)) (fun k => pr (-(R.getD k ([], 0)).2)) rfl (fun j hj => ⟨_, rfl, fun κ => by
      have x1 := rix (μ := κ) (nr j hj)
      have i0 := ix_pr0 (μ := κ) (a := (R.getD j ([], 0)).2)
      have i1 := ix_pr1 (μ := κ) (a := (R.getD j ([], 0)).2)
      have ng : fNeg (.p (.int (R.getD j ([], 0)).2.num)) κ = some (.p (.int (-(R.getD j ([], 0)).2.num)), κ) := by simp
      show evTup (evCons (evUn fNeg (evBin fIx (evBin fIx (evBin fIx (evV 0) (evV 5)) (evC (.int 1))) (evC (.int 0)))) (evCons (evBin fIx (evBin fIx (evBin fIx (evV 0) (evV 5)) (evC (.int 1))) (evC (.int 1))) evNil)) [some (.p (rgQ R)), some (.p (.int (n : Int))), some (.p (qsP acc)), some (.p (ixP ns)), some (.p (qsP (cfs R ns))), some (.p (.int (j : Int))), c6, c7, c8] κ = _
      rw [evTup_eq, evCons_eq, evUn_eq, evBin_eq, evBin_eq, evBin_eq, evV_0, bindG_ok, evV_5, bindG_ok, x1, okm_some, bindG_ok, evC_eq, bindG_ok, fm1, okm_some, bindG_ok, evC_eq, bindG_ok, i0, okm_some, bindG_ok, ng, okm_some, bindG_ok, evCons_eq, evBin_eq, evBin_eq, evBin_eq, evV_0, bindG_ok, evV_5, bindG_ok, x1, okm_some, bindG_ok, evC_eq, bindG_ok, fm1, okm_some, bindG_ok, evC_eq, bindG_ok, i1, okm_some, bindG_ok, evNil_eq, bindG_ok, bindG_ok, bindG_ok, ← pr_neg]
      exact tup2⟩) (Nat.le_of_lt (line_k (by omega)))
  have eq2 : P.lst (ns.map fun k => pr (-(R.getD k ([], 0)).2)) = qP (lcs R ns) := by unfold qP lcs; rw [List.map_map]; rfl
  rw [eq2] at lc2
  have cl : (cfs R ns).length = n := by simp [cfs, nl]
  have so := ev_solution (μ := μ) (rows := cfs R ns) (cs := lcs R ns) (n := n) (m := 155) (S := 15) (by omega) a1 a2 a3 (by omega) (by
    have : 155 * (n + 1) ≤ 155 * 4 := Nat.mul_le_mul_left _ (by omega)
    omega) (by omega)
  unfold lb__law_corners_0
  rw [seqS_eq, sSet_eq, lc, bindS_ok, andThen_nx]
  simp only [List.set_cons_succ, List.set_cons_zero]
  rw [seqS_eq, sSet_eq, evCall_eq, evCons_eq, evV_4, bindG_ok, evCons_eq, lc2, bindG_ok, evNil_eq, bindG_ok, bindG_ok, bindG_ok, List.map_nil, List.append_nil, so, bindS_ok, andThen_nx]
  simp only [List.set_cons_succ, List.set_cons_zero]
  have vp := vPt_gsol hR nr
  unfold vIns
  cases g : gsol n (augR (cfs R ns) (lcs R ns)) with
  | none =>
    rw [g] at vp
    have vp : vPt n R ns = none := vp
    rw [vp, show oqP none = P.non from rfl]
    refine ⟨some (.p .non), c7, ?_⟩
    rw [sIf_eq, tAndV_eq, evB_eq', evBin_eq, evV_6, bindG_ok, evC_eq, bindG_ok, fIs_non, okm_some, bindG_ok, toB_bl, bindG_ok]
    rfl
  | some pt =>
    rw [g] at vp
    have vp : vPt n R ns = if insideB R pt = true then some pt else none := vp
    rw [show oqP (some pt) = qP pt from rfl]
    obtain ⟨pl, pz⟩ := gsol_sz hn hR nr g
    have li := ev_linside (μ := μ) (R := R) (xs := pt) (d := .p (qP pt)) (a := 7) (b := 700) (c := 155) (.inl rfl) (fun f hf q hq => ((hR f hf).co q hq).qz (by decide) (by decide) (by decide)) pz (fun f hf => (hR f hf).c.qz (by decide) (by decide) (by decide)) (fun f hf => by rw [(hR f hf).len, pl]) (by decide) (by decide) (by omega) (by
      have : pt.length * (7 + 700 + 1) ≤ 3 * (7 + 700 + 1) := Nat.mul_le_mul_right _ (by omega)
      omega) (by omega)
    have ni := notin_q (μ := μ) (p := pt) (pts := acc)
    have cond : tAndV' (evB (evBin (fIs true) (evV 6) (evC .non))) (tAndV' (evB (evCall m__law_inside [] (evCons (evV 0) (evCons (evV 6) evNil)))) (evB (evBin (fInD true) (evV 6) (evV 2)))) [some (.p (rgQ R)), some (.p (.int (n : Int))), some (.p (qsP acc)), some (.p (ixP ns)), some (.p (qsP (cfs R ns))), c5, some (.p (qP pt)), c7, c8] μ = some (.ok (insideB R pt && !decide (pt ∈ acc)), μ) := by
      rw [tAndV_eq, evB_eq', evBin_eq, evV_6, bindG_ok, evC_eq, bindG_ok, fIs_non, okm_some, bindG_ok, toB_bl, bindG_ok, show (if true = true then !isNon (D.p (qP pt)) else isNon (D.p (qP pt))) = true from rfl, if_pos rfl, tAndV_eq, evB_eq', evCall_eq, evCons_eq, evV_0, bindG_ok, evCons_eq, evV_6, bindG_ok, evNil_eq, bindG_ok, bindG_ok, bindG_ok, List.map_nil, List.append_nil, li, bindG_ok, toB_bl, bindG_ok]
      cases insideB R pt with
      | false => rfl
      | true =>
        rw [if_pos rfl, evB_eq', evBin_eq, evV_6, bindG_ok, evV_2, bindG_ok, ni, okm_some, bindG_ok, toB_bl]
        rfl
    rw [sIf_eq, cond, bindS_ok]
    by_cases hi : insideB R pt = true
    · rw [vp, if_pos hi, hi, Bool.true_and]
      dsimp only
      rw [insP_insL pl hs]
      unfold insL
      by_cases hm : pt ∈ acc
      · refine ⟨some (.p (qP pt)), c7, ?_⟩
        rw [if_pos hm, decide_eq_true hm, if_neg (by decide), sNil_eq]
      · refine ⟨some (.p (qP pt)), some (.p (.int (cnt acc pt : Nat))), ?_⟩
        rw [if_neg hm, decide_eq_false hm, if_pos (by decide)]
        have lf := lc_filt (δ := [some (.p (rgQ R)), some (.p (.int (n : Int))), some (.p (qsP acc)), some (.p (ixP ns)), some (.p (qsP (cfs R ns))), c5, some (.p (qP pt)), c7, c8]) (μ := μ) (ν := μ) (it := evIt (evV 2)) (ts := tgN 8) (t := evB (evCall m__law_before [] (evCons (evV 8) (evCons (evV 6) evNil)))) (e := evV 8) (vs := [8]) (as := acc) qP qP (fun x => bef x pt) rfl (fun x hx => ⟨_, rfl, fun ξ _ => by
          have lb := ev_lbefore7 (μ := ξ) (xs := x) (ys := pt) (hq x hx) (fun q h => (pz q h).bz) (by rw [hs.1 x hx, pl]) (by rw [hs.1 x hx]; omega)
          constructor
          · show evB (evCall m__law_before [] (evCons (evV 8) (evCons (evV 6) evNil))) [some (.p (rgQ R)), some (.p (.int (n : Int))), some (.p (qsP acc)), some (.p (ixP ns)), some (.p (qsP (cfs R ns))), c5, some (.p (qP pt)), c7, some (.p (qP x))] ξ = _
            rw [evB_eq', evCall_eq, evCons_eq, evV_8, bindG_ok, evCons_eq, evV_6, bindG_ok, evNil_eq, bindG_ok, bindG_ok, bindG_ok, List.map_nil, List.append_nil, lb, bindG_ok, toB_bl]
          · rfl⟩) (Nat.le_of_lt (line_k (by omega)))
        have ln : fLen [.p (.lst ((acc.filter fun x => bef x pt).map qP))] μ = some (.p (.int (cnt acc pt : Nat)), μ) := by rw [fLen_lst, List.length_map]; rfl
        have ck := cnt_le (pts := acc) (p := pt)
        rw [seqS_eq, sSet_eq, evBI_eq, evCons_eq, lf, bindG_ok, evNil_eq, bindG_ok, bindG_ok, ln, okm_some, bindS_ok, andThen_nx]
        simp only [List.set_cons_succ, List.set_cons_zero]
        have b1 := sl_lo (μ := μ) (δ := [some (.p (rgQ R)), some (.p (.int (n : Int))), some (.p (qsP acc)), some (.p (ixP ns)), some (.p (qsP (cfs R ns))), c5, some (.p (qP pt)), some (.p (.int (cnt acc pt : Nat))), c8]) (pts := acc) (k := cnt acc pt) (i := 2) (j := 7) rfl rfl
        have b2 := sl_hi (μ := μ) (δ := [some (.p (rgQ R)), some (.p (.int (n : Int))), some (.p (qsP acc)), some (.p (ixP ns)), some (.p (qsP (cfs R ns))), c5, some (.p (qP pt)), some (.p (.int (cnt acc pt : Nat))), c8]) (pts := acc) (k := cnt acc pt) (i := 2) (j := 7) rfl rfl
        have b3 := catL1 (a := evSl (evV 2) evNoP (evPt (evV 7))) (b := evV 6) b1 (x := qP pt) rfl (by rw [List.length_map, List.length_take]; omega)
        have b4 : fCatL (.p (.lst ((acc.take (cnt acc pt)).map qP ++ [qP pt]))) (.p (.lst ((acc.drop (cnt acc pt)).map qP))) μ = some (.p (qsP (acc.take (cnt acc pt) ++ [pt] ++ acc.drop (cnt acc pt))), μ) := by
          rw [fCatL_p (Nat.le_of_lt (line_k (by simp; omega)))]
          unfold qsP
          rw [List.map_append, List.map_append]; rfl
        rw [sSet_eq, evBin_eq, b3, bindG_ok, b2, bindG_ok, b4, okm_some, bindS_ok]
        simp only [List.set_cons_succ, List.set_cons_zero]
    · refine ⟨some (.p (qP pt)), c7, ?_⟩
      have hi : insideB R pt = false := by simpa using hi
      have vp : vPt n R ns = none := by rw [vp, hi, if_neg (by decide)]
      rw [vp, hi, Bool.false_and, if_neg (by decide), sNil_eq]
end
end Vs
namespace Vs
open PySem PySem.Spec PyProof.Rows L2
open Bar (gt cz Sol Bd rg gsol RowIn ESol SR QRow gred GS)
theorem vIns_sz {n : Nat} {R : List Fm} {acc : List (List Rat)} {ns : List Nat} (hn : n ≤ 3) (hR : ∀ f ∈ R, Fm4 n f) (hk : ∀ k ∈ ns, k < R.length) (hq : ∀ x ∈ acc, ∀ q ∈ x, Bz 700 q) : ∀ x ∈ vIns n R acc ns, ∀ q ∈ x, Bz 700 q := fun x hx => by
  unfold vIns at hx
  cases e : vPt n R ns with
  | none => rw [e] at hx; exact hq x hx
  | some pt =>
    rw [e] at hx
    rcases insP_mem.mp hx with rfl | h
    · exact fun q h => ((vPt_sz hn hR hk e).2 q h).bz
    · exact hq x h
theorem vIns_len {n : Nat} {R : List Fm} {acc : List (List Rat)} {ns : List Nat} : (vIns n R acc ns).length ≤ acc.length + 1 := by
  unfold vIns
  split
  · omega
  · exact insP_len
section
variable {μ : Mu} {δ : Sl}
theorem crn_loop {n : Nat} {R : List Fm} (hn0 : 1 ≤ n) (hn : n ≤ 3) (hR : ∀ f ∈ R, Fm4 n f) (hw : R.length ≤ 9) : ∀ (L : List (List Nat)) (acc : List (List Rat)) (c3 c4 c5 c6 c7 c8 : Option D), (∀ ns ∈ L, ns.length = n ∧ ∀ k ∈ ns, k < R.length) → Srt n acc → (∀ x ∈ acc, ∀ q ∈ x, Bz 700 q) → acc.length + L.length ≤ 900 → ∃ c3' c4' c5' c6' c7' c8',
    forL (tgN 3) lb__law_corners_0 (L.map ixP) [some (.p (rgQ R)), some (.p (.int (n : Int))), some (.p (qsP acc)), c3, c4, c5, c6, c7, c8] μ = some (.nx, [some (.p (rgQ R)), some (.p (.int (n : Int))), some (.p (qsP (vtxL n R L acc))), c3', c4', c5', c6', c7', c8'], μ) := by
  intro L
  induction L with
  | nil => intro acc c3 c4 c5 c6 c7 c8 _ _ _ _; exact ⟨_, _, _, _, _, _, rfl⟩
  | cons ns L ih =>
    intro acc c3 c4 c5 c6 c7 c8 hL hs hq hl
    rw [List.length_cons] at hl
    obtain ⟨nl, nr⟩ := hL ns List.mem_cons_self
    obtain ⟨c6', c7', e⟩ := crn_step (μ := μ) hn0 hn hR hw nl nr hs hq (by omega) (c4 := c4) (c5 := c5) (c6 := c6) (c7 := c7) (c8 := c8)
    have vl := vIns_len (n := n) (R := R) (acc := acc) (ns := ns)
    obtain ⟨d3, d4, d5, d6, d7, d8, e2⟩ := ih (vIns n R acc ns) (some (.p (ixP ns))) (some (.p (qsP (cfs R ns)))) c5 c6' c7' c8 (fun x hx => hL x (List.mem_cons_of_mem _ hx)) (srt_vIns hs) (vIns_sz hn hR nr hq) (by omega)
    refine ⟨d3, d4, d5, d6, d7, d8, ?_⟩
    rw [List.map_cons, forL_nx rfl e, e2]
    rfl
theorem srt_nil {n : Nat} : Srt n [] := ⟨(fun x h => by cases h), List.Pairwise.nil⟩
theorem vtx0 {R : List Fm} : vtx 0 R = if insideB R [] = true then [[]] else [] := by
  have e : vPt 0 R [] = if insideB R [] = true then some [] else none := rfl
  have : vtx 0 R = vIns 0 R [] [] := rfl
  rw [this]
  unfold vIns
  rw [e]
  by_cases h : insideB R [] = true
  · rw [if_pos h, if_pos h]
    dsimp only
    rw [insP_insL (n := 0) rfl srt_nil]
    unfold insL
    rw [if_neg (by simp)]
    rfl
  · rw [if_neg h, if_neg h]
theorem ev_corners {n : Nat} {R : List Fm} (hn : n ≤ 3) (hR : ∀ f ∈ R, Fm4 n f) (hw : R.length ≤ 9) : m__law_corners [.p (rgQ R), .p (.int (n : Int))] μ = some (.ok (.p (qsP (vtx n R))), μ) := by
  unfold m__law_corners
  rw [arF2]
  unfold sv__law_corners
  simp only [List.replicate, List.cons_append, List.nil_append]
  rw [seqS_eq, sIf_eq, evB_eq', evBin_eq, evV_1, bindG_ok, evC_eq, bindG_ok, eq_int, okm_some, bindG_ok, toB_bl, bindS_ok]
  have l0 : ∀ (δ : Sl) (κ : Mu), evLst evNil δ κ = some (.ok (.p (.lst [])), κ) := fun δ κ => by
    rw [evLst_eq, evNil_eq, bindG_ok, toPs_nil, lstEnd_some, if_pos (show ([] : List P).length ≤ sizeLine from line_0)]
  by_cases n0 : n = 0
  · subst n0
    have li := ev_linside (μ := μ) (R := R) (xs := []) (d := .p (.lst [])) (a := 7) (b := 700) (c := 155) (.inl rfl) (fun f hf q hq => ((hR f hf).co q hq).qz (by decide) (by decide) (by decide)) (fun q h => by cases h) (fun f hf => (hR f hf).c.qz (by decide) (by decide) (by decide)) (fun f hf => (hR f hf).len) (by decide) (by decide) (by decide) (by decide) (by omega)
    have l1 : evLst (evCons (evLst evNil) evNil) [some (.p (rgQ R)), some (.p (.int ((0 : Nat) : Int))), none, none, none, none, none, none, none] μ = some (.ok (.p (.lst [.lst []])), μ) := by
      rw [evLst_eq, evCons_eq, l0, bindG_ok, evNil_eq, bindG_ok, bindG_ok, toPs_cons, toPs_nil, consP_some, lstEnd_some, if_pos (Nat.le_of_lt (line_k (by decide)))]
    rw [if_pos (show decide (((0 : Nat) : Int) = 0) = true from rfl), sRet_eq, evBin_eq, l1, bindG_ok, evBI_eq, evCons_eq, evCall_eq, evCons_eq, evV_0, bindG_ok, evCons_eq, l0, bindG_ok, evNil_eq, bindG_ok, bindG_ok, bindG_ok, List.map_nil, List.append_nil, li, bindG_ok, evNil_eq, bindG_ok, bindG_ok]
    rw [vtx0]
    cases insideB R [] with
    | true =>
      have f1 : fInt [.p (.bl true)] μ = some (.p (.int ((1 : Nat) : Int)), μ) := rfl
      rw [f1, okm_some, bindG_ok, fRepL_p (by decide) (by decide), okm_some, bindS_ok, andThen_ret, retF_p, List.take_length]
      rfl
    | false =>
      have f1 : fInt [.p (.bl false)] μ = some (.p (.int ((0 : Nat) : Int)), μ) := rfl
      rw [f1, okm_some, bindG_ok, fRepL_p (by decide) (by decide), okm_some, bindS_ok, andThen_ret, retF_p, List.take_length]
      rfl
  · have p9 : 9 ^ n ≤ 9 ^ 3 := Nat.pow_le_pow_right (by decide) hn
    have pl := pk_len9 hw n
    have pc := ev_picks9 (μ := μ) hw hn
    obtain ⟨d3, d4, d5, d6, d7, d8, e⟩ := crn_loop (μ := μ) (by omega) hn hR hw (pk R.length n) [] none none none none none none (fun ns h => pk_ok n ns h) srt_nil (fun x hx => by cases hx) (by simp; omega)
    have ln : fLen [.p (rgQ R)] μ = some (.p (.int (R.length : Int)), μ) := by unfold rgQ; rw [fLen_lst, List.length_map]
    unfold lb__law_corners_0 at e
    rw [show qsP [] = P.lst [] from rfl] at e
    have it : evIt (evCall m__law_picks [] (evCons (evBI fLen (evCons (evV 0) evNil)) (evCons (evV 1) evNil))) [some (.p (rgQ R)), some (.p (.int (n : Int))), some (.p (.lst [])), none, none, none, none, none, none] μ = some (.ok ((pk R.length n).map ixP), μ) := by
      have : evCall m__law_picks [] (evCons (evBI fLen (evCons (evV 0) evNil)) (evCons (evV 1) evNil)) [some (.p (rgQ R)), some (.p (.int (n : Int))), some (.p (.lst [])), none, none, none, none, none, none] μ = some (.ok (.p (.lst ((pk R.length n).map ixP))), μ) := by
        rw [evCall_eq, evCons_eq, evBI_eq, evCons_eq, evV_0, bindG_ok, evNil_eq, bindG_ok, bindG_ok, ln, okm_some, bindG_ok, evCons_eq, evV_1, bindG_ok, evNil_eq, bindG_ok, bindG_ok, bindG_ok, List.map_nil, List.append_nil, pc]
      show bindG _ _ = _
      rw [this]; rfl
    rw [if_neg (by simp; omega), sNil_eq, andThen_nx, seqS_eq, sSet_eq, l0, bindS_ok, andThen_nx]
    simp only [List.set_cons_succ, List.set_cons_zero]
    rw [seqS_eq, sFor_eq, it, bindS_ok, e, andThen_nx, sRet_eq, evV_2, bindS_ok, retF_p, List.take_length]
    rfl
end
end Vs
namespace Vs
open PySem PySem.Spec PyProof.Rows L2
section
variable {μ : Mu} {δ : Sl}
theorem eqP_qsG {rows : List (List Rat)} : eqP (qsP rows) (qsP rows) = some true := eqP_self ((pln_lst (k := 2) fun x hx => by
  obtain ⟨y, _, rfl⟩ := List.mem_map.mp hx
  exact pln_q).mono (k := 3) (by decide))
theorem shown {n0 l : Nat} {ν : Mu} {pts : List (List Rat)} {ks : List Nat} {e : Ev} {c0 c1 c2 c3 c4 c5 c6 c7 c8 c9 c10 c11 : Option D} (h : e [c0, c1, c2, c3, c4, c5, c6, c7, c8, c9, c10, c11] μ = some (.ok (.loc l), ν)) (L : Lv n0 ν l (pts.map rL) ks) (hp : ∀ x ∈ pts, x.length ≤ 900) (hl : pts.length ≤ 900) :
    evLcI (evItL e) (tgNI 11) evTrue (evCall m__law_point [] (evCons (evV 11) evNil)) [11] [c0, c1, c2, c3, c4, c5, c6, c7, c8, c9, c10, c11] μ = some (.ok (.p (qsP pts)), ν) := by
  obtain ⟨g, i1, o1⟩ := L.items
  have kl : ks.length = pts.length := by rw [L.len, List.length_map]
  have em : (ks.map D.loc).map It2.one = (List.range pts.length).map fun i => It2.one (.loc (ks.getD i 0)) := by
    apply List.ext_getElem?
    intro i
    rw [List.getElem?_map, List.getElem?_map, List.getElem?_map]
    by_cases hi : i < ks.length
    · rw [List.getElem?_eq_getElem hi, List.getElem?_range (by omega)]
      show some (It2.one (.loc ks[i])) = some (It2.one (.loc (ks.getD i 0)))
      rw [List.getD_eq_getElem?_getD, List.getElem?_eq_getElem hi]; rfl
    · rw [List.getElem?_eq_none (by omega), List.getElem?_eq_none (by simp; omega)]; rfl
  have lc := lcI_map (δ := [c0, c1, c2, c3, c4, c5, c6, c7, c8, c9, c10, c11]) (μ := μ) (ν := ν) (it := evItL e) (ts := tgNI 11) (e := evCall m__law_point [] (evCons (evV 11) evNil)) (vs := [11]) (as := List.range pts.length) (gd := g) (fun i => It2.one (.loc (ks.getD i 0))) (fun i => qP (pts.getD i [])) (by
    rw [evItL_eq, h, bindG_ok, i1]
    dsimp only
    rw [em]) o1 (fun i hi => ⟨_, rfl, fun ξ ex => by
      have hi := List.mem_range.mp hi
      obtain ⟨k, hk, hx⟩ := L.get (i := i) (by rw [List.length_map]; exact hi)
      have ge : (pts.map rL).getD i [] = rL (pts.getD i []) := by
        rw [List.getD_eq_getElem?_getD, List.getElem?_map, List.getD_eq_getElem?_getD, List.getElem?_eq_getElem hi]; rfl
      rw [ge] at hx
      have lp := ev_lpoint (μ := ξ) (d := .loc k) (xs := pts.getD i []) (hx.ext ex) (hp _ (getD_mem hi))
      have kk : ks.getD i 0 = k := by rw [List.getD_eq_getElem?_getD, hk]; rfl
      show evCall m__law_point [] (evCons (evV 11) evNil) [c0, c1, c2, c3, c4, c5, c6, c7, c8, c9, c10, some (.loc (ks.getD i 0))] ξ = _
      rw [kk, evCall_eq, evCons_eq, evV_11, bindG_ok, evNil_eq, bindG_ok, bindG_ok, List.map_nil, List.append_nil, lp]⟩) (Nat.le_of_lt (line_k (by rw [List.length_range]; omega)))
  rw [lc]
  have : (List.range pts.length).map (fun i => qP (pts.getD i [])) = pts.map qP := by
    apply List.ext_getElem?
    intro i
    rw [List.getElem?_map, List.getElem?_map]
    by_cases hi : i < pts.length
    · rw [List.getElem?_range hi, List.getElem?_eq_getElem hi]
      show some (qP (pts.getD i [])) = some (qP pts[i])
      rw [List.getD_eq_getElem?_getD, List.getElem?_eq_getElem hi]; rfl
    · rw [List.getElem?_eq_none (by simp; omega), List.getElem?_eq_none (by omega)]; rfl
  rw [this]; rfl
theorem forI_nx1 {ts : TgtI} {body : SEv} {g : Gd} {x : It2} {xs : List It2} {δ δ1 δ2 : Sl} {μ μ2 : Mu} (hg : okG μ g) (h1 : ts x δ = some δ1) (h2 : body δ1 μ = some (.nx, δ2, μ2)) : forI ts body g (x :: xs) δ μ = forI ts body g xs δ2 μ2 := by
  rw [forI, gIf_pos hg, h1]; dsimp only; rw [h2]
/-- each point gets an item more -/
theorem app_loop {l : Nat} {m : MO} {c0 c1 c2 c3 c4 c5 c6 c7 c8 c9 c10 : Option D} : ∀ (L : List (Nat × List P)) (μ : Mu) (c11 : Option D), (L.map Prod.fst).Nodup → (∀ x ∈ L, x.1 ≠ l ∧ μ[x.1]? = some (some (.lst x.2)) ∧ x.2.length ≤ 900) → okG μ (some (l, m)) → ∃ μ' c11',
    forI (tgNI 11) (sExpr (evBM isLst fApp (evV 11) (evCons (evC (.int 0)) evNil))) (some (l, m)) (L.map fun x => It2.one (.loc x.1)) [c0, c1, c2, c3, c4, c5, c6, c7, c8, c9, c10, c11] μ = some (.nx, [c0, c1, c2, c3, c4, c5, c6, c7, c8, c9, c10, c11'], μ')
    ∧ (∀ x ∈ L, μ'[x.1]? = some (some (.lst (x.2 ++ [.int 0])))) ∧ (∀ j, j ∉ L.map Prod.fst → μ'[j]? = μ[j]?) ∧ μ'.length = μ.length
  | [], μ, c11, _, _, og => ⟨μ, c11, forI_end og, (fun x h => by cases h), fun _ _ => rfl, rfl⟩
  | x :: L, μ, c11, nd, h, og => by
    rw [List.map_cons, List.nodup_cons] at nd
    obtain ⟨h1, h2, h3⟩ := h x List.mem_cons_self
    have xl := (List.getElem?_eq_some_iff.mp h2).1
    have ap := fApp_l (y := .int 0) h2 (line_k (by omega))
    have og' : okG (μ.set x.1 (some (.lst (x.2 ++ [.int 0])))) (some (l, m)) := by
      show (μ.set x.1 _)[l]? = _
      rw [List.getElem?_set_ne h1]; exact og
    obtain ⟨μ', c', e, a1, a2, a3⟩ := app_loop (c0 := c0) (c1 := c1) (c2 := c2) (c3 := c3) (c4 := c4) (c5 := c5) (c6 := c6) (c7 := c7) (c8 := c8) (c9 := c9) (c10 := c10) L (μ.set x.1 (some (.lst (x.2 ++ [.int 0])))) (some (.loc x.1)) nd.2 (fun y hy => by
      obtain ⟨g1, g2, g3⟩ := h y (List.mem_cons_of_mem _ hy)
      refine ⟨g1, ?_, g3⟩
      rw [List.getElem?_set_ne (fun z => nd.1 (by rw [z]; exact List.mem_map.mpr ⟨y, hy, rfl⟩))]
      exact g2) og'
    refine ⟨μ', c', ?_, fun y hy => ?_, fun j hj => ?_, by rw [a3, List.length_set]⟩
    · rw [List.map_cons, forI_nx1 og rfl (δ2 := [c0, c1, c2, c3, c4, c5, c6, c7, c8, c9, c10, some (.loc x.1)]) (μ2 := μ.set x.1 (some (.lst (x.2 ++ [.int 0])))) (by
        show sExpr (evBM isLst fApp (evV 11) (evCons (evC (.int 0)) evNil)) [c0, c1, c2, c3, c4, c5, c6, c7, c8, c9, c10, some (.loc x.1)] μ = _
        rw [sExpr_eq, evBM_eq, evV_11, bindG_ok, if_pos (isLst_l h2), evCons_eq, evC_eq, bindG_ok, evNil_eq, bindG_ok, bindG_ok, ap, okm_some, bindS_ok]), e]
    · rcases List.mem_cons.mp hy with rfl | hy
      · rw [a2 _ nd.1, List.getElem?_set_self xl]
      · exact a1 y hy
    · rw [List.map_cons, List.mem_cons, not_or] at hj
      rw [a2 j hj.2, List.getElem?_set_ne (fun z => hj.1 z.symm)]
theorem toPs_nd {x : P} : ∀ {ks : List Nat} {Rs : List (List P)} {μ : Mu}, ks.length = Rs.length → ks.Nodup → (∀ (i k : Nat) (R : List P), ks[i]? = some k → Rs[i]? = some R → μ[k]? = some (some (.lst R))) →
    ∃ ν, toPs μ (ks.map D.loc ++ [.p x]) = some (Rs.map .lst ++ [x], ν) ∧ ∀ j, j ∉ ks → ν[j]? = μ[j]?
  | [], [], μ, _, _, _ => ⟨μ, rfl, fun _ _ => rfl⟩
  | k :: ks, R :: Rs, μ, hl, nd, h => by
    have h0 := h 0 k R rfl rfl
    rw [List.nodup_cons] at nd
    obtain ⟨ν, e, g⟩ := toPs_nd (x := x) (μ := μ.set k none) (by simpa using hl) nd.2 (fun i k' R' h1 h2 => by
      rw [List.getElem?_set_ne (fun z => nd.1 (by rw [z]; exact List.mem_of_getElem? h1))]
      exact h (i + 1) k' R' (by simpa using h1) (by simpa using h2))
    refine ⟨ν, ?_, fun j hj => ?_⟩
    · show (match toP μ (.loc k) with
        | some (y, μ1) => match toPs μ1 (ks.map D.loc ++ [D.p x]) with
          | some (xs, μ2) => some (y :: xs, μ2)
          | none => none
        | none => none) = _
      have e0 : toP μ (.loc k) = some (.lst R, μ.set k none) := by
        show (cellL μ k).map _ = _
        rw [cellL_l h0]; rfl
      rw [e0]; dsimp only; rw [e]; rfl
    · rw [g j (fun z => hj (List.mem_cons_of_mem _ z)), List.getElem?_set_ne (fun z => hj (by rw [z]; exact List.mem_cons_self))]
theorem frz4 {l : Nat} {ks : List Nat} {Rs : List (List P)} {mm : MO} (hl : ks.length = Rs.length) (nd : ks.Nodup) (hk : ∀ k ∈ ks, k < l) (hm : μ[l]? = some (some mm)) (q : mm = .dl (ks.map D.loc ++ [.p (.int 0)]) ∨ (ks = [] ∧ mm = .lst [.int 0])) (hr : ∀ (i k : Nat) (R : List P), ks[i]? = some k → Rs[i]? = some R → μ[k]? = some (some (.lst R))) :
    ∃ ν, frzD μ (.loc l) = some (.lst (Rs.map .lst ++ [.int 0]), ν) := by
  rcases q with rfl | ⟨rfl, rfl⟩
  · obtain ⟨ν, e, g⟩ := toPs_nd (x := .int 0) hl nd hr
    refine ⟨ν.set l none, ?_⟩
    unfold frzD
    dsimp only
    rw [hm]
    dsimp only
    rw [e]
    dsimp only
    rw [gIf_pos (show okG ν (some (l, .dl (ks.map D.loc ++ [.p (.int 0)]))) from (g l (fun z => Nat.lt_irrefl _ (hk l z))).trans hm)]
  · have : Rs = [] := List.eq_nil_of_length_eq_zero (by rw [← hl]; rfl)
    subst this
    refine ⟨μ.set l none, ?_⟩
    unfold frzD
    dsimp only
    rw [hm]
    rfl
theorem app_end {l : Nat} {ks : List Nat} {m : MO} (h : μ[l]? = some (some m)) (q : m = .dl (ks.map .loc) ∨ (ks = [] ∧ m = .lst [])) (hl : ks.length ≤ 900) : ∃ mm, (mm = .dl (ks.map D.loc ++ [.p (.int 0)]) ∨ (ks = [] ∧ mm = .lst [.int 0])) ∧ isLd μ (.loc l) = true ∧ fAppE (.loc l) [.p (.int 0)] μ = some (.p .non, μ.set l (some mm)) := by
  rcases q with rfl | ⟨rfl, rfl⟩
  · have isd : isDl μ (.loc l) = true := by unfold isDl; dsimp only; rw [h]
    refine ⟨_, .inl rfl, by unfold isLd; rw [isd]; rfl, ?_⟩
    unfold fAppE
    rw [if_pos isd]
    unfold fAppD
    dsimp only
    rw [toP_p]
    dsimp only
    rw [h]
    dsimp only
    rw [if_pos (line_k (by rw [List.length_map]; omega))]
  · have isd : isDl μ (.loc l) = false := by unfold isDl; dsimp only; rw [h]
    refine ⟨_, .inr ⟨rfl, rfl⟩, by unfold isLd; rw [isLst_l h]; simp, ?_⟩
    unfold fAppE
    rw [isd, if_neg (by decide), fApp_l h (line_k (n := 0) (by decide))]
    rfl
theorem zip_get {ks : List Nat} {Rs : List (List P)} {x : Nat × List P} (h : x ∈ ks.zip Rs) : ∃ i : Nat, ks[i]? = some x.1 ∧ Rs[i]? = some x.2 := by
  obtain ⟨i, hi⟩ := List.mem_iff_getElem?.mp h
  exact ⟨i, List.getElem?_zip_eq_some.mp hi⟩
theorem zip_mem {ks : List Nat} {Rs : List (List P)} {i k : Nat} {R : List P} (h1 : ks[i]? = some k) (h2 : Rs[i]? = some R) : (k, R) ∈ ks.zip Rs :=
  List.mem_iff_getElem?.mpr ⟨i, List.getElem?_zip_eq_some.mpr ⟨h1, h2⟩⟩
theorem eqNil_q {rows : List (List Rat)} : fEqNil (.p (qsP rows)) (.p (.lst [])) μ = some (.p (.bl rows.isEmpty), μ) := by
  show some (D.p (.bl (rows.map qP).isEmpty), μ) = _
  cases rows <;> rfl
end
end Vs
namespace Vs
open PySem PySem.Spec PyProof.Rows L2
def top (i : Nat) : Stmt := PySem.Challenge.pw_traproom_k04_vertices.main.body.getD i (.Pass ⟨0, 0, 0, 0⟩)
abbrev s_Ratiou_initu : Stmt := inClass (top 6) 0
theorem sc_Ratiou_initu : FnScope ["self", "n", "d", "shared"] ["self", "n", "d"] (defScope s_Ratiou_initu) := ⟨rfl, rfl, rfl, by decide +kernel, rfl, by decide +kernel, by decide +kernel⟩
abbrev s_Ratiou_addu : Stmt := inClass (top 6) 1
theorem sc_Ratiou_addu : FnScope ["self", "other"] ["self", "other"] (defScope s_Ratiou_addu) := ⟨rfl, rfl, rfl, by decide +kernel, rfl, by decide +kernel, by decide +kernel⟩
abbrev s_Ratiou_subu : Stmt := inClass (top 6) 2
theorem sc_Ratiou_subu : FnScope ["self", "other"] ["self", "other"] (defScope s_Ratiou_subu) := ⟨rfl, rfl, rfl, by decide +kernel, rfl, by decide +kernel, by decide +kernel⟩
abbrev s_Ratiou_mulu : Stmt := inClass (top 6) 3
theorem sc_Ratiou_mulu : FnScope ["self", "other"] ["self", "other"] (defScope s_Ratiou_mulu) := ⟨rfl, rfl, rfl, by decide +kernel, rfl, by decide +kernel, by decide +kernel⟩
abbrev s_Ratiou_negu : Stmt := inClass (top 6) 4
theorem sc_Ratiou_negu : FnScope ["self"] ["self"] (defScope s_Ratiou_negu) := ⟨rfl, rfl, rfl, by decide +kernel, rfl, by decide +kernel, by decide +kernel⟩
abbrev s_Ratiou_equ : Stmt := inClass (top 6) 5
theorem sc_Ratiou_equ : FnScope ["self", "other"] ["self", "other"] (defScope s_Ratiou_equ) := ⟨rfl, rfl, rfl, by decide +kernel, rfl, by decide +kernel, by decide +kernel⟩
abbrev s__law_stream : Stmt := top 21
theorem sc__law_stream : FnScope ["script", "mixed", "cell"] ["script"] (defScope s__law_stream) := ⟨rfl, rfl, rfl, by decide +kernel, rfl, by decide +kernel, by decide +kernel⟩
abbrev s__law_divisor : Stmt := top 23
theorem sc__law_divisor : FnScope ["a", "b", "k"] ["a", "b"] (defScope s__law_divisor) := ⟨rfl, rfl, rfl, by decide +kernel, rfl, by decide +kernel, by decide +kernel⟩
abbrev s__law_q : Stmt := top 24
theorem sc__law_q : FnScope ["n", "d", "divisor"] ["n", "d"] (defScope s__law_q) := ⟨rfl, rfl, rfl, by decide +kernel, rfl, by decide +kernel, by decide +kernel⟩
abbrev s__law_draw : Stmt := top 22
theorem sc__law_draw : FnScope ["stream", "many", "value"] ["stream", "many"] (defScope s__law_draw) := ⟨rfl, rfl, rfl, by decide +kernel, rfl, by decide +kernel, by decide +kernel⟩
abbrev s__law_rnumber : Stmt := top 32
theorem sc__law_rnumber : FnScope ["stream"] ["stream"] (defScope s__law_rnumber) := ⟨rfl, rfl, rfl, by decide +kernel, rfl, by decide +kernel, by decide +kernel⟩
abbrev s__law_add : Stmt := top 25
theorem sc__law_add : FnScope ["a", "b"] ["a", "b"] (defScope s__law_add) := ⟨rfl, rfl, rfl, by decide +kernel, rfl, by decide +kernel, by decide +kernel⟩
abbrev s__law_unit : Stmt := top 39
theorem sc__law_unit : FnScope ["n", "k", "sign", "j"] ["n", "k", "sign"] (defScope s__law_unit) := ⟨rfl, rfl, rfl, by decide +kernel, rfl, by decide +kernel, by decide +kernel⟩
abbrev s__law_region : Stmt := top 40
theorem sc__law_region : FnScope ["stream", "n", "region", "k", "low", "high", "j"] ["stream", "n"] (defScope s__law_region) := ⟨rfl, rfl, rfl, by decide +kernel, rfl, by decide +kernel, by decide +kernel⟩
abbrev s__law_as : Stmt := top 30
theorem sc__law_as : FnScope ["a"] ["a"] (defScope s__law_as) := ⟨rfl, rfl, rfl, by decide +kernel, rfl, by decide +kernel, by decide +kernel⟩
abbrev s__law_form_as : Stmt := top 41
theorem sc__law_form_as : FnScope ["form", "a"] ["form"] (defScope s__law_form_as) := ⟨rfl, rfl, rfl, by decide +kernel, rfl, by decide +kernel, by decide +kernel⟩
abbrev s__law_region_as : Stmt := top 42
theorem sc__law_region_as : FnScope ["region", "form"] ["region"] (defScope s__law_region_as) := ⟨rfl, rfl, rfl, by decide +kernel, rfl, by decide +kernel, by decide +kernel⟩
abbrev s__law_picks : Stmt := top 36
theorem sc__law_picks : FnScope ["many", "size", "found", "k", "longer", "row", "j"] ["many", "size"] (defScope s__law_picks) := ⟨rfl, rfl, rfl, by decide +kernel, rfl, by decide +kernel, by decide +kernel⟩
abbrev s__law_rover : Stmt := top 28
theorem sc__law_rover : FnScope ["a", "b"] ["a", "b"] (defScope s__law_rover) := ⟨rfl, rfl, rfl, by decide +kernel, rfl, by decide +kernel, by decide +kernel⟩
abbrev s__law_sub : Stmt := top 26
theorem sc__law_sub : FnScope ["a", "b"] ["a", "b"] (defScope s__law_sub) := ⟨rfl, rfl, rfl, by decide +kernel, rfl, by decide +kernel, by decide +kernel⟩
abbrev s__law_mul : Stmt := top 27
theorem sc__law_mul : FnScope ["a", "b"] ["a", "b"] (defScope s__law_mul) := ⟨rfl, rfl, rfl, by decide +kernel, rfl, by decide +kernel, by decide +kernel⟩
abbrev s__law_without : Stmt := top 34
theorem sc__law_without : FnScope ["row", "one", "column", "factor", "k"] ["row", "one", "column"] (defScope s__law_without) := ⟨rfl, rfl, rfl, by decide +kernel, rfl, by decide +kernel, by decide +kernel⟩
abbrev s__law_reduced : Stmt := top 33
theorem sc__law_reduced : FnScope ["rows", "width", "left", "row", "done", "leads", "column", "picks", "k", "one", "part"] ["rows", "width"] (defScope s__law_reduced) := ⟨rfl, rfl, rfl, by decide +kernel, rfl, by decide +kernel, by decide +kernel⟩
abbrev s__law_solution : Stmt := top 35
theorem sc__law_solution : FnScope ["rows", "constants", "width", "done", "leads", "k", "row"] ["rows", "constants"] (defScope s__law_solution) := ⟨rfl, rfl, rfl, by decide +kernel, rfl, by decide +kernel, by decide +kernel⟩
abbrev s__law_value : Stmt := top 37
theorem sc__law_value : FnScope ["form", "point", "found", "k"] ["form", "point"] (defScope s__law_value) := ⟨rfl, rfl, rfl, by decide +kernel, rfl, by decide +kernel, by decide +kernel⟩
abbrev s__law_inside : Stmt := top 38
theorem sc__law_inside : FnScope ["region", "point", "form"] ["region", "point"] (defScope s__law_inside) := ⟨rfl, rfl, rfl, by decide +kernel, rfl, by decide +kernel, by decide +kernel⟩
abbrev s__law_rless : Stmt := top 29
theorem sc__law_rless : FnScope ["a", "b"] ["a", "b"] (defScope s__law_rless) := ⟨rfl, rfl, rfl, by decide +kernel, rfl, by decide +kernel, by decide +kernel⟩
abbrev s__law_before : Stmt := top 44
theorem sc__law_before : FnScope ["first", "second", "k"] ["first", "second"] (defScope s__law_before) := ⟨rfl, rfl, rfl, by decide +kernel, rfl, by decide +kernel, by decide +kernel⟩
abbrev s__law_corners : Stmt := top 45
theorem sc__law_corners : FnScope ["region", "n", "found", "names", "rows", "k", "point", "at", "one"] ["region", "n"] (defScope s__law_corners) := ⟨rfl, rfl, rfl, by decide +kernel, rfl, by decide +kernel, by decide +kernel⟩
abbrev s__whole : Stmt := top 13
theorem sc__whole : FnScope ["numbers", "scale", "number"] ["numbers"] (defScope s__whole) := ⟨rfl, rfl, rfl, by decide +kernel, rfl, by decide +kernel, by decide +kernel⟩
abbrev s__rows_of : Stmt := top 14
theorem sc__rows_of : FnScope ["region", "coefficients", "constant"] ["region"] (defScope s__rows_of) := ⟨rfl, rfl, rfl, by decide +kernel, rfl, by decide +kernel, by decide +kernel⟩
abbrev s__with_pivot : Stmt := top 18
theorem sc__with_pivot : FnScope ["rows", "column", "k"] ["rows", "column"] (defScope s__with_pivot) := ⟨rfl, rfl, rfl, by decide +kernel, rfl, by decide +kernel, by decide +kernel⟩
abbrev s__cleared : Stmt := top 19
theorem sc__cleared : FnScope ["row", "pivot", "column", "divisor", "head", "factor", "a", "b"] ["row", "pivot", "column", "divisor"] (defScope s__cleared) := ⟨rfl, rfl, rfl, by decide +kernel, rfl, by decide +kernel, by decide +kernel⟩
abbrev s__common_zero : Stmt := top 17
theorem sc__common_zero : FnScope ["rows", "n", "left", "bottom", "column", "pivot", "k", "row"] ["rows", "n"] (defScope s__common_zero) := ⟨rfl, rfl, rfl, by decide +kernel, rfl, by decide +kernel, by decide +kernel⟩
abbrev s__keeps : Stmt := top 16
theorem sc__keeps : FnScope ["rows", "place", "row", "a", "b"] ["rows", "place"] (defScope s__keeps) := ⟨rfl, rfl, rfl, by decide +kernel, rfl, by decide +kernel, by decide +kernel⟩
abbrev s_is_less : Stmt := top 7
theorem sc_is_less : FnScope ["a", "b"] ["a", "b"] (defScope s_is_less) := ⟨rfl, rfl, rfl, by decide +kernel, rfl, by decide +kernel, by decide +kernel⟩
abbrev s_is_beforeJ : Stmt := top 11
theorem sc_is_beforeJ : FnScope ["left", "right", "a", "b"] ["left", "right"] (defScope s_is_beforeJ) := ⟨rfl, rfl, rfl, by decide +kernel, rfl, by decide +kernel, by decide +kernel⟩
abbrev s__insertJ : Stmt := top 12
theorem sc__insertJ : FnScope ["points", "point", "low", "high", "middle"] ["points", "point"] (defScope s__insertJ) := ⟨rfl, rfl, rfl, by decide +kernel, rfl, by decide +kernel, by decide +kernel⟩
abbrev s__point_of : Stmt := top 15
theorem sc__point_of : FnScope ["place", "top"] ["place"] (defScope s__point_of) := ⟨rfl, rfl, rfl, by decide +kernel, rfl, by decide +kernel, by decide +kernel⟩
abbrev s_verticesJ : Stmt := top 9
theorem sc_verticesJ : FnScope ["region", "n", "rows", "found", "chosen", "place"] ["region", "n"] (defScope s_verticesJ) := ⟨rfl, rfl, rfl, by decide +kernel, rfl, by decide +kernel, by decide +kernel⟩
abbrev s__law_rpair : Stmt := top 31
theorem sc__law_rpair : FnScope ["got"] ["got"] (defScope s__law_rpair) := ⟨rfl, rfl, rfl, by decide +kernel, rfl, by decide +kernel, by decide +kernel⟩
abbrev s__law_point : Stmt := top 43
theorem sc__law_point : FnScope ["got", "part"] ["got"] (defScope s__law_point) := ⟨rfl, rfl, rfl, by decide +kernel, rfl, by decide +kernel, by decide +kernel⟩
abbrev s_is_empty : Stmt := top 10
theorem sc_is_empty : FnScope ["region", "n", "rows", "chosen", "place"] ["region", "n"] (defScope s_is_empty) := ⟨rfl, rfl, rfl, by decide +kernel, rfl, by decide +kernel, by decide +kernel⟩
abbrev s_law : Stmt := top 46
theorem sc_law : FnScope ["script", "stream", "n", "region", "k", "bounded", "big", "form", "value", "due", "actual", "point"] ["script"] (defScope s_law) := ⟨rfl, rfl, rfl, by decide +kernel, rfl, by decide +kernel, by decide +kernel⟩
section
variable {P : Program} {w : World} {K : PySem.W.Frag} {mg : Str → Option Value} {base : Heap} {cs : List Addr}
noncomputable def p_law_0 : SEv := (sSet 1 (evCall m__law_stream [] (evCons (evV 0) evNil)))
noncomputable def p_law_1 : SEv := (sSet 2 (evBin fIx (evLst (evCons (evC (.int 1)) (evCons (evC (.int 2)) (evCons (evC (.int 2)) (evCons (evC (.int 2)) (evCons (evC (.int 3)) (evCons (evC (.int 0)) evNil))))))) (evCall m__law_draw [] (evCons (evV 1) (evCons (evC (.int 6)) evNil)))))
noncomputable def p_law_2 : SEv := (sSet 3 (evCall m__law_region [] (evCons (evV 1) (evCons (evV 2) evNil))))
noncomputable def p_law_3 : SEv := (sIf (evB (evBin fEq (evV 2) (evC (.int 0)))) (sSet 3 (evLc (evRng1 (evCall m__law_draw [] (evCons (evV 1) (evCons (evC (.int 3)) evNil)))) (tgN 4) evTrue (evTup (evCons (evTup evNil) (evCons (evCall m__law_rnumber [] (evCons (evV 1) evNil)) evNil))) [4])) sNil)
noncomputable def p_law_4 : SEv := (sIf (tAndV' (evTruL (evV 3)) (evB (evBin fEq (evCall m__law_draw [] (evCons (evV 1) (evCons (evC (.int 5)) evNil))) (evC (.int 0))))) (sSet 3 (evBin fCatL (evV 3) (evSl (evV 3) evNoP (evPt (evC (.int 1)))))) sNil)
noncomputable def p_law_5 : SEv := (sSet 5 (evC (.bl true)))
noncomputable def p_law_6 : SEv := (sIf (tAndV' (evB (evBin fGt (evV 2) (evC (.int 0)))) (evB (evBin fEq (evCall m__law_draw [] (evCons (evV 1) (evCons (evC (.int 4)) evNil))) (evC (.int 0))))) (seqS (sSet 3 (evSl (evV 3) (evPt (evCall m__law_draw [] (evCons (evV 1) (evCons (evBin fAdd (evBin fMul (evC (.int 2)) (evV 2)) (evC (.int 1))) evNil)))) evNoP)) (sSet 5 (evC (.bl false)))) sNil)
noncomputable def p_law_7 : SEv := (sIf (evB (evBin fEq (evCall m__law_draw [] (evCons (evV 1) (evCons (evC (.int 8)) evNil))) (evC (.int 0)))) (seqS (sSet 6 (evTup (evCons (evBin fAdd (evBin fPow (evC (.int 10)) (evC (.int 40))) (evCall m__law_draw [] (evCons (evV 1) (evCons (evBin fPow (evC (.int 10)) (evC (.int 9))) evNil)))) (evCons (evBin fAdd (evC (.int 1)) (evCall m__law_draw [] (evCons (evV 1) (evCons (evC (.int 7)) evNil)))) evNil)))) (sSet 3 (evLc (evIt (evV 3)) (tgN 7) evTrue (evTup (evCons (evBin fIx (evV 7) (evC (.int 0))) (evCons (evCall m__law_mul [] (evCons (evBin fIx (evV 7) (evC (.int 1))) (evCons (evCall m__law_q [] (evCons (evBin fIx (evV 6) (evC (.int 0))) (evCons (evBin fIx (evV 6) (evC (.int 1))) evNil))) evNil))) evNil))) [7]))) sNil)
noncomputable def p_law_8 : SEv := (sSet 8 (evCall m__law_region_as [] (evCons (evV 3) evNil)))
noncomputable def p_law_9 : SEv := (sSet 9 (evCall m__law_corners [] (evCons (evV 3) (evCons (evV 2) evNil))))
noncomputable def p_law_10 : SEv := (sSet 10 (evCall m_verticesJ [] (evCons (evV 8) (evCons (evV 2) evNil))))
noncomputable def p_law_11 : SEv := (sIf (tOrV' (tNotV (evB (evIsiD (isiT 1 "list") (evV 10)))) (evB (evBin fNe (evLcI (evItL (evV 10)) (tgNI 11) evTrue (evCall m__law_point [] (evCons (evV 11) evNil)) [11]) (evV 9)))) (sRet (evC (.bl false))) sNil)
noncomputable def p_law_12 : SEv := (sIf (tAndV' (evB (evV 5)) (evB (evBin fNe (evBI fRepr (evCons (evCall m_is_empty [] (evCons (evV 8) (evCons (evV 2) evNil))) evNil)) (evBI fRepr (evCons (evBin fEqNil (evV 9) (evLst evNil)) evNil))))) (sRet (evC (.bl false))) sNil)
noncomputable def p_law_13 : SEv := (sForI (evItL (evV 10)) (tgNI 11) (sExpr (evBM isLst fApp (evV 11) (evCons (evC (.int 0)) evNil))))
noncomputable def p_law_14 : SEv := (sExpr (evBM isLd fAppE (evV 10) (evCons (evC (.int 0)) evNil)))
noncomputable def p_law_15 : SEv := (sIf (evB (evBin fNe (evLcI (evItL (evCall m_verticesJ [] (evCons (evV 8) (evCons (evV 2) evNil)))) (tgNI 11) evTrue (evCall m__law_point [] (evCons (evV 11) evNil)) [11]) (evV 9))) (sRet (evC (.bl false))) sNil)
noncomputable def p_law_16 : SEv := (seqS (sFrzS 10) (sRet (evAnd (evBin fEq (evBI fLen (evCons (evV 10) evNil)) (evBin fAdd (evBI fLen (evCons (evV 9) evNil)) (evC (.int 1)))) (evBI fAll (evCons (evLc (evIt (evSl (evV 10) evNoP (evPt (evUn fNeg (evC (.int 1)))))) (tgN 11) evTrue (evBin fEq (evBI fLen (evCons (evV 11) evNil)) (evBin fAdd (evV 2) (evC (.int 1)))) [11]) evNil)))))
noncomputable def t_law_16 : SEv := p_law_16
noncomputable def t_law_15 : SEv := seqS p_law_15 t_law_16
noncomputable def t_law_14 : SEv := seqS p_law_14 t_law_15
noncomputable def t_law_13 : SEv := seqS p_law_13 t_law_14
noncomputable def t_law_12 : SEv := seqS p_law_12 t_law_13
noncomputable def t_law_11 : SEv := seqS p_law_11 t_law_12
noncomputable def t_law_10 : SEv := seqS p_law_10 t_law_11
noncomputable def t_law_9 : SEv := seqS p_law_9 t_law_10
noncomputable def t_law_8 : SEv := seqS p_law_8 t_law_9
noncomputable def t_law_7 : SEv := seqS p_law_7 t_law_8
noncomputable def t_law_6 : SEv := seqS p_law_6 t_law_7
noncomputable def t_law_5 : SEv := seqS p_law_5 t_law_6
noncomputable def t_law_4 : SEv := seqS p_law_4 t_law_5
noncomputable def t_law_3 : SEv := seqS p_law_3 t_law_4
noncomputable def t_law_2 : SEv := seqS p_law_2 t_law_3
noncomputable def t_law_1 : SEv := seqS p_law_1 t_law_2
noncomputable def t_law_0 : SEv := seqS p_law_0 t_law_1
noncomputable def sv_law : SEv := t_law_0
noncomputable def m_law : FSem := arF 1 (bodySem 12 sv_law)
theorem le_law : ∀ ds μ r, m_law ds μ = some r → bodySem 12 sv_law ds μ = some r := arF_le
theorem fn_Ratiou_initu {f : Addr} {fd : FuncData} (T : TxC K mg cs) (F : FunD K "__init__" "Ratio.__init__" (defArgs s_Ratiou_initu) (defBody s_Ratiou_initu) (defScope s_Ratiou_initu) [.int 1] [] f fd)  : FnOk P w K mg base (L2.CX P w) 1 f fd ["self", "n", "d"] (spF (amb K cs) 3 m_Ratiou_initu) :=
  fn_le (fnVD F sc_Ratiou_initu fun cdv A outer s H E hr tk po =>
  (vs_cons (v_if (v_tcmp (o_eq hr.units rfl) (v_var 2) v_int) (vs_one (v_raise rfl tk (pmk_own PySem.F.excBase_ValueError T.x1 T.g1 T.k1 (raises_own T.p1 T.t1) rfl))) vs_nil)
    (vs_cons (v_set 3 sc_Ratiou_initu.nd (v_callBf c_gcd T.b_gcd (va_cons (v_var 1) (va_cons (v_var 2) va_nil))))
    (vs_cons (v_if (v_tcmp o_lt (v_var 2) v_int) (vs_one (v_set 3 sc_Ratiou_initu.nd (v_un o_neg (v_var 3)))) vs_nil)
    (vs_cons (v_fldS 0 0 T.own0 rfl rfl (v_var 0) (v_bin o_div (v_var 1) (v_var 3)))
    (vs_one (v_fldS 0 1 T.own0 rfl rfl (v_var 0) (v_bin o_div (v_var 2) (v_var 3))))))))) le_Ratiou_initu
theorem ok_Ratiou_addu (T : TxC K mg cs) (D : MethAt K ((amb K cs).cl 0) "__add__" "Ratio.__add__" s_Ratiou_addu) (h_Ratiou_initu : In P w K mg base (amb K cs) 1 0 3 [] m_Ratiou_initu) : Mt P w K mg base (amb K cs) 3 ((amb K cs).cl 0) "__add__" 2 m_Ratiou_addu := by
  obtain ⟨f, fd, hm, hi, F⟩ := D.ex
  exact ⟨⟨f, fd, ["self", "other"], hm, hi, F.kp, F.binds (ps := ["self", "other"]) fun _ _ _ _ _ _ us hl => match us, hl with | [_, _], _ => rfl, fn_le (fnV F sc_Ratiou_addu fun cdv A outer s H E hr tk po =>
  (vs_one (v_ret (Om.mk tk hr h_Ratiou_initu T.c0 (va_cons (v_bin o_add (v_bin o_mul (v_fld 0 0 T.own0 rfl rfl (v_var 0)) (v_fld 0 1 T.own0 rfl rfl (v_var 1))) (v_bin o_mul (v_fld 0 0 T.own0 rfl rfl (v_var 1)) (v_fld 0 1 T.own0 rfl rfl (v_var 0)))) (va_cons (v_bin o_mul (v_fld 0 1 T.own0 rfl rfl (v_var 0)) (v_fld 0 1 T.own0 rfl rfl (v_var 1))) va_nil)))))) le_Ratiou_addu⟩, ar_Ratiou_addu⟩
theorem ok_Ratiou_subu (T : TxC K mg cs) (D : MethAt K ((amb K cs).cl 0) "__sub__" "Ratio.__sub__" s_Ratiou_subu) (h_Ratiou_initu : In P w K mg base (amb K cs) 1 0 3 [] m_Ratiou_initu) : Mt P w K mg base (amb K cs) 3 ((amb K cs).cl 0) "__sub__" 2 m_Ratiou_subu := by
  obtain ⟨f, fd, hm, hi, F⟩ := D.ex
  exact ⟨⟨f, fd, ["self", "other"], hm, hi, F.kp, F.binds (ps := ["self", "other"]) fun _ _ _ _ _ _ us hl => match us, hl with | [_, _], _ => rfl, fn_le (fnV F sc_Ratiou_subu fun cdv A outer s H E hr tk po =>
  (vs_one (v_ret (Om.mk tk hr h_Ratiou_initu T.c0 (va_cons (v_bin o_sub (v_bin o_mul (v_fld 0 0 T.own0 rfl rfl (v_var 0)) (v_fld 0 1 T.own0 rfl rfl (v_var 1))) (v_bin o_mul (v_fld 0 0 T.own0 rfl rfl (v_var 1)) (v_fld 0 1 T.own0 rfl rfl (v_var 0)))) (va_cons (v_bin o_mul (v_fld 0 1 T.own0 rfl rfl (v_var 0)) (v_fld 0 1 T.own0 rfl rfl (v_var 1))) va_nil)))))) le_Ratiou_subu⟩, ar_Ratiou_subu⟩
theorem ok_Ratiou_mulu (T : TxC K mg cs) (D : MethAt K ((amb K cs).cl 0) "__mul__" "Ratio.__mul__" s_Ratiou_mulu) (h_Ratiou_initu : In P w K mg base (amb K cs) 1 0 3 [] m_Ratiou_initu) : Mt P w K mg base (amb K cs) 3 ((amb K cs).cl 0) "__mul__" 2 m_Ratiou_mulu := by
  obtain ⟨f, fd, hm, hi, F⟩ := D.ex
  exact ⟨⟨f, fd, ["self", "other"], hm, hi, F.kp, F.binds (ps := ["self", "other"]) fun _ _ _ _ _ _ us hl => match us, hl with | [_, _], _ => rfl, fn_le (fnV F sc_Ratiou_mulu fun cdv A outer s H E hr tk po =>
  (vs_one (v_ret (Om.mk tk hr h_Ratiou_initu T.c0 (va_cons (v_bin o_mul (v_fld 0 0 T.own0 rfl rfl (v_var 0)) (v_fld 0 0 T.own0 rfl rfl (v_var 1))) (va_cons (v_bin o_mul (v_fld 0 1 T.own0 rfl rfl (v_var 0)) (v_fld 0 1 T.own0 rfl rfl (v_var 1))) va_nil)))))) le_Ratiou_mulu⟩, ar_Ratiou_mulu⟩
theorem ok_Ratiou_negu (T : TxC K mg cs) (D : MethAt K ((amb K cs).cl 0) "__neg__" "Ratio.__neg__" s_Ratiou_negu) (h_Ratiou_initu : In P w K mg base (amb K cs) 1 0 3 [] m_Ratiou_initu) : Mt P w K mg base (amb K cs) 3 ((amb K cs).cl 0) "__neg__" 1 m_Ratiou_negu := by
  obtain ⟨f, fd, hm, hi, F⟩ := D.ex
  exact ⟨⟨f, fd, ["self"], hm, hi, F.kp, F.binds (ps := ["self"]) fun _ _ _ _ _ _ us hl => match us, hl with | [_], _ => rfl, fn_le (fnV F sc_Ratiou_negu fun cdv A outer s H E hr tk po =>
  (vs_one (v_ret (Om.mk tk hr h_Ratiou_initu T.c0 (va_cons (v_un o_neg (v_fld 0 0 T.own0 rfl rfl (v_var 0))) (va_cons (v_fld 0 1 T.own0 rfl rfl (v_var 0)) va_nil)))))) le_Ratiou_negu⟩, ar_Ratiou_negu⟩
theorem ok_Ratiou_equ (T : TxC K mg cs) (D : MethAt K ((amb K cs).cl 0) "__eq__" "Ratio.__eq__" s_Ratiou_equ)  : Mt P w K mg base (amb K cs) 1 ((amb K cs).cl 0) "__eq__" 2 m_Ratiou_equ := by
  obtain ⟨f, fd, hm, hi, F⟩ := D.ex
  exact ⟨⟨f, fd, ["self", "other"], hm, hi, F.kp, F.binds (ps := ["self", "other"]) fun _ _ _ _ _ _ us hl => match us, hl with | [_, _], _ => rfl, fn_le (fnV F sc_Ratiou_equ fun cdv A outer s H E hr tk po =>
  (vs_one (v_ret (v_and (v_isiV rfl T.b_isinstance (by decide +kernel) (v_var 1) (pe_glob (v := .ref _) (by rfl) T.c0 rfl) (.own _) (isiO_ok T.isi0)) (v_and (v_cmp (o_eq hr.units rfl) (v_fld 0 0 T.own0 rfl rfl (v_var 0)) (v_fld 0 0 T.own0 rfl rfl (v_var 1))) (v_one (v_cmp (o_eq hr.units rfl) (v_fld 0 1 T.own0 rfl rfl (v_var 0)) (v_fld 0 1 T.own0 rfl rfl (v_var 1))))))))) le_Ratiou_equ⟩, ar_Ratiou_equ⟩
theorem ok__law_stream (T : TxC K mg cs) (D : DefAt K mg "_law_stream" s__law_stream)  : Fn P w K mg base (amb K cs) 1 "_law_stream" 1 m__law_stream := by
  obtain ⟨f, fd, hm, F⟩ := D.ex
  exact ⟨⟨f, fd, ["script"], hm, F.kp, F.binds (ps := ["script"]) fun _ _ _ _ _ _ us hl => match us, hl with | [_], _ => rfl, fn_le (fnVC F sc__law_stream fun cdv A outer s H E hr tk po =>
  (vs_cons (v_set 1 sc__law_stream.nd v_int)
    (vs_cons (v_for rfl po (vi_seq rfl (v_var 0)) (vg_name 2 sc__law_stream.nd) (vs_one (v_set 1 sc__law_stream.nd (v_bin o_mod (v_callTy c_int T.b_int (by decide +kernel) (va_cons (v_bin o_add (v_bin o_add (v_bin o_mul (v_var 1) v_int) (v_bin o_mod (v_callTy c_int T.b_int (by decide +kernel) (va_cons (v_var 2) va_nil)) v_int)) v_int) va_nil)) v_int))))
    (vs_one (v_ret (v_lstC (va_cons (v_callTy (c_list rfl) T.b_list (by decide +kernel) (va_cons (v_var 0) va_nil)) (va_cons v_int (va_cons v_int (va_cons (v_var 1) va_nil)))))))))) le__law_stream⟩, ar__law_stream⟩
theorem ok__law_divisor (T : TxC K mg cs) (D : DefAt K mg "_law_divisor" s__law_divisor)  : Fn P w K mg base (amb K cs) 1 "_law_divisor" 2 m__law_divisor := by
  obtain ⟨f, fd, hm, F⟩ := D.ex
  exact ⟨⟨f, fd, ["a", "b"], hm, F.kp, F.binds (ps := ["a", "b"]) fun _ _ _ _ _ _ us hl => match us, hl with | [_, _], _ => rfl, fn_le (fnV F sc__law_divisor fun cdv A outer s H E hr tk po =>
  (vs_cons (v_set 0 sc__law_divisor.nd (v_callB c_abs T.b_abs (by decide +kernel) (va_cons (v_var 0) va_nil)))
    (vs_cons (v_set 1 sc__law_divisor.nd (v_callB c_abs T.b_abs (by decide +kernel) (va_cons (v_var 1) va_nil)))
    (vs_cons (v_for rfl po (vi_rng1 T.b_range v_int) (vg_name 2 sc__law_divisor.nd) (vs_cons (v_if (v_tcmp (o_eq hr.units rfl) (v_var 1) v_int) (vs_one v_break) vs_nil)
    (vs_one (v_par rfl sc__law_divisor.nd (va_cons (v_var 1) (va_cons (v_bin o_mod (v_callTy c_int T.b_int (by decide +kernel) (va_cons (v_var 0) va_nil)) (v_var 1)) va_nil))))))
    (vs_one (v_ret (v_var 0))))))) le__law_divisor⟩, ar__law_divisor⟩
theorem ok__law_q (T : TxC K mg cs) (D : DefAt K mg "_law_q" s__law_q) (h__law_divisor : Fn P w K mg base (amb K cs) 1 "_law_divisor" 2 m__law_divisor) : Fn P w K mg base (amb K cs) 2 "_law_q" 2 m__law_q := by
  obtain ⟨f, fd, hm, F⟩ := D.ex
  exact ⟨⟨f, fd, ["n", "d"], hm, F.kp, F.binds (ps := ["n", "d"]) fun _ _ _ _ _ _ us hl => match us, hl with | [_, _], _ => rfl, fn_le (fnV F sc__law_q fun cdv A outer s H E hr tk po =>
  (vs_cons (v_if (v_tcmp o_lt (v_var 1) v_int) (vs_cons (v_set 0 sc__law_q.nd (v_un o_neg (v_var 0)))
    (vs_one (v_set 1 sc__law_q.nd (v_un o_neg (v_var 1))))) vs_nil)
    (vs_cons (v_set 2 sc__law_q.nd (Om.call tk hr h__law_divisor (va_cons (v_var 0) (va_cons (v_var 1) va_nil))))
    (vs_one (v_ret (v_tup (va_cons (v_bin o_div (v_var 0) (v_var 2)) (va_cons (v_bin o_div (v_var 1) (v_var 2)) va_nil)))))))) le__law_q⟩, ar__law_q⟩
theorem ok__law_draw (T : TxC K mg cs) (D : DefAt K mg "_law_draw" s__law_draw)  : Fn P w K mg base (amb K cs) 1 "_law_draw" 2 m__law_draw := by
  obtain ⟨f, fd, hm, F⟩ := D.ex
  exact ⟨⟨f, fd, ["stream", "many"], hm, F.kp, F.binds (ps := ["stream", "many"]) fun _ _ _ _ _ _ us hl => match us, hl with | [_, _], _ => rfl, fn_le (fnV F sc__law_draw fun cdv A outer s H E hr tk po =>
  (vs_cons (v_if (PW.pt (v_tand (v_tcmp (o_eq hr.units rfl) (v_ix (o_ix rfl) (v_var 0) v_int) v_int) (v_and1 (v_tcmp o_lt (v_ix (o_ix rfl) (v_var 0) v_int) (v_callB (c_len rfl) T.b_len (by decide +kernel) (va_cons (v_ix (o_ix rfl) (v_var 0) v_int) va_nil)))))) (vs_cons (v_setIx (v_var 0) v_int (v_callB c_abs T.b_abs (by decide +kernel) (va_cons (v_callTy c_int T.b_int (by decide +kernel) (va_cons (v_ix (o_ix rfl) (v_ix (o_ix rfl) (v_var 0) v_int) (v_ix (o_ix rfl) (v_var 0) v_int)) va_nil)) va_nil)))
    (vs_one (v_setIx (v_var 0) v_int (v_bin o_add (v_ix (o_ix rfl) (v_var 0) v_int) v_int)))) vs_nil)
    (vs_cons (v_if (v_tcmp (o_eq hr.units rfl) (v_ix (o_ix rfl) (v_var 0) v_int) v_int) (vs_cons (v_setIx (v_var 0) v_int (v_bin o_mod (v_callTy c_int T.b_int (by decide +kernel) (va_cons (v_bin o_add (v_bin o_mul (v_ix (o_ix rfl) (v_var 0) v_int) v_int) v_int) va_nil)) v_int))
    (vs_one (v_ret (v_bin o_mod (v_callTy c_int T.b_int (by decide +kernel) (va_cons (v_bin o_div (v_ix (o_ix rfl) (v_var 0) v_int) v_int) va_nil)) (v_var 1))))) vs_nil)
    (vs_cons (v_set 2 sc__law_draw.nd (v_bin o_mod (v_callTy c_int T.b_int (by decide +kernel) (va_cons (v_ix (o_ix rfl) (v_var 0) v_int) va_nil)) (v_var 1)))
    (vs_cons (v_setIx (v_var 0) v_int (v_bin o_div (v_ix (o_ix rfl) (v_var 0) v_int) (v_var 1)))
    (vs_one (v_ret (v_var 2)))))))) le__law_draw⟩, ar__law_draw⟩
theorem ok__law_rnumber (T : TxC K mg cs) (D : DefAt K mg "_law_number" s__law_rnumber) (h__law_draw : Fn P w K mg base (amb K cs) 1 "_law_draw" 2 m__law_draw) (h__law_q : Fn P w K mg base (amb K cs) 2 "_law_q" 2 m__law_q) : Fn P w K mg base (amb K cs) 3 "_law_number" 1 m__law_rnumber := by
  obtain ⟨f, fd, hm, F⟩ := D.ex
  exact ⟨⟨f, fd, ["stream"], hm, F.kp, F.binds (ps := ["stream"]) fun _ _ _ _ _ _ us hl => match us, hl with | [_], _ => rfl, fn_le (fnV F sc__law_rnumber fun cdv A outer s H E hr tk po =>
  (vs_cons (v_if (v_tcmp (o_eq hr.units rfl) (Om.call tk (hr.mono (by decide)) h__law_draw (va_cons (v_var 0) (va_cons v_int va_nil))) v_int) (vs_one (v_ret (v_tup (va_cons (v_bin o_sub (Om.call tk (hr.mono (by decide)) h__law_draw (va_cons (v_var 0) (va_cons v_int va_nil))) v_int) (va_cons v_int va_nil))))) vs_nil)
    (vs_one (v_ret (Om.call tk hr h__law_q (va_cons (v_bin o_sub (Om.call tk (hr.mono (by decide)) h__law_draw (va_cons (v_var 0) (va_cons v_int va_nil))) v_int) (va_cons (v_bin o_add v_int (Om.call tk (hr.mono (by decide)) h__law_draw (va_cons (v_var 0) (va_cons v_int va_nil)))) va_nil))))))) le__law_rnumber⟩, ar__law_rnumber⟩
theorem ok__law_add (T : TxC K mg cs) (D : DefAt K mg "_law_add" s__law_add) (h__law_q : Fn P w K mg base (amb K cs) 2 "_law_q" 2 m__law_q) : Fn P w K mg base (amb K cs) 3 "_law_add" 2 m__law_add := by
  obtain ⟨f, fd, hm, F⟩ := D.ex
  exact ⟨⟨f, fd, ["a", "b"], hm, F.kp, F.binds (ps := ["a", "b"]) fun _ _ _ _ _ _ us hl => match us, hl with | [_, _], _ => rfl, fn_le (fnV F sc__law_add fun cdv A outer s H E hr tk po =>
  (vs_one (v_ret (Om.call tk hr h__law_q (va_cons (v_bin o_add (v_bin o_mul (v_ix (o_ix rfl) (v_var 0) v_int) (v_ix (o_ix rfl) (v_var 1) v_int)) (v_bin o_mul (v_ix (o_ix rfl) (v_var 1) v_int) (v_ix (o_ix rfl) (v_var 0) v_int))) (va_cons (v_bin o_mul (v_ix (o_ix rfl) (v_var 0) v_int) (v_ix (o_ix rfl) (v_var 1) v_int)) va_nil)))))) le__law_add⟩, ar__law_add⟩
theorem ok__law_unit (T : TxC K mg cs) (D : DefAt K mg "_law_unit" s__law_unit)  : Fn P w K mg base (amb K cs) 1 "_law_unit" 3 m__law_unit := by
  obtain ⟨f, fd, hm, F⟩ := D.ex
  exact ⟨⟨f, fd, ["n", "k", "sign"], hm, F.kp, F.binds (ps := ["n", "k", "sign"]) fun _ _ _ _ _ _ us hl => match us, hl with | [_, _, _], _ => rfl, fn_le (fnV F sc__law_unit fun cdv A outer s H E hr tk po =>
  (vs_one (v_ret (v_callTy (c_tupOf rfl) T.b_tuple (by decide +kernel) (va_cons (v_lc rfl sc__law_unit.nd (vi_rng1 T.b_range (v_var 0)) (blkOk_by (own := [("j", 3)]) rfl) (gs_name (by decide)) (fun _ _ _ _ _ => (pg_name (i := 3) sc__law_unit.nd rfl (by first | exact Or.inl rfl | exact Or.inr rfl))) (fun _ _ _ _ _ => vpts_nil) (fun _ _ _ _ _ => (v_tup (va_cons (v_bin o_mul (v_var 2) (v_callTy c_int T.b_int (by decide +kernel) (va_cons (v_cmp (o_eq hr.units rfl) (v_var 3) (v_var 1)) va_nil))) (va_cons v_int va_nil))))) va_nil))))) le__law_unit⟩, ar__law_unit⟩
theorem ok__law_region (T : TxC K mg cs) (D : DefAt K mg "_law_region" s__law_region) (h__law_rnumber : Fn P w K mg base (amb K cs) 3 "_law_number" 1 m__law_rnumber) (h__law_draw : Fn P w K mg base (amb K cs) 1 "_law_draw" 2 m__law_draw) (h__law_add : Fn P w K mg base (amb K cs) 3 "_law_add" 2 m__law_add) (h__law_unit : Fn P w K mg base (amb K cs) 1 "_law_unit" 3 m__law_unit) : Fn P w K mg base (amb K cs) 4 "_law_region" 2 m__law_region := by
  obtain ⟨f, fd, hm, F⟩ := D.ex
  exact ⟨⟨f, fd, ["stream", "n"], hm, F.kp, F.binds (ps := ["stream", "n"]) fun _ _ _ _ _ _ us hl => match us, hl with | [_, _], _ => rfl, fn_le (fnV F sc__law_region fun cdv A outer s H E hr tk po =>
  (vs_cons (v_set 2 sc__law_region.nd (v_lstC va_nil))
    (vs_cons (v_for rfl po (vi_rng1 T.b_range (v_var 1)) (vg_name 3 sc__law_region.nd) (vs_cons (v_set 4 sc__law_region.nd (Om.call tk hr h__law_rnumber (va_cons (v_var 0) va_nil)))
    (vs_cons (v_set 5 sc__law_region.nd (Om.call tk hr h__law_add (va_cons (v_var 4) (va_cons (v_tup (va_cons (v_bin o_sub (Om.call tk (hr.mono (by decide)) h__law_draw (va_cons (v_var 0) (va_cons v_int va_nil))) (v_callTy c_int T.b_int (by decide +kernel) (va_cons (v_cmp (o_eq hr.units rfl) (Om.call tk (hr.mono (by decide)) h__law_draw (va_cons (v_var 0) (va_cons v_int va_nil))) v_int) va_nil))) (va_cons (v_bin o_add v_int (Om.call tk (hr.mono (by decide)) h__law_draw (va_cons (v_var 0) (va_cons v_int va_nil)))) va_nil))) va_nil))))
    (vs_cons (v_expr (v_bm PySem.F.plainAttrs_list PySem.F.slot_list_append PySem.F.type_list_append m_append ty_lst (v_var 2) (va_cons (v_tup (va_cons (Om.call tk (hr.mono (by decide)) h__law_unit (va_cons (v_var 1) (va_cons (v_var 3) (va_cons v_int va_nil)))) (va_cons (v_tup (va_cons (v_un o_neg (v_ix (o_ix rfl) (v_var 4) v_int)) (va_cons (v_ix (o_ix rfl) (v_var 4) v_int) va_nil))) va_nil))) va_nil)))
    (vs_one (v_expr (v_bm PySem.F.plainAttrs_list PySem.F.slot_list_append PySem.F.type_list_append m_append ty_lst (v_var 2) (va_cons (v_tup (va_cons (Om.call tk (hr.mono (by decide)) h__law_unit (va_cons (v_var 1) (va_cons (v_var 3) (va_cons (v_un o_neg v_int) va_nil)))) (va_cons (v_var 5) va_nil))) va_nil))))))))
    (vs_cons (v_for rfl po (vi_rng1 T.b_range (Om.call tk (hr.mono (by decide)) h__law_draw (va_cons (v_var 0) (va_cons v_int va_nil)))) (vg_name 3 sc__law_region.nd) (vs_one (v_expr (v_bm PySem.F.plainAttrs_list PySem.F.slot_list_append PySem.F.type_list_append m_append ty_lst (v_var 2) (va_cons (v_tup (va_cons (v_callTy (c_tupOf rfl) T.b_tuple (by decide +kernel) (va_cons (v_lc rfl sc__law_region.nd (vi_rng1 T.b_range (v_var 1)) (blkOk_by (own := [("j", 6)]) rfl) (gs_name (by decide)) (fun _ _ _ _ _ => (pg_name (i := 6) sc__law_region.nd rfl (by first | exact Or.inl rfl | exact Or.inr rfl))) (fun _ _ _ _ _ => vpts_nil) (fun _ _ _ _ _ => (v_tup (va_cons (v_bin o_sub (Om.call takes0 (hr.mono (by decide)) h__law_draw (va_cons (v_var 0) (va_cons v_int va_nil))) v_int) (va_cons v_int va_nil))))) va_nil)) (va_cons (Om.call tk hr h__law_rnumber (va_cons (v_var 0) va_nil)) va_nil))) va_nil)))))
    (vs_cons (v_if (v_tcmp (o_eq hr.units rfl) (Om.call tk (hr.mono (by decide)) h__law_draw (va_cons (v_var 0) (va_cons v_int va_nil))) v_int) (vs_one (v_set 2 sc__law_region.nd (v_revL rfl (v_var 2)))) vs_nil)
    (vs_one (v_ret (v_var 2)))))))) le__law_region⟩, ar__law_region⟩
theorem ok__law_as (T : TxC K mg cs) (D : DefAt K mg "_law_as" s__law_as) (h_Ratiou_initu : In P w K mg base (amb K cs) 1 0 3 [] m_Ratiou_initu) : Fn P w K mg base (amb K cs) 3 "_law_as" 1 m__law_as := by
  obtain ⟨f, fd, hm, F⟩ := D.ex
  exact ⟨⟨f, fd, ["a"], hm, F.kp, F.binds (ps := ["a"]) fun _ _ _ _ _ _ us hl => match us, hl with | [_], _ => rfl, fn_le (fnV F sc__law_as fun cdv A outer s H E hr tk po =>
  (vs_one (v_ret (Om.mk tk hr h_Ratiou_initu T.c0 (va_cons (v_ix (o_ix rfl) (v_var 0) v_int) (va_cons (v_ix (o_ix rfl) (v_var 0) v_int) va_nil)))))) le__law_as⟩, ar__law_as⟩
theorem ok__law_form_as (T : TxC K mg cs) (D : DefAt K mg "_law_form_as" s__law_form_as) (h__law_as : Fn P w K mg base (amb K cs) 3 "_law_as" 1 m__law_as) : Fn P w K mg base (amb K cs) 4 "_law_form_as" 1 m__law_form_as := by
  obtain ⟨f, fd, hm, F⟩ := D.ex
  exact ⟨⟨f, fd, ["form"], hm, F.kp, F.binds (ps := ["form"]) fun _ _ _ _ _ _ us hl => match us, hl with | [_], _ => rfl, fn_le (fnV F sc__law_form_as fun cdv A outer s H E hr tk po =>
  (vs_one (v_ret (v_tup (va_cons (v_callTy (c_tupOf rfl) T.b_tuple (by decide +kernel) (va_cons (v_lc rfl sc__law_form_as.nd (vi_seq rfl (v_ix (o_ix rfl) (v_var 0) v_int)) (blkOk_by (own := [("a", 1)]) rfl) (gs_name (by decide)) (fun _ _ _ _ _ => (pg_name (i := 1) sc__law_form_as.nd rfl (by first | exact Or.inl rfl | exact Or.inr rfl))) (fun _ _ _ _ _ => vpts_nil) (fun _ _ _ _ _ => (Om.call takes0 hr h__law_as (va_cons (v_var 1) va_nil)))) va_nil)) (va_cons (Om.call tk hr h__law_as (va_cons (v_ix (o_ix rfl) (v_var 0) v_int) va_nil)) va_nil)))))) le__law_form_as⟩, ar__law_form_as⟩
theorem ok__law_region_as (T : TxC K mg cs) (D : DefAt K mg "_law_region_as" s__law_region_as) (h__law_form_as : Fn P w K mg base (amb K cs) 4 "_law_form_as" 1 m__law_form_as) : Fn P w K mg base (amb K cs) 5 "_law_region_as" 1 m__law_region_as := by
  obtain ⟨f, fd, hm, F⟩ := D.ex
  exact ⟨⟨f, fd, ["region"], hm, F.kp, F.binds (ps := ["region"]) fun _ _ _ _ _ _ us hl => match us, hl with | [_], _ => rfl, fn_le (fnV F sc__law_region_as fun cdv A outer s H E hr tk po =>
  (vs_one (v_ret (v_callTy (c_tupOf rfl) T.b_tuple (by decide +kernel) (va_cons (v_lc rfl sc__law_region_as.nd (vi_seq rfl (v_var 0)) (blkOk_by (own := [("form", 1)]) rfl) (gs_name (by decide)) (fun _ _ _ _ _ => (pg_name (i := 1) sc__law_region_as.nd rfl (by first | exact Or.inl rfl | exact Or.inr rfl))) (fun _ _ _ _ _ => vpts_nil) (fun _ _ _ _ _ => (Om.call takes0 hr h__law_form_as (va_cons (v_var 1) va_nil)))) va_nil))))) le__law_region_as⟩, ar__law_region_as⟩
theorem ok__law_picks (T : TxC K mg cs) (D : DefAt K mg "_law_picks" s__law_picks)  : Fn P w K mg base (amb K cs) 1 "_law_picks" 2 m__law_picks := by
  obtain ⟨f, fd, hm, F⟩ := D.ex
  exact ⟨⟨f, fd, ["many", "size"], hm, F.kp, F.binds (ps := ["many", "size"]) fun _ _ _ _ _ _ us hl => match us, hl with | [_, _], _ => rfl, fn_le (fnV F sc__law_picks fun cdv A outer s H E hr tk po =>
  (vs_cons (v_set 2 sc__law_picks.nd (v_lst (va_cons (v_tup va_nil) va_nil)))
    (vs_cons (v_for rfl po (vi_rng1 T.b_range (v_var 1)) (vg_name 3 sc__law_picks.nd) (vs_cons (v_set 4 sc__law_picks.nd (v_lst va_nil))
    (vs_cons (v_for rfl po (vi_seq rfl (v_var 2)) (vg_name 5 sc__law_picks.nd) (vs_one (v_set 4 sc__law_picks.nd (v_bin o_catL (v_var 4) (v_lc rfl sc__law_picks.nd (vi_rng2 T.b_range (v_bin o_add (v_ix (o_ix rfl) (v_bin o_catL (v_lst (va_cons (v_un o_neg v_int) va_nil)) (v_callTy (c_list rfl) T.b_list (by decide +kernel) (va_cons (v_var 5) va_nil))) (v_un o_neg v_int)) v_int) (v_var 0)) (blkOk_by (own := [("j", 6)]) rfl) (gs_name (by decide)) (fun _ _ _ _ _ => (pg_name (i := 6) sc__law_picks.nd rfl (by first | exact Or.inl rfl | exact Or.inr rfl))) (fun _ _ _ _ _ => vpts_nil) (fun _ _ _ _ _ => (v_bin (o_catT rfl) (v_var 5) (v_tup (va_cons (v_var 6) va_nil)))))))))
    (vs_one (v_set 2 sc__law_picks.nd (v_var 4))))))
    (vs_one (v_ret (v_var 2)))))) le__law_picks⟩, ar__law_picks⟩
theorem ok__law_rover (T : TxC K mg cs) (D : DefAt K mg "_law_over" s__law_rover) (h__law_q : Fn P w K mg base (amb K cs) 2 "_law_q" 2 m__law_q) : Fn P w K mg base (amb K cs) 3 "_law_over" 2 m__law_rover := by
  obtain ⟨f, fd, hm, F⟩ := D.ex
  exact ⟨⟨f, fd, ["a", "b"], hm, F.kp, F.binds (ps := ["a", "b"]) fun _ _ _ _ _ _ us hl => match us, hl with | [_, _], _ => rfl, fn_le (fnV F sc__law_rover fun cdv A outer s H E hr tk po =>
  (vs_one (v_ret (Om.call tk hr h__law_q (va_cons (v_bin o_mul (v_ix (o_ix rfl) (v_var 0) v_int) (v_ix (o_ix rfl) (v_var 1) v_int)) (va_cons (v_bin o_mul (v_ix (o_ix rfl) (v_var 0) v_int) (v_ix (o_ix rfl) (v_var 1) v_int)) va_nil)))))) le__law_rover⟩, ar__law_rover⟩
theorem ok__law_sub (T : TxC K mg cs) (D : DefAt K mg "_law_sub" s__law_sub) (h__law_q : Fn P w K mg base (amb K cs) 2 "_law_q" 2 m__law_q) : Fn P w K mg base (amb K cs) 3 "_law_sub" 2 m__law_sub := by
  obtain ⟨f, fd, hm, F⟩ := D.ex
  exact ⟨⟨f, fd, ["a", "b"], hm, F.kp, F.binds (ps := ["a", "b"]) fun _ _ _ _ _ _ us hl => match us, hl with | [_, _], _ => rfl, fn_le (fnV F sc__law_sub fun cdv A outer s H E hr tk po =>
  (vs_one (v_ret (Om.call tk hr h__law_q (va_cons (v_bin o_sub (v_bin o_mul (v_ix (o_ix rfl) (v_var 0) v_int) (v_ix (o_ix rfl) (v_var 1) v_int)) (v_bin o_mul (v_ix (o_ix rfl) (v_var 1) v_int) (v_ix (o_ix rfl) (v_var 0) v_int))) (va_cons (v_bin o_mul (v_ix (o_ix rfl) (v_var 0) v_int) (v_ix (o_ix rfl) (v_var 1) v_int)) va_nil)))))) le__law_sub⟩, ar__law_sub⟩
theorem ok__law_mul (T : TxC K mg cs) (D : DefAt K mg "_law_mul" s__law_mul) (h__law_q : Fn P w K mg base (amb K cs) 2 "_law_q" 2 m__law_q) : Fn P w K mg base (amb K cs) 3 "_law_mul" 2 m__law_mul := by
  obtain ⟨f, fd, hm, F⟩ := D.ex
  exact ⟨⟨f, fd, ["a", "b"], hm, F.kp, F.binds (ps := ["a", "b"]) fun _ _ _ _ _ _ us hl => match us, hl with | [_, _], _ => rfl, fn_le (fnV F sc__law_mul fun cdv A outer s H E hr tk po =>
  (vs_one (v_ret (Om.call tk hr h__law_q (va_cons (v_bin o_mul (v_ix (o_ix rfl) (v_var 0) v_int) (v_ix (o_ix rfl) (v_var 1) v_int)) (va_cons (v_bin o_mul (v_ix (o_ix rfl) (v_var 0) v_int) (v_ix (o_ix rfl) (v_var 1) v_int)) va_nil)))))) le__law_mul⟩, ar__law_mul⟩
theorem ok__law_without (T : TxC K mg cs) (D : DefAt K mg "_law_without" s__law_without) (h__law_mul : Fn P w K mg base (amb K cs) 3 "_law_mul" 2 m__law_mul) (h__law_sub : Fn P w K mg base (amb K cs) 3 "_law_sub" 2 m__law_sub) : Fn P w K mg base (amb K cs) 4 "_law_without" 3 m__law_without := by
  obtain ⟨f, fd, hm, F⟩ := D.ex
  exact ⟨⟨f, fd, ["row", "one", "column"], hm, F.kp, F.binds (ps := ["row", "one", "column"]) fun _ _ _ _ _ _ us hl => match us, hl with | [_, _, _], _ => rfl, fn_le (fnV F sc__law_without fun cdv A outer s H E hr tk po =>
  (vs_cons (v_set 3 sc__law_without.nd (v_ix (o_ix rfl) (v_var 0) (v_var 2)))
    (vs_cons (v_if (v_tcmp (o_eq hr.units rfl) (v_ix (o_ix rfl) (v_var 3) v_int) v_int) (vs_one (v_ret (v_var 0))) vs_nil)
    (vs_one (v_ret (v_lc rfl sc__law_without.nd (vi_rng1 T.b_range (v_callB (c_len rfl) T.b_len (by decide +kernel) (va_cons (v_var 0) va_nil))) (blkOk_by (own := [("k", 4)]) rfl) (gs_name (by decide)) (fun _ _ _ _ _ => (pg_name (i := 4) sc__law_without.nd rfl (by first | exact Or.inl rfl | exact Or.inr rfl))) (fun _ _ _ _ _ => vpts_nil) (fun _ _ _ _ _ => (Om.call takes0 hr h__law_sub (va_cons (v_ix (o_ix rfl) (v_var 0) (v_var 4)) (va_cons (Om.call takes0 hr h__law_mul (va_cons (v_var 3) (va_cons (v_ix (o_ix rfl) (v_var 1) (v_var 4)) va_nil))) va_nil)))))))))) le__law_without⟩, ar__law_without⟩
theorem ok__law_reduced (T : TxC K mg cs) (D : DefAt K mg "_law_reduced" s__law_reduced) (h__law_rover : Fn P w K mg base (amb K cs) 3 "_law_over" 2 m__law_rover) (h__law_without : Fn P w K mg base (amb K cs) 4 "_law_without" 3 m__law_without) : Fn P w K mg base (amb K cs) 5 "_law_reduced" 2 m__law_reduced := by
  obtain ⟨f, fd, hm, F⟩ := D.ex
  exact ⟨⟨f, fd, ["rows", "width"], hm, F.kp, F.binds (ps := ["rows", "width"]) fun _ _ _ _ _ _ us hl => match us, hl with | [_, _], _ => rfl, fn_le (fnV F sc__law_reduced fun cdv A outer s H E hr tk po =>
  (vs_cons (by first | exact (v_setLc (i := 2) rfl sc__law_reduced.nd rfl rfl rfl (vi_seq rfl (v_var 0)) (blkOk_by (own := [("row", 3)]) rfl) (gs_name (by decide)) (fun _ _ _ _ _ => (pg_name (i := 3) sc__law_reduced.nd rfl (by first | exact Or.inl rfl | exact Or.inr rfl))) (fun _ _ _ _ _ => vpts_nil) (fun _ _ _ _ _ => (v_callTy (c_list rfl) T.b_list (by decide +kernel) (va_cons (v_var 3) va_nil)))) | exact (v_set 2 sc__law_reduced.nd (v_lc rfl sc__law_reduced.nd (vi_seq rfl (v_var 0)) (blkOk_by (own := [("row", 3)]) rfl) (gs_name (by decide)) (fun _ _ _ _ _ => (pg_name (i := 3) sc__law_reduced.nd rfl (by first | exact Or.inl rfl | exact Or.inr rfl))) (fun _ _ _ _ _ => vpts_nil) (fun _ _ _ _ _ => (v_callTy (c_list rfl) T.b_list (by decide +kernel) (va_cons (v_var 3) va_nil))))))
    (vs_cons (v_set 4 sc__law_reduced.nd (v_lst va_nil))
    (vs_cons (v_set 5 sc__law_reduced.nd (v_lstC va_nil))
    (vs_cons (v_for rfl po (vi_rng1 T.b_range (v_var 1)) (vg_name 6 sc__law_reduced.nd) (vs_cons (by first | exact (v_setLc (i := 7) rfl sc__law_reduced.nd rfl rfl rfl (vi_rng1 T.b_range (v_callB (c_len rfl) T.b_len (by decide +kernel) (va_cons (v_var 2) va_nil))) (blkOk_by (own := [("k", 8)]) rfl) (gs_name (by decide)) (fun _ _ _ _ _ => (pg_name (i := 8) sc__law_reduced.nd rfl (by first | exact Or.inl rfl | exact Or.inr rfl))) (fun _ _ _ _ _ => vpts_one (v_tcmp (o_ne hr.units rfl) (v_ix (o_ix rfl) (v_ix (o_ix rfl) (v_ix (o_ix rfl) (v_var 2) (v_var 8)) (v_var 6)) v_int) v_int)) (fun _ _ _ _ _ => (v_var 8))) | exact (v_set 7 sc__law_reduced.nd (v_lc rfl sc__law_reduced.nd (vi_rng1 T.b_range (v_callB (c_len rfl) T.b_len (by decide +kernel) (va_cons (v_var 2) va_nil))) (blkOk_by (own := [("k", 8)]) rfl) (gs_name (by decide)) (fun _ _ _ _ _ => (pg_name (i := 8) sc__law_reduced.nd rfl (by first | exact Or.inl rfl | exact Or.inr rfl))) (fun _ _ _ _ _ => vpts_one (v_tcmp (o_ne hr.units rfl) (v_ix (o_ix rfl) (v_ix (o_ix rfl) (v_ix (o_ix rfl) (v_var 2) (v_var 8)) (v_var 6)) v_int) v_int)) (fun _ _ _ _ _ => (v_var 8)))))
    (vs_one (v_if (v_truL rfl (v_var 7)) (vs_cons (v_set 9 sc__law_reduced.nd (v_ix (o_ix rfl) (v_var 2) (v_ix (o_ix rfl) (v_var 7) v_int)))
    (vs_cons (by first | exact (v_setLc (i := 2) rfl sc__law_reduced.nd rfl rfl rfl (vi_rng1 T.b_range (v_callB (c_len rfl) T.b_len (by decide +kernel) (va_cons (v_var 2) va_nil))) (blkOk_by (own := [("k", 8)]) rfl) (gs_name (by decide)) (fun _ _ _ _ _ => (pg_name (i := 8) sc__law_reduced.nd rfl (by first | exact Or.inl rfl | exact Or.inr rfl))) (fun _ _ _ _ _ => vpts_one (v_tcmp (o_ne hr.units rfl) (v_var 8) (v_ix (o_ix rfl) (v_var 7) v_int))) (fun _ _ _ _ _ => (v_ix (o_ix rfl) (v_var 2) (v_var 8)))) | exact (v_set 2 sc__law_reduced.nd (v_lc rfl sc__law_reduced.nd (vi_rng1 T.b_range (v_callB (c_len rfl) T.b_len (by decide +kernel) (va_cons (v_var 2) va_nil))) (blkOk_by (own := [("k", 8)]) rfl) (gs_name (by decide)) (fun _ _ _ _ _ => (pg_name (i := 8) sc__law_reduced.nd rfl (by first | exact Or.inl rfl | exact Or.inr rfl))) (fun _ _ _ _ _ => vpts_one (v_tcmp (o_ne hr.units rfl) (v_var 8) (v_ix (o_ix rfl) (v_var 7) v_int))) (fun _ _ _ _ _ => (v_ix (o_ix rfl) (v_var 2) (v_var 8))))))
    (vs_cons (by first | exact (v_setLc (i := 9) rfl sc__law_reduced.nd rfl rfl rfl (vi_seq rfl (v_var 9)) (blkOk_by (own := [("part", 10)]) rfl) (gs_name (by decide)) (fun _ _ _ _ _ => (pg_name (i := 10) sc__law_reduced.nd rfl (by first | exact Or.inl rfl | exact Or.inr rfl))) (fun _ _ _ _ _ => vpts_nil) (fun _ _ _ _ _ => (Om.call takes0 (hr.mono (by decide)) h__law_rover (va_cons (v_var 10) (va_cons (v_ix (o_ix rfl) (v_var 9) (v_var 6)) va_nil))))) | exact (v_set 9 sc__law_reduced.nd (v_lc rfl sc__law_reduced.nd (vi_seq rfl (v_var 9)) (blkOk_by (own := [("part", 10)]) rfl) (gs_name (by decide)) (fun _ _ _ _ _ => (pg_name (i := 10) sc__law_reduced.nd rfl (by first | exact Or.inl rfl | exact Or.inr rfl))) (fun _ _ _ _ _ => vpts_nil) (fun _ _ _ _ _ => (Om.call takes0 (hr.mono (by decide)) h__law_rover (va_cons (v_var 10) (va_cons (v_ix (o_ix rfl) (v_var 9) (v_var 6)) va_nil)))))))
    (vs_cons (by first | exact (v_setLc (i := 2) rfl sc__law_reduced.nd rfl rfl rfl (vi_seq rfl (v_var 2)) (blkOk_by (own := [("row", 3)]) rfl) (gs_name (by decide)) (fun _ _ _ _ _ => (pg_name (i := 3) sc__law_reduced.nd rfl (by first | exact Or.inl rfl | exact Or.inr rfl))) (fun _ _ _ _ _ => vpts_nil) (fun _ _ _ _ _ => (Om.call takes0 hr h__law_without (va_cons (v_var 3) (va_cons (v_var 9) (va_cons (v_var 6) va_nil)))))) | exact (v_set 2 sc__law_reduced.nd (v_lc rfl sc__law_reduced.nd (vi_seq rfl (v_var 2)) (blkOk_by (own := [("row", 3)]) rfl) (gs_name (by decide)) (fun _ _ _ _ _ => (pg_name (i := 3) sc__law_reduced.nd rfl (by first | exact Or.inl rfl | exact Or.inr rfl))) (fun _ _ _ _ _ => vpts_nil) (fun _ _ _ _ _ => (Om.call takes0 hr h__law_without (va_cons (v_var 3) (va_cons (v_var 9) (va_cons (v_var 6) va_nil))))))))
    (vs_cons (v_set 4 sc__law_reduced.nd (v_bin o_catL (v_lc rfl sc__law_reduced.nd (vi_seq rfl (v_var 4)) (blkOk_by (own := [("row", 3)]) rfl) (gs_name (by decide)) (fun _ _ _ _ _ => (pg_name (i := 3) sc__law_reduced.nd rfl (by first | exact Or.inl rfl | exact Or.inr rfl))) (fun _ _ _ _ _ => vpts_nil) (fun _ _ _ _ _ => (Om.call takes0 hr h__law_without (va_cons (v_var 3) (va_cons (v_var 9) (va_cons (v_var 6) va_nil)))))) (v_lst (va_cons (v_var 9) va_nil))))
    (vs_one (v_expr (v_bm PySem.F.plainAttrs_list PySem.F.slot_list_append PySem.F.type_list_append m_append ty_lst (v_var 5) (va_cons (v_var 6) va_nil))))))))) vs_nil))))
    (vs_one (v_ret (v_tup (va_cons (v_var 4) (va_cons (v_var 5) va_nil)))))))))) le__law_reduced⟩, ar__law_reduced⟩
theorem ok__law_solution (T : TxC K mg cs) (D : DefAt K mg "_law_solution" s__law_solution) (h__law_reduced : Fn P w K mg base (amb K cs) 5 "_law_reduced" 2 m__law_reduced) : Fn P w K mg base (amb K cs) 6 "_law_solution" 2 m__law_solution := by
  obtain ⟨f, fd, hm, F⟩ := D.ex
  exact ⟨⟨f, fd, ["rows", "constants"], hm, F.kp, F.binds (ps := ["rows", "constants"]) fun _ _ _ _ _ _ us hl => match us, hl with | [_, _], _ => rfl, fn_le (fnV F sc__law_solution fun cdv A outer s H E hr tk po =>
  (vs_cons (v_set 2 sc__law_solution.nd (v_callB (c_len rfl) T.b_len (by decide +kernel) (va_cons (v_ix (o_ix rfl) (v_var 0) v_int) va_nil)))
    (vs_cons (v_asgT (vg_tup rfl rfl (vgs_cons 3 sc__law_solution.nd (vgs_cons 4 sc__law_solution.nd vgs_nil))) (Om.call tk hr h__law_reduced (va_cons (v_lc rfl sc__law_solution.nd (vi_rng1 T.b_range (v_callB (c_len rfl) T.b_len (by decide +kernel) (va_cons (v_var 0) va_nil))) (blkOk_by (own := [("k", 5)]) rfl) (gs_name (by decide)) (fun _ _ _ _ _ => (pg_name (i := 5) sc__law_solution.nd rfl (by first | exact Or.inl rfl | exact Or.inr rfl))) (fun _ _ _ _ _ => vpts_nil) (fun _ _ _ _ _ => (v_bin o_catL (v_ix (o_ix rfl) (v_var 0) (v_var 5)) (v_lst (va_cons (v_ix (o_ix rfl) (v_var 1) (v_var 5)) va_nil))))) (va_cons (v_bin o_add (v_var 2) v_int) va_nil))))
    (vs_cons (v_if (v_tcmp (o_ne hr.units rfl) (v_var 4) (v_lc rfl sc__law_solution.nd (vi_rng1 T.b_range (v_var 2)) (blkOk_by (own := [("k", 5)]) rfl) (gs_name (by decide)) (fun _ _ _ _ _ => (pg_name (i := 5) sc__law_solution.nd rfl (by first | exact Or.inl rfl | exact Or.inr rfl))) (fun _ _ _ _ _ => vpts_nil) (fun _ _ _ _ _ => (v_var 5)))) (vs_one (v_ret v_non)) vs_nil)
    (vs_one (v_ret (v_lc rfl sc__law_solution.nd (vi_seq rfl (v_var 3)) (blkOk_by (own := [("row", 6)]) rfl) (gs_name (by decide)) (fun _ _ _ _ _ => (pg_name (i := 6) sc__law_solution.nd rfl (by first | exact Or.inl rfl | exact Or.inr rfl))) (fun _ _ _ _ _ => vpts_nil) (fun _ _ _ _ _ => (v_ix (o_ix rfl) (v_var 6) (v_var 2)))))))))) le__law_solution⟩, ar__law_solution⟩
theorem ok__law_value (T : TxC K mg cs) (D : DefAt K mg "_law_value" s__law_value) (h__law_mul : Fn P w K mg base (amb K cs) 3 "_law_mul" 2 m__law_mul) (h__law_add : Fn P w K mg base (amb K cs) 3 "_law_add" 2 m__law_add) : Fn P w K mg base (amb K cs) 4 "_law_value" 2 m__law_value := by
  obtain ⟨f, fd, hm, F⟩ := D.ex
  exact ⟨⟨f, fd, ["form", "point"], hm, F.kp, F.binds (ps := ["form", "point"]) fun _ _ _ _ _ _ us hl => match us, hl with | [_, _], _ => rfl, fn_le (fnV F sc__law_value fun cdv A outer s H E hr tk po =>
  (vs_cons (v_set 2 sc__law_value.nd (v_ix (o_ix rfl) (v_var 0) v_int))
    (vs_cons (v_for rfl po (vi_rng1 T.b_range (v_callB (c_len rfl) T.b_len (by decide +kernel) (va_cons (v_var 1) va_nil))) (vg_name 3 sc__law_value.nd) (vs_one (v_set 2 sc__law_value.nd (Om.call tk hr h__law_add (va_cons (v_var 2) (va_cons (Om.call tk hr h__law_mul (va_cons (v_ix (o_ix rfl) (v_ix (o_ix rfl) (v_var 0) v_int) (v_var 3)) (va_cons (v_ix (o_ix rfl) (v_var 1) (v_var 3)) va_nil))) va_nil))))))
    (vs_one (v_ret (v_var 2)))))) le__law_value⟩, ar__law_value⟩
theorem ok__law_inside (T : TxC K mg cs) (D : DefAt K mg "_law_inside" s__law_inside) (h__law_value : Fn P w K mg base (amb K cs) 4 "_law_value" 2 m__law_value) : Fn P w K mg base (amb K cs) 5 "_law_inside" 2 m__law_inside := by
  obtain ⟨f, fd, hm, F⟩ := D.ex
  exact ⟨⟨f, fd, ["region", "point"], hm, F.kp, F.binds (ps := ["region", "point"]) fun _ _ _ _ _ _ us hl => match us, hl with | [_, _], _ => rfl, fn_le (fnV F sc__law_inside fun cdv A outer s H E hr tk po =>
  (vs_one (v_ret (v_callB (c_all rfl rfl) T.b_all (by decide +kernel) (va_cons (v_lc rfl sc__law_inside.nd (vi_seq rfl (v_var 0)) (blkOk_by (own := [("form", 2)]) rfl) (gs_name (by decide)) (fun _ _ _ _ _ => (pg_name (i := 2) sc__law_inside.nd rfl (by first | exact Or.inl rfl | exact Or.inr rfl))) (fun _ _ _ _ _ => vpts_nil) (fun _ _ _ _ _ => (v_cmp o_ge (v_ix (o_ix rfl) (Om.call takes0 hr h__law_value (va_cons (v_var 2) (va_cons (v_var 1) va_nil))) v_int) v_int))) va_nil))))) le__law_inside⟩, ar__law_inside⟩
theorem ok__law_rless (T : TxC K mg cs) (D : DefAt K mg "_law_less" s__law_rless)  : Fn P w K mg base (amb K cs) 1 "_law_less" 2 m__law_rless := by
  obtain ⟨f, fd, hm, F⟩ := D.ex
  exact ⟨⟨f, fd, ["a", "b"], hm, F.kp, F.binds (ps := ["a", "b"]) fun _ _ _ _ _ _ us hl => match us, hl with | [_, _], _ => rfl, fn_le (fnV F sc__law_rless fun cdv A outer s H E hr tk po =>
  (vs_one (v_ret (v_cmp o_lt (v_bin o_mul (v_ix (o_ix rfl) (v_var 0) v_int) (v_ix (o_ix rfl) (v_var 1) v_int)) (v_bin o_mul (v_ix (o_ix rfl) (v_var 1) v_int) (v_ix (o_ix rfl) (v_var 0) v_int)))))) le__law_rless⟩, ar__law_rless⟩
theorem ok__law_before (T : TxC K mg cs) (D : DefAt K mg "_law_before" s__law_before) (h__law_rless : Fn P w K mg base (amb K cs) 1 "_law_less" 2 m__law_rless) : Fn P w K mg base (amb K cs) 2 "_law_before" 2 m__law_before := by
  obtain ⟨f, fd, hm, F⟩ := D.ex
  exact ⟨⟨f, fd, ["first", "second"], hm, F.kp, F.binds (ps := ["first", "second"]) fun _ _ _ _ _ _ us hl => match us, hl with | [_, _], _ => rfl, fn_le (fnV F sc__law_before fun cdv A outer s H E hr tk po =>
  (vs_cons (v_for rfl po (vi_rng1 T.b_range (v_callB (c_len rfl) T.b_len (by decide +kernel) (va_cons (v_var 0) va_nil))) (vg_name 2 sc__law_before.nd) (vs_one (v_if (v_tcmp (o_ne hr.units rfl) (v_ix (o_ix rfl) (v_var 0) (v_var 2)) (v_ix (o_ix rfl) (v_var 1) (v_var 2))) (vs_one (v_ret (Om.call tk hr h__law_rless (va_cons (v_ix (o_ix rfl) (v_var 0) (v_var 2)) (va_cons (v_ix (o_ix rfl) (v_var 1) (v_var 2)) va_nil))))) vs_nil)))
    (vs_one (v_ret v_bl)))) le__law_before⟩, ar__law_before⟩
theorem ok__law_corners (T : TxC K mg cs) (D : DefAt K mg "_law_corners" s__law_corners) (h__law_inside : Fn P w K mg base (amb K cs) 5 "_law_inside" 2 m__law_inside) (h__law_picks : Fn P w K mg base (amb K cs) 1 "_law_picks" 2 m__law_picks) (h__law_solution : Fn P w K mg base (amb K cs) 6 "_law_solution" 2 m__law_solution) (h__law_before : Fn P w K mg base (amb K cs) 2 "_law_before" 2 m__law_before) : Fn P w K mg base (amb K cs) 7 "_law_corners" 2 m__law_corners := by
  obtain ⟨f, fd, hm, F⟩ := D.ex
  exact ⟨⟨f, fd, ["region", "n"], hm, F.kp, F.binds (ps := ["region", "n"]) fun _ _ _ _ _ _ us hl => match us, hl with | [_, _], _ => rfl, fn_le (fnV F sc__law_corners fun cdv A outer s H E hr tk po =>
  (vs_cons (v_if (v_tcmp (o_eq hr.units rfl) (v_var 1) v_int) (vs_one (v_ret (v_bin o_repL (v_lst (va_cons (v_lst va_nil) va_nil)) (v_callTy c_int T.b_int (by decide +kernel) (va_cons (Om.call tk (hr.mono (by decide)) h__law_inside (va_cons (v_var 0) (va_cons (v_lst va_nil) va_nil))) va_nil))))) vs_nil)
    (vs_cons (v_set 2 sc__law_corners.nd (v_lst va_nil))
    (vs_cons (v_for rfl po (vi_seq rfl (Om.call tk (hr.mono (by decide)) h__law_picks (va_cons (v_callB (c_len rfl) T.b_len (by decide +kernel) (va_cons (v_var 0) va_nil)) (va_cons (v_var 1) va_nil)))) (vg_name 3 sc__law_corners.nd) (vs_cons (by first | exact (v_setLc (i := 4) rfl sc__law_corners.nd rfl rfl rfl (vi_seq rfl (v_var 3)) (blkOk_by (own := [("k", 5)]) rfl) (gs_name (by decide)) (fun _ _ _ _ _ => (pg_name (i := 5) sc__law_corners.nd rfl (by first | exact Or.inl rfl | exact Or.inr rfl))) (fun _ _ _ _ _ => vpts_nil) (fun _ _ _ _ _ => (v_callTy (c_list rfl) T.b_list (by decide +kernel) (va_cons (v_ix (o_ix rfl) (v_ix (o_ix rfl) (v_var 0) (v_var 5)) v_int) va_nil)))) | exact (v_set 4 sc__law_corners.nd (v_lc rfl sc__law_corners.nd (vi_seq rfl (v_var 3)) (blkOk_by (own := [("k", 5)]) rfl) (gs_name (by decide)) (fun _ _ _ _ _ => (pg_name (i := 5) sc__law_corners.nd rfl (by first | exact Or.inl rfl | exact Or.inr rfl))) (fun _ _ _ _ _ => vpts_nil) (fun _ _ _ _ _ => (v_callTy (c_list rfl) T.b_list (by decide +kernel) (va_cons (v_ix (o_ix rfl) (v_ix (o_ix rfl) (v_var 0) (v_var 5)) v_int) va_nil))))))
    (vs_cons (v_set 6 sc__law_corners.nd (Om.call tk hr h__law_solution (va_cons (v_var 4) (va_cons (v_lc rfl sc__law_corners.nd (vi_seq rfl (v_var 3)) (blkOk_by (own := [("k", 5)]) rfl) (gs_name (by decide)) (fun _ _ _ _ _ => (pg_name (i := 5) sc__law_corners.nd rfl (by first | exact Or.inl rfl | exact Or.inr rfl))) (fun _ _ _ _ _ => vpts_nil) (fun _ _ _ _ _ => (v_tup (va_cons (v_un o_neg (v_ix (o_ix rfl) (v_ix (o_ix rfl) (v_ix (o_ix rfl) (v_var 0) (v_var 5)) v_int) v_int)) (va_cons (v_ix (o_ix rfl) (v_ix (o_ix rfl) (v_ix (o_ix rfl) (v_var 0) (v_var 5)) v_int) v_int) va_nil))))) va_nil))))
    (vs_one (v_if (PW.pt (v_tand (v_tcmp o_isnot (v_var 6) v_non) (v_tand (v_test (Om.call tk (hr.mono (by decide)) h__law_inside (va_cons (v_var 0) (va_cons (v_var 6) va_nil)))) (v_and1 (v_tcmp (o_notInD hr rfl) (v_var 6) (v_var 2)))))) (vs_cons (v_set 7 sc__law_corners.nd (v_callB (c_len rfl) T.b_len (by decide +kernel) (va_cons (v_lc rfl sc__law_corners.nd (vi_seq rfl (v_var 2)) (blkOk_by (own := [("one", 8)]) rfl) (gs_name (by decide)) (fun _ _ _ _ _ => (pg_name (i := 8) sc__law_corners.nd rfl (by first | exact Or.inl rfl | exact Or.inr rfl))) (fun _ _ _ _ _ => vpts_one (v_test (Om.call takes0 (hr.mono (by decide)) h__law_before (va_cons (v_var 8) (va_cons (v_var 6) va_nil))))) (fun _ _ _ _ _ => (v_var 8))) va_nil)))
    (vs_one (v_set 2 sc__law_corners.nd (v_bin o_catL (v_bin o_catL (v_slice rfl (v_var 2) v_noP (v_pt (v_var 7))) (v_lst (va_cons (v_var 6) va_nil))) (v_slice rfl (v_var 2) (v_pt (v_var 7)) v_noP))))) vs_nil)))))
    (vs_one (v_ret (v_var 2))))))) le__law_corners⟩, ar__law_corners⟩
theorem ok__whole (T : TxC K mg cs) (D : DefAt K mg "_whole" s__whole)  : Fn P w K mg base (amb K cs) 1 "_whole" 1 m__whole := by
  obtain ⟨f, fd, hm, F⟩ := D.ex
  exact ⟨⟨f, fd, ["numbers"], hm, F.kp, F.binds (ps := ["numbers"]) fun _ _ _ _ _ _ us hl => match us, hl with | [_], _ => rfl, fn_le (fnV F sc__whole fun cdv A outer s H E hr tk po =>
  (vs_cons (v_set 1 sc__whole.nd v_int)
    (vs_cons (v_for rfl po (vi_seq rfl (v_var 0)) (vg_name 2 sc__whole.nd) (vs_one (v_set 1 sc__whole.nd (v_callBf c_lcm T.b_lcm (va_cons (v_var 1) (va_cons (v_fld 0 1 T.own0 rfl rfl (v_var 2)) va_nil))))))
    (vs_one (v_ret (v_lc rfl sc__whole.nd (vi_seq rfl (v_var 0)) (blkOk_by (own := [("number", 2)]) rfl) (gs_name (by decide)) (fun _ _ _ _ _ => (pg_name (i := 2) sc__whole.nd rfl (by first | exact Or.inl rfl | exact Or.inr rfl))) (fun _ _ _ _ _ => vpts_nil) (fun _ _ _ _ _ => (v_bin o_mul (v_fld 0 0 T.own0 rfl rfl (v_var 2)) (v_bin o_div (v_var 1) (v_fld 0 1 T.own0 rfl rfl (v_var 2))))))))))) le__whole⟩, ar__whole⟩
theorem ok__rows_of (T : TxC K mg cs) (D : DefAt K mg "_rows_of" s__rows_of) (h__whole : Fn P w K mg base (amb K cs) 1 "_whole" 1 m__whole) : Fn P w K mg base (amb K cs) 2 "_rows_of" 1 m__rows_of := by
  obtain ⟨f, fd, hm, F⟩ := D.ex
  exact ⟨⟨f, fd, ["region"], hm, F.kp, F.binds (ps := ["region"]) fun _ _ _ _ _ _ us hl => match us, hl with | [_], _ => rfl, fn_le (fnV F sc__rows_of fun cdv A outer s H E hr tk po =>
  (vs_one (v_ret (v_lc rfl sc__rows_of.nd (vi_seq rfl (v_var 0)) (blkOk_by (own := [("coefficients", 1), ("constant", 2)]) rfl) (gs_tup (is := [1, 2]) (n := 2) rfl (by decide)) (fun _ _ _ _ _ => pg_tup rfl (pgs_cons (pg_name (i := 1) sc__rows_of.nd rfl (by first | exact Or.inl rfl | exact Or.inr rfl)) (pgs_cons (pg_name (i := 2) sc__rows_of.nd rfl (by first | exact Or.inl rfl | exact Or.inr rfl)) pgs_nil))) (fun _ _ _ _ _ => vpts_nil) (fun _ _ _ _ _ => (Om.call takes0 hr h__whole (va_cons (v_lst (v_star rfl (v_var 1) (va_cons (v_var 2) va_nil))) va_nil))))))) le__rows_of⟩, ar__rows_of⟩
theorem ok__with_pivot (T : TxC K mg cs) (D : DefAt K mg "_with_pivot" s__with_pivot)  : Fn P w K mg base (amb K cs) 1 "_with_pivot" 2 m__with_pivot := by
  obtain ⟨f, fd, hm, F⟩ := D.ex
  exact ⟨⟨f, fd, ["rows", "column"], hm, F.kp, F.binds (ps := ["rows", "column"]) fun _ _ _ _ _ _ us hl => match us, hl with | [_, _], _ => rfl, fn_le (fnV F sc__with_pivot fun cdv A outer s H E hr tk po =>
  (vs_cons (v_for rfl po (vi_rng2 T.b_range (v_var 1) (v_callB (c_len rfl) T.b_len (by decide +kernel) (va_cons (v_var 0) va_nil))) (vg_name 2 sc__with_pivot.nd) (vs_one (v_if (v_tcmp (o_ne hr.units rfl) (v_ix (o_ix rfl) (v_ix (o_ix rfl) (v_var 0) (v_var 2)) (v_var 1)) v_int) (vs_one (v_ret (v_bin o_catL (v_bin o_catL (v_bin o_catL (v_slice rfl (v_var 0) v_noP (v_pt (v_var 1))) (v_lst (va_cons (v_ix (o_ix rfl) (v_var 0) (v_var 2)) va_nil))) (v_slice rfl (v_var 0) (v_pt (v_var 1)) (v_pt (v_var 2)))) (v_slice rfl (v_var 0) (v_pt (v_bin o_add (v_var 2) v_int)) v_noP)))) vs_nil)))
    (vs_one (v_ret v_non)))) le__with_pivot⟩, ar__with_pivot⟩
theorem ok__cleared (T : TxC K mg cs) (D : DefAt K mg "_cleared" s__cleared)  : Fn P w K mg base (amb K cs) 1 "_cleared" 4 m__cleared := by
  obtain ⟨f, fd, hm, F⟩ := D.ex
  exact ⟨⟨f, fd, ["row", "pivot", "column", "divisor"], hm, F.kp, F.binds (ps := ["row", "pivot", "column", "divisor"]) fun _ _ _ _ _ _ us hl => match us, hl with | [_, _, _, _], _ => rfl, fn_le (fnV F sc__cleared fun cdv A outer s H E hr tk po =>
  (vs_cons (v_set 4 sc__cleared.nd (v_ix (o_ix rfl) (v_var 1) (v_var 2)))
    (vs_cons (v_set 5 sc__cleared.nd (v_ix (o_ix rfl) (v_var 0) (v_var 2)))
    (vs_one (v_ret (v_lc rfl sc__cleared.nd (vi_zip rfl T.b_zip (va_cons (v_var 0) (va_cons (v_var 1) va_nil))) (blkOk_by (own := [("a", 6), ("b", 7)]) rfl) (gs_tup (is := [6, 7]) (n := 2) rfl (by decide)) (fun _ _ _ _ _ => pg_tup rfl (pgs_cons (pg_name (i := 6) sc__cleared.nd rfl (by first | exact Or.inl rfl | exact Or.inr rfl)) (pgs_cons (pg_name (i := 7) sc__cleared.nd rfl (by first | exact Or.inl rfl | exact Or.inr rfl)) pgs_nil))) (fun _ _ _ _ _ => vpts_nil) (fun _ _ _ _ _ => (v_bin o_div (v_bin o_sub (v_bin o_mul (v_var 4) (v_var 6)) (v_bin o_mul (v_var 5) (v_var 7))) (v_var 3))))))))) le__cleared⟩, ar__cleared⟩
theorem ok__common_zero (T : TxC K mg cs) (D : DefAt K mg "_common_zero" s__common_zero) (h__with_pivot : Fn P w K mg base (amb K cs) 1 "_with_pivot" 2 m__with_pivot) (h__cleared : Fn P w K mg base (amb K cs) 1 "_cleared" 4 m__cleared) : Fn P w K mg base (amb K cs) 2 "_common_zero" 2 m__common_zero := by
  obtain ⟨f, fd, hm, F⟩ := D.ex
  exact ⟨⟨f, fd, ["rows", "n"], hm, F.kp, F.binds (ps := ["rows", "n"]) fun _ _ _ _ _ _ us hl => match us, hl with | [_, _], _ => rfl, fn_le (fnV F sc__common_zero fun cdv A outer s H E hr tk po =>
  (vs_cons (v_set 2 sc__common_zero.nd (v_callTy (c_list rfl) T.b_list (by decide +kernel) (va_cons (v_var 0) va_nil)))
    (vs_cons (v_set 3 sc__common_zero.nd v_int)
    (vs_cons (v_for rfl po (vi_rng1 T.b_range (v_var 1)) (vg_name 4 sc__common_zero.nd) (vs_cons (v_set 2 sc__common_zero.nd (Om.call tk hr h__with_pivot (va_cons (v_var 2) (va_cons (v_var 4) va_nil))))
    (vs_cons (v_if (v_tcmp o_is (v_var 2) v_non) (vs_one (v_ret v_non)) vs_nil)
    (vs_cons (v_set 5 sc__common_zero.nd (v_ix (o_ix rfl) (v_var 2) (v_var 4)))
    (vs_cons (by first | exact (v_setLc (i := 2) rfl sc__common_zero.nd rfl rfl rfl (vi_enum rfl T.b_enumerate (va_cons (v_var 2) va_nil)) (blkOk_by (own := [("k", 6), ("row", 7)]) rfl) (gs_tup (is := [6, 7]) (n := 2) rfl (by decide)) (fun _ _ _ _ _ => pg_tup rfl (pgs_cons (pg_name (i := 6) sc__common_zero.nd rfl (by first | exact Or.inl rfl | exact Or.inr rfl)) (pgs_cons (pg_name (i := 7) sc__common_zero.nd rfl (by first | exact Or.inl rfl | exact Or.inr rfl)) pgs_nil))) (fun _ _ _ _ _ => vpts_nil) (fun _ _ _ _ _ => (v_ifExp (v_tcmp (o_eq hr.units rfl) (v_var 6) (v_var 4)) (v_var 7) (Om.call takes0 hr h__cleared (va_cons (v_var 7) (va_cons (v_var 5) (va_cons (v_var 4) (va_cons (v_var 3) va_nil)))))))) | exact (v_set 2 sc__common_zero.nd (v_lc rfl sc__common_zero.nd (vi_enum rfl T.b_enumerate (va_cons (v_var 2) va_nil)) (blkOk_by (own := [("k", 6), ("row", 7)]) rfl) (gs_tup (is := [6, 7]) (n := 2) rfl (by decide)) (fun _ _ _ _ _ => pg_tup rfl (pgs_cons (pg_name (i := 6) sc__common_zero.nd rfl (by first | exact Or.inl rfl | exact Or.inr rfl)) (pgs_cons (pg_name (i := 7) sc__common_zero.nd rfl (by first | exact Or.inl rfl | exact Or.inr rfl)) pgs_nil))) (fun _ _ _ _ _ => vpts_nil) (fun _ _ _ _ _ => (v_ifExp (v_tcmp (o_eq hr.units rfl) (v_var 6) (v_var 4)) (v_var 7) (Om.call takes0 hr h__cleared (va_cons (v_var 7) (va_cons (v_var 5) (va_cons (v_var 4) (va_cons (v_var 3) va_nil))))))))))
    (vs_one (v_set 3 sc__common_zero.nd (v_ix (o_ix rfl) (v_var 5) (v_var 4)))))))))
    (vs_cons (v_if (v_test (v_callB (c_any rfl rfl) T.b_any (by decide +kernel) (va_cons (v_lc rfl sc__common_zero.nd (vi_seq rfl (v_slice rfl (v_var 2) (v_pt (v_var 1)) v_noP)) (blkOk_by (own := [("row", 7)]) rfl) (gs_name (by decide)) (fun _ _ _ _ _ => (pg_name (i := 7) sc__common_zero.nd rfl (by first | exact Or.inl rfl | exact Or.inr rfl))) (fun _ _ _ _ _ => vpts_nil) (fun _ _ _ _ _ => (v_cmp (o_ne hr.units rfl) (v_ix (o_ix rfl) (v_var 7) (v_var 1)) v_int))) va_nil))) (vs_one (v_ret v_non)) vs_nil)
    (vs_cons (v_if (v_tcmp o_lt (v_var 3) v_int) (vs_one (v_ret (v_bin o_catL (v_lc rfl sc__common_zero.nd (vi_seq rfl (v_slice rfl (v_var 2) v_noP (v_pt (v_var 1)))) (blkOk_by (own := [("row", 7)]) rfl) (gs_name (by decide)) (fun _ _ _ _ _ => (pg_name (i := 7) sc__common_zero.nd rfl (by first | exact Or.inl rfl | exact Or.inr rfl))) (fun _ _ _ _ _ => vpts_nil) (fun _ _ _ _ _ => (v_ix (o_ix rfl) (v_var 7) (v_var 1)))) (v_lst (va_cons (v_un o_neg (v_var 3)) va_nil))))) vs_nil)
    (vs_one (v_ret (v_bin o_catL (v_lc rfl sc__common_zero.nd (vi_seq rfl (v_slice rfl (v_var 2) v_noP (v_pt (v_var 1)))) (blkOk_by (own := [("row", 7)]) rfl) (gs_name (by decide)) (fun _ _ _ _ _ => (pg_name (i := 7) sc__common_zero.nd rfl (by first | exact Or.inl rfl | exact Or.inr rfl))) (fun _ _ _ _ _ => vpts_nil) (fun _ _ _ _ _ => (v_un o_neg (v_ix (o_ix rfl) (v_var 7) (v_var 1))))) (v_lst (va_cons (v_var 3) va_nil))))))))))) le__common_zero⟩, ar__common_zero⟩
theorem ok__keeps (T : TxC K mg cs) (D : DefAt K mg "_keeps" s__keeps)  : Fn P w K mg base (amb K cs) 1 "_keeps" 2 m__keeps := by
  obtain ⟨f, fd, hm, F⟩ := D.ex
  exact ⟨⟨f, fd, ["rows", "place"], hm, F.kp, F.binds (ps := ["rows", "place"]) fun _ _ _ _ _ _ us hl => match us, hl with | [_, _], _ => rfl, fn_le (fnV F sc__keeps fun cdv A outer s H E hr tk po =>
  (vs_cons (v_for rfl po (vi_seq rfl (v_var 0)) (vg_name 2 sc__keeps.nd) (vs_one (v_if (v_tcmp o_lt (v_callB (c_sum rfl rfl) T.b_sum (by decide +kernel) (va_cons (v_lc rfl sc__keeps.nd (vi_zip rfl T.b_zip (va_cons (v_var 2) (va_cons (v_var 1) va_nil))) (blkOk_by (own := [("a", 3), ("b", 4)]) rfl) (gs_tup (is := [3, 4]) (n := 2) rfl (by decide)) (fun _ _ _ _ _ => pg_tup rfl (pgs_cons (pg_name (i := 3) sc__keeps.nd rfl (by first | exact Or.inl rfl | exact Or.inr rfl)) (pgs_cons (pg_name (i := 4) sc__keeps.nd rfl (by first | exact Or.inl rfl | exact Or.inr rfl)) pgs_nil))) (fun _ _ _ _ _ => vpts_nil) (fun _ _ _ _ _ => (v_bin o_mul (v_var 3) (v_var 4)))) va_nil)) v_int) (vs_one (v_ret v_bl)) vs_nil)))
    (vs_one (v_ret v_bl)))) le__keeps⟩, ar__keeps⟩
theorem ok_is_less (T : TxC K mg cs) (D : DefAt K mg "is_less" s_is_less)  : Fn P w K mg base (amb K cs) 1 "is_less" 2 m_is_less := by
  obtain ⟨f, fd, hm, F⟩ := D.ex
  exact ⟨⟨f, fd, ["a", "b"], hm, F.kp, F.binds (ps := ["a", "b"]) fun _ _ _ _ _ _ us hl => match us, hl with | [_, _], _ => rfl, fn_le (fnV F sc_is_less fun cdv A outer s H E hr tk po =>
  (vs_one (v_ret (v_cmp o_lt (v_bin o_mul (v_fld 0 0 T.own0 rfl rfl (v_var 0)) (v_fld 0 1 T.own0 rfl rfl (v_var 1))) (v_bin o_mul (v_fld 0 0 T.own0 rfl rfl (v_var 1)) (v_fld 0 1 T.own0 rfl rfl (v_var 0))))))) le_is_less⟩, ar_is_less⟩
theorem ok_is_beforeJ (T : TxC K mg cs) (D : DefAt K mg "is_before" s_is_beforeJ) (h_Ratiou_equ : Mt P w K mg base (amb K cs) 1 ((amb K cs).cl 0) "__eq__" 2 m_Ratiou_equ) (h_is_less : Fn P w K mg base (amb K cs) 1 "is_less" 2 m_is_less) : Fn P w K mg base (amb K cs) 3 "is_before" 2 m_is_beforeJ := by
  obtain ⟨f, fd, hm, F⟩ := D.ex
  exact ⟨⟨f, fd, ["left", "right"], hm, F.kp, F.binds (ps := ["left", "right"]) fun _ _ _ _ _ _ us hl => match us, hl with | [_, _], _ => rfl, fn_le (fnV F sc_is_beforeJ fun cdv A outer s H E hr tk po =>
  (vs_cons (v_forJ rfl po (vij_zip rfl T.b_zip (va_cons (v_var 0) (va_cons (v_var 1) va_nil))) (vgi_two 2 3 rfl rfl sc_is_beforeJ.nd) (vs_one (v_if (v_tcmp (Om.ne tk hr rfl h_Ratiou_equ T.nf0 T.ne0) (v_var 2) (v_var 3)) (vs_one (v_ret (Om.call tk (hr.mono (by decide)) h_is_less (va_cons (v_var 2) (va_cons (v_var 3) va_nil))))) vs_nil)))
    (vs_one (v_ret v_bl)))) le_is_beforeJ⟩, ar_is_beforeJ⟩
theorem ok__insertJ (T : TxC K mg cs) (D : DefAt K mg "_insert" s__insertJ) (h_is_beforeJ : Fn P w K mg base (amb K cs) 3 "is_before" 2 m_is_beforeJ) (h_Ratiou_equ : Mt P w K mg base (amb K cs) 1 ((amb K cs).cl 0) "__eq__" 2 m_Ratiou_equ) : Fn P w K mg base (amb K cs) 4 "_insert" 2 m__insertJ := by
  obtain ⟨f, fd, hm, F⟩ := D.ex
  exact ⟨⟨f, fd, ["points", "point"], hm, F.kp, F.binds (ps := ["points", "point"]) fun _ _ _ _ _ _ us hl => match us, hl with | [_, _], _ => rfl, fn_le (fnV F sc__insertJ fun cdv A outer s H E hr tk po =>
  (vs_cons (v_set 2 sc__insertJ.nd v_int)
    (vs_cons (v_set 3 sc__insertJ.nd (v_callB (c_lenD rfl) T.b_len (by decide +kernel) (va_cons (v_var 0) va_nil)))
    (vs_cons (v_while 1000000 po (v_tcmp o_lt (v_var 2) (v_var 3)) (vs_cons (v_set 4 sc__insertJ.nd (v_bin o_div (v_bin o_add (v_var 2) (v_var 3)) v_int))
    (vs_one (v_if (v_test (Om.call tk hr h_is_beforeJ (va_cons (v_ix (o_ixD rfl) (v_var 0) (v_var 4)) (va_cons (v_var 1) va_nil)))) (vs_one (v_set 2 sc__insertJ.nd (v_bin o_add (v_var 4) v_int))) (vs_one (v_set 3 sc__insertJ.nd (v_var 4)))))))
    (vs_one (v_if (PW.pt (v_tor (v_tcmp (o_eq hr.units rfl) (v_var 2) (v_callB (c_lenD rfl) T.b_len (by decide +kernel) (va_cons (v_var 0) va_nil))) (v_or1 (v_tcmp (o_neLstD (hr.mono (by decide)) h_Ratiou_equ rfl eq_two) (v_ix (o_ixD rfl) (v_var 0) (v_var 2)) (v_var 1))))) (vs_one (v_expr (v_bm PySem.F.plainAttrs_list PySem.F.slot_list_insert PySem.F.type_list_insert m_insertD ty_dl (v_var 0) (va_cons (v_var 2) (va_cons (v_var 1) va_nil))))) vs_nil)))))) le__insertJ⟩, ar__insertJ⟩
theorem ok__point_of (T : TxC K mg cs) (D : DefAt K mg "_point_of" s__point_of) (h_Ratiou_initu : In P w K mg base (amb K cs) 1 0 3 [] m_Ratiou_initu) : Fn P w K mg base (amb K cs) 3 "_point_of" 1 m__point_of := by
  obtain ⟨f, fd, hm, F⟩ := D.ex
  exact ⟨⟨f, fd, ["place"], hm, F.kp, F.binds (ps := ["place"]) fun _ _ _ _ _ _ us hl => match us, hl with | [_], _ => rfl, fn_le (fnVC F sc__point_of fun cdv A outer s H E hr tk po =>
  (vs_one (v_ret (v_lcC rfl sc__point_of.nd (vi_seq rfl (v_slice rfl (v_var 0) v_noP (v_pt (v_un o_neg v_int)))) (blkOk_by (own := [("top", 1)]) rfl) (gs_name (by decide)) (fun _ _ _ _ _ => (pg_name (i := 1) sc__point_of.nd rfl (by first | exact Or.inl rfl | exact Or.inr rfl))) (fun _ _ _ _ _ => vpts_nil) (fun _ _ _ _ _ => (Om.mk takes0 hr h_Ratiou_initu T.c0 (va_cons (v_var 1) (va_cons (v_ix (o_ix rfl) (v_var 0) (v_un o_neg v_int)) va_nil)))))))) le__point_of⟩, ar__point_of⟩
theorem ok_verticesJ (T : TxC K mg cs) (D : DefAt K mg "vertices" s_verticesJ) (h__rows_of : Fn P w K mg base (amb K cs) 2 "_rows_of" 1 m__rows_of) (h__common_zero : Fn P w K mg base (amb K cs) 2 "_common_zero" 2 m__common_zero) (h__keeps : Fn P w K mg base (amb K cs) 1 "_keeps" 2 m__keeps) (h__point_of : Fn P w K mg base (amb K cs) 3 "_point_of" 1 m__point_of) (h__insertJ : Fn P w K mg base (amb K cs) 4 "_insert" 2 m__insertJ) : Fn P w K mg base (amb K cs) 5 "vertices" 2 m_verticesJ := by
  obtain ⟨f, fd, hm, F⟩ := D.ex
  exact ⟨⟨f, fd, ["region", "n"], hm, F.kp, F.binds (ps := ["region", "n"]) fun _ _ _ _ _ _ us hl => match us, hl with | [_, _], _ => rfl, fn_le (fnVK F sc_verticesJ fun cdv A outer s H E hr tk po =>
  (vs_cons (v_set 2 sc_verticesJ.nd (Om.call tk (hr.mono (by decide)) h__rows_of (va_cons (v_var 0) va_nil)))
    (vs_cons (v_set 3 sc_verticesJ.nd (v_lstC va_nil))
    (vs_cons (v_for rfl po (vi_comb rfl T.b_combinations (va_cons (v_var 2) (va_cons (v_var 1) va_nil))) (vg_name 4 sc_verticesJ.nd) (vs_cons (v_set 5 sc_verticesJ.nd (Om.call tk (hr.mono (by decide)) h__common_zero (va_cons (v_var 4) (va_cons (v_var 1) va_nil))))
    (vs_one (v_if (PW.pt (v_tand (v_tcmp o_isnot (v_var 5) v_non) (v_and1 (v_test (Om.call tk (hr.mono (by decide)) h__keeps (va_cons (v_var 2) (va_cons (v_var 5) va_nil))))))) (vs_one (Om.mvCall 3 tk hr h__insertJ (va_cons (v_var 3) (va_cons (Om.call tk (hr.mono (by decide)) h__point_of (va_cons (v_var 5) va_nil)) va_nil)))) vs_nil))))
    (vs_one (v_ret (v_var 3))))))) le_verticesJ⟩, ar_verticesJ⟩
theorem ok__law_rpair (T : TxC K mg cs) (D : DefAt K mg "_law_pair" s__law_rpair)  : Fn P w K mg base (amb K cs) 1 "_law_pair" 1 m__law_rpair := by
  obtain ⟨f, fd, hm, F⟩ := D.ex
  exact ⟨⟨f, fd, ["got"], hm, F.kp, F.binds (ps := ["got"]) fun _ _ _ _ _ _ us hl => match us, hl with | [_], _ => rfl, fn_le (fnV F sc__law_rpair fun cdv A outer s H E hr tk po =>
  (vs_cons (v_if (v_tnot (v_test (v_isiV rfl T.b_isinstance (by decide +kernel) (v_var 0) (pe_glob (v := .ref _) (by rfl) T.c0 rfl) (.own _) (isiO_ok T.isi0)))) (vs_one (v_ret v_non)) vs_nil)
    (vs_one (v_ret (v_tup (va_cons (v_fld 0 0 T.own0 rfl rfl (v_var 0)) (va_cons (v_fld 0 1 T.own0 rfl rfl (v_var 0)) va_nil))))))) le__law_rpair⟩, ar__law_rpair⟩
theorem ok__law_point (T : TxC K mg cs) (D : DefAt K mg "_law_point" s__law_point) (h__law_rpair : Fn P w K mg base (amb K cs) 1 "_law_pair" 1 m__law_rpair) : Fn P w K mg base (amb K cs) 2 "_law_point" 1 m__law_point := by
  obtain ⟨f, fd, hm, F⟩ := D.ex
  exact ⟨⟨f, fd, ["got"], hm, F.kp, F.binds (ps := ["got"]) fun _ _ _ _ _ _ us hl => match us, hl with | [_], _ => rfl, fn_le (fnV F sc__law_point fun cdv A outer s H E hr tk po =>
  (vs_cons (v_if (v_tnot (v_test (v_isiD rfl T.b_isinstance (by decide +kernel) (v_var 0) (pe_bltn (v := .ty "list") (u := .type "list") (by rfl) T.b_list (by decide +kernel) rfl) (.ty _) (isiT_ok T.isib_list (by decide +kernel))))) (vs_one (v_ret v_non)) vs_nil)
    (vs_one (v_ret (v_lcI rfl sc__law_point.nd (vii_live rfl (v_var 0)) (blkOk_by (own := [("part", 1)]) rfl) (gsi_name (by decide)) (fun _ _ _ _ _ => (pg_name (i := 1) sc__law_point.nd rfl (by first | exact Or.inl rfl | exact Or.inr rfl))) (fun _ _ _ _ _ => vpts_nil) (fun _ _ _ _ _ => (Om.call takes0 hr h__law_rpair (va_cons (v_var 1) va_nil)))))))) le__law_point⟩, ar__law_point⟩
theorem ok_is_empty (T : TxC K mg cs) (D : DefAt K mg "is_empty" s_is_empty) (h__rows_of : Fn P w K mg base (amb K cs) 2 "_rows_of" 1 m__rows_of) (h__common_zero : Fn P w K mg base (amb K cs) 2 "_common_zero" 2 m__common_zero) (h__keeps : Fn P w K mg base (amb K cs) 1 "_keeps" 2 m__keeps) : Fn P w K mg base (amb K cs) 3 "is_empty" 2 m_is_empty := by
  obtain ⟨f, fd, hm, F⟩ := D.ex
  exact ⟨⟨f, fd, ["region", "n"], hm, F.kp, F.binds (ps := ["region", "n"]) fun _ _ _ _ _ _ us hl => match us, hl with | [_, _], _ => rfl, fn_le (fnV F sc_is_empty fun cdv A outer s H E hr tk po =>
  (vs_cons (v_set 2 sc_is_empty.nd (Om.call tk hr h__rows_of (va_cons (v_var 0) va_nil)))
    (vs_cons (v_for rfl po (vi_comb rfl T.b_combinations (va_cons (v_var 2) (va_cons (v_var 1) va_nil))) (vg_name 3 sc_is_empty.nd) (vs_cons (v_set 4 sc_is_empty.nd (Om.call tk hr h__common_zero (va_cons (v_var 3) (va_cons (v_var 1) va_nil))))
    (vs_one (v_if (PW.pt (v_tand (v_tcmp o_isnot (v_var 4) v_non) (v_and1 (v_test (Om.call tk (hr.mono (by decide)) h__keeps (va_cons (v_var 2) (va_cons (v_var 4) va_nil))))))) (vs_one (v_ret v_bl)) vs_nil))))
    (vs_one (v_ret v_bl))))) le_is_empty⟩, ar_is_empty⟩
theorem fn_law {f : Addr} {fd : FuncData} (T : TxC K mg cs) (F : Fun K "law" "law" s_law f fd) (h__law_stream : Fn P w K mg base (amb K cs) 1 "_law_stream" 1 m__law_stream) (h__law_draw : Fn P w K mg base (amb K cs) 1 "_law_draw" 2 m__law_draw) (h__law_region : Fn P w K mg base (amb K cs) 4 "_law_region" 2 m__law_region) (h__law_rnumber : Fn P w K mg base (amb K cs) 3 "_law_number" 1 m__law_rnumber) (h__law_q : Fn P w K mg base (amb K cs) 2 "_law_q" 2 m__law_q) (h__law_mul : Fn P w K mg base (amb K cs) 3 "_law_mul" 2 m__law_mul) (h__law_region_as : Fn P w K mg base (amb K cs) 5 "_law_region_as" 1 m__law_region_as) (h__law_corners : Fn P w K mg base (amb K cs) 7 "_law_corners" 2 m__law_corners) (h_verticesJ : Fn P w K mg base (amb K cs) 5 "vertices" 2 m_verticesJ) (h__law_point : Fn P w K mg base (amb K cs) 2 "_law_point" 1 m__law_point) (h_is_empty : Fn P w K mg base (amb K cs) 3 "is_empty" 2 m_is_empty) : FnOk P w K mg base (L2.CX P w) 8 f fd ["script"] (spF (amb K cs) 1 m_law) :=
  fn_le (fnV F sc_law fun cdv A outer s H E hr tk po =>
  (vs_cons (v_set 1 sc_law.nd (Om.call tk (hr.mono (by decide)) h__law_stream (va_cons (v_var 0) va_nil)))
    (vs_cons (v_set 2 sc_law.nd (v_ix (o_ix rfl) (v_lst (va_cons v_int (va_cons v_int (va_cons v_int (va_cons v_int (va_cons v_int (va_cons v_int va_nil))))))) (Om.call tk (hr.mono (by decide)) h__law_draw (va_cons (v_var 1) (va_cons v_int va_nil)))))
    (vs_cons (v_set 3 sc_law.nd (Om.call tk (hr.mono (by decide)) h__law_region (va_cons (v_var 1) (va_cons (v_var 2) va_nil))))
    (vs_cons (v_if (v_tcmp (o_eq hr.units rfl) (v_var 2) v_int) (vs_one (by first | exact (v_setLc (i := 3) rfl sc_law.nd rfl rfl rfl (vi_rng1 T.b_range (Om.call tk (hr.mono (by decide)) h__law_draw (va_cons (v_var 1) (va_cons v_int va_nil)))) (blkOk_by (own := [("k", 4)]) rfl) (gs_name (by decide)) (fun _ _ _ _ _ => (pg_name (i := 4) sc_law.nd rfl (by first | exact Or.inl rfl | exact Or.inr rfl))) (fun _ _ _ _ _ => vpts_nil) (fun _ _ _ _ _ => (v_tup (va_cons (v_tup va_nil) (va_cons (Om.call takes0 (hr.mono (by decide)) h__law_rnumber (va_cons (v_var 1) va_nil)) va_nil))))) | exact (v_set 3 sc_law.nd (v_lc rfl sc_law.nd (vi_rng1 T.b_range (Om.call tk (hr.mono (by decide)) h__law_draw (va_cons (v_var 1) (va_cons v_int va_nil)))) (blkOk_by (own := [("k", 4)]) rfl) (gs_name (by decide)) (fun _ _ _ _ _ => (pg_name (i := 4) sc_law.nd rfl (by first | exact Or.inl rfl | exact Or.inr rfl))) (fun _ _ _ _ _ => vpts_nil) (fun _ _ _ _ _ => (v_tup (va_cons (v_tup va_nil) (va_cons (Om.call takes0 (hr.mono (by decide)) h__law_rnumber (va_cons (v_var 1) va_nil)) va_nil)))))))) vs_nil)
    (vs_cons (v_if (PW.pt (v_tand (v_truL rfl (v_var 3)) (v_and1 (v_tcmp (o_eq hr.units rfl) (Om.call tk (hr.mono (by decide)) h__law_draw (va_cons (v_var 1) (va_cons v_int va_nil))) v_int)))) (vs_one (v_set 3 sc_law.nd (v_bin o_catL (v_var 3) (v_slice rfl (v_var 3) v_noP (v_pt v_int))))) vs_nil)
    (vs_cons (v_set 5 sc_law.nd v_bl)
    (vs_cons (v_if (PW.pt (v_tand (v_tcmp o_gt (v_var 2) v_int) (v_and1 (v_tcmp (o_eq hr.units rfl) (Om.call tk (hr.mono (by decide)) h__law_draw (va_cons (v_var 1) (va_cons v_int va_nil))) v_int)))) (vs_cons (v_set 3 sc_law.nd (v_slice rfl (v_var 3) (v_pt (Om.call tk (hr.mono (by decide)) h__law_draw (va_cons (v_var 1) (va_cons (v_bin o_add (v_bin o_mul v_int (v_var 2)) v_int) va_nil)))) v_noP))
    (vs_one (v_set 5 sc_law.nd v_bl))) vs_nil)
    (vs_cons (v_if (v_tcmp (o_eq hr.units rfl) (Om.call tk (hr.mono (by decide)) h__law_draw (va_cons (v_var 1) (va_cons v_int va_nil))) v_int) (vs_cons (v_set 6 sc_law.nd (v_tup (va_cons (v_bin o_add (v_bin o_pow v_int v_int) (Om.call tk (hr.mono (by decide)) h__law_draw (va_cons (v_var 1) (va_cons (v_bin o_pow v_int v_int) va_nil)))) (va_cons (v_bin o_add v_int (Om.call tk (hr.mono (by decide)) h__law_draw (va_cons (v_var 1) (va_cons v_int va_nil)))) va_nil))))
    (vs_one (by first | exact (v_setLc (i := 3) rfl sc_law.nd rfl rfl rfl (vi_seq rfl (v_var 3)) (blkOk_by (own := [("form", 7)]) rfl) (gs_name (by decide)) (fun _ _ _ _ _ => (pg_name (i := 7) sc_law.nd rfl (by first | exact Or.inl rfl | exact Or.inr rfl))) (fun _ _ _ _ _ => vpts_nil) (fun _ _ _ _ _ => (v_tup (va_cons (v_ix (o_ix rfl) (v_var 7) v_int) (va_cons (Om.call takes0 (hr.mono (by decide)) h__law_mul (va_cons (v_ix (o_ix rfl) (v_var 7) v_int) (va_cons (Om.call takes0 (hr.mono (by decide)) h__law_q (va_cons (v_ix (o_ix rfl) (v_var 6) v_int) (va_cons (v_ix (o_ix rfl) (v_var 6) v_int) va_nil))) va_nil))) va_nil))))) | exact (v_set 3 sc_law.nd (v_lc rfl sc_law.nd (vi_seq rfl (v_var 3)) (blkOk_by (own := [("form", 7)]) rfl) (gs_name (by decide)) (fun _ _ _ _ _ => (pg_name (i := 7) sc_law.nd rfl (by first | exact Or.inl rfl | exact Or.inr rfl))) (fun _ _ _ _ _ => vpts_nil) (fun _ _ _ _ _ => (v_tup (va_cons (v_ix (o_ix rfl) (v_var 7) v_int) (va_cons (Om.call takes0 (hr.mono (by decide)) h__law_mul (va_cons (v_ix (o_ix rfl) (v_var 7) v_int) (va_cons (Om.call takes0 (hr.mono (by decide)) h__law_q (va_cons (v_ix (o_ix rfl) (v_var 6) v_int) (va_cons (v_ix (o_ix rfl) (v_var 6) v_int) va_nil))) va_nil))) va_nil))))))))) vs_nil)
    (vs_cons (v_set 8 sc_law.nd (Om.call tk (hr.mono (by decide)) h__law_region_as (va_cons (v_var 3) va_nil)))
    (vs_cons (v_set 9 sc_law.nd (Om.call tk hr h__law_corners (va_cons (v_var 3) (va_cons (v_var 2) va_nil))))
    (vs_cons (v_set 10 sc_law.nd (Om.call tk (hr.mono (by decide)) h_verticesJ (va_cons (v_var 8) (va_cons (v_var 2) va_nil))))
    (vs_cons (v_if (PW.pt (v_tor (v_tnot (v_test (v_isiD rfl T.b_isinstance (by decide +kernel) (v_var 10) (pe_bltn (v := .ty "list") (u := .type "list") (by rfl) T.b_list (by decide +kernel) rfl) (.ty _) (isiT_ok T.isib_list (by decide +kernel))))) (v_or1 (v_tcmp (o_ne hr.units rfl) (v_lcI rfl sc_law.nd (vii_live rfl (v_var 10)) (blkOk_by (own := [("point", 11)]) rfl) (gsi_name (by decide)) (fun _ _ _ _ _ => (pg_name (i := 11) sc_law.nd rfl (by first | exact Or.inl rfl | exact Or.inr rfl))) (fun _ _ _ _ _ => vpts_nil) (fun _ _ _ _ _ => (Om.call takes0 (hr.mono (by decide)) h__law_point (va_cons (v_var 11) va_nil)))) (v_var 9))))) (vs_one (v_ret v_bl)) vs_nil)
    (vs_cons (v_if (PW.pt (v_tand (v_test (v_var 5)) (v_and1 (v_tcmp (o_ne hr.units rfl) (v_callB c_repr T.b_repr (by decide +kernel) (va_cons (Om.call tk (hr.mono (by decide)) h_is_empty (va_cons (v_var 8) (va_cons (v_var 2) va_nil))) va_nil)) (v_callB c_repr T.b_repr (by decide +kernel) (va_cons (v_cmp (o_eqNil hr.units0) (v_var 9) (v_lst va_nil)) va_nil)))))) (vs_one (v_ret v_bl)) vs_nil)
    (vs_cons (v_forI rfl po (vii_live rfl (v_var 10)) (vgi_name 11 sc_law.nd) (vs_one (v_expr (v_bm PySem.F.plainAttrs_list PySem.F.slot_list_append PySem.F.type_list_append m_append ty_lst (v_var 11) (va_cons v_int va_nil)))))
    (vs_cons (v_expr (v_bm PySem.F.plainAttrs_list PySem.F.slot_list_append PySem.F.type_list_append m_appE ty_ld (v_var 10) (va_cons v_int va_nil)))
    (vs_cons (v_if (v_tcmp (o_ne hr.units rfl) (v_lcI rfl sc_law.nd (vii_live rfl (Om.call tk (hr.mono (by decide)) h_verticesJ (va_cons (v_var 8) (va_cons (v_var 2) va_nil)))) (blkOk_by (own := [("point", 11)]) rfl) (gsi_name (by decide)) (fun _ _ _ _ _ => (pg_name (i := 11) sc_law.nd rfl (by first | exact Or.inl rfl | exact Or.inr rfl))) (fun _ _ _ _ _ => vpts_nil) (fun _ _ _ _ _ => (Om.call takes0 (hr.mono (by decide)) h__law_point (va_cons (v_var 11) va_nil)))) (v_var 9)) (vs_one (v_ret v_bl)) vs_nil)
    (vs_one (v_pre 10 (v_ret (v_and (v_cmp (o_eq hr.units rfl) (v_callB (c_len rfl) T.b_len (by decide +kernel) (va_cons (v_var 10) va_nil)) (v_bin o_add (v_callB (c_len rfl) T.b_len (by decide +kernel) (va_cons (v_var 9) va_nil)) v_int)) (v_one (v_callB (c_all rfl rfl) T.b_all (by decide +kernel) (va_cons (v_lc rfl sc_law.nd (vi_seq rfl (v_slice rfl (v_var 10) v_noP (v_pt (v_un o_neg v_int)))) (blkOk_by (own := [("point", 11)]) rfl) (gs_name (by decide)) (fun _ _ _ _ _ => (pg_name (i := 11) sc_law.nd rfl (by first | exact Or.inl rfl | exact Or.inr rfl))) (fun _ _ _ _ _ => vpts_nil) (fun _ _ _ _ _ => (v_cmp (o_eq hr.units rfl) (v_callB (c_len rfl) T.b_len (by decide +kernel) (va_cons (v_var 11) va_nil)) (v_bin o_add (v_var 2) v_int)))) va_nil)))))))))))))))))))))))) le_law
end
end Vs
namespace Vs
open PySem PySem.Spec PyProof.Rows L2
section
variable {μ : Mu} {δ : Sl}
/-- from the points to the end -/
theorem end4 {n : Nat} {R : List Fm} {s : SS} {bd : Bool} (hn : n ≤ 3) (hR : ∀ f ∈ R, Fm4 n f) (hw : R.length ≤ 9) {c0 c4 c6 c7 : Option D} : ∃ δ' μ',
    t_law_10 [c0, some (.loc 0), some (.p (.int (n : Int))), some (.p (rgQ R)), c4, some (.p (.bl bd)), c6, c7, some (.p (rgR R)), some (.p (qsP (vtx n R))), none, none] [st s] = some (.ret (.p (.bl true)), δ', μ') := by
  have hF : ∀ f ∈ R, FmOk n 155 15 f := fun f hf => (hR f hf).ok
  have hz : ∀ ns ∈ pk R.length n, ∀ pt, vPt n R ns = some pt → ∀ q ∈ pt, Bz 700 q := fun ns h pt e q hq => ((vPt_sz hn hR (pk_ok n ns h).2 e).2 q hq).bz
  have vL : ∀ x ∈ vtx n R, x.length = n := fun x hx => by
    obtain ⟨ns, h1, h2⟩ := vtx_mem.mp hx
    exact (vPt_sz hn hR (pk_ok n ns h1).2 h2).1
  have vl : (vtx n R).length ≤ 729 := by
    have a := vtxL_len (n := n) (R := R) (pk R.length n) []
    have b := pk_len9 hw n
    have c : 9 ^ n ≤ 9 ^ 3 := Nat.pow_le_pow_right (by decide) hn
    have d : (vtx n R).length ≤ 0 + (pk R.length n).length := a
    omega
  obtain ⟨μ1, l, ks, e10, lv, x1⟩ := ev_verticesJ (μ := [st s]) hn hF hw hz
  have kl : ks.length = (vtx n R).length := by rw [lv.len, List.length_map]
  have ie := ev_is_empty4 (μ := μ1) hn hF hw
  unfold t_law_10 p_law_10
  rw [seqS_eq, sSet_eq, evCall_eq, evCons_eq, evV_8, bindG_ok, evCons_eq, evV_2, bindG_ok, evNil_eq, bindG_ok, bindG_ok, bindG_ok, List.map_nil, List.append_nil, e10, bindS_ok, andThen_nx]
  simp only [List.set_cons_succ, List.set_cons_zero]
  have kd : kindD μ1 (.loc l) = some (.lst []) := by
    obtain ⟨m, h, q⟩ := lv.at'
    rcases q with rfl | ⟨_, rfl⟩ <;> (unfold kindD; dsimp only; rw [h])
  have ki : isiVEnd (isiT 1 "list") μ1 (some (.lst [])) = some (.ok (.p (.bl true)), μ1) := isiVEnd_some rfl
  have sh := shown (e := evV 10) (c0 := c0) (c1 := some (.loc 0)) (c2 := some (.p (.int (n : Int)))) (c3 := some (.p (rgQ R))) (c4 := c4) (c5 := some (.p (.bl bd))) (c6 := c6) (c7 := c7) (c8 := some (.p (rgR R))) (c9 := some (.p (qsP (vtx n R)))) (c10 := some (.loc l)) (c11 := none) (μ := μ1) (ν := μ1) rfl lv (fun x hx => by rw [vL x hx]; omega) (by omega)
  have nf := fun κ : Mu => fNe_p (μ := κ) (eqP_qsG (rows := vtx n R))
  unfold t_law_11 p_law_11
  rw [seqS_eq, sIf_eq, tOrV_eq, tNotV_eq, evB_eq', evIsiD_eq, evV_10, bindG_ok, kd, ki, bindG_ok, toB_bl, bindG_ok, bindG_ok, if_neg (by decide), evB_eq', evBin_eq, sh, bindG_ok, evV_9, bindG_ok, nf, okm_some, bindG_ok, toB_bl, bindS_ok, if_neg (by decide), sNil_eq, andThen_nx]
  have en := eqNil_q (μ := μ1) (rows := vtx n R)
  have l0 : ∀ (δ : Sl) (κ : Mu), evLst evNil δ κ = some (.ok (.p (.lst [])), κ) := fun δ κ => by
    rw [evLst_eq, evNil_eq, bindG_ok, toPs_nil, lstEnd_some, if_pos (show ([] : List P).length ≤ sizeLine from line_0)]
  have c12 : tAndV' (evB (evV 5)) (evB (evBin fNe (evBI fRepr (evCons (evCall m_is_empty [] (evCons (evV 8) (evCons (evV 2) evNil))) evNil)) (evBI fRepr (evCons (evBin fEqNil (evV 9) (evLst evNil)) evNil)))) [c0, some (.loc 0), some (.p (.int (n : Int))), some (.p (rgQ R)), c4, some (.p (.bl bd)), c6, c7, some (.p (rgR R)), some (.p (qsP (vtx n R))), some (.loc l), none] μ1 = some (.ok false, μ1) := by
    rw [tAndV_eq, evB_eq', evV_5, bindG_ok, toB_bl, bindG_ok]
    cases bd with
    | false => rfl
    | true =>
      rw [if_pos rfl, evB_eq', evBin_eq, evBI_eq, evCons_eq, evCall_eq, evCons_eq, evV_8, bindG_ok, evCons_eq, evV_2, bindG_ok, evNil_eq, bindG_ok, bindG_ok, bindG_ok, List.map_nil, List.append_nil, ie, bindG_ok, evNil_eq, bindG_ok, bindG_ok, repr_bl, okm_some, bindG_ok, evBI_eq, evCons_eq, evBin_eq, evV_9, bindG_ok, l0, bindG_ok, en, okm_some, bindG_ok, evNil_eq, bindG_ok, bindG_ok, repr_bl, okm_some, bindG_ok, ne_str, okm_some, bindG_ok, toB_bl]
  unfold t_law_12 p_law_12
  rw [seqS_eq, sIf_eq, c12, bindS_ok, if_neg (by decide), sNil_eq, andThen_nx]
  obtain ⟨m, hm, qm⟩ := lv.at'
  have it : items μ1 (.loc l) = some (false, ks.map .loc, some (l, m)) := by
    rcases qm with rfl | ⟨rfl, rfl⟩ <;> (unfold items; dsimp only; rw [hm])
    rfl
  have zf : (ks.zip ((vtx n R).map rL)).map Prod.fst = ks := List.map_fst_zip (by rw [List.length_map]; omega)
  obtain ⟨μ2, c11, e13, b1, b2, b3⟩ := app_loop (l := l) (m := m) (c0 := c0) (c1 := some (.loc 0)) (c2 := some (.p (.int (n : Int)))) (c3 := some (.p (rgQ R))) (c4 := c4) (c5 := some (.p (.bl bd))) (c6 := c6) (c7 := c7) (c8 := some (.p (rgR R))) (c9 := some (.p (qsP (vtx n R)))) (c10 := some (.loc l)) (ks.zip ((vtx n R).map rL)) μ1 none (by rw [zf]; exact lv.nd) (fun x hx => by
    obtain ⟨i, h1, h2⟩ := zip_get hx
    have := lv.hi _ (List.mem_of_getElem? h1)
    refine ⟨by omega, lv.row i _ _ h1 h2, ?_⟩
    rw [List.getElem?_map] at h2
    obtain ⟨y, hy, e⟩ := Option.map_eq_some_iff.mp h2
    rw [← e]
    have := vL y (List.mem_of_getElem? hy)
    unfold rL
    rw [List.length_map]; omega) hm
  have em : (ks.map D.loc).map It2.one = (ks.zip ((vtx n R).map rL)).map fun x => It2.one (.loc x.1) := by
    conv => lhs; rw [← zf]
    rw [List.map_map, List.map_map]; rfl
  unfold t_law_13 p_law_13
  rw [seqS_eq, sForI_eq, evItL_eq, evV_10, bindG_ok, it]
  dsimp only
  rw [bindS_ok]
  dsimp only
  rw [em, e13, andThen_nx]
  have hm2 : μ2[l]? = some (some m) := by
    rw [b2 l (fun z => by rw [zf] at z; exact Nat.lt_irrefl _ (lv.hi l z))]; exact hm
  obtain ⟨mm, qq, ild, ap⟩ := app_end hm2 qm (by omega)
  unfold t_law_14 p_law_14
  rw [seqS_eq, sExpr_eq, evBM_eq, evV_10, bindG_ok, if_pos ild, evCons_eq, evC_eq, bindG_ok, evNil_eq, bindG_ok, bindG_ok, ap, okm_some, bindS_ok, andThen_nx]
  have llt : l < μ2.length := (List.getElem?_eq_some_iff.mp hm2).1
  have hm3 : (μ2.set l (some mm))[l]? = some (some mm) := List.getElem?_set_self llt
  have rows3 : ∀ (i k : Nat) (Q : List P), ks[i]? = some k → ((vtx n R).map fun x => rL x ++ [P.int 0])[i]? = some Q → (μ2.set l (some mm))[k]? = some (some (.lst Q)) := fun i k Q h1 h2 => by
    have hk := lv.hi _ (List.mem_of_getElem? h1)
    rw [List.getElem?_map] at h2
    obtain ⟨y, hy, e⟩ := Option.map_eq_some_iff.mp h2
    rw [List.getElem?_set_ne (by omega), ← e]
    exact b1 (k, rL y) (zip_mem h1 (by rw [List.getElem?_map, hy]; rfl))
  generalize μ2.set l (some mm) = μ3 at *
  obtain ⟨μ4, l4, ks4, e15, lv4, x4⟩ := ev_verticesJ (μ := μ3) hn hF hw hz
  have sh4 := shown (e := evCall m_verticesJ [] (evCons (evV 8) (evCons (evV 2) evNil))) (c0 := c0) (c1 := some (.loc 0)) (c2 := some (.p (.int (n : Int)))) (c3 := some (.p (rgQ R))) (c4 := c4) (c5 := some (.p (.bl bd))) (c6 := c6) (c7 := c7) (c8 := some (.p (rgR R))) (c9 := some (.p (qsP (vtx n R)))) (c10 := some (.loc l)) (c11 := c11) (μ := μ3) (ν := μ4) (by
    rw [evCall_eq, evCons_eq, evV_8, bindG_ok, evCons_eq, evV_2, bindG_ok, evNil_eq, bindG_ok, bindG_ok, bindG_ok, List.map_nil, List.append_nil, e15]) lv4 (fun x hx => by rw [vL x hx]; omega) (by omega)
  unfold t_law_15 p_law_15
  rw [seqS_eq, sIf_eq, evB_eq', evBin_eq, sh4, bindG_ok, evV_9, bindG_ok, nf, okm_some, bindG_ok, toB_bl, bindS_ok, if_neg (by decide), sNil_eq, andThen_nx]
  obtain ⟨μ5, fz⟩ := frz4 (μ := μ4) (ks := ks) (Rs := (vtx n R).map fun x => rL x ++ [P.int 0]) (by rw [List.length_map]; exact kl) lv.nd lv.hi (x4.at hm3) qq (fun i k Q h1 h2 => x4.at (rows3 i k Q h1 h2))
  have sf := sFrzS_at (i := 10) (δ := [c0, some (.loc 0), some (.p (.int (n : Int))), some (.p (rgQ R)), c4, some (.p (.bl bd)), c6, c7, some (.p (rgR R)), some (.p (qsP (vtx n R))), some (.loc l), c11]) rfl fz
  unfold t_law_16 p_law_16
  rw [seqS_eq, sf, andThen_nx]
  simp only [List.set_cons_succ, List.set_cons_zero]
  have l10 : fLen [.p (.lst (((vtx n R).map fun x => rL x ++ [P.int 0]).map .lst ++ [.int 0]))] μ5 = some (.p (.int ((vtx n R).length + 1 : Int)), μ5) := by
    rw [fLen_lst, List.length_append, List.length_map, List.length_map]; rfl
  have l9 : fLen [.p (qsP (vtx n R))] μ5 = some (.p (.int ((vtx n R).length : Int)), μ5) := by unfold qsP; rw [fLen_lst, List.length_map]
  have sl : evSl (evV 10) evNoP (evPt (evUn fNeg (evC (.int 1)))) [c0, some (.loc 0), some (.p (.int (n : Int))), some (.p (rgQ R)), c4, some (.p (.bl bd)), c6, c7, some (.p (rgR R)), some (.p (qsP (vtx n R))), some (.p (.lst (((vtx n R).map fun x => rL x ++ [P.int 0]).map .lst ++ [.int 0]))), c11] μ5 = some (.ok (.p (.lst (((vtx n R).map fun x => rL x ++ [P.int 0]).map .lst))), μ5) := by
    have ng : fNeg (.p (.int 1)) μ5 = some (.p (.int (-1)), μ5) := rfl
    rw [evSl_eq, evV_10, bindG_ok, evNoP_eq, bindG_ok, evPt_eq, evUn_eq, evC_eq, bindG_ok, ng, okm_some, bindG_ok, ptEnd_int, bindG_ok, lstOf_lst, slEnd_some, cut_last]
  have lc := lc_map (δ := [c0, some (.loc 0), some (.p (.int (n : Int))), some (.p (rgQ R)), c4, some (.p (.bl bd)), c6, c7, some (.p (rgR R)), some (.p (qsP (vtx n R))), some (.p (.lst (((vtx n R).map fun x => rL x ++ [P.int 0]).map .lst ++ [.int 0]))), c11]) (μ := μ5) (ν := μ5) (it := evIt (evSl (evV 10) evNoP (evPt (evUn fNeg (evC (.int 1)))))) (ts := tgN 11) (e := evBin fEq (evBI fLen (evCons (evV 11) evNil)) (evBin fAdd (evV 2) (evC (.int 1)))) (vs := [11]) (as := vtx n R) (fun x => P.lst (rL x ++ [P.int 0])) (fun _ => P.bl true) (by
    show bindG _ _ = _
    rw [sl, bindG_ok]
    show some (Out.ok (((vtx n R).map fun x => rL x ++ [P.int 0]).map P.lst), μ5) = _
    rw [List.map_map]; rfl) (fun x hx => ⟨_, rfl, fun κ => by
      have lx : fLen [.p (.lst (rL x ++ [P.int 0]))] κ = some (.p (.int ((n : Int) + 1)), κ) := by
        rw [fLen_lst, List.length_append, show (rL x).length = n by unfold rL; rw [List.length_map, vL x hx]]; rfl
      show evBin fEq (evBI fLen (evCons (evV 11) evNil)) (evBin fAdd (evV 2) (evC (.int 1))) [c0, some (.loc 0), some (.p (.int (n : Int))), some (.p (rgQ R)), c4, some (.p (.bl bd)), c6, c7, some (.p (rgR R)), some (.p (qsP (vtx n R))), some (.p (.lst (((vtx n R).map fun x => rL x ++ [P.int 0]).map .lst ++ [.int 0]))), some (.p (.lst (rL x ++ [P.int 0])))] κ = _
      rw [evBin_eq, evBI_eq, evCons_eq, evV_11, bindG_ok, evNil_eq, bindG_ok, bindG_ok, lx, okm_some, bindG_ok, evBin_eq, evV_2, bindG_ok, evC_eq, bindG_ok, add_ints, okm_some, bindG_ok, eq_int, okm_some, decide_eq_true rfl]⟩) (Nat.le_of_lt (line_k (by omega)))
  have fa := fAll_p (μ := μ5) (bs := (vtx n R).map fun _ => true)
  rw [List.map_map] at fa
  have fa : fAll [.p (.lst ((vtx n R).map fun _ => P.bl true))] μ5 = some (.p (.bl true), μ5) := by
    refine fa.trans ?_
    congr 4
    rw [List.all_map, List.all_eq_true]
    intro x _; rfl
  refine ⟨[c0, some (.loc 0), some (.p (.int (n : Int))), some (.p (rgQ R)), c4, some (.p (.bl bd)), c6, c7, some (.p (rgR R)), some (.p (qsP (vtx n R))), some (.p (.lst (((vtx n R).map fun x => rL x ++ [P.int 0]).map .lst ++ [.int 0]))), c11], μ5, ?_⟩
  rw [sRet_eq, evAnd_eq, evBin_eq, evBI_eq, evCons_eq, evV_10, bindG_ok, evNil_eq, bindG_ok, bindG_ok, l10, okm_some, bindG_ok, evBin_eq, evBI_eq, evCons_eq, evV_9, bindG_ok, evNil_eq, bindG_ok, bindG_ok, l9, okm_some, bindG_ok, evC_eq, bindG_ok, add_ints, okm_some, bindG_ok, eq_int, okm_some, bindG_ok, andD_bl, if_pos (decide_eq_true rfl), evBI_eq, evCons_eq, lc, bindG_ok, evNil_eq, bindG_ok, bindG_ok, fa, okm_some, bindS_ok]
end
end Vs
namespace Vs
open PySem PySem.Spec PyProof.Rows L2
section
variable {μ : Mu} {δ : Sl}
theorem FmT.f4 {n : Nat} {f : Fm} (h : FmT n f) : Fm4 n f := ⟨h.len, h.co, (h.c.up 420 (by decide)).mono (B := 2 ^ 140) (by decide)⟩
theorem six4 {v : Int} (h0 : 0 ≤ v) (h6 : v < 6) : ∃ n : Nat, n ≤ 3 ∧ fIx (.p (.lst [.int 1, .int 2, .int 2, .int 2, .int 3, .int 0])) (.p (.int v)) μ = some (.p (.int (n : Int)), μ) := by
  have : v = 0 ∨ v = 1 ∨ v = 2 ∨ v = 3 ∨ v = 4 ∨ v = 5 := by omega
  rcases this with rfl | rfl | rfl | rfl | rfl | rfl
  · exact ⟨1, by decide, rfl⟩
  · exact ⟨2, by decide, rfl⟩
  · exact ⟨2, by decide, rfl⟩
  · exact ⟨2, by decide, rfl⟩
  · exact ⟨3, by decide, rfl⟩
  · exact ⟨0, by decide, rfl⟩
theorem p10_9q (κ : Mu) : fPow (.p (.int 10)) (.p (.int 9)) κ = some (.p (.int 1000000000), κ) := by
  have h : powOk 10 9 = true := by decide +kernel
  simp [h]
theorem p10_40q (κ : Mu) : fPow (.p (.int 10)) (.p (.int 40)) κ = some (.p (.int 10000000000000000000000000000000000000000), κ) := by
  have h : powOk 10 40 = true := by decide +kernel
  simp [h]
theorem big4 {d y : Int} (hd : 0 ≤ d) (h9 : d < 1000000000) (hy : 0 ≤ y) (h7 : y < 7) : Tq 420 (2 ^ 136) (Rat.divInt (10000000000000000000000000000000000000000 + d) (1 + y)) := by
  refine tq_div (by decide) (by omega) ?_ (by
    have : (2 : Nat) ^ 136 = 87112285931760246646623899502532662132736 := by decide +kernel
    omega)
  have : y = 0 ∨ y = 1 ∨ y = 2 ∨ y = 3 ∨ y = 4 ∨ y = 5 ∨ y = 6 := by omega
  rcases this with rfl | rfl | rfl | rfl | rfl | rfl | rfl <;> decide
theorem reg3_ex {n : Nat} {R : List Fm} (hn : n ≤ 3) (T : RegT n R) {s : SS} (hs : s.Ok) {c0 : Option D} : ∃ (R' : List Fm) (s' : SS), SS.Ok s' ∧ (∀ f ∈ R', FmT n f) ∧ R'.length ≤ 8 ∧ p_law_3 [c0, some (.loc 0), some (.p (.int (n : Int))), some (.p (rgQ R)), none, none, none, none, none, none, none, none] [st s] = some (.nx, [c0, some (.loc 0), some (.p (.int (n : Int))), some (.p (rgQ R')), none, none, none, none, none, none, none, none], [st s']) := by
  by_cases h0 : n = 0
  · obtain ⟨m, s3, o3, m3, e3⟩ := draw0n (n := 3) hs (by decide) (by decide)
    obtain ⟨cs, s4, o4, b4, l4, e4⟩ := lcd (B := fun q : Rat => Tq 60 9 q) (fun q => fmQ ([], q)) (ts := tgN 4) (vs := [4]) (e := evTup (evCons (evTup evNil) (evCons (evCall m__law_rnumber [] (evCons (evV 1) evNil)) evNil))) (fun δ1 => δ1[1]? = some (some (.loc 0))) (fun s hs => by
      obtain ⟨q, s1, o1, t1, e1⟩ := num0 hs
      refine ⟨q, s1, o1, t1, fun δ1 r hd => ?_⟩
      have tn : tupEnd (some (([] : List P), st s :: r)) = some (.ok (.p (.tup [])), st s :: r) := by rw [tupEnd_some, if_pos (show ([] : List P).length ≤ sizeLine from line_0)]
      rw [evTup_eq, evCons_eq, evTup_eq, evNil_eq, bindG_ok, toPs_nil, tn, bindG_ok, evCons_eq, evCall_eq, evCons_eq, evV_at hd, bindG_ok, evNil_eq, bindG_ok, bindG_ok, List.map_nil, List.append_nil, e1, bindG_ok, evNil_eq, bindG_ok, bindG_ok, bindG_ok, toPs_cons, toPs_cons, toPs_nil, consP_some, consP_some, tup2]
      rfl) m (by omega) o3
    refine ⟨cs.map fun q => (([], q) : Fm), s4, o4, fun f hf => ?_, by rw [List.length_map, l4]; omega, ?_⟩
    · obtain ⟨q, hq, rfl⟩ := List.mem_map.mp hf
      exact ⟨h0.symm, (by intro x hx; cases hx), (b4 q hq).mono (by decide), (by intro x hx; cases hx)⟩
    · have hr := rng_small (v := (m : Int)) (by omega) (by omega)
      have e3' := e3 []
      have it : evLc (evRng1 (evCall m__law_draw [] (evCons (evV 1) (evCons (evC (.int 3)) evNil)))) (tgN 4) evTrue (evTup (evCons (evTup evNil) (evCons (evCall m__law_rnumber [] (evCons (evV 1) evNil)) evNil))) [4] [c0, some (.loc 0), some (.p (.int (n : Int))), some (.p (rgQ R)), none, none, none, none, none, none, none, none] [st s] = some (.ok (.p (.lst (cs.map fun q => fmQ ([], q)))), [st s4]) := by
        have e := (e4 [c0, some (.loc 0), some (.p (.int (n : Int))), some (.p (rgQ R)), none, none, none, none, none, none, none, none] (fun _ μ => some (.ok (intsP 0 m), μ)) (intsP 0 m) [] rfl (by unfold intsP; simp) (fun x hx => ⟨_, rfl, rfl⟩)).1
        rw [evLc_eq, evRng1_eq, evCall_eq, evCons_eq, evV_1, bindG_ok, evCons_eq, evC_eq, bindG_ok, evNil_eq, bindG_ok, bindG_ok, bindG_ok, List.map_nil, List.append_nil, show (3 : Int) = ((3 : Nat) : Int) from rfl, e3', bindG_ok]
        dsimp only
        rw [if_pos hr, bindG_ok, Int.toNat_natCast, range_ints]
        rw [evLc_eq, bindG_ok] at e
        exact e
      have hl : P.lst (cs.map fun q => fmQ ([], q)) = rgQ (cs.map fun q => (([], q) : Fm)) := by
        unfold rgQ; rw [List.map_map]; rfl
      rw [hl] at it
      have dn : decide ((n : Int) = 0) = true := decide_eq_true (by omega)
      unfold p_law_3
      rw [sIf_eq, evB_eq', evBin_eq, evV_2, bindG_ok, evC_eq, bindG_ok, eq_int, okm_some, bindG_ok, toB_bl, bindS_ok, if_pos dn, sSet_eq, it, bindS_ok]
      rfl
  · refine ⟨R, s, hs, T.fm, by have := T.len; omega, ?_⟩
    have dn : ¬ decide ((n : Int) = 0) = true := by simp; omega
    unfold p_law_3
    rw [sIf_eq, evB_eq', evBin_eq, evV_2, bindG_ok, evC_eq, bindG_ok, eq_int, okm_some, bindG_ok, toB_bl, bindS_ok, if_neg dn, sNil_eq]
theorem mem_take1 {A : Type} {R : List A} {f : A} (h : f ∈ R ++ R.take 1) : f ∈ R := by
  rcases List.mem_append.mp h with h | h
  · exact h
  · exact List.mem_of_mem_take h
theorem reg4_ex {n : Nat} {R : List Fm} (F : ∀ f ∈ R, FmT n f) (hl : R.length ≤ 8) {s : SS} (hs : s.Ok) {c0 : Option D} : ∃ (R' : List Fm) (s' : SS), SS.Ok s' ∧ (∀ f ∈ R', FmT n f) ∧ R'.length ≤ 9 ∧ p_law_4 [c0, some (.loc 0), some (.p (.int (n : Int))), some (.p (rgQ R)), none, none, none, none, none, none, none, none] [st s] = some (.nx, [c0, some (.loc 0), some (.p (.int (n : Int))), some (.p (rgQ R')), none, none, none, none, none, none, none, none], [st s']) := by
  have lo : lstOf [st s] (.p (rgQ R)) = some (R.map fmQ) := rfl
  by_cases hR : R = []
  · refine ⟨R, s, hs, F, by omega, ?_⟩
    subst hR
    unfold p_law_4
    rw [sIf_eq, tAndV_eq, evTruL_eq, evV_3, bindG_ok, lo, truLEnd_some, bindG_ok]
    rfl
  · obtain ⟨v, s1, o1, l1, u1, e1⟩ := draw0 5 hs
    have e1' := e1 []
    have nt : (!(R.map fmQ).isEmpty) = true := by
      obtain ⟨x, xs, hx⟩ := List.exists_cons_of_ne_nil hR
      rw [hx]; rfl
    have cond : tAndV' (evTruL (evV 3)) (evB (evBin fEq (evCall m__law_draw [] (evCons (evV 1) (evCons (evC (.int 5)) evNil))) (evC (.int 0)))) [c0, some (.loc 0), some (.p (.int (n : Int))), some (.p (rgQ R)), none, none, none, none, none, none, none, none] [st s] = some (.ok (decide (v = 0)), [st s1]) := by
      rw [tAndV_eq, evTruL_eq, evV_3, bindG_ok, lo, truLEnd_some, bindG_ok, nt, if_pos rfl, evB_eq', evBin_eq, evCall_eq, evCons_eq, evV_1, bindG_ok, evCons_eq, evC_eq, bindG_ok, evNil_eq, bindG_ok, bindG_ok, bindG_ok, List.map_nil, List.append_nil, e1', bindG_ok, evC_eq, bindG_ok, eq_int, okm_some, bindG_ok, toB_bl]
    by_cases q : v = 0
    · refine ⟨R ++ R.take 1, s1, o1, fun f hf => F f (mem_take1 hf), by rw [List.length_append, List.length_take]; omega, ?_⟩
      have sl : evSl (evV 3) evNoP (evPt (evC (.int 1))) [c0, some (.loc 0), some (.p (.int (n : Int))), some (.p (rgQ R)), none, none, none, none, none, none, none, none] [st s1] = some (.ok (.p (.lst ((R.take 1).map fmQ))), [st s1]) := by
        rw [evSl_eq, evV_3, bindG_ok, evNoP_eq, bindG_ok, evPt_eq, evC_eq, bindG_ok, ptEnd_int, bindG_ok, show lstOf [st s1] (.p (rgQ R)) = some (R.map fmQ) from rfl, slEnd_some, show (1 : Int) = ((1 : Nat) : Int) from rfl, cut_lo, List.map_take]
      have ct : fCatL (.p (rgQ R)) (.p (.lst ((R.take 1).map fmQ))) [st s1] = some (.p (rgQ (R ++ R.take 1)), [st s1]) := by
        unfold rgQ
        rw [fCatL_p (Nat.le_of_lt (line_k (by simp; omega))), List.map_append]
      unfold p_law_4
      rw [sIf_eq, cond, bindS_ok, if_pos (decide_eq_true q), sSet_eq, evBin_eq, evV_3, bindG_ok, sl, bindG_ok, ct, okm_some, bindS_ok]
      rfl
    · refine ⟨R, s1, o1, F, by omega, ?_⟩
      unfold p_law_4
      rw [sIf_eq, cond, bindS_ok, if_neg (by simpa using q), sNil_eq]
theorem reg6_ex {n : Nat} {R : List Fm} (hn : n ≤ 3) (F : ∀ f ∈ R, FmT n f) (hl : R.length ≤ 9) {s : SS} (hs : s.Ok) {c0 : Option D} : ∃ (R' : List Fm) (s' : SS) (bd : Bool), SS.Ok s' ∧ (∀ f ∈ R', FmT n f) ∧ R'.length ≤ 9 ∧ p_law_6 [c0, some (.loc 0), some (.p (.int (n : Int))), some (.p (rgQ R)), none, some (.p (.bl true)), none, none, none, none, none, none] [st s] = some (.nx, [c0, some (.loc 0), some (.p (.int (n : Int))), some (.p (rgQ R')), none, some (.p (.bl bd)), none, none, none, none, none, none], [st s']) := by
  have gt := fun κ : Mu => gt_int (μ := κ) (i := (n : Int)) (j := 0)
  by_cases h0 : n = 0
  · refine ⟨R, s, true, hs, F, hl, ?_⟩
    unfold p_law_6
    rw [sIf_eq, tAndV_eq, evB_eq', evBin_eq, evV_2, bindG_ok, evC_eq, bindG_ok, gt, okm_some, bindG_ok, toB_bl, bindG_ok, decide_eq_false (by omega)]
    rfl
  · obtain ⟨v, s1, o1, l1, u1, e1⟩ := draw0 4 hs
    have e1' := e1 []
    have cond : tAndV' (evB (evBin fGt (evV 2) (evC (.int 0)))) (evB (evBin fEq (evCall m__law_draw [] (evCons (evV 1) (evCons (evC (.int 4)) evNil))) (evC (.int 0)))) [c0, some (.loc 0), some (.p (.int (n : Int))), some (.p (rgQ R)), none, some (.p (.bl true)), none, none, none, none, none, none] [st s] = some (.ok (decide (v = 0)), [st s1]) := by
      rw [tAndV_eq, evB_eq', evBin_eq, evV_2, bindG_ok, evC_eq, bindG_ok, gt, okm_some, bindG_ok, toB_bl, bindG_ok, decide_eq_true (show (0 : Int) < (n : Int) by omega), if_pos rfl, evB_eq', evBin_eq, evCall_eq, evCons_eq, evV_1, bindG_ok, evCons_eq, evC_eq, bindG_ok, evNil_eq, bindG_ok, bindG_ok, bindG_ok, List.map_nil, List.append_nil, e1', bindG_ok, evC_eq, bindG_ok, eq_int, okm_some, bindG_ok, toB_bl]
    by_cases q : v = 0
    · obtain ⟨w, s2, o2, w2, e2⟩ := draw0n (n := 2 * n + 1) o1 (by omega) (by omega)
      have e2' := e2 []
      rw [show ((2 * n + 1 : Nat) : Int) = 2 * (n : Int) + 1 by omega] at e2'
      refine ⟨R.drop w, s2, false, o2, fun f hf => F f (List.mem_of_mem_drop hf), by rw [List.length_drop]; omega, ?_⟩
      have mo : mulOk 2 (n : Int) = true := mulOk_of (sz_lt (k := 2) 2 (by decide)) (sz_lt (k := 2) 3 (by omega)) (by decide) (by decide) (by decide)
      have sl : evSl (evV 3) (evPt (evCall m__law_draw [] (evCons (evV 1) (evCons (evBin fAdd (evBin fMul (evC (.int 2)) (evV 2)) (evC (.int 1))) evNil)))) evNoP [c0, some (.loc 0), some (.p (.int (n : Int))), some (.p (rgQ R)), none, some (.p (.bl true)), none, none, none, none, none, none] [st s1] = some (.ok (.p (rgQ (R.drop w))), [st s2]) := by
        rw [evSl_eq, evV_3, bindG_ok, evPt_eq, evCall_eq, evCons_eq, evV_1, bindG_ok, evCons_eq, evBin_eq, evBin_eq, evC_eq, bindG_ok, evV_2, bindG_ok, mul_int mo, okm_some, bindG_ok, evC_eq, bindG_ok, add_ints, okm_some, bindG_ok, evNil_eq, bindG_ok, bindG_ok, bindG_ok, List.map_nil, List.append_nil, e2', bindG_ok, ptEnd_int, bindG_ok, evNoP_eq, bindG_ok, show lstOf [st s2] (.p (rgQ R)) = some (R.map fmQ) from rfl, slEnd_some, cut_hi, ← List.map_drop]
        rfl
      unfold p_law_6
      rw [sIf_eq, cond, bindS_ok, if_pos (decide_eq_true q), seqS_eq, sSet_eq, sl, bindS_ok, andThen_nx]
      simp only [List.set_cons_succ, List.set_cons_zero]
      rw [sSet_eq, evC_eq, bindS_ok]
      rfl
    · refine ⟨R, s1, true, o1, F, hl, ?_⟩
      unfold p_law_6
      rw [sIf_eq, cond, bindS_ok, if_neg (by simpa using q), sNil_eq]
theorem reg7_ex {n : Nat} {R : List Fm} {bd : Bool} (F : ∀ f ∈ R, FmT n f) (hl : R.length ≤ 9) {s : SS} (hs : s.Ok) {c0 : Option D} : ∃ (R' : List Fm) (s' : SS) (c6 : Option D), SS.Ok s' ∧ (∀ f ∈ R', Fm4 n f) ∧ R'.length ≤ 9 ∧ p_law_7 [c0, some (.loc 0), some (.p (.int (n : Int))), some (.p (rgQ R)), none, some (.p (.bl bd)), none, none, none, none, none, none] [st s] = some (.nx, [c0, some (.loc 0), some (.p (.int (n : Int))), some (.p (rgQ R')), none, some (.p (.bl bd)), c6, none, none, none, none, none], [st s']) := by
  obtain ⟨v, s1, o1, l1, u1, e1⟩ := draw0 8 hs
  have e1' := e1 []
  by_cases q : v = 0
  · obtain ⟨d, s2, o2, l2, u2, e2⟩ := draw0 1000000000 o1
    obtain ⟨y, s3, o3, l3, u3, e3⟩ := draw0 7 o2
    have e2' := e2 []
    have e3' := e3 []
    have bt := big4 l2 u2 l3 u3
    have ad := fun κ : Mu => add_ints (μ := κ) (i := 10000000000000000000000000000000000000000) (j := d)
    have eq := fun κ : Mu => ev_q (n := 10000000000000000000000000000000000000000 + d) (d := 1 + y) (μ := κ) (by omega) ((sz_lt (k := 3) 7 (by omega)).mono (by decide))
    generalize Rat.divInt (10000000000000000000000000000000000000000 + d) (1 + y) = z at *
    have p40 := p10_40q
    generalize (10000000000000000000000000000000000000000 : Int) + d = B at *
    generalize (10000000000000000000000000000000000000000 : Int) = T at *
    have i0 : ∀ κ : Mu, fIx (.p (.tup [.int B, .int (1 + y)])) (.p (.int 0)) κ = some (.p (.int B), κ) := fun κ => by rw [fIx_tup, at_0]; rfl
    have i1 : ∀ κ : Mu, fIx (.p (.tup [.int B, .int (1 + y)])) (.p (.int 1)) κ = some (.p (.int (1 + y)), κ) := fun κ => by rw [fIx_tup, at_1]; rfl
    refine ⟨R.map fun f => (f.1, f.2 * z), s3, some (.p (.tup [.int B, .int (1 + y)])), o3, fun f hf => ?_, by rw [List.length_map]; exact hl, ?_⟩
    · obtain ⟨g, hg, rfl⟩ := List.mem_map.mp hf
      have h := F g hg
      exact ⟨h.len, h.co, (h.c.mul bt).mono (B := 2 ^ 140) (by decide)⟩
    · have lc := lc_map (δ := [c0, some (.loc 0), some (.p (.int (n : Int))), some (.p (rgQ R)), none, some (.p (.bl bd)), some (.p (.tup [.int B, .int (1 + y)])), none, none, none, none, none]) (μ := [st s3]) (ν := [st s3]) (it := evIt (evV 3)) (ts := tgN 7) (e := evTup (evCons (evBin fIx (evV 7) (evC (.int 0))) (evCons (evCall m__law_mul [] (evCons (evBin fIx (evV 7) (evC (.int 1))) (evCons (evCall m__law_q [] (evCons (evBin fIx (evV 6) (evC (.int 0))) (evCons (evBin fIx (evV 6) (evC (.int 1))) evNil))) evNil))) evNil))) (vs := [7]) (as := R) fmQ (fun f => fmQ (f.1, f.2 * z)) rfl (fun f hf => ⟨_, rfl, fun κ => by
        have tq := (F f hf).c.qz (b := 10) (by decide) (by decide) (by decide)
        have zq := bt.qz (b := 146) (by decide) (by decide) (by decide)
        have ml := ev_rmul (μ := κ) tq.bz zq.bz (by decide)
        show evTup (evCons (evBin fIx (evV 7) (evC (.int 0))) (evCons (evCall m__law_mul [] (evCons (evBin fIx (evV 7) (evC (.int 1))) (evCons (evCall m__law_q [] (evCons (evBin fIx (evV 6) (evC (.int 0))) (evCons (evBin fIx (evV 6) (evC (.int 1))) evNil))) evNil))) evNil)) [c0, some (.loc 0), some (.p (.int (n : Int))), some (.p (rgQ R)), none, some (.p (.bl bd)), some (.p (.tup [.int B, .int (1 + y)])), some (.p (fmQ f)), none, none, none, none] κ = _
        rw [evTup_eq, evCons_eq, evBin_eq, evV_7, bindG_ok, evC_eq, bindG_ok, fm0, okm_some, bindG_ok, evCons_eq, evCall_eq, evCons_eq, evBin_eq, evV_7, bindG_ok, evC_eq, bindG_ok, fm1, okm_some, bindG_ok, evCons_eq, evCall_eq, evCons_eq, evBin_eq, evV_6, bindG_ok, evC_eq, bindG_ok, i0, okm_some, bindG_ok, evCons_eq, evBin_eq, evV_6, bindG_ok, evC_eq, bindG_ok, i1, okm_some, bindG_ok, evNil_eq, bindG_ok, bindG_ok, bindG_ok, List.map_nil, List.append_nil, eq, bindG_ok, evNil_eq, bindG_ok, bindG_ok, bindG_ok, List.append_nil, ml, bindG_ok, evNil_eq, bindG_ok, bindG_ok, bindG_ok, toPs_cons, toPs_cons, toPs_nil, consP_some, consP_some, tup2]
        rfl⟩) (Nat.le_of_lt (line_k (by omega)))
      have hq : P.lst (R.map fun f => fmQ (f.1, f.2 * z)) = rgQ (R.map fun f => (f.1, f.2 * z)) := by unfold rgQ; rw [List.map_map]; rfl
      rw [hq] at lc
      unfold p_law_7
      rw [sIf_eq, evB_eq', evBin_eq, evCall_eq, evCons_eq, evV_1, bindG_ok, evCons_eq, evC_eq, bindG_ok, evNil_eq, bindG_ok, bindG_ok, bindG_ok, List.map_nil, List.append_nil, e1', bindG_ok, evC_eq, bindG_ok, eq_int, okm_some, bindG_ok, toB_bl, bindS_ok, if_pos (decide_eq_true q)]
      rw [seqS_eq, sSet_eq, evTup_eq, evCons_eq, evBin_eq, evBin_eq, evC_eq, bindG_ok, evC_eq, bindG_ok, p40, okm_some, bindG_ok, evCall_eq, evCons_eq, evV_1, bindG_ok, evCons_eq, evBin_eq, evC_eq, bindG_ok, evC_eq, bindG_ok, p10_9q, okm_some, bindG_ok, evNil_eq, bindG_ok, bindG_ok, bindG_ok, List.map_nil, List.append_nil, e2', bindG_ok, ad, okm_some, bindG_ok, evCons_eq, evBin_eq, evC_eq, bindG_ok, evCall_eq, evCons_eq, evV_1, bindG_ok, evCons_eq, evC_eq, bindG_ok, evNil_eq, bindG_ok, bindG_ok, bindG_ok, List.map_nil, List.append_nil, e3', bindG_ok, add_ints, okm_some, bindG_ok, evNil_eq, bindG_ok, bindG_ok, bindG_ok, toPs_cons, toPs_cons, toPs_nil, consP_some, consP_some, tup2, bindS_ok, andThen_nx]
      simp only [List.set_cons_succ, List.set_cons_zero]
      rw [sSet_eq, lc, bindS_ok]
      rfl
  · refine ⟨R, s1, none, o1, fun f hf => (F f hf).f4, hl, ?_⟩
    unfold p_law_7
    rw [sIf_eq, evB_eq', evBin_eq, evCall_eq, evCons_eq, evV_1, bindG_ok, evCons_eq, evC_eq, bindG_ok, evNil_eq, bindG_ok, bindG_ok, bindG_ok, List.map_nil, List.append_nil, e1', bindG_ok, evC_eq, bindG_ok, eq_int, okm_some, bindG_ok, toB_bl, bindS_ok, if_neg (by simpa using q), sNil_eq]
theorem ev_law {ns : List Int} : m_law [.p (.wl (ns.map .int))] [] = some (.ok (.p (.bl true)), []) := by
  have e0 : m__law_stream [.p (.wl (ns.map .int))] [] = some (.ok (.loc 0), [st (start0 ns)]) := ev_stream
  obtain ⟨v, s1, o1, l1, u1, e1⟩ := draw0 6 (start0_ok ns)
  obtain ⟨n, hn, ix⟩ := six4 (μ := [st s1]) l1 u1
  obtain ⟨R0, s2, o2, T, e2⟩ := reg_ex hn o1
  obtain ⟨R1, s3, o3, F1, h1, e3⟩ := reg3_ex hn T o2 (c0 := some (.p (.wl (ns.map .int))))
  obtain ⟨R2, s4, o4, F2, h2, e4⟩ := reg4_ex F1 h1 o3 (c0 := some (.p (.wl (ns.map .int))))
  obtain ⟨R3, s5, bd, o5, F3, h3, e6⟩ := reg6_ex hn F2 h2 o4 (c0 := some (.p (.wl (ns.map .int))))
  obtain ⟨R, s6, c6, o6, F, hw, e7⟩ := reg7_ex (bd := bd) F3 h3 o5 (c0 := some (.p (.wl (ns.map .int))))
  have q8 := ev_regionas (μ := [st s6]) (R := R) (b := 155) (fun f hf => ⟨by rw [(F f hf).len]; omega, fun q hq => ((F f hf).all q hq).qz (by decide) (by decide) (by decide)⟩) (by decide) (by omega)
  have q9 := ev_corners (μ := [st s6]) hn F hw
  obtain ⟨δ', μ', e10⟩ := end4 (s := s6) (bd := bd) hn F hw (c0 := some (.p (.wl (ns.map .int)))) (c4 := none) (c6 := c6) (c7 := none)
  have e1' := e1 []
  have e2' := e2 []
  unfold m_law
  rw [arF1]
  unfold sv_law t_law_0 p_law_0
  simp only [List.replicate, List.cons_append, List.nil_append]
  rw [seqS_eq, sSet_eq, evCall_eq, evCons_eq, evV_0, bindG_ok, evNil_eq, bindG_ok, bindG_ok, List.map_nil, List.append_nil, e0, bindS_ok, andThen_nx]
  simp only [List.set_cons_succ, List.set_cons_zero]
  unfold t_law_1 p_law_1
  rw [seqS_eq, sSet_eq, evBin_eq, evLst_eq, evCons_eq, evC_eq, bindG_ok, evCons_eq, evC_eq, bindG_ok, evCons_eq, evC_eq, bindG_ok, evCons_eq, evC_eq, bindG_ok, evCons_eq, evC_eq, bindG_ok, evCons_eq, evC_eq, bindG_ok, evNil_eq, bindG_ok, bindG_ok, bindG_ok, bindG_ok, bindG_ok, bindG_ok, bindG_ok, toPs_cons, toPs_cons, toPs_cons, toPs_cons, toPs_cons, toPs_cons, toPs_nil, consP_some, consP_some, consP_some, consP_some, consP_some, consP_some, lstEnd_some, if_pos (show ([P.int 1, P.int 2, P.int 2, P.int 2, P.int 3, P.int 0] : List P).length ≤ sizeLine from line_6), bindG_ok, evCall_eq, evCons_eq, evV_1, bindG_ok, evCons_eq, evC_eq, bindG_ok, evNil_eq, bindG_ok, bindG_ok, bindG_ok, List.map_nil, List.append_nil, e1', bindG_ok, ix, okm_some, bindS_ok, andThen_nx]
  simp only [List.set_cons_succ, List.set_cons_zero]
  unfold t_law_2 p_law_2
  rw [seqS_eq, sSet_eq, evCall_eq, evCons_eq, evV_1, bindG_ok, evCons_eq, evV_2, bindG_ok, evNil_eq, bindG_ok, bindG_ok, bindG_ok, List.map_nil, List.append_nil, e2', bindS_ok, andThen_nx]
  simp only [List.set_cons_succ, List.set_cons_zero]
  unfold t_law_3 t_law_4
  rw [seqS_eq, e3, andThen_nx, seqS_eq, e4, andThen_nx]
  unfold t_law_5 p_law_5
  rw [seqS_eq, sSet_eq, evC_eq, bindS_ok, andThen_nx]
  simp only [List.set_cons_succ, List.set_cons_zero]
  unfold t_law_6 t_law_7
  rw [seqS_eq, e6, andThen_nx, seqS_eq, e7, andThen_nx]
  unfold t_law_8 p_law_8
  rw [seqS_eq, sSet_eq, evCall_eq, evCons_eq, evV_3, bindG_ok, evNil_eq, bindG_ok, bindG_ok, List.map_nil, List.append_nil, q8, bindS_ok, andThen_nx]
  simp only [List.set_cons_succ, List.set_cons_zero]
  unfold t_law_9 p_law_9
  rw [seqS_eq, sSet_eq, evCall_eq, evCons_eq, evV_3, bindG_ok, evCons_eq, evV_2, bindG_ok, evNil_eq, bindG_ok, bindG_ok, bindG_ok, List.map_nil, List.append_nil, q9, bindS_ok, andThen_nx]
  simp only [List.set_cons_succ, List.set_cons_zero]
  rw [e10, retF_p]
  rfl
end
end Vs
namespace Vs
open PySem PySem.Spec PyProof.Rows L2
theorem all_mk {l : PySem.W.OpenLaw} {w : World} {K : PySem.W.Frag} {h : Heap} {mg : Str → Option Value} {fa : Addr} (X : K.In h) (G : h.Ns mainGlobals mg) (hfa : mg "law" = some (.ref fa)) {C0 C1 f_Ratiou_initu T_Ratiou_initu f_Ratiou_addu f_Ratiou_subu f_Ratiou_mulu f_Ratiou_negu f_Ratiou_equ f__law_stream f__law_divisor f__law_q f__law_draw f__law_rnumber f__law_add f__law_unit f__law_region f__law_as f__law_form_as f__law_region_as f__law_picks f__law_rover f__law_sub f__law_mul f__law_without f__law_reduced f__law_solution f__law_value f__law_inside f__law_rless f__law_before f__law_corners f__whole f__rows_of f__with_pivot f__cleared f__common_zero f__keeps f_is_less f_is_beforeJ f__insertJ f__point_of f_verticesJ f__law_rpair f__law_point f_is_empty f_law : Addr} {od_Ratiou_initu an_Ratiou_initu od_Ratiou_addu an_Ratiou_addu od_Ratiou_subu an_Ratiou_subu od_Ratiou_mulu an_Ratiou_mulu od_Ratiou_negu an_Ratiou_negu od_Ratiou_equ an_Ratiou_equ od__law_stream an__law_stream od__law_divisor an__law_divisor od__law_q an__law_q od__law_draw an__law_draw od__law_rnumber an__law_rnumber od__law_add an__law_add od__law_unit an__law_unit od__law_region an__law_region od__law_as an__law_as od__law_form_as an__law_form_as od__law_region_as an__law_region_as od__law_picks an__law_picks od__law_rover an__law_rover od__law_sub an__law_sub od__law_mul an__law_mul od__law_without an__law_without od__law_reduced an__law_reduced od__law_solution an__law_solution od__law_value an__law_value od__law_inside an__law_inside od__law_rless an__law_rless od__law_before an__law_before od__law_corners an__law_corners od__whole an__whole od__rows_of an__rows_of od__with_pivot an__with_pivot od__cleared an__cleared od__common_zero an__common_zero od__keeps an__keeps od_is_less an_is_less od_is_beforeJ an_is_beforeJ od__insertJ an__insertJ od__point_of an__point_of od_verticesJ an_verticesJ od__law_rpair an__law_rpair od__law_point an__law_point od_is_empty an_is_empty od_law an_law : Option Addr} {sl_Ratiou_initu sl_Ratiou_addu sl_Ratiou_subu sl_Ratiou_mulu sl_Ratiou_negu sl_Ratiou_equ sl__law_stream sl__law_divisor sl__law_q sl__law_draw sl__law_rnumber sl__law_add sl__law_unit sl__law_region sl__law_as sl__law_form_as sl__law_region_as sl__law_picks sl__law_rover sl__law_sub sl__law_mul sl__law_without sl__law_reduced sl__law_solution sl__law_value sl__law_inside sl__law_rless sl__law_before sl__law_corners sl__whole sl__rows_of sl__with_pivot sl__cleared sl__common_zero sl__keeps sl_is_less sl_is_beforeJ sl__insertJ sl__point_of sl_verticesJ sl__law_rpair sl__law_point sl_is_empty sl_law : Array (Option Value)} {oc_Ratiou_initu kV_Ratiou_initu dc_Ratiou_initu pm_Ratiou_initu cd_Ratiou_initu ct_Ratiou_initu oc_Ratiou_addu kV_Ratiou_addu dc_Ratiou_addu pm_Ratiou_addu cd_Ratiou_addu ct_Ratiou_addu oc_Ratiou_subu kV_Ratiou_subu dc_Ratiou_subu pm_Ratiou_subu cd_Ratiou_subu ct_Ratiou_subu oc_Ratiou_mulu kV_Ratiou_mulu dc_Ratiou_mulu pm_Ratiou_mulu cd_Ratiou_mulu ct_Ratiou_mulu oc_Ratiou_negu kV_Ratiou_negu dc_Ratiou_negu pm_Ratiou_negu cd_Ratiou_negu ct_Ratiou_negu oc_Ratiou_equ kV_Ratiou_equ dc_Ratiou_equ pm_Ratiou_equ cd_Ratiou_equ ct_Ratiou_equ oc__law_stream kV__law_stream dc__law_stream pm__law_stream cd__law_stream ct__law_stream oc__law_divisor kV__law_divisor dc__law_divisor pm__law_divisor cd__law_divisor ct__law_divisor oc__law_q kV__law_q dc__law_q pm__law_q cd__law_q ct__law_q oc__law_draw kV__law_draw dc__law_draw pm__law_draw cd__law_draw ct__law_draw oc__law_rnumber kV__law_rnumber dc__law_rnumber pm__law_rnumber cd__law_rnumber ct__law_rnumber oc__law_add kV__law_add dc__law_add pm__law_add cd__law_add ct__law_add oc__law_unit kV__law_unit dc__law_unit pm__law_unit cd__law_unit ct__law_unit oc__law_region kV__law_region dc__law_region pm__law_region cd__law_region ct__law_region oc__law_as kV__law_as dc__law_as pm__law_as cd__law_as ct__law_as oc__law_form_as kV__law_form_as dc__law_form_as pm__law_form_as cd__law_form_as ct__law_form_as oc__law_region_as kV__law_region_as dc__law_region_as pm__law_region_as cd__law_region_as ct__law_region_as oc__law_picks kV__law_picks dc__law_picks pm__law_picks cd__law_picks ct__law_picks oc__law_rover kV__law_rover dc__law_rover pm__law_rover cd__law_rover ct__law_rover oc__law_sub kV__law_sub dc__law_sub pm__law_sub cd__law_sub ct__law_sub oc__law_mul kV__law_mul dc__law_mul pm__law_mul cd__law_mul ct__law_mul oc__law_without kV__law_without dc__law_without pm__law_without cd__law_without ct__law_without oc__law_reduced kV__law_reduced dc__law_reduced pm__law_reduced cd__law_reduced ct__law_reduced oc__law_solution kV__law_solution dc__law_solution pm__law_solution cd__law_solution ct__law_solution oc__law_value kV__law_value dc__law_value pm__law_value cd__law_value ct__law_value oc__law_inside kV__law_inside dc__law_inside pm__law_inside cd__law_inside ct__law_inside oc__law_rless kV__law_rless dc__law_rless pm__law_rless cd__law_rless ct__law_rless oc__law_before kV__law_before dc__law_before pm__law_before cd__law_before ct__law_before oc__law_corners kV__law_corners dc__law_corners pm__law_corners cd__law_corners ct__law_corners oc__whole kV__whole dc__whole pm__whole cd__whole ct__whole oc__rows_of kV__rows_of dc__rows_of pm__rows_of cd__rows_of ct__rows_of oc__with_pivot kV__with_pivot dc__with_pivot pm__with_pivot cd__with_pivot ct__with_pivot oc__cleared kV__cleared dc__cleared pm__cleared cd__cleared ct__cleared oc__common_zero kV__common_zero dc__common_zero pm__common_zero cd__common_zero ct__common_zero oc__keeps kV__keeps dc__keeps pm__keeps cd__keeps ct__keeps oc_is_less kV_is_less dc_is_less pm_is_less cd_is_less ct_is_less oc_is_beforeJ kV_is_beforeJ dc_is_beforeJ pm_is_beforeJ cd_is_beforeJ ct_is_beforeJ oc__insertJ kV__insertJ dc__insertJ pm__insertJ cd__insertJ ct__insertJ oc__point_of kV__point_of dc__point_of pm__point_of cd__point_of ct__point_of oc_verticesJ kV_verticesJ dc_verticesJ pm_verticesJ cd_verticesJ ct_verticesJ oc__law_rpair kV__law_rpair dc__law_rpair pm__law_rpair cd__law_rpair ct__law_rpair oc__law_point kV__law_point dc__law_point pm__law_point cd__law_point ct__law_point oc_is_empty kV_is_empty dc_is_empty pm_is_empty cd_is_empty ct_is_empty oc_law kV_law dc_law pm_law cd_law ct_law : Value} {tc_Ratiou_initu : Value} {td_Ratiou_initu : Option Addr} {tt_Ratiou_initu : Tok} {tn_Ratiou_initu : Nat} {ts_Ratiou_initu : Array (Option Value)}
    (aC0 : PySem.W.nsIn K mainGlobals "Ratio" = some (some (.ref C0)))
    (aC1 : PySem.W.nsIn K mainGlobals "ByZero" = some (some (.ref C1)))
    (a_Ratiou_initu : PySem.W.findIn K (.ref C0) "__init__" = some (some (.ref f_Ratiou_initu)))
    (i_Ratiou_initu : PySem.W.isFn K (.ref f_Ratiou_initu) = true)
    (l_Ratiou_initu : K.lookup f_Ratiou_initu = some ⟨oc_Ratiou_initu, od_Ratiou_initu, .func (PySem.W.fnOf "__init__" "Ratio.__init__" (defArgs s_Ratiou_initu) (defBody s_Ratiou_initu) (defScope s_Ratiou_initu) (.ref T_Ratiou_initu) kV_Ratiou_initu dc_Ratiou_initu pm_Ratiou_initu an_Ratiou_initu cd_Ratiou_initu ct_Ratiou_initu), sl_Ratiou_initu⟩)
    (c_Ratiou_initu : PySem.W.codeIn K cd_Ratiou_initu "Ratio.__init__" = true)
    (k_Ratiou_initu : PySem.W.keepIn K (.ref f_Ratiou_initu) = true)
    (lt_Ratiou_initu : K.lookup T_Ratiou_initu = some ⟨tc_Ratiou_initu, td_Ratiou_initu, .seq [Value.int 1 tt_Ratiou_initu].toArray tn_Ratiou_initu, ts_Ratiou_initu⟩)
    (a_Ratiou_addu : PySem.W.findIn K (.ref C0) "__add__" = some (some (.ref f_Ratiou_addu)))
    (i_Ratiou_addu : PySem.W.isFn K (.ref f_Ratiou_addu) = true)
    (l_Ratiou_addu : K.lookup f_Ratiou_addu = some ⟨oc_Ratiou_addu, od_Ratiou_addu, .func (PySem.W.fnOf "__add__" "Ratio.__add__" (defArgs s_Ratiou_addu) (defBody s_Ratiou_addu) (defScope s_Ratiou_addu) .none kV_Ratiou_addu dc_Ratiou_addu pm_Ratiou_addu an_Ratiou_addu cd_Ratiou_addu ct_Ratiou_addu), sl_Ratiou_addu⟩)
    (c_Ratiou_addu : PySem.W.codeIn K cd_Ratiou_addu "Ratio.__add__" = true)
    (k_Ratiou_addu : PySem.W.keepIn K (.ref f_Ratiou_addu) = true)
    (a_Ratiou_subu : PySem.W.findIn K (.ref C0) "__sub__" = some (some (.ref f_Ratiou_subu)))
    (i_Ratiou_subu : PySem.W.isFn K (.ref f_Ratiou_subu) = true)
    (l_Ratiou_subu : K.lookup f_Ratiou_subu = some ⟨oc_Ratiou_subu, od_Ratiou_subu, .func (PySem.W.fnOf "__sub__" "Ratio.__sub__" (defArgs s_Ratiou_subu) (defBody s_Ratiou_subu) (defScope s_Ratiou_subu) .none kV_Ratiou_subu dc_Ratiou_subu pm_Ratiou_subu an_Ratiou_subu cd_Ratiou_subu ct_Ratiou_subu), sl_Ratiou_subu⟩)
    (c_Ratiou_subu : PySem.W.codeIn K cd_Ratiou_subu "Ratio.__sub__" = true)
    (k_Ratiou_subu : PySem.W.keepIn K (.ref f_Ratiou_subu) = true)
    (a_Ratiou_mulu : PySem.W.findIn K (.ref C0) "__mul__" = some (some (.ref f_Ratiou_mulu)))
    (i_Ratiou_mulu : PySem.W.isFn K (.ref f_Ratiou_mulu) = true)
    (l_Ratiou_mulu : K.lookup f_Ratiou_mulu = some ⟨oc_Ratiou_mulu, od_Ratiou_mulu, .func (PySem.W.fnOf "__mul__" "Ratio.__mul__" (defArgs s_Ratiou_mulu) (defBody s_Ratiou_mulu) (defScope s_Ratiou_mulu) .none kV_Ratiou_mulu dc_Ratiou_mulu pm_Ratiou_mulu an_Ratiou_mulu cd_Ratiou_mulu ct_Ratiou_mulu), sl_Ratiou_mulu⟩)
    (c_Ratiou_mulu : PySem.W.codeIn K cd_Ratiou_mulu "Ratio.__mul__" = true)
    (k_Ratiou_mulu : PySem.W.keepIn K (.ref f_Ratiou_mulu) = true)
    (a_Ratiou_negu : PySem.W.findIn K (.ref C0) "__neg__" = some (some (.ref f_Ratiou_negu)))
    (i_Ratiou_negu : PySem.W.isFn K (.ref f_Ratiou_negu) = true)
    (l_Ratiou_negu : K.lookup f_Ratiou_negu = some ⟨oc_Ratiou_negu, od_Ratiou_negu, .func (PySem.W.fnOf "__neg__" "Ratio.__neg__" (defArgs s_Ratiou_negu) (defBody s_Ratiou_negu) (defScope s_Ratiou_negu) .none kV_Ratiou_negu dc_Ratiou_negu pm_Ratiou_negu an_Ratiou_negu cd_Ratiou_negu ct_Ratiou_negu), sl_Ratiou_negu⟩)
    (c_Ratiou_negu : PySem.W.codeIn K cd_Ratiou_negu "Ratio.__neg__" = true)
    (k_Ratiou_negu : PySem.W.keepIn K (.ref f_Ratiou_negu) = true)
    (a_Ratiou_equ : PySem.W.findIn K (.ref C0) "__eq__" = some (some (.ref f_Ratiou_equ)))
    (i_Ratiou_equ : PySem.W.isFn K (.ref f_Ratiou_equ) = true)
    (l_Ratiou_equ : K.lookup f_Ratiou_equ = some ⟨oc_Ratiou_equ, od_Ratiou_equ, .func (PySem.W.fnOf "__eq__" "Ratio.__eq__" (defArgs s_Ratiou_equ) (defBody s_Ratiou_equ) (defScope s_Ratiou_equ) .none kV_Ratiou_equ dc_Ratiou_equ pm_Ratiou_equ an_Ratiou_equ cd_Ratiou_equ ct_Ratiou_equ), sl_Ratiou_equ⟩)
    (c_Ratiou_equ : PySem.W.codeIn K cd_Ratiou_equ "Ratio.__eq__" = true)
    (k_Ratiou_equ : PySem.W.keepIn K (.ref f_Ratiou_equ) = true)
    (a__law_stream : PySem.W.nsIn K mainGlobals "_law_stream" = some (some (.ref f__law_stream)))
    (l__law_stream : K.lookup f__law_stream = some ⟨oc__law_stream, od__law_stream, .func (PySem.W.fnOf "_law_stream" "_law_stream" (defArgs s__law_stream) (defBody s__law_stream) (defScope s__law_stream) .none kV__law_stream dc__law_stream pm__law_stream an__law_stream cd__law_stream ct__law_stream), sl__law_stream⟩)
    (c__law_stream : PySem.W.codeIn K cd__law_stream "_law_stream" = true)
    (k__law_stream : PySem.W.keepIn K (.ref f__law_stream) = true)
    (a__law_divisor : PySem.W.nsIn K mainGlobals "_law_divisor" = some (some (.ref f__law_divisor)))
    (l__law_divisor : K.lookup f__law_divisor = some ⟨oc__law_divisor, od__law_divisor, .func (PySem.W.fnOf "_law_divisor" "_law_divisor" (defArgs s__law_divisor) (defBody s__law_divisor) (defScope s__law_divisor) .none kV__law_divisor dc__law_divisor pm__law_divisor an__law_divisor cd__law_divisor ct__law_divisor), sl__law_divisor⟩)
    (c__law_divisor : PySem.W.codeIn K cd__law_divisor "_law_divisor" = true)
    (k__law_divisor : PySem.W.keepIn K (.ref f__law_divisor) = true)
    (a__law_q : PySem.W.nsIn K mainGlobals "_law_q" = some (some (.ref f__law_q)))
    (l__law_q : K.lookup f__law_q = some ⟨oc__law_q, od__law_q, .func (PySem.W.fnOf "_law_q" "_law_q" (defArgs s__law_q) (defBody s__law_q) (defScope s__law_q) .none kV__law_q dc__law_q pm__law_q an__law_q cd__law_q ct__law_q), sl__law_q⟩)
    (c__law_q : PySem.W.codeIn K cd__law_q "_law_q" = true)
    (k__law_q : PySem.W.keepIn K (.ref f__law_q) = true)
    (a__law_draw : PySem.W.nsIn K mainGlobals "_law_draw" = some (some (.ref f__law_draw)))
    (l__law_draw : K.lookup f__law_draw = some ⟨oc__law_draw, od__law_draw, .func (PySem.W.fnOf "_law_draw" "_law_draw" (defArgs s__law_draw) (defBody s__law_draw) (defScope s__law_draw) .none kV__law_draw dc__law_draw pm__law_draw an__law_draw cd__law_draw ct__law_draw), sl__law_draw⟩)
    (c__law_draw : PySem.W.codeIn K cd__law_draw "_law_draw" = true)
    (k__law_draw : PySem.W.keepIn K (.ref f__law_draw) = true)
    (a__law_rnumber : PySem.W.nsIn K mainGlobals "_law_number" = some (some (.ref f__law_rnumber)))
    (l__law_rnumber : K.lookup f__law_rnumber = some ⟨oc__law_rnumber, od__law_rnumber, .func (PySem.W.fnOf "_law_number" "_law_number" (defArgs s__law_rnumber) (defBody s__law_rnumber) (defScope s__law_rnumber) .none kV__law_rnumber dc__law_rnumber pm__law_rnumber an__law_rnumber cd__law_rnumber ct__law_rnumber), sl__law_rnumber⟩)
    (c__law_rnumber : PySem.W.codeIn K cd__law_rnumber "_law_number" = true)
    (k__law_rnumber : PySem.W.keepIn K (.ref f__law_rnumber) = true)
    (a__law_add : PySem.W.nsIn K mainGlobals "_law_add" = some (some (.ref f__law_add)))
    (l__law_add : K.lookup f__law_add = some ⟨oc__law_add, od__law_add, .func (PySem.W.fnOf "_law_add" "_law_add" (defArgs s__law_add) (defBody s__law_add) (defScope s__law_add) .none kV__law_add dc__law_add pm__law_add an__law_add cd__law_add ct__law_add), sl__law_add⟩)
    (c__law_add : PySem.W.codeIn K cd__law_add "_law_add" = true)
    (k__law_add : PySem.W.keepIn K (.ref f__law_add) = true)
    (a__law_unit : PySem.W.nsIn K mainGlobals "_law_unit" = some (some (.ref f__law_unit)))
    (l__law_unit : K.lookup f__law_unit = some ⟨oc__law_unit, od__law_unit, .func (PySem.W.fnOf "_law_unit" "_law_unit" (defArgs s__law_unit) (defBody s__law_unit) (defScope s__law_unit) .none kV__law_unit dc__law_unit pm__law_unit an__law_unit cd__law_unit ct__law_unit), sl__law_unit⟩)
    (c__law_unit : PySem.W.codeIn K cd__law_unit "_law_unit" = true)
    (k__law_unit : PySem.W.keepIn K (.ref f__law_unit) = true)
    (a__law_region : PySem.W.nsIn K mainGlobals "_law_region" = some (some (.ref f__law_region)))
    (l__law_region : K.lookup f__law_region = some ⟨oc__law_region, od__law_region, .func (PySem.W.fnOf "_law_region" "_law_region" (defArgs s__law_region) (defBody s__law_region) (defScope s__law_region) .none kV__law_region dc__law_region pm__law_region an__law_region cd__law_region ct__law_region), sl__law_region⟩)
    (c__law_region : PySem.W.codeIn K cd__law_region "_law_region" = true)
    (k__law_region : PySem.W.keepIn K (.ref f__law_region) = true)
    (a__law_as : PySem.W.nsIn K mainGlobals "_law_as" = some (some (.ref f__law_as)))
    (l__law_as : K.lookup f__law_as = some ⟨oc__law_as, od__law_as, .func (PySem.W.fnOf "_law_as" "_law_as" (defArgs s__law_as) (defBody s__law_as) (defScope s__law_as) .none kV__law_as dc__law_as pm__law_as an__law_as cd__law_as ct__law_as), sl__law_as⟩)
    (c__law_as : PySem.W.codeIn K cd__law_as "_law_as" = true)
    (k__law_as : PySem.W.keepIn K (.ref f__law_as) = true)
    (a__law_form_as : PySem.W.nsIn K mainGlobals "_law_form_as" = some (some (.ref f__law_form_as)))
    (l__law_form_as : K.lookup f__law_form_as = some ⟨oc__law_form_as, od__law_form_as, .func (PySem.W.fnOf "_law_form_as" "_law_form_as" (defArgs s__law_form_as) (defBody s__law_form_as) (defScope s__law_form_as) .none kV__law_form_as dc__law_form_as pm__law_form_as an__law_form_as cd__law_form_as ct__law_form_as), sl__law_form_as⟩)
    (c__law_form_as : PySem.W.codeIn K cd__law_form_as "_law_form_as" = true)
    (k__law_form_as : PySem.W.keepIn K (.ref f__law_form_as) = true)
    (a__law_region_as : PySem.W.nsIn K mainGlobals "_law_region_as" = some (some (.ref f__law_region_as)))
    (l__law_region_as : K.lookup f__law_region_as = some ⟨oc__law_region_as, od__law_region_as, .func (PySem.W.fnOf "_law_region_as" "_law_region_as" (defArgs s__law_region_as) (defBody s__law_region_as) (defScope s__law_region_as) .none kV__law_region_as dc__law_region_as pm__law_region_as an__law_region_as cd__law_region_as ct__law_region_as), sl__law_region_as⟩)
    (c__law_region_as : PySem.W.codeIn K cd__law_region_as "_law_region_as" = true)
    (k__law_region_as : PySem.W.keepIn K (.ref f__law_region_as) = true)
    (a__law_picks : PySem.W.nsIn K mainGlobals "_law_picks" = some (some (.ref f__law_picks)))
    (l__law_picks : K.lookup f__law_picks = some ⟨oc__law_picks, od__law_picks, .func (PySem.W.fnOf "_law_picks" "_law_picks" (defArgs s__law_picks) (defBody s__law_picks) (defScope s__law_picks) .none kV__law_picks dc__law_picks pm__law_picks an__law_picks cd__law_picks ct__law_picks), sl__law_picks⟩)
    (c__law_picks : PySem.W.codeIn K cd__law_picks "_law_picks" = true)
    (k__law_picks : PySem.W.keepIn K (.ref f__law_picks) = true)
    (a__law_rover : PySem.W.nsIn K mainGlobals "_law_over" = some (some (.ref f__law_rover)))
    (l__law_rover : K.lookup f__law_rover = some ⟨oc__law_rover, od__law_rover, .func (PySem.W.fnOf "_law_over" "_law_over" (defArgs s__law_rover) (defBody s__law_rover) (defScope s__law_rover) .none kV__law_rover dc__law_rover pm__law_rover an__law_rover cd__law_rover ct__law_rover), sl__law_rover⟩)
    (c__law_rover : PySem.W.codeIn K cd__law_rover "_law_over" = true)
    (k__law_rover : PySem.W.keepIn K (.ref f__law_rover) = true)
    (a__law_sub : PySem.W.nsIn K mainGlobals "_law_sub" = some (some (.ref f__law_sub)))
    (l__law_sub : K.lookup f__law_sub = some ⟨oc__law_sub, od__law_sub, .func (PySem.W.fnOf "_law_sub" "_law_sub" (defArgs s__law_sub) (defBody s__law_sub) (defScope s__law_sub) .none kV__law_sub dc__law_sub pm__law_sub an__law_sub cd__law_sub ct__law_sub), sl__law_sub⟩)
    (c__law_sub : PySem.W.codeIn K cd__law_sub "_law_sub" = true)
    (k__law_sub : PySem.W.keepIn K (.ref f__law_sub) = true)
    (a__law_mul : PySem.W.nsIn K mainGlobals "_law_mul" = some (some (.ref f__law_mul)))
    (l__law_mul : K.lookup f__law_mul = some ⟨oc__law_mul, od__law_mul, .func (PySem.W.fnOf "_law_mul" "_law_mul" (defArgs s__law_mul) (defBody s__law_mul) (defScope s__law_mul) .none kV__law_mul dc__law_mul pm__law_mul an__law_mul cd__law_mul ct__law_mul), sl__law_mul⟩)
    (c__law_mul : PySem.W.codeIn K cd__law_mul "_law_mul" = true)
    (k__law_mul : PySem.W.keepIn K (.ref f__law_mul) = true)
    (a__law_without : PySem.W.nsIn K mainGlobals "_law_without" = some (some (.ref f__law_without)))
    (l__law_without : K.lookup f__law_without = some ⟨oc__law_without, od__law_without, .func (PySem.W.fnOf "_law_without" "_law_without" (defArgs s__law_without) (defBody s__law_without) (defScope s__law_without) .none kV__law_without dc__law_without pm__law_without an__law_without cd__law_without ct__law_without), sl__law_without⟩)
    (c__law_without : PySem.W.codeIn K cd__law_without "_law_without" = true)
    (k__law_without : PySem.W.keepIn K (.ref f__law_without) = true)
    (a__law_reduced : PySem.W.nsIn K mainGlobals "_law_reduced" = some (some (.ref f__law_reduced)))
    (l__law_reduced : K.lookup f__law_reduced = some ⟨oc__law_reduced, od__law_reduced, .func (PySem.W.fnOf "_law_reduced" "_law_reduced" (defArgs s__law_reduced) (defBody s__law_reduced) (defScope s__law_reduced) .none kV__law_reduced dc__law_reduced pm__law_reduced an__law_reduced cd__law_reduced ct__law_reduced), sl__law_reduced⟩)
    (c__law_reduced : PySem.W.codeIn K cd__law_reduced "_law_reduced" = true)
    (k__law_reduced : PySem.W.keepIn K (.ref f__law_reduced) = true)
    (a__law_solution : PySem.W.nsIn K mainGlobals "_law_solution" = some (some (.ref f__law_solution)))
    (l__law_solution : K.lookup f__law_solution = some ⟨oc__law_solution, od__law_solution, .func (PySem.W.fnOf "_law_solution" "_law_solution" (defArgs s__law_solution) (defBody s__law_solution) (defScope s__law_solution) .none kV__law_solution dc__law_solution pm__law_solution an__law_solution cd__law_solution ct__law_solution), sl__law_solution⟩)
    (c__law_solution : PySem.W.codeIn K cd__law_solution "_law_solution" = true)
    (k__law_solution : PySem.W.keepIn K (.ref f__law_solution) = true)
    (a__law_value : PySem.W.nsIn K mainGlobals "_law_value" = some (some (.ref f__law_value)))
    (l__law_value : K.lookup f__law_value = some ⟨oc__law_value, od__law_value, .func (PySem.W.fnOf "_law_value" "_law_value" (defArgs s__law_value) (defBody s__law_value) (defScope s__law_value) .none kV__law_value dc__law_value pm__law_value an__law_value cd__law_value ct__law_value), sl__law_value⟩)
    (c__law_value : PySem.W.codeIn K cd__law_value "_law_value" = true)
    (k__law_value : PySem.W.keepIn K (.ref f__law_value) = true)
    (a__law_inside : PySem.W.nsIn K mainGlobals "_law_inside" = some (some (.ref f__law_inside)))
    (l__law_inside : K.lookup f__law_inside = some ⟨oc__law_inside, od__law_inside, .func (PySem.W.fnOf "_law_inside" "_law_inside" (defArgs s__law_inside) (defBody s__law_inside) (defScope s__law_inside) .none kV__law_inside dc__law_inside pm__law_inside an__law_inside cd__law_inside ct__law_inside), sl__law_inside⟩)
    (c__law_inside : PySem.W.codeIn K cd__law_inside "_law_inside" = true)
    (k__law_inside : PySem.W.keepIn K (.ref f__law_inside) = true)
    (a__law_rless : PySem.W.nsIn K mainGlobals "_law_less" = some (some (.ref f__law_rless)))
    (l__law_rless : K.lookup f__law_rless = some ⟨oc__law_rless, od__law_rless, .func (PySem.W.fnOf "_law_less" "_law_less" (defArgs s__law_rless) (defBody s__law_rless) (defScope s__law_rless) .none kV__law_rless dc__law_rless pm__law_rless an__law_rless cd__law_rless ct__law_rless), sl__law_rless⟩)
    (c__law_rless : PySem.W.codeIn K cd__law_rless "_law_less" = true)
    (k__law_rless : PySem.W.keepIn K (.ref f__law_rless) = true)
    (a__law_before : PySem.W.nsIn K mainGlobals "_law_before" = some (some (.ref f__law_before)))
    (l__law_before : K.lookup f__law_before = some ⟨oc__law_before, od__law_before, .func (PySem.W.fnOf "_law_before" "_law_before" (defArgs s__law_before) (defBody s__law_before) (defScope s__law_before) .none kV__law_before dc__law_before pm__law_before an__law_before cd__law_before ct__law_before), sl__law_before⟩)
    (c__law_before : PySem.W.codeIn K cd__law_before "_law_before" = true)
    (k__law_before : PySem.W.keepIn K (.ref f__law_before) = true)
    (a__law_corners : PySem.W.nsIn K mainGlobals "_law_corners" = some (some (.ref f__law_corners)))
    (l__law_corners : K.lookup f__law_corners = some ⟨oc__law_corners, od__law_corners, .func (PySem.W.fnOf "_law_corners" "_law_corners" (defArgs s__law_corners) (defBody s__law_corners) (defScope s__law_corners) .none kV__law_corners dc__law_corners pm__law_corners an__law_corners cd__law_corners ct__law_corners), sl__law_corners⟩)
    (c__law_corners : PySem.W.codeIn K cd__law_corners "_law_corners" = true)
    (k__law_corners : PySem.W.keepIn K (.ref f__law_corners) = true)
    (a__whole : PySem.W.nsIn K mainGlobals "_whole" = some (some (.ref f__whole)))
    (l__whole : K.lookup f__whole = some ⟨oc__whole, od__whole, .func (PySem.W.fnOf "_whole" "_whole" (defArgs s__whole) (defBody s__whole) (defScope s__whole) .none kV__whole dc__whole pm__whole an__whole cd__whole ct__whole), sl__whole⟩)
    (c__whole : PySem.W.codeIn K cd__whole "_whole" = true)
    (k__whole : PySem.W.keepIn K (.ref f__whole) = true)
    (a__rows_of : PySem.W.nsIn K mainGlobals "_rows_of" = some (some (.ref f__rows_of)))
    (l__rows_of : K.lookup f__rows_of = some ⟨oc__rows_of, od__rows_of, .func (PySem.W.fnOf "_rows_of" "_rows_of" (defArgs s__rows_of) (defBody s__rows_of) (defScope s__rows_of) .none kV__rows_of dc__rows_of pm__rows_of an__rows_of cd__rows_of ct__rows_of), sl__rows_of⟩)
    (c__rows_of : PySem.W.codeIn K cd__rows_of "_rows_of" = true)
    (k__rows_of : PySem.W.keepIn K (.ref f__rows_of) = true)
    (a__with_pivot : PySem.W.nsIn K mainGlobals "_with_pivot" = some (some (.ref f__with_pivot)))
    (l__with_pivot : K.lookup f__with_pivot = some ⟨oc__with_pivot, od__with_pivot, .func (PySem.W.fnOf "_with_pivot" "_with_pivot" (defArgs s__with_pivot) (defBody s__with_pivot) (defScope s__with_pivot) .none kV__with_pivot dc__with_pivot pm__with_pivot an__with_pivot cd__with_pivot ct__with_pivot), sl__with_pivot⟩)
    (c__with_pivot : PySem.W.codeIn K cd__with_pivot "_with_pivot" = true)
    (k__with_pivot : PySem.W.keepIn K (.ref f__with_pivot) = true)
    (a__cleared : PySem.W.nsIn K mainGlobals "_cleared" = some (some (.ref f__cleared)))
    (l__cleared : K.lookup f__cleared = some ⟨oc__cleared, od__cleared, .func (PySem.W.fnOf "_cleared" "_cleared" (defArgs s__cleared) (defBody s__cleared) (defScope s__cleared) .none kV__cleared dc__cleared pm__cleared an__cleared cd__cleared ct__cleared), sl__cleared⟩)
    (c__cleared : PySem.W.codeIn K cd__cleared "_cleared" = true)
    (k__cleared : PySem.W.keepIn K (.ref f__cleared) = true)
    (a__common_zero : PySem.W.nsIn K mainGlobals "_common_zero" = some (some (.ref f__common_zero)))
    (l__common_zero : K.lookup f__common_zero = some ⟨oc__common_zero, od__common_zero, .func (PySem.W.fnOf "_common_zero" "_common_zero" (defArgs s__common_zero) (defBody s__common_zero) (defScope s__common_zero) .none kV__common_zero dc__common_zero pm__common_zero an__common_zero cd__common_zero ct__common_zero), sl__common_zero⟩)
    (c__common_zero : PySem.W.codeIn K cd__common_zero "_common_zero" = true)
    (k__common_zero : PySem.W.keepIn K (.ref f__common_zero) = true)
    (a__keeps : PySem.W.nsIn K mainGlobals "_keeps" = some (some (.ref f__keeps)))
    (l__keeps : K.lookup f__keeps = some ⟨oc__keeps, od__keeps, .func (PySem.W.fnOf "_keeps" "_keeps" (defArgs s__keeps) (defBody s__keeps) (defScope s__keeps) .none kV__keeps dc__keeps pm__keeps an__keeps cd__keeps ct__keeps), sl__keeps⟩)
    (c__keeps : PySem.W.codeIn K cd__keeps "_keeps" = true)
    (k__keeps : PySem.W.keepIn K (.ref f__keeps) = true)
    (a_is_less : PySem.W.nsIn K mainGlobals "is_less" = some (some (.ref f_is_less)))
    (l_is_less : K.lookup f_is_less = some ⟨oc_is_less, od_is_less, .func (PySem.W.fnOf "is_less" "is_less" (defArgs s_is_less) (defBody s_is_less) (defScope s_is_less) .none kV_is_less dc_is_less pm_is_less an_is_less cd_is_less ct_is_less), sl_is_less⟩)
    (c_is_less : PySem.W.codeIn K cd_is_less "is_less" = true)
    (k_is_less : PySem.W.keepIn K (.ref f_is_less) = true)
    (a_is_beforeJ : PySem.W.nsIn K mainGlobals "is_before" = some (some (.ref f_is_beforeJ)))
    (l_is_beforeJ : K.lookup f_is_beforeJ = some ⟨oc_is_beforeJ, od_is_beforeJ, .func (PySem.W.fnOf "is_before" "is_before" (defArgs s_is_beforeJ) (defBody s_is_beforeJ) (defScope s_is_beforeJ) .none kV_is_beforeJ dc_is_beforeJ pm_is_beforeJ an_is_beforeJ cd_is_beforeJ ct_is_beforeJ), sl_is_beforeJ⟩)
    (c_is_beforeJ : PySem.W.codeIn K cd_is_beforeJ "is_before" = true)
    (k_is_beforeJ : PySem.W.keepIn K (.ref f_is_beforeJ) = true)
    (a__insertJ : PySem.W.nsIn K mainGlobals "_insert" = some (some (.ref f__insertJ)))
    (l__insertJ : K.lookup f__insertJ = some ⟨oc__insertJ, od__insertJ, .func (PySem.W.fnOf "_insert" "_insert" (defArgs s__insertJ) (defBody s__insertJ) (defScope s__insertJ) .none kV__insertJ dc__insertJ pm__insertJ an__insertJ cd__insertJ ct__insertJ), sl__insertJ⟩)
    (c__insertJ : PySem.W.codeIn K cd__insertJ "_insert" = true)
    (k__insertJ : PySem.W.keepIn K (.ref f__insertJ) = true)
    (a__point_of : PySem.W.nsIn K mainGlobals "_point_of" = some (some (.ref f__point_of)))
    (l__point_of : K.lookup f__point_of = some ⟨oc__point_of, od__point_of, .func (PySem.W.fnOf "_point_of" "_point_of" (defArgs s__point_of) (defBody s__point_of) (defScope s__point_of) .none kV__point_of dc__point_of pm__point_of an__point_of cd__point_of ct__point_of), sl__point_of⟩)
    (c__point_of : PySem.W.codeIn K cd__point_of "_point_of" = true)
    (k__point_of : PySem.W.keepIn K (.ref f__point_of) = true)
    (a_verticesJ : PySem.W.nsIn K mainGlobals "vertices" = some (some (.ref f_verticesJ)))
    (l_verticesJ : K.lookup f_verticesJ = some ⟨oc_verticesJ, od_verticesJ, .func (PySem.W.fnOf "vertices" "vertices" (defArgs s_verticesJ) (defBody s_verticesJ) (defScope s_verticesJ) .none kV_verticesJ dc_verticesJ pm_verticesJ an_verticesJ cd_verticesJ ct_verticesJ), sl_verticesJ⟩)
    (c_verticesJ : PySem.W.codeIn K cd_verticesJ "vertices" = true)
    (k_verticesJ : PySem.W.keepIn K (.ref f_verticesJ) = true)
    (a__law_rpair : PySem.W.nsIn K mainGlobals "_law_pair" = some (some (.ref f__law_rpair)))
    (l__law_rpair : K.lookup f__law_rpair = some ⟨oc__law_rpair, od__law_rpair, .func (PySem.W.fnOf "_law_pair" "_law_pair" (defArgs s__law_rpair) (defBody s__law_rpair) (defScope s__law_rpair) .none kV__law_rpair dc__law_rpair pm__law_rpair an__law_rpair cd__law_rpair ct__law_rpair), sl__law_rpair⟩)
    (c__law_rpair : PySem.W.codeIn K cd__law_rpair "_law_pair" = true)
    (k__law_rpair : PySem.W.keepIn K (.ref f__law_rpair) = true)
    (a__law_point : PySem.W.nsIn K mainGlobals "_law_point" = some (some (.ref f__law_point)))
    (l__law_point : K.lookup f__law_point = some ⟨oc__law_point, od__law_point, .func (PySem.W.fnOf "_law_point" "_law_point" (defArgs s__law_point) (defBody s__law_point) (defScope s__law_point) .none kV__law_point dc__law_point pm__law_point an__law_point cd__law_point ct__law_point), sl__law_point⟩)
    (c__law_point : PySem.W.codeIn K cd__law_point "_law_point" = true)
    (k__law_point : PySem.W.keepIn K (.ref f__law_point) = true)
    (a_is_empty : PySem.W.nsIn K mainGlobals "is_empty" = some (some (.ref f_is_empty)))
    (l_is_empty : K.lookup f_is_empty = some ⟨oc_is_empty, od_is_empty, .func (PySem.W.fnOf "is_empty" "is_empty" (defArgs s_is_empty) (defBody s_is_empty) (defScope s_is_empty) .none kV_is_empty dc_is_empty pm_is_empty an_is_empty cd_is_empty ct_is_empty), sl_is_empty⟩)
    (c_is_empty : PySem.W.codeIn K cd_is_empty "is_empty" = true)
    (k_is_empty : PySem.W.keepIn K (.ref f_is_empty) = true)
    (a_law : PySem.W.nsIn K mainGlobals "law" = some (some (.ref f_law)))
    (l_law : K.lookup f_law = some ⟨oc_law, od_law, .func (PySem.W.fnOf "law" "law" (defArgs s_law) (defBody s_law) (defScope s_law) .none kV_law dc_law pm_law an_law cd_law ct_law), sl_law⟩)
    (c_law : PySem.W.codeIn K cd_law "law" = true)
    (k_law : PySem.W.keepIn K (.ref f_law) = true)
    (pg : PySem.W.plainGet K C0 Str.empty = true)
    (hd : PySem.W.hasDictIn K C0 = true)
    (po : PySem.W.plainOver K C0 = true)
    (sa : PySem.W.findIn K (.ref C0) "__setattr__" = some (some (.builtin "object.__setattr__")))
    (n0 : PySem.W.findIn K (.ref C0) "top" = some none)
    (n1 : PySem.W.findIn K (.ref C0) "bottom" = some none)
    (sf : PySem.W.selfFirst K C0 = true)
    (nf0 : PySem.W.notFirst K C0 (.type "NoneType") = true)
    (nf1 : PySem.W.notFirst K C0 (.type "bool") = true)
    (nf2 : PySem.W.notFirst K C0 (.type "int") = true)
    (nf3 : PySem.W.notFirst K C0 (.type "str") = true)
    (nf4 : PySem.W.notFirst K C0 (.type "tuple") = true)
    (nf5 : PySem.W.notFirst K C0 (.type "list") = true)
    (ne : PySem.W.findIn K (.ref C0) "__ne__" = some (some (.builtin "object.__ne__")))
    (ob : PySem.W.subIn K (.ref C0) (.type "object") = some true)
    (kt0 : PySem.W.kitOne K (.type "NoneType") (.ref C0) = some false)
    (kt1 : PySem.W.kitOne K (.type "bool") (.ref C0) = some false)
    (kt2 : PySem.W.kitOne K (.type "int") (.ref C0) = some false)
    (kt3 : PySem.W.kitOne K (.type "str") (.ref C0) = some false)
    (kt4 : PySem.W.kitOne K (.type "tuple") (.ref C0) = some false)
    (kt5 : PySem.W.kitOne K (.type "list") (.ref C0) = some false)
    (ks : PySem.W.kitOne K (.ref C0) (.ref C0) = some true)
    (kb_bool : PySem.W.kitOne K (.ref C0) (.type "bool") = some false)
    (kb_list : PySem.W.kitOne K (.ref C0) (.type "list") = some false)
    (kb_tuple : PySem.W.kitOne K (.ref C0) (.type "tuple") = some false)
    (kb_int : PySem.W.kitOne K (.ref C0) (.type "int") = some false)
    (oa : PySem.W.findIn K (.ref C0) "__class__" = some (some (.builtin "object.__class__")))
    (on : PySem.W.specialIn K (.builtin "object.__class__") "__get__" = some (some (.builtin "getset_descriptor.__get__")))
    (ot : PySem.W.takesIn K (.builtin "object.__class__") = some true)
    (om : PySem.W.mroIn K C0 (.type "object") = some true)
    (mk : PySem.W.makesIn K C0 = true)
    (kc : PySem.W.keepIn K (.ref C0) = true)
    (x1 : PySem.W.excIn K C1 [.type "ValueError", .type "Exception", .type "BaseException", .type "object"] "ValueError.__new__" = true)
    (k1 : PySem.W.keepIn K (.ref C1) = true)
    (p1 : PySem.W.subIn K (.ref C1) (.type "BaseException") = some true)
    (t1 : PySem.W.typeIn K (.ref C1) = some (.type "type"))
    (z_abs : PySem.W.nsIn K mainGlobals "abs" = some none)
    (z_len : PySem.W.nsIn K mainGlobals "len" = some none)
    (z_int : PySem.W.nsIn K mainGlobals "int" = some none)
    (z_list : PySem.W.nsIn K mainGlobals "list" = some none)
    (z_tuple : PySem.W.nsIn K mainGlobals "tuple" = some none)
    (z_bool : PySem.W.nsIn K mainGlobals "bool" = some none)
    (z_isinstance : PySem.W.nsIn K mainGlobals "isinstance" = some none)
    (z_range : PySem.W.nsIn K mainGlobals "range" = some none)
    (z_zip : PySem.W.nsIn K mainGlobals "zip" = some none)
    (z_enumerate : PySem.W.nsIn K mainGlobals "enumerate" = some none)
    (z_any : PySem.W.nsIn K mainGlobals "any" = some none)
    (z_all : PySem.W.nsIn K mainGlobals "all" = some none)
    (z_sum : PySem.W.nsIn K mainGlobals "sum" = some none)
    (z_repr : PySem.W.nsIn K mainGlobals "repr" = some none)
    (z_gcd : PySem.W.nsIn K mainGlobals "gcd" = some (some (.builtin "math.gcd")))
    (z_lcm : PySem.W.nsIn K mainGlobals "lcm" = some (some (.builtin "math.lcm")))
    (z_combinations : PySem.W.nsIn K mainGlobals "combinations" = some (some (.type "itertools.combinations")))
    : ∃ fd : FuncData, (∀ (s : Shared) (v : Value), BindsTo s fd ⟨[v], []⟩ [("script", v)]) ∧ ∀ base : Heap, K.In base → base.Ns mainGlobals mg → FnOk l.prog w K mg base (L2.CX l.prog w) 8 fa fd ["script"] (spLaw K) := by
  have e := hfa.symm.trans (PySem.W.mg_of X G a_law)
  cases e
  have I0 : InsOwn K C0 := ⟨⟨pg, hd, po, sa⟩, oa, on, ot, om⟩
  have T : TxC K mg [C0, C1] := {
    own0 := {
      cls := ⟨pg, hd, po, sa⟩
      no := fun i f hf => by
        have hf : (["top", "bottom"] : List Str)[i]? = some f := hf
        match i, hf with
        | 0, hf => cases hf; exact n0
        | 1, hf => cases hf; exact n1
        | i + 2, hf => simp at hf
      nd := by show (["top", "bottom"] : List Str).Nodup; decide +kernel
      few := by show 2 < 1000; decide }
    c0 := PySem.W.mg_of X G aC0
    sf0 := sf
    nf0 := fun T hT => by
      simp only [eqTys, List.mem_cons, List.mem_nil_iff, or_false] at hT
      rcases hT with rfl | rfl | rfl | rfl | rfl | rfl <;> assumption
    ne0 := ⟨ne, ob⟩
    isi0 := ⟨fun T hT => by
      simp only [eqTys, List.mem_cons, List.mem_nil_iff, or_false] at hT
      rcases hT with rfl | rfl | rfl | rfl | rfl | rfl <;> assumption, ks, I0⟩
    isib_bool := fun c hc => by
      obtain rfl : c = 0 := by omega
      exact ⟨kb_bool, I0⟩
    isib_list := fun c hc => by
      obtain rfl : c = 0 := by omega
      exact ⟨kb_list, I0⟩
    isib_tuple := fun c hc => by
      obtain rfl : c = 0 := by omega
      exact ⟨kb_tuple, I0⟩
    isib_int := fun c hc => by
      obtain rfl : c = 0 := by omega
      exact ⟨kb_int, I0⟩
    x1 := x1
    g1 := PySem.W.mg_of X G aC1
    k1 := k1
    p1 := p1
    t1 := t1
    b_gcd := PySem.W.mg_of X G z_gcd
    b_abs := PySem.W.mg_none_of X G z_abs
    b_len := PySem.W.mg_none_of X G z_len
    b_int := PySem.W.mg_none_of X G z_int
    b_list := PySem.W.mg_none_of X G z_list
    b_tuple := PySem.W.mg_none_of X G z_tuple
    b_bool := PySem.W.mg_none_of X G z_bool
    b_isinstance := PySem.W.mg_none_of X G z_isinstance
    b_range := PySem.W.mg_none_of X G z_range
    b_lcm := PySem.W.mg_of X G z_lcm
    b_zip := PySem.W.mg_none_of X G z_zip
    b_enumerate := PySem.W.mg_none_of X G z_enumerate
    b_any := PySem.W.mg_none_of X G z_any
    b_all := PySem.W.mg_none_of X G z_all
    b_sum := PySem.W.mg_none_of X G z_sum
    b_repr := PySem.W.mg_none_of X G z_repr
    b_combinations := PySem.W.mg_of X G z_combinations }
  have FI := fun_mkD (st := s_Ratiou_initu) l_Ratiou_initu c_Ratiou_initu k_Ratiou_initu lt_Ratiou_initu rfl
  have F := fun_mk (st := s_law) l_law c_law k_law
  refine ⟨PySem.W.fnOf "law" "law" (defArgs s_law) (defBody s_law) (defScope s_law) .none kV_law dc_law pm_law an_law cd_law ct_law, fun s v => .of_eq rfl, fun base _ _ => ?_⟩
  have hI : FnOk l.prog w K mg base (L2.CX l.prog w) 1 f_Ratiou_initu _ ["self", "n", "d"] (spF (amb K [C0, C1]) 3 m_Ratiou_initu) := fn_Ratiou_initu T FI
  have h_Ratiou_initu : In l.prog w K mg base (amb K [C0, C1]) 1 0 3 [] m_Ratiou_initu := by
    obtain ⟨ds, r, b⟩ := FI.binds1 (ps := ["self", "n", "d"]) 3 1 (by simp) rfl fun T kV doc pm an cdv ct us its h1 h2 => match us, its, h1, h2 with | [_, _, _], [_], _, _ => ⟨_, rfl, rfl⟩
    exact ⟨⟨_, _, _, _, ds, ⟨mk, a_Ratiou_initu, i_Ratiou_initu, kc⟩, b, r, fun _ => .nil, hI⟩, ar_Ratiou_initu⟩
  have h_Ratiou_initu1 : In l.prog w K mg base (amb K [C0, C1]) 1 0 3 [.int 1] m_Ratiou_initu := by
    obtain ⟨ds, r, b⟩ := FI.binds1 (ps := ["self", "n", "d"]) 2 0 (by simp) rfl fun T kV doc pm an cdv ct us its h1 h2 => match us, its, h1, h2 with | [_, _], [_], _, _ => ⟨_, rfl, rfl⟩
    exact ⟨⟨_, _, _, _, ds, ⟨mk, a_Ratiou_initu, i_Ratiou_initu, kc⟩, b, r, fun _ => .cons (.int 1) .nil, hI⟩, ar_Ratiou_initu⟩
  have h_Ratiou_addu := ok_Ratiou_addu (P := l.prog) (w := w) (base := base) T (methAt_mk a_Ratiou_addu i_Ratiou_addu l_Ratiou_addu c_Ratiou_addu k_Ratiou_addu) h_Ratiou_initu
  have h_Ratiou_subu := ok_Ratiou_subu (P := l.prog) (w := w) (base := base) T (methAt_mk a_Ratiou_subu i_Ratiou_subu l_Ratiou_subu c_Ratiou_subu k_Ratiou_subu) h_Ratiou_initu
  have h_Ratiou_mulu := ok_Ratiou_mulu (P := l.prog) (w := w) (base := base) T (methAt_mk a_Ratiou_mulu i_Ratiou_mulu l_Ratiou_mulu c_Ratiou_mulu k_Ratiou_mulu) h_Ratiou_initu
  have h_Ratiou_negu := ok_Ratiou_negu (P := l.prog) (w := w) (base := base) T (methAt_mk a_Ratiou_negu i_Ratiou_negu l_Ratiou_negu c_Ratiou_negu k_Ratiou_negu) h_Ratiou_initu
  have h_Ratiou_equ := ok_Ratiou_equ (P := l.prog) (w := w) (base := base) T (methAt_mk a_Ratiou_equ i_Ratiou_equ l_Ratiou_equ c_Ratiou_equ k_Ratiou_equ) 
  have h__law_stream := ok__law_stream (P := l.prog) (w := w) (base := base) T (defAt_mk X G a__law_stream l__law_stream c__law_stream k__law_stream) 
  have h__law_divisor := ok__law_divisor (P := l.prog) (w := w) (base := base) T (defAt_mk X G a__law_divisor l__law_divisor c__law_divisor k__law_divisor) 
  have h__law_q := ok__law_q (P := l.prog) (w := w) (base := base) T (defAt_mk X G a__law_q l__law_q c__law_q k__law_q) h__law_divisor
  have h__law_draw := ok__law_draw (P := l.prog) (w := w) (base := base) T (defAt_mk X G a__law_draw l__law_draw c__law_draw k__law_draw) 
  have h__law_rnumber := ok__law_rnumber (P := l.prog) (w := w) (base := base) T (defAt_mk X G a__law_rnumber l__law_rnumber c__law_rnumber k__law_rnumber) h__law_draw h__law_q
  have h__law_add := ok__law_add (P := l.prog) (w := w) (base := base) T (defAt_mk X G a__law_add l__law_add c__law_add k__law_add) h__law_q
  have h__law_unit := ok__law_unit (P := l.prog) (w := w) (base := base) T (defAt_mk X G a__law_unit l__law_unit c__law_unit k__law_unit) 
  have h__law_region := ok__law_region (P := l.prog) (w := w) (base := base) T (defAt_mk X G a__law_region l__law_region c__law_region k__law_region) h__law_rnumber h__law_draw h__law_add h__law_unit
  have h__law_as := ok__law_as (P := l.prog) (w := w) (base := base) T (defAt_mk X G a__law_as l__law_as c__law_as k__law_as) h_Ratiou_initu
  have h__law_form_as := ok__law_form_as (P := l.prog) (w := w) (base := base) T (defAt_mk X G a__law_form_as l__law_form_as c__law_form_as k__law_form_as) h__law_as
  have h__law_region_as := ok__law_region_as (P := l.prog) (w := w) (base := base) T (defAt_mk X G a__law_region_as l__law_region_as c__law_region_as k__law_region_as) h__law_form_as
  have h__law_picks := ok__law_picks (P := l.prog) (w := w) (base := base) T (defAt_mk X G a__law_picks l__law_picks c__law_picks k__law_picks) 
  have h__law_rover := ok__law_rover (P := l.prog) (w := w) (base := base) T (defAt_mk X G a__law_rover l__law_rover c__law_rover k__law_rover) h__law_q
  have h__law_sub := ok__law_sub (P := l.prog) (w := w) (base := base) T (defAt_mk X G a__law_sub l__law_sub c__law_sub k__law_sub) h__law_q
  have h__law_mul := ok__law_mul (P := l.prog) (w := w) (base := base) T (defAt_mk X G a__law_mul l__law_mul c__law_mul k__law_mul) h__law_q
  have h__law_without := ok__law_without (P := l.prog) (w := w) (base := base) T (defAt_mk X G a__law_without l__law_without c__law_without k__law_without) h__law_mul h__law_sub
  have h__law_reduced := ok__law_reduced (P := l.prog) (w := w) (base := base) T (defAt_mk X G a__law_reduced l__law_reduced c__law_reduced k__law_reduced) h__law_rover h__law_without
  have h__law_solution := ok__law_solution (P := l.prog) (w := w) (base := base) T (defAt_mk X G a__law_solution l__law_solution c__law_solution k__law_solution) h__law_reduced
  have h__law_value := ok__law_value (P := l.prog) (w := w) (base := base) T (defAt_mk X G a__law_value l__law_value c__law_value k__law_value) h__law_mul h__law_add
  have h__law_inside := ok__law_inside (P := l.prog) (w := w) (base := base) T (defAt_mk X G a__law_inside l__law_inside c__law_inside k__law_inside) h__law_value
  have h__law_rless := ok__law_rless (P := l.prog) (w := w) (base := base) T (defAt_mk X G a__law_rless l__law_rless c__law_rless k__law_rless) 
  have h__law_before := ok__law_before (P := l.prog) (w := w) (base := base) T (defAt_mk X G a__law_before l__law_before c__law_before k__law_before) h__law_rless
  have h__law_corners := ok__law_corners (P := l.prog) (w := w) (base := base) T (defAt_mk X G a__law_corners l__law_corners c__law_corners k__law_corners) h__law_inside h__law_picks h__law_solution h__law_before
  have h__whole := ok__whole (P := l.prog) (w := w) (base := base) T (defAt_mk X G a__whole l__whole c__whole k__whole) 
  have h__rows_of := ok__rows_of (P := l.prog) (w := w) (base := base) T (defAt_mk X G a__rows_of l__rows_of c__rows_of k__rows_of) h__whole
  have h__with_pivot := ok__with_pivot (P := l.prog) (w := w) (base := base) T (defAt_mk X G a__with_pivot l__with_pivot c__with_pivot k__with_pivot) 
  have h__cleared := ok__cleared (P := l.prog) (w := w) (base := base) T (defAt_mk X G a__cleared l__cleared c__cleared k__cleared) 
  have h__common_zero := ok__common_zero (P := l.prog) (w := w) (base := base) T (defAt_mk X G a__common_zero l__common_zero c__common_zero k__common_zero) h__with_pivot h__cleared
  have h__keeps := ok__keeps (P := l.prog) (w := w) (base := base) T (defAt_mk X G a__keeps l__keeps c__keeps k__keeps) 
  have h_is_less := ok_is_less (P := l.prog) (w := w) (base := base) T (defAt_mk X G a_is_less l_is_less c_is_less k_is_less) 
  have h_is_beforeJ := ok_is_beforeJ (P := l.prog) (w := w) (base := base) T (defAt_mk X G a_is_beforeJ l_is_beforeJ c_is_beforeJ k_is_beforeJ) h_Ratiou_equ h_is_less
  have h__insertJ := ok__insertJ (P := l.prog) (w := w) (base := base) T (defAt_mk X G a__insertJ l__insertJ c__insertJ k__insertJ) h_is_beforeJ h_Ratiou_equ
  have h__point_of := ok__point_of (P := l.prog) (w := w) (base := base) T (defAt_mk X G a__point_of l__point_of c__point_of k__point_of) h_Ratiou_initu
  have h_verticesJ := ok_verticesJ (P := l.prog) (w := w) (base := base) T (defAt_mk X G a_verticesJ l_verticesJ c_verticesJ k_verticesJ) h__rows_of h__common_zero h__keeps h__point_of h__insertJ
  have h__law_rpair := ok__law_rpair (P := l.prog) (w := w) (base := base) T (defAt_mk X G a__law_rpair l__law_rpair c__law_rpair k__law_rpair) 
  have h__law_point := ok__law_point (P := l.prog) (w := w) (base := base) T (defAt_mk X G a__law_point l__law_point c__law_point k__law_point) h__law_rpair
  have h_is_empty := ok_is_empty (P := l.prog) (w := w) (base := base) T (defAt_mk X G a_is_empty l_is_empty c_is_empty k_is_empty) h__rows_of h__common_zero h__keeps
  exact law_of (α := amb K [C0, C1]) (fn_law T F h__law_stream h__law_draw h__law_region h__law_rnumber h__law_q h__law_mul h__law_region_as h__law_corners h_verticesJ h__law_point h_is_empty) rfl fun ns _ => ev_law
end Vs
open PySem PySem.W PyProof.Rows
set_option maxHeartbeats 0 in
theorem PySem.Challenge.cw_traproom_k04_vertices_holds : PySem.Challenge.rw_traproom_k04_vertices.Holds := by
  w_on; o_law; k_head; (case hw => w_witness2)
  k_fill
  refine L2.walk_of (l := PySem.Challenge.rw_traproom_k04_vertices) (n := 63) (k := 8) (x := "script") (CX := fun w => L2.CX PySem.Challenge.rw_traproom_k04_vertices.prog w) (sp := fun w => Vs.spLaw _) rfl (by decide) rfl ⟨rfl, by decide, by decide⟩ (fun w h Y => PySem.W.kIn_of Y) ?F (fun _ _ a ns hl _ hS => ⟨a, ns, rfl, hS, hl, fun _ => rfl⟩) (fun _ _ _ _ _ h => Vs.cx_none h)
  case F =>
    intro w mg fa h KX G hmg
    refine' Vs.all_mk KX G hmg ?aC0 ?aC1 ?a_Ratiou_initu ?i_Ratiou_initu ?l_Ratiou_initu ?c_Ratiou_initu ?k_Ratiou_initu ?lt_Ratiou_initu ?a_Ratiou_addu ?i_Ratiou_addu ?l_Ratiou_addu ?c_Ratiou_addu ?k_Ratiou_addu ?a_Ratiou_subu ?i_Ratiou_subu ?l_Ratiou_subu ?c_Ratiou_subu ?k_Ratiou_subu ?a_Ratiou_mulu ?i_Ratiou_mulu ?l_Ratiou_mulu ?c_Ratiou_mulu ?k_Ratiou_mulu ?a_Ratiou_negu ?i_Ratiou_negu ?l_Ratiou_negu ?c_Ratiou_negu ?k_Ratiou_negu ?a_Ratiou_equ ?i_Ratiou_equ ?l_Ratiou_equ ?c_Ratiou_equ ?k_Ratiou_equ ?a__law_stream ?l__law_stream ?c__law_stream ?k__law_stream ?a__law_divisor ?l__law_divisor ?c__law_divisor ?k__law_divisor ?a__law_q ?l__law_q ?c__law_q ?k__law_q ?a__law_draw ?l__law_draw ?c__law_draw ?k__law_draw ?a__law_rnumber ?l__law_rnumber ?c__law_rnumber ?k__law_rnumber ?a__law_add ?l__law_add ?c__law_add ?k__law_add ?a__law_unit ?l__law_unit ?c__law_unit ?k__law_unit ?a__law_region ?l__law_region ?c__law_region ?k__law_region ?a__law_as ?l__law_as ?c__law_as ?k__law_as ?a__law_form_as ?l__law_form_as ?c__law_form_as ?k__law_form_as ?a__law_region_as ?l__law_region_as ?c__law_region_as ?k__law_region_as ?a__law_picks ?l__law_picks ?c__law_picks ?k__law_picks ?a__law_rover ?l__law_rover ?c__law_rover ?k__law_rover ?a__law_sub ?l__law_sub ?c__law_sub ?k__law_sub ?a__law_mul ?l__law_mul ?c__law_mul ?k__law_mul ?a__law_without ?l__law_without ?c__law_without ?k__law_without ?a__law_reduced ?l__law_reduced ?c__law_reduced ?k__law_reduced ?a__law_solution ?l__law_solution ?c__law_solution ?k__law_solution ?a__law_value ?l__law_value ?c__law_value ?k__law_value ?a__law_inside ?l__law_inside ?c__law_inside ?k__law_inside ?a__law_rless ?l__law_rless ?c__law_rless ?k__law_rless ?a__law_before ?l__law_before ?c__law_before ?k__law_before ?a__law_corners ?l__law_corners ?c__law_corners ?k__law_corners ?a__whole ?l__whole ?c__whole ?k__whole ?a__rows_of ?l__rows_of ?c__rows_of ?k__rows_of ?a__with_pivot ?l__with_pivot ?c__with_pivot ?k__with_pivot ?a__cleared ?l__cleared ?c__cleared ?k__cleared ?a__common_zero ?l__common_zero ?c__common_zero ?k__common_zero ?a__keeps ?l__keeps ?c__keeps ?k__keeps ?a_is_less ?l_is_less ?c_is_less ?k_is_less ?a_is_beforeJ ?l_is_beforeJ ?c_is_beforeJ ?k_is_beforeJ ?a__insertJ ?l__insertJ ?c__insertJ ?k__insertJ ?a__point_of ?l__point_of ?c__point_of ?k__point_of ?a_verticesJ ?l_verticesJ ?c_verticesJ ?k_verticesJ ?a__law_rpair ?l__law_rpair ?c__law_rpair ?k__law_rpair ?a__law_point ?l__law_point ?c__law_point ?k__law_point ?a_is_empty ?l_is_empty ?c_is_empty ?k_is_empty ?a_law ?l_law ?c_law ?k_law ?pg ?hd ?po ?sa ?n0 ?n1 ?sf ?nf0 ?nf1 ?nf2 ?nf3 ?nf4 ?nf5 ?ne ?ob ?kt0 ?kt1 ?kt2 ?kt3 ?kt4 ?kt5 ?ks ?kb_bool ?kb_list ?kb_tuple ?kb_int ?oa ?on ?ot ?om ?mk ?kc ?x1 ?k1 ?p1 ?t1 ?z_abs ?z_len ?z_int ?z_list ?z_tuple ?z_bool ?z_isinstance ?z_range ?z_zip ?z_enumerate ?z_any ?z_all ?z_sum ?z_repr ?z_gcd ?z_lcm ?z_combinations
    (case aC0 => k_is); (case aC1 => k_is); (case a_Ratiou_initu => k_is); (case i_Ratiou_initu => k_is); (case l_Ratiou_initu => k_is); (case c_Ratiou_initu => k_is); (case k_Ratiou_initu => k_is); (case lt_Ratiou_initu => k_is); (case a_Ratiou_addu => k_is); (case i_Ratiou_addu => k_is); (case l_Ratiou_addu => k_is); (case c_Ratiou_addu => k_is); (case k_Ratiou_addu => k_is); (case a_Ratiou_subu => k_is); (case i_Ratiou_subu => k_is); (case l_Ratiou_subu => k_is); (case c_Ratiou_subu => k_is); (case k_Ratiou_subu => k_is); (case a_Ratiou_mulu => k_is); (case i_Ratiou_mulu => k_is); (case l_Ratiou_mulu => k_is); (case c_Ratiou_mulu => k_is); (case k_Ratiou_mulu => k_is); (case a_Ratiou_negu => k_is); (case i_Ratiou_negu => k_is); (case l_Ratiou_negu => k_is); (case c_Ratiou_negu => k_is); (case k_Ratiou_negu => k_is); (case a_Ratiou_equ => k_is); (case i_Ratiou_equ => k_is); (case l_Ratiou_equ => k_is); (case c_Ratiou_equ => k_is); (case k_Ratiou_equ => k_is); (case a__law_stream => k_is); (case l__law_stream => k_is); (case c__law_stream => k_is); (case k__law_stream => k_is); (case a__law_divisor => k_is); (case l__law_divisor => k_is); (case c__law_divisor => k_is); (case k__law_divisor => k_is); (case a__law_q => k_is); (case l__law_q => k_is); (case c__law_q => k_is); (case k__law_q => k_is); (case a__law_draw => k_is); (case l__law_draw => k_is); (case c__law_draw => k_is); (case k__law_draw => k_is); (case a__law_rnumber => k_is); (case l__law_rnumber => k_is); (case c__law_rnumber => k_is); (case k__law_rnumber => k_is); (case a__law_add => k_is); (case l__law_add => k_is); (case c__law_add => k_is); (case k__law_add => k_is); (case a__law_unit => k_is); (case l__law_unit => k_is); (case c__law_unit => k_is); (case k__law_unit => k_is); (case a__law_region => k_is); (case l__law_region => k_is); (case c__law_region => k_is); (case k__law_region => k_is); (case a__law_as => k_is); (case l__law_as => k_is); (case c__law_as => k_is); (case k__law_as => k_is); (case a__law_form_as => k_is); (case l__law_form_as => k_is); (case c__law_form_as => k_is); (case k__law_form_as => k_is); (case a__law_region_as => k_is); (case l__law_region_as => k_is); (case c__law_region_as => k_is); (case k__law_region_as => k_is); (case a__law_picks => k_is); (case l__law_picks => k_is); (case c__law_picks => k_is); (case k__law_picks => k_is); (case a__law_rover => k_is); (case l__law_rover => k_is); (case c__law_rover => k_is); (case k__law_rover => k_is); (case a__law_sub => k_is); (case l__law_sub => k_is); (case c__law_sub => k_is); (case k__law_sub => k_is); (case a__law_mul => k_is); (case l__law_mul => k_is); (case c__law_mul => k_is); (case k__law_mul => k_is); (case a__law_without => k_is); (case l__law_without => k_is); (case c__law_without => k_is); (case k__law_without => k_is); (case a__law_reduced => k_is); (case l__law_reduced => k_is); (case c__law_reduced => k_is); (case k__law_reduced => k_is); (case a__law_solution => k_is); (case l__law_solution => k_is); (case c__law_solution => k_is); (case k__law_solution => k_is); (case a__law_value => k_is); (case l__law_value => k_is); (case c__law_value => k_is); (case k__law_value => k_is); (case a__law_inside => k_is); (case l__law_inside => k_is); (case c__law_inside => k_is); (case k__law_inside => k_is); (case a__law_rless => k_is); (case l__law_rless => k_is); (case c__law_rless => k_is); (case k__law_rless => k_is); (case a__law_before => k_is); (case l__law_before => k_is); (case c__law_before => k_is); (case k__law_before => k_is); (case a__law_corners => k_is); (case l__law_corners => k_is); (case c__law_corners => k_is); (case k__law_corners => k_is); (case a__whole => k_is); (case l__whole => k_is); (case c__whole => k_is); (case k__whole => k_is); (case a__rows_of => k_is); (case l__rows_of => k_is); (case c__rows_of => k_is); (case k__rows_of => k_is); (case a__with_pivot => k_is); (case l__with_pivot => k_is); (case c__with_pivot => k_is); (case k__with_pivot => k_is); (case a__cleared => k_is); (case l__cleared => k_is); (case c__cleared => k_is); (case k__cleared => k_is); (case a__common_zero => k_is); (case l__common_zero => k_is); (case c__common_zero => k_is); (case k__common_zero => k_is); (case a__keeps => k_is); (case l__keeps => k_is); (case c__keeps => k_is); (case k__keeps => k_is); (case a_is_less => k_is); (case l_is_less => k_is); (case c_is_less => k_is); (case k_is_less => k_is); (case a_is_beforeJ => k_is); (case l_is_beforeJ => k_is); (case c_is_beforeJ => k_is); (case k_is_beforeJ => k_is); (case a__insertJ => k_is); (case l__insertJ => k_is); (case c__insertJ => k_is); (case k__insertJ => k_is); (case a__point_of => k_is); (case l__point_of => k_is); (case c__point_of => k_is); (case k__point_of => k_is); (case a_verticesJ => k_is); (case l_verticesJ => k_is); (case c_verticesJ => k_is); (case k_verticesJ => k_is); (case a__law_rpair => k_is); (case l__law_rpair => k_is); (case c__law_rpair => k_is); (case k__law_rpair => k_is); (case a__law_point => k_is); (case l__law_point => k_is); (case c__law_point => k_is); (case k__law_point => k_is); (case a_is_empty => k_is); (case l_is_empty => k_is); (case c_is_empty => k_is); (case k_is_empty => k_is); (case a_law => k_is); (case l_law => k_is); (case c_law => k_is); (case k_law => k_is); (case pg => k_is); (case hd => k_is); (case po => k_is); (case sa => k_is); (case n0 => k_is); (case n1 => k_is); (case sf => k_is); (case nf0 => k_is); (case nf1 => k_is); (case nf2 => k_is); (case nf3 => k_is); (case nf4 => k_is); (case nf5 => k_is); (case ne => k_is); (case ob => k_is); (case kt0 => kit_is); (case kt1 => kit_is); (case kt2 => kit_is); (case kt3 => kit_is); (case kt4 => kit_is); (case kt5 => kit_is); (case ks => kit_is); (case kb_bool => kit_is); (case kb_list => kit_is); (case kb_tuple => kit_is); (case kb_int => kit_is); (case oa => k_is); (case on => k_is); (case ot => k_is); (case om => k_is); (case mk => k_is); (case kc => k_is); (case x1 => k_exc); (case k1 => k_is); (case p1 => k_is); (case t1 => k_is); (case z_abs => k_is); (case z_len => k_is); (case z_int => k_is); (case z_list => k_is); (case z_tuple => k_is); (case z_bool => k_is); (case z_isinstance => k_is); (case z_range => k_is); (case z_zip => k_is); (case z_enumerate => k_is); (case z_any => k_is); (case z_all => k_is); (case z_sum => k_is); (case z_repr => k_is); (case z_gcd => k_is); (case z_lcm => k_is); (case z_combinations => k_is)
