/- One disk with all its rows: what a write, a sync, a crash leave. -/
import Derived.Test.YtafhgilikcablaaDkCr2
namespace Go.Proofs.Ytafhgilikcablaa
open Go.RowKit Go.Maps
set_option linter.unusedVariables false
set_option maxRecDepth 100000

/-- two rows share no block -/
def Ap (v v' : Value) : Prop := ∀ g, v.ownBlock = some g → v'.ownBlock ≠ some g
theorem Ap.symm {v v' : Value} (h : Ap v v') : Ap v' v := fun g a b => h g b a
theorem Ap.same {v v' u : Value} (h : Ap v v') (e : u.ownBlock = v.ownBlock) : Ap u v' := fun g a => h g (by rw [← e]; exact a)
theorem Ap.new {w : World} {B n size K : Nat} {e : TypeId} {v u : Value} {xs : List Value} (h : w.ownsRow B e size v n xs) (hu : ∀ g, u.ownBlock = some g → w.heap.size ≤ g) : Ap u v := fun g a b => by
  obtain ⟨_, cur, hc⟩ := own_at h b
  have := (Array.getElem?_eq_some_iff.1 hc).1
  have := hu g a
  omega
theorem Ap.turn {w : World} {B n size : Nat} {e : TypeId} {v v' u : Value} {xs : List Value} (h : w.ownsRow B e size v n xs) (hp : Ap v' v) (hu : u.ownBlock = v'.ownBlock ∨ ∃ K, u.ownBlock = some K ∧ w.heap.size ≤ K) : Ap u v := by
  rcases hu with hu | ⟨K, hK, hle⟩
  · exact hp.same hu
  · exact Ap.new (K := 0) h (fun g hg => by rw [hK] at hg; cases hg; exact hle)
/-- a disk: its state, what was synced -/
structure DF (w : World) (D B : Nat) (v0 s0 m0 v1 s1 m1 : Value) (z0 y0 : List Int) (L0 : List Lit) (z1 y1 : List Int) (L1 : List Lit) : Prop where
  d : DSt w D B v0 s0 m0 v1 s1 m1 1073741824 z0 L0 z1 L1
  r0 : w.ownsRow B 5 1 s0 y0.length (y0.map (Value.int .u8))
  r1 : w.ownsRow B 5 1 s1 y1.length (y1.map (Value.int .u8))
  g0 : ∀ z ∈ y0, 0 ≤ z ∧ z ≤ 255
  g1 : ∀ z ∈ y1, 0 ≤ z ∧ z ≤ 255
  a1 : Ap v0 s0
  a2 : Ap v0 v1
  a3 : Ap v0 s1
  a4 : Ap s0 v1
  a5 : Ap s0 s1
  a6 : Ap v1 s1
  mm : ∀ g, m0 = .map (some g) → m1 ≠ .map (some g)
  k0 : SecK L0
  k1 : SecK L1
theorem row_far {w : World} {D B n size : Nat} {zs : List Int} {L : List Lit} {v m s : Value} {xs : List Value} (hF : FSt w B zs L v m) (hD : D < B) (h : w.ownsRow B 5 size s n xs) (ha : Ap v s) : ∀ g, s.ownBlock = some g → ¬ ofFile D v m g := fun g hg hS => by
  obtain ⟨hb, cur, hc⟩ := own_at h hg
  rcases hS with e | e | e
  · omega
  · exact ha g e hg
  · rcases hF.mp with ⟨e0, _⟩ | ⟨M, e0, _, hs⟩
    · rw [e] at e0; cases e0
    · rw [e] at e0; cases e0
      exact hs.not_cells hc
theorem far_of {v m v' m' : Value} (ha : Ap v v') (hm : ∀ g, m = .map (some g) → m' ≠ .map (some g)) : Far v m v' m' := ⟨ha, hm⟩
/-- file 0 was written -/
theorem DF.wrote0 {w w' : World} {D B : Nat} {v0 s0 m0 v1 s1 m1 : Value} {z0 y0 : List Int} {L0 : List Lit} {z1 y1 : List Int} {L1 : List Lit} {z0' : List Int} {L0' : List Lit} (h : DF w D B v0 s0 m0 v1 s1 m1 z0 y0 L0 z1 y1 L1) (hk : SecK L0')
    (hp : FPost w D 0 B #[v0, s0, m0, v1, s1, m1, .int .i64 1073741824, .bool false, .int .i64 0, .bool false] 94 v0 m0 z0' L0' w') : ∃ v0' m0', DF w' D B v0' s0 m0' v1 s1 m1 z0' y0 L0' z1 y1 L1 ∧ Only (ofFile D v0 m0) w w' ∧ (v0'.ownBlock = v0.ownBlock ∨ ∃ K, v0'.ownBlock = some K ∧ w.heap.size ≤ K) ∧ (m0' = m0 ∨ ∃ K, m0' = .map (some K) ∧ w.heap.size ≤ K) := by
  obtain ⟨v', m', k1, k2, k3, k4, k5⟩ := hp
  refine ⟨v', m', ⟨⟨k2, h.d.lt, Nat.le_trans h.d.le k3.size, k1, h.d.f1.stays h.d.box h.d.f0 k3 (far_of h.a2.symm (fun g a b => h.mm g b a))⟩, own_only h.r0 k3 (row_far h.d.f0 h.d.lt h.r0 h.a1), own_only h.r1 k3 (row_far h.d.f0 h.d.lt h.r1 h.a3), h.g0, h.g1, Ap.turn h.r0 h.a1 k4, Ap.turn h.d.f1.own h.a2 k4, Ap.turn h.r1 h.a3 k4, h.a4, h.a5, h.a6, fun g hg e => ?_, hk, h.k1⟩, k3, k4, k5⟩
  rcases k5 with k5 | ⟨K, hK, hle⟩
  · exact h.mm g (by rw [← k5, hg]) e
  · rw [hg] at hK
    cases hK
    rcases h.d.f1.mp with ⟨e0, _⟩ | ⟨M, e0, _, hs⟩
    · rw [e] at e0; cases e0
    · rw [e] at e0; cases e0
      have := hs.lt
      omega
/-- file 1 was written -/
theorem DF.wrote1 {w w' : World} {D B : Nat} {v0 s0 m0 v1 s1 m1 : Value} {z0 y0 : List Int} {L0 : List Lit} {z1 y1 : List Int} {L1 : List Lit} {z1' : List Int} {L1' : List Lit} (h : DF w D B v0 s0 m0 v1 s1 m1 z0 y0 L0 z1 y1 L1) (hk : SecK L1')
    (hp : FPost w D 3 B #[v0, s0, m0, v1, s1, m1, .int .i64 1073741824, .bool false, .int .i64 0, .bool false] 94 v1 m1 z1' L1' w') : ∃ v1' m1', DF w' D B v0 s0 m0 v1' s1 m1' z0 y0 L0 z1' y1 L1' ∧ Only (ofFile D v1 m1) w w' := by
  obtain ⟨v', m', k1, k2, k3, k4, k5⟩ := hp
  refine ⟨v', m', ⟨⟨k2, h.d.lt, Nat.le_trans h.d.le k3.size, h.d.f0.stays h.d.box h.d.f1 k3 (far_of h.a2 h.mm), k1⟩, own_only h.r0 k3 (row_far h.d.f1 h.d.lt h.r0 h.a4.symm), own_only h.r1 k3 (row_far h.d.f1 h.d.lt h.r1 h.a6), h.g0, h.g1, h.a1, (Ap.turn h.d.f0.own h.a2.symm k4).symm, h.a3, (Ap.turn h.r0 h.a4.symm k4).symm, h.a5, Ap.turn h.r1 h.a6 k4, fun g hg e => ?_, h.k0, hk⟩, k3⟩
  rcases k5 with k5 | ⟨K, hK, hle⟩
  · exact h.mm g hg (by rw [← k5, e])
  · rw [e] at hK
    cases hK
    rcases h.d.f0.mp with ⟨e0, _⟩ | ⟨M, e0, _, hs⟩
    · rw [hg] at e0; cases e0
    · rw [hg] at e0; cases e0
      have := hs.lt
      omega
/-- nothing of it was touched -/
theorem DF.only {S : Nat → Prop} {w w' : World} {D B : Nat} {v0 s0 m0 v1 s1 m1 : Value} {z0 y0 : List Int} {L0 : List Lit} {z1 y1 : List Int} {L1 : List Lit} (h : DF w D B v0 s0 m0 v1 s1 m1 z0 y0 L0 z1 y1 L1) (k : Only S w w') (hS : ∀ i, S i → False) : DF w' D B v0 s0 m0 v1 s1 m1 z0 y0 L0 z1 y1 L1 :=
  ⟨⟨(k.block D (Array.getElem?_eq_some_iff.1 h.d.box).1 (fun e => hS _ e)).trans h.d.box, h.d.lt, Nat.le_trans h.d.le k.size, h.d.f0.only k (fun g _ e => hS g e) (fun g _ e => hS g e), h.d.f1.only k (fun g _ e => hS g e) (fun g _ e => hS g e)⟩, own_only h.r0 k (fun g _ e => hS g e), own_only h.r1 k (fun g _ e => hS g e), h.g0, h.g1, h.a1, h.a2, h.a3, h.a4, h.a5, h.a6, h.mm, h.k0, h.k1⟩
theorem DF.below {w w' : World} {D B : Nat} {v0 s0 m0 v1 s1 m1 : Value} {z0 y0 : List Int} {L0 : List Lit} {z1 y1 : List Int} {L1 : List Lit} (h : DF w D B v0 s0 m0 v1 s1 m1 z0 y0 L0 z1 y1 L1) (hb : Below w.heap.size w w') : DF w' D B v0 s0 m0 v1 s1 m1 z0 y0 L0 z1 y1 L1 := h.only (Only.below hb) (fun _ => id)
/-- file 0 was synced for the first time -/
theorem DF.synced0 {w w' : World} {D B : Nat} {v0 s0 m0 v1 s1 m1 : Value} {z0 y0 : List Int} {L0 : List Lit} {z1 y1 : List Int} {L1 : List Lit} (h : DF w D B v0 s0 m0 v1 s1 m1 z0 y0 L0 z1 y1 L1)
    (hp : Settled w D 0 #[v0, s0, m0, v1, s1, m1, .int .i64 1073741824, .bool false, .int .i64 0, .bool false] 94 z0 w') : ∃ s0', DF w' D B v0 s0' (.map none) v1 s1 m1 z0 z0 [] z1 y1 L1 := by
  obtain ⟨s', k1, k2, k3⟩ := hp
  have hd : ∀ {g : Nat}, B ≤ g → g ≠ D := fun hg e => by have := h.d.lt; omega
  have f1 : FSt w' B z1 L1 v1 m1 := h.d.f1.only k3 (fun g hg => hd (own_at h.d.f1.own hg).1) (fun g hg => by
    rcases h.d.f1.mp with ⟨e0, _⟩ | ⟨M, e0, hb, _⟩
    · rw [hg] at e0; cases e0
    · rw [hg] at e0; cases e0; exact hd hb)
  have hn : ∀ g, s'.ownBlock = some g → w.heap.size ≤ g := fun g hg => (own_at k1 hg).1
  refine ⟨s', ⟨k2, h.d.lt, Nat.le_trans h.d.le k3.size, ⟨own_only h.d.f0.own k3 (fun g hg => hd (own_at h.d.f0.own hg).1), h.d.f0.rg, .inl ⟨rfl, rfl⟩⟩, f1⟩, own_base k1 h.d.le, own_only h.r1 k3 (fun g hg => hd (own_at h.r1 hg).1), h.d.f0.rg, h.g1, (Ap.new (K := 0) h.d.f0.own hn).symm, h.a2, h.a3, Ap.new (K := 0) h.d.f1.own hn, Ap.new (K := 0) h.r1 hn, h.a6, fun g hg => (by cases hg), fun k hk => (by cases hk), h.k1⟩
/-- file 1 was synced for the first time -/
theorem DF.synced1 {w w' : World} {D B : Nat} {v0 s0 m0 v1 s1 m1 : Value} {z0 y0 : List Int} {L0 : List Lit} {z1 y1 : List Int} {L1 : List Lit} (h : DF w D B v0 s0 m0 v1 s1 m1 z0 y0 L0 z1 y1 L1)
    (hp : Settled w D 3 #[v0, s0, m0, v1, s1, m1, .int .i64 1073741824, .bool false, .int .i64 0, .bool false] 94 z1 w') : ∃ s1', DF w' D B v0 s0 m0 v1 s1' (.map none) z0 y0 L0 z1 z1 [] := by
  obtain ⟨s', k1, k2, k3⟩ := hp
  have hd : ∀ {g : Nat}, B ≤ g → g ≠ D := fun hg e => by have := h.d.lt; omega
  have f0 : FSt w' B z0 L0 v0 m0 := h.d.f0.only k3 (fun g hg => hd (own_at h.d.f0.own hg).1) (fun g hg => by
    rcases h.d.f0.mp with ⟨e0, _⟩ | ⟨M, e0, hb, _⟩
    · rw [hg] at e0; cases e0
    · rw [hg] at e0; cases e0; exact hd hb)
  have hn : ∀ g, s'.ownBlock = some g → w.heap.size ≤ g := fun g hg => (own_at k1 hg).1
  refine ⟨s', ⟨k2, h.d.lt, Nat.le_trans h.d.le k3.size, f0, ⟨own_only h.d.f1.own k3 (fun g hg => hd (own_at h.d.f1.own hg).1), h.d.f1.rg, .inl ⟨rfl, rfl⟩⟩⟩, own_only h.r0 k3 (fun g hg => hd (own_at h.r0 hg).1), own_base k1 h.d.le, h.g0, h.d.f1.rg, h.a1, h.a2, (Ap.new (K := 0) h.d.f0.own hn).symm, h.a4, (Ap.new (K := 0) h.r0 hn).symm, (Ap.new (K := 0) h.d.f1.own hn).symm, fun g hg e => (by cases e), h.k0, fun k hk => (by cases hk)⟩
/-- its first file, ready to be left by a crash -/
theorem DF.rows0 {w : World} {D B : Nat} {v0 s0 m0 v1 s1 m1 : Value} {z0 y0 : List Int} {L0 : List Lit} {z1 y1 : List Int} {L1 : List Lit} (h : DF w D B v0 s0 m0 v1 s1 m1 z0 y0 L0 z1 y1 L1) : Rows2 w D 0 B #[v0, s0, m0, v1, s1, m1, .int .i64 1073741824, .bool false, .int .i64 0, .bool false] 94 v0 s0 z0 y0 :=
  ⟨h.d.box, rfl, rfl, h.d.lt, h.d.f0.own, h.r0, h.d.f0.rg, h.g0, h.a1⟩
theorem DF.rows1 {w : World} {D B : Nat} {v0 s0 m0 v1 s1 m1 : Value} {z0 y0 : List Int} {L0 : List Lit} {z1 y1 : List Int} {L1 : List Lit} (h : DF w D B v0 s0 m0 v1 s1 m1 z0 y0 L0 z1 y1 L1) : Rows2 w D 3 B #[v0, s0, m0, v1, s1, m1, .int .i64 1073741824, .bool false, .int .i64 0, .bool false] 94 v1 s1 z1 y1 :=
  ⟨h.d.box, rfl, rfl, h.d.lt, h.d.f1.own, h.r1, h.d.f1.rg, h.g1, h.a6⟩
theorem crashed0 {w w' : World} {D B : Nat} {v0 s0 m0 v1 s1 m1 : Value} {z0 y0 zs : List Int} {L0 : List Lit} {z1 y1 : List Int} {L1 : List Lit} (h : DF w D B v0 s0 m0 v1 s1 m1 z0 y0 L0 z1 y1 L1)
    (hp : Crashed w D 0 B #[v0, s0, m0, v1, s1, m1, .int .i64 1073741824, .bool false, .int .i64 0, .bool false] 94 v0 zs w') : ∃ v0' s0', DF w' D B v0' s0' (.map none) v1 s1 m1 zs zs [] z1 y1 L1 ∧ Only (ofFile D v0 m0) w w' := by
  obtain ⟨v', s', k1, k2, kr, kv, k3, k4⟩ := hp
  have hon : Only (ofFile D v0 m0) w w' := k4.mono (fun i hi => hi.elim .inl (fun h => .inr (.inl h)))
  have hn : ∀ g, s'.ownBlock = some g → w.heap.size ≤ g := fun g hg => (own_at k2 hg).1
  have f1 := h.d.f1.stays h.d.box h.d.f0 hon (far_of h.a2.symm (fun g a b => h.mm g b a))
  refine ⟨v', s', ⟨⟨k3, h.d.lt, Nat.le_trans h.d.le k4.size, ⟨k1, kr, .inl ⟨rfl, rfl⟩⟩, f1⟩, own_base k2 h.d.le, own_only h.r1 hon (row_far h.d.f0 h.d.lt h.r1 h.a3), kr, h.g1, ?_, h.a2.same kv, h.a3.same kv, Ap.new (K := 0) h.d.f1.own hn, Ap.new (K := 0) h.r1 hn, h.a6, fun g hg => (by cases hg), fun k hk => (by cases hk), h.k1⟩, hon⟩
  exact ((Ap.new (K := 0) h.d.f0.own hn).symm).same kv
theorem crashed1 {w w' : World} {D B : Nat} {v0 s0 m0 v1 s1 m1 : Value} {z0 y0 zs : List Int} {L0 : List Lit} {z1 y1 : List Int} {L1 : List Lit} (h : DF w D B v0 s0 m0 v1 s1 m1 z0 y0 L0 z1 y1 L1)
    (hp : Crashed w D 3 B #[v0, s0, m0, v1, s1, m1, .int .i64 1073741824, .bool false, .int .i64 0, .bool false] 94 v1 zs w') : ∃ v1' s1', DF w' D B v0 s0 m0 v1' s1' (.map none) z0 y0 L0 zs zs [] ∧ Only (ofFile D v1 m1) w w' := by
  obtain ⟨v', s', k1, k2, kr, kv, k3, k4⟩ := hp
  have hon : Only (ofFile D v1 m1) w w' := k4.mono (fun i hi => hi.elim .inl (fun h => .inr (.inl h)))
  have hn : ∀ g, s'.ownBlock = some g → w.heap.size ≤ g := fun g hg => (own_at k2 hg).1
  have f0 := h.d.f0.stays h.d.box h.d.f1 hon (far_of h.a2 h.mm)
  refine ⟨v', s', ⟨⟨k3, h.d.lt, Nat.le_trans h.d.le k4.size, f0, ⟨k1, kr, .inl ⟨rfl, rfl⟩⟩⟩, own_only h.r0 hon (row_far h.d.f1 h.d.lt h.r0 h.a4.symm), own_base k2 h.d.le, h.g0, kr, h.a1, (h.a2.symm.same kv).symm, (Ap.new (K := 0) h.d.f0.own hn).symm, (h.a4.symm.same kv).symm, (Ap.new (K := 0) h.r0 hn).symm, ?_, fun g hg e => (by cases e), h.k0, fun k hk => (by cases hk)⟩, hon⟩
  exact ((Ap.new (K := 0) h.d.f1.own hn).symm).same kv

set_option maxHeartbeats 1600000 in
theorem dsync0 (w : World) (D B : Nat) (v0 m0 v1 s1 m1 : Value) (z0 : List Int) (L0 : List Lit) (z1 y1 : List Int) (L1 : List Lit) (h : DF w D B v0 (.slice none 0 0) m0 v1 s1 m1 z0 [] L0 z1 y1 L1) (hz : z0.length ≤ 1000000) :
    Calls Try.prog 43 #[.pointer (some ⟨D, 0, none⟩), .int .i64 0] w fun e w' => e = .returned (.int .i64 0) ∧ (∃ s0', DF w' D B v0 s0' (.map none) v1 s1 m1 z0 z0 [] z1 y1 L1) ∧ Only (fun i => i = D) w w' := by
  have d7 := cell_of_row w D 7 _ _ _ h.d.box
  have d9 := cell_of_row w D 9 _ _ _ h.d.box
  simp only [List.getElem?_toArray, List.getElem?_cons_zero, List.getElem?_cons_succ] at d7 d9
  have H := Lib.hid h
  clear h
  go_enter Try.func43, Try.ntmps43
  go_wp2_with fail
  refine (ready_ok D 0 (.inl rfl) _ d9).mono ?_
  rintro e w1 ⟨rfl, hw⟩
  subst hw
  go_wp2_with fail
  refine (change_ok D _ d7).mono ?_
  rintro e w2 ⟨rfl, hw⟩
  subst hw
  go_wp2_with fail
  refine (settle_new _ D 0 B _ _ z0 L0 v0 m0 H.out.d.box rfl rfl rfl H.out.d.f0 hz H.out.k0).mono ?_
  rintro e w3 ⟨rfl, hs⟩
  have HS := Lib.hid hs
  clear hs
  go_wp2
  go_ret
  exact ⟨rfl, H.out.synced0 HS.out, by obtain ⟨_, _, _, k⟩ := HS.out; exact k⟩
set_option maxHeartbeats 1600000 in
theorem dsync1 (w : World) (D B : Nat) (v0 s0 m0 v1 m1 : Value) (z0 y0 : List Int) (L0 : List Lit) (z1 : List Int) (L1 : List Lit) (h : DF w D B v0 s0 m0 v1 (.slice none 0 0) m1 z0 y0 L0 z1 [] L1) (hz : z1.length ≤ 1000000) :
    Calls Try.prog 43 #[.pointer (some ⟨D, 0, none⟩), .int .i64 1] w fun e w' => e = .returned (.int .i64 0) ∧ (∃ s1', DF w' D B v0 s0 m0 v1 s1' (.map none) z0 y0 L0 z1 z1 []) ∧ Only (fun i => i = D) w w' := by
  have d7 := cell_of_row w D 7 _ _ _ h.d.box
  have d9 := cell_of_row w D 9 _ _ _ h.d.box
  simp only [List.getElem?_toArray, List.getElem?_cons_zero, List.getElem?_cons_succ] at d7 d9
  have H := Lib.hid h
  clear h
  go_enter Try.func43, Try.ntmps43
  go_wp2_with fail
  refine (ready_ok D 1 (.inr rfl) _ d9).mono ?_
  rintro e w1 ⟨rfl, hw⟩
  subst hw
  go_wp2_with fail
  refine (change_ok D _ d7).mono ?_
  rintro e w2 ⟨rfl, hw⟩
  subst hw
  go_wp2_with fail
  refine (settle_new _ D 3 B _ _ z1 L1 v1 m1 H.out.d.box rfl rfl rfl H.out.d.f1 hz H.out.k1).mono ?_
  rintro e w3 ⟨rfl, hs⟩
  have HS := Lib.hid hs
  clear hs
  go_wp2
  go_ret
  exact ⟨rfl, H.out.synced1 HS.out, by obtain ⟨_, _, _, k⟩ := HS.out; exact k⟩
end Go.Proofs.Ytafhgilikcablaa
