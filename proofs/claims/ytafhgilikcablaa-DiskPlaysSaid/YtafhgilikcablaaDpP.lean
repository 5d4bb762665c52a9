/- The program's disk in any state: what each change leaves. -/
import Derived.Test.YtafhgilikcablaaDpA
import Derived.Test.YtafhgilikcablaaDpTr
import Derived.Test.YtafhgilikcablaaDpWr
import Derived.Test.YtafhgilikcablaaDkCz
namespace Go.Proofs.Ytafhgilikcablaa
open Go.RowKit Go.Maps
set_option linter.unusedVariables false
set_option maxRecDepth 100000

/-- its cells -/
def pCs (v0 s0 m0 v1 s1 m1 : Value) (a : DA) : Array Value := #[v0, s0, m0, v1, s1, m1, .int .i64 a.R, .bool a.armed, .int .i64 a.fu, .bool a.down]
structure PC (w : World) (D B : Nat) (v0 s0 m0 v1 s1 m1 : Value) (a : DA) : Prop where
  box : w.heap[D]? = some (.cells (pCs v0 s0 m0 v1 s1 m1 a) 94 (0, 0))
  lt : D < B
  le : B ≤ w.heap.size
  f0 : FSt w B a.f0.zs a.f0.L v0 m0
  f1 : FSt w B a.f1.zs a.f1.L v1 m1
  r0 : w.ownsRow B 5 1 s0 a.f0.ys.length (a.f0.ys.map (Value.int .u8))
  r1 : w.ownsRow B 5 1 s1 a.f1.ys.length (a.f1.ys.map (Value.int .u8))
  a1 : Ap v0 s0
  a2 : Ap v0 v1
  a3 : Ap v0 s1
  a4 : Ap s0 v1
  a5 : Ap s0 s1
  a6 : Ap v1 s1
  mm : ∀ g, m0 = .map (some g) → m1 ≠ .map (some g)
/-- the blocks that are its own -/
def pS (D : Nat) (v0 s0 m0 v1 s1 m1 : Value) (i : Nat) : Prop :=
  i = D ∨ v0.ownBlock = some i ∨ s0.ownBlock = some i ∨ m0 = .map (some i) ∨ v1.ownBlock = some i ∨ s1.ownBlock = some i ∨ m1 = .map (some i)
theorem fst_map {w : World} {B : Nat} {zs : List Int} {L : List Lit} {v m : Value} (h : FSt w B zs L v m) {g : Nat} (e : m = .map (some g)) : B ≤ g ∧ g < w.heap.size ∧ ∀ cs T x, w.heap[g]? ≠ some (.cells cs T x) := by
  rcases h.mp with ⟨e0, _⟩ | ⟨M, e0, b, hs⟩
  · rw [e] at e0; cases e0
  · rw [e] at e0; cases e0
    exact ⟨b, hs.lt, fun cs T x hx => hs.not_cells hx⟩
theorem own_lt {w : World} {B n size : Nat} {e : TypeId} {v : Value} {xs : List Value} (h : w.ownsRow B e size v n xs) {g : Nat} (hg : v.ownBlock = some g) : B ≤ g ∧ g < w.heap.size := by
  obtain ⟨h1, cur, hc⟩ := own_at h hg
  exact ⟨h1, (Array.getElem?_eq_some_iff.1 hc).1⟩
/-- a row's block is no map -/
theorem row_map {w : World} {B n size : Nat} {e : TypeId} {v : Value} {xs : List Value} (h : w.ownsRow B e size v n xs) {zs : List Int} {L : List Lit} {v' m : Value} (hF : FSt w B zs L v' m) {g : Nat} (hg : v.ownBlock = some g) : m ≠ .map (some g) := fun e => by
  obtain ⟨_, cur, hc⟩ := own_at h hg
  exact (fst_map hF e).2.2 _ _ _ hc
theorem PC.bound {w : World} {D B : Nat} {v0 s0 m0 v1 s1 m1 : Value} {a : DA} (h : PC w D B v0 s0 m0 v1 s1 m1 a) {i : Nat} (hi : pS D v0 s0 m0 v1 s1 m1 i) : D ≤ i ∧ i < w.heap.size := by
  have := h.lt
  have := h.le
  rcases hi with e | e | e | e | e | e | e
  · omega
  · have := own_lt h.f0.own e; omega
  · have := own_lt h.r0 e; omega
  · have := fst_map h.f0 e; omega
  · have := own_lt h.f1.own e; omega
  · have := own_lt h.r1 e; omega
  · have := fst_map h.f1 e; omega
theorem PC.only {S : Nat → Prop} {w w' : World} {D B : Nat} {v0 s0 m0 v1 s1 m1 : Value} {a : DA} (h : PC w D B v0 s0 m0 v1 s1 m1 a) (k : Only S w w') (hS : ∀ i, pS D v0 s0 m0 v1 s1 m1 i → ¬ S i) : PC w' D B v0 s0 m0 v1 s1 m1 a :=
  ⟨(k.block D (Array.getElem?_eq_some_iff.1 h.box).1 (hS D (.inl rfl))).trans h.box, h.lt, Nat.le_trans h.le k.size,
   h.f0.only k (fun g hg => hS g (.inr (.inl hg))) (fun g hg => hS g (.inr (.inr (.inr (.inl hg))))),
   h.f1.only k (fun g hg => hS g (.inr (.inr (.inr (.inr (.inl hg)))))) (fun g hg => hS g (.inr (.inr (.inr (.inr (.inr (.inr hg))))))),
   own_only h.r0 k (fun g hg => hS g (.inr (.inr (.inl hg)))), own_only h.r1 k (fun g hg => hS g (.inr (.inr (.inr (.inr (.inr (.inl hg))))))),
   h.a1, h.a2, h.a3, h.a4, h.a5, h.a6, h.mm⟩
theorem PC.below {w w' : World} {D B : Nat} {v0 s0 m0 v1 s1 m1 : Value} {a : DA} (h : PC w D B v0 s0 m0 v1 s1 m1 a) (hb : Below w.heap.size w w') : PC w' D B v0 s0 m0 v1 s1 m1 a := h.only (Only.below hb) (fun _ _ => id)
/-- only its numbers -/
theorem PC.scal {w w' : World} {D B : Nat} {v0 s0 m0 v1 s1 m1 : Value} {a a' : DA} (h : PC w D B v0 s0 m0 v1 s1 m1 a) (e0 : a'.f0 = a.f0) (e1 : a'.f1 = a.f1) (hb : w'.heap[D]? = some (.cells (pCs v0 s0 m0 v1 s1 m1 a') 94 (0, 0))) (k : Only (fun i => i = D) w w') : PC w' D B v0 s0 m0 v1 s1 m1 a' := by
  have hd : ∀ {g : Nat}, B ≤ g → ¬ g = D := fun hg e => by have := h.lt; omega
  refine ⟨hb, h.lt, Nat.le_trans h.le k.size, ?_, ?_, ?_, ?_, h.a1, h.a2, h.a3, h.a4, h.a5, h.a6, h.mm⟩
  · rw [e0]; exact h.f0.only k (fun g hg => hd (own_lt h.f0.own hg).1) (fun g hg => hd (fst_map h.f0 hg).1)
  · rw [e1]; exact h.f1.only k (fun g hg => hd (own_lt h.f1.own hg).1) (fun g hg => hd (fst_map h.f1 hg).1)
  · rw [e0]; exact own_only h.r0 k (fun g hg => hd (own_lt h.r0 hg).1)
  · rw [e1]; exact own_only h.r1 k (fun g hg => hd (own_lt h.r1 hg).1)
/-- what a change leaves: a disk in a state, of its old blocks and new ones -/
def PPost (w : World) (D B : Nat) (v0 s0 m0 v1 s1 m1 : Value) (a' : DA) (w' : World) : Prop :=
  ∃ u0 t0 n0 u1 t1 n1, PC w' D B u0 t0 n0 u1 t1 n1 a' ∧ (∀ i, pS D u0 t0 n0 u1 t1 n1 i → pS D v0 s0 m0 v1 s1 m1 i ∨ w.heap.size ≤ i) ∧ Only (pS D v0 s0 m0 v1 s1 m1) w w'
theorem PC.same {w w' : World} {D B : Nat} {v0 s0 m0 v1 s1 m1 : Value} {a a' : DA} (h : PC w' D B v0 s0 m0 v1 s1 m1 a') (k : Only (fun i => i = D) w w') : PPost w D B v0 s0 m0 v1 s1 m1 a' w' :=
  ⟨_, _, _, _, _, _, h, fun i hi => .inl hi, k.mono (fun i hi => .inl hi)⟩
theorem PPost.from {w w1 w' : World} {D B : Nat} {v0 s0 m0 v1 s1 m1 : Value} {a' : DA} (k : Only (fun i => i = D) w w1) (h : PPost w1 D B v0 s0 m0 v1 s1 m1 a' w') : PPost w D B v0 s0 m0 v1 s1 m1 a' w' := by
  obtain ⟨u0, t0, n0, u1, t1, n1, h1, h2, h3⟩ := h
  exact ⟨_, _, _, _, _, _, h1, fun i hi => (h2 i hi).imp id (fun h => Nat.le_trans k.size h), (k.mono (fun i hi => .inl hi)).trans h3⟩
theorem ob_new {v v' : Value} {w : World} (h : v'.ownBlock = v.ownBlock ∨ ∃ K, v'.ownBlock = some K ∧ w.heap.size ≤ K) {i : Nat} (hi : v'.ownBlock = some i) : v.ownBlock = some i ∨ w.heap.size ≤ i := by
  rcases h with h | ⟨K, h1, h2⟩
  · exact .inl (h.symm.trans hi)
  · rw [h1] at hi; cases hi; exact .inr h2
theorem ap_of {w : World} {B n size : Nat} {e : TypeId} {v v' u : Value} {xs : List Value} (h : w.ownsRow B e size v n xs) (hp : Ap v' v) (hu : u.ownBlock = v'.ownBlock ∨ ∃ K, u.ownBlock = some K ∧ w.heap.size ≤ K) : Ap u v := Ap.turn h hp hu
/-- file 0 was written -/
theorem PC.wrote0 {w w' : World} {D B : Nat} {v0 s0 m0 v1 s1 m1 : Value} {a : DA} {zs : List Int} {L : List Lit} (h : PC w D B v0 s0 m0 v1 s1 m1 a) (hp : FPost w D 0 B (pCs v0 s0 m0 v1 s1 m1 a) 94 v0 m0 zs L w') :
    PPost w D B v0 s0 m0 v1 s1 m1 { a with f0 := ⟨zs, a.f0.ys, L⟩ } w' := by
  obtain ⟨v', m', k1, k2, k3, k4, k5⟩ := hp
  have hS : ∀ i, ofFile D v0 m0 i → pS D v0 s0 m0 v1 s1 m1 i := fun i hi => hi.elim .inl (fun h => h.elim (fun h => .inr (.inl h)) (fun h => .inr (.inr (.inr (.inl h)))))
  have no : ∀ {g : Nat}, B ≤ g → v0.ownBlock ≠ some g → m0 ≠ .map (some g) → ¬ ofFile D v0 m0 g := fun h1 h2 h3 hS => by
    have := h.lt
    rcases hS with e | e | e
    · omega
    · exact h2 e
    · exact h3 e
  have mk : ∀ {g : Nat}, m1 = .map (some g) → v0.ownBlock ≠ some g := fun hm e => row_map h.f0.own h.f1 e hm
  refine ⟨v', s0, m', v1, s1, m1, ⟨k2, h.lt, Nat.le_trans h.le k3.size, k1, h.f1.only k3 (fun g hg => no (own_lt h.f1.own hg).1 (fun e => h.a2 g e hg) (row_map h.f1.own h.f0 hg)) (fun g hg => no (fst_map h.f1 hg).1 (mk hg) (fun e => h.mm g e hg)),
    own_only h.r0 k3 (fun g hg => no (own_lt h.r0 hg).1 (fun e => h.a1 g e hg) (row_map h.r0 h.f0 hg)), own_only h.r1 k3 (fun g hg => no (own_lt h.r1 hg).1 (fun e => h.a3 g e hg) (row_map h.r1 h.f0 hg)),
    Ap.turn h.r0 h.a1 k4, Ap.turn h.f1.own h.a2 k4, Ap.turn h.r1 h.a3 k4, h.a4, h.a5, h.a6, fun g hg e => ?_⟩, fun i hi => ?_, k3.mono hS⟩
  · rcases k5 with k5 | ⟨K, hK, hle⟩
    · exact h.mm g (by rw [← k5, hg]) e
    · rw [hg] at hK
      cases hK
      have := fst_map h.f1 e
      omega
  · rcases hi with e | e | e | e | e | e | e
    · exact .inl (.inl e)
    · exact (ob_new k4 e).imp (fun h => .inr (.inl h)) id
    · exact .inl (.inr (.inr (.inl e)))
    · rcases k5 with k5 | ⟨K, hK, hle⟩
      · exact .inl (.inr (.inr (.inr (.inl (k5.symm.trans e)))))
      · rw [e] at hK; cases hK; exact .inr hle
    · exact .inl (.inr (.inr (.inr (.inr (.inl e)))))
    · exact .inl (.inr (.inr (.inr (.inr (.inr (.inl e))))))
    · exact .inl (.inr (.inr (.inr (.inr (.inr (.inr e))))))
/-- file 1 was written -/
theorem PC.wrote1 {w w' : World} {D B : Nat} {v0 s0 m0 v1 s1 m1 : Value} {a : DA} {zs : List Int} {L : List Lit} (h : PC w D B v0 s0 m0 v1 s1 m1 a) (hp : FPost w D 3 B (pCs v0 s0 m0 v1 s1 m1 a) 94 v1 m1 zs L w') :
    PPost w D B v0 s0 m0 v1 s1 m1 { a with f1 := ⟨zs, a.f1.ys, L⟩ } w' := by
  obtain ⟨v', m', k1, k2, k3, k4, k5⟩ := hp
  have hS : ∀ i, ofFile D v1 m1 i → pS D v0 s0 m0 v1 s1 m1 i := fun i hi => hi.elim .inl (fun h => h.elim (fun h => .inr (.inr (.inr (.inr (.inl h))))) (fun h => .inr (.inr (.inr (.inr (.inr (.inr h)))))))
  have no : ∀ {g : Nat}, B ≤ g → v1.ownBlock ≠ some g → m1 ≠ .map (some g) → ¬ ofFile D v1 m1 g := fun h1 h2 h3 hS => by
    have := h.lt
    rcases hS with e | e | e
    · omega
    · exact h2 e
    · exact h3 e
  have mk : ∀ {g : Nat}, m0 = .map (some g) → v1.ownBlock ≠ some g := fun hm e => row_map h.f1.own h.f0 e hm
  refine ⟨v0, s0, m0, v', s1, m', ⟨k2, h.lt, Nat.le_trans h.le k3.size, h.f0.only k3 (fun g hg => no (own_lt h.f0.own hg).1 (fun e => h.a2 g hg e) (row_map h.f0.own h.f1 hg)) (fun g hg => no (fst_map h.f0 hg).1 (mk hg) (fun e => h.mm g hg e)), k1,
    own_only h.r0 k3 (fun g hg => no (own_lt h.r0 hg).1 (fun e => h.a4 g hg e) (row_map h.r0 h.f1 hg)), own_only h.r1 k3 (fun g hg => no (own_lt h.r1 hg).1 (fun e => h.a6 g e hg) (row_map h.r1 h.f1 hg)),
    h.a1, (Ap.turn h.f0.own h.a2.symm k4).symm, h.a3, (Ap.turn h.r0 h.a4.symm k4).symm, h.a5, Ap.turn h.r1 h.a6 k4, fun g hg e => ?_⟩, fun i hi => ?_, k3.mono hS⟩
  · rcases k5 with k5 | ⟨K, hK, hle⟩
    · exact h.mm g hg (by rw [← k5, e])
    · rw [e] at hK
      cases hK
      have := fst_map h.f0 hg
      omega
  · rcases hi with e | e | e | e | e | e | e
    · exact .inl (.inl e)
    · exact .inl (.inr (.inl e))
    · exact .inl (.inr (.inr (.inl e)))
    · exact .inl (.inr (.inr (.inr (.inl e))))
    · exact (ob_new k4 e).imp (fun h => .inr (.inr (.inr (.inr (.inl h))))) id
    · exact .inl (.inr (.inr (.inr (.inr (.inr (.inl e))))))
    · rcases k5 with k5 | ⟨K, hK, hle⟩
      · exact .inl (.inr (.inr (.inr (.inr (.inr (.inr (k5.symm.trans e)))))))
      · rw [e] at hK; cases hK; exact .inr hle
/-- file 0 was settled: its row is v (the same block) -/
theorem PC.settled0 {w w' : World} {D B : Nat} {v v0 s0 m0 v1 s1 m1 : Value} {a : DA} {x : FA} (h : PC w D B v0 s0 m0 v1 s1 m1 a) {zs : List Int} (hx : x = ⟨zs, zs, []⟩) {wd : World} (hv : v.ownBlock = v0.ownBlock) (hd : Only (fun i => i = D) w wd) (hown : wd.ownsRow B 5 1 v zs.length (zs.map (Value.int .u8))) (hrz : ∀ z ∈ zs, 0 ≤ z ∧ z ≤ 255)
    (hp : SetP wd D 0 B ((pCs v0 s0 m0 v1 s1 m1 a).setIfInBounds 0 v) 94 s0 zs w') :
    PPost w D B v0 s0 m0 v1 s1 m1 { a with f0 := x } w' := by
  subst hx
  obtain ⟨s', k1, k2, k3, k4⟩ := hp
  have no : ∀ {g : Nat}, B ≤ g → s0.ownBlock ≠ some g → ¬ (g = D ∨ s0.ownBlock = some g) := fun h1 h2 hS => by
    have := h.lt
    rcases hS with e | e
    · omega
    · exact h2 e
  have hd' : ∀ {g : Nat}, B ≤ g → ¬ g = D := fun hg e => by have := h.lt; omega
  have kk : Only (fun i => i = D ∨ s0.ownBlock = some i) w w' := (hd.mono (fun i hi => .inl hi)).trans k3
  have k4' : s'.ownBlock = s0.ownBlock ∨ ∃ K, s'.ownBlock = some K ∧ w.heap.size ≤ K := k4.imp id (fun ⟨K, h1, h2⟩ => ⟨K, h1, Nat.le_trans hd.size h2⟩)
  have av : Ap v s0 := h.a1.same hv
  refine ⟨v, s', .map none, v1, s1, m1, ⟨k2, h.lt, Nat.le_trans h.le kk.size, ⟨own_only hown k3 (fun g hg => no (own_lt hown hg).1 (fun e => av g hg e)), hrz, .inl ⟨rfl, rfl⟩⟩,
    h.f1.only kk (fun g hg => no (own_lt h.f1.own hg).1 (fun e => h.a4 g e hg)) (fun g hg => no (fst_map h.f1 hg).1 (fun e => row_map h.r0 h.f1 e hg)), k1, own_only h.r1 kk (fun g hg => no (own_lt h.r1 hg).1 (fun e => h.a5 g e hg)),
    ?_, h.a2.same hv, h.a3.same hv, Ap.turn h.f1.own h.a4 k4', Ap.turn h.r1 h.a5 k4', h.a6, fun g hg => (by cases hg)⟩, fun i hi => ?_, kk.mono (fun i hi => hi.elim .inl (fun h => .inr (.inr (.inl h))))⟩
  · exact (Ap.turn (u := s') h.f0.own h.a1.symm k4').symm.same hv
  · rcases hi with e | e | e | e | e | e | e
    · exact .inl (.inl e)
    · exact .inl (.inr (.inl (hv.symm.trans e)))
    · exact (ob_new k4' e).imp (fun h => .inr (.inr (.inl h))) id
    · cases e
    · exact .inl (.inr (.inr (.inr (.inr (.inl e)))))
    · exact .inl (.inr (.inr (.inr (.inr (.inr (.inl e))))))
    · exact .inl (.inr (.inr (.inr (.inr (.inr (.inr e))))))
/-- file 1 was settled -/
theorem PC.settled1 {w w' : World} {D B : Nat} {v v0 s0 m0 v1 s1 m1 : Value} {a : DA} {x : FA} (h : PC w D B v0 s0 m0 v1 s1 m1 a) {zs : List Int} (hx : x = ⟨zs, zs, []⟩) {wd : World} (hv : v.ownBlock = v1.ownBlock) (hd : Only (fun i => i = D) w wd) (hown : wd.ownsRow B 5 1 v zs.length (zs.map (Value.int .u8))) (hrz : ∀ z ∈ zs, 0 ≤ z ∧ z ≤ 255)
    (hp : SetP wd D 3 B ((pCs v0 s0 m0 v1 s1 m1 a).setIfInBounds 3 v) 94 s1 zs w') :
    PPost w D B v0 s0 m0 v1 s1 m1 { a with f1 := x } w' := by
  subst hx
  obtain ⟨s', k1, k2, k3, k4⟩ := hp
  have no : ∀ {g : Nat}, B ≤ g → s1.ownBlock ≠ some g → ¬ (g = D ∨ s1.ownBlock = some g) := fun h1 h2 hS => by
    have := h.lt
    rcases hS with e | e
    · omega
    · exact h2 e
  have kk : Only (fun i => i = D ∨ s1.ownBlock = some i) w w' := (hd.mono (fun i hi => .inl hi)).trans k3
  have k4' : s'.ownBlock = s1.ownBlock ∨ ∃ K, s'.ownBlock = some K ∧ w.heap.size ≤ K := k4.imp id (fun ⟨K, h1, h2⟩ => ⟨K, h1, Nat.le_trans hd.size h2⟩)
  have av : Ap v s1 := h.a6.same hv
  refine ⟨v0, s0, m0, v, s', .map none, ⟨k2, h.lt, Nat.le_trans h.le kk.size,
    h.f0.only kk (fun g hg => no (own_lt h.f0.own hg).1 (fun e => h.a3 g hg e)) (fun g hg => no (fst_map h.f0 hg).1 (fun e => row_map h.r1 h.f0 e hg)), ⟨own_only hown k3 (fun g hg => no (own_lt hown hg).1 (fun e => av g hg e)), hrz, .inl ⟨rfl, rfl⟩⟩, own_only h.r0 kk (fun g hg => no (own_lt h.r0 hg).1 (fun e => h.a5 g hg e)), k1,
    h.a1, (h.a2.symm.same hv).symm, (Ap.turn (u := s') h.f0.own h.a3.symm k4').symm, (h.a4.symm.same hv).symm, (Ap.turn (u := s') h.r0 h.a5.symm k4').symm, ?_, fun g hg e => (by cases e)⟩, fun i hi => ?_, kk.mono (fun i hi => hi.elim .inl (fun h => .inr (.inr (.inr (.inr (.inr (.inl h)))))))⟩
  · exact (Ap.turn (u := s') h.f1.own h.a6.symm k4').symm.same hv
  · rcases hi with e | e | e | e | e | e | e
    · exact .inl (.inl e)
    · exact .inl (.inr (.inl e))
    · exact .inl (.inr (.inr (.inl e)))
    · exact .inl (.inr (.inr (.inr (.inl e))))
    · exact .inl (.inr (.inr (.inr (.inr (.inl (hv.symm.trans e))))))
    · exact (ob_new k4' e).imp (fun h => .inr (.inr (.inr (.inr (.inr (.inl h)))))) id
    · cases e
/-- file 0 behind a crash -/
theorem PC.crashed0 {w w' : World} {D B : Nat} {v0 s0 m0 v1 s1 m1 : Value} {a : DA} {zs : List Int} (h : PC w D B v0 s0 m0 v1 s1 m1 a) (hp : Crashed w D 0 B (pCs v0 s0 m0 v1 s1 m1 a) 94 v0 zs w') :
    PPost w D B v0 s0 m0 v1 s1 m1 { a with f0 := ⟨zs, zs, []⟩ } w' := by
  obtain ⟨v', s', k1, k2, kr, kv, k3, k4⟩ := hp
  have no : ∀ {g : Nat}, B ≤ g → v0.ownBlock ≠ some g → ¬ (g = D ∨ v0.ownBlock = some g) := fun h1 h2 hS => by
    have := h.lt
    rcases hS with e | e
    · omega
    · exact h2 e
  have hn : ∀ g, s'.ownBlock = some g → w.heap.size ≤ g := fun g hg => (own_at k2 hg).1
  refine ⟨v', s', .map none, v1, s1, m1, ⟨k3, h.lt, Nat.le_trans h.le k4.size, ⟨k1, kr, .inl ⟨rfl, rfl⟩⟩,
    h.f1.only k4 (fun g hg => no (own_lt h.f1.own hg).1 (fun e => h.a2 g e hg)) (fun g hg => no (fst_map h.f1 hg).1 (fun e => row_map h.f0.own h.f1 e hg)), own_base k2 h.le, own_only h.r1 k4 (fun g hg => no (own_lt h.r1 hg).1 (fun e => h.a3 g e hg)),
    ((Ap.new (K := 0) h.f0.own hn).symm).same kv, h.a2.same kv, h.a3.same kv, Ap.new (K := 0) h.f1.own hn, Ap.new (K := 0) h.r1 hn, h.a6, fun g hg => (by cases hg)⟩, fun i hi => ?_, k4.mono (fun i hi => hi.elim .inl (fun h => .inr (.inl h)))⟩
  rcases hi with e | e | e | e | e | e | e
  · exact .inl (.inl e)
  · exact .inl (.inr (.inl (kv.symm.trans e)))
  · exact .inr (hn i e)
  · cases e
  · exact .inl (.inr (.inr (.inr (.inr (.inl e)))))
  · exact .inl (.inr (.inr (.inr (.inr (.inr (.inl e))))))
  · exact .inl (.inr (.inr (.inr (.inr (.inr (.inr e))))))
theorem PC.crashed1 {w w' : World} {D B : Nat} {v0 s0 m0 v1 s1 m1 : Value} {a : DA} {zs : List Int} (h : PC w D B v0 s0 m0 v1 s1 m1 a) (hp : Crashed w D 3 B (pCs v0 s0 m0 v1 s1 m1 a) 94 v1 zs w') :
    PPost w D B v0 s0 m0 v1 s1 m1 { a with f1 := ⟨zs, zs, []⟩ } w' := by
  obtain ⟨v', s', k1, k2, kr, kv, k3, k4⟩ := hp
  have no : ∀ {g : Nat}, B ≤ g → v1.ownBlock ≠ some g → ¬ (g = D ∨ v1.ownBlock = some g) := fun h1 h2 hS => by
    have := h.lt
    rcases hS with e | e
    · omega
    · exact h2 e
  have hn : ∀ g, s'.ownBlock = some g → w.heap.size ≤ g := fun g hg => (own_at k2 hg).1
  refine ⟨v0, s0, m0, v', s', .map none, ⟨k3, h.lt, Nat.le_trans h.le k4.size,
    h.f0.only k4 (fun g hg => no (own_lt h.f0.own hg).1 (fun e => h.a2 g hg e)) (fun g hg => no (fst_map h.f0 hg).1 (fun e => row_map h.f1.own h.f0 e hg)), ⟨k1, kr, .inl ⟨rfl, rfl⟩⟩, own_only h.r0 k4 (fun g hg => no (own_lt h.r0 hg).1 (fun e => h.a4 g hg e)), own_base k2 h.le,
    h.a1, (h.a2.symm.same kv).symm, (Ap.new (K := 0) h.f0.own hn).symm, (h.a4.symm.same kv).symm, (Ap.new (K := 0) h.r0 hn).symm, ((Ap.new (K := 0) h.f1.own hn).symm).same kv, fun g hg e => (by cases e)⟩, fun i hi => ?_, k4.mono (fun i hi => hi.elim .inl (fun h => .inr (.inr (.inr (.inr (.inl h))))))⟩
  rcases hi with e | e | e | e | e | e | e
  · exact .inl (.inl e)
  · exact .inl (.inr (.inl e))
  · exact .inl (.inr (.inr (.inl e)))
  · exact .inl (.inr (.inr (.inr (.inl e))))
  · exact .inl (.inr (.inr (.inr (.inr (.inl (kv.symm.trans e))))))
  · exact .inr (hn i e)
  · cases e
/-- file 0 was cut, and settled -/
theorem PC.cut0 {w wd w' : World} {D B : Nat} {v v0 s0 m0 v1 s1 m1 : Value} {a : DA} {zs : List Int} (h : PC w D B v0 s0 m0 v1 s1 m1 a) (q1 : wd.heap[D]? = some (.cells ((pCs v0 s0 m0 v1 s1 m1 a.tick).setIfInBounds 0 v) 94 (0, 0))) (q2 : Only (fun i => i = D) w wd) (hv : v.ownBlock = v0.ownBlock)
    (hown : wd.ownsRow B 5 1 v zs.length (zs.map (Value.int .u8))) (hrz : ∀ z ∈ zs, 0 ≤ z ∧ z ≤ 255) (hp : SetP wd D 0 B ((pCs v0 s0 m0 v1 s1 m1 a.tick).setIfInBounds 0 v) 94 s0 zs w') :
    PPost w D B v0 s0 m0 v1 s1 m1 { a.tick with f0 := ⟨zs, zs, []⟩ } w' := by
  have hx := Go.heap_setCell_same w D 8 _ _ (.int .i64 a.tick.fu) h.box
  have k : Only (fun i => i = D) w (w.setCell ⟨D, 8, none⟩ (.int .i64 a.tick.fu)) := Only.set (S := fun i => i = D) (Only.refl _ w) rfl _
  have t := h.scal (a' := a.tick) rfl rfl hx k
  have k2 : Only (fun i => i = D) (w.setCell ⟨D, 8, none⟩ (.int .i64 a.tick.fu)) wd := ⟨q2.os, q2.tape, q2.output, by simpa using q2.size, fun i hi hn => (q2.block i (by simpa using hi) hn).trans (heap_setCell_other _ _ _ _ hn).symm⟩
  exact PPost.from k (t.settled0 rfl hv k2 hown hrz hp)
theorem PC.cut1 {w wd w' : World} {D B : Nat} {v v0 s0 m0 v1 s1 m1 : Value} {a : DA} {zs : List Int} (h : PC w D B v0 s0 m0 v1 s1 m1 a) (q1 : wd.heap[D]? = some (.cells ((pCs v0 s0 m0 v1 s1 m1 a.tick).setIfInBounds 3 v) 94 (0, 0))) (q2 : Only (fun i => i = D) w wd) (hv : v.ownBlock = v1.ownBlock)
    (hown : wd.ownsRow B 5 1 v zs.length (zs.map (Value.int .u8))) (hrz : ∀ z ∈ zs, 0 ≤ z ∧ z ≤ 255) (hp : SetP wd D 3 B ((pCs v0 s0 m0 v1 s1 m1 a.tick).setIfInBounds 3 v) 94 s1 zs w') :
    PPost w D B v0 s0 m0 v1 s1 m1 { a.tick with f1 := ⟨zs, zs, []⟩ } w' := by
  have hx := Go.heap_setCell_same w D 8 _ _ (.int .i64 a.tick.fu) h.box
  have k : Only (fun i => i = D) w (w.setCell ⟨D, 8, none⟩ (.int .i64 a.tick.fu)) := Only.set (S := fun i => i = D) (Only.refl _ w) rfl _
  have t := h.scal (a' := a.tick) rfl rfl hx k
  have k2 : Only (fun i => i = D) (w.setCell ⟨D, 8, none⟩ (.int .i64 a.tick.fu)) wd := ⟨q2.os, q2.tape, q2.output, by simpa using q2.size, fun i hi hn => (q2.block i (by simpa using hi) hn).trans (heap_setCell_other _ _ _ _ hn).symm⟩
  exact PPost.from k (t.settled1 rfl hv k2 hown hrz hp)
theorem PPost.trans {w w1 w' : World} {D B : Nat} {v0 s0 m0 v1 s1 m1 u0 t0 n0 u1 t1 n1 : Value} {a' : DA} (h : Only (pS D v0 s0 m0 v1 s1 m1) w w1) (hi : ∀ i, pS D u0 t0 n0 u1 t1 n1 i → pS D v0 s0 m0 v1 s1 m1 i ∨ w.heap.size ≤ i) (h2 : PPost w1 D B u0 t0 n0 u1 t1 n1 a' w') : PPost w D B v0 s0 m0 v1 s1 m1 a' w' := by
  obtain ⟨x0, y0, z0, x1, y1, z1, k1, k2, k3⟩ := h2
  refine ⟨_, _, _, _, _, _, k1, fun i hS => ?_, ?_⟩
  · rcases k2 i hS with hh | hh
    · exact hi i hh
    · exact .inr (Nat.le_trans h.size hh)
  · exact ⟨k3.os.trans h.os, k3.tape.trans h.tape, k3.output.trans h.output, Nat.le_trans h.size k3.size, fun i hlt hn => (k3.block i (Nat.lt_of_lt_of_le hlt h.size) (fun hS => (hi i hS).elim hn (fun hle => by omega))).trans (h.block i hlt hn)⟩
end Go.Proofs.Ytafhgilikcablaa
