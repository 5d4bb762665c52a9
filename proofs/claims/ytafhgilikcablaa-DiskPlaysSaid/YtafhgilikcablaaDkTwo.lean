/- Two disks beside one another: what a write to one leaves of both. -/
import Derived.Test.YtafhgilikcablaaDkR
import Derived.Test.YtafhgilikcablaaOps
namespace Go.Proofs.Ytafhgilikcablaa
open Go.RowKit Go.Maps
set_option linter.unusedVariables false
set_option maxRecDepth 100000

theorem own_only {S : Nat → Prop} {w w' : World} {B : Nat} {e : TypeId} {size n : Nat} {v : Value} {xs : List Value} (h : w.ownsRow B e size v n xs) (k : Only S w w') (hv : ∀ g, v.ownBlock = some g → ¬ S g) : w'.ownsRow B e size v n xs := by
  refine ⟨h.1, ?_⟩
  rcases h.2 with h0 | ⟨g, cap, cur, rfl, b, hg, r⟩
  · exact .inl h0
  · exact .inr ⟨g, cap, cur, rfl, b, (k.block g (Array.getElem?_eq_some_iff.1 hg).1 (hv g rfl)).trans hg, r⟩
theorem own_at {w : World} {B : Nat} {e : TypeId} {size n : Nat} {v : Value} {xs : List Value} (h : w.ownsRow B e size v n xs) {g : Nat} (hg : v.ownBlock = some g) : B ≤ g ∧ ∃ cur, w.heap[g]? = some (.cells cur e (0, 0)) := by
  rcases h.2 with ⟨rfl, _⟩ | ⟨g', cap, cur, rfl, b, hb, _⟩
  · cases hg
  · have : g' = g := by simpa [Value.ownBlock] using hg
    subst this
    exact ⟨b, cur, hb⟩
theorem FSt.only {S : Nat → Prop} {w w' : World} {B : Nat} {zs : List Int} {L : List Lit} {v m : Value} (h : FSt w B zs L v m) (k : Only S w w') (hv : ∀ g, v.ownBlock = some g → ¬ S g) (hm : ∀ g, m = .map (some g) → ¬ S g) : FSt w' B zs L v m := by
  refine ⟨own_only h.own k hv, h.rg, ?_⟩
  rcases h.mp with h0 | ⟨M, e, b, hs⟩
  · exact .inl h0
  · exact .inr ⟨M, e, b, hs.far (k.block M hs.lt (hm M e))⟩
/-- two files that share no block -/
def Far (v m v' m' : Value) : Prop := (∀ g, v.ownBlock = some g → v'.ownBlock ≠ some g) ∧ (∀ g, m = .map (some g) → m' ≠ .map (some g))
theorem Far.symm {v m v' m' : Value} (h : Far v m v' m') : Far v' m' v m := ⟨fun g a b => h.1 g b a, fun g a b => h.2 g b a⟩
/-- a file that was not written -/
theorem FSt.stays {w w' : World} {B D : Nat} {zs zs' : List Int} {L L' : List Lit} {v m v' m' : Value} {cs : Array Value} (hbox : w.heap[D]? = some (.cells cs 94 (0, 0))) (h : FSt w B zs L v m) (h' : FSt w B zs' L' v' m') (k : Only (ofFile D v' m') w w') (hf : Far v m v' m') : FSt w' B zs L v m := by
  refine h.only k (fun g hg hS => ?_) (fun g hg hS => ?_)
  · obtain ⟨_, cur, hc⟩ := own_at h.own hg
    rcases hS with e | e | e
    · subst e
      rw [hbox] at hc
      simp at hc
    · exact hf.1 g hg e
    · rcases h'.mp with ⟨e0, _⟩ | ⟨M, e0, _, hs⟩
      · rw [e] at e0; cases e0
      · rw [e] at e0; cases e0
        exact hs.not_cells hc
  · rcases h.mp with ⟨e0, _⟩ | ⟨M, e0, _, hs⟩
    · rw [hg] at e0; cases e0
    · rw [hg] at e0; cases e0
      rcases hS with e | e | e
      · subst e
        exact hs.not_cells hbox
      · obtain ⟨_, cur, hc⟩ := own_at h'.own e
        exact hs.not_cells hc
      · exact hf.2 g hg e
/-- the written file's blocks are still apart from another one's -/
theorem Far.turned {w : World} {B : Nat} {zs : List Int} {L : List Lit} {v m v' m' v2 m2 : Value} (h : FSt w B zs L v m) (hf : Far v m v' m') (hv : v2.ownBlock = v'.ownBlock ∨ ∃ K, v2.ownBlock = some K ∧ w.heap.size ≤ K) (hm : m2 = m' ∨ ∃ K, m2 = .map (some K) ∧ w.heap.size ≤ K) : Far v m v2 m2 := by
  refine ⟨fun g hg e => ?_, fun g hg e => ?_⟩
  · obtain ⟨_, cur, hc⟩ := own_at h.own hg
    have hlt := (Array.getElem?_eq_some_iff.1 hc).1
    rcases hv with hv | ⟨K, hK, hle⟩
    · exact hf.1 g hg (hv ▸ e)
    · rw [hK] at e
      have : K = g := Option.some.inj e
      omega
  · rcases h.mp with ⟨e0, _⟩ | ⟨M, e0, _, hs⟩
    · rw [hg] at e0; cases e0
    · rw [hg] at e0; cases e0
      have hlt := hs.lt
      rcases hm with hm | ⟨K, hK, hle⟩
      · exact hf.2 g hg (hm ▸ e)
      · rw [hK] at e
        cases e
        omega
/-- a disk's block is none of another one's -/
theorem box_stays {w w' : World} {B D E : Nat} {zs : List Int} {L : List Lit} {v m : Value} {cs cs' : Array Value} (hD : w.heap[D]? = some (.cells cs 94 (0, 0))) (hE : w.heap[E]? = some (.cells cs' 94 (0, 0))) (hne : E ≠ D) (h : FSt w B zs L v m) (k : Only (ofFile D v m) w w') : w'.heap[E]? = some (.cells cs' 94 (0, 0)) := by
  refine (k.block E (Array.getElem?_eq_some_iff.1 hE).1 (fun hS => ?_)).trans hE
  rcases hS with e | e | e
  · exact hne e
  · obtain ⟨_, cur, hc⟩ := own_at h.own e
    rw [hE] at hc
    simp at hc
  · rcases h.mp with ⟨e0, _⟩ | ⟨M, e0, _, hs⟩
    · rw [e] at e0; cases e0
    · rw [e] at e0; cases e0
      exact hs.not_cells hE
/-- what a disk holds -/
structure Hold where
  z0 : List Int
  L0 : List Lit
  z1 : List Int
  L1 : List Lit
/-- few enough for all that is done -/
def Hold.few (x : Hold) (n : Nat) : Prop := x.z0.length ≤ n ∧ x.z1.length ≤ n ∧ x.L0.length ≤ n ∧ x.L1.length ≤ n
/-- two disks that share no block -/
def Pair (w : World) (D E B : Nat) (x y : Hold) : Prop :=
  D ≠ E ∧ ∃ v0 s0 m0 v1 s1 m1 u0 t0 n0 u1 t1 n1, DSt w D B v0 s0 m0 v1 s1 m1 1073741824 x.z0 x.L0 x.z1 x.L1 ∧ DSt w E B u0 t0 n0 u1 t1 n1 1073741824 y.z0 y.L0 y.z1 y.L1 ∧
    Far v0 m0 v1 m1 ∧ Far v0 m0 u0 n0 ∧ Far v0 m0 u1 n1 ∧ Far v1 m1 u0 n0 ∧ Far v1 m1 u1 n1 ∧ Far u0 n0 u1 n1
theorem Pair.swap {w : World} {D E B : Nat} {x y : Hold} (h : Pair w D E B x y) : Pair w E D B y x := by
  obtain ⟨hne, v0, s0, m0, v1, s1, m1, u0, t0, n0, u1, t1, n1, d, e, a, b, c, f, g, i⟩ := h
  exact ⟨Ne.symm hne, u0, t0, n0, u1, t1, n1, v0, s0, m0, v1, s1, m1, e, d, i, b.symm, f.symm, c.symm, g.symm, a⟩
theorem dst_draw {w : World} {D B : Nat} {v0 s0 m0 v1 s1 m1 : Value} {R : Int} {z0 z1 : List Int} {L0 L1 : List Lit} (h : DSt w D B v0 s0 m0 v1 s1 m1 R z0 L0 z1 L1) (n : Nat) : DSt (w.drewN n) D B v0 s0 m0 v1 s1 m1 R z0 L0 z1 L1 :=
  ⟨h.box, h.lt, h.le, ⟨h.f0.own, h.f0.rg, h.f0.mp⟩, ⟨h.f1.own, h.f1.rg, h.f1.mp⟩⟩
theorem Pair.draw {w : World} {D E B : Nat} {x y : Hold} (h : Pair w D E B x y) (n : Nat) : Pair (w.drewN n) D E B x y := by
  obtain ⟨hne, v0, s0, m0, v1, s1, m1, u0, t0, n0, u1, t1, n1, d, e, r⟩ := h
  exact ⟨hne, v0, s0, m0, v1, s1, m1, u0, t0, n0, u1, t1, n1, dst_draw d n, dst_draw e n, r⟩
theorem below_of_only {w w' : World} {D B B0 : Nat} {zs : List Int} {L : List Lit} {v m : Value} (h : FSt w B zs L v m) (k : Only (ofFile D v m) w w') (hD : B0 ≤ D) (hB : B0 ≤ B) (hs : B0 ≤ w.heap.size) : Below B0 w w' := by
  refine ⟨k.os, k.tape, k.output, k.size, fun i hi => k.block i (Nat.lt_of_lt_of_le hi hs) (fun hS => ?_)⟩
  rcases hS with e | e | e
  · omega
  · have := (own_at h.own e).1; omega
  · rcases h.mp with ⟨e0, _⟩ | ⟨M, e0, b, hs⟩
    · rw [e] at e0; cases e0
    · rw [e] at e0; cases e0
      omega
end Go.Proofs.Ytafhgilikcablaa
