/- Rows of different element types lie in different blocks; an empty row that is appended to. -/
import Derived.Test.YtbcjhngpcodaoaaJGot
namespace Go.Proofs.Ytbcjhngpcodaoaa
open Go.RowKit
set_option linter.unusedVariables false

theorem own_block {W : World} {B n size : Nat} {e : TypeId} {v : Value} {xs : List Value} (h : W.ownsRow B e size v n xs) {g : Nat} (hg : v.ownBlock = some g) : ∃ cur, W.heap[g]? = some (.cells cur e (0, 0)) := by
  rcases h.2 with ⟨rfl, _⟩ | ⟨g', cap, cur, rfl, _, hgg, _⟩
  · cases hg
  · have : g' = g := by simpa [Value.ownBlock] using hg
    subst this
    exact ⟨cur, hgg⟩
theorem own_ne {W : World} {B B' n m size size' g c : Nat} {e e' : TypeId} {v : Value} {xs xs' : List Value} (h : W.ownsRow B e size v n xs) (h' : W.ownsRow B' e' size' (.slice (some ⟨g, 0, none⟩) m c) m xs') (hne : e ≠ e') : v.ownBlock ≠ some g := by
  intro hg
  obtain ⟨cur, h1⟩ := own_block h hg
  obtain ⟨cur', h2⟩ := own_block h' (g := g) rfl
  rw [h1] at h2
  cases h2
  exact hne rfl
theorem own_empty {W : World} {B b : Nat} (h : W.heap[b]? = some (.cells #[] 5 (0, 0))) (hB : B ≤ b) : W.ownsRow B 5 1 (.slice (some ⟨b, 0, none⟩) 0 0) ([] : List Int).length (([] : List Int).map (Value.int .u8)) :=
  ⟨rfl, .inr ⟨b, 0, #[], rfl, hB, h, Nat.le_refl _, by unfold maxLen; omega, rfl, rfl⟩⟩
theorem Got.keptEmpty {F : Nat} {W w' : World} {v1 v2 : Value} {ns : List Int} {ds : List (List Int)} {xs : List Value} (h : Got F W v1 v2 ns ds xs) {b : Nat} (hb : W.heap[b]? = some (.cells #[] 5 (0, 0))) (hgr : W.grownBy w' (some b)) (h1 : 3 ≠ 5) (h2 : 26 ≠ 5) : Got F w' v1 v2 ns ds xs := by
  have n1 : v1.ownBlock ≠ some b := fun e => by
    obtain ⟨cur, hc⟩ := own_block h.own1 e
    rw [hb] at hc
    cases hc
  have n2 : v2.ownBlock ≠ some b := fun e => by
    obtain ⟨cur, hc⟩ := own_block h.own2 e
    rw [hb] at hc
    cases hc
  refine ⟨h.own1.kept hgr (.inr n1), h.own2.kept hgr (.inr n2), h.len, fun i hi => ?_, h.ne⟩
  obtain ⟨g, c, d1, d2, d3, d4, d5⟩ := h.data i hi
  refine ⟨g, c, d1, isB_kept d2 hgr d4 (fun e => ?_), d3, Nat.lt_of_lt_of_le d4 hgr.size, d5⟩
  cases e
  rcases d2.2.2.1 with h0 | ⟨b', off, he, hc⟩
  · omega
  · cases he
    have := hc 0 (by omega)
    rw [cell_of_row _ _ _ _ _ _ hb] at this
    cases this
end Go.Proofs.Ytbcjhngpcodaoaa
