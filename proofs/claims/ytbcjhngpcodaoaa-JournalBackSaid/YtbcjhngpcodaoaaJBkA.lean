/- append onto a row of the call's own that is read again behind it. -/
import Derived.Test.YtbcjhngpcodaoaaBytes
namespace Go.Proofs.Ytbcjhngpcodaoaa
open Go.RowKit
set_option linter.unusedVariables false

/-- zs in row g, zd behind it: the new row, and the old one is what it was -/
theorem own_append_keep {W : World} {B g n cap : Nat} {zs : List Int} {d : Option Addr} {ld cd : Nat} {zd : List Int} (hown : W.ownsRow B 5 1 (.slice (some ⟨g, 0, none⟩) n cap) n (zs.map (Value.int .u8))) (hz : zs.length = n) (hzr : ∀ z ∈ zs, 0 ≤ z ∧ z ≤ 255)
    (hd : IsB W d ld zd) (hn : d = none → ld = 0 ∧ cd = 0) (hlen : n + ld ≤ 1000000) (ty : TypeId) :
    ∃ g' cap' w', (Builtin.append_ #[26, 26] ty #[.slice (some ⟨g, 0, none⟩) n cap, .slice d ld cd]).run Try.prog W = .ok (.slice (some ⟨g', 0, none⟩) (n + ld) cap') w' ∧
      IsB w' (some ⟨g', 0, none⟩) (n + ld) (zs ++ zd) ∧ IsB w' (some ⟨g, 0, none⟩) n zs ∧ g' < w'.heap.size ∧ g < w'.heap.size ∧ n + ld ≤ cap' ∧ (∀ B', B' ≤ g → B' ≤ W.heap.size → Below B' W w') := by
  obtain ⟨i0, hi, hz0, hz1, hz2⟩ := info_parts info5
  have hsrc := src_isB hd hn
  have hdl := hd.1
  have hcl := cap_le hown
  have hI := own_isB hown hz hzr
  have hg := own_low hown
  subst hz hdl
  rcases hown.2 with ⟨h', _⟩ | ⟨g0, cap0, cur, he, hB, hgr, h1, h2, hcs, ht⟩
  · cases h'
  simp only [Value.slice.injEq, Option.some.injEq, Addr.mk.injEq, and_true, true_and] at he
  obtain ⟨rfl, rfl⟩ := he
  by_cases hroom : zs.length + zd.length ≤ cap
  · have hsome : ∀ j, j < (zd.map (Value.int .u8)).length → (W.cell? ⟨g, 0 + zs.length * i0.size + j, none⟩).isSome = true := fun j hj => by
      rw [List.length_map] at hj
      rw [hz1, cell_of_row _ _ _ _ _ _ hgr, Array.getElem?_eq_getElem (by omega)]; rfl
    have hrun := run_append_room_src (P := Try.prog) W 26 26 ty 5 i0 Try.underlying26 hi g 0 zs.length cap (.slice d zd.length cd) zd.length (zd.map (Value.int .u8)) (by rw [hz1]; exact hsrc) hroom hsome
      (fun j hj => frozen_of_row _ _ _ _ _ hgr)
    have hsz : W.heap.size ≤ (W.setCells g (0 + zs.length * i0.size) (zd.map (Value.int .u8))).heap.size :=
      (below_setCells (a := W) (B := 0) g (Nat.zero_le _) (zd.map (Value.int .u8)) (0 + zs.length * i0.size) W (Below.refl _ _)).size
    have hlow : ∀ i, i < zs.length → (W.setCells g (0 + zs.length * i0.size) (zd.map (Value.int .u8))).cell? ⟨g, i, none⟩ = some (.int .u8 (zs.getD i 0)) := fun i hi' => by
      rw [World.cell?_setCells_out g _ _ _ _ (fun _ _ => by rw [hz1]; simp; omega)]
      exact own_cell hown rfl i hi'
    refine ⟨g, cap, _, hrun, isB_join hzr hd.mem (by omega) (fun i hi' => ?_), ⟨rfl, by omega, .inr ⟨g, 0, rfl, fun i hi' => by have := hlow i hi'; simpa only [Nat.zero_add] using this⟩, hI.2.2.2⟩, Nat.lt_of_lt_of_le hg hsz, Nat.lt_of_lt_of_le hg hsz, hroom, fun B' hB' _ => below_setCells _ hB' _ _ _ (Below.refl _ _)⟩
    by_cases hlt : i < zs.length
    · rw [hlow i hlt, List.getD_eq_getElem?_getD, List.getD_eq_getElem?_getD, List.getElem?_append_left hlt]
    · have := World.cell?_setCells_in g (zd.map (Value.int .u8)) (0 + zs.length * i0.size) W hsome (i - zs.length) (by rw [List.length_map]; omega)
      rw [hz1, show 0 + zs.length * 1 + (i - zs.length) = i by omega] at this
      rw [hz1, this, List.getElem_map, List.getD_eq_getElem?_getD, List.getElem?_append_right (by omega), List.getElem?_eq_getElem (by omega)]
      rfl
  · have hold : (Builtin.firstCells i0.size zs.length (.slice (some ⟨g, 0, none⟩) zs.length cap)).run Try.prog W.drew = .ok (zs.map (Value.int .u8)).toArray W.drew := by
      rw [hz1]
      refine run_firstCells_some W.drew 1 zs.length ⟨g, 0, none⟩ zs.length cap (zs.map (Value.int .u8)) (by simp) (fun j u hu => ?_)
      rw [List.getElem?_map] at hu
      have hj : j < zs.length := by
        rcases Nat.lt_or_ge j zs.length with h | h
        · exact h
        · rw [List.getElem?_eq_none h] at hu; cases hu
      rw [Addr.add_lit, Nat.zero_add]
      show W.cell? _ = _
      rw [own_cell hown rfl j hj, List.getD_eq_getElem?_getD]
      rw [List.getElem?_eq_getElem hj] at hu ⊢
      exact hu
    have hrun := run_append_grow_src (P := Try.prog) W 26 26 ty 5 i0 (.int .u8 0) Try.underlying26 hi hz0 (some ⟨g, 0, none⟩) zs.length cap (zs.map (Value.int .u8)) hold (.slice d zd.length cd) zd.length (zd.map (Value.int .u8)) (by rw [hz1]; exact hsrc) (by omega) (by omega) (growslice_fits (by omega) (by rw [hz2]; omega))
    have hge2 := grownCap_ge W (zs.length + zd.length) cap 5
    have hb : ∀ o, Below W.heap.size W (W.drew.alloc o) := fun o => ((Below.refl _ W).drew).alloc (Nat.le_refl _) _
    refine ⟨_, _, _, hrun, isB_join hzr hd.mem (by omega) (fun i hi' => ?_), hI.below (hb _) (fun x _ hx => by cases hx; exact hg), by simp, Nat.lt_of_lt_of_le hg (hb _).size, hge2, fun B' _ hB' => (hb _).mono hB'⟩
    have e1 := World.cell?_alloc_new W.drew (((zs.map (Value.int .u8)) ++ (zd.map (Value.int .u8))).toArray ++ Builtin.zeroCells (Value.int IntKind.u8 0).cells (grownCap W (zs.length + zd.length) cap 5 - (zs.length + zd.length))) 5 i
    refine Eq.trans e1 ?_
    rw [Array.getElem?_append_left (by simp; omega), List.getElem?_toArray, ← List.map_append, List.getElem?_map, List.getElem?_eq_getElem (by simp; omega), List.getD_eq_getElem?_getD, List.getElem?_eq_getElem (by simp; omega)]
    rfl
end Go.Proofs.Ytbcjhngpcodaoaa
