/- PagerNil: Take of the first page, and awake. -/
import Derived.Test.YtbcjhngpcodaoaaGreatDoorPg5
namespace Go.Proofs.YtbcjhngpcodaoaaGreatDoor
open Go.RowKit
set_option linter.unusedVariables false
set_option maxRecDepth 100000

theorem pinfoU8 : (Tryz.prog.info? 5).map (·.size) = some 1 := by kernel_rfl
/-- a new row -/
def RowPost (w : World) (e : Ending) (w' : World) : Prop := ∃ g : Nat, e = .returned (.slice (some ⟨g, 0, none⟩) 508 508) ∧ Below w.heap.size w w'
set_option maxHeartbeats 1600000 in
theorem ppadded (w : World) : Calls Tryz.prog 41 #[.slice none 0 0] w (RowPost w) := by
  obtain ⟨i0, hi, hz0, hz1, hz2⟩ := info_parts info5
  go_enter Tryz.func41, Tryz.ntmps41
  go_wp2_with (at_make; refine wpList_make_full _ rfl (.const (.int .i64 508)) (.const (.int .i64 508)) 22 rfl w.heap.size 5 i0 (.int .u8 0) 1 Tryz.underlying22 hi hz0 hz1 .i64 .i64 508 508 508 rfl rfl rfl rfl ?c1 ?c2 ?c3 ?_)
  case c1 => rw [hz2]; omega
  case c2 => unfold maxLen; omega
  case c3 => exact Nat.le_refl _
  intro w1 hown1 hgrow1
  have HB := Lib.hid (grown_belowB hgrow1 (Nat.le_refl _) (fun k hk => by cases hk))
  clear hown1 hgrow1
  go_wp2_with (with_reducible refine wpList_copy_nothing rfl (.tmp 5) (.tmp 6) 22 22 rfl 5 Tryz.underlying22 pinfoU8 _ _ _ _ _ _ rfl rfl rfl ?_)
  go_wp2
  go_ret
  exact ⟨_, rfl, HB.out⟩
set_option maxHeartbeats 1600000 in
theorem pdrop {w : World} {P D F Q : Nat} {n : Int} {fr : Value} {ck : Int} (h : PgS w P D F Q n fr ck) (k : Int) : Calls Tryz.prog 45 #[.pointer (some ⟨P, 0, none⟩), .int .i64 k] w fun e w' => e = .returned (.tuple #[]) ∧ w' = w := by
  obtain ⟨c0, c1, c2, c3, c12, c28, c29, c30, c33, cz⟩ := h.cells
  have hd := fun ty => del_none Tryz.underlying61 h.f k ty
  have hk := look_none h.q k
  clear h c0 c1 c2 c3 c12 c29 c33 cz
  go_enter Tryz.func45, Tryz.ntmps45
  go_wp2
  go_end0
  exact ⟨rfl, rfl⟩
theorem pleave {w : World} {P D F Q : Nat} {n : Int} {fr : Value} {ck : Int} (h : PgS w P D F Q n fr ck) (k : Int) : Calls Tryz.prog 40 #[.pointer (some ⟨P, 0, none⟩), .int .i64 k] w fun e w' => e = .returned (.tuple #[]) ∧ w' = w := by
  have H := Lib.hid h
  clear h
  go_enter Tryz.func40, Tryz.ntmps40
  go_wp2_with fail
  refine (pkept H.out k).mono ?_
  rintro e w1 ⟨rfl, hw⟩
  subst hw
  go_wp2_with fail
  refine (pdrop H.out k).mono ?_
  rintro e w1 ⟨rfl, hw⟩
  subst hw
  go_wp2
  refine bodyPost_ret (results_none rfl _ _ _) rfl ?_
  exact ⟨rfl, rfl⟩
theorem run_mapUpdate_empty {P : Program} {w : World} (mty kt et : TypeId) (r clock : Nat) (n : Int) (val : Value) (hm : P.underlying mty = some (.map kt et)) (hk : P.underlying kt = some (.int .i64)) (hb : w.heap[r]? = some (.map #[] clock)) :
    (Instr.mapUpdate mty (.map (some r)) (.int .i64 n) val).run P w = .ok () { w with heap := w.heap.setIfInBounds r (.map #[{ key := .int .i64 n, val := val, born := clock }] (clock + 1)) } := by
  have hf : Instr.findNow (.int .i64) (.int .i64 n) ([] : List MapEntry) 0 = some none := rfl
  have hc : (Instr.checkKey false 10000 kt (.int .i64 n)).run P w = .ok () w := MapKept.run_checkKey hk (by simp [MapKept.IsKey]) false 9999
  simp [Instr.mapUpdate, run_underlying hm, MapKept.run_getObj_map hb, hc, MapKept.run_findKey hk hf, MapKept.run_setObj_map _ hb, Result.andThen]
theorem ptouch (w : World) (P G : Nat) (c29 : w.cell? ⟨P, 29, none⟩ = some (.int .i64 0)) (g2 : w.cell? ⟨G, 2, none⟩ = some (.int .i64 0)) (hPG : P < G) (hG : G < w.heap.size) (cz : w.frozen? ⟨P, 29, none⟩ = false) (gz : w.frozen? ⟨G, 2, none⟩ = false) :
    Calls Tryz.prog 32 #[.pointer (some ⟨P, 0, none⟩), .pointer (some ⟨G, 0, none⟩)] w fun e w' => e = .returned (.tuple #[]) ∧ w' = (w.setCell ⟨P, 29, none⟩ (.int .i64 1)).setCell ⟨G, 2, none⟩ (.int .i64 1) := by
  have hlt : P < w.heap.size := by omega
  have hne : G ≠ P := by omega
  go_enter Tryz.func32, Tryz.ntmps32
  go_wp2
  go_end0
  exact ⟨rfl, rfl⟩
/-- the pager's two numbers that are asked -/
def TwoC (w : World) (P D : Nat) (n : Int) : Prop := w.cell? ⟨P, 0, none⟩ = some (.pointer (some ⟨D, 0, none⟩)) ∧ w.cell? ⟨P, 3, none⟩ = some (.int .i64 n)
set_option maxHeartbeats 1600000 in
theorem pkeep {w : World} {P D F Q : Nat} {n : Int} {fr : Value} (h : PgS w P D F Q n fr 0) (g : Nat) : Calls Tryz.prog 37 #[.pointer (some ⟨P, 0, none⟩), .int .i64 1, .slice (some ⟨g, 0, none⟩) 508 508, .bool true] w fun e w' => e = .returned (.tuple #[]) ∧ TwoC w' P D n ∧ Below F w w' := by
  obtain ⟨c0, c1, c2, c3, c12, c28, c29, c30, c33, cz⟩ := h.cells
  have hlt := h.r.lt
  have H := Lib.hid h
  obtain ⟨W0, hW0⟩ : ∃ W0, W0 = w.alloc (.cells #[.slice (some ⟨g, 0, none⟩) 508 508, .bool true, .int .i64 0] 79) := ⟨_, rfl⟩
  have hb0 : Below w.heap.size w W0 := by rw [hW0]; exact bel0 _ (Below.refl _ _)
  have hx : W0.heap[w.heap.size]? = some (.cells #[.slice (some ⟨g, 0, none⟩) 508 508, .bool true, .int .i64 0] 79 (0, 0)) := by rw [hW0]; exact Go.heap_alloc_new w _
  have hs : W0.heap.size = w.heap.size + 1 := by rw [hW0]; simp
  have hr0 := h.r.below hb0
  have a29 : W0.cell? ⟨P, 29, none⟩ = some (.int .i64 0) := cell_of_row W0 P 29 _ _ _ hr0
  have g2 : W0.cell? ⟨w.heap.size, 2, none⟩ = some (.int .i64 0) := cell_of_row W0 w.heap.size 2 _ _ _ hx
  have H1 := Lib.hid (ptouch W0 P w.heap.size a29 g2 hlt (by omega) (frozen_of_row W0 P 29 _ _ hr0) (frozen_of_row W0 w.heap.size 2 _ _ hx))
  obtain ⟨W1, hW1⟩ : ∃ W1, W1 = (W0.setCell ⟨P, 29, none⟩ (.int .i64 1)).setCell ⟨w.heap.size, 2, none⟩ (.int .i64 1) := ⟨_, rfl⟩
  have hf1 : W1.heap[F]? = some (.map #[] 0) := by
    rw [hW1, heap_setCell_other _ _ _ _ (by show F ≠ w.heap.size; have := h.fp; omega), heap_setCell_other _ _ _ _ (by show F ≠ P; have := h.fp; omega)]
    exact (hb0.block F (by have := h.fp; omega)).trans h.f
  have hb1 : Below F w W1 := by
    rw [hW1]
    exact ((hb0.mono (by have := h.fp; omega)).setCell (p := ⟨P, 29, none⟩) (Nat.le_of_lt h.fp) _).setCell (p := ⟨w.heap.size, 2, none⟩) (by show F ≤ w.heap.size; have := h.fp; omega) _
  have hp1 : ∀ j, j ≠ 29 → W1.cell? ⟨P, j, none⟩ = w.cell? ⟨P, j, none⟩ := fun j hj => by
    rw [hW1, World.cell?_setCell_other _ _ _ _ (fun q => by injection q with q; omega), World.cell?_setCell_other _ _ _ _ (fun q => by injection q with q1 q2; exact hj q2.symm)]
    exact hb0.cell (p := ⟨P, j, none⟩) hlt
  have p28 : W1.cell? ⟨P, 28, none⟩ = some (.map (some F)) := (hp1 28 (by omega)).trans c28
  have P0 := Lib.hid ((hp1 0 (by omega)).trans c0)
  have P3 := Lib.hid ((hp1 3 (by omega)).trans c3)
  have hu := run_mapUpdate_empty (P := Tryz.prog) 61 3 _ F 0 1 (.pointer (some ⟨w.heap.size, 0, none⟩)) Tryz.underlying61 Tryz.underlying3 hf1
  obtain ⟨W2, hW2⟩ : ∃ W2, W2 = { W1 with heap := W1.heap.setIfInBounds F (.map #[{ key := .int .i64 1, val := .pointer (some ⟨w.heap.size, 0, none⟩), born := 0 }] (0 + 1)) } := ⟨_, rfl⟩
  rw [← hW2] at hu
  have HE := Lib.hid (show TwoC W2 P D n ∧ Below F w W2 from by
    have e : ∀ b, b ≠ F → W2.heap[b]? = W1.heap[b]? := fun b hb => by
      rw [hW2]
      show (W1.heap.setIfInBounds F _)[b]? = _
      rw [Array.getElem?_setIfInBounds_ne (Ne.symm hb)]
    have ec : ∀ j, W2.cell? ⟨P, j, none⟩ = W1.cell? ⟨P, j, none⟩ := fun j => World.cell?_of_block (e P (by have := h.fp; omega))
    refine ⟨⟨(ec 0).trans P0.out, (ec 3).trans P3.out⟩, ?_⟩
    rw [hW2]
    exact ⟨hb1.os, hb1.tape, hb1.output, by show _ ≤ (W1.heap.setIfInBounds F _).size; rw [Array.size_setIfInBounds]; exact hb1.size, fun b hb => by
      show (W1.heap.setIfInBounds F _)[b]? = _
      rw [Array.getElem?_setIfInBounds_ne (by omega)]
      exact hb1.block b hb⟩)
  have HW0 := Lib.hid hW0
  have HW1 := Lib.hid hW1
  clear h c0 c1 c2 c3 c12 c28 c29 c30 c33 cz hr0 hx a29 g2 hb0 hb1 hf1 hp1 hW0 hW1 hW2 hs
  go_enter Tryz.func37, Tryz.ntmps37
  go_wp2_with fail
  rw [← HW0.out]
  refine H1.out.mono ?_
  rintro e w1 ⟨rfl, hw⟩
  rw [← HW1.out] at hw
  subst hw
  go_wp2
  go_end0
  exact ⟨rfl, HE.out⟩
end Go.Proofs.YtbcjhngpcodaoaaGreatDoor
