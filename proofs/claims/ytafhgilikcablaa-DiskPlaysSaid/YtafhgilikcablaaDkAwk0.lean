/- Layer 9's awake: a new disk is written. -/
import Derived.Test.YtafhgilikcablaaBytes
import Derived.Test.YtafhgilikcablaaApp1
import Derived.Lib.MinMaxS
import Derived.Laws.CopyOwn
import Derived.WideMake
import Derived.Deep.RegionLawGrows
import Derived.StillTailTactics
import Derived.Deep.RegionHeld3
import Derived.Outline
namespace Go.Proofs.Ytafhgilikcablaa
open Go.RowKit
set_option linter.unusedVariables false
set_option maxRecDepth 100000

set_option maxHeartbeats 800000 in
theorem dnew (w : World) : Calls Try.prog 10 #[.int .i64 10] w fun e w' => e = .returned (.pointer (some ⟨w.heap.size, 0, none⟩)) ∧
    w' = w.alloc (.cells #[.slice none 0 0, .slice none 0 0, .map none, .slice none 0 0, .slice none 0 0, .map none, .int .i64 10, .bool false, .int .i64 0, .bool false] 94) := by
  go_enter Try.func10, Try.ntmps10
  go_wp2
  go_ret
  exact ⟨rfl, rfl⟩

theorem infoU8one : (Try.prog.info? 5).map (·.size) = some 1 := by kernel_rfl
/-- a disk's block: nothing in its files -/
def Fresh (w : World) (D : Nat) : Prop :=
  D < w.heap.size ∧ w.cell? ⟨D, 0, none⟩ = some (.slice none 0 0) ∧ w.cell? ⟨D, 2, none⟩ = some (.map none) ∧ w.cell? ⟨D, 3, none⟩ = some (.slice none 0 0) ∧ w.cell? ⟨D, 6, none⟩ = some (.int .i64 10) ∧ w.cell? ⟨D, 7, none⟩ = some (.bool false) ∧ w.cell? ⟨D, 9, none⟩ = some (.bool false) ∧
  w.frozen? ⟨D, 0, none⟩ = false ∧ w.frozen? ⟨D, 2, none⟩ = false

theorem run_mapUpdate_int {P : Program} {w : World} (mty kt et : TypeId) (r clock : Nat) (n : Int) (val : Value) (hm : P.underlying mty = some (.map kt et)) (hk : P.underlying kt = some (.int .i64)) (hb : w.heap[r]? = some (.map #[] clock)) :
    (Instr.mapUpdate mty (.map (some r)) (.int .i64 n) val).run P w = .ok () { w with heap := w.heap.setIfInBounds r (.map #[{ key := .int .i64 n, val := val, born := clock }] (clock + 1)) } := by
  have hf : Instr.findNow (.int .i64) (.int .i64 n) ([] : List MapEntry) 0 = some none := rfl
  have hc : (Instr.checkKey false 10000 kt (.int .i64 n)).run P w = .ok () w := MapKept.run_checkKey hk (by simp [MapKept.IsKey]) false 9999
  simp [Instr.mapUpdate, run_underlying hm, MapKept.run_getObj_map hb, hc, MapKept.run_findKey hk hf, MapKept.run_setObj_map _ hb, Result.andThen]

/-- the world within write, behind the bytes -/
def FW (w : World) (D M : Nat) (v : Value) (wr : World) : Prop :=
  wr.cell? ⟨D, 0, none⟩ = some v ∧ wr.cell? ⟨D, 2, none⟩ = some (.map (some M)) ∧ (∀ o, o ≠ 0 → o ≠ 2 → wr.cell? ⟨D, o, none⟩ = w.cell? ⟨D, o, none⟩) ∧ Below D w wr ∧ D < M
theorem FW.put {w wr : World} {D M : Nat} {v : Value} (h : FW w D M v wr) (x : Obj) : FW w D M v { wr with heap := wr.heap.setIfInBounds M x } := by
  obtain ⟨h1, h2, h3, h4, h5⟩ := h
  have e : ∀ b, b ≠ M → ({ wr with heap := wr.heap.setIfInBounds M x } : World).heap[b]? = wr.heap[b]? := fun b hb => by
    show (wr.heap.setIfInBounds M x)[b]? = _
    rw [Array.getElem?_setIfInBounds_ne (Ne.symm hb)]
  have ec : ∀ o, ({ wr with heap := wr.heap.setIfInBounds M x } : World).cell? ⟨D, o, none⟩ = wr.cell? ⟨D, o, none⟩ := fun o => by
    unfold World.cell?; simp only [e D (by omega)]
  refine ⟨(ec 0).trans h1, (ec 2).trans h2, fun o a b => (ec o).trans (h3 o a b), ⟨h4.os, h4.tape, h4.output, ?_, fun b hb => (e b (by omega)).trans (h4.block b hb)⟩, h5⟩
  show _ ≤ (wr.heap.setIfInBounds M x).size
  rw [Array.size_setIfInBounds]; exact h4.size

theorem fw_start {w w' : World} {D : Nat} (v : Value) (f0 : D < w.heap.size) (d0 : w'.cell? ⟨D, 0, none⟩ = some (.slice none 0 0)) (d2 : w'.cell? ⟨D, 2, none⟩ = some (.map none)) (d4 : Below w.heap.size w w') :
    FW w D w'.heap.size v (((w'.setCell ⟨D, 0, none⟩ v).setCell ⟨D, 2, none⟩ (.map (some w'.heap.size))).alloc (.map #[] 0)) ∧
    (((w'.setCell ⟨D, 0, none⟩ v).setCell ⟨D, 2, none⟩ (.map (some w'.heap.size))).alloc (.map #[] 0)).heap[w'.heap.size]? = some (.map #[] 0) := by
  have d5 : D < w'.heap.size := Nat.lt_of_lt_of_le f0 d4.size
  have hz : ((w'.setCell ⟨D, 0, none⟩ v).setCell ⟨D, 2, none⟩ (.map (some w'.heap.size))).heap.size = w'.heap.size := by simp
  refine ⟨⟨?_, ?_, fun o a b => ?_, ?_, d5⟩, ?_⟩
  · simp [go_sem, d0, d2, d5]
  · simp [go_sem, d0, d2, d5]
  · have := d4.cell (p := ⟨D, o, none⟩) f0
    rw [← this]
    simp [go_sem, d5, Ne.symm a, Ne.symm b]
  · exact (((d4.mono (Nat.le_of_lt f0)).setCell (p := ⟨D, 0, none⟩) (Nat.le_refl _) _).setCell (p := ⟨D, 2, none⟩) (Nat.le_refl _) _).alloc (by omega) _
  · have := heap_alloc_new ((w'.setCell ⟨D, 0, none⟩ v).setCell ⟨D, 2, none⟩ (.map (some w'.heap.size))) (.map #[] 0)
    rwa [hz] at this

set_option maxHeartbeats 1600000 in
theorem fwrite (D g : Nat) (w : World) (hF : Fresh w D) (hc0 : w.cell? ⟨g, 0, none⟩ = some (.int .u8 97)) (hc1 : w.cell? ⟨g, 1, none⟩ = some (.int .u8 98)) :
    Calls Try.prog 86 #[.pointer (some ⟨D, 0, none⟩), .int .i64 0, .slice (some ⟨g, 0, none⟩) 2 2] w fun e w' => e = .returned (.tuple #[]) ∧
      (∃ h c, w'.cell? ⟨D, 0, none⟩ = some (.slice (some ⟨h, 0, none⟩) 2 c)) ∧ (∀ o, o ≠ 0 → o ≠ 2 → w'.cell? ⟨D, o, none⟩ = w.cell? ⟨D, o, none⟩) ∧ Below D w w' := by
  obtain ⟨f0, f1, f2, f3, f4, f5, f6, f7, f8⟩ := hF
  obtain ⟨i0, hi, hz0, hz1, hz2⟩ := info_parts info5
  have s1 : ∀ W, (Instr.slice 30 (.slice none 0 0) (some (.int .i64 0)) none none).run Try.prog W = .ok (.slice none 0 0) W := fun W => slice_l none 0 0 0 (by omega) .i64 W
  have s2 : ∀ W, (Instr.slice 30 (.slice (some ⟨g, 0, none⟩) 2 2) (some (.int .i64 0)) none none).run Try.prog W = .ok (.slice (some ⟨g, 0, none⟩) 2 2) W := fun W => slice_l (some ⟨g, 0, none⟩) 2 2 0 (by omega) .i64 W
  have HI := Lib.hid (show IsB w (some ⟨g, 0, none⟩) 2 [97, 98] from ⟨rfl, by omega, .inr ⟨g, 0, rfl, fun i hi => by match i, hi with | 0, _ => exact hc0 | 1, _ => exact hc1⟩, fun i => by match i with | 0 => simp | 1 => simp | i + 2 => simp⟩)
  have HG := Lib.hid (show ∀ W', w.grownBy W' none → W'.cell? ⟨D, 0, none⟩ = some (.slice none 0 0) ∧ W'.frozen? ⟨D, 0, none⟩ = false ∧ W'.cell? ⟨D, 2, none⟩ = some (.map none) ∧ W'.frozen? ⟨D, 2, none⟩ = false ∧ Below w.heap.size w W' ∧ D < W'.heap.size from fun W' hg => by
    have hb := grown_belowB hg (Nat.le_refl _) (fun k hk => by cases hk)
    obtain ⟨b1, b2⟩ := bcell hb
    exact ⟨(b1 D 0 f0).trans f1, (b2 D 0 f0).trans f7, (b1 D 2 f0).trans f2, (b2 D 2 f0).trans f8, hb, Nat.lt_of_lt_of_le f0 hb.size⟩)
  have hmm := @run_makeMap Try.prog
  have hmn := fun W => run_eql_map_nil (P := Try.prog) W 89 3 186 none Try.underlying89
  go_enter Try.func86, Try.ntmps86
  go_wp2_with (with_reducible refine wpList_copy_nothing rfl (.tmp 13) (.tmp 14) 30 30 rfl 5 Try.underlying30 infoU8one none (some ⟨g, 0, none⟩) 0 0 2 2 rfl rfl rfl ?_)
  go_region_law ((refine step_slice rfl (.tmp 20) (.tmp 23) rfl w.heap.size (.slice none 0 0) [] (some ⟨g, 0, none⟩) 2 2 [97, 98] rfl rfl (World.ownsRow_nil _ _ _ _) HI.out (fun h => by cases h) (by simp) (Nat.le_refl _) ?_; intro v' w' hown hgrow; obtain ⟨h, c, rfl⟩ := own_addr hown (by simp); obtain ⟨d0, d1, d2, d3, d4, d5⟩ := HG.out w' ⟨hgrow.os, hgrow.tape, hgrow.output, hgrow.size, hgrow.block⟩; clear hown hgrow))
  have HB := Lib.hid d4
  go_wp2
  obtain ⟨hFW, hM⟩ := fw_start (.slice (some ⟨h, 0, none⟩) 2 c) f0 d0 d2 d4
  generalize ((w'.setCell ⟨D, 0, none⟩ (.slice (some ⟨h, 0, none⟩) 2 c)).setCell ⟨D, 2, none⟩ (.map (some w'.heap.size))).alloc (.map #[] 0) = WW at *
  have HFW := Lib.hid hFW
  have HM := Lib.hid hM
  clear hFW hM d0 d1 d2 d3 d4 d5
  go_loopw [7] (fun i wr => ∃ k : Nat, k ≤ 1 ∧ i = .int .i64 (k : Int) ∧ Hid (FW w D w'.heap.size (.slice (some ⟨h, 0, none⟩) 2 c) wr) ∧ (k = 0 → Hid (wr.heap[w'.heap.size]? = some (.map #[] 0)))) (fun i _ => 2 - (intOf i).toNat)
  case atStart => exact ⟨0, by omega, rfl, HFW, fun _ => HM⟩
  case round =>
    obtain ⟨k, hk, rfl, HF, hm⟩ := hrel
    obtain ⟨e0, e2, _⟩ := HF.out
    rcases Nat.lt_or_ge k 1 with h0 | h0
    · obtain rfl : k = 0 := by omega
      have hmu := run_mapUpdate_int (P := Try.prog) 89 3 186 w'.heap.size 0 0 (.agg #[]) Try.underlying89 Try.underlying3 (hm rfl).out
      obtain ⟨W2, hW2⟩ : ∃ W2, W2 = { wr with heap := wr.heap.setIfInBounds w'.heap.size (.map #[{ key := .int .i64 0, val := .agg #[], born := 0 }] (0 + 1)) } := ⟨_, rfl⟩
      have HF2 := Lib.hid (show FW w D w'.heap.size (.slice (some ⟨h, 0, none⟩) 2 c) W2 by rw [hW2]; exact HF.out.put _)
      rw [← hW2] at hmu
      clear hW2 hm
      go_wp2
      go_roundw
      case rel => exact ⟨1, by omega, by go_num, HF2, fun h => by cases h⟩
      case measure => simp [intOf]
    · obtain rfl : k = 1 := by omega
      clear hm
      go_wp2
      go_end0
      obtain ⟨e0, e2, e3, e4, _⟩ := HF.out
      exact ⟨rfl, ⟨h, c, e0⟩, e3, e4⟩
end Go.Proofs.Ytafhgilikcablaa
