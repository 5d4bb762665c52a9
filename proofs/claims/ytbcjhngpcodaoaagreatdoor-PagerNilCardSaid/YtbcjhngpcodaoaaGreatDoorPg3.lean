/- PagerNil: restore, clone, become, forget. -/
import Derived.Test.YtbcjhngpcodaoaaGreatDoorPg2
namespace Go.Proofs.YtbcjhngpcodaoaaGreatDoor
open Go.RowKit
set_option linter.unusedVariables false
set_option maxRecDepth 100000

theorem prestore (w : World) (L D : Nat) (r : Int) (hL : LeftC w L D) (hd : NewD w D r) :
    Calls Tryz.prog 26 #[.pointer (some ⟨L, 0, none⟩)] w fun e w' => e = .returned (.int .i64 0) ∧ w' = w := by
  have HD := Lib.hid hd
  obtain ⟨l0, l5, l6, l7, l8⟩ := hL.cells
  clear hL hd
  go_enter Tryz.func26, Tryz.ntmps26
  go_wp2_with fail
  refine (psize D r 1 (.inr rfl) _ HD.out).mono ?_
  rintro e w1 ⟨rfl, hw⟩
  subst hw
  go_wp2
  go_ret
  exact ⟨rfl, rfl⟩
set_option maxHeartbeats 800000 in
theorem pclone0 (w : World) : Calls Tryz.prog 66 #[.slice none 0 0] w fun e w' => e = .returned (.slice none 0 0) ∧ w' = w := by
  have hnil := fun (W : World) => Lib.run_eql_slice_nil (P := Tryz.prog) W 43 3 none 0 0 0 0 Tryz.underlying43
  go_enter Tryz.func66, Tryz.ntmps66
  go_wp2
  go_ret
  exact ⟨rfl, rfl⟩
set_option maxHeartbeats 1600000 in
theorem pclone (n : Int) (w : World) : Calls Tryz.prog 28 #[.agg (stC n)] w fun e w' => e = .returned (.agg (stC n)) ∧ Below w.heap.size w w' := by
  obtain ⟨W0, hW0⟩ : ∃ W0, W0 = (w.alloc (.cells (stC n) 58)).alloc (.cells (stC 0) 58) := ⟨_, rfl⟩
  have HW := Lib.hid hW0
  have HB0 := Lib.hid (show Below w.heap.size w W0 by rw [hW0]; exact bel0 _ (bel0 _ (Below.refl _ _)))
  have h2 := two_allocs w (.cells (stC n) 58) (.cells (stC 0) 58)
  rw [← hW0] at h2
  have HX := Lib.hid h2
  clear hW0 h2
  have HU := Lib.hid (show stC n = #[.int .i64 n, .int .i64 0, .int .i64 0, .int .i64 0, .int .i64 0, .int .i64 0, .int .i64 0, .int .i64 0, .int .i64 0, .slice none 0 0, .int .u64 0] from rfl)
  unfold stC at HW
  unfold stC
  go_enter Tryz.func28, Tryz.ntmps28
  go_wp2_with fail
  rw [← HW.out]
  refine (pclone0 _).mono ?_
  rintro e w1 ⟨rfl, hw⟩
  subst hw
  obtain ⟨x0, x1, x2, x3, x4, x5, x6, x7, x8, x9, x10⟩ := st_cells HX.out.1
  obtain ⟨y0, y1, y2, y3, y4, y5, y6, y7, y8, y9, y10⟩ := st_cells HX.out.2
  have zx := st_free HX.out.1
  have zz := st_free HX.out.2
  have hlt := (Array.getElem?_eq_some_iff.1 HX.out.2).1
  have hl1 : w.heap.size < w1.heap.size := by omega
  have HP := Lib.hid (show Below w.heap.size w (setL (w1.setCell ⟨w.heap.size, 9, none⟩ (.slice none 0 0)) (w.heap.size + 1) 0 (stC n).toList) from setL_below (by omega) _ _ _ (HB0.out.setCell (p := ⟨w.heap.size, 9, none⟩) (Nat.le_refl _) _))
  go_wp2_with fail
  refine bodyPost_ret (v := .agg (stC n)) (by simp [results, Tryz.results28, go_sem, x0, x1, x2, x3, x4, x5, x6, x7, x8, x9, x10, y0, y1, y2, y3, y4, y5, y6, y7, y8, y9, y10, zz, zx, hlt, hl1, stC]) rfl ⟨rfl, HP.out⟩
/-- a pager's cells -/
def pgC (D : Nat) (n : Int) (fr fm : Value) (ck : Int) (pl : Value) (ends : Int) : Array Value := #[.pointer (some ⟨D, 0, none⟩), .int .i64 4, .bool false, .int .i64 n, .int .i64 0, .int .i64 0, .int .i64 0, .int .i64 0, .int .i64 0, .int .i64 0, .int .i64 0, .int .i64 0, .slice none 0 0, .int .u64 0, .int .i64 1, .int .i64 0, .int .i64 0, .int .i64 0, .int .i64 0, .int .i64 0, .int .i64 0, .int .i64 0, .int .i64 0, .slice none 0 0, .int .u64 0, fr, .int .i64 0, .bool false, fm, .int .i64 ck, pl, .slice none 0 0, .int .i64 ends, .pointer none]
def PgR (w : World) (P : Nat) (cs : Array Value) : Prop := w.heap[P]? = some (.cells cs 66 (0, 0))
theorem PgR.below {w w' : World} {P : Nat} {cs : Array Value} (h : PgR w P cs) (hb : Below w.heap.size w w') : PgR w' P cs := (hb.block P (Array.getElem?_eq_some_iff.1 h).1).trans h
theorem PgR.lt {w : World} {P : Nat} {cs : Array Value} (h : PgR w P cs) : P < w.heap.size := (Array.getElem?_eq_some_iff.1 h).1
theorem PgR.set {w : World} {P : Nat} {cs : Array Value} (h : PgR w P cs) (o : Nat) (v : Value) : PgR (w.setCell ⟨P, o, none⟩ v) P (cs.setIfInBounds o v) := Go.heap_setCell_same w P o _ _ v h
/-- the row behind stores -/
def setA (cs : Array Value) : Nat → List Value → Array Value
  | _, [] => cs
  | k, v :: vs => setA (cs.setIfInBounds k v) (k + 1) vs
theorem PgR.setL {P : Nat} : ∀ (vs : List Value) (k : Nat) {w : World} {cs : Array Value}, PgR w P cs → PgR (setL w P k vs) P (setA cs k vs)
  | [], k, w, cs, h => h
  | v :: vs, k, w, cs, h => PgR.setL vs (k + 1) (h.set k v)
set_option maxHeartbeats 1600000 in
theorem pforget (w : World) (P D : Nat) (n : Int) (fr fm : Value) (ck : Int) (hP : PgR w P (pgC D n fr fm ck (.map none) 0)) :
    Calls Tryz.prog 29 #[.pointer (some ⟨P, 0, none⟩)] w fun e w' => e = .returned (.tuple #[]) ∧ PgR w' P (pgC D n fr fm ck (.map (some w.heap.size)) 1) ∧ w'.heap[w.heap.size]? = some (.map #[] 0) ∧ Below P w w' := by
  have c26 : w.cell? ⟨P, 26, none⟩ = some (.int .i64 0) := cell_of_row w P 26 _ _ _ hP
  have c33 : w.cell? ⟨P, 33, none⟩ = some (.pointer none) := cell_of_row w P 33 _ _ _ hP
  have c30 : w.cell? ⟨P, 30, none⟩ = some (.map none) := cell_of_row w P 30 _ _ _ hP
  have c31 : w.cell? ⟨P, 31, none⟩ = some (.slice none 0 0) := cell_of_row w P 31 _ _ _ hP
  have c32 : w.cell? ⟨P, 32, none⟩ = some (.int .i64 0) := cell_of_row w P 32 _ _ _ hP
  have zz : ∀ j, w.frozen? ⟨P, j, none⟩ = false := fun j => frozen_of_row w P j _ _ hP
  have hlt := hP.lt
  have hmm := @run_makeMap Tryz.prog
  have HP := Lib.hid hP
  clear hP
  go_enter Tryz.func29, Tryz.ntmps29
  go_wp2
  go_end0
  obtain ⟨W4, hW4⟩ : ∃ W4, W4 = (((w.setCell ⟨P, 33, none⟩ (.pointer none)).setCell ⟨P, 30, none⟩ (.map (some w.heap.size))).setCell ⟨P, 31, none⟩ (.slice none 0 0)).setCell ⟨P, 32, none⟩ (.int .i64 (max 1 0)) := ⟨_, rfl⟩
  have h4 : PgR W4 P (pgC D n fr fm ck (.map (some w.heap.size)) 1) := by rw [hW4]; exact (((HP.out.set 33 (.pointer none)).set 30 (.map (some w.heap.size))).set 31 (.slice none 0 0)).set 32 (.int .i64 1)
  have hs : W4.heap.size = w.heap.size := by rw [hW4]; simp
  have hb : Below P w W4 := by
    rw [hW4]
    exact ((((Below.refl P w).setCell (p := ⟨P, 33, none⟩) (Nat.le_refl _) _).setCell (p := ⟨P, 30, none⟩) (Nat.le_refl _) _).setCell (p := ⟨P, 31, none⟩) (Nat.le_refl _) _).setCell (p := ⟨P, 32, none⟩) (Nat.le_refl _) _
  rw [← hW4]
  refine ⟨rfl, h4.below (bel0 _ (Below.refl _ _)), ?_, hb.alloc (by omega) _⟩
  have := Go.heap_alloc_new W4 (.map #[] 0)
  rwa [hs] at this
theorem setA_now (D : Nat) (fm : Value) : setA (pgC D 0 (.map none) fm 0 (.map none) 0) 3 (stC 1).toList = pgC D 1 (.map none) fm 0 (.map none) 0 := by
  simp [setA, stC, pgC]
theorem set_free (D : Nat) (fm x : Value) : (pgC D 1 (.map none) fm 0 (.map none) 0).setIfInBounds 25 x = pgC D 1 x fm 0 (.map none) 0 := by
  simp [pgC]
/-- behind become's stores -/
def BecIn (w : World) (P D : Nat) (fm : Value) (wr : World) : Prop := (∃ fr, PgR wr P (pgC D 1 fr fm 0 (.map none) 0)) ∧ Below P w wr
set_option maxHeartbeats 1600000 in
theorem pbecome (w : World) (P D : Nat) (fm : Value) (hP : PgR w P (pgC D 0 (.map none) fm 0 (.map none) 0)) :
    Calls Tryz.prog 27 #[.pointer (some ⟨P, 0, none⟩), .agg (stC 1)] w fun e w' => e = .returned (.tuple #[]) ∧ (∃ fr, PgR w' P (pgC D 1 fr fm 0 (.map none) 0)) ∧ Below P w w' := by
  obtain ⟨W0, hW0⟩ : ∃ W0, W0 = w.alloc (.cells (stC 1) 58) := ⟨_, rfl⟩
  have HW := Lib.hid hW0
  have hb0 : Below w.heap.size w W0 := by rw [hW0]; exact bel0 _ (Below.refl _ _)
  have HX := Lib.hid (show W0.heap[w.heap.size]? = some (.cells (stC 1) 58 (0, 0)) by rw [hW0]; exact Go.heap_alloc_new w _)
  have hlt := hP.lt
  have HI := Lib.hid (show BecIn w P D fm ((((setL w P 3 (stC 1).toList).setCell ⟨P, 25, none⟩ (.map (some (w.heap.size + 1)))).alloc (.cells (stC 1) 58)).alloc (.map #[] 0)) from by
    have h1 := PgR.setL (stC 1).toList 3 hP
    rw [setA_now] at h1
    have h2 := h1.set 25 (.map (some (w.heap.size + 1)))
    rw [set_free] at h2
    have hb1 : Below P w (setL w P 3 (stC 1).toList) := setL_below (Nat.le_refl _) _ _ _ (Below.refl _ _)
    have hb2 := hb1.setCell (p := ⟨P, 25, none⟩) (Nat.le_refl _) (.map (some (w.heap.size + 1)))
    have hb3 := hb2.alloc (Nat.le_trans (Nat.le_of_lt hlt) hb2.size) (.cells (stC 1) 58)
    refine ⟨⟨.map (some (w.heap.size + 1)), ?_⟩, hb3.alloc (Nat.le_trans (Nat.le_of_lt hlt) hb3.size) _⟩
    exact h2.below (bel0 _ (bel0 _ (Below.refl _ _))))
  have c3 : w.cell? ⟨P, 3, none⟩ = some (.int .i64 0) := cell_of_row w P 3 _ _ _ hP
  have c4 : w.cell? ⟨P, 4, none⟩ = some (.int .i64 0) := cell_of_row w P 4 _ _ _ hP
  have c5 : w.cell? ⟨P, 5, none⟩ = some (.int .i64 0) := cell_of_row w P 5 _ _ _ hP
  have c6 : w.cell? ⟨P, 6, none⟩ = some (.int .i64 0) := cell_of_row w P 6 _ _ _ hP
  have c7 : w.cell? ⟨P, 7, none⟩ = some (.int .i64 0) := cell_of_row w P 7 _ _ _ hP
  have c8 : w.cell? ⟨P, 8, none⟩ = some (.int .i64 0) := cell_of_row w P 8 _ _ _ hP
  have c9 : w.cell? ⟨P, 9, none⟩ = some (.int .i64 0) := cell_of_row w P 9 _ _ _ hP
  have c10 : w.cell? ⟨P, 10, none⟩ = some (.int .i64 0) := cell_of_row w P 10 _ _ _ hP
  have c11 : w.cell? ⟨P, 11, none⟩ = some (.int .i64 0) := cell_of_row w P 11 _ _ _ hP
  have c12 : w.cell? ⟨P, 12, none⟩ = some (.slice none 0 0) := cell_of_row w P 12 _ _ _ hP
  have c13 : w.cell? ⟨P, 13, none⟩ = some (.int .u64 0) := cell_of_row w P 13 _ _ _ hP
  have c25 : w.cell? ⟨P, 25, none⟩ = some (.map none) := cell_of_row w P 25 _ _ _ hP
  have zz : ∀ j, w.frozen? ⟨P, j, none⟩ = false := fun j => frozen_of_row w P j _ _ hP
  clear hW0 hb0 hP HX
  unfold stC
  have hmm : ∀ W, (Instr.makeMap 62 (some (.int .i64 0))).run Tryz.prog W = .ok (.map (some W.heap.size)) (W.alloc (.map #[] 0)) := fun W => by simp [Instr.makeMap, run_underlying Tryz.underlying62, asInt, asIntOf, Result.andThen]
  go_enter Tryz.func27, Tryz.ntmps27
  go_wp2
  go_loopw [20] (fun i wr => i = .int .i64 0 ∧ Hid (BecIn w P D fm wr)) (fun _ _ => 0)
  case atStart => exact ⟨rfl, HI⟩
  case round =>
    obtain ⟨rfl, HJ⟩ := hrel
    go_wp2
    go_end0
    exact ⟨rfl, HJ.out⟩
end Go.Proofs.YtbcjhngpcodaoaaGreatDoor
