/- CatalogNil: Add of the first table to an empty catalog. -/
import Derived.Test.YtbcjhngpcodaoaaCat5
import Derived.Deep.AppendLies
import Derived.Deep.RegionLaw
namespace Go.Proofs.Ytbcjhngpcodaoaa
open Go.RowKit
set_option linter.unusedVariables false
set_option maxRecDepth 100000

set_option maxHeartbeats 1600000 in
theorem tablesOf_t (g c : Nat) (w : World) : Calls Try.prog 102 #[tabC g c] w fun e w' => e = .returned (.slice none 0 0) ∧ Below w.heap.size w w' := by
  have HU : Hid (tabC g c = .agg #[.int .i64 1, .string ⟨#[116]⟩, .string ⟨#[]⟩, .slice (some ⟨g, 0, none⟩) 1 c, .slice none 0 0, .bool false, .string ⟨#[]⟩, .slice none 0 0, .int .i64 1]) := Lib.hid rfl
  rw [HU.out]
  go_enter Try.func102, Try.ntmps102
  go_wp2
  go_ret
  exact ⟨rfl, bel0 _ (Below.refl _ _)⟩
theorem oneCat_set {w : World} {D G g c co : Nat} {x : Value} {T : TypeId} (hD : w.heap[D]? = some (.cells #[x] T (0, 0))) (hG : G ≠ D ∧ G < w.heap.size) (hg : g ≠ D ∧ g < w.heap.size) (hA : ColA w g)
    (hc : ∀ j, j < 9 → w.cell? ⟨G, j, none⟩ = (tabX (.slice (some ⟨g, 0, none⟩) 1 c) (.slice none 0 0) (.slice none 0 0))[j]?) : OneCat (w.setCell ⟨D, 0, none⟩ (.slice (some ⟨G, 0, none⟩) 1 co)) D := by
  have hlt := (Array.getElem?_eq_some_iff.1 hD).1
  refine ⟨G, co, g, c, ?_, by simpa using hlt, by simpa using hG.2, by simpa using hg.2, ?_, fun j hj => ?_⟩
  · have := Go.heap_setCell_same w D 0 _ _ (.slice (some ⟨G, 0, none⟩) 1 co) hD
    exact cell_of_row _ _ 0 _ _ _ this
  · have e : ∀ j, (w.setCell ⟨D, 0, none⟩ (.slice (some ⟨G, 0, none⟩) 1 co)).cell? ⟨g, j, none⟩ = w.cell? ⟨g, j, none⟩ := fun j => World.cell?_setCell_other _ _ _ _ (fun q => hg.1 (by injection q; symm; assumption))
    exact ⟨(e 0).trans hA.1, (e 1).trans hA.2.1, (e 2).trans hA.2.2.1, (e 3).trans hA.2.2.2⟩
  · rw [World.cell?_setCell_other _ _ _ _ (fun q => hG.1 (by injection q; symm; assumption))]
    exact hc j hj
/-- an empty catalog -/
def NoCat (w : World) (D : Nat) : Prop := w.heap[D]? = some (.cells #[.slice none 0 0] 181 (0, 0))
theorem NoCat.below {w w' : World} {D : Nat} (h : NoCat w D) (hb : Below w.heap.size w w') : NoCat w' D := (hb.block D (Array.getElem?_eq_some_iff.1 h).1).trans h
theorem NoCat.lt {w : World} {D : Nat} (h : NoCat w D) : D < w.heap.size := (Array.getElem?_eq_some_iff.1 h).1
theorem NoCat.cell {w : World} {D : Nat} (h : NoCat w D) : w.cell? ⟨D, 0, none⟩ = some (.slice none 0 0) := cell_of_row _ _ 0 _ _ _ h
theorem NoCat.free {w : World} {D : Nat} (h : NoCat w D) : w.frozen? ⟨D, 0, none⟩ = false := frozen_of_row _ _ 0 _ _ h
def AddPost (B D : Nat) (w : World) (e : Ending) (w' : World) : Prop := e = .returned (.int .i64 0) ∧ OneCat w' D ∧ Below B w w'
/-- an object's nine cells in a box -/
def Box9 (w : World) (M g c : Nat) : Prop := w.heap[M]? = some (.cells (tabX (.slice (some ⟨g, 0, none⟩) 1 c) (.slice none 0 0) (.slice none 0 0)) 89 (0, 0))
theorem Box9.below {w w' : World} {M g c : Nat} (h : Box9 w M g c) (hb : Below w.heap.size w w') : Box9 w' M g c := (hb.block M (Array.getElem?_eq_some_iff.1 h).1).trans h
theorem Box9.cells {w : World} {M g c : Nat} (h : Box9 w M g c) :
    w.cell? ⟨M, 0, none⟩ = some (.int .i64 1) ∧ w.cell? ⟨M, 1, none⟩ = some (.string ⟨#[116]⟩) ∧ w.cell? ⟨M, 2, none⟩ = some (.string ⟨#[]⟩) ∧ w.cell? ⟨M, 3, none⟩ = some (.slice (some ⟨g, 0, none⟩) 1 c) ∧ w.cell? ⟨M, 4, none⟩ = some (.slice none 0 0) ∧ w.cell? ⟨M, 5, none⟩ = some (.bool false) ∧ w.cell? ⟨M, 6, none⟩ = some (.string ⟨#[]⟩) ∧ w.cell? ⟨M, 7, none⟩ = some (.slice none 0 0) ∧ w.cell? ⟨M, 8, none⟩ = some (.int .i64 1) :=
  ⟨cell_of_row _ _ 0 _ _ _ h, cell_of_row _ _ 1 _ _ _ h, cell_of_row _ _ 2 _ _ _ h, cell_of_row _ _ 3 _ _ _ h, cell_of_row _ _ 4 _ _ _ h, cell_of_row _ _ 5 _ _ _ h, cell_of_row _ _ 6 _ _ _ h, cell_of_row _ _ 7 _ _ _ h, cell_of_row _ _ 8 _ _ _ h⟩

set_option maxHeartbeats 6400000 in
theorem add_t (B D g : Nat) (w : World) (hB : B ≤ D) (hD : NoCat w D) (hA : ColA w g) (hg : g < w.heap.size) :
    Calls Try.prog 46 #[.pointer (some ⟨D, 0, none⟩), tabC g 1] w (AddPost B D w) := by
  obtain ⟨i0, hi, hz0, hz1, hz2⟩ := info_parts infoObj
  have HU : Hid (tabC g 1 = .agg #[.int .i64 1, .string ⟨#[116]⟩, .string ⟨#[]⟩, .slice (some ⟨g, 0, none⟩) 1 1, .slice none 0 0, .bool false, .string ⟨#[]⟩, .slice none 0 0, .int .i64 1]) := Lib.hid rfl
  rw [HU.out]
  obtain ⟨W0, hW0⟩ : ∃ W0, W0 = w.alloc (.cells #[.int .i64 1, .string ⟨#[116]⟩, .string ⟨#[]⟩, .slice (some ⟨g, 0, none⟩) 1 1, .slice none 0 0, .bool false, .string ⟨#[]⟩, .slice none 0 0, .int .i64 1] 89) := ⟨_, rfl⟩
  have hb0 : Below w.heap.size w W0 := by rw [hW0]; exact bel0 _ (Below.refl _ _)
  have HBX := Lib.hid (show Box9 W0 w.heap.size g 1 by rw [hW0]; exact Go.heap_alloc_new w _)
  have HND := Lib.hid (hD.below hb0)
  have HC := Lib.hid (hA.below hg hb0)
  have HG := Lib.hid (Nat.lt_of_lt_of_le hg hb0.size)
  have HB0 := Lib.hid hb0
  have HW := Lib.hid hW0
  have HDw := Lib.hid hD.lt
  have HAg := Lib.hid hB
  clear hW0 hb0 hD hA hg hB HU
  go_enter Try.func46, Try.ntmps46
  go_wp2_with fail
  rw [← HW.out]
  refine (cformed_t g _ HC.out HG.out).mono ?_
  rintro e w1 ⟨rfl, hb1⟩
  have hbx := (HBX.out.below hb1)
  obtain ⟨x0, x1, x2, x3, x4, x5, x6, x7, x8⟩ := hbx.cells
  have HX1 := Lib.hid hbx
  have HN1 := Lib.hid (HND.out.below hb1)
  have HC1 := Lib.hid (HC.out.below HG.out hb1)
  have HG1 := Lib.hid (Nat.lt_of_lt_of_le HG.out hb1.size)
  have HB1 := Lib.hid (bt HB0.out hb1)
  clear hb1 hbx
  go_wp2_with fail
  refine (find_empty D _ _ HN1.out.lt HN1.out.cell).mono ?_
  rintro e w2 ⟨rfl, hb2⟩
  rw [show obj0 = .agg #[.int .i64 0, .string ⟨#[]⟩, .string ⟨#[]⟩, .slice none 0 0, .slice none 0 0, .bool false, .string ⟨#[]⟩, .slice none 0 0, .int .i64 0] from rfl]
  obtain ⟨W2, hW2⟩ : ∃ W2, W2 = w2.alloc (.cells #[.int .i64 0, .string ⟨#[]⟩, .string ⟨#[]⟩, .slice none 0 0, .slice none 0 0, .bool false, .string ⟨#[]⟩, .slice none 0 0, .int .i64 0] 89) := ⟨_, rfl⟩
  have hb2' : Below w1.heap.size w1 W2 := by rw [hW2]; exact bt hb2 (bel0 _ (Below.refl _ _))
  have HW2 := Lib.hid hW2
  have hbx := (HX1.out.below hb2')
  have HX2 := Lib.hid hbx
  have HN2 := Lib.hid (HN1.out.below hb2')
  have HC2 := Lib.hid (HC1.out.below HG1.out hb2')
  have HG2 := Lib.hid (Nat.lt_of_lt_of_le HG1.out hb2'.size)
  have HB2 := Lib.hid (bt HB1.out hb2')
  clear hb2 hb2' hbx hW2 x0 x1 x2 x3 x4 x5 x6 x7 x8
  go_wp2_with fail
  rw [← HW2.out]
  refine (those_empty D _ _ HN2.out.cell).mono ?_
  rintro e w3 ⟨rfl, hw3⟩
  subst hw3
  obtain ⟨x0, x1, x2, x3, x4, x5, x6, x7, x8⟩ := HX2.out.cells
  have d2 := HN2.out.cell
  clear HW2
  go_wp2_with fail
  refine (tablesOf_t g 1 _).mono ?_
  rintro e w4 ⟨rfl, hb4⟩
  have HX4 := Lib.hid (HX2.out.below hb4)
  have HN4 := Lib.hid (HN2.out.below hb4)
  have HC4 := Lib.hid (HC2.out.below HG2.out hb4)
  have HG4 := Lib.hid (Nat.lt_of_lt_of_le HG2.out hb4.size)
  have HB4 := Lib.hid (bt HB2.out hb4)
  clear hb4 d2 x0 x1 x2 x3 x4 x5 x6 x7 x8
  go_wp2
  go_loop [50] (fun i => i = .int .i64 0) (fun _ => 0)
  case atStart => rfl
  case round =>
    obtain rfl := hrel
    obtain ⟨x0, x1, x2, x3, x4, x5, x6, x7, x8⟩ := HX4.out.cells
    go_wp2_with fail
    refine (find_empty D _ _ HN4.out.lt HN4.out.cell).mono ?_
    rintro e w5 ⟨rfl, hb5⟩
    rw [show obj0 = .agg #[.int .i64 0, .string ⟨#[]⟩, .string ⟨#[]⟩, .slice none 0 0, .slice none 0 0, .bool false, .string ⟨#[]⟩, .slice none 0 0, .int .i64 0] from rfl]
    obtain ⟨W5, hW5⟩ : ∃ W5, W5 = w5.alloc (.cells #[.int .i64 0, .string ⟨#[]⟩, .string ⟨#[]⟩, .slice none 0 0, .slice none 0 0, .bool false, .string ⟨#[]⟩, .slice none 0 0, .int .i64 0] 89) := ⟨_, rfl⟩
    have hb5' : Below w4.heap.size w4 W5 := by rw [hW5]; exact bt hb5 (bel0 _ (Below.refl _ _))
    have HX5 := Lib.hid (HX4.out.below hb5')
    have HN5 := Lib.hid (HN4.out.below hb5')
    have HC5 := Lib.hid (HC4.out.below HG4.out hb5')
    have HG5 := Lib.hid (Nat.lt_of_lt_of_le HG4.out hb5'.size)
    have HB5 := Lib.hid (bt HB4.out hb5')
    have HW5 := Lib.hid hW5
    clear hb5 hb5' hW5 x0 x1 x2 x3 x4 x5 x6 x7 x8
    have x0 := HX5.out.cells.1
    go_upto_region 17 with (fail)
    rw [← HW5.out]
    go_quiet (fail)
    go_upto_region 19 with (fail)
    clear x0
    obtain ⟨W6, hW6⟩ : ∃ W6, W6 = W5.drewN nq := ⟨_, rfl⟩
    have hb6 : Below W5.heap.size W5 W6 := by rw [hW6]; exact ⟨rfl, rfl, rfl, Nat.le_refl _, fun _ _ => rfl⟩
    have HX6 := Lib.hid (HX5.out.below hb6)
    have HN6 := Lib.hid (HN5.out.below hb6)
    have HC6 := Lib.hid (HC5.out.below HG5.out hb6)
    have HG6 := Lib.hid (Nat.lt_of_lt_of_le HG5.out hb6.size)
    have HB6 := Lib.hid (bt HB5.out hb6)
    rw [← hW6]
    clear hW6 hb6
    obtain ⟨x0, x1, x2, x3, x4, x5, x6, x7, x8⟩ := HX6.out.cells
    have d6 := HN6.out.cell
    have f6 := HN6.out.free
    go_cut [] from 83 to 93 (fun wx => OneCat wx D ∧ Below B w wx)
    case first =>
      go_region_law (first
        | (go_simp; go_at_call 104; refine (clone_t g 1 _ (by exact HC6.out) (by exact HG6.out)).mono ?_; rintro e w8 ⟨⟨h8, c8, rfl, hA8, hh8⟩, hb8⟩; have hb9 : Below W6.heap.size W6 w8 := ⟨hb8.os, hb8.tape, hb8.output, hb8.size, hb8.block⟩; have HN8 := Lib.hid (HN6.out.below hb9); have d8 := HN8.out.cell; have f8 := HN8.out.free; have hd8 := HN8.out.lt; have HA8 := Lib.hid hA8; have HH8 := Lib.hid (show W6.heap.size ≤ h8 ∧ h8 < w8.heap.size from hh8); have HB8 := Lib.hid (bt HB6.out hb9); rw [show tabC h8 c8 = .agg #[.int .i64 1, .string ⟨#[116]⟩, .string ⟨#[]⟩, .slice (some ⟨h8, 0, none⟩) 1 c8, .slice none 0 0, .bool false, .string ⟨#[]⟩, .slice none 0 0, .int .i64 1] from rfl]; clear hb8 hb9 hA8 hh8)
        | (refine step_append_lies _ rfl (.tmp 87) (.tmp 90) 92 rfl w8.heap.size 89 i0 (.agg zeroX) 9 144 Try.underlying92 hi hz0 hz1 hz2 rfl (by decide) (.slice none 0 0) 0 [] rfl (World.ownsRow_nil _ _ _ _) ⟨w8.heap.size, 0, none⟩ 1 1 (tabX (.slice (some ⟨h8, 0, none⟩) 1 c8) (.slice none 0 0) (.slice none 0 0)).toList rfl rfl (World.news_of_block (by exact Go.heap_alloc_new w8 _)) (tabC_cells h8 c8) (by omega) (by unfold maxLen; omega) (by omega) (by simp) _ rfl ?_; intro g9 c9 w9 hown9 hgrow9 hor9 hlt9; have hb9 := (bel0 (.cells (tabX (.slice (some ⟨h8, 0, none⟩) 1 c8) (.slice none 0 0) (.slice none 0 0)) 89) (Below.refl w8.heap.size w8)).grown hgrow9 (by simp) (fun k hk => by cases hk); have HN9 := Lib.hid (HN8.out.below hb9); have d9 := HN9.out.cell; have f9 := HN9.out.free; have HO9 := Lib.hid hown9; have HA9 := Lib.hid (HA8.out.below HH8.out.2 hb9); have HL9 := Lib.hid (show g9 < w9.heap.size ∧ w8.heap.size ≤ g9 ∧ w8.heap.size ≤ w9.heap.size from ⟨hlt9, own_lo hown9, hb9.size⟩); have HB9 := Lib.hid (bt HB8.out hb9); clear hown9 hgrow9 hor9 hlt9 hb9))
      all_goals
        go_wp2_with fail
        go_meet
        have hd8 := HN8.out.lt
        have hd6 := HN6.out.lt
        exact ⟨oneCat_set (c := c8) HN9.out ⟨by have := HL9.out; omega, HL9.out.1⟩ ⟨by have := HH8.out; omega, by have := HH8.out; have := HL9.out; omega⟩ HA9.out (fun j hj => (HO9.out.cellAt j (by exact hj)).trans (by rw [List.nil_append, Array.getElem?_toList])), (HB9.out.mono (Nat.le_trans HAg.out (Nat.le_of_lt HDw.out))).setCell HAg.out _⟩
    case rest =>
      obtain ⟨ho, hb⟩ := hcut
      have HO := Lib.hid ho
      have HB := Lib.hid hb
      clear ho hb x0 x1 x2 x3 x4 x5 x6 x7 x8 d6 f6
      go_wp2
      go_ret
      exact ⟨rfl, HO.out, HB.out⟩
end Go.Proofs.Ytbcjhngpcodaoaa
