/- CatalogNil: all objects of a catalog of one table. -/
import Derived.Test.YtbcjhngpcodaoaaCat4
namespace Go.Proofs.Ytbcjhngpcodaoaa
open Go.RowKit
set_option linter.unusedVariables false
set_option maxRecDepth 100000

set_option maxHeartbeats 1600000 in
theorem all1_any (g c : Nat) (w : World) : Calls Try.prog 105 #[tabC g c] w fun e w' => e = .returned (.bool true) ∧ Below w.heap.size w w' := by
  have HU : Hid (tabC g c = .agg #[.int .i64 1, .string ⟨#[116]⟩, .string ⟨#[]⟩, .slice (some ⟨g, 0, none⟩) 1 c, .slice none 0 0, .bool false, .string ⟨#[]⟩, .slice none 0 0, .int .i64 1]) := Lib.hid rfl
  rw [HU.out]
  go_enter Try.func105, Try.ntmps105
  go_wp2
  go_ret
  exact ⟨rfl, bel0 _ (Below.refl _ _)⟩
/-- a catalog of one table -/
def OneCat (w : World) (D : Nat) : Prop := ∃ O co g c, w.cell? ⟨D, 0, none⟩ = some (.slice (some ⟨O, 0, none⟩) 1 co) ∧ D < w.heap.size ∧ O < w.heap.size ∧ g < w.heap.size ∧ ColA w g ∧ ∀ j, j < 9 → w.cell? ⟨O, j, none⟩ = (tabX (.slice (some ⟨g, 0, none⟩) 1 c) (.slice none 0 0) (.slice none 0 0))[j]?

theorem infoObj : (Try.prog.info? 89).map (fun i => (i.zero, i.size, i.bytes)) = some (some (.agg zeroX), 9, 144) := by kernel_rfl
/-- the list of the objects that were looked at: none yet, or the one -/
def TInv (w : World) (k : Nat) (v : Value) (wr : World) : Prop := ((k = 0 ∧ v = .slice none 0 0) ∨ (k = 1 ∧ ∃ a c, v = .slice a 1 c)) ∧ Below w.heap.size w wr
def OneList (w : World) (e : Ending) (w' : World) : Prop := (∃ a c, e = .returned (.slice a 1 c)) ∧ Below w.heap.size w w'
theorem OneCat.below {w w' : World} {D : Nat} (h : OneCat w D) (hb : Below w.heap.size w w') : OneCat w' D := by
  obtain ⟨O, co, g, c, h1, h2, h3, h4, h5, h6⟩ := h
  exact ⟨O, co, g, c, (hb.cell (p := ⟨D, 0, none⟩) h2).trans h1, Nat.lt_of_lt_of_le h2 hb.size, Nat.lt_of_lt_of_le h3 hb.size, Nat.lt_of_lt_of_le h4 hb.size, h5.below h4 hb, fun j hj => (hb.cell (p := ⟨O, j, none⟩) h3).trans (h6 j hj)⟩
theorem tabC_cells (h c : Nat) : ∀ u ∈ (tabX (.slice (some ⟨h, 0, none⟩) 1 c) (.slice none 0 0) (.slice none 0 0)).toList, u.oneCell' = true := by
  intro u hu
  simp [tabX] at hu
  rcases hu with rfl | rfl | rfl | rfl | rfl | rfl | rfl | rfl | rfl <;> rfl

set_option maxHeartbeats 3200000 in
theorem those_one (D : Nat) (w : World) (h : OneCat w D) : Calls Try.prog 96 #[.pointer (some ⟨D, 0, none⟩), .func (Fn.func 105) #[] #[]] w (OneList w) := by
  obtain ⟨i0, hi, hz0, hz1, hz2⟩ := info_parts infoObj
  obtain ⟨O, co, g, c, h1, h2, h3, h4, h5, h6⟩ := h
  have HO := Lib.hid (show O < w.heap.size ∧ g < w.heap.size ∧ ColA w g ∧ ∀ j, j < 9 → w.cell? ⟨O, j, none⟩ = (tabX (.slice (some ⟨g, 0, none⟩) 1 c) (.slice none 0 0) (.slice none 0 0))[j]? from ⟨h3, h4, h5, h6⟩)
  clear h2 h3 h4 h5 h6
  go_enter Try.func96, Try.ntmps96
  go_wp2
  go_loopw [5, 15] (fun v i wr => ∃ k : Nat, k ≤ 1 ∧ i = .int .i64 (k : Int) ∧ Hid (TInv w k v wr)) (fun _ i _ => 1 - (intOf i).toNat)
  case atStart => exact ⟨0, by omega, rfl, Lib.hid ⟨.inl ⟨rfl, rfl⟩, Below.refl _ _⟩⟩
  case round =>
    obtain ⟨k, hk, rfl, HT⟩ := hrel
    have HB := Lib.hid HT.out.2
    rcases HT.out.1 with ⟨rfl, hv⟩ | ⟨rfl, a, c', hv⟩
    · obtain rfl := hv
      obtain ⟨b1, _⟩ := bcell HB.out
      have t : ∀ j, j < 9 → wr.cell? ⟨O, j, none⟩ = (tabX (.slice (some ⟨g, 0, none⟩) 1 c) (.slice none 0 0) (.slice none 0 0))[j]? := fun j hj => (b1 O j HO.out.1).trans (HO.out.2.2.2 j hj)
      have t0 := t 0 (by omega)
      have t1 := t 1 (by omega)
      have t2 := t 2 (by omega)
      have t3 := t 3 (by omega)
      have t4 := t 4 (by omega)
      have t5 := t 5 (by omega)
      have t6 := t 6 (by omega)
      have t7 := t 7 (by omega)
      have t8 := t 8 (by omega)
      simp only [tabX, List.getElem?_toArray, List.getElem?_cons_zero, List.getElem?_cons_succ] at t0 t1 t2 t3 t4 t5 t6 t7 t8
      clear t b1
      obtain ⟨W1, hW1⟩ : ∃ W1, W1 = wr.alloc (.cells #[.int .i64 1, .string ⟨#[116]⟩, .string ⟨#[]⟩, .slice (some ⟨g, 0, none⟩) 1 c, .slice none 0 0, .bool false, .string ⟨#[]⟩, .slice none 0 0, .int .i64 1] 89) := ⟨_, rfl⟩
      have HW1 := Lib.hid hW1
      have HB1 := Lib.hid (show Below wr.heap.size wr W1 by rw [hW1]; exact bel0 _ (Below.refl _ _))
      have HM := Lib.hid (show wr.heap.size < W1.heap.size by rw [hW1]; simp)
      have HX := Lib.hid (show ∀ j, W1.cell? ⟨wr.heap.size, j, none⟩ = (tabX (.slice (some ⟨g, 0, none⟩) 1 c) (.slice none 0 0) (.slice none 0 0))[j]? from fun j => cell_of_row _ _ j _ _ _ (by rw [hW1]; exact Go.heap_alloc_new wr _))
      clear hW1
      go_wp2_with fail
      rw [← HW1.out]
      refine (all1_any g c _).mono ?_
      rintro e w1 ⟨rfl, hb1⟩
      obtain ⟨b1, _⟩ := bcell hb1
      have x : ∀ j, w1.cell? ⟨wr.heap.size, j, none⟩ = (tabX (.slice (some ⟨g, 0, none⟩) 1 c) (.slice none 0 0) (.slice none 0 0))[j]? := fun j => (b1 _ j HM.out).trans (HX.out j)
      have x0 := x 0
      have x1 := x 1
      have x2 := x 2
      have x3 := x 3
      have x4 := x 4
      have x5 := x 5
      have x6 := x 6
      have x7 := x 7
      have x8 := x 8
      simp only [tabX, List.getElem?_toArray, List.getElem?_cons_zero, List.getElem?_cons_succ] at x0 x1 x2 x3 x4 x5 x6 x7 x8
      have HB2 := Lib.hid (bt (bt HB.out HB1.out) hb1)
      have HC2 := Lib.hid (HO.out.2.2.1.below HO.out.2.1 HB2.out)
      have HG2 := Lib.hid (Nat.lt_of_lt_of_le HO.out.2.1 HB2.out.size)
      clear x b1 hb1 t0 t1 t2 t3 t4 t5 t6 t7 t8
      go_wp2_with fail
      refine (clone_t g c _ HC2.out HG2.out).mono ?_
      rintro e w2 ⟨⟨h', c', rfl, hA, hh⟩, hb2⟩
      rw [show tabC h' c' = .agg #[.int .i64 1, .string ⟨#[116]⟩, .string ⟨#[]⟩, .slice (some ⟨h', 0, none⟩) 1 c', .slice none 0 0, .bool false, .string ⟨#[]⟩, .slice none 0 0, .int .i64 1] from rfl]
      have HB3 := Lib.hid (bt HB2.out hb2)
      clear hA hh hb2 x0 x1 x2 x3 x4 x5 x6 x7 x8
      go_wp2_with (at_builtin; refine wpList_append_lies _ rfl (.tmp 22) (.tmp 25) 92 rfl w.heap.size 89 i0 (.agg zeroX) 9 144 Try.underlying92 hi hz0 hz1 hz2 rfl (by decide) (.slice none 0 0) 0 [] rfl (World.ownsRow_nil _ _ _ _) ⟨w2.heap.size, 0, none⟩ 1 1 (tabX (.slice (some ⟨h', 0, none⟩) 1 c') (.slice none 0 0) (.slice none 0 0)).toList rfl rfl ?c1 (tabC_cells h' c') (by omega) (by unfold maxLen; omega) (by omega) ?c2 _ rfl ?_)
      case c1 => exact World.news_of_block (by exact Go.heap_alloc_new w2 _)
      case c2 => have := HB3.out.size; simp; omega
      intro g4 c4 w4 hown4 hgrow4 hor4 hlt4
      have HB4 := Lib.hid ((bt HB3.out (bel0 (.cells (tabX (.slice (some ⟨h', 0, none⟩) 1 c') (.slice none 0 0) (.slice none 0 0)) 89) (Below.refl _ _))).grown hgrow4 (by have := HB3.out.size; simp; omega) (fun k hk => by cases hk))
      clear hown4 hgrow4 hor4 hlt4
      go_wp2
      go_roundw
      case rel => exact ⟨1, by omega, by go_num, Lib.hid ⟨.inr ⟨rfl, _, _, rfl⟩, HB4.out⟩⟩
      case measure => simp [intOf]
    · obtain rfl := hv
      go_wp2
      go_ret
      exact ⟨⟨a, c', rfl⟩, HB.out⟩
set_option maxHeartbeats 1600000 in
theorem all_one (D : Nat) (w : World) (h : OneCat w D) : Calls Try.prog 47 #[.pointer (some ⟨D, 0, none⟩)] w (OneList w) := by
  go_enter Try.func47, Try.ntmps47
  go_wp2_with fail
  refine (those_one D _ h).mono ?_
  rintro e w1 ⟨⟨a, c, rfl⟩, hb⟩
  have HB := Lib.hid hb
  clear hb
  go_wp2
  go_ret
  exact ⟨⟨a, c, rfl⟩, HB.out⟩
end Go.Proofs.Ytbcjhngpcodaoaa
