/- CatalogNil: columnOf of no columns; columnsFormed of one; Formed of a table. -/
import Derived.Test.YtbcjhngpcodaoaaLName
import Derived.Deep.QuietTactic
import Derived.BigQuiet
import Derived.Deep.RegionHeld3
import Derived.Deep.RegionLawGrows
namespace Go.Proofs.Ytbcjhngpcodaoaa
open Go.RowKit
set_option linter.unusedVariables false
set_option maxRecDepth 100000

set_option maxHeartbeats 800000 in
theorem indexfunc_0 (a : Option Addr) (c : Nat) (f : Value) (w : World) : Calls Try.prog 172 #[.slice a 0 c, f] w fun e w' => e = .returned (.int .i64 (-1)) ∧ w' = w := by
  go_enter Try.func172, Try.ntmps172
  go_wp2
  go_loop [8] (fun i => i = .int .i64 0) (fun _ => 0)
  case atStart => rfl
  case round =>
    obtain rfl := hrel
    go_wp2
    go_ret
    exact ⟨rfl, rfl⟩
set_option maxHeartbeats 800000 in
theorem containsfunc_0 (a : Option Addr) (c : Nat) (f : Value) (w : World) : Calls Try.prog 144 #[.slice a 0 c, f] w fun e w' => e = .returned (.bool false) ∧ w' = w := by
  go_enter Try.func144, Try.ntmps144
  go_wp2_with fail
  refine (indexfunc_0 a c f _).mono ?_
  rintro e w1 ⟨rfl, hw⟩
  subst hw
  go_wp2
  go_ret
  exact ⟨rfl, rfl⟩
set_option maxHeartbeats 800000 in
theorem columnOf_0 (a : Option Addr) (c : Nat) (s : ByteArray) (w : World) : Calls Try.prog 170 #[.slice a 0 c, .string s] w fun e w' => e = .returned (.bool false) ∧ Below w.heap.size w w' := by
  have HB := Lib.hid (bel0 (.cells #[.string s] 9) (Below.refl w.heap.size w))
  go_enter Try.func170, Try.ntmps170
  go_wp2_with fail
  refine (containsfunc_0 a c _ _).mono ?_
  rintro e w1 ⟨rfl, hw⟩
  subst hw
  go_wp2
  go_ret
  exact ⟨rfl, HB.out⟩

/-- the column of the first table, from an address on -/
def ColA (w : World) (g : Nat) : Prop := w.cell? ⟨g, 0, none⟩ = some (.string ⟨#[97]⟩) ∧ w.cell? ⟨g, 1, none⟩ = some (.int .i64 1) ∧ w.cell? ⟨g, 2, none⟩ = some (.bool false) ∧ w.cell? ⟨g, 3, none⟩ = some (.bool false)
theorem ColA.below {w w' : World} {g : Nat} (h : ColA w g) (hg : g < w.heap.size) (hb : Below w.heap.size w w') : ColA w' g :=
  ⟨(hb.cell (p := ⟨g, 0, none⟩) hg).trans h.1, (hb.cell (p := ⟨g, 1, none⟩) hg).trans h.2.1, (hb.cell (p := ⟨g, 2, none⟩) hg).trans h.2.2.1, (hb.cell (p := ⟨g, 3, none⟩) hg).trans h.2.2.2⟩
theorem last3 {A B C : Prop} (h : A ∧ B ∧ C) : C := h.2.2
theorem keepC {w w' : World} {g : Nat} {a b : Value} {W0 : World} (h : w.cell? ⟨g, 0, none⟩ = some a ∧ w.cell? ⟨g, 1, none⟩ = some b ∧ Below W0.heap.size W0 w) (hg : g < W0.heap.size) (hb : Below w.heap.size w w') :
    w'.cell? ⟨g, 0, none⟩ = some a ∧ w'.cell? ⟨g, 1, none⟩ = some b ∧ Below W0.heap.size W0 w' :=
  ⟨(hb.cell (p := ⟨g, 0, none⟩) (Nat.lt_of_lt_of_le hg h.2.2.size)).trans h.1, (hb.cell (p := ⟨g, 1, none⟩) (Nat.lt_of_lt_of_le hg h.2.2.size)).trans h.2.1, bt h.2.2 hb⟩

set_option maxHeartbeats 3200000 in
theorem columnsFormed_1 (g : Nat) (w : World) (hc : ColA w g) (hg : g < w.heap.size) : Calls Try.prog 142 #[.slice (some ⟨g, 0, none⟩) 1 1, .int .i64 1] w fun e w' => e = .returned (.bool true) ∧ Below w.heap.size w w' := by
  have HC := Lib.hid hc
  have hsl : ∀ W, (Instr.slice 83 (.slice (some ⟨g, 0, none⟩) 1 1) none (some (.int .i64 0)) none).run Try.prog W = .ok (.slice (some ⟨g, 0, none⟩) 0 1) W := fun W => by kernel_rfl
  clear hc
  go_enter Try.func142, Try.ntmps142
  go_wp2
  go_loopw [9] (fun i wr => ∃ k : Nat, k ≤ 1 ∧ i = .int .i64 (k : Int) ∧ Hid (Below w.heap.size w wr)) (fun i _ => 1 - (intOf i).toNat)
  case atStart => exact ⟨0, by omega, rfl, Lib.hid (Below.refl _ _)⟩
  case round =>
    obtain ⟨k, hk, rfl, HB⟩ := hrel
    rcases Nat.lt_or_ge k 1 with h | h
    · obtain rfl : k = 0 := by omega
      obtain ⟨c0, c1, c2, c3⟩ := HC.out.below hg HB.out
      go_wp2
      obtain ⟨W0, hW0⟩ : ∃ W0, W0 = wr.alloc (.cells #[.string ⟨#[97]⟩, .int .i64 1, .bool false, .bool false] 176) := ⟨_, rfl⟩
      have p0 : W0.cell? ⟨wr.heap.size, 0, none⟩ = some (.string ⟨#[97]⟩) := by rw [hW0]; simp [go_sem]
      have p1 : W0.cell? ⟨wr.heap.size, 1, none⟩ = some (.int .i64 1) := by rw [hW0]; simp [go_sem]
      have HS := Lib.hid (show wr.heap.size < W0.heap.size by rw [hW0]; simp)
      have HB0 := Lib.hid (show Below w.heap.size w W0 by rw [hW0]; exact bt HB.out (bel0 _ (Below.refl _ _)))
      rw [← hW0]
      clear hW0 c0 c1 c2 c3
      refine wp_region_noPanic ?_
      go_region_held3 (fun w' => w'.cell? ⟨wr.heap.size, 0, none⟩ = some (.string ⟨#[97]⟩) ∧ w'.cell? ⟨wr.heap.size, 1, none⟩ = some (.int .i64 1) ∧ Below W0.heap.size W0 w')
        (first | exact ⟨p0, p1, Below.refl _ _⟩ | exact ⟨p0, p1, (Below.refl _ _).drew⟩ | exact ⟨by assumption, by assumption, by assumption⟩)
        (first
          | (go_at_call 141; refine (name_a _).mono ?_; rintro e w8 ⟨rfl, hb8⟩; obtain ⟨e0, e1, e2⟩ := keepC (by assumption) HS.out hb8; clear hb8)
          | (go_at_call 170; refine (columnOf_0 _ _ _ _).mono ?_; rintro e w9 ⟨rfl, hb9⟩; obtain ⟨e0, e1, e2⟩ := keepC (by assumption) HS.out hb9; clear hb9))
      all_goals refine NoPanic.normal ?_
      all_goals
        have HE := Lib.hid (bt HB0.out (last3 (by assumption)))
        go_wp2
        go_roundw
        case rel => exact ⟨1, by omega, rfl, HE⟩
        case measure => simp [intOf]
    · obtain rfl : k = 1 := by omega
      go_wp2
      go_ret
      exact ⟨rfl, HB.out⟩

/-- the first table, in the order of an object's fields -/
def tabV (g : Nat) : Value := .agg #[.int .i64 1, .string ⟨#[116]⟩, .string ⟨#[]⟩, .slice (some ⟨g, 0, none⟩) 1 1, .slice none 0 0, .bool false, .string ⟨#[]⟩, .slice none 0 0, .int .i64 1]

set_option maxHeartbeats 3200000 in
theorem cformed_t (g : Nat) (w : World) (hc : ColA w g) (hg : g < w.heap.size) : Calls Try.prog 100 #[tabV g] w fun e w' => e = .returned (.bool true) ∧ Below w.heap.size w w' := by
  have HU : Hid (tabV g = .agg #[.int .i64 1, .string ⟨#[116]⟩, .string ⟨#[]⟩, .slice (some ⟨g, 0, none⟩) 1 1, .slice none 0 0, .bool false, .string ⟨#[]⟩, .slice none 0 0, .int .i64 1]) := Lib.hid rfl
  rw [HU.out]
  obtain ⟨W0, hW0⟩ : ∃ W0, W0 = w.alloc (.cells #[.int .i64 1, .string ⟨#[116]⟩, .string ⟨#[]⟩, .slice (some ⟨g, 0, none⟩) 1 1, .slice none 0 0, .bool false, .string ⟨#[]⟩, .slice none 0 0, .int .i64 1] 89) := ⟨_, rfl⟩
  have q1 : W0.cell? ⟨w.heap.size, 1, none⟩ = some (.string ⟨#[116]⟩) := by rw [hW0]; simp [go_sem]
  have q : W0.cell? ⟨w.heap.size, 0, none⟩ = some (.int .i64 1) ∧ W0.cell? ⟨w.heap.size, 2, none⟩ = some (.string ⟨#[]⟩) ∧ W0.cell? ⟨w.heap.size, 3, none⟩ = some (.slice (some ⟨g, 0, none⟩) 1 1) ∧ W0.cell? ⟨w.heap.size, 4, none⟩ = some (.slice none 0 0) ∧ W0.cell? ⟨w.heap.size, 5, none⟩ = some (.bool false) ∧ W0.cell? ⟨w.heap.size, 6, none⟩ = some (.string ⟨#[]⟩) ∧ W0.cell? ⟨w.heap.size, 7, none⟩ = some (.slice none 0 0) ∧ W0.cell? ⟨w.heap.size, 8, none⟩ = some (.int .i64 1) := by
    rw [hW0]; refine ⟨?_, ?_, ?_, ?_, ?_, ?_, ?_, ?_⟩ <;> simp [go_sem]
  have hb0 : Below w.heap.size w W0 := by rw [hW0]; exact bel0 _ (Below.refl _ _)
  have HS := Lib.hid (show w.heap.size < W0.heap.size by rw [hW0]; simp)
  have HB0 := Lib.hid hb0
  have HC := Lib.hid (hc.below hg hb0)
  have HG := Lib.hid (Nat.lt_of_lt_of_le hg hb0.size)
  have HW := Lib.hid hW0
  have HQ := Lib.hid q
  clear q hb0 hc hW0
  go_enter Try.func100, Try.ntmps100
  go_wp2_with fail
  rw [← HW.out]
  refine (name_t _).mono ?_
  rintro e w1 ⟨rfl, hb1⟩
  obtain ⟨b1, _⟩ := bcell hb1
  have r : ∀ o v, W0.cell? ⟨w.heap.size, o, none⟩ = some v → w1.cell? ⟨w.heap.size, o, none⟩ = some v := fun o v h => (b1 _ o HS.out).trans h
  have r0 := r 0 _ HQ.out.1
  have r2 := r 2 _ HQ.out.2.1
  have r3 := r 3 _ HQ.out.2.2.1
  have r4 := r 4 _ HQ.out.2.2.2.1
  have r5 := r 5 _ HQ.out.2.2.2.2.1
  have r6 := r 6 _ HQ.out.2.2.2.2.2.1
  have r7 := r 7 _ HQ.out.2.2.2.2.2.2.1
  have r8 := r 8 _ HQ.out.2.2.2.2.2.2.2
  have HB1 := Lib.hid (bt HB0.out hb1)
  have HC1 := Lib.hid (HC.out.below HG.out hb1)
  have HG1 := Lib.hid (Nat.lt_of_lt_of_le HG.out hb1.size)
  clear b1 r hb1 q1
  go_wp2_with fail
  refine (columnsFormed_1 g _ HC1.out HG1.out).mono ?_
  rintro e w2 ⟨rfl, hb2⟩
  have HB2 := Lib.hid (bt HB1.out hb2)
  clear hb2 r0 r2 r3 r4 r5 r6 r7 r8
  go_wp2
  go_ret
  exact ⟨rfl, HB2.out⟩
end Go.Proofs.Ytbcjhngpcodaoaa
