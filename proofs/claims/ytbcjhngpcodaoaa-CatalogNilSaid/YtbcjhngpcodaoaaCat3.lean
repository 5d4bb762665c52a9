/- CatalogNil: the clones of an object's parts; clone of the first table. -/
import Derived.Test.YtbcjhngpcodaoaaCat2
import Derived.Test.YtbcjhngpcodaoaaApp1
import Derived.Lib.SliceRun
import Derived.BigRegion
namespace Go.Proofs.Ytbcjhngpcodaoaa
open Go.RowKit
set_option linter.unusedVariables false
set_option maxRecDepth 100000

theorem infoCol : (Try.prog.info? 176).map (fun i => (i.zero, i.size, i.bytes)) = some (some (.agg #[.string ⟨#[]⟩, .int .i64 0, .bool false, .bool false]), 4, 32) := by kernel_rfl
def colX : List Value := [.string ⟨#[97]⟩, .int .i64 1, .bool false, .bool false]

set_option maxHeartbeats 1600000 in
theorem cclone (g : Nat) (c0 : Nat) (w : World) (hc : ColA w g) (hg : g < w.heap.size) :
    Calls Try.prog 147 #[.slice (some ⟨g, 0, none⟩) 1 c0] w fun e w' => (∃ h c, e = .returned (.slice (some ⟨h, 0, none⟩) 1 c) ∧ ColA w' h ∧ w.heap.size ≤ h ∧ h < w'.heap.size) ∧ Below w.heap.size w w' := by
  obtain ⟨i0, hi, hz0, hz1, hz2⟩ := info_parts infoCol
  have HC := Lib.hid hc
  clear hc
  have hnil := fun (W : World) => Lib.run_eql_slice_nil (P := Try.prog) W 83 176 (some ⟨g, 0, none⟩) 1 c0 0 0 Try.underlying83
  go_enter Try.func147, Try.ntmps147
  go_wp2_with (at_builtin; refine wpList_append_own _ rfl _ _ 83 rfl w.heap.size 176 i0 (.agg #[.string ⟨#[]⟩, .int .i64 0, .bool false, .bool false]) 4 32 Try.underlying83 hi hz0 hz1 hz2 rfl (by decide) _ 0 [] rfl ?c0 ⟨g, 0, none⟩ 1 c0 colX rfl ?c1 ?c2 ?c3 ?c4 ?c5 ?c6 ?_)
  case c0 => exact World.ownsRow_lit (base := w.heap.size) (e := 176) (size := 4) w #[] 0 (Nat.le_refl _) (by unfold maxLen; omega) rfl
  case c1 => rfl
  case c2 =>
    intro j u hu
    have e : ∀ j, (w.alloc (.cells #[] 176)).cell? ⟨g, j, none⟩ = w.cell? ⟨g, j, none⟩ := fun j => (Below.refl w.heap.size w).alloc (Nat.le_refl _) (.cells #[] 176) |>.cell (p := ⟨g, j, none⟩) hg
    match j, hu with
    | 0, hu => simp [colX] at hu; subst hu; exact (e 0).trans HC.out.1
    | 1, hu => simp [colX] at hu; subst hu; exact (e 1).trans HC.out.2.1
    | 2, hu => simp [colX] at hu; subst hu; exact (e 2).trans HC.out.2.2.1
    | 3, hu => simp [colX] at hu; subst hu; exact (e 3).trans HC.out.2.2.2
    | j + 4, hu => simp [colX] at hu
  case c3 => intro u hu; simp [colX] at hu; rcases hu with rfl | rfl | rfl | rfl <;> rfl
  case c4 => unfold maxLen; omega
  case c5 => omega
  case c6 => simp
  intro v' w1 hown hgrow _
  obtain ⟨h, c, rfl⟩ : ∃ h c, v' = .slice (some ⟨h, 0, none⟩) 1 c := by
    rcases hown.2 with ⟨_, h⟩ | ⟨h, c, cur, e, _⟩
    · omega
    · exact ⟨h, c, e⟩
  have hh : w.heap.size ≤ h ∧ h < w1.heap.size := hown.lt h rfl
  have HA := Lib.hid (show ColA w1 h from ⟨hown.cellAt 0 (by omega), hown.cellAt 1 (by omega), hown.cellAt 2 (by omega), hown.cellAt 3 (by omega)⟩)
  have HH := Lib.hid hh
  have HB := Lib.hid ((bel0 (.cells #[] 176) (Below.refl w.heap.size w)).grown hgrow (by simp) (fun k hk => by cases hk; exact Nat.le_refl _))
  clear hown hgrow hh
  go_wp2
  go_ret
  exact ⟨⟨h, c, rfl, HA.out, HH.out⟩, HB.out⟩
set_option maxHeartbeats 800000 in
theorem iclone (w : World) : Calls Try.prog 148 #[.slice none 0 0] w fun e w' => e = .returned (.slice none 0 0) ∧ w' = w := by
  have hnil := fun (W : World) => Lib.run_eql_slice_nil (P := Try.prog) W 29 3 none 0 0 0 0 Try.underlying29
  go_enter Try.func148, Try.ntmps148
  go_wp2
  go_ret
  exact ⟨rfl, rfl⟩
set_option maxHeartbeats 800000 in
theorem sclone (w : World) : Calls Try.prog 149 #[.slice none 0 0] w fun e w' => e = .returned (.slice none 0 0) ∧ w' = w := by
  have hnil := fun (W : World) => Lib.run_eql_slice_nil (P := Try.prog) W 84 9 none 0 0 0 0 Try.underlying84
  go_enter Try.func149, Try.ntmps149
  go_wp2
  go_ret
  exact ⟨rfl, rfl⟩

end Go.Proofs.Ytbcjhngpcodaoaa
