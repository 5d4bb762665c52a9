/- Contract of layer 10's page, with what it holds. -/
import Derived.Test.YtbcjhngpcodaoaaJPage
import Derived.Test.YtbcjhngpcodaoaaJBkQ
namespace Go.Proofs.Ytbcjhngpcodaoaa
open Go.RowKit
set_option linter.unusedVariables false
set_option maxRecDepth 100000

def PageIs (w : World) (y : Int) (e : Ending) (w' : World) : Prop := ∃ g, e = .returned (.slice (some ⟨g, 0, none⟩) 512 512) ∧ PInv w g (pageB y) w'
theorem pageB_of {zs : List Int} {y : Int} (hl : zs.length = 512) (h : ∀ i, i < 512 → zs.getD i 0 = y) : zs = pageB y := by
  unfold pageB
  apply List.ext_getElem
  · rw [hl, List.length_replicate]
  · intro i h1 h2
    have := h i (by omega)
    rw [List.getD_eq_getElem?_getD, List.getElem?_eq_getElem h1] at this
    rw [List.getElem_replicate]
    exact this
theorem getD_set (zs : List Int) (k i : Nat) (y : Int) (hk : k < zs.length) : (zs.set k y).getD i 0 = if i = k then y else zs.getD i 0 := by
  rw [List.getD_eq_getElem?_getD, List.getElem?_set, List.getD_eq_getElem?_getD]
  by_cases h : k = i
  · subst h; simp [hk]
  · rw [if_neg h, if_neg (fun e => h e.symm)]

set_option maxHeartbeats 1600000 in
theorem page_is (y : Int) (hy : 0 ≤ y ∧ y ≤ 255) (w : World) : Calls Try.prog 18 #[.int .u8 y] w (PageIs w y) := by
  obtain ⟨i0, hi, hz0, hz1, hz2⟩ := info_parts info5
  have hmk := Lib.hid (made_noughts 512)
  have HY := Lib.hid hy
  clear hy
  go_enter Try.func18, Try.ntmps18
  go_wp2_with (at_make; refine wpList_make_full _ rfl (.const (.int .i64 512)) (.const (.int .i64 512)) 26 rfl w.heap.size 5 i0 (.int .u8 0) 1 Try.underlying26 hi hz0 hz1 .i64 .i64 512 512 512 rfl rfl rfl rfl ?c1 ?c2 ?c3 ?_)
  case c1 => rw [hz2]; omega
  case c2 => unfold maxLen; omega
  case c3 => exact Nat.le_refl _
  intro w1 hown1 hgrow1
  rw [hmk.out] at hown1
  have HP := Lib.hid (show PInv w w.heap.size (noughts 512) w1 from ⟨hown1, noughts_length 512, noughts_range 512, grown_belowB hgrow1 (Nat.le_refl _) (fun k hk => by cases hk)⟩)
  clear hown1 hgrow1
  go_wp2
  go_loopw [8] (fun i wr => ∃ (k : Nat) (zs : List Int), k ≤ 512 ∧ i = .int .i64 (k : Int) ∧ Hid (PInv w w.heap.size zs wr) ∧ Hid (∀ j, j < k → zs.getD j 0 = y)) (fun i _ => 512 - (intOf i).toNat)
  case atStart => exact ⟨0, _, by omega, rfl, HP, Lib.hid (fun j hj => absurd hj (Nat.not_lt_zero _))⟩
  case round =>
    obtain ⟨k, zs, hk, rfl, HR, HA⟩ := hrel
    clear HP
    by_cases hlt : k < 512
    · have hki : (k : Int) < 512 := by omega
      have hk0 : (0 : Int) ≤ (k : Int) := by omega
      have q := own_cell HR.out.1 HR.out.2.1 k hlt
      have f := own_frozen HR.out.1 k
      have HLt := Lib.hid hlt
      have HN := Lib.hid (show PInv w w.heap.size (zs.set k y) (wr.setCell ⟨w.heap.size, k, none⟩ (.int .u8 y)) from
        ⟨own_set HR.out.1 k hlt y, by rw [List.length_set]; exact HR.out.2.1, set_range HR.out.2.2.1 k y HY.out, HR.out.2.2.2.setCell (Nat.le_refl _) _⟩)
      have HA' := Lib.hid (show ∀ j, j < k + 1 → (zs.set k y).getD j 0 = y from fun j hj => by
        rw [getD_set zs k j y (by rw [HR.out.2.1]; exact hlt)]
        by_cases h : j = k
        · rw [if_pos h]
        · rw [if_neg h]; exact HA.out j (by omega))
      clear hlt hk
      go_wp2
      go_roundw
      case rel => exact ⟨k + 1, _, HLt.out, by go_num, HN, HA'⟩
      case measure => have := HLt.out; simp [intOf]; omega
    · obtain rfl : k = 512 := by omega
      go_wp2
      go_ret
      exact ⟨_, rfl, by rw [← pageB_of HR.out.2.1 HA.out]; exact HR.out⟩
end Go.Proofs.Ytbcjhngpcodaoaa
