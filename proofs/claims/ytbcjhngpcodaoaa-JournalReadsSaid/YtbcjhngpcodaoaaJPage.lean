/- Contracts of layer 10's page: every byte. -/
import Derived.Test.YtbcjhngpcodaoaaJGot
import Derived.Test.YtbcjhngpcodaoaaHeadW
import Derived.Test.YtbcjhngpcodaoaaApp1
namespace Go.Proofs.Ytbcjhngpcodaoaa
open Go.RowKit
set_option linter.unusedVariables false
set_option maxRecDepth 100000

def PInv (w : World) (g : Nat) (zs : List Int) (wr : World) : Prop :=
  wr.ownsRow w.heap.size 5 1 (.slice (some ⟨g, 0, none⟩) 512 512) 512 (zs.map (Value.int .u8)) ∧ zs.length = 512 ∧ (∀ z ∈ zs, 0 ≤ z ∧ z ≤ 255) ∧ Below w.heap.size w wr
def PagePost (w : World) (e : Ending) (w' : World) : Prop := ∃ g zs, e = .returned (.slice (some ⟨g, 0, none⟩) 512 512) ∧ PInv w g zs w'

set_option maxHeartbeats 1600000 in
theorem page_any (y : Int) (hy : 0 ≤ y ∧ y ≤ 255) (w : World) : Calls Try.prog 18 #[.int .u8 y] w (PagePost w) := by
  obtain ⟨i0, hi, hz0, hz1, hz2⟩ := info_parts info5
  have hmk := Lib.hid (made_noughts 512)
  have HY := Lib.hid hy
  clear hy
  go_enter Try.func18, Try.ntmps18
  go_wp2_with (at_make; refine wpList_make_full _ rfl (.const (.int .i64 512)) (.const (.int .i64 512)) 26 rfl w.heap.size 5 i0 (.int .u8 0) 1 Try.underlying26 hi hz0 hz1 .i64 .i64 512 512 512 rfl rfl rfl rfl ?c1 ?c2 ?c3 ?_)
  case c1 => rw [hz2]; omega
  case c2 => unfold maxLen; omega
  case c3 => exact Nat.le_refl _
  intro w1 hown1 hgrow1
  rw [hmk.out] at hown1
  have HP := Lib.hid (show PInv w w.heap.size (noughts 512) w1 from ⟨hown1, noughts_length 512, noughts_range 512, grown_belowB hgrow1 (Nat.le_refl _) (fun k hk => by cases hk)⟩)
  clear hown1 hgrow1
  go_wp2
  go_loopw [8] (fun i wr => ∃ (k : Nat) (zs : List Int), k ≤ 512 ∧ i = .int .i64 (k : Int) ∧ Hid (PInv w w.heap.size zs wr)) (fun i _ => 512 - (intOf i).toNat)
  case atStart => exact ⟨0, _, by omega, rfl, HP⟩
  case round =>
    obtain ⟨k, zs, hk, rfl, HR⟩ := hrel
    clear HP
    by_cases hlt : k < 512
    · have hki : (k : Int) < 512 := by omega
      have hk0 : (0 : Int) ≤ (k : Int) := by omega
      have q := own_cell HR.out.1 HR.out.2.1 k hlt
      have f := own_frozen HR.out.1 k
      have HLt := Lib.hid hlt
      have HN := Lib.hid (show PInv w w.heap.size (zs.set k y) (wr.setCell ⟨w.heap.size, k, none⟩ (.int .u8 y)) from
        ⟨own_set HR.out.1 k hlt y, by rw [List.length_set]; exact HR.out.2.1, set_range HR.out.2.2.1 k y HY.out, HR.out.2.2.2.setCell (Nat.le_refl _) _⟩)
      clear hlt hk
      go_wp2
      go_roundw
      case rel => exact ⟨k + 1, _, HLt.out, by go_num, HN⟩
      case measure => have := HLt.out; simp [intOf]; omega
    · obtain rfl : k = 512 := by omega
      go_wp2
      go_ret
      exact ⟨_, zs, rfl, HR.out⟩
end Go.Proofs.Ytbcjhngpcodaoaa
