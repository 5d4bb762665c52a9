/- The laws' own functions on words: Same of two rows with the same words. -/
import Derived.Test.YtplgkblahmndoaaDoorLnOurs
namespace Go.Proofs.YtplgkblahmndoaaDoor
open Go.RowKit Go.Lib
set_option linter.unusedVariables false
set_option maxRecDepth 100000

set_option maxHeartbeats 6400000 in
theorem same_yes (v u : Value) (B C : Nat) (ws : List Wd) (w : World) (ho : w.ownsRow B 33 3 v ws.length (wsX ws)) (hu : w.ownsRow C 41 3 u ws.length (wsX ws)) (hl : ws.length ≤ 4000) :
    Calls Tryd.prog 9 #[v, u] w fun e w' => e = .returned (.bool true) ∧ Below w.heap.size w w' := by
  obtain ⟨a, c, rfl⟩ := own_slice3 ho
  obtain ⟨b, d, rfl⟩ := own_slice3 hu
  have HO := Lib.hid ho
  have HU := Lib.hid hu
  have hli : (ws.length : Int) ≤ 4000 := by omega
  clear ho hu
  go_enter Tryd.func9, Tryd.ntmps9
  go_wp2_with fail
  go_loopw [13] (fun i wr => ∃ k : Nat, k ≤ ws.length ∧ i = .int .i64 (k : Int) ∧ Hid (Below w.heap.size w wr)) (fun i _ => ws.length - (RowKit.intOf i).toNat)
  case atStart => exact ⟨0, by omega, rfl, Lib.hid (Below.refl _ _)⟩
  case round =>
    obtain ⟨k, hk, rfl, HR⟩ := hrel
    have hk0 : (0 : Int) ≤ (k : Int) := by omega
    by_cases hlt : k < ws.length
    · have hki : (k : Int) < (ws.length : Int) := by omega
      obtain ⟨g, cap, he, hg, hB, hc⟩ := wd_at HO.out hlt
      cases he
      obtain ⟨h, cap, he, hh, hC, hd⟩ := wd_at HU.out hlt
      cases he
      obtain ⟨c0, c1, c2⟩ := (hc k hlt).below hg HR.out
      obtain ⟨d0, d1, d2⟩ := (hd k hlt).below hh HR.out
      generalize ws.getD k noW = x at *
      obtain ⟨x1, x2, x3⟩ := x
      simp only at c0 c1 c2 d0 d1 d2
      clear hc hd
      go_upto_region 6 with (fail)
      go_quiet (fail)
      obtain ⟨w2, hw2⟩ : ∃ w2, w2 = wr.drewN nq := ⟨_, rfl⟩
      have HN := Lib.hid (show Below w.heap.size w w2 by rw [hw2]; exact HR.out.trans ⟨rfl, rfl, rfl, Nat.le_refl _, fun _ _ => rfl⟩)
      rw [← hw2]
      clear hw2
      go_wp2
      go_roundw
      case rel => exact ⟨k + 1, by omega, rfl, HN⟩
      case measure =>
        simp [go_sem, RowKit.intOf]
        omega
    · obtain rfl : k = ws.length := by omega
      clear hlt
      go_wp2
      go_ret
      exact ⟨rfl, HR.out⟩
end Go.Proofs.YtplgkblahmndoaaDoor
