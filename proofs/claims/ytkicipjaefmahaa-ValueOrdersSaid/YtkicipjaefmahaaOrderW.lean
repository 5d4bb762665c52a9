/- Contracts of Order (the program's and the document's). -/
import Derived.Test.YtkicipjaefmahaaFormW
import Derived.StillTailTactics
import Derived.Deep.RegionHeld3
import Derived.LoopTactic
namespace Go.Proofs.Ytkicipjaefmahaa
open Go.RowKit

def or3 (x y z : Int) : Int := if x = 0 then (if y = 0 then z else y) else x

set_option maxHeartbeats 1000000 in
theorem or3_any (x y z : Int) (b c : Nat) (w : World) (h0 : w.cell? ⟨b, 0, none⟩ = some (.int .i64 x)) (h1 : w.cell? ⟨b, 1, none⟩ = some (.int .i64 y)) (h2 : w.cell? ⟨b, 2, none⟩ = some (.int .i64 z)) :
    Calls Try.prog 30 #[.slice (some ⟨b, 0, none⟩) 3 c] w fun e w' => e = .returned (.int .i64 (or3 x y z)) ∧ w = w' := by
  by_cases hx : x = 0
  · by_cases hy : y = 0
    · by_cases hz : z = 0
      · have hn : or3 x y z = 0 := by simp [or3, hx, hy, hz]
        rw [hn]; clear hn
        subst hx hy hz
        go_enter Try.func30, Try.ntmps30
        go_wp2
        go_loop [8] (fun i => i = .int .i64 0 ∨ i = .int .i64 1 ∨ i = .int .i64 2 ∨ i = .int .i64 3) (fun i => 3 - (intOf i).toNat)
        case atStart => exact .inl rfl
        case round =>
          rcases hrel with rfl | rfl | rfl | rfl
          · go_wp2
            go_round
            case rel => exact .inr (.inl rfl)
            case measure => decide
          · go_wp2
            go_round
            case rel => exact .inr (.inr (.inl rfl))
            case measure => decide
          · go_wp2
            go_round
            case rel => exact .inr (.inr (.inr rfl))
            case measure => decide
          · go_wp2
            go_ret
            exact ⟨rfl, rfl⟩
      · have hn : or3 x y z = z := by simp [or3, hx, hy]
        rw [hn]; clear hn
        have ez : (z != 0) = true := by simpa using hz
        subst hx hy
        go_enter Try.func30, Try.ntmps30
        go_wp2
        go_loop [8] (fun i => i = .int .i64 0 ∨ i = .int .i64 1 ∨ i = .int .i64 2) (fun i => 3 - (intOf i).toNat)
        case atStart => exact .inl rfl
        case round =>
          rcases hrel with rfl | rfl | rfl
          · go_wp2
            go_round
            case rel => exact .inr (.inl rfl)
            case measure => decide
          · go_wp2
            go_round
            case rel => exact .inr (.inr rfl)
            case measure => decide
          · go_wp2
            go_ret
            exact ⟨rfl, rfl⟩
    · have hn : or3 x y z = y := by simp [or3, hx, hy]
      rw [hn]; clear hn
      have ez : (y != 0) = true := by simpa using hy
      subst hx
      go_enter Try.func30, Try.ntmps30
      go_wp2
      go_loop [8] (fun i => i = .int .i64 0 ∨ i = .int .i64 1) (fun i => 3 - (intOf i).toNat)
      case atStart => exact .inl rfl
      case round =>
        rcases hrel with rfl | rfl
        · go_wp2
          go_round
          case rel => exact .inr rfl
          case measure => decide
        · go_wp2
          go_ret
          exact ⟨rfl, rfl⟩
  · have hn : or3 x y z = x := by simp [or3, hx]
    rw [hn]; clear hn
    have ez : (x != 0) = true := by simpa using hx
    go_enter Try.func30, Try.ntmps30
    go_wp2
    go_loop [8] (fun i => i = .int .i64 0) (fun i => 3 - (intOf i).toNat)
    case atStart => rfl
    case round =>
      subst hrel
      go_wp2
      go_ret
      exact ⟨rfl, rfl⟩

theorem or3_ord (ka na : Int) (sa : ByteArray) (kb nb : Int) (sb : ByteArray) : or3 (ordI ka kb) (ordI na nb) (ordS sa sb) = ordV ka na sa kb nb sb := rfl

set_option maxHeartbeats 1000000 in
theorem order_any (ka na : Int) (sa : ByteArray) (kb nb : Int) (sb : ByteArray) (w : World) :
    Calls Try.prog 10 #[.agg #[.int .i64 ka, .int .i64 na, .string sa], .agg #[.int .i64 kb, .int .i64 nb, .string sb]] w fun e w' => e = .returned (.int .i64 (ordV ka na sa kb nb sb)) ∧ (((w.alloc (.cells #[.int .i64 ka, .int .i64 na, .string sa] 23)).alloc (.cells #[.int .i64 kb, .int .i64 nb, .string sb] 23)).alloc (.cells #[.int .i64 (ordI ka kb), .int .i64 (ordI na nb), .int .i64 (ordS sa sb)] 3)).drew = w' := by
  go_enter Try.func10, Try.ntmps10
  go_wp2
  go_region_held3 (fun w' => w'.cell? ⟨w.heap.size, 0, none⟩ = some (.int .i64 ka) ∧ w'.cell? ⟨w.heap.size, 1, none⟩ = some (.int .i64 na) ∧ w'.cell? ⟨w.heap.size, 2, none⟩ = some (.string sa) ∧ w'.cell? ⟨w.heap.size + 1, 0, none⟩ = some (.int .i64 kb) ∧ w'.cell? ⟨w.heap.size + 1, 1, none⟩ = some (.int .i64 nb) ∧ w'.cell? ⟨w.heap.size + 1, 2, none⟩ = some (.string sb)) (go_keep)
    (first | (go_at_call 31; refine (cmpI_any _ _ _).mono ?_; rintro e w' ⟨rfl, rfl⟩) | (go_at_call 32; refine (cmpL_any _ _ _).mono ?_; rintro e w' ⟨rfl, rfl⟩) | (go_at_call 33; refine (cmpS_any _ _ _).mono ?_; rintro e w' ⟨rfl, rfl⟩) | (go_at_call 30; refine (or3_any (ordI ka kb) (ordI na nb) (ordS sa sb) _ _ _ (by simp [go_sem]) (by simp [go_sem]) (by simp [go_sem])).mono ?_; rintro e w' ⟨rfl, rfl⟩))
  all_goals go_wp2
  go_ret
  exact ⟨ret_int rfl, rfl⟩

theorem oV_k {ka na kb nb : Int} {sa sb : ByteArray} (h : (ka != kb) = true) : ordI ka kb = ordV ka na sa kb nb sb := by
  have h := bne_iff_ne.1 h
  have : ordI ka kb ≠ 0 := by unfold ordI; split; omega; split <;> omega
  unfold ordV; rw [if_neg this]
theorem oI_self (a : Int) : ordI a a = 0 := by unfold ordI; simp
theorem oV_n {ka na nb : Int} {sa sb : ByteArray} (h : (na != nb) = true) : ordI na nb = ordV ka na sa ka nb sb := by
  have h := bne_iff_ne.1 h
  have : ordI na nb ≠ 0 := by unfold ordI; split; omega; split <;> omega
  unfold ordV; rw [oI_self, if_pos rfl, if_neg this]
theorem oV_s {ka na : Int} {sa sb : ByteArray} : ordS sa sb = ordV ka na sa ka na sb := by
  unfold ordV; rw [oI_self, oI_self, if_pos rfl, if_pos rfl]

theorem rorder_any (ka na : Int) (sa : ByteArray) (kb nb : Int) (sb : ByteArray) (w : World) :
    Calls Try.prog 14 #[.agg #[.int .i64 ka, .int .i64 na, .string sa], .agg #[.int .i64 kb, .int .i64 nb, .string sb]] w fun e w' => e = .returned (.int .i64 (ordV ka na sa kb nb sb)) ∧ ((w.alloc (.cells #[.int .i64 ka, .int .i64 na, .string sa] 23)).alloc (.cells #[.int .i64 kb, .int .i64 nb, .string sb] 23)) = w' := by
  by_cases hk : ka = kb
  · subst hk
    by_cases hn : na = nb
    · subst hn
      rw [← oV_s]
      go_enter Try.func14, Try.ntmps14
      go_wp2_with (go_at_call 35; refine (texts_any _ _ _).mono ?_; rintro e w' ⟨rfl, rfl⟩)
      go_ret
      exact ⟨rfl, rfl⟩
    · have e1 : (na != nb) = true := bne_iff_ne.2 hn
      rw [← oV_n e1]
      go_enter Try.func14, Try.ntmps14
      go_wp2_with (go_at_call 34; refine (ints_any _ _ _).mono ?_; rintro e w' ⟨rfl, rfl⟩)
      go_ret
      exact ⟨rfl, rfl⟩
  · have e1 : (ka != kb) = true := bne_iff_ne.2 hk
    rw [← oV_k e1]
    go_enter Try.func14, Try.ntmps14
    go_wp2_with (go_at_call 34; refine (ints_any _ _ _).mono ?_; rintro e w' ⟨rfl, rfl⟩)
    go_ret
    exact ⟨rfl, rfl⟩
end Go.Proofs.Ytkicipjaefmahaa
