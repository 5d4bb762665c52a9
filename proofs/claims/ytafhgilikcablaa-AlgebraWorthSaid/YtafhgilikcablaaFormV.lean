/- Contracts of Formed (the program's and the document's), of the document's ints and texts, Order, Rows: by walks; no conditions. -/
import Derived.Test.YtafhgilikcablaaForm1
import Derived.Test.YtafhgilikcablaaValPure
import Derived.Test.YtafhgilikcablaaBase
import Derived.WalkKit
import Derived.WalkLawsBesides
import Derived.WalkSpells
import Derived.Outline
import Derived.BigQuiet
import Derived.Deep.QuietTactic
import Derived.Deep.RegionHeld3
import Derived.LoopTactic
import Derived.Lib.Hide
namespace Go.Proofs.Ytafhgilikcablaa
open Go.RowKit
set_option linter.unusedVariables false
set_option linter.unusedSimpArgs false

theorem oI_lt {a b : Int} (h : a < b) : (-1 : Int) = ordI a b := by unfold ordI; rw [if_pos h]
theorem oI_gt {a b : Int} (h : b < a) : (1 : Int) = ordI a b := by unfold ordI; rw [if_neg (by omega), if_pos h]
theorem oI_eq {a b : Int} (h1 : ¬ a < b) (h : ¬ b < a) : (0 : Int) = ordI a b := by unfold ordI; rw [if_neg h1, if_neg h]

theorem ints_any (a b : Int) (w : World) : Calls Try.prog 169 #[.int .i64 a, .int .i64 b] w fun e w' => e = .returned (.int .i64 (ordI a b)) ∧ w = w' := by
  by_cases h1 : a < b
  · rw [← oI_lt h1]
    go_enter Try.func169, Try.ntmps169
    go_wp2
    go_ret
    exact ⟨rfl, rfl⟩
  · by_cases h2 : b < a
    · rw [← oI_gt h2]
      go_enter Try.func169, Try.ntmps169
      go_wp2
      go_ret
      exact ⟨rfl, rfl⟩
    · rw [← oI_eq h1 h2]
      go_enter Try.func169, Try.ntmps169
      go_wp2
      go_ret
      exact ⟨rfl, rfl⟩

theorem oS_lt {a b : ByteArray} (h : Op.bytesLess a.toList b.toList = true) : (-1 : Int) = ordS a b := by unfold ordS; rw [if_pos h]
theorem oS_eq {a b : ByteArray} (h : Op.bytesLess a.toList b.toList = false) (h2 : (a.toList == b.toList) = true) : (0 : Int) = ordS a b := by
  unfold ordS; rw [if_neg (by rw [h]; exact Bool.false_ne_true), if_pos (eq_of_beq h2)]
theorem oS_gt {a b : ByteArray} (h : Op.bytesLess a.toList b.toList = false) (h2 : (a.toList == b.toList) = false) : (1 : Int) = ordS a b := by
  unfold ordS; rw [if_neg (by rw [h]; exact Bool.false_ne_true), if_neg (beq_eq_false_iff_ne.1 h2)]

theorem texts_any (a b : ByteArray) (w : World) : Calls Try.prog 170 #[.string a, .string b] w fun e w' => e = .returned (.int .i64 (ordS a b)) ∧ w = w' := by
  rcases Bool.eq_false_or_eq_true (Op.bytesLess a.toList b.toList) with h1 | h1
  · rw [← oS_lt h1]
    go_enter Try.func170, Try.ntmps170
    go_wp2
    go_ret
    exact ⟨rfl, rfl⟩
  · rcases Bool.eq_false_or_eq_true (a.toList == b.toList) with h2 | h2
    · rw [← oS_eq h1 h2]
      go_enter Try.func170, Try.ntmps170
      go_wp2
      go_ret
      exact ⟨rfl, rfl⟩
    · rw [← oS_gt h1 h2]
      go_enter Try.func170, Try.ntmps170
      go_wp2
      go_ret
      exact ⟨rfl, rfl⟩
theorem rorder_any (ka na : Int) (sa : ByteArray) (kb nb : Int) (sb : ByteArray) (w : World) :
    Calls Try.prog 141 #[.agg #[.int .i64 ka, .int .i64 na, .string sa], .agg #[.int .i64 kb, .int .i64 nb, .string sb]] w fun e w' => e = .returned (.int .i64 (ordV ka na sa kb nb sb)) ∧ ((w.alloc (.cells #[.int .i64 ka, .int .i64 na, .string sa] 38)).alloc (.cells #[.int .i64 kb, .int .i64 nb, .string sb] 38)) = w' := by
  by_cases hk : ka = kb
  · subst hk
    by_cases hn : na = nb
    · subst hn
      rw [← oV_s]
      go_enter Try.func141, Try.ntmps141
      go_wp2_with (go_at_call 170; refine (texts_any _ _ _).mono ?_; rintro e w' ⟨rfl, rfl⟩)
      go_ret
      exact ⟨rfl, rfl⟩
    · have e1 : (na != nb) = true := bne_iff_ne.2 hn
      rw [← oV_n e1]
      go_enter Try.func141, Try.ntmps141
      go_wp2_with (go_at_call 169; refine (ints_any _ _ _).mono ?_; rintro e w' ⟨rfl, rfl⟩)
      go_ret
      exact ⟨rfl, rfl⟩
  · have e1 : (ka != kb) = true := bne_iff_ne.2 hk
    rw [← oV_k e1]
    go_enter Try.func141, Try.ntmps141
    go_wp2_with (go_at_call 169; refine (ints_any _ _ _).mono ?_; rintro e w' ⟨rfl, rfl⟩)
    go_ret
    exact ⟨rfl, rfl⟩
theorem keep6 {w w' : World} {a1 a2 a3 a4 a5 a6 : Addr} {x1 x2 x3 x4 x5 x6 : Value} (hb : Below w.heap.size w w') (p1 : w.cell? a1 = some x1) (p2 : w.cell? a2 = some x2) (p3 : w.cell? a3 = some x3) (p4 : w.cell? a4 = some x4) (p5 : w.cell? a5 = some x5) (p6 : w.cell? a6 = some x6) :
    w'.cell? a1 = some x1 ∧ w'.cell? a2 = some x2 ∧ w'.cell? a3 = some x3 ∧ w'.cell? a4 = some x4 ∧ w'.cell? a5 = some x5 ∧ w'.cell? a6 = some x6 :=
  ⟨cell_later hb p1, cell_later hb p2, cell_later hb p3, cell_later hb p4, cell_later hb p5, cell_later hb p6⟩
end Go.Proofs.Ytafhgilikcablaa
