/- Compare of the document. (Turned from round 1.) -/
import Derived.Test.YtafhgilikcablaaFormV
import Derived.RowKit
import Derived.IntWalk
import Derived.WalkKit
import Derived.WalkLawsBesides
import Derived.WalkSpells
import Derived.Outline
import Derived.BigQuiet
import Derived.Deep.QuietTactic
import Derived.StillTailTactics
import Derived.Deep.RegionHeld3
import Derived.LoopTactic
import Derived.Lib.Hide
namespace Go.Proofs.Ytafhgilikcablaa
open Go.RowKit
set_option linter.unusedVariables false
set_option linter.unusedSimpArgs false
set_option maxRecDepth 100000

theorem cmpI_any (a b : Int) (w : World) : Calls Try.prog 155 #[.int .i64 a, .int .i64 b] w fun e w' => e = .returned (.int .i64 (ordI a b)) ∧ w = w' := by
  by_cases h1 : a < b
  · rw [← oI_lt h1]
    go_enter Try.func155, Try.ntmps155
    go_wp2
    go_ret
    exact ⟨rfl, rfl⟩
  · by_cases h2 : b < a
    · rw [← oI_gt h2]
      go_enter Try.func155, Try.ntmps155
      go_wp2
      go_ret
      exact ⟨rfl, rfl⟩
    · rw [← oI_eq h1 h2]
      go_enter Try.func155, Try.ntmps155
      go_wp2
      go_ret
      exact ⟨rfl, rfl⟩
theorem cmpL_any (a b : Int) (w : World) : Calls Try.prog 156 #[.int .i64 a, .int .i64 b] w fun e w' => e = .returned (.int .i64 (ordI a b)) ∧ w = w' := by
  by_cases h1 : a < b
  · rw [← oI_lt h1]
    go_enter Try.func156, Try.ntmps156
    go_wp2
    go_ret
    exact ⟨rfl, rfl⟩
  · by_cases h2 : b < a
    · rw [← oI_gt h2]
      go_enter Try.func156, Try.ntmps156
      go_wp2
      go_ret
      exact ⟨rfl, rfl⟩
    · rw [← oI_eq h1 h2]
      go_enter Try.func156, Try.ntmps156
      go_wp2
      go_ret
      exact ⟨rfl, rfl⟩
theorem cmpS_any (a b : ByteArray) (w : World) : Calls Try.prog 157 #[.string a, .string b] w fun e w' => e = .returned (.int .i64 (ordS a b)) ∧ w = w' := by
  rcases Bool.eq_false_or_eq_true (Op.bytesLess a.toList b.toList) with h1 | h1
  · rw [← oS_lt h1]
    go_enter Try.func157, Try.ntmps157
    go_wp2
    go_ret
    exact ⟨rfl, rfl⟩
  · rcases Bool.eq_false_or_eq_true (a.toList == b.toList) with h2 | h2
    · rw [← oS_eq h1 h2]
      go_enter Try.func157, Try.ntmps157
      go_wp2
      go_ret
      exact ⟨rfl, rfl⟩
    · rw [← oS_gt h1 h2]
      go_enter Try.func157, Try.ntmps157
      go_wp2
      go_ret
      exact ⟨rfl, rfl⟩
def or3 (x y z : Int) : Int := if x = 0 then (if y = 0 then z else y) else x
set_option maxHeartbeats 1000000 in
theorem or3_any (x y z : Int) (b c : Nat) (w : World) (h0 : w.cell? ⟨b, 0, none⟩ = some (.int .i64 x)) (h1 : w.cell? ⟨b, 1, none⟩ = some (.int .i64 y)) (h2 : w.cell? ⟨b, 2, none⟩ = some (.int .i64 z)) :
    Calls Try.prog 154 #[.slice (some ⟨b, 0, none⟩) 3 c] w fun e w' => e = .returned (.int .i64 (or3 x y z)) ∧ w = w' := by
  by_cases hx : x = 0
  · by_cases hy : y = 0
    · by_cases hz : z = 0
      · have hn : or3 x y z = 0 := by simp [or3, hx, hy, hz]
        rw [hn]; clear hn
        subst hx hy hz
        go_enter Try.func154, Try.ntmps154
        go_wp2
        go_loop [8] (fun i => i = .int .i64 0 ∨ i = .int .i64 1 ∨ i = .int .i64 2 ∨ i = .int .i64 3) (fun i => 3 - (intOf i).toNat)
        case atStart => exact .inl rfl
        case round =>
          rcases hrel with rfl | rfl | rfl | rfl
          · go_wp2
            go_round
            case rel => exact .inr (.inl rfl)
            case measure => decide
          · go_wp2
            go_round
            case rel => exact .inr (.inr (.inl rfl))
            case measure => decide
          · go_wp2
            go_round
            case rel => exact .inr (.inr (.inr rfl))
            case measure => decide
          · go_wp2
            go_ret
            exact ⟨rfl, rfl⟩
      · have hn : or3 x y z = z := by simp [or3, hx, hy]
        rw [hn]; clear hn
        have ez : (z != 0) = true := by simpa using hz
        subst hx hy
        go_enter Try.func154, Try.ntmps154
        go_wp2
        go_loop [8] (fun i => i = .int .i64 0 ∨ i = .int .i64 1 ∨ i = .int .i64 2) (fun i => 3 - (intOf i).toNat)
        case atStart => exact .inl rfl
        case round =>
          rcases hrel with rfl | rfl | rfl
          · go_wp2
            go_round
            case rel => exact .inr (.inl rfl)
            case measure => decide
          · go_wp2
            go_round
            case rel => exact .inr (.inr rfl)
            case measure => decide
          · go_wp2
            go_ret
            exact ⟨rfl, rfl⟩
    · have hn : or3 x y z = y := by simp [or3, hx, hy]
      rw [hn]; clear hn
      have ez : (y != 0) = true := by simpa using hy
      subst hx
      go_enter Try.func154, Try.ntmps154
      go_wp2
      go_loop [8] (fun i => i = .int .i64 0 ∨ i = .int .i64 1) (fun i => 3 - (intOf i).toNat)
      case atStart => exact .inl rfl
      case round =>
        rcases hrel with rfl | rfl
        · go_wp2
          go_round
          case rel => exact .inr rfl
          case measure => decide
        · go_wp2
          go_ret
          exact ⟨rfl, rfl⟩
  · have hn : or3 x y z = x := by simp [or3, hx]
    rw [hn]; clear hn
    have ez : (x != 0) = true := by simpa using hx
    go_enter Try.func154, Try.ntmps154
    go_wp2
    go_loop [8] (fun i => i = .int .i64 0) (fun i => 3 - (intOf i).toNat)
    case atStart => rfl
    case round =>
      subst hrel
      go_wp2
      go_ret
      exact ⟨rfl, rfl⟩
set_option maxHeartbeats 1000000 in
theorem order_any (ka na : Int) (sa : ByteArray) (kb nb : Int) (sb : ByteArray) (w : World) :
    Calls Try.prog 127 #[.agg #[.int .i64 ka, .int .i64 na, .string sa], .agg #[.int .i64 kb, .int .i64 nb, .string sb]] w fun e w' => e = .returned (.int .i64 (ordV ka na sa kb nb sb)) ∧ (((w.alloc (.cells #[.int .i64 ka, .int .i64 na, .string sa] 38)).alloc (.cells #[.int .i64 kb, .int .i64 nb, .string sb] 38)).alloc (.cells #[.int .i64 (ordI ka kb), .int .i64 (ordI na nb), .int .i64 (ordS sa sb)] 3)).drew = w' := by
  go_enter Try.func127, Try.ntmps127
  go_wp2
  go_region_held3 (fun w' => w'.cell? ⟨w.heap.size, 0, none⟩ = some (.int .i64 ka) ∧ w'.cell? ⟨w.heap.size, 1, none⟩ = some (.int .i64 na) ∧ w'.cell? ⟨w.heap.size, 2, none⟩ = some (.string sa) ∧ w'.cell? ⟨w.heap.size + 1, 0, none⟩ = some (.int .i64 kb) ∧ w'.cell? ⟨w.heap.size + 1, 1, none⟩ = some (.int .i64 nb) ∧ w'.cell? ⟨w.heap.size + 1, 2, none⟩ = some (.string sb)) (go_keep)
    (first | (go_at_call 155; refine (cmpI_any _ _ _).mono ?_; rintro e w' ⟨rfl, rfl⟩) | (go_at_call 156; refine (cmpL_any _ _ _).mono ?_; rintro e w' ⟨rfl, rfl⟩) | (go_at_call 157; refine (cmpS_any _ _ _).mono ?_; rintro e w' ⟨rfl, rfl⟩) | (go_at_call 154; refine (or3_any (ordI ka kb) (ordI na nb) (ordS sa sb) _ _ _ (by simp [go_sem]) (by simp [go_sem]) (by simp [go_sem])).mono ?_; rintro e w' ⟨rfl, rfl⟩))
  all_goals go_wp2
  go_ret
  exact ⟨ret_int rfl, rfl⟩
end Go.Proofs.Ytafhgilikcablaa
namespace Go.Proofs.Ytafhgilikcablaa
open Go.RowKit
set_option linter.unusedVariables false
set_option linter.unusedSimpArgs false
set_option maxRecDepth 100000

def knownB (op : ByteArray) : Bool := op.toList == [61] || op.toList == [60, 62] || op.toList == [60] || op.toList == [60, 61] || op.toList == [62] || op.toList == [62, 61]
def sgnB (op : ByteArray) (o : Int) : Bool :=
  if op.toList = [61] then o == 0 else if op.toList = [60, 62] then o != 0 else if op.toList = [60] then decide (o < 0)
  else if op.toList = [60, 61] then decide (o ≤ 0) else if op.toList = [62] then decide (0 < o) else decide (0 ≤ o)
def truthI (b : Bool) : Int := if b then 1 else 0
def cmpF (op : ByteArray) (ka na : Int) (sa : ByteArray) (kb nb : Int) (sb : ByteArray) : Int × Int :=
  if knownB op = false ∨ formedB ka na sa = false ∨ formedB kb nb sb = false then (0, 1)
  else if ka = 0 ∨ kb = 0 then (2, 0) else if ka = kb then (truthI (sgnB op (ordV ka na sa kb nb sb)), 0) else (0, 7)
theorem of_toList {s : ByteArray} {l : List UInt8} (h : s.toList = l) : s = ⟨l.toArray⟩ := by
  subst h; rw [ByteArray.toList_eq]
/-- op is one of six signs, or none of them -/
theorem cop_cases (op : ByteArray) : (op = ⟨#[61]⟩ ∨ op = ⟨#[60, 62]⟩ ∨ op = ⟨#[60]⟩ ∨ op = ⟨#[60, 61]⟩ ∨ op = ⟨#[62]⟩ ∨ op = ⟨#[62, 61]⟩) ∨
    ((op.toList == [61]) = false ∧ (op.toList == [60, 62]) = false ∧ (op.toList == [60]) = false ∧ (op.toList == [60, 61]) = false ∧ (op.toList == [62]) = false ∧ (op.toList == [62, 61]) = false) := by
  by_cases h1 : op.toList = [61]
  · exact .inl (.inl (of_toList h1))
  by_cases h2 : op.toList = [60, 62]
  · exact .inl (.inr (.inl (of_toList h2)))
  by_cases h3 : op.toList = [60]
  · exact .inl (.inr (.inr (.inl (of_toList h3))))
  by_cases h4 : op.toList = [60, 61]
  · exact .inl (.inr (.inr (.inr (.inl (of_toList h4)))))
  by_cases h5 : op.toList = [62]
  · exact .inl (.inr (.inr (.inr (.inr (.inl (of_toList h5))))))
  by_cases h6 : op.toList = [62, 61]
  · exact .inl (.inr (.inr (.inr (.inr (.inr (of_toList h6))))))
  exact .inr ⟨beq_eq_false_iff_ne.2 h1, beq_eq_false_iff_ne.2 h2, beq_eq_false_iff_ne.2 h3, beq_eq_false_iff_ne.2 h4, beq_eq_false_iff_ne.2 h5, beq_eq_false_iff_ne.2 h6⟩
theorem comparing_any (op : ByteArray) (w : World) : Calls Try.prog 124 #[.string op] w fun e w' => e = .returned (.bool (knownB op)) ∧ w = w' := by
  rcases cop_cases op with (rfl | rfl | rfl | rfl | rfl | rfl) | ⟨h1, h2, h3, h4, h5, h6⟩
  iterate 6
    · rw [show knownB _ = true from by decide +kernel]
      go_enter Try.func124, Try.ntmps124
      go_wp2
      go_ret
      exact ⟨rfl, rfl⟩
  · rw [show knownB op = false from by unfold knownB; rw [h1, h2, h3, h4, h5, h6]; rfl]
    go_enter Try.func124, Try.ntmps124
    go_wp2
    go_ret
    exact ⟨rfl, rfl⟩
theorem sg1 (o : Int) : sgnB ⟨#[61]⟩ o = (o == 0) := by unfold sgnB; rw [if_pos (by decide +kernel)]
theorem sg2 (o : Int) : sgnB ⟨#[60, 62]⟩ o = (o != 0) := by unfold sgnB; rw [if_neg (by decide +kernel), if_pos (by decide +kernel)]
theorem sg3 (o : Int) : sgnB ⟨#[60]⟩ o = decide (o < 0) := by unfold sgnB; rw [if_neg (by decide +kernel), if_neg (by decide +kernel), if_pos (by decide +kernel)]
theorem sg4 (o : Int) : sgnB ⟨#[60, 61]⟩ o = decide (o ≤ 0) := by unfold sgnB; rw [if_neg (by decide +kernel), if_neg (by decide +kernel), if_neg (by decide +kernel), if_pos (by decide +kernel)]
theorem sg5 (o : Int) : sgnB ⟨#[62]⟩ o = decide (0 < o) := by unfold sgnB; rw [if_neg (by decide +kernel), if_neg (by decide +kernel), if_neg (by decide +kernel), if_neg (by decide +kernel), if_pos (by decide +kernel)]
theorem sg6 (o : Int) : sgnB ⟨#[62, 61]⟩ o = decide (0 ≤ o) := by unfold sgnB; rw [if_neg (by decide +kernel), if_neg (by decide +kernel), if_neg (by decide +kernel), if_neg (by decide +kernel), if_neg (by decide +kernel)]
theorem sg7 {op : ByteArray} (h1 : (op.toList == [61]) = false) (h2 : (op.toList == [60, 62]) = false) (h3 : (op.toList == [60]) = false) (h4 : (op.toList == [60, 61]) = false) (h5 : (op.toList == [62]) = false) (o : Int) : sgnB op o = decide (0 ≤ o) := by
  unfold sgnB; rw [if_neg (beq_eq_false_iff_ne.1 h1), if_neg (beq_eq_false_iff_ne.1 h2), if_neg (beq_eq_false_iff_ne.1 h3), if_neg (beq_eq_false_iff_ne.1 h4), if_neg (beq_eq_false_iff_ne.1 h5)]
theorem holds_any (op : ByteArray) (o : Int) (w : World) : Calls Try.prog 126 #[.string op, .int .i64 o] w fun e w' => e = .returned (.bool (sgnB op o)) ∧ w = w' := by
  rcases cop_cases op with (rfl | rfl | rfl | rfl | rfl | rfl) | ⟨h1, h2, h3, h4, h5, h6⟩
  iterate 6
    · first | rw [sg1] | rw [sg2] | rw [sg3] | rw [sg4] | rw [sg5] | rw [sg6]
      go_enter Try.func126, Try.ntmps126
      go_wp2
      go_ret
      exact ⟨rfl, rfl⟩
  · rw [sg7 h1 h2 h3 h4 h5]
    go_enter Try.func126, Try.ntmps126
    go_wp2
    go_ret
    exact ⟨rfl, rfl⟩
theorem truth_any (b : Bool) (w : World) : Calls Try.prog 125 #[.bool b] w fun e w' => e = .returned (.int .i64 (truthI b)) ∧ w = w' := by
  cases b
  · rw [show truthI false = 0 from rfl]
    go_enter Try.func125, Try.ntmps125
    go_wp2
    go_ret
    exact ⟨rfl, rfl⟩
  · rw [show truthI true = 1 from rfl]
    go_enter Try.func125, Try.ntmps125
    go_wp2
    go_ret
    exact ⟨rfl, rfl⟩
theorem rtruth_any (b : Bool) (w : World) : Calls Try.prog 149 #[.bool b] w fun e w' => e = .returned (.int .i64 (truthI b)) ∧ w = w' := by
  cases b
  · rw [show truthI false = 0 from rfl]
    go_enter Try.func149, Try.ntmps149
    go_wp2
    go_ret
    exact ⟨rfl, rfl⟩
  · rw [show truthI true = 1 from rfl]
    go_enter Try.func149, Try.ntmps149
    go_wp2
    go_ret
    exact ⟨rfl, rfl⟩
set_option maxHeartbeats 2000000 in
theorem compare_any (op : ByteArray) (ka na : Int) (sa : ByteArray) (kb nb : Int) (sb : ByteArray) (n e : Int) (hne : cmpF op ka na sa kb nb sb = (n, e)) (w : World) :
    Calls Try.prog 79 #[.string op, .agg #[.int .i64 ka, .int .i64 na, .string sa], .agg #[.int .i64 kb, .int .i64 nb, .string sb]] w
      fun x w' => x = .returned (.tuple #[.int .i64 n, .int .i64 e]) ∧ Below w.heap.size w w' := by
  unfold cmpF at hne
  rcases hk : knownB op with _ | _
  · rw [if_pos (.inl hk)] at hne
    obtain ⟨rfl, rfl⟩ := Prod.mk.inj hne
    clear hne
    go_enter Try.func79, Try.ntmps79
    go_wp2_with (go_at_call 124; refine (comparing_any _ _).mono ?_; rintro e w' ⟨rfl, rfl⟩)
    go_ret2
    exact ⟨rfl, bel _ (bel _ (Below.refl _ _))⟩
  rcases hfa : formedB ka na sa with _ | _
  · rw [if_pos (.inr (.inl hfa))] at hne
    obtain ⟨rfl, rfl⟩ := Prod.mk.inj hne
    clear hne
    go_enter Try.func79, Try.ntmps79
    go_wp2_with (first | (go_at_call 124; refine (comparing_any _ _).mono ?_; rintro e w' ⟨rfl, rfl⟩) | (go_at_call 122; refine (formed_any _ _ _ _).mono ?_; rintro e w' ⟨rfl, rfl⟩))
    go_ret2
    exact ⟨rfl, bel _ (bel _ (bel _ (Below.refl _ _)))⟩
  rcases hfb : formedB kb nb sb with _ | _
  · rw [if_pos (.inr (.inr hfb))] at hne
    obtain ⟨rfl, rfl⟩ := Prod.mk.inj hne
    clear hne
    go_enter Try.func79, Try.ntmps79
    go_wp2_with (first | (go_at_call 124; refine (comparing_any _ _).mono ?_; rintro e w' ⟨rfl, rfl⟩) | (go_at_call 122; refine (formed_any _ _ _ _).mono ?_; rintro e w' ⟨rfl, rfl⟩))
    go_ret2
    exact ⟨rfl, bel _ (bel _ (bel _ (bel _ (Below.refl _ _))))⟩
  rw [if_neg (by rw [hk, hfa, hfb]; simp)] at hne
  by_cases ha : ka = 0
  · rw [if_pos (.inl ha)] at hne
    obtain ⟨rfl, rfl⟩ := Prod.mk.inj hne
    subst ha
    clear hne
    go_enter Try.func79, Try.ntmps79
    go_wp2_with (first | (go_at_call 124; refine (comparing_any _ _).mono ?_; rintro e w' ⟨rfl, rfl⟩) | (go_at_call 122; refine (formed_any _ _ _ _).mono ?_; rintro e w' ⟨rfl, rfl⟩))
    go_ret2
    exact ⟨rfl, bel _ (bel _ (bel _ (bel _ (Below.refl _ _))))⟩
  have ea : (ka == 0) = false := beq_eq_false_iff_ne.2 ha
  by_cases hb : kb = 0
  · rw [if_pos (.inr hb)] at hne
    obtain ⟨rfl, rfl⟩ := Prod.mk.inj hne
    subst hb
    clear hne
    go_enter Try.func79, Try.ntmps79
    go_wp2_with (first | (go_at_call 124; refine (comparing_any _ _).mono ?_; rintro e w' ⟨rfl, rfl⟩) | (go_at_call 122; refine (formed_any _ _ _ _).mono ?_; rintro e w' ⟨rfl, rfl⟩))
    go_ret2
    exact ⟨rfl, bel _ (bel _ (bel _ (bel _ (Below.refl _ _))))⟩
  have eb : (kb == 0) = false := beq_eq_false_iff_ne.2 hb
  rw [if_neg (by simp [ha, hb])] at hne
  by_cases hab : ka = kb
  · rw [if_pos hab] at hne
    obtain ⟨rfl, rfl⟩ := Prod.mk.inj hne
    subst hab
    clear hne eb hb
    go_enter Try.func79, Try.ntmps79
    go_wp2_with (first | (go_at_call 124; refine (comparing_any _ _).mono ?_; rintro e w' ⟨rfl, rfl⟩) | (go_at_call 122; refine (formed_any _ _ _ _).mono ?_; rintro e w' ⟨rfl, rfl⟩) | (go_at_call 127; refine (order_any _ _ _ _ _ _ _).mono ?_; rintro e w' ⟨rfl, rfl⟩) | (go_at_call 126; refine (holds_any _ _ _).mono ?_; rintro e w' ⟨rfl, rfl⟩) | (go_at_call 125; refine (truth_any _ _).mono ?_; rintro e w' ⟨rfl, rfl⟩))
    go_ret2
    exact ⟨rfl, (bel _ (bel _ (bel _ (bel _ (bel _ (bel _ (bel _ (Below.refl _ _)))))))).drew⟩
  · rw [if_neg hab] at hne
    obtain ⟨rfl, rfl⟩ := Prod.mk.inj hne
    have ec : (ka != kb) = true := bne_iff_ne.2 hab
    clear hne
    go_enter Try.func79, Try.ntmps79
    go_wp2_with (first | (go_at_call 124; refine (comparing_any _ _).mono ?_; rintro e w' ⟨rfl, rfl⟩) | (go_at_call 122; refine (formed_any _ _ _ _).mono ?_; rintro e w' ⟨rfl, rfl⟩))
    go_ret2
    exact ⟨rfl, bel _ (bel _ (bel _ (bel _ (Below.refl _ _))))⟩
end Go.Proofs.Ytafhgilikcablaa
namespace Go.Proofs.Ytafhgilikcablaa
open Go.RowKit
set_option linter.unusedVariables false
set_option linter.unusedSimpArgs false
set_option maxRecDepth 100000

set_option maxHeartbeats 2000000 in
theorem rcompare0 (ka na : Int) (sa : ByteArray) (kb nb : Int) (sb : ByteArray) (n e : Int) (hne : cmpF ⟨#[61]⟩ ka na sa kb nb sb = (n, e)) (w : World) :
    Calls Try.prog 115 #[.string ⟨#[61]⟩, .agg #[.int .i64 ka, .int .i64 na, .string sa], .agg #[.int .i64 kb, .int .i64 nb, .string sb]] w
      fun x w' => x = .returned (.tuple #[.int .i64 n, .int .i64 e]) ∧ Below w.heap.size w w' := by
  unfold cmpF at hne
  have hk : knownB ⟨#[61]⟩ = true := by decide +kernel
  rcases hfa : formedB ka na sa with _ | _
  · rw [if_pos (.inr (.inl hfa))] at hne
    obtain ⟨rfl, rfl⟩ := Prod.mk.inj hne
    clear hne hk
    go_enter Try.func115, Try.ntmps115
    go_wp2_with (first | (go_at_call 139; refine (rformed_any _ _ _ _).mono ?_; rintro e w' ⟨rfl, rfl⟩) | (go_at_call 141; refine (rorder_any _ _ _ _ _ _ _).mono ?_; rintro e w' ⟨rfl, rfl⟩) | (go_at_call 149; refine (rtruth_any _ _).mono ?_; rintro e w' ⟨rfl, rfl⟩))
    go_ret2
    exact ⟨rfl, bel _ (bel _ (bel _ (Below.refl _ _)))⟩
  rcases hfb : formedB kb nb sb with _ | _
  · rw [if_pos (.inr (.inr hfb))] at hne
    obtain ⟨rfl, rfl⟩ := Prod.mk.inj hne
    clear hne hk
    go_enter Try.func115, Try.ntmps115
    go_wp2_with (first | (go_at_call 139; refine (rformed_any _ _ _ _).mono ?_; rintro e w' ⟨rfl, rfl⟩) | (go_at_call 141; refine (rorder_any _ _ _ _ _ _ _).mono ?_; rintro e w' ⟨rfl, rfl⟩) | (go_at_call 149; refine (rtruth_any _ _).mono ?_; rintro e w' ⟨rfl, rfl⟩))
    go_ret2
    exact ⟨rfl, bel _ (bel _ (bel _ (bel _ (Below.refl _ _))))⟩
  rw [if_neg (by rw [hk, hfa, hfb]; simp)] at hne
  clear hk
  by_cases ha : ka = 0
  · rw [if_pos (.inl ha)] at hne
    obtain ⟨rfl, rfl⟩ := Prod.mk.inj hne
    subst ha
    clear hne
    go_enter Try.func115, Try.ntmps115
    go_wp2_with (first | (go_at_call 139; refine (rformed_any _ _ _ _).mono ?_; rintro e w' ⟨rfl, rfl⟩) | (go_at_call 141; refine (rorder_any _ _ _ _ _ _ _).mono ?_; rintro e w' ⟨rfl, rfl⟩) | (go_at_call 149; refine (rtruth_any _ _).mono ?_; rintro e w' ⟨rfl, rfl⟩))
    go_ret2
    exact ⟨rfl, bel _ (bel _ (bel _ (bel _ (Below.refl _ _))))⟩
  have ea : (ka == 0) = false := beq_eq_false_iff_ne.2 ha
  by_cases hb : kb = 0
  · rw [if_pos (.inr hb)] at hne
    obtain ⟨rfl, rfl⟩ := Prod.mk.inj hne
    subst hb
    clear hne
    go_enter Try.func115, Try.ntmps115
    go_wp2_with (first | (go_at_call 139; refine (rformed_any _ _ _ _).mono ?_; rintro e w' ⟨rfl, rfl⟩) | (go_at_call 141; refine (rorder_any _ _ _ _ _ _ _).mono ?_; rintro e w' ⟨rfl, rfl⟩) | (go_at_call 149; refine (rtruth_any _ _).mono ?_; rintro e w' ⟨rfl, rfl⟩))
    go_ret2
    exact ⟨rfl, bel _ (bel _ (bel _ (bel _ (Below.refl _ _))))⟩
  have eb : (kb == 0) = false := beq_eq_false_iff_ne.2 hb
  rw [if_neg (by simp [ha, hb])] at hne
  by_cases hab : ka = kb
  · rw [if_pos hab, sg1] at hne
    obtain ⟨rfl, rfl⟩ := Prod.mk.inj hne
    subst hab
    clear hne eb hb
    go_enter Try.func115, Try.ntmps115
    go_wp2_with (first | (go_at_call 139; refine (rformed_any _ _ _ _).mono ?_; rintro e w' ⟨rfl, rfl⟩) | (go_at_call 141; refine (rorder_any _ _ _ _ _ _ _).mono ?_; rintro e w' ⟨rfl, rfl⟩) | (go_at_call 149; refine (rtruth_any _ _).mono ?_; rintro e w' ⟨rfl, rfl⟩))
    go_ret2
    exact ⟨rfl, bel _ (bel _ (bel _ (bel _ (bel _ (bel _ (Below.refl _ _))))))⟩
  · rw [if_neg hab] at hne
    obtain ⟨rfl, rfl⟩ := Prod.mk.inj hne
    have ec : (ka != kb) = true := bne_iff_ne.2 hab
    clear hne
    go_enter Try.func115, Try.ntmps115
    go_wp2_with (first | (go_at_call 139; refine (rformed_any _ _ _ _).mono ?_; rintro e w' ⟨rfl, rfl⟩) | (go_at_call 141; refine (rorder_any _ _ _ _ _ _ _).mono ?_; rintro e w' ⟨rfl, rfl⟩) | (go_at_call 149; refine (rtruth_any _ _).mono ?_; rintro e w' ⟨rfl, rfl⟩))
    go_ret2
    exact ⟨rfl, bel _ (bel _ (bel _ (bel _ (Below.refl _ _))))⟩
set_option maxHeartbeats 2000000 in
theorem rcompare1 (ka na : Int) (sa : ByteArray) (kb nb : Int) (sb : ByteArray) (n e : Int) (hne : cmpF ⟨#[60, 62]⟩ ka na sa kb nb sb = (n, e)) (w : World) :
    Calls Try.prog 115 #[.string ⟨#[60, 62]⟩, .agg #[.int .i64 ka, .int .i64 na, .string sa], .agg #[.int .i64 kb, .int .i64 nb, .string sb]] w
      fun x w' => x = .returned (.tuple #[.int .i64 n, .int .i64 e]) ∧ Below w.heap.size w w' := by
  unfold cmpF at hne
  have hk : knownB ⟨#[60, 62]⟩ = true := by decide +kernel
  rcases hfa : formedB ka na sa with _ | _
  · rw [if_pos (.inr (.inl hfa))] at hne
    obtain ⟨rfl, rfl⟩ := Prod.mk.inj hne
    clear hne hk
    go_enter Try.func115, Try.ntmps115
    go_wp2_with (first | (go_at_call 139; refine (rformed_any _ _ _ _).mono ?_; rintro e w' ⟨rfl, rfl⟩) | (go_at_call 141; refine (rorder_any _ _ _ _ _ _ _).mono ?_; rintro e w' ⟨rfl, rfl⟩) | (go_at_call 149; refine (rtruth_any _ _).mono ?_; rintro e w' ⟨rfl, rfl⟩))
    go_ret2
    exact ⟨rfl, bel _ (bel _ (bel _ (Below.refl _ _)))⟩
  rcases hfb : formedB kb nb sb with _ | _
  · rw [if_pos (.inr (.inr hfb))] at hne
    obtain ⟨rfl, rfl⟩ := Prod.mk.inj hne
    clear hne hk
    go_enter Try.func115, Try.ntmps115
    go_wp2_with (first | (go_at_call 139; refine (rformed_any _ _ _ _).mono ?_; rintro e w' ⟨rfl, rfl⟩) | (go_at_call 141; refine (rorder_any _ _ _ _ _ _ _).mono ?_; rintro e w' ⟨rfl, rfl⟩) | (go_at_call 149; refine (rtruth_any _ _).mono ?_; rintro e w' ⟨rfl, rfl⟩))
    go_ret2
    exact ⟨rfl, bel _ (bel _ (bel _ (bel _ (Below.refl _ _))))⟩
  rw [if_neg (by rw [hk, hfa, hfb]; simp)] at hne
  clear hk
  by_cases ha : ka = 0
  · rw [if_pos (.inl ha)] at hne
    obtain ⟨rfl, rfl⟩ := Prod.mk.inj hne
    subst ha
    clear hne
    go_enter Try.func115, Try.ntmps115
    go_wp2_with (first | (go_at_call 139; refine (rformed_any _ _ _ _).mono ?_; rintro e w' ⟨rfl, rfl⟩) | (go_at_call 141; refine (rorder_any _ _ _ _ _ _ _).mono ?_; rintro e w' ⟨rfl, rfl⟩) | (go_at_call 149; refine (rtruth_any _ _).mono ?_; rintro e w' ⟨rfl, rfl⟩))
    go_ret2
    exact ⟨rfl, bel _ (bel _ (bel _ (bel _ (Below.refl _ _))))⟩
  have ea : (ka == 0) = false := beq_eq_false_iff_ne.2 ha
  by_cases hb : kb = 0
  · rw [if_pos (.inr hb)] at hne
    obtain ⟨rfl, rfl⟩ := Prod.mk.inj hne
    subst hb
    clear hne
    go_enter Try.func115, Try.ntmps115
    go_wp2_with (first | (go_at_call 139; refine (rformed_any _ _ _ _).mono ?_; rintro e w' ⟨rfl, rfl⟩) | (go_at_call 141; refine (rorder_any _ _ _ _ _ _ _).mono ?_; rintro e w' ⟨rfl, rfl⟩) | (go_at_call 149; refine (rtruth_any _ _).mono ?_; rintro e w' ⟨rfl, rfl⟩))
    go_ret2
    exact ⟨rfl, bel _ (bel _ (bel _ (bel _ (Below.refl _ _))))⟩
  have eb : (kb == 0) = false := beq_eq_false_iff_ne.2 hb
  rw [if_neg (by simp [ha, hb])] at hne
  by_cases hab : ka = kb
  · rw [if_pos hab, sg2] at hne
    obtain ⟨rfl, rfl⟩ := Prod.mk.inj hne
    subst hab
    clear hne eb hb
    go_enter Try.func115, Try.ntmps115
    go_wp2_with (first | (go_at_call 139; refine (rformed_any _ _ _ _).mono ?_; rintro e w' ⟨rfl, rfl⟩) | (go_at_call 141; refine (rorder_any _ _ _ _ _ _ _).mono ?_; rintro e w' ⟨rfl, rfl⟩) | (go_at_call 149; refine (rtruth_any _ _).mono ?_; rintro e w' ⟨rfl, rfl⟩))
    go_ret2
    exact ⟨rfl, bel _ (bel _ (bel _ (bel _ (bel _ (bel _ (Below.refl _ _))))))⟩
  · rw [if_neg hab] at hne
    obtain ⟨rfl, rfl⟩ := Prod.mk.inj hne
    have ec : (ka != kb) = true := bne_iff_ne.2 hab
    clear hne
    go_enter Try.func115, Try.ntmps115
    go_wp2_with (first | (go_at_call 139; refine (rformed_any _ _ _ _).mono ?_; rintro e w' ⟨rfl, rfl⟩) | (go_at_call 141; refine (rorder_any _ _ _ _ _ _ _).mono ?_; rintro e w' ⟨rfl, rfl⟩) | (go_at_call 149; refine (rtruth_any _ _).mono ?_; rintro e w' ⟨rfl, rfl⟩))
    go_ret2
    exact ⟨rfl, bel _ (bel _ (bel _ (bel _ (Below.refl _ _))))⟩
set_option maxHeartbeats 2000000 in
theorem rcompare2 (ka na : Int) (sa : ByteArray) (kb nb : Int) (sb : ByteArray) (n e : Int) (hne : cmpF ⟨#[60]⟩ ka na sa kb nb sb = (n, e)) (w : World) :
    Calls Try.prog 115 #[.string ⟨#[60]⟩, .agg #[.int .i64 ka, .int .i64 na, .string sa], .agg #[.int .i64 kb, .int .i64 nb, .string sb]] w
      fun x w' => x = .returned (.tuple #[.int .i64 n, .int .i64 e]) ∧ Below w.heap.size w w' := by
  unfold cmpF at hne
  have hk : knownB ⟨#[60]⟩ = true := by decide +kernel
  rcases hfa : formedB ka na sa with _ | _
  · rw [if_pos (.inr (.inl hfa))] at hne
    obtain ⟨rfl, rfl⟩ := Prod.mk.inj hne
    clear hne hk
    go_enter Try.func115, Try.ntmps115
    go_wp2_with (first | (go_at_call 139; refine (rformed_any _ _ _ _).mono ?_; rintro e w' ⟨rfl, rfl⟩) | (go_at_call 141; refine (rorder_any _ _ _ _ _ _ _).mono ?_; rintro e w' ⟨rfl, rfl⟩) | (go_at_call 149; refine (rtruth_any _ _).mono ?_; rintro e w' ⟨rfl, rfl⟩))
    go_ret2
    exact ⟨rfl, bel _ (bel _ (bel _ (Below.refl _ _)))⟩
  rcases hfb : formedB kb nb sb with _ | _
  · rw [if_pos (.inr (.inr hfb))] at hne
    obtain ⟨rfl, rfl⟩ := Prod.mk.inj hne
    clear hne hk
    go_enter Try.func115, Try.ntmps115
    go_wp2_with (first | (go_at_call 139; refine (rformed_any _ _ _ _).mono ?_; rintro e w' ⟨rfl, rfl⟩) | (go_at_call 141; refine (rorder_any _ _ _ _ _ _ _).mono ?_; rintro e w' ⟨rfl, rfl⟩) | (go_at_call 149; refine (rtruth_any _ _).mono ?_; rintro e w' ⟨rfl, rfl⟩))
    go_ret2
    exact ⟨rfl, bel _ (bel _ (bel _ (bel _ (Below.refl _ _))))⟩
  rw [if_neg (by rw [hk, hfa, hfb]; simp)] at hne
  clear hk
  by_cases ha : ka = 0
  · rw [if_pos (.inl ha)] at hne
    obtain ⟨rfl, rfl⟩ := Prod.mk.inj hne
    subst ha
    clear hne
    go_enter Try.func115, Try.ntmps115
    go_wp2_with (first | (go_at_call 139; refine (rformed_any _ _ _ _).mono ?_; rintro e w' ⟨rfl, rfl⟩) | (go_at_call 141; refine (rorder_any _ _ _ _ _ _ _).mono ?_; rintro e w' ⟨rfl, rfl⟩) | (go_at_call 149; refine (rtruth_any _ _).mono ?_; rintro e w' ⟨rfl, rfl⟩))
    go_ret2
    exact ⟨rfl, bel _ (bel _ (bel _ (bel _ (Below.refl _ _))))⟩
  have ea : (ka == 0) = false := beq_eq_false_iff_ne.2 ha
  by_cases hb : kb = 0
  · rw [if_pos (.inr hb)] at hne
    obtain ⟨rfl, rfl⟩ := Prod.mk.inj hne
    subst hb
    clear hne
    go_enter Try.func115, Try.ntmps115
    go_wp2_with (first | (go_at_call 139; refine (rformed_any _ _ _ _).mono ?_; rintro e w' ⟨rfl, rfl⟩) | (go_at_call 141; refine (rorder_any _ _ _ _ _ _ _).mono ?_; rintro e w' ⟨rfl, rfl⟩) | (go_at_call 149; refine (rtruth_any _ _).mono ?_; rintro e w' ⟨rfl, rfl⟩))
    go_ret2
    exact ⟨rfl, bel _ (bel _ (bel _ (bel _ (Below.refl _ _))))⟩
  have eb : (kb == 0) = false := beq_eq_false_iff_ne.2 hb
  rw [if_neg (by simp [ha, hb])] at hne
  by_cases hab : ka = kb
  · rw [if_pos hab, sg3] at hne
    obtain ⟨rfl, rfl⟩ := Prod.mk.inj hne
    subst hab
    clear hne eb hb
    go_enter Try.func115, Try.ntmps115
    go_wp2_with (first | (go_at_call 139; refine (rformed_any _ _ _ _).mono ?_; rintro e w' ⟨rfl, rfl⟩) | (go_at_call 141; refine (rorder_any _ _ _ _ _ _ _).mono ?_; rintro e w' ⟨rfl, rfl⟩) | (go_at_call 149; refine (rtruth_any _ _).mono ?_; rintro e w' ⟨rfl, rfl⟩))
    go_ret2
    exact ⟨rfl, bel _ (bel _ (bel _ (bel _ (bel _ (bel _ (Below.refl _ _))))))⟩
  · rw [if_neg hab] at hne
    obtain ⟨rfl, rfl⟩ := Prod.mk.inj hne
    have ec : (ka != kb) = true := bne_iff_ne.2 hab
    clear hne
    go_enter Try.func115, Try.ntmps115
    go_wp2_with (first | (go_at_call 139; refine (rformed_any _ _ _ _).mono ?_; rintro e w' ⟨rfl, rfl⟩) | (go_at_call 141; refine (rorder_any _ _ _ _ _ _ _).mono ?_; rintro e w' ⟨rfl, rfl⟩) | (go_at_call 149; refine (rtruth_any _ _).mono ?_; rintro e w' ⟨rfl, rfl⟩))
    go_ret2
    exact ⟨rfl, bel _ (bel _ (bel _ (bel _ (Below.refl _ _))))⟩
set_option maxHeartbeats 2000000 in
theorem rcompare3 (ka na : Int) (sa : ByteArray) (kb nb : Int) (sb : ByteArray) (n e : Int) (hne : cmpF ⟨#[60, 61]⟩ ka na sa kb nb sb = (n, e)) (w : World) :
    Calls Try.prog 115 #[.string ⟨#[60, 61]⟩, .agg #[.int .i64 ka, .int .i64 na, .string sa], .agg #[.int .i64 kb, .int .i64 nb, .string sb]] w
      fun x w' => x = .returned (.tuple #[.int .i64 n, .int .i64 e]) ∧ Below w.heap.size w w' := by
  unfold cmpF at hne
  have hk : knownB ⟨#[60, 61]⟩ = true := by decide +kernel
  rcases hfa : formedB ka na sa with _ | _
  · rw [if_pos (.inr (.inl hfa))] at hne
    obtain ⟨rfl, rfl⟩ := Prod.mk.inj hne
    clear hne hk
    go_enter Try.func115, Try.ntmps115
    go_wp2_with (first | (go_at_call 139; refine (rformed_any _ _ _ _).mono ?_; rintro e w' ⟨rfl, rfl⟩) | (go_at_call 141; refine (rorder_any _ _ _ _ _ _ _).mono ?_; rintro e w' ⟨rfl, rfl⟩) | (go_at_call 149; refine (rtruth_any _ _).mono ?_; rintro e w' ⟨rfl, rfl⟩))
    go_ret2
    exact ⟨rfl, bel _ (bel _ (bel _ (Below.refl _ _)))⟩
  rcases hfb : formedB kb nb sb with _ | _
  · rw [if_pos (.inr (.inr hfb))] at hne
    obtain ⟨rfl, rfl⟩ := Prod.mk.inj hne
    clear hne hk
    go_enter Try.func115, Try.ntmps115
    go_wp2_with (first | (go_at_call 139; refine (rformed_any _ _ _ _).mono ?_; rintro e w' ⟨rfl, rfl⟩) | (go_at_call 141; refine (rorder_any _ _ _ _ _ _ _).mono ?_; rintro e w' ⟨rfl, rfl⟩) | (go_at_call 149; refine (rtruth_any _ _).mono ?_; rintro e w' ⟨rfl, rfl⟩))
    go_ret2
    exact ⟨rfl, bel _ (bel _ (bel _ (bel _ (Below.refl _ _))))⟩
  rw [if_neg (by rw [hk, hfa, hfb]; simp)] at hne
  clear hk
  by_cases ha : ka = 0
  · rw [if_pos (.inl ha)] at hne
    obtain ⟨rfl, rfl⟩ := Prod.mk.inj hne
    subst ha
    clear hne
    go_enter Try.func115, Try.ntmps115
    go_wp2_with (first | (go_at_call 139; refine (rformed_any _ _ _ _).mono ?_; rintro e w' ⟨rfl, rfl⟩) | (go_at_call 141; refine (rorder_any _ _ _ _ _ _ _).mono ?_; rintro e w' ⟨rfl, rfl⟩) | (go_at_call 149; refine (rtruth_any _ _).mono ?_; rintro e w' ⟨rfl, rfl⟩))
    go_ret2
    exact ⟨rfl, bel _ (bel _ (bel _ (bel _ (Below.refl _ _))))⟩
  have ea : (ka == 0) = false := beq_eq_false_iff_ne.2 ha
  by_cases hb : kb = 0
  · rw [if_pos (.inr hb)] at hne
    obtain ⟨rfl, rfl⟩ := Prod.mk.inj hne
    subst hb
    clear hne
    go_enter Try.func115, Try.ntmps115
    go_wp2_with (first | (go_at_call 139; refine (rformed_any _ _ _ _).mono ?_; rintro e w' ⟨rfl, rfl⟩) | (go_at_call 141; refine (rorder_any _ _ _ _ _ _ _).mono ?_; rintro e w' ⟨rfl, rfl⟩) | (go_at_call 149; refine (rtruth_any _ _).mono ?_; rintro e w' ⟨rfl, rfl⟩))
    go_ret2
    exact ⟨rfl, bel _ (bel _ (bel _ (bel _ (Below.refl _ _))))⟩
  have eb : (kb == 0) = false := beq_eq_false_iff_ne.2 hb
  rw [if_neg (by simp [ha, hb])] at hne
  by_cases hab : ka = kb
  · rw [if_pos hab, sg4] at hne
    obtain ⟨rfl, rfl⟩ := Prod.mk.inj hne
    subst hab
    clear hne eb hb
    go_enter Try.func115, Try.ntmps115
    go_wp2_with (first | (go_at_call 139; refine (rformed_any _ _ _ _).mono ?_; rintro e w' ⟨rfl, rfl⟩) | (go_at_call 141; refine (rorder_any _ _ _ _ _ _ _).mono ?_; rintro e w' ⟨rfl, rfl⟩) | (go_at_call 149; refine (rtruth_any _ _).mono ?_; rintro e w' ⟨rfl, rfl⟩))
    go_ret2
    exact ⟨rfl, bel _ (bel _ (bel _ (bel _ (bel _ (bel _ (Below.refl _ _))))))⟩
  · rw [if_neg hab] at hne
    obtain ⟨rfl, rfl⟩ := Prod.mk.inj hne
    have ec : (ka != kb) = true := bne_iff_ne.2 hab
    clear hne
    go_enter Try.func115, Try.ntmps115
    go_wp2_with (first | (go_at_call 139; refine (rformed_any _ _ _ _).mono ?_; rintro e w' ⟨rfl, rfl⟩) | (go_at_call 141; refine (rorder_any _ _ _ _ _ _ _).mono ?_; rintro e w' ⟨rfl, rfl⟩) | (go_at_call 149; refine (rtruth_any _ _).mono ?_; rintro e w' ⟨rfl, rfl⟩))
    go_ret2
    exact ⟨rfl, bel _ (bel _ (bel _ (bel _ (Below.refl _ _))))⟩
set_option maxHeartbeats 2000000 in
theorem rcompare4 (ka na : Int) (sa : ByteArray) (kb nb : Int) (sb : ByteArray) (n e : Int) (hne : cmpF ⟨#[62]⟩ ka na sa kb nb sb = (n, e)) (w : World) :
    Calls Try.prog 115 #[.string ⟨#[62]⟩, .agg #[.int .i64 ka, .int .i64 na, .string sa], .agg #[.int .i64 kb, .int .i64 nb, .string sb]] w
      fun x w' => x = .returned (.tuple #[.int .i64 n, .int .i64 e]) ∧ Below w.heap.size w w' := by
  unfold cmpF at hne
  have hk : knownB ⟨#[62]⟩ = true := by decide +kernel
  rcases hfa : formedB ka na sa with _ | _
  · rw [if_pos (.inr (.inl hfa))] at hne
    obtain ⟨rfl, rfl⟩ := Prod.mk.inj hne
    clear hne hk
    go_enter Try.func115, Try.ntmps115
    go_wp2_with (first | (go_at_call 139; refine (rformed_any _ _ _ _).mono ?_; rintro e w' ⟨rfl, rfl⟩) | (go_at_call 141; refine (rorder_any _ _ _ _ _ _ _).mono ?_; rintro e w' ⟨rfl, rfl⟩) | (go_at_call 149; refine (rtruth_any _ _).mono ?_; rintro e w' ⟨rfl, rfl⟩))
    go_ret2
    exact ⟨rfl, bel _ (bel _ (bel _ (Below.refl _ _)))⟩
  rcases hfb : formedB kb nb sb with _ | _
  · rw [if_pos (.inr (.inr hfb))] at hne
    obtain ⟨rfl, rfl⟩ := Prod.mk.inj hne
    clear hne hk
    go_enter Try.func115, Try.ntmps115
    go_wp2_with (first | (go_at_call 139; refine (rformed_any _ _ _ _).mono ?_; rintro e w' ⟨rfl, rfl⟩) | (go_at_call 141; refine (rorder_any _ _ _ _ _ _ _).mono ?_; rintro e w' ⟨rfl, rfl⟩) | (go_at_call 149; refine (rtruth_any _ _).mono ?_; rintro e w' ⟨rfl, rfl⟩))
    go_ret2
    exact ⟨rfl, bel _ (bel _ (bel _ (bel _ (Below.refl _ _))))⟩
  rw [if_neg (by rw [hk, hfa, hfb]; simp)] at hne
  clear hk
  by_cases ha : ka = 0
  · rw [if_pos (.inl ha)] at hne
    obtain ⟨rfl, rfl⟩ := Prod.mk.inj hne
    subst ha
    clear hne
    go_enter Try.func115, Try.ntmps115
    go_wp2_with (first | (go_at_call 139; refine (rformed_any _ _ _ _).mono ?_; rintro e w' ⟨rfl, rfl⟩) | (go_at_call 141; refine (rorder_any _ _ _ _ _ _ _).mono ?_; rintro e w' ⟨rfl, rfl⟩) | (go_at_call 149; refine (rtruth_any _ _).mono ?_; rintro e w' ⟨rfl, rfl⟩))
    go_ret2
    exact ⟨rfl, bel _ (bel _ (bel _ (bel _ (Below.refl _ _))))⟩
  have ea : (ka == 0) = false := beq_eq_false_iff_ne.2 ha
  by_cases hb : kb = 0
  · rw [if_pos (.inr hb)] at hne
    obtain ⟨rfl, rfl⟩ := Prod.mk.inj hne
    subst hb
    clear hne
    go_enter Try.func115, Try.ntmps115
    go_wp2_with (first | (go_at_call 139; refine (rformed_any _ _ _ _).mono ?_; rintro e w' ⟨rfl, rfl⟩) | (go_at_call 141; refine (rorder_any _ _ _ _ _ _ _).mono ?_; rintro e w' ⟨rfl, rfl⟩) | (go_at_call 149; refine (rtruth_any _ _).mono ?_; rintro e w' ⟨rfl, rfl⟩))
    go_ret2
    exact ⟨rfl, bel _ (bel _ (bel _ (bel _ (Below.refl _ _))))⟩
  have eb : (kb == 0) = false := beq_eq_false_iff_ne.2 hb
  rw [if_neg (by simp [ha, hb])] at hne
  by_cases hab : ka = kb
  · rw [if_pos hab, sg5] at hne
    obtain ⟨rfl, rfl⟩ := Prod.mk.inj hne
    subst hab
    clear hne eb hb
    go_enter Try.func115, Try.ntmps115
    go_wp2_with (first | (go_at_call 139; refine (rformed_any _ _ _ _).mono ?_; rintro e w' ⟨rfl, rfl⟩) | (go_at_call 141; refine (rorder_any _ _ _ _ _ _ _).mono ?_; rintro e w' ⟨rfl, rfl⟩) | (go_at_call 149; refine (rtruth_any _ _).mono ?_; rintro e w' ⟨rfl, rfl⟩))
    go_ret2
    exact ⟨rfl, bel _ (bel _ (bel _ (bel _ (bel _ (bel _ (Below.refl _ _))))))⟩
  · rw [if_neg hab] at hne
    obtain ⟨rfl, rfl⟩ := Prod.mk.inj hne
    have ec : (ka != kb) = true := bne_iff_ne.2 hab
    clear hne
    go_enter Try.func115, Try.ntmps115
    go_wp2_with (first | (go_at_call 139; refine (rformed_any _ _ _ _).mono ?_; rintro e w' ⟨rfl, rfl⟩) | (go_at_call 141; refine (rorder_any _ _ _ _ _ _ _).mono ?_; rintro e w' ⟨rfl, rfl⟩) | (go_at_call 149; refine (rtruth_any _ _).mono ?_; rintro e w' ⟨rfl, rfl⟩))
    go_ret2
    exact ⟨rfl, bel _ (bel _ (bel _ (bel _ (Below.refl _ _))))⟩
set_option maxHeartbeats 2000000 in
theorem rcompare5 (ka na : Int) (sa : ByteArray) (kb nb : Int) (sb : ByteArray) (n e : Int) (hne : cmpF ⟨#[62, 61]⟩ ka na sa kb nb sb = (n, e)) (w : World) :
    Calls Try.prog 115 #[.string ⟨#[62, 61]⟩, .agg #[.int .i64 ka, .int .i64 na, .string sa], .agg #[.int .i64 kb, .int .i64 nb, .string sb]] w
      fun x w' => x = .returned (.tuple #[.int .i64 n, .int .i64 e]) ∧ Below w.heap.size w w' := by
  unfold cmpF at hne
  have hk : knownB ⟨#[62, 61]⟩ = true := by decide +kernel
  rcases hfa : formedB ka na sa with _ | _
  · rw [if_pos (.inr (.inl hfa))] at hne
    obtain ⟨rfl, rfl⟩ := Prod.mk.inj hne
    clear hne hk
    go_enter Try.func115, Try.ntmps115
    go_wp2_with (first | (go_at_call 139; refine (rformed_any _ _ _ _).mono ?_; rintro e w' ⟨rfl, rfl⟩) | (go_at_call 141; refine (rorder_any _ _ _ _ _ _ _).mono ?_; rintro e w' ⟨rfl, rfl⟩) | (go_at_call 149; refine (rtruth_any _ _).mono ?_; rintro e w' ⟨rfl, rfl⟩))
    go_ret2
    exact ⟨rfl, bel _ (bel _ (bel _ (Below.refl _ _)))⟩
  rcases hfb : formedB kb nb sb with _ | _
  · rw [if_pos (.inr (.inr hfb))] at hne
    obtain ⟨rfl, rfl⟩ := Prod.mk.inj hne
    clear hne hk
    go_enter Try.func115, Try.ntmps115
    go_wp2_with (first | (go_at_call 139; refine (rformed_any _ _ _ _).mono ?_; rintro e w' ⟨rfl, rfl⟩) | (go_at_call 141; refine (rorder_any _ _ _ _ _ _ _).mono ?_; rintro e w' ⟨rfl, rfl⟩) | (go_at_call 149; refine (rtruth_any _ _).mono ?_; rintro e w' ⟨rfl, rfl⟩))
    go_ret2
    exact ⟨rfl, bel _ (bel _ (bel _ (bel _ (Below.refl _ _))))⟩
  rw [if_neg (by rw [hk, hfa, hfb]; simp)] at hne
  clear hk
  by_cases ha : ka = 0
  · rw [if_pos (.inl ha)] at hne
    obtain ⟨rfl, rfl⟩ := Prod.mk.inj hne
    subst ha
    clear hne
    go_enter Try.func115, Try.ntmps115
    go_wp2_with (first | (go_at_call 139; refine (rformed_any _ _ _ _).mono ?_; rintro e w' ⟨rfl, rfl⟩) | (go_at_call 141; refine (rorder_any _ _ _ _ _ _ _).mono ?_; rintro e w' ⟨rfl, rfl⟩) | (go_at_call 149; refine (rtruth_any _ _).mono ?_; rintro e w' ⟨rfl, rfl⟩))
    go_ret2
    exact ⟨rfl, bel _ (bel _ (bel _ (bel _ (Below.refl _ _))))⟩
  have ea : (ka == 0) = false := beq_eq_false_iff_ne.2 ha
  by_cases hb : kb = 0
  · rw [if_pos (.inr hb)] at hne
    obtain ⟨rfl, rfl⟩ := Prod.mk.inj hne
    subst hb
    clear hne
    go_enter Try.func115, Try.ntmps115
    go_wp2_with (first | (go_at_call 139; refine (rformed_any _ _ _ _).mono ?_; rintro e w' ⟨rfl, rfl⟩) | (go_at_call 141; refine (rorder_any _ _ _ _ _ _ _).mono ?_; rintro e w' ⟨rfl, rfl⟩) | (go_at_call 149; refine (rtruth_any _ _).mono ?_; rintro e w' ⟨rfl, rfl⟩))
    go_ret2
    exact ⟨rfl, bel _ (bel _ (bel _ (bel _ (Below.refl _ _))))⟩
  have eb : (kb == 0) = false := beq_eq_false_iff_ne.2 hb
  rw [if_neg (by simp [ha, hb])] at hne
  by_cases hab : ka = kb
  · rw [if_pos hab, sg6] at hne
    obtain ⟨rfl, rfl⟩ := Prod.mk.inj hne
    subst hab
    clear hne eb hb
    go_enter Try.func115, Try.ntmps115
    go_wp2_with (first | (go_at_call 139; refine (rformed_any _ _ _ _).mono ?_; rintro e w' ⟨rfl, rfl⟩) | (go_at_call 141; refine (rorder_any _ _ _ _ _ _ _).mono ?_; rintro e w' ⟨rfl, rfl⟩) | (go_at_call 149; refine (rtruth_any _ _).mono ?_; rintro e w' ⟨rfl, rfl⟩))
    go_ret2
    exact ⟨rfl, bel _ (bel _ (bel _ (bel _ (bel _ (bel _ (Below.refl _ _))))))⟩
  · rw [if_neg hab] at hne
    obtain ⟨rfl, rfl⟩ := Prod.mk.inj hne
    have ec : (ka != kb) = true := bne_iff_ne.2 hab
    clear hne
    go_enter Try.func115, Try.ntmps115
    go_wp2_with (first | (go_at_call 139; refine (rformed_any _ _ _ _).mono ?_; rintro e w' ⟨rfl, rfl⟩) | (go_at_call 141; refine (rorder_any _ _ _ _ _ _ _).mono ?_; rintro e w' ⟨rfl, rfl⟩) | (go_at_call 149; refine (rtruth_any _ _).mono ?_; rintro e w' ⟨rfl, rfl⟩))
    go_ret2
    exact ⟨rfl, bel _ (bel _ (bel _ (bel _ (Below.refl _ _))))⟩
set_option maxHeartbeats 2000000 in
theorem rcompare_any (op : ByteArray) (ka na : Int) (sa : ByteArray) (kb nb : Int) (sb : ByteArray) (n e : Int) (hne : cmpF op ka na sa kb nb sb = (n, e)) (w : World) :
    Calls Try.prog 115 #[.string op, .agg #[.int .i64 ka, .int .i64 na, .string sa], .agg #[.int .i64 kb, .int .i64 nb, .string sb]] w
      fun x w' => x = .returned (.tuple #[.int .i64 n, .int .i64 e]) ∧ Below w.heap.size w w' := by
  rcases cop_cases op with (rfl | rfl | rfl | rfl | rfl | rfl) | ⟨h1, h2, h3, h4, h5, h6⟩
  · exact rcompare0 _ _ _ _ _ _ _ _ hne w
  · exact rcompare1 _ _ _ _ _ _ _ _ hne w
  · exact rcompare2 _ _ _ _ _ _ _ _ hne w
  · exact rcompare3 _ _ _ _ _ _ _ _ hne w
  · exact rcompare4 _ _ _ _ _ _ _ _ hne w
  · exact rcompare5 _ _ _ _ _ _ _ _ hne w
  · unfold cmpF at hne
    have hk : knownB op = false := by unfold knownB; rw [h1, h2, h3, h4, h5, h6]; rfl
    rw [if_pos (.inl hk)] at hne
    obtain ⟨rfl, rfl⟩ := Prod.mk.inj hne
    clear hne hk
    go_enter Try.func115, Try.ntmps115
    go_wp2
    go_ret2
    exact ⟨rfl, bel _ (bel _ (Below.refl _ _))⟩
end Go.Proofs.Ytafhgilikcablaa
