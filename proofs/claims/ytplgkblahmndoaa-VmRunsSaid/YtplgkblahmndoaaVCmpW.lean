/- Compare of the program. (Turned from round 1.) -/
import Derived.Test.YtplgkblahmndoaaVOrd
import Derived.RowKit
import Derived.IntWalk
import Derived.WalkKit
import Derived.WalkLawsBesides
import Derived.WalkSpells
import Derived.Outline
import Derived.BigQuiet
import Derived.Deep.QuietTactic
import Derived.StillTailTactics
import Derived.Deep.RegionHeld3
import Derived.LoopTactic
import Derived.Lib.Hide
namespace Go.Proofs.Ytplgkblahmndoaa
open Go.RowKit
set_option linter.unusedVariables false
set_option maxRecDepth 100000

def knownB (op : ByteArray) : Bool := op.toList == [61] || op.toList == [60, 62] || op.toList == [60] || op.toList == [60, 61] || op.toList == [62] || op.toList == [62, 61]
def sgnB (op : ByteArray) (o : Int) : Bool :=
  if op.toList = [61] then o == 0 else if op.toList = [60, 62] then o != 0 else if op.toList = [60] then decide (o < 0)
  else if op.toList = [60, 61] then decide (o ≤ 0) else if op.toList = [62] then decide (0 < o) else decide (0 ≤ o)
def truthI (b : Bool) : Int := if b then 1 else 0
def cmpF (op : ByteArray) (ka na : Int) (sa : ByteArray) (kb nb : Int) (sb : ByteArray) : Int × Int :=
  if knownB op = false ∨ formedB ka na sa = false ∨ formedB kb nb sb = false then (0, 1)
  else if ka = 0 ∨ kb = 0 then (2, 0) else if ka = kb then (truthI (sgnB op (ordV ka na sa kb nb sb)), 0) else (0, 7)
theorem of_toList {s : ByteArray} {l : List UInt8} (h : s.toList = l) : s = ⟨l.toArray⟩ := by
  subst h; rw [ByteArray.toList_eq]
/-- op is one of six signs, or none of them -/
theorem cop_cases (op : ByteArray) : (op = ⟨#[61]⟩ ∨ op = ⟨#[60, 62]⟩ ∨ op = ⟨#[60]⟩ ∨ op = ⟨#[60, 61]⟩ ∨ op = ⟨#[62]⟩ ∨ op = ⟨#[62, 61]⟩) ∨
    ((op.toList == [61]) = false ∧ (op.toList == [60, 62]) = false ∧ (op.toList == [60]) = false ∧ (op.toList == [60, 61]) = false ∧ (op.toList == [62]) = false ∧ (op.toList == [62, 61]) = false) := by
  by_cases h1 : op.toList = [61]
  · exact .inl (.inl (of_toList h1))
  by_cases h2 : op.toList = [60, 62]
  · exact .inl (.inr (.inl (of_toList h2)))
  by_cases h3 : op.toList = [60]
  · exact .inl (.inr (.inr (.inl (of_toList h3))))
  by_cases h4 : op.toList = [60, 61]
  · exact .inl (.inr (.inr (.inr (.inl (of_toList h4)))))
  by_cases h5 : op.toList = [62]
  · exact .inl (.inr (.inr (.inr (.inr (.inl (of_toList h5))))))
  by_cases h6 : op.toList = [62, 61]
  · exact .inl (.inr (.inr (.inr (.inr (.inr (of_toList h6))))))
  exact .inr ⟨beq_eq_false_iff_ne.2 h1, beq_eq_false_iff_ne.2 h2, beq_eq_false_iff_ne.2 h3, beq_eq_false_iff_ne.2 h4, beq_eq_false_iff_ne.2 h5, beq_eq_false_iff_ne.2 h6⟩
theorem comparing_any (op : ByteArray) (w : World) : Calls Try.prog 138 #[.string op] w fun e w' => e = .returned (.bool (knownB op)) ∧ w = w' := by
  rcases cop_cases op with (rfl | rfl | rfl | rfl | rfl | rfl) | ⟨h1, h2, h3, h4, h5, h6⟩
  iterate 6
    · rw [show knownB _ = true from by decide +kernel]
      go_enter Try.func138, Try.ntmps138
      go_wp2
      go_ret
      exact ⟨rfl, rfl⟩
  · rw [show knownB op = false from by unfold knownB; rw [h1, h2, h3, h4, h5, h6]; rfl]
    go_enter Try.func138, Try.ntmps138
    go_wp2
    go_ret
    exact ⟨rfl, rfl⟩
theorem sg1 (o : Int) : sgnB ⟨#[61]⟩ o = (o == 0) := by unfold sgnB; rw [if_pos (by decide +kernel)]
theorem sg2 (o : Int) : sgnB ⟨#[60, 62]⟩ o = (o != 0) := by unfold sgnB; rw [if_neg (by decide +kernel), if_pos (by decide +kernel)]
theorem sg3 (o : Int) : sgnB ⟨#[60]⟩ o = decide (o < 0) := by unfold sgnB; rw [if_neg (by decide +kernel), if_neg (by decide +kernel), if_pos (by decide +kernel)]
theorem sg4 (o : Int) : sgnB ⟨#[60, 61]⟩ o = decide (o ≤ 0) := by unfold sgnB; rw [if_neg (by decide +kernel), if_neg (by decide +kernel), if_neg (by decide +kernel), if_pos (by decide +kernel)]
theorem sg5 (o : Int) : sgnB ⟨#[62]⟩ o = decide (0 < o) := by unfold sgnB; rw [if_neg (by decide +kernel), if_neg (by decide +kernel), if_neg (by decide +kernel), if_neg (by decide +kernel), if_pos (by decide +kernel)]
theorem sg6 (o : Int) : sgnB ⟨#[62, 61]⟩ o = decide (0 ≤ o) := by unfold sgnB; rw [if_neg (by decide +kernel), if_neg (by decide +kernel), if_neg (by decide +kernel), if_neg (by decide +kernel), if_neg (by decide +kernel)]
theorem sg7 {op : ByteArray} (h1 : (op.toList == [61]) = false) (h2 : (op.toList == [60, 62]) = false) (h3 : (op.toList == [60]) = false) (h4 : (op.toList == [60, 61]) = false) (h5 : (op.toList == [62]) = false) (o : Int) : sgnB op o = decide (0 ≤ o) := by
  unfold sgnB; rw [if_neg (beq_eq_false_iff_ne.1 h1), if_neg (beq_eq_false_iff_ne.1 h2), if_neg (beq_eq_false_iff_ne.1 h3), if_neg (beq_eq_false_iff_ne.1 h4), if_neg (beq_eq_false_iff_ne.1 h5)]
theorem holds_any (op : ByteArray) (o : Int) (w : World) : Calls Try.prog 140 #[.string op, .int .i64 o] w fun e w' => e = .returned (.bool (sgnB op o)) ∧ w = w' := by
  rcases cop_cases op with (rfl | rfl | rfl | rfl | rfl | rfl) | ⟨h1, h2, h3, h4, h5, h6⟩
  iterate 6
    · first | rw [sg1] | rw [sg2] | rw [sg3] | rw [sg4] | rw [sg5] | rw [sg6]
      go_enter Try.func140, Try.ntmps140
      go_wp2
      go_ret
      exact ⟨rfl, rfl⟩
  · rw [sg7 h1 h2 h3 h4 h5]
    go_enter Try.func140, Try.ntmps140
    go_wp2
    go_ret
    exact ⟨rfl, rfl⟩
theorem truth_any (b : Bool) (w : World) : Calls Try.prog 139 #[.bool b] w fun e w' => e = .returned (.int .i64 (truthI b)) ∧ w = w' := by
  cases b
  · rw [show truthI false = 0 from rfl]
    go_enter Try.func139, Try.ntmps139
    go_wp2
    go_ret
    exact ⟨rfl, rfl⟩
  · rw [show truthI true = 1 from rfl]
    go_enter Try.func139, Try.ntmps139
    go_wp2
    go_ret
    exact ⟨rfl, rfl⟩
theorem rtruth_any (b : Bool) (w : World) : Calls Try.prog 150 #[.bool b] w fun e w' => e = .returned (.int .i64 (truthI b)) ∧ w = w' := by
  cases b
  · rw [show truthI false = 0 from rfl]
    go_enter Try.func150, Try.ntmps150
    go_wp2
    go_ret
    exact ⟨rfl, rfl⟩
  · rw [show truthI true = 1 from rfl]
    go_enter Try.func150, Try.ntmps150
    go_wp2
    go_ret
    exact ⟨rfl, rfl⟩
set_option maxHeartbeats 2000000 in
theorem compare_any (op : ByteArray) (ka na : Int) (sa : ByteArray) (kb nb : Int) (sb : ByteArray) (n e : Int) (hne : cmpF op ka na sa kb nb sb = (n, e)) (w : World) :
    Calls Try.prog 96 #[.string op, .agg #[.int .i64 ka, .int .i64 na, .string sa], .agg #[.int .i64 kb, .int .i64 nb, .string sb]] w
      fun x w' => x = .returned (.tuple #[.int .i64 n, .int .i64 e]) ∧ Below w.heap.size w w' := by
  unfold cmpF at hne
  rcases hk : knownB op with _ | _
  · rw [if_pos (.inl hk)] at hne
    obtain ⟨rfl, rfl⟩ := Prod.mk.inj hne
    clear hne
    go_enter Try.func96, Try.ntmps96
    go_wp2_with (go_at_call 138; refine (comparing_any _ _).mono ?_; rintro e w' ⟨rfl, rfl⟩)
    go_ret2
    exact ⟨rfl, bel _ (bel _ (Below.refl _ _))⟩
  rcases hfa : formedB ka na sa with _ | _
  · rw [if_pos (.inr (.inl hfa))] at hne
    obtain ⟨rfl, rfl⟩ := Prod.mk.inj hne
    clear hne
    go_enter Try.func96, Try.ntmps96
    go_wp2_with (first | (go_at_call 138; refine (comparing_any _ _).mono ?_; rintro e w' ⟨rfl, rfl⟩) | (go_at_call 115; refine (formed_any _ _ _ _).mono ?_; rintro e w' ⟨rfl, rfl⟩))
    go_ret2
    exact ⟨rfl, bel _ (bel _ (bel _ (Below.refl _ _)))⟩
  rcases hfb : formedB kb nb sb with _ | _
  · rw [if_pos (.inr (.inr hfb))] at hne
    obtain ⟨rfl, rfl⟩ := Prod.mk.inj hne
    clear hne
    go_enter Try.func96, Try.ntmps96
    go_wp2_with (first | (go_at_call 138; refine (comparing_any _ _).mono ?_; rintro e w' ⟨rfl, rfl⟩) | (go_at_call 115; refine (formed_any _ _ _ _).mono ?_; rintro e w' ⟨rfl, rfl⟩))
    go_ret2
    exact ⟨rfl, bel _ (bel _ (bel _ (bel _ (Below.refl _ _))))⟩
  rw [if_neg (by rw [hk, hfa, hfb]; simp)] at hne
  by_cases ha : ka = 0
  · rw [if_pos (.inl ha)] at hne
    obtain ⟨rfl, rfl⟩ := Prod.mk.inj hne
    subst ha
    clear hne
    go_enter Try.func96, Try.ntmps96
    go_wp2_with (first | (go_at_call 138; refine (comparing_any _ _).mono ?_; rintro e w' ⟨rfl, rfl⟩) | (go_at_call 115; refine (formed_any _ _ _ _).mono ?_; rintro e w' ⟨rfl, rfl⟩))
    go_ret2
    exact ⟨rfl, bel _ (bel _ (bel _ (bel _ (Below.refl _ _))))⟩
  have ea : (ka == 0) = false := beq_eq_false_iff_ne.2 ha
  by_cases hb : kb = 0
  · rw [if_pos (.inr hb)] at hne
    obtain ⟨rfl, rfl⟩ := Prod.mk.inj hne
    subst hb
    clear hne
    go_enter Try.func96, Try.ntmps96
    go_wp2_with (first | (go_at_call 138; refine (comparing_any _ _).mono ?_; rintro e w' ⟨rfl, rfl⟩) | (go_at_call 115; refine (formed_any _ _ _ _).mono ?_; rintro e w' ⟨rfl, rfl⟩))
    go_ret2
    exact ⟨rfl, bel _ (bel _ (bel _ (bel _ (Below.refl _ _))))⟩
  have eb : (kb == 0) = false := beq_eq_false_iff_ne.2 hb
  rw [if_neg (by simp [ha, hb])] at hne
  by_cases hab : ka = kb
  · rw [if_pos hab] at hne
    obtain ⟨rfl, rfl⟩ := Prod.mk.inj hne
    subst hab
    clear hne eb hb
    go_enter Try.func96, Try.ntmps96
    go_wp2_with (first | (go_at_call 138; refine (comparing_any _ _).mono ?_; rintro e w' ⟨rfl, rfl⟩) | (go_at_call 115; refine (formed_any _ _ _ _).mono ?_; rintro e w' ⟨rfl, rfl⟩) | (go_at_call 141; refine (order_any _ _ _ _ _ _ _).mono ?_; rintro e w' ⟨rfl, rfl⟩) | (go_at_call 140; refine (holds_any _ _ _).mono ?_; rintro e w' ⟨rfl, rfl⟩) | (go_at_call 139; refine (truth_any _ _).mono ?_; rintro e w' ⟨rfl, rfl⟩))
    go_ret2
    exact ⟨rfl, (bel _ (bel _ (bel _ (bel _ (bel _ (bel _ (bel _ (Below.refl _ _)))))))).drew⟩
  · rw [if_neg hab] at hne
    obtain ⟨rfl, rfl⟩ := Prod.mk.inj hne
    have ec : (ka != kb) = true := bne_iff_ne.2 hab
    clear hne
    go_enter Try.func96, Try.ntmps96
    go_wp2_with (first | (go_at_call 138; refine (comparing_any _ _).mono ?_; rintro e w' ⟨rfl, rfl⟩) | (go_at_call 115; refine (formed_any _ _ _ _).mono ?_; rintro e w' ⟨rfl, rfl⟩))
    go_ret2
    exact ⟨rfl, bel _ (bel _ (bel _ (bel _ (Below.refl _ _))))⟩
end Go.Proofs.Ytplgkblahmndoaa
