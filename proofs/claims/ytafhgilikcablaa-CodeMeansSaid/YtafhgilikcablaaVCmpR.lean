/- Compare of the document. (Turned from round 1.) -/
import Derived.Test.YtafhgilikcablaaFormV
import Derived.RowKit
import Derived.IntWalk
import Derived.WalkKit
import Derived.WalkLawsBesides
import Derived.WalkSpells
import Derived.Outline
import Derived.BigQuiet
import Derived.Deep.QuietTactic
import Derived.StillTailTactics
import Derived.Deep.RegionHeld3
import Derived.LoopTactic
import Derived.Lib.Hide
namespace Go.Proofs.Ytafhgilikcablaa
open Go.RowKit
set_option linter.unusedVariables false
set_option linter.unusedSimpArgs false
set_option maxRecDepth 100000

end Go.Proofs.Ytafhgilikcablaa
namespace Go.Proofs.Ytafhgilikcablaa
open Go.RowKit
set_option linter.unusedVariables false
set_option linter.unusedSimpArgs false
set_option maxRecDepth 100000

def knownB (op : ByteArray) : Bool := op.toList == [61] || op.toList == [60, 62] || op.toList == [60] || op.toList == [60, 61] || op.toList == [62] || op.toList == [62, 61]
def sgnB (op : ByteArray) (o : Int) : Bool :=
  if op.toList = [61] then o == 0 else if op.toList = [60, 62] then o != 0 else if op.toList = [60] then decide (o < 0)
  else if op.toList = [60, 61] then decide (o ≤ 0) else if op.toList = [62] then decide (0 < o) else decide (0 ≤ o)
def truthI (b : Bool) : Int := if b then 1 else 0
def cmpF (op : ByteArray) (ka na : Int) (sa : ByteArray) (kb nb : Int) (sb : ByteArray) : Int × Int :=
  if knownB op = false ∨ formedB ka na sa = false ∨ formedB kb nb sb = false then (0, 1)
  else if ka = 0 ∨ kb = 0 then (2, 0) else if ka = kb then (truthI (sgnB op (ordV ka na sa kb nb sb)), 0) else (0, 7)
theorem of_toList {s : ByteArray} {l : List UInt8} (h : s.toList = l) : s = ⟨l.toArray⟩ := by
  subst h; rw [ByteArray.toList_eq]
/-- op is one of six signs, or none of them -/
theorem cop_cases (op : ByteArray) : (op = ⟨#[61]⟩ ∨ op = ⟨#[60, 62]⟩ ∨ op = ⟨#[60]⟩ ∨ op = ⟨#[60, 61]⟩ ∨ op = ⟨#[62]⟩ ∨ op = ⟨#[62, 61]⟩) ∨
    ((op.toList == [61]) = false ∧ (op.toList == [60, 62]) = false ∧ (op.toList == [60]) = false ∧ (op.toList == [60, 61]) = false ∧ (op.toList == [62]) = false ∧ (op.toList == [62, 61]) = false) := by
  by_cases h1 : op.toList = [61]
  · exact .inl (.inl (of_toList h1))
  by_cases h2 : op.toList = [60, 62]
  · exact .inl (.inr (.inl (of_toList h2)))
  by_cases h3 : op.toList = [60]
  · exact .inl (.inr (.inr (.inl (of_toList h3))))
  by_cases h4 : op.toList = [60, 61]
  · exact .inl (.inr (.inr (.inr (.inl (of_toList h4)))))
  by_cases h5 : op.toList = [62]
  · exact .inl (.inr (.inr (.inr (.inr (.inl (of_toList h5))))))
  by_cases h6 : op.toList = [62, 61]
  · exact .inl (.inr (.inr (.inr (.inr (.inr (of_toList h6))))))
  exact .inr ⟨beq_eq_false_iff_ne.2 h1, beq_eq_false_iff_ne.2 h2, beq_eq_false_iff_ne.2 h3, beq_eq_false_iff_ne.2 h4, beq_eq_false_iff_ne.2 h5, beq_eq_false_iff_ne.2 h6⟩
theorem sg1 (o : Int) : sgnB ⟨#[61]⟩ o = (o == 0) := by unfold sgnB; rw [if_pos (by decide +kernel)]
theorem sg2 (o : Int) : sgnB ⟨#[60, 62]⟩ o = (o != 0) := by unfold sgnB; rw [if_neg (by decide +kernel), if_pos (by decide +kernel)]
theorem sg3 (o : Int) : sgnB ⟨#[60]⟩ o = decide (o < 0) := by unfold sgnB; rw [if_neg (by decide +kernel), if_neg (by decide +kernel), if_pos (by decide +kernel)]
theorem sg4 (o : Int) : sgnB ⟨#[60, 61]⟩ o = decide (o ≤ 0) := by unfold sgnB; rw [if_neg (by decide +kernel), if_neg (by decide +kernel), if_neg (by decide +kernel), if_pos (by decide +kernel)]
theorem sg5 (o : Int) : sgnB ⟨#[62]⟩ o = decide (0 < o) := by unfold sgnB; rw [if_neg (by decide +kernel), if_neg (by decide +kernel), if_neg (by decide +kernel), if_neg (by decide +kernel), if_pos (by decide +kernel)]
theorem sg6 (o : Int) : sgnB ⟨#[62, 61]⟩ o = decide (0 ≤ o) := by unfold sgnB; rw [if_neg (by decide +kernel), if_neg (by decide +kernel), if_neg (by decide +kernel), if_neg (by decide +kernel), if_neg (by decide +kernel)]
theorem rtruth_any (b : Bool) (w : World) : Calls Try.prog 149 #[.bool b] w fun e w' => e = .returned (.int .i64 (truthI b)) ∧ w = w' := by
  cases b
  · rw [show truthI false = 0 from rfl]
    go_enter Try.func149, Try.ntmps149
    go_wp2
    go_ret
    exact ⟨rfl, rfl⟩
  · rw [show truthI true = 1 from rfl]
    go_enter Try.func149, Try.ntmps149
    go_wp2
    go_ret
    exact ⟨rfl, rfl⟩
end Go.Proofs.Ytafhgilikcablaa
namespace Go.Proofs.Ytafhgilikcablaa
open Go.RowKit
set_option linter.unusedVariables false
set_option linter.unusedSimpArgs false
set_option maxRecDepth 100000

set_option maxHeartbeats 2000000 in
theorem rcompare0 (ka na : Int) (sa : ByteArray) (kb nb : Int) (sb : ByteArray) (n e : Int) (hne : cmpF ⟨#[61]⟩ ka na sa kb nb sb = (n, e)) (w : World) :
    Calls Try.prog 115 #[.string ⟨#[61]⟩, .agg #[.int .i64 ka, .int .i64 na, .string sa], .agg #[.int .i64 kb, .int .i64 nb, .string sb]] w
      fun x w' => x = .returned (.tuple #[.int .i64 n, .int .i64 e]) ∧ Below w.heap.size w w' := by
  unfold cmpF at hne
  have hk : knownB ⟨#[61]⟩ = true := by decide +kernel
  rcases hfa : formedB ka na sa with _ | _
  · rw [if_pos (.inr (.inl hfa))] at hne
    obtain ⟨rfl, rfl⟩ := Prod.mk.inj hne
    clear hne hk
    go_enter Try.func115, Try.ntmps115
    go_wp2_with (first | (go_at_call 139; refine (rformed_any _ _ _ _).mono ?_; rintro e w' ⟨rfl, rfl⟩) | (go_at_call 141; refine (rorder_any _ _ _ _ _ _ _).mono ?_; rintro e w' ⟨rfl, rfl⟩) | (go_at_call 149; refine (rtruth_any _ _).mono ?_; rintro e w' ⟨rfl, rfl⟩))
    go_ret2
    exact ⟨rfl, bel _ (bel _ (bel _ (Below.refl _ _)))⟩
  rcases hfb : formedB kb nb sb with _ | _
  · rw [if_pos (.inr (.inr hfb))] at hne
    obtain ⟨rfl, rfl⟩ := Prod.mk.inj hne
    clear hne hk
    go_enter Try.func115, Try.ntmps115
    go_wp2_with (first | (go_at_call 139; refine (rformed_any _ _ _ _).mono ?_; rintro e w' ⟨rfl, rfl⟩) | (go_at_call 141; refine (rorder_any _ _ _ _ _ _ _).mono ?_; rintro e w' ⟨rfl, rfl⟩) | (go_at_call 149; refine (rtruth_any _ _).mono ?_; rintro e w' ⟨rfl, rfl⟩))
    go_ret2
    exact ⟨rfl, bel _ (bel _ (bel _ (bel _ (Below.refl _ _))))⟩
  rw [if_neg (by rw [hk, hfa, hfb]; simp)] at hne
  clear hk
  by_cases ha : ka = 0
  · rw [if_pos (.inl ha)] at hne
    obtain ⟨rfl, rfl⟩ := Prod.mk.inj hne
    subst ha
    clear hne
    go_enter Try.func115, Try.ntmps115
    go_wp2_with (first | (go_at_call 139; refine (rformed_any _ _ _ _).mono ?_; rintro e w' ⟨rfl, rfl⟩) | (go_at_call 141; refine (rorder_any _ _ _ _ _ _ _).mono ?_; rintro e w' ⟨rfl, rfl⟩) | (go_at_call 149; refine (rtruth_any _ _).mono ?_; rintro e w' ⟨rfl, rfl⟩))
    go_ret2
    exact ⟨rfl, bel _ (bel _ (bel _ (bel _ (Below.refl _ _))))⟩
  have ea : (ka == 0) = false := beq_eq_false_iff_ne.2 ha
  by_cases hb : kb = 0
  · rw [if_pos (.inr hb)] at hne
    obtain ⟨rfl, rfl⟩ := Prod.mk.inj hne
    subst hb
    clear hne
    go_enter Try.func115, Try.ntmps115
    go_wp2_with (first | (go_at_call 139; refine (rformed_any _ _ _ _).mono ?_; rintro e w' ⟨rfl, rfl⟩) | (go_at_call 141; refine (rorder_any _ _ _ _ _ _ _).mono ?_; rintro e w' ⟨rfl, rfl⟩) | (go_at_call 149; refine (rtruth_any _ _).mono ?_; rintro e w' ⟨rfl, rfl⟩))
    go_ret2
    exact ⟨rfl, bel _ (bel _ (bel _ (bel _ (Below.refl _ _))))⟩
  have eb : (kb == 0) = false := beq_eq_false_iff_ne.2 hb
  rw [if_neg (by simp [ha, hb])] at hne
  by_cases hab : ka = kb
  · rw [if_pos hab, sg1] at hne
    obtain ⟨rfl, rfl⟩ := Prod.mk.inj hne
    subst hab
    clear hne eb hb
    go_enter Try.func115, Try.ntmps115
    go_wp2_with (first | (go_at_call 139; refine (rformed_any _ _ _ _).mono ?_; rintro e w' ⟨rfl, rfl⟩) | (go_at_call 141; refine (rorder_any _ _ _ _ _ _ _).mono ?_; rintro e w' ⟨rfl, rfl⟩) | (go_at_call 149; refine (rtruth_any _ _).mono ?_; rintro e w' ⟨rfl, rfl⟩))
    go_ret2
    exact ⟨rfl, bel _ (bel _ (bel _ (bel _ (bel _ (bel _ (Below.refl _ _))))))⟩
  · rw [if_neg hab] at hne
    obtain ⟨rfl, rfl⟩ := Prod.mk.inj hne
    have ec : (ka != kb) = true := bne_iff_ne.2 hab
    clear hne
    go_enter Try.func115, Try.ntmps115
    go_wp2_with (first | (go_at_call 139; refine (rformed_any _ _ _ _).mono ?_; rintro e w' ⟨rfl, rfl⟩) | (go_at_call 141; refine (rorder_any _ _ _ _ _ _ _).mono ?_; rintro e w' ⟨rfl, rfl⟩) | (go_at_call 149; refine (rtruth_any _ _).mono ?_; rintro e w' ⟨rfl, rfl⟩))
    go_ret2
    exact ⟨rfl, bel _ (bel _ (bel _ (bel _ (Below.refl _ _))))⟩
set_option maxHeartbeats 2000000 in
theorem rcompare1 (ka na : Int) (sa : ByteArray) (kb nb : Int) (sb : ByteArray) (n e : Int) (hne : cmpF ⟨#[60, 62]⟩ ka na sa kb nb sb = (n, e)) (w : World) :
    Calls Try.prog 115 #[.string ⟨#[60, 62]⟩, .agg #[.int .i64 ka, .int .i64 na, .string sa], .agg #[.int .i64 kb, .int .i64 nb, .string sb]] w
      fun x w' => x = .returned (.tuple #[.int .i64 n, .int .i64 e]) ∧ Below w.heap.size w w' := by
  unfold cmpF at hne
  have hk : knownB ⟨#[60, 62]⟩ = true := by decide +kernel
  rcases hfa : formedB ka na sa with _ | _
  · rw [if_pos (.inr (.inl hfa))] at hne
    obtain ⟨rfl, rfl⟩ := Prod.mk.inj hne
    clear hne hk
    go_enter Try.func115, Try.ntmps115
    go_wp2_with (first | (go_at_call 139; refine (rformed_any _ _ _ _).mono ?_; rintro e w' ⟨rfl, rfl⟩) | (go_at_call 141; refine (rorder_any _ _ _ _ _ _ _).mono ?_; rintro e w' ⟨rfl, rfl⟩) | (go_at_call 149; refine (rtruth_any _ _).mono ?_; rintro e w' ⟨rfl, rfl⟩))
    go_ret2
    exact ⟨rfl, bel _ (bel _ (bel _ (Below.refl _ _)))⟩
  rcases hfb : formedB kb nb sb with _ | _
  · rw [if_pos (.inr (.inr hfb))] at hne
    obtain ⟨rfl, rfl⟩ := Prod.mk.inj hne
    clear hne hk
    go_enter Try.func115, Try.ntmps115
    go_wp2_with (first | (go_at_call 139; refine (rformed_any _ _ _ _).mono ?_; rintro e w' ⟨rfl, rfl⟩) | (go_at_call 141; refine (rorder_any _ _ _ _ _ _ _).mono ?_; rintro e w' ⟨rfl, rfl⟩) | (go_at_call 149; refine (rtruth_any _ _).mono ?_; rintro e w' ⟨rfl, rfl⟩))
    go_ret2
    exact ⟨rfl, bel _ (bel _ (bel _ (bel _ (Below.refl _ _))))⟩
  rw [if_neg (by rw [hk, hfa, hfb]; simp)] at hne
  clear hk
  by_cases ha : ka = 0
  · rw [if_pos (.inl ha)] at hne
    obtain ⟨rfl, rfl⟩ := Prod.mk.inj hne
    subst ha
    clear hne
    go_enter Try.func115, Try.ntmps115
    go_wp2_with (first | (go_at_call 139; refine (rformed_any _ _ _ _).mono ?_; rintro e w' ⟨rfl, rfl⟩) | (go_at_call 141; refine (rorder_any _ _ _ _ _ _ _).mono ?_; rintro e w' ⟨rfl, rfl⟩) | (go_at_call 149; refine (rtruth_any _ _).mono ?_; rintro e w' ⟨rfl, rfl⟩))
    go_ret2
    exact ⟨rfl, bel _ (bel _ (bel _ (bel _ (Below.refl _ _))))⟩
  have ea : (ka == 0) = false := beq_eq_false_iff_ne.2 ha
  by_cases hb : kb = 0
  · rw [if_pos (.inr hb)] at hne
    obtain ⟨rfl, rfl⟩ := Prod.mk.inj hne
    subst hb
    clear hne
    go_enter Try.func115, Try.ntmps115
    go_wp2_with (first | (go_at_call 139; refine (rformed_any _ _ _ _).mono ?_; rintro e w' ⟨rfl, rfl⟩) | (go_at_call 141; refine (rorder_any _ _ _ _ _ _ _).mono ?_; rintro e w' ⟨rfl, rfl⟩) | (go_at_call 149; refine (rtruth_any _ _).mono ?_; rintro e w' ⟨rfl, rfl⟩))
    go_ret2
    exact ⟨rfl, bel _ (bel _ (bel _ (bel _ (Below.refl _ _))))⟩
  have eb : (kb == 0) = false := beq_eq_false_iff_ne.2 hb
  rw [if_neg (by simp [ha, hb])] at hne
  by_cases hab : ka = kb
  · rw [if_pos hab, sg2] at hne
    obtain ⟨rfl, rfl⟩ := Prod.mk.inj hne
    subst hab
    clear hne eb hb
    go_enter Try.func115, Try.ntmps115
    go_wp2_with (first | (go_at_call 139; refine (rformed_any _ _ _ _).mono ?_; rintro e w' ⟨rfl, rfl⟩) | (go_at_call 141; refine (rorder_any _ _ _ _ _ _ _).mono ?_; rintro e w' ⟨rfl, rfl⟩) | (go_at_call 149; refine (rtruth_any _ _).mono ?_; rintro e w' ⟨rfl, rfl⟩))
    go_ret2
    exact ⟨rfl, bel _ (bel _ (bel _ (bel _ (bel _ (bel _ (Below.refl _ _))))))⟩
  · rw [if_neg hab] at hne
    obtain ⟨rfl, rfl⟩ := Prod.mk.inj hne
    have ec : (ka != kb) = true := bne_iff_ne.2 hab
    clear hne
    go_enter Try.func115, Try.ntmps115
    go_wp2_with (first | (go_at_call 139; refine (rformed_any _ _ _ _).mono ?_; rintro e w' ⟨rfl, rfl⟩) | (go_at_call 141; refine (rorder_any _ _ _ _ _ _ _).mono ?_; rintro e w' ⟨rfl, rfl⟩) | (go_at_call 149; refine (rtruth_any _ _).mono ?_; rintro e w' ⟨rfl, rfl⟩))
    go_ret2
    exact ⟨rfl, bel _ (bel _ (bel _ (bel _ (Below.refl _ _))))⟩
set_option maxHeartbeats 2000000 in
theorem rcompare2 (ka na : Int) (sa : ByteArray) (kb nb : Int) (sb : ByteArray) (n e : Int) (hne : cmpF ⟨#[60]⟩ ka na sa kb nb sb = (n, e)) (w : World) :
    Calls Try.prog 115 #[.string ⟨#[60]⟩, .agg #[.int .i64 ka, .int .i64 na, .string sa], .agg #[.int .i64 kb, .int .i64 nb, .string sb]] w
      fun x w' => x = .returned (.tuple #[.int .i64 n, .int .i64 e]) ∧ Below w.heap.size w w' := by
  unfold cmpF at hne
  have hk : knownB ⟨#[60]⟩ = true := by decide +kernel
  rcases hfa : formedB ka na sa with _ | _
  · rw [if_pos (.inr (.inl hfa))] at hne
    obtain ⟨rfl, rfl⟩ := Prod.mk.inj hne
    clear hne hk
    go_enter Try.func115, Try.ntmps115
    go_wp2_with (first | (go_at_call 139; refine (rformed_any _ _ _ _).mono ?_; rintro e w' ⟨rfl, rfl⟩) | (go_at_call 141; refine (rorder_any _ _ _ _ _ _ _).mono ?_; rintro e w' ⟨rfl, rfl⟩) | (go_at_call 149; refine (rtruth_any _ _).mono ?_; rintro e w' ⟨rfl, rfl⟩))
    go_ret2
    exact ⟨rfl, bel _ (bel _ (bel _ (Below.refl _ _)))⟩
  rcases hfb : formedB kb nb sb with _ | _
  · rw [if_pos (.inr (.inr hfb))] at hne
    obtain ⟨rfl, rfl⟩ := Prod.mk.inj hne
    clear hne hk
    go_enter Try.func115, Try.ntmps115
    go_wp2_with (first | (go_at_call 139; refine (rformed_any _ _ _ _).mono ?_; rintro e w' ⟨rfl, rfl⟩) | (go_at_call 141; refine (rorder_any _ _ _ _ _ _ _).mono ?_; rintro e w' ⟨rfl, rfl⟩) | (go_at_call 149; refine (rtruth_any _ _).mono ?_; rintro e w' ⟨rfl, rfl⟩))
    go_ret2
    exact ⟨rfl, bel _ (bel _ (bel _ (bel _ (Below.refl _ _))))⟩
  rw [if_neg (by rw [hk, hfa, hfb]; simp)] at hne
  clear hk
  by_cases ha : ka = 0
  · rw [if_pos (.inl ha)] at hne
    obtain ⟨rfl, rfl⟩ := Prod.mk.inj hne
    subst ha
    clear hne
    go_enter Try.func115, Try.ntmps115
    go_wp2_with (first | (go_at_call 139; refine (rformed_any _ _ _ _).mono ?_; rintro e w' ⟨rfl, rfl⟩) | (go_at_call 141; refine (rorder_any _ _ _ _ _ _ _).mono ?_; rintro e w' ⟨rfl, rfl⟩) | (go_at_call 149; refine (rtruth_any _ _).mono ?_; rintro e w' ⟨rfl, rfl⟩))
    go_ret2
    exact ⟨rfl, bel _ (bel _ (bel _ (bel _ (Below.refl _ _))))⟩
  have ea : (ka == 0) = false := beq_eq_false_iff_ne.2 ha
  by_cases hb : kb = 0
  · rw [if_pos (.inr hb)] at hne
    obtain ⟨rfl, rfl⟩ := Prod.mk.inj hne
    subst hb
    clear hne
    go_enter Try.func115, Try.ntmps115
    go_wp2_with (first | (go_at_call 139; refine (rformed_any _ _ _ _).mono ?_; rintro e w' ⟨rfl, rfl⟩) | (go_at_call 141; refine (rorder_any _ _ _ _ _ _ _).mono ?_; rintro e w' ⟨rfl, rfl⟩) | (go_at_call 149; refine (rtruth_any _ _).mono ?_; rintro e w' ⟨rfl, rfl⟩))
    go_ret2
    exact ⟨rfl, bel _ (bel _ (bel _ (bel _ (Below.refl _ _))))⟩
  have eb : (kb == 0) = false := beq_eq_false_iff_ne.2 hb
  rw [if_neg (by simp [ha, hb])] at hne
  by_cases hab : ka = kb
  · rw [if_pos hab, sg3] at hne
    obtain ⟨rfl, rfl⟩ := Prod.mk.inj hne
    subst hab
    clear hne eb hb
    go_enter Try.func115, Try.ntmps115
    go_wp2_with (first | (go_at_call 139; refine (rformed_any _ _ _ _).mono ?_; rintro e w' ⟨rfl, rfl⟩) | (go_at_call 141; refine (rorder_any _ _ _ _ _ _ _).mono ?_; rintro e w' ⟨rfl, rfl⟩) | (go_at_call 149; refine (rtruth_any _ _).mono ?_; rintro e w' ⟨rfl, rfl⟩))
    go_ret2
    exact ⟨rfl, bel _ (bel _ (bel _ (bel _ (bel _ (bel _ (Below.refl _ _))))))⟩
  · rw [if_neg hab] at hne
    obtain ⟨rfl, rfl⟩ := Prod.mk.inj hne
    have ec : (ka != kb) = true := bne_iff_ne.2 hab
    clear hne
    go_enter Try.func115, Try.ntmps115
    go_wp2_with (first | (go_at_call 139; refine (rformed_any _ _ _ _).mono ?_; rintro e w' ⟨rfl, rfl⟩) | (go_at_call 141; refine (rorder_any _ _ _ _ _ _ _).mono ?_; rintro e w' ⟨rfl, rfl⟩) | (go_at_call 149; refine (rtruth_any _ _).mono ?_; rintro e w' ⟨rfl, rfl⟩))
    go_ret2
    exact ⟨rfl, bel _ (bel _ (bel _ (bel _ (Below.refl _ _))))⟩
set_option maxHeartbeats 2000000 in
theorem rcompare3 (ka na : Int) (sa : ByteArray) (kb nb : Int) (sb : ByteArray) (n e : Int) (hne : cmpF ⟨#[60, 61]⟩ ka na sa kb nb sb = (n, e)) (w : World) :
    Calls Try.prog 115 #[.string ⟨#[60, 61]⟩, .agg #[.int .i64 ka, .int .i64 na, .string sa], .agg #[.int .i64 kb, .int .i64 nb, .string sb]] w
      fun x w' => x = .returned (.tuple #[.int .i64 n, .int .i64 e]) ∧ Below w.heap.size w w' := by
  unfold cmpF at hne
  have hk : knownB ⟨#[60, 61]⟩ = true := by decide +kernel
  rcases hfa : formedB ka na sa with _ | _
  · rw [if_pos (.inr (.inl hfa))] at hne
    obtain ⟨rfl, rfl⟩ := Prod.mk.inj hne
    clear hne hk
    go_enter Try.func115, Try.ntmps115
    go_wp2_with (first | (go_at_call 139; refine (rformed_any _ _ _ _).mono ?_; rintro e w' ⟨rfl, rfl⟩) | (go_at_call 141; refine (rorder_any _ _ _ _ _ _ _).mono ?_; rintro e w' ⟨rfl, rfl⟩) | (go_at_call 149; refine (rtruth_any _ _).mono ?_; rintro e w' ⟨rfl, rfl⟩))
    go_ret2
    exact ⟨rfl, bel _ (bel _ (bel _ (Below.refl _ _)))⟩
  rcases hfb : formedB kb nb sb with _ | _
  · rw [if_pos (.inr (.inr hfb))] at hne
    obtain ⟨rfl, rfl⟩ := Prod.mk.inj hne
    clear hne hk
    go_enter Try.func115, Try.ntmps115
    go_wp2_with (first | (go_at_call 139; refine (rformed_any _ _ _ _).mono ?_; rintro e w' ⟨rfl, rfl⟩) | (go_at_call 141; refine (rorder_any _ _ _ _ _ _ _).mono ?_; rintro e w' ⟨rfl, rfl⟩) | (go_at_call 149; refine (rtruth_any _ _).mono ?_; rintro e w' ⟨rfl, rfl⟩))
    go_ret2
    exact ⟨rfl, bel _ (bel _ (bel _ (bel _ (Below.refl _ _))))⟩
  rw [if_neg (by rw [hk, hfa, hfb]; simp)] at hne
  clear hk
  by_cases ha : ka = 0
  · rw [if_pos (.inl ha)] at hne
    obtain ⟨rfl, rfl⟩ := Prod.mk.inj hne
    subst ha
    clear hne
    go_enter Try.func115, Try.ntmps115
    go_wp2_with (first | (go_at_call 139; refine (rformed_any _ _ _ _).mono ?_; rintro e w' ⟨rfl, rfl⟩) | (go_at_call 141; refine (rorder_any _ _ _ _ _ _ _).mono ?_; rintro e w' ⟨rfl, rfl⟩) | (go_at_call 149; refine (rtruth_any _ _).mono ?_; rintro e w' ⟨rfl, rfl⟩))
    go_ret2
    exact ⟨rfl, bel _ (bel _ (bel _ (bel _ (Below.refl _ _))))⟩
  have ea : (ka == 0) = false := beq_eq_false_iff_ne.2 ha
  by_cases hb : kb = 0
  · rw [if_pos (.inr hb)] at hne
    obtain ⟨rfl, rfl⟩ := Prod.mk.inj hne
    subst hb
    clear hne
    go_enter Try.func115, Try.ntmps115
    go_wp2_with (first | (go_at_call 139; refine (rformed_any _ _ _ _).mono ?_; rintro e w' ⟨rfl, rfl⟩) | (go_at_call 141; refine (rorder_any _ _ _ _ _ _ _).mono ?_; rintro e w' ⟨rfl, rfl⟩) | (go_at_call 149; refine (rtruth_any _ _).mono ?_; rintro e w' ⟨rfl, rfl⟩))
    go_ret2
    exact ⟨rfl, bel _ (bel _ (bel _ (bel _ (Below.refl _ _))))⟩
  have eb : (kb == 0) = false := beq_eq_false_iff_ne.2 hb
  rw [if_neg (by simp [ha, hb])] at hne
  by_cases hab : ka = kb
  · rw [if_pos hab, sg4] at hne
    obtain ⟨rfl, rfl⟩ := Prod.mk.inj hne
    subst hab
    clear hne eb hb
    go_enter Try.func115, Try.ntmps115
    go_wp2_with (first | (go_at_call 139; refine (rformed_any _ _ _ _).mono ?_; rintro e w' ⟨rfl, rfl⟩) | (go_at_call 141; refine (rorder_any _ _ _ _ _ _ _).mono ?_; rintro e w' ⟨rfl, rfl⟩) | (go_at_call 149; refine (rtruth_any _ _).mono ?_; rintro e w' ⟨rfl, rfl⟩))
    go_ret2
    exact ⟨rfl, bel _ (bel _ (bel _ (bel _ (bel _ (bel _ (Below.refl _ _))))))⟩
  · rw [if_neg hab] at hne
    obtain ⟨rfl, rfl⟩ := Prod.mk.inj hne
    have ec : (ka != kb) = true := bne_iff_ne.2 hab
    clear hne
    go_enter Try.func115, Try.ntmps115
    go_wp2_with (first | (go_at_call 139; refine (rformed_any _ _ _ _).mono ?_; rintro e w' ⟨rfl, rfl⟩) | (go_at_call 141; refine (rorder_any _ _ _ _ _ _ _).mono ?_; rintro e w' ⟨rfl, rfl⟩) | (go_at_call 149; refine (rtruth_any _ _).mono ?_; rintro e w' ⟨rfl, rfl⟩))
    go_ret2
    exact ⟨rfl, bel _ (bel _ (bel _ (bel _ (Below.refl _ _))))⟩
set_option maxHeartbeats 2000000 in
theorem rcompare4 (ka na : Int) (sa : ByteArray) (kb nb : Int) (sb : ByteArray) (n e : Int) (hne : cmpF ⟨#[62]⟩ ka na sa kb nb sb = (n, e)) (w : World) :
    Calls Try.prog 115 #[.string ⟨#[62]⟩, .agg #[.int .i64 ka, .int .i64 na, .string sa], .agg #[.int .i64 kb, .int .i64 nb, .string sb]] w
      fun x w' => x = .returned (.tuple #[.int .i64 n, .int .i64 e]) ∧ Below w.heap.size w w' := by
  unfold cmpF at hne
  have hk : knownB ⟨#[62]⟩ = true := by decide +kernel
  rcases hfa : formedB ka na sa with _ | _
  · rw [if_pos (.inr (.inl hfa))] at hne
    obtain ⟨rfl, rfl⟩ := Prod.mk.inj hne
    clear hne hk
    go_enter Try.func115, Try.ntmps115
    go_wp2_with (first | (go_at_call 139; refine (rformed_any _ _ _ _).mono ?_; rintro e w' ⟨rfl, rfl⟩) | (go_at_call 141; refine (rorder_any _ _ _ _ _ _ _).mono ?_; rintro e w' ⟨rfl, rfl⟩) | (go_at_call 149; refine (rtruth_any _ _).mono ?_; rintro e w' ⟨rfl, rfl⟩))
    go_ret2
    exact ⟨rfl, bel _ (bel _ (bel _ (Below.refl _ _)))⟩
  rcases hfb : formedB kb nb sb with _ | _
  · rw [if_pos (.inr (.inr hfb))] at hne
    obtain ⟨rfl, rfl⟩ := Prod.mk.inj hne
    clear hne hk
    go_enter Try.func115, Try.ntmps115
    go_wp2_with (first | (go_at_call 139; refine (rformed_any _ _ _ _).mono ?_; rintro e w' ⟨rfl, rfl⟩) | (go_at_call 141; refine (rorder_any _ _ _ _ _ _ _).mono ?_; rintro e w' ⟨rfl, rfl⟩) | (go_at_call 149; refine (rtruth_any _ _).mono ?_; rintro e w' ⟨rfl, rfl⟩))
    go_ret2
    exact ⟨rfl, bel _ (bel _ (bel _ (bel _ (Below.refl _ _))))⟩
  rw [if_neg (by rw [hk, hfa, hfb]; simp)] at hne
  clear hk
  by_cases ha : ka = 0
  · rw [if_pos (.inl ha)] at hne
    obtain ⟨rfl, rfl⟩ := Prod.mk.inj hne
    subst ha
    clear hne
    go_enter Try.func115, Try.ntmps115
    go_wp2_with (first | (go_at_call 139; refine (rformed_any _ _ _ _).mono ?_; rintro e w' ⟨rfl, rfl⟩) | (go_at_call 141; refine (rorder_any _ _ _ _ _ _ _).mono ?_; rintro e w' ⟨rfl, rfl⟩) | (go_at_call 149; refine (rtruth_any _ _).mono ?_; rintro e w' ⟨rfl, rfl⟩))
    go_ret2
    exact ⟨rfl, bel _ (bel _ (bel _ (bel _ (Below.refl _ _))))⟩
  have ea : (ka == 0) = false := beq_eq_false_iff_ne.2 ha
  by_cases hb : kb = 0
  · rw [if_pos (.inr hb)] at hne
    obtain ⟨rfl, rfl⟩ := Prod.mk.inj hne
    subst hb
    clear hne
    go_enter Try.func115, Try.ntmps115
    go_wp2_with (first | (go_at_call 139; refine (rformed_any _ _ _ _).mono ?_; rintro e w' ⟨rfl, rfl⟩) | (go_at_call 141; refine (rorder_any _ _ _ _ _ _ _).mono ?_; rintro e w' ⟨rfl, rfl⟩) | (go_at_call 149; refine (rtruth_any _ _).mono ?_; rintro e w' ⟨rfl, rfl⟩))
    go_ret2
    exact ⟨rfl, bel _ (bel _ (bel _ (bel _ (Below.refl _ _))))⟩
  have eb : (kb == 0) = false := beq_eq_false_iff_ne.2 hb
  rw [if_neg (by simp [ha, hb])] at hne
  by_cases hab : ka = kb
  · rw [if_pos hab, sg5] at hne
    obtain ⟨rfl, rfl⟩ := Prod.mk.inj hne
    subst hab
    clear hne eb hb
    go_enter Try.func115, Try.ntmps115
    go_wp2_with (first | (go_at_call 139; refine (rformed_any _ _ _ _).mono ?_; rintro e w' ⟨rfl, rfl⟩) | (go_at_call 141; refine (rorder_any _ _ _ _ _ _ _).mono ?_; rintro e w' ⟨rfl, rfl⟩) | (go_at_call 149; refine (rtruth_any _ _).mono ?_; rintro e w' ⟨rfl, rfl⟩))
    go_ret2
    exact ⟨rfl, bel _ (bel _ (bel _ (bel _ (bel _ (bel _ (Below.refl _ _))))))⟩
  · rw [if_neg hab] at hne
    obtain ⟨rfl, rfl⟩ := Prod.mk.inj hne
    have ec : (ka != kb) = true := bne_iff_ne.2 hab
    clear hne
    go_enter Try.func115, Try.ntmps115
    go_wp2_with (first | (go_at_call 139; refine (rformed_any _ _ _ _).mono ?_; rintro e w' ⟨rfl, rfl⟩) | (go_at_call 141; refine (rorder_any _ _ _ _ _ _ _).mono ?_; rintro e w' ⟨rfl, rfl⟩) | (go_at_call 149; refine (rtruth_any _ _).mono ?_; rintro e w' ⟨rfl, rfl⟩))
    go_ret2
    exact ⟨rfl, bel _ (bel _ (bel _ (bel _ (Below.refl _ _))))⟩
set_option maxHeartbeats 2000000 in
theorem rcompare5 (ka na : Int) (sa : ByteArray) (kb nb : Int) (sb : ByteArray) (n e : Int) (hne : cmpF ⟨#[62, 61]⟩ ka na sa kb nb sb = (n, e)) (w : World) :
    Calls Try.prog 115 #[.string ⟨#[62, 61]⟩, .agg #[.int .i64 ka, .int .i64 na, .string sa], .agg #[.int .i64 kb, .int .i64 nb, .string sb]] w
      fun x w' => x = .returned (.tuple #[.int .i64 n, .int .i64 e]) ∧ Below w.heap.size w w' := by
  unfold cmpF at hne
  have hk : knownB ⟨#[62, 61]⟩ = true := by decide +kernel
  rcases hfa : formedB ka na sa with _ | _
  · rw [if_pos (.inr (.inl hfa))] at hne
    obtain ⟨rfl, rfl⟩ := Prod.mk.inj hne
    clear hne hk
    go_enter Try.func115, Try.ntmps115
    go_wp2_with (first | (go_at_call 139; refine (rformed_any _ _ _ _).mono ?_; rintro e w' ⟨rfl, rfl⟩) | (go_at_call 141; refine (rorder_any _ _ _ _ _ _ _).mono ?_; rintro e w' ⟨rfl, rfl⟩) | (go_at_call 149; refine (rtruth_any _ _).mono ?_; rintro e w' ⟨rfl, rfl⟩))
    go_ret2
    exact ⟨rfl, bel _ (bel _ (bel _ (Below.refl _ _)))⟩
  rcases hfb : formedB kb nb sb with _ | _
  · rw [if_pos (.inr (.inr hfb))] at hne
    obtain ⟨rfl, rfl⟩ := Prod.mk.inj hne
    clear hne hk
    go_enter Try.func115, Try.ntmps115
    go_wp2_with (first | (go_at_call 139; refine (rformed_any _ _ _ _).mono ?_; rintro e w' ⟨rfl, rfl⟩) | (go_at_call 141; refine (rorder_any _ _ _ _ _ _ _).mono ?_; rintro e w' ⟨rfl, rfl⟩) | (go_at_call 149; refine (rtruth_any _ _).mono ?_; rintro e w' ⟨rfl, rfl⟩))
    go_ret2
    exact ⟨rfl, bel _ (bel _ (bel _ (bel _ (Below.refl _ _))))⟩
  rw [if_neg (by rw [hk, hfa, hfb]; simp)] at hne
  clear hk
  by_cases ha : ka = 0
  · rw [if_pos (.inl ha)] at hne
    obtain ⟨rfl, rfl⟩ := Prod.mk.inj hne
    subst ha
    clear hne
    go_enter Try.func115, Try.ntmps115
    go_wp2_with (first | (go_at_call 139; refine (rformed_any _ _ _ _).mono ?_; rintro e w' ⟨rfl, rfl⟩) | (go_at_call 141; refine (rorder_any _ _ _ _ _ _ _).mono ?_; rintro e w' ⟨rfl, rfl⟩) | (go_at_call 149; refine (rtruth_any _ _).mono ?_; rintro e w' ⟨rfl, rfl⟩))
    go_ret2
    exact ⟨rfl, bel _ (bel _ (bel _ (bel _ (Below.refl _ _))))⟩
  have ea : (ka == 0) = false := beq_eq_false_iff_ne.2 ha
  by_cases hb : kb = 0
  · rw [if_pos (.inr hb)] at hne
    obtain ⟨rfl, rfl⟩ := Prod.mk.inj hne
    subst hb
    clear hne
    go_enter Try.func115, Try.ntmps115
    go_wp2_with (first | (go_at_call 139; refine (rformed_any _ _ _ _).mono ?_; rintro e w' ⟨rfl, rfl⟩) | (go_at_call 141; refine (rorder_any _ _ _ _ _ _ _).mono ?_; rintro e w' ⟨rfl, rfl⟩) | (go_at_call 149; refine (rtruth_any _ _).mono ?_; rintro e w' ⟨rfl, rfl⟩))
    go_ret2
    exact ⟨rfl, bel _ (bel _ (bel _ (bel _ (Below.refl _ _))))⟩
  have eb : (kb == 0) = false := beq_eq_false_iff_ne.2 hb
  rw [if_neg (by simp [ha, hb])] at hne
  by_cases hab : ka = kb
  · rw [if_pos hab, sg6] at hne
    obtain ⟨rfl, rfl⟩ := Prod.mk.inj hne
    subst hab
    clear hne eb hb
    go_enter Try.func115, Try.ntmps115
    go_wp2_with (first | (go_at_call 139; refine (rformed_any _ _ _ _).mono ?_; rintro e w' ⟨rfl, rfl⟩) | (go_at_call 141; refine (rorder_any _ _ _ _ _ _ _).mono ?_; rintro e w' ⟨rfl, rfl⟩) | (go_at_call 149; refine (rtruth_any _ _).mono ?_; rintro e w' ⟨rfl, rfl⟩))
    go_ret2
    exact ⟨rfl, bel _ (bel _ (bel _ (bel _ (bel _ (bel _ (Below.refl _ _))))))⟩
  · rw [if_neg hab] at hne
    obtain ⟨rfl, rfl⟩ := Prod.mk.inj hne
    have ec : (ka != kb) = true := bne_iff_ne.2 hab
    clear hne
    go_enter Try.func115, Try.ntmps115
    go_wp2_with (first | (go_at_call 139; refine (rformed_any _ _ _ _).mono ?_; rintro e w' ⟨rfl, rfl⟩) | (go_at_call 141; refine (rorder_any _ _ _ _ _ _ _).mono ?_; rintro e w' ⟨rfl, rfl⟩) | (go_at_call 149; refine (rtruth_any _ _).mono ?_; rintro e w' ⟨rfl, rfl⟩))
    go_ret2
    exact ⟨rfl, bel _ (bel _ (bel _ (bel _ (Below.refl _ _))))⟩
set_option maxHeartbeats 2000000 in
theorem rcompare_any (op : ByteArray) (ka na : Int) (sa : ByteArray) (kb nb : Int) (sb : ByteArray) (n e : Int) (hne : cmpF op ka na sa kb nb sb = (n, e)) (w : World) :
    Calls Try.prog 115 #[.string op, .agg #[.int .i64 ka, .int .i64 na, .string sa], .agg #[.int .i64 kb, .int .i64 nb, .string sb]] w
      fun x w' => x = .returned (.tuple #[.int .i64 n, .int .i64 e]) ∧ Below w.heap.size w w' := by
  rcases cop_cases op with (rfl | rfl | rfl | rfl | rfl | rfl) | ⟨h1, h2, h3, h4, h5, h6⟩
  · exact rcompare0 _ _ _ _ _ _ _ _ hne w
  · exact rcompare1 _ _ _ _ _ _ _ _ hne w
  · exact rcompare2 _ _ _ _ _ _ _ _ hne w
  · exact rcompare3 _ _ _ _ _ _ _ _ hne w
  · exact rcompare4 _ _ _ _ _ _ _ _ hne w
  · exact rcompare5 _ _ _ _ _ _ _ _ hne w
  · unfold cmpF at hne
    have hk : knownB op = false := by unfold knownB; rw [h1, h2, h3, h4, h5, h6]; rfl
    rw [if_pos (.inl hk)] at hne
    obtain ⟨rfl, rfl⟩ := Prod.mk.inj hne
    clear hne hk
    go_enter Try.func115, Try.ntmps115
    go_wp2
    go_ret2
    exact ⟨rfl, bel _ (bel _ (Below.refl _ _))⟩
end Go.Proofs.Ytafhgilikcablaa
