/- Both shapes are one. -/
import Derived.Test.YtafhgilikcablaaEtShA
import Derived.Test.YtafhgilikcablaaEtSpA
import Derived.Test.YtafhgilikcablaaEtFd
namespace Go.Proofs.Ytafhgilikcablaa
open Go.RowKit
set_option linter.unusedVariables false
set_option linter.unusedSimpArgs false
theorem inB_is (s : ByteArray) : ∀ l : List ByteArray, inB s l = l.any (fun x => decide (s.toList = x.toList))
  | [] => rfl
  | x :: l => by
    show (if (x.toList == s.toList) = true then true else inB s l) = _
    rw [inB_is s l, List.any_cons]
    by_cases h : s.toList = x.toList
    · simp [h]
    · have h' : ¬ x.toList = s.toList := fun e => h e.symm
      simp [h, h']
set_option maxHeartbeats 3200000 in
theorem shP_is (nm : ByteArray → Bool) (fm : Int → Int → ByteArray → Bool) (e : ET) : shP nm fm e = shD nm fm e := by
  have t1 : (⟨#[78, 79, 84]⟩ : ByteArray).toList = [78, 79, 84] := by decide +kernel
  have t2 : (⟨#[45]⟩ : ByteArray).toList = [45] := by decide +kernel
  have t3 : (⟨#[79, 82]⟩ : ByteArray).toList = [79, 82] := by decide +kernel
  have t4 : (⟨#[65, 78, 68]⟩ : ByteArray).toList = [65, 78, 68] := by decide +kernel
  have t5 : (⟨#[61]⟩ : ByteArray).toList = [61] := by decide +kernel
  have t6 : (⟨#[60, 62]⟩ : ByteArray).toList = [60, 62] := by decide +kernel
  have t7 : (⟨#[60]⟩ : ByteArray).toList = [60] := by decide +kernel
  have t8 : (⟨#[60, 61]⟩ : ByteArray).toList = [60, 61] := by decide +kernel
  have t9 : (⟨#[62]⟩ : ByteArray).toList = [62] := by decide +kernel
  have ta : (⟨#[62, 61]⟩ : ByteArray).toList = [62, 61] := by decide +kernel
  have tb : (⟨#[43]⟩ : ByteArray).toList = [43] := by decide +kernel
  have tc : (⟨#[42]⟩ : ByteArray).toList = [42] := by decide +kernel
  have td : (⟨#[73, 83, 32, 78, 85, 76, 76]⟩ : ByteArray).toList = [73, 83, 32, 78, 85, 76, 76] := by decide +kernel
  have te : (⟨#[73, 83, 32, 78, 79, 84, 32, 78, 85, 76, 76]⟩ : ByteArray).toList = [73, 83, 32, 78, 79, 84, 32, 78, 85, 76, 76] := by decide +kernel
  have tf : (⟨#[67, 79, 85, 78, 84]⟩ : ByteArray).toList = [67, 79, 85, 78, 84] := by decide +kernel
  have tg : (⟨#[83, 85, 77]⟩ : ByteArray).toList = [83, 85, 77] := by decide +kernel
  have th : (⟨#[77, 73, 78]⟩ : ByteArray).toList = [77, 73, 78] := by decide +kernel
  have ti : (⟨#[77, 65, 88]⟩ : ByteArray).toList = [77, 65, 88] := by decide +kernel
  unfold shP shD
  simp only [inB_is, List.any_cons, List.any_nil, t1, t2, t3, t4, t5, t6, t7, t8, t9, ta, tb, tc, td, te, tf, tg, th, ti]
  have hl : decide (levelB e.op ≠ 0) = (decide (e.op.toList = [79, 82]) || (decide (e.op.toList = [65, 78, 68]) || (decide (e.op.toList = [61]) || (decide (e.op.toList = [60, 62]) || (decide (e.op.toList = [60]) || (decide (e.op.toList = [60, 61]) || (decide (e.op.toList = [62]) || (decide (e.op.toList = [62, 61]) || (decide (e.op.toList = [43]) || (decide (e.op.toList = [45]) || (decide (e.op.toList = [42]) || false))))))))))) := by
    unfold levelB
    simp only [beq_iff_eq]
    repeat' split
    all_goals simp [*]
  have ha : aggrB e.op = (decide (e.op.toList = [67, 79, 85, 78, 84]) || (decide (e.op.toList = [83, 85, 77]) || (decide (e.op.toList = [77, 73, 78]) || (decide (e.op.toList = [77, 65, 88]) || false)))) := by
    unfold aggrB
    simp only [beq_iff_eq]
    repeat' split
    all_goals simp [*]
  rw [hl, ha]
  by_cases hc : e.op.toList = [67, 79, 85, 78, 84]
  all_goals
    repeat' split
    all_goals
      first | rfl | (rw [Bool.eq_iff_iff]; simp only [Bool.and_eq_true, Bool.or_eq_true, decide_eq_true_eq, hc] <;> grind)
end Go.Proofs.Ytafhgilikcablaa
