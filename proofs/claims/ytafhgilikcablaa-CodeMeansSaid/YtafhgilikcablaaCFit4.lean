/- Contract of code's fits: every instruction. -/
import Derived.Test.YtafhgilikcablaaCFit0
import Derived.Test.YtafhgilikcablaaCFit2
namespace Go.Proofs.Ytafhgilikcablaa
open Go.RowKit
set_option linter.unusedVariables false
set_option linter.unusedSimpArgs false
set_option maxRecDepth 100000

theorem op_of_list {op : ByteArray} {l : List UInt8} (h : (op.toList == l) = true) : op = ⟨l.toArray⟩ := by
  have := eq_of_beq h
  rw [ByteArray.toList_eq] at this
  apply ByteArray.ext
  rw [← this]

theorem op_cases (op : ByteArray) : op = ⟨#[99, 111, 110, 115, 116]⟩ ∨ op = ⟨#[99, 111, 108]⟩ ∨ op = ⟨#[110, 101, 103]⟩ ∨ op = ⟨#[110, 117, 108, 108]⟩ ∨ op = ⟨#[115, 111, 109, 101]⟩ ∨ op = ⟨#[110, 111, 116]⟩ ∨ op = ⟨#[99, 111, 112, 121]⟩ ∨ op = ⟨#[43]⟩ ∨ op = ⟨#[45]⟩ ∨ op = ⟨#[42]⟩ ∨ op = ⟨#[61]⟩ ∨ op = ⟨#[60, 62]⟩ ∨ op = ⟨#[60]⟩ ∨ op = ⟨#[60, 61]⟩ ∨ op = ⟨#[62]⟩ ∨ op = ⟨#[62, 61]⟩ ∨ op = ⟨#[97, 110, 100]⟩ ∨ op = ⟨#[111, 114]⟩ ∨ op = ⟨#[102, 97, 108, 115, 101]⟩ ∨ op = ⟨#[116, 114, 117, 101]⟩ ∨ ((op.toList == [99, 111, 110, 115, 116]) = false ∧ (op.toList == [99, 111, 108]) = false ∧ (op.toList == [110, 101, 103]) = false ∧ (op.toList == [110, 117, 108, 108]) = false ∧ (op.toList == [115, 111, 109, 101]) = false ∧ (op.toList == [110, 111, 116]) = false ∧ (op.toList == [99, 111, 112, 121]) = false ∧ (op.toList == [43]) = false ∧ (op.toList == [45]) = false ∧ (op.toList == [42]) = false ∧ (op.toList == [61]) = false ∧ (op.toList == [60, 62]) = false ∧ (op.toList == [60]) = false ∧ (op.toList == [60, 61]) = false ∧ (op.toList == [62]) = false ∧ (op.toList == [62, 61]) = false ∧ (op.toList == [97, 110, 100]) = false ∧ (op.toList == [111, 114]) = false ∧ (op.toList == [102, 97, 108, 115, 101]) = false ∧ (op.toList == [116, 114, 117, 101]) = false) := by
  by_cases h0 : (op.toList == [99, 111, 110, 115, 116]) = true
  · exact (.inl (op_of_list h0))
  have h0 := Bool.eq_false_iff.2 h0
  by_cases h1 : (op.toList == [99, 111, 108]) = true
  · exact (.inr (.inl (op_of_list h1)))
  have h1 := Bool.eq_false_iff.2 h1
  by_cases h2 : (op.toList == [110, 101, 103]) = true
  · exact (.inr (.inr (.inl (op_of_list h2))))
  have h2 := Bool.eq_false_iff.2 h2
  by_cases h3 : (op.toList == [110, 117, 108, 108]) = true
  · exact (.inr (.inr (.inr (.inl (op_of_list h3)))))
  have h3 := Bool.eq_false_iff.2 h3
  by_cases h4 : (op.toList == [115, 111, 109, 101]) = true
  · exact (.inr (.inr (.inr (.inr (.inl (op_of_list h4))))))
  have h4 := Bool.eq_false_iff.2 h4
  by_cases h5 : (op.toList == [110, 111, 116]) = true
  · exact (.inr (.inr (.inr (.inr (.inr (.inl (op_of_list h5)))))))
  have h5 := Bool.eq_false_iff.2 h5
  by_cases h6 : (op.toList == [99, 111, 112, 121]) = true
  · exact (.inr (.inr (.inr (.inr (.inr (.inr (.inl (op_of_list h6))))))))
  have h6 := Bool.eq_false_iff.2 h6
  by_cases h7 : (op.toList == [43]) = true
  · exact (.inr (.inr (.inr (.inr (.inr (.inr (.inr (.inl (op_of_list h7)))))))))
  have h7 := Bool.eq_false_iff.2 h7
  by_cases h8 : (op.toList == [45]) = true
  · exact (.inr (.inr (.inr (.inr (.inr (.inr (.inr (.inr (.inl (op_of_list h8))))))))))
  have h8 := Bool.eq_false_iff.2 h8
  by_cases h9 : (op.toList == [42]) = true
  · exact (.inr (.inr (.inr (.inr (.inr (.inr (.inr (.inr (.inr (.inl (op_of_list h9)))))))))))
  have h9 := Bool.eq_false_iff.2 h9
  by_cases h10 : (op.toList == [61]) = true
  · exact (.inr (.inr (.inr (.inr (.inr (.inr (.inr (.inr (.inr (.inr (.inl (op_of_list h10))))))))))))
  have h10 := Bool.eq_false_iff.2 h10
  by_cases h11 : (op.toList == [60, 62]) = true
  · exact (.inr (.inr (.inr (.inr (.inr (.inr (.inr (.inr (.inr (.inr (.inr (.inl (op_of_list h11)))))))))))))
  have h11 := Bool.eq_false_iff.2 h11
  by_cases h12 : (op.toList == [60]) = true
  · exact (.inr (.inr (.inr (.inr (.inr (.inr (.inr (.inr (.inr (.inr (.inr (.inr (.inl (op_of_list h12))))))))))))))
  have h12 := Bool.eq_false_iff.2 h12
  by_cases h13 : (op.toList == [60, 61]) = true
  · exact (.inr (.inr (.inr (.inr (.inr (.inr (.inr (.inr (.inr (.inr (.inr (.inr (.inr (.inl (op_of_list h13)))))))))))))))
  have h13 := Bool.eq_false_iff.2 h13
  by_cases h14 : (op.toList == [62]) = true
  · exact (.inr (.inr (.inr (.inr (.inr (.inr (.inr (.inr (.inr (.inr (.inr (.inr (.inr (.inr (.inl (op_of_list h14))))))))))))))))
  have h14 := Bool.eq_false_iff.2 h14
  by_cases h15 : (op.toList == [62, 61]) = true
  · exact (.inr (.inr (.inr (.inr (.inr (.inr (.inr (.inr (.inr (.inr (.inr (.inr (.inr (.inr (.inr (.inl (op_of_list h15)))))))))))))))))
  have h15 := Bool.eq_false_iff.2 h15
  by_cases h16 : (op.toList == [97, 110, 100]) = true
  · exact (.inr (.inr (.inr (.inr (.inr (.inr (.inr (.inr (.inr (.inr (.inr (.inr (.inr (.inr (.inr (.inr (.inl (op_of_list h16))))))))))))))))))
  have h16 := Bool.eq_false_iff.2 h16
  by_cases h17 : (op.toList == [111, 114]) = true
  · exact (.inr (.inr (.inr (.inr (.inr (.inr (.inr (.inr (.inr (.inr (.inr (.inr (.inr (.inr (.inr (.inr (.inr (.inl (op_of_list h17)))))))))))))))))))
  have h17 := Bool.eq_false_iff.2 h17
  by_cases h18 : (op.toList == [102, 97, 108, 115, 101]) = true
  · exact (.inr (.inr (.inr (.inr (.inr (.inr (.inr (.inr (.inr (.inr (.inr (.inr (.inr (.inr (.inr (.inr (.inr (.inr (.inl (op_of_list h18))))))))))))))))))))
  have h18 := Bool.eq_false_iff.2 h18
  by_cases h19 : (op.toList == [116, 114, 117, 101]) = true
  · exact (.inr (.inr (.inr (.inr (.inr (.inr (.inr (.inr (.inr (.inr (.inr (.inr (.inr (.inr (.inr (.inr (.inr (.inr (.inr (.inl (op_of_list h19)))))))))))))))))))))
  have h19 := Bool.eq_false_iff.2 h19
  exact .inr (.inr (.inr (.inr (.inr (.inr (.inr (.inr (.inr (.inr (.inr (.inr (.inr (.inr (.inr (.inr (.inr (.inr (.inr (.inr (⟨h0, h1, h2, h3, h4, h5, h6, h7, h8, h9, h10, h11, h12, h13, h14, h15, h16, h17, h18, h19⟩))))))))))))))))))))

theorem class_other (op : ByteArray) (h0 : (op.toList == [99, 111, 110, 115, 116]) = false) (h1 : (op.toList == [99, 111, 108]) = false) (h2 : (op.toList == [110, 101, 103]) = false) (h3 : (op.toList == [110, 117, 108, 108]) = false) (h4 : (op.toList == [115, 111, 109, 101]) = false) (h5 : (op.toList == [110, 111, 116]) = false) (h6 : (op.toList == [99, 111, 112, 121]) = false) (h7 : (op.toList == [43]) = false) (h8 : (op.toList == [45]) = false) (h9 : (op.toList == [42]) = false) (h10 : (op.toList == [61]) = false) (h11 : (op.toList == [60, 62]) = false) (h12 : (op.toList == [60]) = false) (h13 : (op.toList == [60, 61]) = false) (h14 : (op.toList == [62]) = false) (h15 : (op.toList == [62, 61]) = false) (h16 : (op.toList == [97, 110, 100]) = false) (h17 : (op.toList == [111, 114]) = false) (h18 : (op.toList == [102, 97, 108, 115, 101]) = false) (h19 : (op.toList == [116, 114, 117, 101]) = false) : opClass op = 5 := by
  have e : ∀ l, (op.toList == l) = (l == op.toList) := fun l => by rw [Bool.eq_iff_iff, beq_iff_eq, beq_iff_eq]; exact eq_comm
  simp only [e] at h0 h1 h2 h3 h4 h5 h6 h7 h8 h9 h10 h11 h12 h13 h14 h15 h16 h17 h18 h19
  unfold opClass opLits
  simp only [List.find?, h0 , h1 , h2 , h3 , h4 , h5 , h6 , h7 , h8 , h9 , h10 , h11 , h12 , h13 , h14 , h15 , h16 , h17 , h18 , h19]
  rfl

set_option maxHeartbeats 3200000 in
theorem fits_other (op : ByteArray) (h0 : (op.toList == [99, 111, 110, 115, 116]) = false) (h1 : (op.toList == [99, 111, 108]) = false) (h2 : (op.toList == [110, 101, 103]) = false) (h3 : (op.toList == [110, 117, 108, 108]) = false) (h4 : (op.toList == [115, 111, 109, 101]) = false) (h5 : (op.toList == [110, 111, 116]) = false) (h6 : (op.toList == [99, 111, 112, 121]) = false) (h7 : (op.toList == [43]) = false) (h8 : (op.toList == [45]) = false) (h9 : (op.toList == [42]) = false) (h10 : (op.toList == [61]) = false) (h11 : (op.toList == [60, 62]) = false) (h12 : (op.toList == [60]) = false) (h13 : (op.toList == [60, 61]) = false) (h14 : (op.toList == [62]) = false) (h15 : (op.toList == [62, 61]) = false) (h16 : (op.toList == [97, 110, 100]) = false) (h17 : (op.toList == [111, 114]) = false) (h18 : (op.toList == [102, 97, 108, 115, 101]) = false) (h19 : (op.toList == [116, 114, 117, 101]) = false) (ca : Option Addr) (cl cc : Nat) (R i a b c k n : Int) (s : ByteArray) (w : World) :
    Calls Try.prog 116 #[.agg #[.slice ca cl cc, .int .i64 R], .int .i64 i, .agg #[.string op, .int .i64 a, .int .i64 b, .int .i64 c, .int .i64 k, .int .i64 n, .string s]] w fun e w' => e = .returned (.bool false) ∧ Below w.heap.size w w' := by
  go_enter Try.func116, Try.ntmps116
  go_wp2
  go_ret
  exact ⟨rfl, by repeat (first | exact Below.refl _ _ | refine bel0 _ ?_)⟩
end Go.Proofs.Ytafhgilikcablaa
namespace Go.Proofs.Ytafhgilikcablaa
open Go.RowKit
set_option linter.unusedVariables false
set_option linter.unusedSimpArgs false
set_option maxRecDepth 100000

theorem fits_any (ca : Option Addr) (cl cc : Nat) (R i : Int) (x : Ins) (w : World) (hcl : cl ≤ 9223372036854775807) :
    Calls Try.prog 116 #[.agg #[.slice ca cl cc, .int .i64 R], .int .i64 i, .agg #[.string x.op, .int .i64 x.a, .int .i64 x.b, .int .i64 x.c, .int .i64 x.v.1, .int .i64 x.v.2.1, .string x.v.2.2]] w fun e w' => e = .returned (.bool (fitsB cl R i x)) ∧ Below w.heap.size w w' := by
  obtain ⟨op, a, b, c, k, n, s⟩ := x
  rcases op_cases op with rfl | rfl | rfl | rfl | rfl | rfl | rfl | rfl | rfl | rfl | rfl | rfl | rfl | rfl | rfl | rfl | rfl | rfl | rfl | rfl | ⟨h0, h1, h2, h3, h4, h5, h6, h7, h8, h9, h10, h11, h12, h13, h14, h15, h16, h17, h18, h19⟩
  · exact fits_const ca cl cc R i a b c k n s w hcl
  · exact fits_col ca cl cc R i a b c k n s w hcl
  · exact fits_neg ca cl cc R i a b c k n s w hcl
  · exact fits_null ca cl cc R i a b c k n s w hcl
  · exact fits_some ca cl cc R i a b c k n s w hcl
  · exact fits_not ca cl cc R i a b c k n s w hcl
  · exact fits_copy ca cl cc R i a b c k n s w hcl
  · exact fits_add ca cl cc R i a b c k n s w hcl
  · exact fits_sub ca cl cc R i a b c k n s w hcl
  · exact fits_mul ca cl cc R i a b c k n s w hcl
  · exact fits_eq ca cl cc R i a b c k n s w hcl
  · exact fits_ne ca cl cc R i a b c k n s w hcl
  · exact fits_lt ca cl cc R i a b c k n s w hcl
  · exact fits_le ca cl cc R i a b c k n s w hcl
  · exact fits_gt ca cl cc R i a b c k n s w hcl
  · exact fits_ge ca cl cc R i a b c k n s w hcl
  · exact fits_and ca cl cc R i a b c k n s w hcl
  · exact fits_or ca cl cc R i a b c k n s w hcl
  · exact fits_false ca cl cc R i a b c k n s w hcl
  · exact fits_true ca cl cc R i a b c k n s w hcl
  · have hc := class_other op h0 h1 h2 h3 h4 h5 h6 h7 h8 h9 h10 h11 h12 h13 h14 h15 h16 h17 h18 h19
    have e : fitsB cl R i ⟨op, a, b, c, (k, n, s)⟩ = false := by unfold fitsB; rw [hc]; rfl
    rw [e]
    exact fits_other op h0 h1 h2 h3 h4 h5 h6 h7 h8 h9 h10 h11 h12 h13 h14 h15 h16 h17 h18 h19 ca cl cc R i a b c k n s w
end Go.Proofs.Ytafhgilikcablaa
