/- Small contracts beneath an expression's shape: the document's in, the program's binaryLevel and aggregate. -/
import Derived.Test.YtafhgilikcablaaEtMem
namespace Go.Proofs.Ytafhgilikcablaa
open Go.RowKit
set_option linter.unusedVariables false
set_option linter.unusedSimpArgs false
set_option maxRecDepth 100000

def inB (s : ByteArray) : List ByteArray → Bool
  | [] => false
  | x :: l => if (x.toList == s.toList) = true then true else inB s l
theorem inB_drop {s : ByteArray} {l : List ByteArray} {k : Nat} (h : k < l.length) : inB s (l.drop k) = if ((l[k]).toList == s.toList) = true then true else inB s (l.drop (k + 1)) := by
  rw [List.drop_eq_getElem_cons h]
  rfl
set_option maxHeartbeats 1600000 in
theorem in_any (w : World) (s : ByteArray) (g : Nat) (l : List ByteArray) (n : Nat) (hn : l.length = n) (hl : n ≤ 1000) (hg : g < w.heap.size) (hc : ∀ i (h : i < l.length), w.cell? ⟨g, i, none⟩ = some (.string l[i])) :
    Calls Try.prog 168 #[.string s, .slice (some ⟨g, 0, none⟩) n n] w fun e w' => e = .returned (.bool (inB s l)) ∧ Below w.heap.size w w' := by
  have HC := Lib.hid hc
  have HNl := Lib.hid hn
  clear hc hn
  go_enter Try.func168, Try.ntmps168
  go_wp2_with fail
  go_loopw [8] (fun i wr => ∃ (k : Nat), k ≤ n ∧ i = .int .i64 (k : Int) ∧ Hid (inB s (l.drop k) = inB s l ∧ Below w.heap.size w wr)) (fun i _ => n - (intOf i).toNat)
  case atStart => exact ⟨0, by omega, rfl, Lib.hid ⟨rfl, Below.refl _ _⟩⟩
  case round =>
    obtain ⟨k, hk, rfl, HL⟩ := hrel
    have hk0 : (0 : Int) ≤ (k : Int) := by omega
    by_cases hlt : k < n
    · have hki : (k : Int) < (n : Int) := by omega
      have hkl : k < l.length := by rw [HNl.out]; exact hlt
      have q0 := (HL.out.2.cell (p := ⟨g, k, none⟩) hg).trans (HC.out k hkl)
      have HD := Lib.hid (inB_drop (s := s) hkl)
      obtain ⟨x, hx⟩ : ∃ x, x = l[k] := ⟨_, rfl⟩
      rw [← hx] at q0 HD
      have HLt := Lib.hid hlt
      clear hkl hx hlt hk
      by_cases hxs : (x.toList == s.toList) = true
      · have HF := Lib.hid (show inB s l = true by rw [← HL.out.1, HD.out, if_pos hxs])
        have HB := Lib.hid (show Below w.heap.size w wr from HL.out.2)
        go_wp2
        go_ret
        rw [HF.out]
        exact ⟨rfl, HB.out⟩
      · have HN1 := Lib.hid (show inB s (l.drop (k + 1)) = inB s l by rw [← HL.out.1, HD.out, if_neg hxs])
        rw [Bool.not_eq_true] at hxs
        have HB := Lib.hid (show Below w.heap.size w wr from HL.out.2)
        go_wp2
        go_roundw
        case rel => exact ⟨k + 1, HLt.out, by go_num, Lib.hid ⟨HN1.out, HB.out⟩⟩
        case measure => have := HLt.out; simp [intOf]; omega
    · have hkk : ¬ ((k : Int) < (n : Int)) := by omega
      have HF := Lib.hid (show inB s l = false by rw [← HL.out.1, List.drop_of_length_le (by rw [HNl.out]; omega)]; rfl)
      have HB := Lib.hid (show Below w.heap.size w wr from HL.out.2)
      go_wp2
      go_ret
      rw [HF.out]
      exact ⟨rfl, HB.out⟩
def levelB (s : ByteArray) : Int :=
  if (s.toList == [79, 82]) = true then 1 else if (s.toList == [65, 78, 68]) = true then 2 else if (s.toList == [61]) = true then 4 else if (s.toList == [60, 62]) = true then 4 else if (s.toList == [60]) = true then 4 else if (s.toList == [60, 61]) = true then 4 else if (s.toList == [62]) = true then 4 else if (s.toList == [62, 61]) = true then 4 else if (s.toList == [43]) = true then 5 else if (s.toList == [45]) = true then 5 else if (s.toList == [42]) = true then 6 else 0
def aggrB (s : ByteArray) : Bool :=
  if (s.toList == [67, 79, 85, 78, 84]) = true then true else if (s.toList == [83, 85, 77]) = true then true else if (s.toList == [77, 73, 78]) = true then true else if (s.toList == [77, 65, 88]) = true then true else false
set_option maxHeartbeats 6400000 in
theorem level_any (w : World) (s : ByteArray) : Calls Try.prog 178 #[.string s] w fun e w' => e = .returned (.int .i64 (levelB s)) ∧ Below w.heap.size w w' := by
  by_cases h0 : (s.toList == [79, 82]) = true
  · have HF := Lib.hid (show levelB s = 1 by unfold levelB; rw [if_pos h0])
    go_enter Try.func178, Try.ntmps178
    go_wp2
    go_ret
    rw [HF.out]
    exact ⟨rfl, Below.refl _ _⟩
  by_cases h1 : (s.toList == [65, 78, 68]) = true
  · have HF := Lib.hid (show levelB s = 2 by unfold levelB; rw [if_neg h0, if_pos h1])
    rw [Bool.not_eq_true] at h0
    go_enter Try.func178, Try.ntmps178
    go_wp2
    go_ret
    rw [HF.out]
    exact ⟨rfl, Below.refl _ _⟩
  by_cases h2 : (s.toList == [61]) = true
  · have HF := Lib.hid (show levelB s = 4 by unfold levelB; rw [if_neg h0, if_neg h1, if_pos h2])
    rw [Bool.not_eq_true] at h0
    rw [Bool.not_eq_true] at h1
    go_enter Try.func178, Try.ntmps178
    go_wp2
    go_ret
    rw [HF.out]
    exact ⟨rfl, Below.refl _ _⟩
  by_cases h3 : (s.toList == [60, 62]) = true
  · have HF := Lib.hid (show levelB s = 4 by unfold levelB; rw [if_neg h0, if_neg h1, if_neg h2, if_pos h3])
    rw [Bool.not_eq_true] at h0
    rw [Bool.not_eq_true] at h1
    rw [Bool.not_eq_true] at h2
    go_enter Try.func178, Try.ntmps178
    go_wp2
    go_ret
    rw [HF.out]
    exact ⟨rfl, Below.refl _ _⟩
  by_cases h4 : (s.toList == [60]) = true
  · have HF := Lib.hid (show levelB s = 4 by unfold levelB; rw [if_neg h0, if_neg h1, if_neg h2, if_neg h3, if_pos h4])
    rw [Bool.not_eq_true] at h0
    rw [Bool.not_eq_true] at h1
    rw [Bool.not_eq_true] at h2
    rw [Bool.not_eq_true] at h3
    go_enter Try.func178, Try.ntmps178
    go_wp2
    go_ret
    rw [HF.out]
    exact ⟨rfl, Below.refl _ _⟩
  by_cases h5 : (s.toList == [60, 61]) = true
  · have HF := Lib.hid (show levelB s = 4 by unfold levelB; rw [if_neg h0, if_neg h1, if_neg h2, if_neg h3, if_neg h4, if_pos h5])
    rw [Bool.not_eq_true] at h0
    rw [Bool.not_eq_true] at h1
    rw [Bool.not_eq_true] at h2
    rw [Bool.not_eq_true] at h3
    rw [Bool.not_eq_true] at h4
    go_enter Try.func178, Try.ntmps178
    go_wp2
    go_ret
    rw [HF.out]
    exact ⟨rfl, Below.refl _ _⟩
  by_cases h6 : (s.toList == [62]) = true
  · have HF := Lib.hid (show levelB s = 4 by unfold levelB; rw [if_neg h0, if_neg h1, if_neg h2, if_neg h3, if_neg h4, if_neg h5, if_pos h6])
    rw [Bool.not_eq_true] at h0
    rw [Bool.not_eq_true] at h1
    rw [Bool.not_eq_true] at h2
    rw [Bool.not_eq_true] at h3
    rw [Bool.not_eq_true] at h4
    rw [Bool.not_eq_true] at h5
    go_enter Try.func178, Try.ntmps178
    go_wp2
    go_ret
    rw [HF.out]
    exact ⟨rfl, Below.refl _ _⟩
  by_cases h7 : (s.toList == [62, 61]) = true
  · have HF := Lib.hid (show levelB s = 4 by unfold levelB; rw [if_neg h0, if_neg h1, if_neg h2, if_neg h3, if_neg h4, if_neg h5, if_neg h6, if_pos h7])
    rw [Bool.not_eq_true] at h0
    rw [Bool.not_eq_true] at h1
    rw [Bool.not_eq_true] at h2
    rw [Bool.not_eq_true] at h3
    rw [Bool.not_eq_true] at h4
    rw [Bool.not_eq_true] at h5
    rw [Bool.not_eq_true] at h6
    go_enter Try.func178, Try.ntmps178
    go_wp2
    go_ret
    rw [HF.out]
    exact ⟨rfl, Below.refl _ _⟩
  by_cases h8 : (s.toList == [43]) = true
  · have HF := Lib.hid (show levelB s = 5 by unfold levelB; rw [if_neg h0, if_neg h1, if_neg h2, if_neg h3, if_neg h4, if_neg h5, if_neg h6, if_neg h7, if_pos h8])
    rw [Bool.not_eq_true] at h0
    rw [Bool.not_eq_true] at h1
    rw [Bool.not_eq_true] at h2
    rw [Bool.not_eq_true] at h3
    rw [Bool.not_eq_true] at h4
    rw [Bool.not_eq_true] at h5
    rw [Bool.not_eq_true] at h6
    rw [Bool.not_eq_true] at h7
    go_enter Try.func178, Try.ntmps178
    go_wp2
    go_ret
    rw [HF.out]
    exact ⟨rfl, Below.refl _ _⟩
  by_cases h9 : (s.toList == [45]) = true
  · have HF := Lib.hid (show levelB s = 5 by unfold levelB; rw [if_neg h0, if_neg h1, if_neg h2, if_neg h3, if_neg h4, if_neg h5, if_neg h6, if_neg h7, if_neg h8, if_pos h9])
    rw [Bool.not_eq_true] at h0
    rw [Bool.not_eq_true] at h1
    rw [Bool.not_eq_true] at h2
    rw [Bool.not_eq_true] at h3
    rw [Bool.not_eq_true] at h4
    rw [Bool.not_eq_true] at h5
    rw [Bool.not_eq_true] at h6
    rw [Bool.not_eq_true] at h7
    rw [Bool.not_eq_true] at h8
    go_enter Try.func178, Try.ntmps178
    go_wp2
    go_ret
    rw [HF.out]
    exact ⟨rfl, Below.refl _ _⟩
  by_cases h10 : (s.toList == [42]) = true
  · have HF := Lib.hid (show levelB s = 6 by unfold levelB; rw [if_neg h0, if_neg h1, if_neg h2, if_neg h3, if_neg h4, if_neg h5, if_neg h6, if_neg h7, if_neg h8, if_neg h9, if_pos h10])
    rw [Bool.not_eq_true] at h0
    rw [Bool.not_eq_true] at h1
    rw [Bool.not_eq_true] at h2
    rw [Bool.not_eq_true] at h3
    rw [Bool.not_eq_true] at h4
    rw [Bool.not_eq_true] at h5
    rw [Bool.not_eq_true] at h6
    rw [Bool.not_eq_true] at h7
    rw [Bool.not_eq_true] at h8
    rw [Bool.not_eq_true] at h9
    go_enter Try.func178, Try.ntmps178
    go_wp2
    go_ret
    rw [HF.out]
    exact ⟨rfl, Below.refl _ _⟩
  have HF := Lib.hid (show levelB s = 0 by unfold levelB; rw [if_neg h0, if_neg h1, if_neg h2, if_neg h3, if_neg h4, if_neg h5, if_neg h6, if_neg h7, if_neg h8, if_neg h9, if_neg h10])
  rw [Bool.not_eq_true] at h0
  rw [Bool.not_eq_true] at h1
  rw [Bool.not_eq_true] at h2
  rw [Bool.not_eq_true] at h3
  rw [Bool.not_eq_true] at h4
  rw [Bool.not_eq_true] at h5
  rw [Bool.not_eq_true] at h6
  rw [Bool.not_eq_true] at h7
  rw [Bool.not_eq_true] at h8
  rw [Bool.not_eq_true] at h9
  rw [Bool.not_eq_true] at h10
  go_enter Try.func178, Try.ntmps178
  go_wp2
  go_ret
  rw [HF.out]
  exact ⟨rfl, Below.refl _ _⟩
set_option maxHeartbeats 6400000 in
theorem aggr_any (w : World) (s : ByteArray) : Calls Try.prog 179 #[.string s] w fun e w' => e = .returned (.bool (aggrB s)) ∧ Below w.heap.size w w' := by
  by_cases h0 : (s.toList == [67, 79, 85, 78, 84]) = true
  · have HF := Lib.hid (show aggrB s = true by unfold aggrB; rw [if_pos h0])
    go_enter Try.func179, Try.ntmps179
    go_wp2
    go_ret
    rw [HF.out]
    exact ⟨rfl, Below.refl _ _⟩
  by_cases h1 : (s.toList == [83, 85, 77]) = true
  · have HF := Lib.hid (show aggrB s = true by unfold aggrB; rw [if_neg h0, if_pos h1])
    rw [Bool.not_eq_true] at h0
    go_enter Try.func179, Try.ntmps179
    go_wp2
    go_ret
    rw [HF.out]
    exact ⟨rfl, Below.refl _ _⟩
  by_cases h2 : (s.toList == [77, 73, 78]) = true
  · have HF := Lib.hid (show aggrB s = true by unfold aggrB; rw [if_neg h0, if_neg h1, if_pos h2])
    rw [Bool.not_eq_true] at h0
    rw [Bool.not_eq_true] at h1
    go_enter Try.func179, Try.ntmps179
    go_wp2
    go_ret
    rw [HF.out]
    exact ⟨rfl, Below.refl _ _⟩
  by_cases h3 : (s.toList == [77, 65, 88]) = true
  · have HF := Lib.hid (show aggrB s = true by unfold aggrB; rw [if_neg h0, if_neg h1, if_neg h2, if_pos h3])
    rw [Bool.not_eq_true] at h0
    rw [Bool.not_eq_true] at h1
    rw [Bool.not_eq_true] at h2
    go_enter Try.func179, Try.ntmps179
    go_wp2
    go_ret
    rw [HF.out]
    exact ⟨rfl, Below.refl _ _⟩
  have HF := Lib.hid (show aggrB s = false by unfold aggrB; rw [if_neg h0, if_neg h1, if_neg h2, if_neg h3])
  rw [Bool.not_eq_true] at h0
  rw [Bool.not_eq_true] at h1
  rw [Bool.not_eq_true] at h2
  rw [Bool.not_eq_true] at h3
  go_enter Try.func179, Try.ntmps179
  go_wp2
  go_ret
  rw [HF.out]
  exact ⟨rfl, Below.refl _ _⟩
end Go.Proofs.Ytafhgilikcablaa
