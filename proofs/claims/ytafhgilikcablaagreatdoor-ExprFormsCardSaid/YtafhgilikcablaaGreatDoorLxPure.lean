/- LexerNames: letters, names and keywords. Plain mathematics. -/
import Derived.Test.YtafhgilikcablaaGreatDoorEt
import Derived.Test.YtafhgilikcablaaGreatDoorProg
import Derived.Lib.RuneCount
namespace Go.Proofs.YtafhgilikcablaaGreatDoor
open Go.ChangeShapes Go.WideShapes Go.Deep Go.RowKit
set_option linter.unusedVariables false
set_option linter.unusedSimpArgs false
set_option maxRecDepth 100000
section
variable {H : Type} {enc : TypeId × Value → H} {w : World} {base : Nat} {spare : Nat → Bool} {held : Bool}
theorem open_expr {fuel : Nat} {cs : List Value} {x : DataW H × List MemPlace} (h : DataW.trod enc Tryz.prog w base spare held fuel 26 cs = some x) : ∃ y sa sc, cs = etX y sa sc ∧ ERg y sa sc ∧ EL w (fun _ => True) sa y.parts :=
  open_et (t := 24) Tryz.underlying26 (by kernel_rfl) rfl rfl rfl rfl rfl rfl (by kernel_rfl) (by kernel_rfl) (by kernel_rfl) (by kernel_rfl) (by kernel_rfl) (by kernel_rfl) Tryz.underlying3 Tryz.underlying9 Tryz.underlying23 Tryz.underlying9 Tryz.underlying9 rfl rfl rfl rfl (by kernel_rfl) (by kernel_rfl) (by kernel_rfl) Tryz.underlying3 Tryz.underlying2 Tryz.underlying9
    (fun n _ v x h => open_el (t := 24) Tryz.underlying24 Tryz.underlying26 (by kernel_rfl) rfl rfl rfl rfl rfl rfl (by kernel_rfl) (by kernel_rfl) (by kernel_rfl) (by kernel_rfl) (by kernel_rfl) (by kernel_rfl) Tryz.underlying3 Tryz.underlying9 Tryz.underlying23 Tryz.underlying9 Tryz.underlying9 rfl rfl rfl rfl (by kernel_rfl) (by kernel_rfl) (by kernel_rfl) Tryz.underlying3 Tryz.underlying2 Tryz.underlying9 n n (Nat.le_refl _) v x h) h
end
end Go.Proofs.YtafhgilikcablaaGreatDoor
namespace Go.Proofs.YtafhgilikcablaaGreatDoor
set_option linter.unusedVariables false
set_option linter.unusedSimpArgs false

def letZ (r : Int) : Bool := decide (97 ≤ r ∧ r ≤ 122) || decide (65 ≤ r ∧ r ≤ 90) || decide (945 ≤ r ∧ r ≤ 969) || decide (r = 95)
def digZ (r : Int) : Bool := decide (48 ≤ r ∧ r ≤ 57)
/-- from a place on every rune may stand in a name -/
def okFrom (s : ByteArray) : Nat → Nat → Bool
  | 0, _ => true
  | b + 1, pos => if pos < s.size then (letZ (Utf8.decode s pos).1 || (decide (pos ≠ 0) && digZ (Utf8.decode s pos).1)) && okFrom s b (pos + (Utf8.decode s pos).2) else true
def okAll (s : ByteArray) : Bool := okFrom s s.size 0
theorem okFrom_end (s : ByteArray) (b pos : Nat) (h : ¬ pos < s.size) : okFrom s b pos = true := by
  cases b <;> simp [okFrom, h]
theorem okFrom_bad {s : ByteArray} {b pos : Nat} (h : pos < s.size) (h1 : letZ (Utf8.decode s pos).1 = false) (h2 : pos = 0 ∨ digZ (Utf8.decode s pos).1 = false) (hb : s.size ≤ pos + b) : okFrom s b pos = false := by
  cases b with
  | zero => omega
  | succ b =>
    unfold okFrom
    rw [if_pos h, h1]
    rcases h2 with rfl | h2
    · simp
    · rw [h2]; simp
theorem okFrom_good {s : ByteArray} {b pos : Nat} (h : pos < s.size) (h1 : letZ (Utf8.decode s pos).1 = true ∨ (pos ≠ 0 ∧ digZ (Utf8.decode s pos).1 = true)) : okFrom s (b + 1) pos = okFrom s b (pos + (Utf8.decode s pos).2) := by
  conv => lhs; unfold okFrom
  rw [if_pos h]
  rcases h1 with h1 | ⟨h0, h1⟩
  · rw [h1]; simp
  · rw [h1]; simp [h0]
theorem runes_pos {s : ByteArray} (h : 0 < s.size) : 0 < Lib.runeCount s := by
  unfold Lib.runeCount
  obtain ⟨m, hm⟩ : ∃ m, s.size = m + 1 := ⟨s.size - 1, by omega⟩
  rw [hm]
  unfold Lib.runeCountFrom
  rw [if_pos h]; omega
theorem runes_zero {s : ByteArray} (h : s.size = 0) : Lib.runeCount s = 0 := by
  unfold Lib.runeCount
  rw [h]; rfl

/-- the keywords -/
def kws : List (List UInt8) := [[67, 82, 69, 65, 84, 69],
  [84, 65, 66, 76, 69],
  [73, 78, 68, 69, 88],
  [85, 78, 73, 81, 85, 69],
  [77, 65, 84, 69, 82, 73, 65, 76, 73, 90, 69, 68],
  [86, 73, 69, 87],
  [68, 82, 79, 80],
  [73, 78, 83, 69, 82, 84],
  [73, 78, 84, 79],
  [86, 65, 76, 85, 69, 83],
  [85, 80, 68, 65, 84, 69],
  [83, 69, 84],
  [68, 69, 76, 69, 84, 69],
  [70, 82, 79, 77],
  [83, 69, 76, 69, 67, 84],
  [68, 73, 83, 84, 73, 78, 67, 84],
  [87, 72, 69, 82, 69],
  [71, 82, 79, 85, 80],
  [66, 89],
  [79, 82, 68, 69, 82],
  [65, 83, 67],
  [68, 69, 83, 67],
  [76, 73, 77, 73, 84],
  [74, 79, 73, 78],
  [79, 78],
  [65, 83],
  [65, 78, 68],
  [79, 82],
  [78, 79, 84],
  [73, 83],
  [78, 85, 76, 76],
  [73, 78, 84],
  [84, 69, 88, 84],
  [66, 69, 71, 73, 78],
  [67, 79, 77, 77, 73, 84],
  [82, 79, 76, 76, 66, 65, 67, 75],
  [67, 79, 85, 78, 84],
  [83, 85, 77],
  [77, 73, 78],
  [77, 65, 88]]
/-- the keywords, each between blanks -/
def kwT : List UInt8 := 32 :: kws.flatMap fun l => l ++ [32]
def kwB (s : ByteArray) : Bool := kws.contains s.data.toList
/-- a name -/
def nmB (s : ByteArray) : Bool := okAll s && decide (0 < s.size) && decide (Lib.runeCount s ≤ 16) && !kwB s

theorem kw_all : (kws.all fun l => (List.range 223).any fun i => decide (i + (l.length + 2) ≤ 223) && ((kwT.drop i).take (l.length + 2) == 32 :: (l ++ [32]))) = true := by decide +kernel
theorem kw_next : ((List.range 223).all fun i => kws.contains ((kwT.drop (i + 1)).takeWhile (· != 32)) || ((kwT.drop (i + 1)).takeWhile (· != 32)).isEmpty || decide (kwT[i]? ≠ some 32)) = true := by decide +kernel
theorem kw_small : (kws.all fun l => l.all fun b => b != 32) = true := by decide +kernel
theorem takeWhile_mid : ∀ (l r : List UInt8), (∀ b ∈ l, b ≠ 32) → (l ++ 32 :: r).takeWhile (· != 32) = l
  | [], r, _ => by simp [List.takeWhile]
  | a :: l, r, h => by
    have h1 : a ≠ 32 := h a (by simp)
    simp [List.takeWhile, h1, takeWhile_mid l r (fun b hb => h b (by simp [hb]))]
/-- a text without blanks stands between blanks just if it is one of the words -/
theorem kw_at {s : ByteArray} (h0 : 0 < s.size) (hb : ∀ b ∈ s.data.toList, b ≠ 32) : kwB s = true ↔ ∃ i, i + (s.size + 2) ≤ 223 ∧ (kwT.drop i).take (s.size + 2) = 32 :: (s.data.toList ++ [32]) := by
  have hsz : s.data.toList.length = s.size := by rw [Array.length_toList]; rfl
  unfold kwB
  generalize s.data.toList = l at *
  rw [← hsz]
  constructor
  · intro h
    have := List.all_eq_true.1 kw_all l (List.contains_iff_mem.1 h)
    obtain ⟨i, hi, h2⟩ := List.any_eq_true.1 this
    rw [Bool.and_eq_true] at h2
    exact ⟨i, of_decide_eq_true h2.1, eq_of_beq h2.2⟩
  · rintro ⟨i, hi, h⟩
    have hk : i < 223 := by omega
    have h1 := List.all_eq_true.1 kw_next i (List.mem_range.2 hk)
    have hd : kwT.drop i = 32 :: (l ++ 32 :: (kwT.drop i).drop (l.length + 2)) := by
      conv => lhs; rw [← List.take_append_drop (l.length + 2) (kwT.drop i), h]
      simp
    have hd1 : kwT.drop (i + 1) = l ++ 32 :: (kwT.drop i).drop (l.length + 2) := by
      rw [← List.drop_drop, hd]; simp
    have hi0 : kwT[i]? = some 32 := by
      have : (kwT.drop i)[0]? = some 32 := by rw [hd]; rfl
      rw [List.getElem?_drop] at this
      simpa using this
    rw [hd1, takeWhile_mid _ _ hb, hi0] at h1
    simp only [ne_eq, not_true, decide_false, Bool.or_false, Bool.or_eq_true] at h1
    rcases h1 with h1 | h1
    · exact h1
    · rw [List.isEmpty_iff] at h1
      subst h1
      simp at hsz
      omega
end Go.Proofs.YtafhgilikcablaaGreatDoor
