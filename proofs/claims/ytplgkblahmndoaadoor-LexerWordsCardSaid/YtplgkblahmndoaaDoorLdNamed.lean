/- The document's named: a text made as a name is. (Parted from XLxKey.) -/
import Derived.Test.YtplgkblahmndoaaDoorLwLet
import Derived.Deep.DeepCutAuto
namespace Go.Proofs.YtplgkblahmndoaaDoor
open Go.RowKit
set_option linter.unusedVariables false
set_option maxRecDepth 100000

def nmdB (s : ByteArray) : Bool := okAll s && (decide (0 < Lib.runeCount s) && decide (Lib.runeCount s ≤ 16))
set_option maxHeartbeats 3200000 in
theorem rnamed_any (s : ByteArray) (w : World) (hs : s.size < 9223372036854775807) : Calls Tryd.prog 26 #[.string s] w fun e w' => e = .returned (.bool (nmdB s)) ∧ Below w.heap.size w w' := by
  have HB := Lib.hid (show ∀ p, Below w.heap.size w (w.iter s p) from fun p => bel0 _ (Below.refl _ _))
  have HS := Lib.hid hs
  have HSr := Lib.hid (Lib.runeCount_le s)
  obtain ⟨b, hb⟩ : ∃ b, b = nmdB s := ⟨_, rfl⟩
  rw [← hb]
  have HN := Lib.hid hb
  clear hb hs
  go_enter Tryd.func26, Tryd.ntmps26
  go_wp2
  go_loopw [3] (fun n wr => ∃ pos c acc : Nat, wr = w.iter s pos ∧ n = .int .i64 (acc : Int) ∧ Hid (okFrom s c pos = okAll s ∧ s.size ≤ pos + c ∧ acc + Lib.runeCountFrom s c pos = Lib.runeCount s ∧ acc ≤ pos ∧ (acc = 0 → pos = 0))) (fun _ wr => s.size - wr.iterPos w.heap.size)
  case atStart => exact ⟨0, s.size, 0, rfl, rfl, Lib.hid ⟨rfl, by omega, by simp [Lib.runeCount], Nat.le_refl _, fun _ => rfl⟩⟩
  case round =>
    obtain ⟨pos, c, acc, rfl, rfl, HR⟩ := hrel
    by_cases hp : pos < s.size
    · obtain ⟨r, n, hr, hn, hn1, hnx⟩ := rune_step s pos w hp
      have HP := Lib.hid hp
      have HD := Lib.hid (show r = (Utf8.decode s pos).1 ∧ n = (Utf8.decode s pos).2 ∧ 1 ≤ n from ⟨hr, hn, hn1⟩)
      have hac : (acc : Int) < 9223372036854775806 := by have := HR.out.2.2.2.1; have := HS.out; omega
      have hac0 : (0 : Int) ≤ (acc : Int) := by omega
      have HG := Lib.hid (show (letZ r = true ∨ (pos ≠ 0 ∧ digZ r = true)) → ∃ c', okFrom s c' (pos + n) = okAll s ∧ s.size ≤ pos + n + c' ∧ acc + 1 + Lib.runeCountFrom s c' (pos + n) = Lib.runeCount s ∧ acc + 1 ≤ pos + n ∧ (acc + 1 = 0 → pos + n = 0) from fun h => by
        have hc := HR.out
        cases c with
        | zero => omega
        | succ c =>
          refine ⟨c, by rw [← hc.1, hn, okFrom_good hp (by rw [← hr]; exact h)], by omega, ?_, by omega, by omega⟩
          have := hc.2.2.1
          unfold Lib.runeCountFrom at this
          rw [if_pos hp, ← hn] at this
          omega)
      have HX := Lib.hid (show letZ r = false → (pos = 0 ∨ digZ r = false) → nmdB s = false from fun h1 h2 => by
        unfold nmdB
        rw [← HR.out.1, okFrom_bad hp (by rw [← hr]; exact h1) (by rw [← hr]; exact h2) HR.out.2.1]; rfl)
      clear hr hn hn1 hp
      go_wp2_with fail
      refine (rletter_any _ _).mono ?_
      rintro e w1 ⟨rfl, hw⟩
      subst hw
      by_cases hl : letZ r = true
      · obtain ⟨c', h1⟩ := HG.out (.inl hl)
        have HC := Lib.hid h1
        rw [hl]
        clear hl h1
        go_wp2
        go_roundw
        case rel => exact ⟨pos + n, c', acc + 1, rfl, by go_num, HC⟩
        case measure => have := HD.out; have := HP.out; simp; omega
      · have hl' : letZ r = false := by simpa using hl
        have HL := Lib.hid hl'
        rw [hl']
        clear hl hl'
        by_cases h0 : acc = 0
        · have HF := Lib.hid (HX.out HL.out (.inl (HR.out.2.2.2.2 h0)))
          subst h0
          go_wp2
          go_ret
          exact ⟨by rw [HN.out, HF.out]; rfl, HB.out _⟩
        · have hp0 : ((acc : Int) == 0) = false := by rw [beq_eq_false_iff_ne]; omega
          have H0 := Lib.hid (show pos ≠ 0 by have := HR.out.2.2.2.1; omega)
          clear h0
          go_wp2_with fail
          refine (rdigit_any _ _).mono ?_
          rintro e w1 ⟨rfl, hw⟩
          subst hw
          by_cases hd : digZ r = true
          · obtain ⟨c', h1⟩ := HG.out (.inr ⟨H0.out, hd⟩)
            have HC := Lib.hid h1
            rw [hd]
            clear hd h1
            go_wp2
            go_roundw
            case rel => exact ⟨pos + n, c', acc + 1, rfl, by go_num, HC⟩
            case measure => have := HD.out; have := HP.out; simp; omega
          · have hd' : digZ r = false := by simpa using hd
            have HF := Lib.hid (HX.out HL.out (.inr hd'))
            rw [hd']
            clear hd hd'
            go_wp2
            go_ret
            exact ⟨by rw [HN.out, HF.out]; rfl, HB.out _⟩
    · have hnx : ∀ ty, (Instr.next (.pointer (some ⟨w.heap.size, 0, none⟩)) true ty).run Tryd.prog (w.iter s pos) = .ok (.tuple #[.bool false]) (w.iter s pos) := fun ty => run_next_end w s pos ty hp
      have HF := Lib.hid (show nmdB s = (decide (0 < acc) && decide (acc ≤ 16)) by
        have h := HR.out.2.2.1
        rw [Lib.runeCountFrom_end s c pos hp, Nat.add_zero] at h
        unfold nmdB
        rw [← HR.out.1, okFrom_end s c pos hp, ← h]; rfl)
      clear hp
      by_cases h0 : 0 < acc
      · have h0i : (0 : Int) < (acc : Int) := by omega
        have HF1 := Lib.hid (show nmdB s = decide (acc ≤ 16) by rw [HF.out, decide_eq_true h0]; rfl)
        clear h0
        by_cases h1 : acc ≤ 16
        · have h1i : (acc : Int) ≤ 16 := by omega
          have HF2 := Lib.hid (show nmdB s = true by rw [HF1.out, decide_eq_true h1])
          clear h1
          go_wp2
          go_ret
          exact ⟨by rw [HN.out, HF2.out]; simp, HB.out _⟩
        · have h1i : ¬ (acc : Int) ≤ 16 := by omega
          have HF2 := Lib.hid (show nmdB s = false by rw [HF1.out, decide_eq_false h1])
          clear h1
          go_wp2
          go_ret
          exact ⟨by rw [HN.out, HF2.out]; simp, HB.out _⟩
      · obtain rfl : acc = 0 := by omega
        have HF2 := Lib.hid (show nmdB s = false by rw [HF.out]; rfl)
        clear h0
        go_wp2
        go_ret
        exact ⟨by rw [HN.out, HF2.out]; rfl, HB.out _⟩

end Go.Proofs.YtplgkblahmndoaaDoor
