/- Contracts of the lexer's names and keywords: every text. -/
import Derived.Test.YtafhgilikcablaaLwLet
namespace Go.Proofs.Ytafhgilikcablaa
open Go.RowKit
set_option linter.unusedVariables false
set_option linter.unusedSimpArgs false
set_option maxRecDepth 100000

set_option maxHeartbeats 3200000 in
theorem keyword_any (s : ByteArray) (w : World) : Calls Try.prog 200 #[.string s] w fun e w' => e = .returned (.bool (kwB s)) ∧ w' = w := by
  obtain ⟨b, hb⟩ : ∃ b, b = kwB s := ⟨_, rfl⟩
  rw [← hb]
  have HB := Lib.hid hb
  clear hb
  go_enter Try.func200, Try.ntmps200
  go_wp2
  all_goals go_ret
  all_goals first
    | (rename_i h1 h2; rw [h1] at h2; exact absurd h2 (by decide))
    | (have hk : kwB s = true := by
        unfold kwB
        rw [← ByteArray.toList_eq, eq_of_beq ‹(s.toList == _) = true›]
        decide +kernel
       exact ⟨by rw [HB.out, hk]; rfl, rfl⟩)
    | (have hk : kwB s = false := by
        unfold kwB
        rw [← ByteArray.toList_eq]
        unfold kws
        simp only [List.contains_cons, List.contains_nil, *, Bool.or_false]
       exact ⟨by rw [HB.out, hk]; rfl, rfl⟩)

set_option maxHeartbeats 3200000 in
theorem name_any (s : ByteArray) (w : World) (hs : s.size ≤ 9223372036854775807) : Calls Try.prog 177 #[.string s] w fun e w' => e = .returned (.bool (nmB s)) ∧ Below w.heap.size w w' := by
  have HB := Lib.hid (show ∀ p, Below w.heap.size w (w.iter s p) from fun p => bel0 _ (Below.refl _ _))
  have HS := Lib.hid hs
  obtain ⟨b, hb⟩ : ∃ b, b = nmB s := ⟨_, rfl⟩
  rw [← hb]
  have HN := Lib.hid hb
  clear hb hs
  go_enter Try.func177, Try.ntmps177
  go_wp2
  go_loopw [2] (fun n wr => ∃ pos c : Nat, wr = w.iter s pos ∧ n = .bool false ∧ Hid (okFrom s c pos = okAll s ∧ s.size ≤ pos + c)) (fun _ wr => s.size - wr.iterPos w.heap.size)
  case atStart => exact ⟨0, s.size, rfl, rfl, Lib.hid ⟨rfl, by omega⟩⟩
  case round =>
    obtain ⟨pos, c, rfl, rfl, HR⟩ := hrel
    by_cases hp : pos < s.size
    · obtain ⟨r, n, hr, hn, hn1, hnx⟩ := rune_step s pos w hp
      have HP := Lib.hid hp
      have HD := Lib.hid (show r = (Utf8.decode s pos).1 ∧ n = (Utf8.decode s pos).2 ∧ 1 ≤ n from ⟨hr, hn, hn1⟩)
      have HG := Lib.hid (show (letZ r = true ∨ (pos ≠ 0 ∧ digZ r = true)) → ∃ c', okFrom s c' (pos + n) = okAll s ∧ s.size ≤ pos + n + c' from fun h => by
        have hc := HR.out
        cases c with
        | zero => omega
        | succ c => exact ⟨c, by rw [← hc.1, hn, okFrom_good hp (by rw [← hr]; exact h)], by omega⟩)
      have HX := Lib.hid (show letZ r = false → (pos = 0 ∨ digZ r = false) → nmB s = false from fun h1 h2 => by
        unfold nmB
        rw [← HR.out.1, okFrom_bad hp (by rw [← hr]; exact h1) (by rw [← hr]; exact h2) HR.out.2]; rfl)
      clear hr hn hn1 hp
      go_wp2_with fail
      refine (letter_any _ _).mono ?_
      rintro e w1 ⟨rfl, hw⟩
      subst hw
      by_cases hl : letZ r = true
      · obtain ⟨c', h1, h2⟩ := HG.out (.inl hl)
        have HC := Lib.hid (show okFrom s c' (pos + n) = okAll s ∧ s.size ≤ pos + n + c' from ⟨h1, h2⟩)
        rw [hl]
        clear hl h1 h2
        go_wp2
        go_roundw
        case rel => exact ⟨pos + n, c', rfl, rfl, HC⟩
        case measure => have := HD.out; have := HP.out; simp; omega
      · have hl' : letZ r = false := by simpa using hl
        have HL := Lib.hid hl'
        rw [hl']
        clear hl hl'
        by_cases h0 : pos = 0
        · have HF := Lib.hid (HX.out HL.out (.inl h0))
          subst h0
          go_wp2
          go_ret
          exact ⟨by rw [HN.out, HF.out]; rfl, HB.out _⟩
        · have hp0 : ((pos : Int) == 0) = false := by rw [beq_eq_false_iff_ne]; omega
          have H0 := Lib.hid h0
          clear h0
          go_wp2_with fail
          refine (digit_any _ _).mono ?_
          rintro e w1 ⟨rfl, hw⟩
          subst hw
          by_cases hd : digZ r = true
          · obtain ⟨c', h1, h2⟩ := HG.out (.inr ⟨H0.out, hd⟩)
            have HC := Lib.hid (show okFrom s c' (pos + n) = okAll s ∧ s.size ≤ pos + n + c' from ⟨h1, h2⟩)
            rw [hd]
            clear hd h1 h2
            go_wp2
            go_roundw
            case rel => exact ⟨pos + n, c', rfl, rfl, HC⟩
            case measure => have := HD.out; have := HP.out; simp; omega
          · have hd' : digZ r = false := by simpa using hd
            have HF := Lib.hid (HX.out HL.out (.inr hd'))
            rw [hd']
            clear hd hd'
            go_wp2
            go_ret
            exact ⟨by rw [HN.out, HF.out]; rfl, HB.out _⟩
    · have hnx : ∀ ty, (Instr.next (.pointer (some ⟨w.heap.size, 0, none⟩)) true ty).run Try.prog (w.iter s pos) = .ok (.tuple #[.bool false]) (w.iter s pos) := fun ty => run_next_end w s pos ty hp
      have HO := Lib.hid (show okAll s = true by rw [← HR.out.1, okFrom_end s c pos hp])
      clear hp
      by_cases h0 : s.size = 0
      · have HF := Lib.hid (show nmB s = false by unfold nmB; rw [h0]; simp)
        have hst : s = ⟨#[]⟩ := by
          apply ByteArray.ext
          exact Array.eq_empty_of_size_eq_zero h0
        have hse : (s.toList == []) = true := by rw [hst]; decide +kernel
        clear h0 hst
        go_wp2
        go_ret
        exact ⟨by rw [HN.out, HF.out]; rfl, HB.out _⟩
      · have hse : (s.toList == []) = false := by
          rw [ByteArray.toList_eq, beq_eq_false_iff_ne]
          intro h
          exact h0 (by show s.data.size = 0; rw [← Array.length_toList, h]; rfl)
        have H0 := Lib.hid (show 0 < s.size by omega)
        clear h0
        go_wp2_with fail
        refine (runes_any s _ HS.out).mono ?_
        rintro e w1 ⟨rfl, q, hw⟩
        have HB1 := Lib.hid (show Below w.heap.size w w1 by rw [hw]; exact bel0 _ (HB.out _))
        clear hw
        by_cases hc : Lib.runeCount s ≤ 16
        · have hci : (Lib.runeCount s : Int) ≤ 16 := by omega
          have HF := Lib.hid (show nmB s = !kwB s by unfold nmB; rw [HO.out, decide_eq_true H0.out, decide_eq_true hc]; rfl)
          clear hc
          go_wp2_with fail
          refine (keyword_any s _).mono ?_
          rintro e w2 ⟨rfl, hw⟩
          subst hw
          go_wp2
          go_ret
          exact ⟨by rw [HN.out, HF.out]; rfl, HB1.out⟩
        · have hci : ¬ (Lib.runeCount s : Int) ≤ 16 := by omega
          have HF := Lib.hid (show nmB s = false by unfold nmB; rw [decide_eq_false hc]; simp)
          clear hc
          go_wp2
          go_ret
          exact ⟨by rw [HN.out, HF.out]; rfl, HB1.out⟩
end Go.Proofs.Ytafhgilikcablaa
