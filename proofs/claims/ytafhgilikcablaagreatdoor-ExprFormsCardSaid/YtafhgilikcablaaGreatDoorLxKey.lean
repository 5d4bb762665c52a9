/- Contracts of the document's names and keywords: every text. -/
import Derived.Test.YtafhgilikcablaaGreatDoorLwLet
import Derived.Laws.Strings
import Derived.Laws.Strings2
import Derived.Laws.DeepStrings4
import Derived.Deep.DeepCutAuto
namespace Go.Proofs.YtafhgilikcablaaGreatDoor
open Go.RowKit
set_option linter.unusedVariables false
set_option linter.unusedSimpArgs false
set_option maxRecDepth 100000

set_option maxHeartbeats 3200000 in
theorem keyword_any (s : ByteArray) (w : World) : Calls Tryz.prog 57 #[.string s] w fun e w' => e = .returned (.bool (kwB s)) ∧ w' = w := by
  obtain ⟨b, hb⟩ : ∃ b, b = kwB s := ⟨_, rfl⟩
  rw [← hb]
  have HB := Lib.hid hb
  clear hb
  go_enter Tryz.func57, Tryz.ntmps57
  go_wp2
  all_goals go_ret
  all_goals first
    | (rename_i h1 h2; rw [h1] at h2; exact absurd h2 (by decide))
    | (have hk : kwB s = true := by
        unfold kwB
        rw [← ByteArray.toList_eq, eq_of_beq ‹(s.toList == _) = true›]
        decide +kernel
       exact ⟨by rw [HB.out, hk]; rfl, rfl⟩)
    | (have hk : kwB s = false := by
        unfold kwB
        rw [← ByteArray.toList_eq]
        unfold kws
        simp only [List.contains_cons, List.contains_nil, *, Bool.or_false]
       exact ⟨by rw [HB.out, hk]; rfl, rfl⟩)

set_option maxHeartbeats 3200000 in
theorem name_any (s : ByteArray) (w : World) (hs : s.size ≤ 9223372036854775807) : Calls Tryz.prog 35 #[.string s] w fun e w' => e = .returned (.bool (nmB s)) ∧ Below w.heap.size w w' := by
  have HB := Lib.hid (show ∀ p, Below w.heap.size w (w.iter s p) from fun p => bel0 _ (Below.refl _ _))
  have HS := Lib.hid hs
  obtain ⟨b, hb⟩ : ∃ b, b = nmB s := ⟨_, rfl⟩
  rw [← hb]
  have HN := Lib.hid hb
  clear hb hs
  go_enter Tryz.func35, Tryz.ntmps35
  go_wp2
  go_loopw [2] (fun n wr => ∃ pos c : Nat, wr = w.iter s pos ∧ n = .bool false ∧ Hid (okFrom s c pos = okAll s ∧ s.size ≤ pos + c)) (fun _ wr => s.size - wr.iterPos w.heap.size)
  case atStart => exact ⟨0, s.size, rfl, rfl, Lib.hid ⟨rfl, by omega⟩⟩
  case round =>
    obtain ⟨pos, c, rfl, rfl, HR⟩ := hrel
    by_cases hp : pos < s.size
    · obtain ⟨r, n, hr, hn, hn1, hnx⟩ := rune_step s pos w hp
      have HP := Lib.hid hp
      have HD := Lib.hid (show r = (Utf8.decode s pos).1 ∧ n = (Utf8.decode s pos).2 ∧ 1 ≤ n from ⟨hr, hn, hn1⟩)
      have HG := Lib.hid (show (letZ r = true ∨ (pos ≠ 0 ∧ digZ r = true)) → ∃ c', okFrom s c' (pos + n) = okAll s ∧ s.size ≤ pos + n + c' from fun h => by
        have hc := HR.out
        cases c with
        | zero => omega
        | succ c => exact ⟨c, by rw [← hc.1, hn, okFrom_good hp (by rw [← hr]; exact h)], by omega⟩)
      have HX := Lib.hid (show letZ r = false → (pos = 0 ∨ digZ r = false) → nmB s = false from fun h1 h2 => by
        unfold nmB
        rw [← HR.out.1, okFrom_bad hp (by rw [← hr]; exact h1) (by rw [← hr]; exact h2) HR.out.2]; rfl)
      clear hr hn hn1 hp
      go_wp2_with fail
      refine (letter_any _ _).mono ?_
      rintro e w1 ⟨rfl, hw⟩
      subst hw
      by_cases hl : letZ r = true
      · obtain ⟨c', h1, h2⟩ := HG.out (.inl hl)
        have HC := Lib.hid (show okFrom s c' (pos + n) = okAll s ∧ s.size ≤ pos + n + c' from ⟨h1, h2⟩)
        rw [hl]
        clear hl h1 h2
        go_wp2
        go_roundw
        case rel => exact ⟨pos + n, c', rfl, rfl, HC⟩
        case measure => have := HD.out; have := HP.out; simp; omega
      · have hl' : letZ r = false := by simpa using hl
        have HL := Lib.hid hl'
        rw [hl']
        clear hl hl'
        by_cases h0 : pos = 0
        · have HF := Lib.hid (HX.out HL.out (.inl h0))
          subst h0
          go_wp2
          go_ret
          exact ⟨by rw [HN.out, HF.out]; rfl, HB.out _⟩
        · have hp0 : ((pos : Int) == 0) = false := by rw [beq_eq_false_iff_ne]; omega
          have H0 := Lib.hid h0
          clear h0
          go_wp2_with fail
          refine (digit_any _ _).mono ?_
          rintro e w1 ⟨rfl, hw⟩
          subst hw
          by_cases hd : digZ r = true
          · obtain ⟨c', h1, h2⟩ := HG.out (.inr ⟨H0.out, hd⟩)
            have HC := Lib.hid (show okFrom s c' (pos + n) = okAll s ∧ s.size ≤ pos + n + c' from ⟨h1, h2⟩)
            rw [hd]
            clear hd h1 h2
            go_wp2
            go_roundw
            case rel => exact ⟨pos + n, c', rfl, rfl, HC⟩
            case measure => have := HD.out; have := HP.out; simp; omega
          · have hd' : digZ r = false := by simpa using hd
            have HF := Lib.hid (HX.out HL.out (.inr hd'))
            rw [hd']
            clear hd hd'
            go_wp2
            go_ret
            exact ⟨by rw [HN.out, HF.out]; rfl, HB.out _⟩
    · have hnx : ∀ ty, (Instr.next (.pointer (some ⟨w.heap.size, 0, none⟩)) true ty).run Tryz.prog (w.iter s pos) = .ok (.tuple #[.bool false]) (w.iter s pos) := fun ty => run_next_end w s pos ty hp
      have HO := Lib.hid (show okAll s = true by rw [← HR.out.1, okFrom_end s c pos hp])
      clear hp
      by_cases h0 : s.size = 0
      · have HF := Lib.hid (show nmB s = false by unfold nmB; rw [h0]; simp)
        have hst : s = ⟨#[]⟩ := by
          apply ByteArray.ext
          exact Array.eq_empty_of_size_eq_zero h0
        have hse : (s.toList == []) = true := by rw [hst]; decide +kernel
        clear h0 hst
        go_wp2
        go_ret
        exact ⟨by rw [HN.out, HF.out]; rfl, HB.out _⟩
      · have hse : (s.toList == []) = false := by
          rw [ByteArray.toList_eq, beq_eq_false_iff_ne]
          intro h
          exact h0 (by show s.data.size = 0; rw [← Array.length_toList, h]; rfl)
        have H0 := Lib.hid (show 0 < s.size by omega)
        clear h0
        go_wp2_with fail
        refine (runes_any s _ HS.out).mono ?_
        rintro e w1 ⟨rfl, q, hw⟩
        have HB1 := Lib.hid (show Below w.heap.size w w1 by rw [hw]; exact bel0 _ (HB.out _))
        clear hw
        by_cases hc : Lib.runeCount s ≤ 16
        · have hci : (Lib.runeCount s : Int) ≤ 16 := by omega
          have HF := Lib.hid (show nmB s = !kwB s by unfold nmB; rw [HO.out, decide_eq_true H0.out, decide_eq_true hc]; rfl)
          clear hc
          go_wp2_with fail
          refine (keyword_any s _).mono ?_
          rintro e w2 ⟨rfl, hw⟩
          subst hw
          go_wp2
          go_ret
          exact ⟨by rw [HN.out, HF.out]; rfl, HB1.out⟩
        · have hci : ¬ (Lib.runeCount s : Int) ≤ 16 := by omega
          have HF := Lib.hid (show nmB s = false by unfold nmB; rw [decide_eq_false hc]; simp)
          clear hc
          go_wp2
          go_ret
          exact ⟨by rw [HN.out, HF.out]; rfl, HB1.out⟩
end Go.Proofs.YtafhgilikcablaaGreatDoor
namespace Go.Proofs.YtafhgilikcablaaGreatDoor
open Go.RowKit
set_option linter.unusedVariables false
set_option linter.unusedSimpArgs false
set_option maxRecDepth 100000

def nmdB (s : ByteArray) : Bool := okAll s && (decide (0 < Lib.runeCount s) && decide (Lib.runeCount s ≤ 16))
theorem nmB_eq (s : ByteArray) : nmB s = (nmdB s && !kwB s) := by
  unfold nmB nmdB
  by_cases h : s.size = 0
  · rw [runes_zero h, h]; simp
  · have := runes_pos (s := s) (by omega)
    rw [decide_eq_true this, decide_eq_true (show 0 < s.size by omega)]
    simp

set_option maxHeartbeats 3200000 in
theorem rnamed_any (s : ByteArray) (w : World) (hs : s.size ≤ 9223372036854775807) : Calls Tryz.prog 58 #[.string s] w fun e w' => e = .returned (.bool (nmdB s)) ∧ Below w.heap.size w w' := by
  have HB := Lib.hid (show ∀ p, Below w.heap.size w (w.iter s p) from fun p => bel0 _ (Below.refl _ _))
  have HS := Lib.hid hs
  have HSr := Lib.hid (Lib.runeCount_le s)
  obtain ⟨b, hb⟩ : ∃ b, b = nmdB s := ⟨_, rfl⟩
  rw [← hb]
  have HN := Lib.hid hb
  clear hb hs
  go_enter Tryz.func58, Tryz.ntmps58
  go_wp2
  go_loopw [3] (fun n wr => ∃ pos c acc : Nat, wr = w.iter s pos ∧ n = .int .i64 (acc : Int) ∧ Hid (okFrom s c pos = okAll s ∧ s.size ≤ pos + c ∧ acc + Lib.runeCountFrom s c pos = Lib.runeCount s ∧ acc ≤ pos ∧ (acc = 0 → pos = 0))) (fun _ wr => s.size - wr.iterPos w.heap.size)
  case atStart => exact ⟨0, s.size, 0, rfl, rfl, Lib.hid ⟨rfl, by omega, by simp [Lib.runeCount], Nat.le_refl _, fun _ => rfl⟩⟩
  case round =>
    obtain ⟨pos, c, acc, rfl, rfl, HR⟩ := hrel
    by_cases hp : pos < s.size
    · obtain ⟨r, n, hr, hn, hn1, hnx⟩ := rune_step s pos w hp
      have HP := Lib.hid hp
      have HD := Lib.hid (show r = (Utf8.decode s pos).1 ∧ n = (Utf8.decode s pos).2 ∧ 1 ≤ n from ⟨hr, hn, hn1⟩)
      have hac : (acc : Int) < 9223372036854775807 := by have := HR.out.2.2.2.1; have := HS.out; omega
      have hac0 : (0 : Int) ≤ (acc : Int) := by omega
      have HG := Lib.hid (show (letZ r = true ∨ (pos ≠ 0 ∧ digZ r = true)) → ∃ c', okFrom s c' (pos + n) = okAll s ∧ s.size ≤ pos + n + c' ∧ acc + 1 + Lib.runeCountFrom s c' (pos + n) = Lib.runeCount s ∧ acc + 1 ≤ pos + n ∧ (acc + 1 = 0 → pos + n = 0) from fun h => by
        have hc := HR.out
        cases c with
        | zero => omega
        | succ c =>
          refine ⟨c, by rw [← hc.1, hn, okFrom_good hp (by rw [← hr]; exact h)], by omega, ?_, by omega, by omega⟩
          have := hc.2.2.1
          unfold Lib.runeCountFrom at this
          rw [if_pos hp, ← hn] at this
          omega)
      have HX := Lib.hid (show letZ r = false → (pos = 0 ∨ digZ r = false) → nmdB s = false from fun h1 h2 => by
        unfold nmdB
        rw [← HR.out.1, okFrom_bad hp (by rw [← hr]; exact h1) (by rw [← hr]; exact h2) HR.out.2.1]; rfl)
      clear hr hn hn1 hp
      go_wp2_with fail
      refine (rletter_any _ _).mono ?_
      rintro e w1 ⟨rfl, hw⟩
      subst hw
      by_cases hl : letZ r = true
      · obtain ⟨c', h1⟩ := HG.out (.inl hl)
        have HC := Lib.hid h1
        rw [hl]
        clear hl h1
        go_wp2
        go_roundw
        case rel => exact ⟨pos + n, c', acc + 1, rfl, by go_num, HC⟩
        case measure => have := HD.out; have := HP.out; simp; omega
      · have hl' : letZ r = false := by simpa using hl
        have HL := Lib.hid hl'
        rw [hl']
        clear hl hl'
        by_cases h0 : acc = 0
        · have HF := Lib.hid (HX.out HL.out (.inl (HR.out.2.2.2.2 h0)))
          subst h0
          go_wp2
          go_ret
          exact ⟨by rw [HN.out, HF.out]; rfl, HB.out _⟩
        · have hp0 : ((acc : Int) == 0) = false := by rw [beq_eq_false_iff_ne]; omega
          have H0 := Lib.hid (show pos ≠ 0 by have := HR.out.2.2.2.1; omega)
          clear h0
          go_wp2_with fail
          refine (rdigit_any _ _).mono ?_
          rintro e w1 ⟨rfl, hw⟩
          subst hw
          by_cases hd : digZ r = true
          · obtain ⟨c', h1⟩ := HG.out (.inr ⟨H0.out, hd⟩)
            have HC := Lib.hid h1
            rw [hd]
            clear hd h1
            go_wp2
            go_roundw
            case rel => exact ⟨pos + n, c', acc + 1, rfl, by go_num, HC⟩
            case measure => have := HD.out; have := HP.out; simp; omega
          · have hd' : digZ r = false := by simpa using hd
            have HF := Lib.hid (HX.out HL.out (.inr hd'))
            rw [hd']
            clear hd hd'
            go_wp2
            go_ret
            exact ⟨by rw [HN.out, HF.out]; rfl, HB.out _⟩
    · have hnx : ∀ ty, (Instr.next (.pointer (some ⟨w.heap.size, 0, none⟩)) true ty).run Tryz.prog (w.iter s pos) = .ok (.tuple #[.bool false]) (w.iter s pos) := fun ty => run_next_end w s pos ty hp
      have HF := Lib.hid (show nmdB s = (decide (0 < acc) && decide (acc ≤ 16)) by
        have h := HR.out.2.2.1
        rw [Lib.runeCountFrom_end s c pos hp, Nat.add_zero] at h
        unfold nmdB
        rw [← HR.out.1, okFrom_end s c pos hp, ← h]; rfl)
      clear hp
      by_cases h0 : 0 < acc
      · have h0i : (0 : Int) < (acc : Int) := by omega
        have HF1 := Lib.hid (show nmdB s = decide (acc ≤ 16) by rw [HF.out, decide_eq_true h0]; rfl)
        clear h0
        by_cases h1 : acc ≤ 16
        · have h1i : (acc : Int) ≤ 16 := by omega
          have HF2 := Lib.hid (show nmdB s = true by rw [HF1.out, decide_eq_true h1])
          clear h1
          go_wp2
          go_ret
          exact ⟨by rw [HN.out, HF2.out]; simp, HB.out _⟩
        · have h1i : ¬ (acc : Int) ≤ 16 := by omega
          have HF2 := Lib.hid (show nmdB s = false by rw [HF1.out, decide_eq_false h1])
          clear h1
          go_wp2
          go_ret
          exact ⟨by rw [HN.out, HF2.out]; simp, HB.out _⟩
      · obtain rfl : acc = 0 := by omega
        have HF2 := Lib.hid (show nmdB s = false by rw [HF.out]; rfl)
        clear h0
        go_wp2
        go_ret
        exact ⟨by rw [HN.out, HF2.out]; rfl, HB.out _⟩

/-- the word between blanks -/
def blk (s : ByteArray) : ByteArray := ByteArray.mk #[32] ++ s ++ ByteArray.mk #[32]
theorem blk_list (s : ByteArray) : (blk s).toList = 32 :: (s.data.toList ++ [32]) := by
  unfold blk
  rw [ByteArray.toList_eq, ByteArray.data_append, ByteArray.data_append, Array.toList_append, Array.toList_append]
  simp
theorem blk_size (s : ByteArray) : (blk s).size = s.size + 2 := by
  unfold blk
  rw [ByteArray.size_append, ByteArray.size_append]
  show 1 + s.size + 1 = _
  omega
theorem kwB_empty : kwB ⟨#[]⟩ = false := by decide +kernel
theorem kwB_blank {s : ByteArray} {k : Nat} (h : k < s.size) (hb : (s[k]'h) = 32) : kwB s = false := by
  rw [Bool.eq_false_iff]
  intro hk
  have hm := List.all_eq_true.1 kw_small _ (List.contains_iff_mem.1 hk)
  have h2 : s.data.toList[k]? = some 32 := by
    rw [Array.getElem?_toList]
    have : s.data[k]? = some (s.data[k]'h) := Array.getElem?_eq_getElem h
    rw [this]
    exact congrArg some hb
  have := List.all_eq_true.1 hm 32 (List.mem_of_getElem? h2)
  simp at this

set_option maxHeartbeats 3200000 in
theorem rkeyword_any (s : ByteArray) (w : World) (hs : s.size ≤ 140737488355328) : Calls Tryz.prog 59 #[.string s] w fun e w' => e = .returned (.bool (kwB s)) ∧ w' = w := by
  obtain ⟨b, hb⟩ : ∃ b, b = kwB s := ⟨_, rfl⟩
  rw [← hb]
  have HN := Lib.hid hb
  clear hb
  have hsi : (s.size : Int) ≤ 140737488355328 := by omega
  by_cases h0 : s.size = 0
  · have hst : s = ⟨#[]⟩ := by
      apply ByteArray.ext
      exact Array.eq_empty_of_size_eq_zero h0
    subst hst
    go_enter Tryz.func59, Tryz.ntmps59
    go_wp2
    go_ret
    exact ⟨by rw [HN.out, kwB_empty]; rfl, rfl⟩
  · have hse : (s.toList == []) = false := by
      rw [ByteArray.toList_eq, beq_eq_false_iff_ne]
      intro h
      exact h0 (by show s.data.size = 0; rw [← Array.length_toList, h]; rfl)
    have H0 := Lib.hid (show 0 < s.size by omega)
    clear h0
    go_enter Tryz.func59, Tryz.ntmps59
    go_wp2
    go_loop [10] (fun i => ∃ k : Nat, k ≤ s.size ∧ i = .int .i64 (k : Int) ∧ Hid (∀ j (h : j < s.size), j < k → (s[j]'h) ≠ 32)) (fun i => s.size - (intOf i).toNat)
    case atStart => exact ⟨0, by omega, rfl, Lib.hid (fun j h hj => absurd hj (Nat.not_lt_zero _))⟩
    case round =>
      obtain ⟨k, hk, rfl, HK⟩ := hrel
      by_cases hlt : k < s.size
      · have hki : (k : Int) < (s.size : Int) := by omega
        have hk0 : (0 : Int) ≤ (k : Int) := by omega
        have hkt : (k : Int).toNat = k := by omega
        obtain ⟨y, hy⟩ : ∃ y : UInt8, y = s[k]'hlt := ⟨_, rfl⟩
        have hix : ∀ W, (Instr.index 9 (.string s) (.int .i64 (k : Int))).run Tryz.prog W = .ok (.int .u8 (y.toNat : Int)) W := fun W => by
          rw [run_index_string W 9 s .i64 (k : Int) Tryz.underlying9, dif_pos ⟨hk0, hki⟩, hy]
          simp only [hkt]
        by_cases hb : y = 32
        · have HF := Lib.hid (kwB_blank hlt (by rw [← hy]; exact hb))
          subst hb
          clear hy
          go_wp2
          go_ret
          exact ⟨by rw [HN.out, HF.out]; rfl, rfl⟩
        · have hyb : ((y.toNat : Int) == 32) = false := by
            rw [beq_eq_false_iff_ne]
            intro h
            apply hb
            apply UInt8.toNat_inj.1
            show y.toNat = 32
            omega
          have HL := Lib.hid (show k < s.size ∧ ∀ j (h : j < s.size), j < k + 1 → (s[j]'h) ≠ 32 from ⟨hlt, fun j h hj => by
            rcases Nat.lt_succ_iff_lt_or_eq.1 hj with h1 | rfl
            · exact HK.out j h h1
            · rw [← hy]; exact hb⟩)
          clear hy hb hlt hk
          go_wp2
          refine ⟨⟨k + 1, HL.out.1, by go_num, Lib.hid HL.out.2⟩, by have := HL.out.1; simp [intOf]; omega⟩
      · obtain rfl : k = s.size := by omega
        have HM := Lib.hid (kw_at H0.out (fun b hb => by
          obtain ⟨j, hj, he⟩ := List.getElem_of_mem hb
          have hj' : j < s.size := by rw [Array.length_toList] at hj; exact hj
          have := HK.out j hj' hj'
          rw [← he, Array.getElem_toList]
          exact this))
        clear hk hlt HK
        have hov : ¬ (9223372036854775807 < 1 + (s.size : Int)) := by omega
        have hB1 := blk_list s
        have hB2 := blk_size s
        unfold blk at hB1 hB2
        go_wp2
        generalize (ByteArray.mk #[32] ++ s ++ ByteArray.mk #[32]) = t at *
        have HT1 := Lib.hid hB1
        have HT2 := Lib.hid hB2
        have hts : (t.size : Int) ≤ 140737488355330 := by omega
        have hts0 : (0 : Int) ≤ (t.size : Int) := by omega
        clear hB1 hB2 hov hse hsi hs
        go_loop [5] (fun i => ∃ k : Nat, i = .int .i64 (k : Int) ∧ Hid (k ≤ 224 ∧ ∀ j, j < k → ¬ (j + (s.size + 2) ≤ 223 ∧ (kwT.drop j).take (s.size + 2) = 32 :: (s.data.toList ++ [32])))) (fun i => 225 - (intOf i).toNat)
        case atStart => exact ⟨0, rfl, Lib.hid ⟨by omega, fun j hj => absurd hj (Nat.not_lt_zero _)⟩⟩
        case round =>
          obtain ⟨k, rfl, HK⟩ := hrel
          have hk0 : (0 : Int) ≤ (k : Int) := by omega
          have hk1 : (k : Int) ≤ 224 := by have := HK.out.1; omega
          by_cases hfit : (k : Int) + (t.size : Int) ≤ 223
          · have HFit := Lib.hid (show k + (s.size + 2) ≤ 223 by rw [← HT2.out]; omega)
            have HFi := Lib.hid hfit
            have hX : (((ByteArray.mk #[32, 67, 82, 69, 65, 84, 69, 32, 84, 65, 66, 76, 69, 32, 73, 78, 68, 69, 88, 32, 85, 78, 73, 81, 85, 69, 32, 77, 65, 84, 69, 82, 73, 65, 76, 73, 90, 69, 68, 32, 86, 73, 69, 87, 32, 68, 82, 79, 80, 32, 73, 78, 83, 69, 82, 84, 32, 73, 78, 84, 79, 32, 86, 65, 76, 85, 69, 83, 32, 85, 80, 68, 65, 84, 69, 32, 83, 69, 84, 32, 68, 69, 76, 69, 84, 69, 32, 70, 82, 79, 77, 32, 83, 69, 76, 69, 67, 84, 32, 68, 73, 83, 84, 73, 78, 67, 84, 32, 87, 72, 69, 82, 69, 32, 71, 82, 79, 85, 80, 32, 66, 89, 32, 79, 82, 68, 69, 82, 32, 65, 83, 67, 32, 68, 69, 83, 67, 32, 76, 73, 77, 73, 84, 32, 74, 79, 73, 78, 32, 79, 78, 32, 65, 83, 32, 65, 78, 68, 32, 79, 82, 32, 78, 79, 84, 32, 73, 83, 32, 78, 85, 76, 76, 32, 73, 78, 84, 32, 84, 69, 88, 84, 32, 66, 69, 71, 73, 78, 32, 67, 79, 77, 77, 73, 84, 32, 82, 79, 76, 76, 66, 65, 67, 75, 32, 67, 79, 85, 78, 84, 32, 83, 85, 77, 32, 77, 73, 78, 32, 77, 65, 88, 32])).extract k (k + t.size)).toList = (kwT.drop k).take (s.size + 2) := by
              rw [ByteArray.toList_eq, ByteArray.data_extract, Array.toList_extract, HT2.out]
              have e : (#[32, 67, 82, 69, 65, 84, 69, 32, 84, 65, 66, 76, 69, 32, 73, 78, 68, 69, 88, 32, 85, 78, 73, 81, 85, 69, 32, 77, 65, 84, 69, 82, 73, 65, 76, 73, 90, 69, 68, 32, 86, 73, 69, 87, 32, 68, 82, 79, 80, 32, 73, 78, 83, 69, 82, 84, 32, 73, 78, 84, 79, 32, 86, 65, 76, 85, 69, 83, 32, 85, 80, 68, 65, 84, 69, 32, 83, 69, 84, 32, 68, 69, 76, 69, 84, 69, 32, 70, 82, 79, 77, 32, 83, 69, 76, 69, 67, 84, 32, 68, 73, 83, 84, 73, 78, 67, 84, 32, 87, 72, 69, 82, 69, 32, 71, 82, 79, 85, 80, 32, 66, 89, 32, 79, 82, 68, 69, 82, 32, 65, 83, 67, 32, 68, 69, 83, 67, 32, 76, 73, 77, 73, 84, 32, 74, 79, 73, 78, 32, 79, 78, 32, 65, 83, 32, 65, 78, 68, 32, 79, 82, 32, 78, 79, 84, 32, 73, 83, 32, 78, 85, 76, 76, 32, 73, 78, 84, 32, 84, 69, 88, 84, 32, 66, 69, 71, 73, 78, 32, 67, 79, 77, 77, 73, 84, 32, 82, 79, 76, 76, 66, 65, 67, 75, 32, 67, 79, 85, 78, 84, 32, 83, 85, 77, 32, 77, 73, 78, 32, 77, 65, 88, 32] : Array UInt8).toList = kwT := by decide +kernel
              simp only [e, List.extract]
              congr 1
              omega
            have HX := Lib.hid hX
            clear hX
            by_cases hq : (kwT.drop k).take (s.size + 2) = 32 :: (s.data.toList ++ [32])
            · have hqe : ((((ByteArray.mk #[32, 67, 82, 69, 65, 84, 69, 32, 84, 65, 66, 76, 69, 32, 73, 78, 68, 69, 88, 32, 85, 78, 73, 81, 85, 69, 32, 77, 65, 84, 69, 82, 73, 65, 76, 73, 90, 69, 68, 32, 86, 73, 69, 87, 32, 68, 82, 79, 80, 32, 73, 78, 83, 69, 82, 84, 32, 73, 78, 84, 79, 32, 86, 65, 76, 85, 69, 83, 32, 85, 80, 68, 65, 84, 69, 32, 83, 69, 84, 32, 68, 69, 76, 69, 84, 69, 32, 70, 82, 79, 77, 32, 83, 69, 76, 69, 67, 84, 32, 68, 73, 83, 84, 73, 78, 67, 84, 32, 87, 72, 69, 82, 69, 32, 71, 82, 79, 85, 80, 32, 66, 89, 32, 79, 82, 68, 69, 82, 32, 65, 83, 67, 32, 68, 69, 83, 67, 32, 76, 73, 77, 73, 84, 32, 74, 79, 73, 78, 32, 79, 78, 32, 65, 83, 32, 65, 78, 68, 32, 79, 82, 32, 78, 79, 84, 32, 73, 83, 32, 78, 85, 76, 76, 32, 73, 78, 84, 32, 84, 69, 88, 84, 32, 66, 69, 71, 73, 78, 32, 67, 79, 77, 77, 73, 84, 32, 82, 79, 76, 76, 66, 65, 67, 75, 32, 67, 79, 85, 78, 84, 32, 83, 85, 77, 32, 77, 73, 78, 32, 77, 65, 88, 32])).extract k (k + t.size)).toList == t.toList) = true := by rw [HT1.out, HX.out, beq_iff_eq]; exact hq
              have HF := Lib.hid (HM.out.2 ⟨k, HFit.out, hq⟩)
              clear hq
              go_wp2
              go_ret
              exact ⟨by rw [HN.out, HF.out]; rfl, rfl⟩
            · have hqe : ((((ByteArray.mk #[32, 67, 82, 69, 65, 84, 69, 32, 84, 65, 66, 76, 69, 32, 73, 78, 68, 69, 88, 32, 85, 78, 73, 81, 85, 69, 32, 77, 65, 84, 69, 82, 73, 65, 76, 73, 90, 69, 68, 32, 86, 73, 69, 87, 32, 68, 82, 79, 80, 32, 73, 78, 83, 69, 82, 84, 32, 73, 78, 84, 79, 32, 86, 65, 76, 85, 69, 83, 32, 85, 80, 68, 65, 84, 69, 32, 83, 69, 84, 32, 68, 69, 76, 69, 84, 69, 32, 70, 82, 79, 77, 32, 83, 69, 76, 69, 67, 84, 32, 68, 73, 83, 84, 73, 78, 67, 84, 32, 87, 72, 69, 82, 69, 32, 71, 82, 79, 85, 80, 32, 66, 89, 32, 79, 82, 68, 69, 82, 32, 65, 83, 67, 32, 68, 69, 83, 67, 32, 76, 73, 77, 73, 84, 32, 74, 79, 73, 78, 32, 79, 78, 32, 65, 83, 32, 65, 78, 68, 32, 79, 82, 32, 78, 79, 84, 32, 73, 83, 32, 78, 85, 76, 76, 32, 73, 78, 84, 32, 84, 69, 88, 84, 32, 66, 69, 71, 73, 78, 32, 67, 79, 77, 77, 73, 84, 32, 82, 79, 76, 76, 66, 65, 67, 75, 32, 67, 79, 85, 78, 84, 32, 83, 85, 77, 32, 77, 73, 78, 32, 77, 65, 88, 32])).extract k (k + t.size)).toList == t.toList) = false := by rw [HT1.out, HX.out, beq_eq_false_iff_ne]; exact hq
              have HL := Lib.hid (show k + 1 ≤ 224 ∧ ∀ j, j < k + 1 → ¬ (j + (s.size + 2) ≤ 223 ∧ (kwT.drop j).take (s.size + 2) = 32 :: (s.data.toList ++ [32])) from ⟨by have := HFit.out; omega, fun j hj => by
                rcases Nat.lt_succ_iff_lt_or_eq.1 hj with h1 | rfl
                · exact HK.out.2 j h1
                · rintro ⟨_, h2⟩
                  exact hq h2⟩)
              clear hq
              go_wp2
              refine ⟨⟨k + 1, by go_num, HL⟩, by have := HL.out.1; simp [intOf]; omega⟩
          · have HF := Lib.hid (show kwB s = false by
              rw [Bool.eq_false_iff]
              intro h
              obtain ⟨i, h1, h2⟩ := HM.out.1 h
              by_cases hik : i < k
              · exact HK.out.2 i hik ⟨h1, h2⟩
              · have := HT2.out; omega)
            go_wp2
            go_ret
            exact ⟨by rw [HN.out, HF.out]; rfl, rfl⟩
end Go.Proofs.YtafhgilikcablaaGreatDoor
