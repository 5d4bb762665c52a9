/- LexerNotes: the law's walk. -/
import Derived.Test.YtplgkblahmndoaaDoorLnApp
namespace Go.Proofs.YtplgkblahmndoaaDoor
open Go.RowKit Go.Lib
set_option linter.unusedVariables false
set_option maxRecDepth 100000

/-- the words, or an error, apart -/
def WordsQ (w : World) (v : Value) (c : Int) (w' : World) : An (List Wd) → Prop
  | .ok ws => c = 0 ∧ w'.ownsRow w.heap.size 33 3 v ws.length (wsX ws)
  | .no _ => (c == 0) = false
theorem WordsP.form {w : World} {o : An (List Wd)} {e : Ending} {w' : World} (h : WordsP w o e w') : ∃ v c, e = .returned (.tuple #[v, .int .i64 c]) ∧ Below w.heap.size w w' ∧ WordsQ w v c w' o := by
  cases o with
  | ok ws =>
    obtain ⟨v, rfl, ho, hb⟩ := h
    exact ⟨v, 0, rfl, hb, rfl, ho⟩
  | no x =>
    obtain ⟨rfl, hx, hb⟩ := h
    exact ⟨_, x, rfl, hb, beq_eq_false_iff_ne.2 hx⟩
theorem bapp (a b : ByteArray) : (a ++ b).data.toList = a.data.toList ++ b.data.toList := by rw [ByteArray.data_append, Array.toList_append]
theorem note_list (a note b : ByteArray) : (a ++ ⟨#[10, 45, 45]⟩ ++ note ++ ⟨#[10, 9, 32]⟩ ++ b : ByteArray).data.toList = a.data.toList ++ (10 :: 45 :: 45 :: (note.data.toList ++ (10 :: 9 :: 32 :: b.data.toList))) := by
  rw [bapp, bapp, bapp, bapp]
  simp
theorem note_size (a note b : ByteArray) : (a ++ ⟨#[10, 45, 45]⟩ ++ note ++ ⟨#[10, 9, 32]⟩ ++ b : ByteArray).size = a.size + note.size + b.size + 6 := by
  rw [← len_list, note_list]
  simp only [List.length_append, List.length_cons, len_list]
  omega
set_option maxHeartbeats 6400000 in
theorem lexerNotes_walk (a note b : ByteArray) (w : World) (hv : VOk w) (hN : gMax < w.heap.size ∧ gErr < w.heap.size) (ha : a.size ≤ 140737488355328) (hn : note.size ≤ 140737488355328) (hb : b.size ≤ 140737488355328) :
    Calls Tryd.prog 5 #[.string a, .string note, .string b] w fun e w' => e = .returned (.bool true) ∧ Below w.heap.size w w' := by
  have HV := Lib.hid hv
  have ha2 : (a.size : Int) ≤ 140737488355328 := by omega
  have hn2 : (note.size : Int) ≤ 140737488355328 := by omega
  have hb2 : (b.size : Int) ≤ 140737488355328 := by omega
  have ha0 : (0 : Int) ≤ (a.size : Int) := by omega
  have hn0 : (0 : Int) ≤ (note.size : Int) := by omega
  have hb0 : (0 : Int) ≤ (b.size : Int) := by omega
  clear hv
  go_enter Tryd.func5, Tryd.ntmps5
  by_cases h3 : 3000 < a.size + note.size + b.size
  · have h3i : (3000 : Int) < (a.size : Int) + (note.size : Int) + (b.size : Int) := by omega
    clear h3
    go_wp2_with fail
    refine (awake_all _ HV.out hN).mono ?_
    rintro e w1 ⟨rfl, hb1⟩
    have HB1 := Lib.hid hb1
    clear hb1
    go_wp2_with fail
    refine (awake_all _ (HV.out.below HB1.out hN) ⟨Nat.lt_of_lt_of_le hN.1 HB1.out.size, Nat.lt_of_lt_of_le hN.2 HB1.out.size⟩).mono ?_
    rintro e w2 ⟨rfl, hb2⟩
    have HB2 := Lib.hid (bt HB1.out hb2)
    clear hb2
    go_wp2
    go_ret
    exact ⟨rfl, HB2.out⟩
  · have h3i : (a.size : Int) + (note.size : Int) + (b.size : Int) ≤ 3000 := by omega
    clear h3
    go_wp2_with fail
    refine (awake_all _ HV.out hN).mono ?_
    rintro e w1 ⟨rfl, hb1⟩
    have HB1 := Lib.hid hb1
    have HV1 := Lib.hid (HV.out.below HB1.out hN)
    have hN1 : gMax < w1.heap.size ∧ gErr < w1.heap.size := ⟨Nat.lt_of_lt_of_le hN.1 HB1.out.size, Nat.lt_of_lt_of_le hN.2 HB1.out.size⟩
    clear hb1
    go_wp2_with fail
    go_loopw [30] (fun i wr => ∃ k : Nat, k ≤ note.size ∧ i = .int .i64 (k : Int) ∧ wr = w1 ∧ Hid (∀ c ∈ note.data.toList.take k, c ≠ 10)) (fun i _ => note.size - (RowKit.intOf i).toNat)
    case atStart => exact ⟨0, by omega, rfl, rfl, Lib.hid (by simp)⟩
    case round =>
      obtain ⟨k, hk, rfl, rfl, HI⟩ := hrel
      have hk0 : (0 : Int) ≤ (k : Int) := by omega
      by_cases hlt : k < note.size
      · have hki : (k : Int) < (note.size : Int) := by omega
        by_cases hc : note[k]'hlt = 10
        · have hcb : ((((note[k]'hlt).toNat : Nat) : Int) == 10) = true := by rw [hc]; rfl
          clear hc
          go_wp2
          go_ret
          exact ⟨rfl, HB1.out⟩
        · have hcb : ((((note[k]'hlt).toNat : Nat) : Int) == 10) = false := by
            rw [beq_eq_false_iff_ne]
            intro e
            exact hc (UInt8.toNat_inj.1 (by have : (note[k]'hlt).toNat = 10 := by omega
                                            rw [this]; rfl))
          have HK := Lib.hid (show ∀ c ∈ note.data.toList.take (k + 1), c ≠ 10 by
            intro c hm
            have e : note.data.toList.take (k + 1) = note.data.toList.take k ++ [note[k]'hlt] := by
              rw [List.take_add_one]
              congr 1
              have : note.data.toList[k]? = some (note[k]'hlt) := by
                rw [Array.getElem?_toList]
                exact Array.getElem?_eq_getElem hlt
              rw [this]; rfl
            rw [e] at hm
            rcases List.mem_append.1 hm with h | h
            · exact HI.out c h
            · rw [List.mem_singleton.1 h]; exact hc)
          clear hc
          go_wp2
          go_roundw
          case rel => exact ⟨k + 1, by omega, rfl, trivial, HK⟩
          case measure =>
            simp [go_sem, RowKit.intOf]
            omega
      · obtain rfl : k = note.size := by omega
        clear hlt
        have HI2 := Lib.hid (show ∀ c ∈ note.data.toList, c ≠ 10 by
          have := HI.out
          rwa [List.take_of_length_le (by rw [len_list]; omega)] at this)
        have HA := Lib.hid (show wordsA a.data.toList = run (0, [], []) a.data.toList by unfold wordsA; rw [if_neg (by rw [len_list]; omega)])
        have HBw := Lib.hid (show wordsA b.data.toList = run (0, [], []) b.data.toList by unfold wordsA; rw [if_neg (by rw [len_list]; omega)])
        have hsa : a.size ≤ 3000 ∧ b.size ≤ 3000 ∧ a.size + note.size + b.size ≤ 3000 := by omega
        clear HI
        go_wp2_with fail
        refine (words_any a _ HV1.out hN1 (by omega)).mono ?_
        rintro e w2 hp
        obtain ⟨vx, cx, rfl, hb2, hx⟩ := hp.form
        have HX := Lib.hid hx
        have HB2 := Lib.hid (bt HB1.out hb2)
        have HV2 := Lib.hid (HV.out.below HB2.out hN)
        have hN2 : gMax < w2.heap.size ∧ gErr < w2.heap.size := ⟨Nat.lt_of_lt_of_le hN1.1 hb2.size, Nat.lt_of_lt_of_le hN1.2 hb2.size⟩
        clear hp hx hb2
        go_wp2_with fail
        refine (words_any b _ HV2.out hN2 (by omega)).mono ?_
        rintro e w3 hp
        obtain ⟨vy, cy, rfl, hb3, hy⟩ := hp.form
        have HY := Lib.hid hy
        have HB23 := Lib.hid hb3
        have HB3 := Lib.hid (bt HB2.out hb3)
        have HV3 := Lib.hid (HV.out.below HB3.out hN)
        have hN3 : gMax < w3.heap.size ∧ gErr < w3.heap.size := ⟨Nat.lt_of_lt_of_le hN2.1 hb3.size, Nat.lt_of_lt_of_le hN2.2 hb3.size⟩
        clear hp hy hb3
        cases hra : wordsA a.data.toList with
        | no x =>
          have hcx : (cx == 0) = false := by have := HX.out; rw [hra] at this; exact this
          have hcx2 : (cx != 0) = true := by simp [bne, hcx]
          clear hcx hra
          go_wp2
          go_ret
          exact ⟨rfl, HB3.out⟩
        | ok X =>
          have HXo := Lib.hid (show cx = 0 ∧ w2.ownsRow wr.heap.size 33 3 vx X.length (wsX X) by have := HX.out; rw [hra] at this; exact this)
          obtain rfl : cx = 0 := HXo.out.1
          cases hrb : wordsA b.data.toList with
          | no x =>
            have hcy : (cy == 0) = false := by have := HY.out; rw [hrb] at this; exact this
            have hcy2 : (cy != 0) = true := by simp [bne, hcy]
            clear hcy hra hrb
            go_wp2
            go_ret
            exact ⟨rfl, HB3.out⟩
          | ok Y =>
            have HYo := Lib.hid (show cy = 0 ∧ w3.ownsRow w2.heap.size 33 3 vy Y.length (wsX Y) by have := HY.out; rw [hrb] at this; exact this)
            obtain rfl : cy = 0 := HYo.out.1
            obtain ⟨ax, cx, rfl⟩ := own_slice3 HXo.out.2
            obtain ⟨ay, cy, rfl⟩ := own_slice3 HYo.out.2
            have HRA := Lib.hid (HA.out.symm.trans hra)
            have HRB := Lib.hid (HBw.out.symm.trans hrb)
            have hX6 : X.length ≤ 600 := run_most _ _ _ _ _ _ (Nat.le_refl _) HRA.out (by simp)
            have hY6 : Y.length ≤ 600 := run_most _ _ _ _ _ _ (Nat.le_refl _) HRB.out (by simp)
            clear hra hrb HX HY
            by_cases h6 : 600 < X.length + Y.length
            · have h6i : (600 : Int) < (X.length : Int) + (Y.length : Int) := by omega
              clear h6
              go_wp2
              go_ret
              exact ⟨rfl, HB3.out⟩
            · have h6i : (X.length : Int) + (Y.length : Int) ≤ 600 := by omega
              have h6n : X.length + Y.length ≤ 600 := by omega
              clear h6
              have HZs := Lib.hid (note_size a note b)
              have HZ := Lib.hid (show wordsA (a ++ ⟨#[10, 45, 45]⟩ ++ note ++ ⟨#[10, 9, 32]⟩ ++ b : ByteArray).data.toList = .ok (X ++ Y) from by
                unfold wordsA
                rw [if_neg (by rw [len_list, note_size]; omega), note_list, run_note HI2.out HRA.out]
                have := run_pre _ X 0 [] [] b.data.toList Y (Nat.le_refl _) HRB.out h6n
                simpa using this)
              go_wp2_with fail
              refine (words_any _ _ HV3.out hN3 (by rw [HZs.out]; omega)).mono ?_
              rintro e w4 hp
              rw [HZ.out] at hp
              obtain ⟨vz, rfl, hz, hb4⟩ := hp
              have HZo := Lib.hid hz
              have HB4 := Lib.hid (bt HB3.out hb4)
              have HXo4 := Lib.hid (own_below (own_below HXo.out.2 HB23.out) hb4)
              have HYo4 := Lib.hid (own_below HYo.out.2 hb4)
              clear hz hb4
              go_wp2_with fail
              refine (ours_any _ _ X _ HXo4.out (by omega)).mono ?_
              rintro e w5 ⟨u5, rfl, ho5, hb5⟩
              have HO5 := Lib.hid ho5
              have HB5 := Lib.hid hb5
              have HYo5 := Lib.hid (own_below HYo4.out hb5)
              clear ho5 hb5
              go_wp2_with fail
              refine (ours_any _ _ Y _ HYo5.out (by omega)).mono ?_
              rintro e w6 ⟨u6, rfl, ho6, hb6⟩
              have HO6 := Lib.hid ho6
              have HB6 := Lib.hid hb6
              have HO56 := Lib.hid (own_below HO5.out hb6)
              have HB46 := Lib.hid (bt HB5.out hb6)
              clear ho6 hb6
              go_wp2_with (at_builtin; refine wp_app_ws _ (.tmp 78) (.tmp 80) rfl (by rfl) w4.heap.size w5.heap.size u5 u6 X Y rfl rfl HO56.out HO6.out (by omega) (HB46.out.size) ?_; intro v7 w7 ho7 hg7; have HO7 := Lib.hid ho7; have HB7 := Lib.hid (HB46.out.grown hg7 HB46.out.size (fun q hq => (HO56.out.lt q hq).1)); clear ho7 hg7)
              go_wp2_with fail
              have HZ7 := Lib.hid (show w7.ownsRow w3.heap.size 33 3 vz (X ++ Y).length (wsX (X ++ Y)) from own_below HZo.out HB7.out)
              refine (same_yes _ _ _ _ (X ++ Y) _ HZ7.out HO7.out (by rw [List.length_append]; omega)).mono ?_
              rintro e w8 ⟨rfl, hb8⟩
              have HB8 := Lib.hid (bt (bt HB4.out HB7.out) hb8)
              clear hb8
              go_wp2
              go_ret
              exact ⟨rfl, HB8.out⟩
end Go.Proofs.YtplgkblahmndoaaDoor
