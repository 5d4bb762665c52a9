/- The document's Words: any text. -/
import Derived.Test.YtplgkblahmndoaaDoorLdWord
namespace Go.Proofs.YtplgkblahmndoaaDoor
open Go.RowKit Go.Lib
set_option linter.unusedVariables false
set_option maxRecDepth 100000

/-- what the document's Words answers -/
def RWordsP (w : World) (o : An (List Wd)) (e : Ending) (w' : World) : Prop :=
  match o with
  | .ok ws => ∃ v, e = .returned (.tuple #[v, .int .i64 0]) ∧ w'.ownsRow w.heap.size 41 3 v ws.length (wsX ws) ∧ Below w.heap.size w w'
  | .no x => e = .returned (.tuple #[.slice none 0 0, .int .i64 x]) ∧ Below w.heap.size w w'
theorem blank_at {l : Bs} (h : AtWd l) (hne : l ≠ []) (ws : List Wd) : run (0, [], ws) l = match wordD l with
      | none => .no eS
      | some x => (addM ws x.1).bind fun ws => run (0, [], ws) x.2 := by
  cases l with
  | nil => exact absurd rfl hne
  | cons b t => exact run_word ws b t h.1 h.2
set_option maxHeartbeats 12800000 in
theorem rwords_any (s : ByteArray) (w : World) (hs : s.size ≤ 140737488355328) : Calls Tryd.prog 8 #[.string s] w (RWordsP w (wordsA s.data.toList)) := by
  have hsi : (s.size : Int) ≤ 140737488355328 := by omega
  by_cases h4 : 4000 < s.size
  · have h4i : (4000 : Int) < (s.size : Int) := by omega
    have HA := Lib.hid (show wordsA s.data.toList = .no eL by unfold wordsA; rw [if_pos (by rw [len_list]; exact h4)])
    clear h4
    go_enter Tryd.func8, Tryd.ntmps8
    go_wp2
    go_ret2
    rw [HA.out]
    exact ⟨rfl, Below.refl _ _⟩
  · have h4i : (s.size : Int) ≤ 4000 := by omega
    have hs4 : s.size ≤ 4000 := by omega
    have HA := Lib.hid (show wordsA s.data.toList = run (0, [], []) s.data.toList by unfold wordsA; rw [if_neg (by rw [len_list]; exact h4)])
    have HNil := Lib.hid (World.ownsRow_nil w w.heap.size 41 3)
    obtain ⟨i0, hi, hz0, hz1, hz2⟩ := info_parts infoR
    clear h4
    go_enter Tryd.func8, Tryd.ntmps8
    go_wp2_with fail
    refine (rblanks_any s _ hs4).mono ?_
    rintro e w1 ⟨k0, rfl, hk0, hrun0, hat0, hw⟩
    subst hw
    have HR0 := Lib.hid (hrun0 [])
    have HAt0 := Lib.hid hat0
    rw [len_list] at hk0
    clear hrun0 hat0
    go_wp2_with fail
    go_loopw [4, 5] (fun u i wr => ∃ (k : Nat) (ws : List Wd), k ≤ s.size ∧ i = .int .i64 (k : Int) ∧ ws.length ≤ 600 ∧ Hid (wr.ownsRow w1.heap.size 41 3 u ws.length (wsX ws)) ∧ Hid (Below w1.heap.size w1 wr) ∧ Hid (AtWd (s.data.toList.drop k)) ∧ Hid (run (0, [], []) s.data.toList = run (0, [], ws) (s.data.toList.drop k))) (fun _ i _ => s.size - (RowKit.intOf i).toNat)
    case atStart => exact ⟨k0, [], hk0, rfl, by simp, HNil, Lib.hid (Below.refl _ _), HAt0, HR0⟩
    case round =>
      obtain ⟨k, ws, hk, rfl, hl6, HO, HB, HAt, HR⟩ := hrel
      have hki0 : (0 : Int) ≤ (k : Int) := by omega
      obtain ⟨au, cu, rfl⟩ := own_slice3 HO.out
      have hl6i : (ws.length : Int) ≤ 600 := by omega
      by_cases hlt : k < s.size
      · have hki : (k : Int) < (s.size : Int) := by omega
        obtain ⟨T, hT, hsl⟩ := slice_from s k (Nat.le_of_lt hlt)
        have hTs : T.size = s.size - k := by rw [tsize T hT, List.length_drop, len_list]
        have hne : s.data.toList.drop k ≠ [] := fun e => by
          have := congrArg List.length e
          rw [List.length_drop, len_list, List.length_nil] at this
          omega
        have HStep := Lib.hid (blank_at HAt.out hne ws)
        have HT := Lib.hid hT
        have HWd := Lib.hid (fun W => rword_any T W (by omega) (by omega))
        rw [hT] at HWd
        clear hT hne
        go_wp2_with fail
        refine (HWd.out _).mono ?_
        rintro e w2 ⟨a, b, c, n, ok, rfl, hb2, hr⟩
        have HB2 := Lib.hid hb2
        clear hb2
        cases hd : wordD (s.data.toList.drop k) with
        | none =>
          rw [hd] at hr
          obtain rfl : ok = false := hr
          have HF := Lib.hid (show wordsA s.data.toList = .no eS by rw [HA.out, HR.out, HStep.out, hd])
          clear hd
          go_wp2
          go_ret2
          rw [HF.out]
          exact ⟨rfl, bt HB.out (bt HB2.out (bel0 _ (Below.refl _ _)))⟩
        | some x =>
          rw [hd] at hr
          obtain ⟨x1, xr⟩ := x
          obtain ⟨rfl, rfl, k2, rfl, hk2, hk3, rfl⟩ := hr
          have hk3 : k + k2 ≤ s.size := by rw [List.length_drop, len_list] at hk3; omega
          rw [List.drop_drop] at hd
          by_cases h6 : ws.length = 600
          · have h6i : (600 : Int) ≤ (ws.length : Int) := by omega
            have HF := Lib.hid (show wordsA s.data.toList = .no eL by
              rw [HA.out, HR.out, HStep.out, hd]
              simp only [addM]
              rw [if_pos h6]
              rfl)
            clear h6 hd
            go_wp2
            go_ret2
            rw [HF.out]
            exact ⟨rfl, bt HB.out (bt HB2.out (bel0 _ (Below.refl _ _)))⟩
          · have h6i : decide ((600 : Int) ≤ (ws.length : Int)) = false := decide_eq_false (by omega)
            have h6j : (ws.length : Int) < 600 := by omega
            have h6n : ws.length < 600 := by omega
            have HN := Lib.hid (show run (0, [], []) s.data.toList = run (0, [], ws ++ [(a, b.data.toList, c)]) (s.data.toList.drop (k + k2)) by
              rw [HR.out, HStep.out, hd]
              simp only [addM]
              rw [if_neg h6]
              rfl)
            have HO2 := Lib.hid (own_below HO.out HB2.out)
            obtain ⟨T2, hT2, hsl2⟩ := slice_from s (k + k2) hk3
            have hT2s : T2.size = s.size - (k + k2) := by rw [tsize T2 hT2, List.length_drop, len_list]
            have HBl := Lib.hid (fun W => rblanks_any T2 W (by omega))
            rw [hT2] at HBl
            have hsl3 : ∀ W, (Instr.slice 9 (.string s) (some (.int .i64 ((k : Int) + (k2 : Int)))) none none).run Tryd.prog W = .ok (.string T2) W := fun W => by
              have := hsl2 W
              simpa using this
            have hk2i : (1 : Int) ≤ (k2 : Int) := by omega
            have hk3i : (k : Int) + (k2 : Int) ≤ (s.size : Int) := by omega
            clear h6 hd hT2 hsl2
            go_wp2_with (at_builtin; refine wpList_append_lies _ rfl (.tmp 37) (.tmp 39) 27 rfl w1.heap.size 41 i0 (.agg #[.int .i64 0, .string ⟨#[]⟩, .int .i64 0]) 3 32 Tryd.underlying27 hi hz0 hz1 hz2 rfl (by decide) (.slice au ws.length cu) ws.length (wsX ws) rfl (own_below HO2.out (bel0 _ (bel0 _ (Below.refl _ _)))) ⟨w2.heap.size + 1, 0, none⟩ 1 1 (wordX a b c) rfl rfl ?c1 ?c2 (by omega) (by unfold maxLen; omega) (by omega) (by have := HB.out.size; have := HB2.out.size; simp; omega) _ rfl ?_)
            case c1 =>
              intro j u hu
              have hh := Go.heap_alloc_new (w2.alloc (Obj.cells #[.int .i64 a, .string b, .int .i64 c] 41)) (Obj.cells #[.int .i64 a, .string b, .int .i64 c] 41)
              rw [show (w2.alloc (Obj.cells #[.int .i64 a, .string b, .int .i64 c] 41)).heap.size = w2.heap.size + 1 by simp] at hh
              match j, hu with
              | 0, hu => simp [wordX] at hu; subst hu; exact cell_of_row _ _ 0 _ _ _ hh
              | 1, hu => simp [wordX] at hu; subst hu; exact cell_of_row _ _ 1 _ _ _ hh
              | 2, hu => simp [wordX] at hu; subst hu; exact cell_of_row _ _ 2 _ _ _ hh
              | j + 3, hu => simp [wordX] at hu
            case c2 => intro u hu; simp [wordX] at hu; rcases hu with rfl | rfl | rfl <;> rfl
            intro g3 c3 w9 hown9 hg9 hor9 hlt9
            have HO9 := Lib.hid (show w9.ownsRow w1.heap.size 41 3 (.slice (some ⟨g3, 0, none⟩) (ws.length + 1) c3) (ws ++ [(a, b.data.toList, c)]).length (wsX (ws ++ [(a, b.data.toList, c)])) from by
              rw [wsX_snoc] at hown9
              rw [List.length_append, List.length_singleton]
              exact hown9)
            have HB9 := Lib.hid (show Below w1.heap.size w1 w9 from (bt (bt HB.out HB2.out) (bel0 _ (bel0 _ (Below.refl _ _)))).grown hg9 (by have := HB.out.size; have := HB2.out.size; simp; omega) (fun q hq => (HO.out.lt q hq).1))
            clear hown9 hg9 hor9 hlt9
            go_wp2_with fail
            refine (HBl.out _).mono ?_
            rintro e w10 ⟨k4, rfl, hk4, hrun, hat, hw⟩
            subst hw
            have hk4 : k + k2 + k4 ≤ s.size := by rw [List.length_drop, len_list] at hk4; omega
            rw [List.drop_drop] at hat
            have HAt9 := Lib.hid hat
            have HR9 := Lib.hid (show run (0, [], []) s.data.toList = run (0, [], ws ++ [(a, b.data.toList, c)]) (s.data.toList.drop (k + k2 + k4)) by
              rw [HN.out, hrun, List.drop_drop])
            have hk4i : (k : Int) + (k2 : Int) + (k4 : Int) ≤ (s.size : Int) := by omega
            have hk40 : (0 : Int) ≤ (k4 : Int) := by omega
            clear hrun hat
            go_wp2
            go_roundw
            case rel => exact ⟨k + k2 + k4, ws ++ [(a, b.data.toList, c)], hk4, by go_num, by rw [List.length_append, List.length_singleton]; omega, HO9, HB9, HAt9, HR9⟩
            case measure =>
              simp [go_sem, RowKit.intOf]
              omega
      · obtain rfl : k = s.size := by omega
        have HF := Lib.hid (show wordsA s.data.toList = .ok ws by
          rw [HA.out, HR.out, List.drop_of_length_le (by rw [len_list]; exact Nat.le_refl _), run_nil]
          rfl)
        clear hlt
        go_wp2
        go_ret2
        rw [HF.out]
        exact ⟨_, rfl, HO.out, HB.out⟩
end Go.Proofs.YtplgkblahmndoaaDoor
