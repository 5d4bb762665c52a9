/- The document's word: names and numbers. -/
import Derived.Test.YtplgkblahmndoaaDoorLdBox
import Derived.Deep.CutBlock
namespace Go.Proofs.YtplgkblahmndoaaDoor
open Go.RowKit Go.Lib
set_option linter.unusedVariables false
set_option maxRecDepth 100000

def ndO (l : Bs) : Option (Wd × Bs) := if letL (decodeL l).1 = true then (if 16 < runeCountL (span l).1 then none else some ((1, (span l).1, 0), (span l).2))
  else (if (allD (span l).1 && numOk (span l).1) = true then some ((2, (span l).1, (decV (span l).1 : Int)), (span l).2) else none)
set_option maxHeartbeats 12800000 in
theorem rword_nd (s : ByteArray) (w : World) (h0 : 0 < s.size) (hs : s.size ≤ 4000) (hq : s[0]'h0 ≠ 39) (hnd : ndL (decodeL s.data.toList).1 = true) :
    Calls Tryd.prog 14 #[.string s] w (WordR s.data.toList (ndO s.data.toList) w) := by
  have hsi : (s.size : Int) ≤ 4000 := by omega
  have h0i : (0 : Int) < (s.size : Int) := by omega
  have HBx := Lib.hid (Box.make w)
  have hv := u8_ne (n := 39) (i := 39) rfl (by decide) hq
  have hl0 : s.data.toList ≠ [] := fun e => by
    have := congrArg List.length e
    rw [len_list, List.length_nil] at this
    omega
  have HPos := Lib.hid (span_pos hl0 hnd)
  have HZl := Lib.hid (rnZ_let s.data.toList)
  have HZd := Lib.hid (rnZ_dig s.data.toList)
  have HNd := Lib.hid hnd
  obtain ⟨bl, hbl⟩ : ∃ b, b = letL (decodeL s.data.toList).1 := ⟨_, rfl⟩
  have hzl : letZ (rnZ s.data.toList) = bl := by rw [hbl]; exact rnZ_let _
  have hzd : bl = false → digZ (rnZ s.data.toList) = true := fun h => by
    rw [rnZ_dig]
    unfold ndL at hnd
    rw [← hbl, h, Bool.false_or] at hnd
    exact hnd
  have HBl := Lib.hid hbl
  clear hq hnd hl0 hbl
  go_enter Tryd.func14, Tryd.ntmps14
  go_wp2_with fail
  refine (first_any s _ h0 hs).mono ?_
  rintro e w2 ⟨rfl, hb2⟩
  have HBx2 := Lib.hid (HBx.out.later hb2)
  clear hb2
  go_upto_region 4 with (fail)
  go_cut [32] (fun t wx => t = .bool true ∧ wx = w2)
  case first =>
    go_wp2_with fail
    refine (rletter_any _ _).mono ?_
    rintro e w3 ⟨rfl, hw⟩
    subst hw
    rw [hzl]
    cases bl with
    | true =>
      go_wp2
      go_meet
      exact ⟨rfl, rfl⟩
    | false =>
      have hd := hzd rfl
      go_wp2_with fail
      refine (rdigit_any _ _).mono ?_
      rintro e w3 ⟨rfl, hw⟩
      subst hw
      rw [hd]
      go_wp2
      go_meet
      exact ⟨rfl, rfl⟩
  case rest =>
    obtain ⟨rfl, rfl⟩ := hcut
    clear hzd
    go_upto_block 0 with (fail)
    go_cut [7] (fun t wx => ∃ k : Nat, t = .int .i64 (k : Int) ∧ k ≤ s.size ∧ Hid (Box w w.heap.size wx) ∧ Hid (span s.data.toList = (s.data.toList.take k, s.data.toList.drop k)))
    case first =>
      go_wp2_with fail
      go_loopw [7] (fun i wr => ∃ k : Nat, i = .int .i64 (k : Int) ∧ k ≤ s.size ∧ Hid (Box w w.heap.size wr) ∧ Hid (span s.data.toList = (s.data.toList.take k ++ (span (s.data.toList.drop k)).1, (span (s.data.toList.drop k)).2))) (fun i _ => s.size - (RowKit.intOf i).toNat)
      case atStart => exact ⟨0, rfl, by omega, HBx2, Lib.hid (by simp)⟩
      case round =>
        obtain ⟨k, rfl, hk, HBr, HS⟩ := hrel
        have hk0 : (0 : Int) ≤ (k : Int) := by omega
        by_cases hlt : k < s.size
        · have hki : (k : Int) < (s.size : Int) := by omega
          have hll : k < s.data.toList.length := by rw [len_list]; exact hlt
          obtain ⟨T, hT, hsl⟩ := slice_from s k (Nat.le_of_lt hlt)
          have hTs : T.size = s.size - k := by rw [tsize T hT, List.length_drop, len_list]
          have HT := Lib.hid hT
          have hTl : T.data.toList ≠ [] := fun e => by
            have := congrArg List.length e
            rw [len_list, List.length_nil] at this
            omega
          have HWd := Lib.hid (dec_wd _ hTl)
          have HF := Lib.hid (fun W => first_any T W (by omega) (by omega))
          obtain ⟨b1, hb1⟩ : ∃ b, b = letL (decodeL T.data.toList).1 := ⟨_, rfl⟩
          obtain ⟨b2, hb2⟩ : ∃ b, b = digL (decodeL T.data.toList).1 := ⟨_, rfl⟩
          have hz1 : letZ (rnZ T.data.toList) = b1 := by rw [hb1]; exact rnZ_let _
          have hz2 : digZ (rnZ T.data.toList) = b2 := by rw [hb2]; exact rnZ_dig _
          have HYes := Lib.hid (fun (h : (b1 || b2) = true) => (show span s.data.toList = (s.data.toList.take (k + (decodeL T.data.toList).2) ++ (span (s.data.toList.drop (k + (decodeL T.data.toList).2))).1, (span (s.data.toList.drop (k + (decodeL T.data.toList).2))).2) from by
            rw [hT]
            exact span_step hll (by unfold ndL; rw [← hT, ← hb1, ← hb2]; exact h) HS.out))
          have HNo := Lib.hid (fun (h : (b1 || b2) = false) => (show span s.data.toList = (s.data.toList.take k, s.data.toList.drop k) from by
            rw [HS.out, span_no (by unfold ndL; rw [← hT, ← hb1, ← hb2]; exact h)]
            simp))
          have HLen := Lib.hid (show (decodeL T.data.toList).2 ≤ s.size - k from by have := HWd.out.2; rw [len_list] at this; omega)
          have HPn := Lib.hid HWd.out.1
          generalize (decodeL T.data.toList).2 = n at *
          generalize rnZ T.data.toList = z at *
          have hnn : (1 : Int) ≤ (n : Int) := by have := HPn.out; omega
          have hnk : (k : Int) + (n : Int) ≤ (s.size : Int) := by have := HLen.out; omega
          clear hT hTl hb1 hb2 HWd
          go_wp2_with fail
          refine (HF.out _).mono ?_
          rintro e w3 ⟨rfl, hb3⟩
          have HB3 := Lib.hid (HBr.out.later hb3)
          clear hb3
          go_wp2_with fail
          refine (rletter_any _ _).mono ?_
          rintro e w4 ⟨rfl, hw⟩
          subst hw
          rw [hz1]
          cases b1 with
          | true =>
            have HY := Lib.hid (HYes.out rfl)
            go_wp2
            go_roundw
            case rel => exact ⟨k + n, rfl, by have := HLen.out; omega, HB3, HY⟩
            case measure =>
              have := HPn.out
              have := HLen.out
              simp [go_sem, RowKit.intOf]
              omega
          | false =>
            go_wp2_with fail
            refine (rdigit_any _ _).mono ?_
            rintro e w5 ⟨rfl, hw⟩
            subst hw
            rw [hz2]
            cases b2 with
            | true =>
              have HY := Lib.hid (HYes.out rfl)
              go_wp2
              go_roundw
              case rel => exact ⟨k + n, rfl, by have := HLen.out; omega, HB3, HY⟩
              case measure =>
                have := HPn.out
                have := HLen.out
                simp [go_sem, RowKit.intOf]
                omega
            | false =>
              have HY := Lib.hid (HNo.out rfl)
              go_wp2
              go_meet
              exact ⟨k, rfl, hk, HB3, HY⟩
        · obtain rfl : k = s.size := by omega
          have HY := Lib.hid (show span s.data.toList = (s.data.toList.take s.size, s.data.toList.drop s.size) from by
            rw [HS.out, List.drop_of_length_le (by rw [len_list]; exact Nat.le_refl _), span_nil]
            simp)
          clear hlt
          go_wp2
          go_meet
          exact ⟨s.size, rfl, Nat.le_refl _, HBr, HY⟩
    case rest =>
      obtain ⟨k, rfl, hk, HBr, HSp⟩ := hcut
      have hk0 : (0 : Int) ≤ (k : Int) := by omega
      have hki : (k : Int) ≤ (s.size : Int) := by omega
      obtain ⟨T, hT, hsl⟩ := slice_to s k hk
      have hkp : 0 < k := by
        rcases Nat.eq_zero_or_pos k with h | h
        · exact absurd (show (span s.data.toList).1 = [] by rw [HSp.out, h]; rfl) HPos.out
        · exact h
      have hTs : T.size = k := by rw [tsize T hT, List.length_take, len_list]; omega
      have HT := Lib.hid (show (span s.data.toList).1 = T.data.toList by rw [HSp.out, hT])
      have HRest := Lib.hid (show (span s.data.toList).2 = s.data.toList.drop k by rw [HSp.out])
      clear hT
      go_wp2_with fail
      refine (rletter_any _ _).mono ?_
      rintro e w4 ⟨rfl, hw⟩
      subst hw
      rw [hzl]
      cases bl with
      | true =>
        have HO := Lib.hid (show ndO s.data.toList = if 16 < Lib.runeCount T then none else some ((1, T.data.toList, 0), s.data.toList.drop k) from by
          unfold ndO
          rw [← HBl.out, HT.out, HRest.out, Lib.runeCountL_eq]
          rfl)
        have HNm := Lib.hid (show nmdB T = decide (Lib.runeCount T ≤ 16) from by
          have h1 : okAll T = true := by
            have e : T = ⟨(span s.data.toList).1.toArray⟩ := by rw [HT.out]
            rw [e]
            exact okAll_span HBl.out.symm
          have h2 := runes_pos (s := T) (by omega)
          unfold nmdB
          rw [h1, decide_eq_true h2]
          rfl)
        have HNa := Lib.hid (fun W => rnamed_any T W (by omega))
        obtain ⟨ok, hok⟩ : ∃ ok, ok = nmdB T := ⟨_, rfl⟩
        have HOk := Lib.hid (show ok = decide (Lib.runeCount T ≤ 16) by rw [hok, HNm.out])
        rw [← hok] at HNa
        obtain ⟨⟨c0, c1, c2⟩, fz, hltn⟩ := HBr.out.facts
        clear hok
        go_upto_region 11 with (fail)
        go_region_law ((go_simp; go_at_call 26; refine (HNa.out _).mono ?_; rintro e' w6 ⟨rfl, hb6⟩; have HB6 := Lib.hid hb6; have hbk := hb6.block w.heap.size (by first | exact hltn | (simp; omega) | (simp; exact hltn)); have e0 := World.cell?_of_block (a := ⟨w.heap.size, 0, none⟩) hbk; have e1 := World.cell?_of_block (a := ⟨w.heap.size, 1, none⟩) hbk; have e2 := World.cell?_of_block (a := ⟨w.heap.size, 2, none⟩) hbk; have ef : ∀ j, _ := fun j => World.frozen?_of_block (a := ⟨w.heap.size, j, none⟩) hbk; have hlt6 := Nat.lt_of_lt_of_le hltn hb6.size; clear hb6 hbk))
        all_goals
          clear c0 c1 c2 fz e0 e1 e2 ef
          first
          | (obtain ⟨HC, hbf⟩ := (HBr.out.later (show Below w4.heap.size w4 w6 from (show Below w4.heap.size w4 w4.drew from ⟨rfl, rfl, rfl, Nat.le_refl _, fun _ _ => rfl⟩).trans HB6.out)).fill (.int .i64 1) (.string T) (.int .i64 0)
             have HBf := Lib.hid hbf
             clear hbf
             generalize ((w6.setCell ⟨w.heap.size, 0, none⟩ (.int .i64 1)).setCell ⟨w.heap.size, 1, none⟩ (.string T)).setCell ⟨w.heap.size, 2, none⟩ (.int .i64 0) = w9 at *
             go_wp2
             (try simp only [Exit.inBlock, Exit.then])
             refine bodyPost_ret (results_word rfl _ _ w.heap.size _ _ _ rfl HC) rfl ?_
             refine ⟨1, T, 0, _, _, rfl, HBf.out, ?_⟩
             rw [HO.out, HOk.out]
             by_cases hr : Lib.runeCount T ≤ 16
             · rw [if_neg (by omega), decide_eq_true hr]
               exact ⟨rfl, rfl, k, rfl, hkp, by rw [len_list]; exact hk, rfl⟩
             · rw [if_pos (by omega), decide_eq_false hr]
               exact rfl)
          | (obtain ⟨hc, hbf⟩ := (HBr.out.later (show Below w4.heap.size w4 w4.drew from ⟨rfl, rfl, rfl, Nat.le_refl _, fun _ _ => rfl⟩)).fill (.int .i64 1) (.string T) (.int .i64 0)
             have HC := (HB6.out.block w.heap.size (Array.getElem?_eq_some_iff.1 hc).1).trans hc
             have HBf := Lib.hid (bt hbf HB6.out)
             clear hbf hc
             go_wp2
             (try simp only [Exit.inBlock, Exit.then])
             refine bodyPost_ret (results_word rfl _ _ w.heap.size _ _ _ rfl HC) rfl ?_
             refine ⟨1, T, 0, _, _, rfl, HBf.out, ?_⟩
             rw [HO.out, HOk.out]
             by_cases hr : Lib.runeCount T ≤ 16
             · rw [if_neg (by omega), decide_eq_true hr]
               exact ⟨rfl, rfl, k, rfl, hkp, by rw [len_list]; exact hk, rfl⟩
             · rw [if_pos (by omega), decide_eq_false hr]
               exact rfl)
      | false =>
        have HO := Lib.hid (show ndO s.data.toList = if (allD T.data.toList && numOk T.data.toList) = true then some ((2, T.data.toList, (decV T.data.toList : Int)), s.data.toList.drop k) else none from by
          unfold ndO
          rw [← HBl.out, HT.out, HRest.out]
          rfl)
        go_wp2_with fail
        refine (rnumber_any T _ (by omega) (by omega)).mono ?_
        rintro e w5 ⟨v, rfl, hv2, hw⟩
        subst hw
        have HV := Lib.hid hv2
        obtain ⟨ok, hok⟩ : ∃ ok, ok = (allD T.data.toList && numOk T.data.toList) := ⟨_, rfl⟩
        have HOk := Lib.hid hok
        rw [← hok]
        obtain ⟨⟨c0, c1, c2⟩, fz, hltn⟩ := HBr.out.facts
        clear hv2 hok
        go_wp2
        obtain ⟨HC, hbf⟩ := HBr.out.fill (.int .i64 2) (.string T) (.int .i64 v)
        have HBf := Lib.hid hbf
        clear hbf
        generalize ((w5.setCell ⟨w.heap.size, 0, none⟩ (.int .i64 2)).setCell ⟨w.heap.size, 1, none⟩ (.string T)).setCell ⟨w.heap.size, 2, none⟩ (.int .i64 v) = w9 at *
        (try simp only [Exit.inBlock, Exit.then])
        refine bodyPost_ret (results_word rfl _ _ w.heap.size _ _ _ rfl HC) rfl ?_
        refine ⟨2, T, v, _, _, rfl, HBf.out, ?_⟩
        rw [HO.out, ← HOk.out]
        cases ok with
        | true => exact ⟨rfl, by rw [HV.out HOk.out.symm], k, rfl, hkp, by rw [len_list]; exact hk, rfl⟩
        | false => exact rfl
end Go.Proofs.YtplgkblahmndoaaDoor
