/- The document's word: signs. -/
import Derived.Test.YtplgkblahmndoaaDoorLdBox
namespace Go.Proofs.YtplgkblahmndoaaDoor
open Go.RowKit Go.Lib
set_option linter.unusedVariables false
set_option maxRecDepth 100000

def signO (l : Bs) : Option (Wd × Bs) := if twoS l = true then some ((4, l.take 2, 0), l.drop 2) else if (signs.any fun b => l.head? == some b) = true then some ((4, l.take 1, 0), l.drop 1) else none
theorem two_short {l : Bs} (h : l.length = 1) : twoS l = false := by
  match l, h with
  | [b], _ => simp [twoS]
set_option maxHeartbeats 12800000 in
theorem rword_sign (s : ByteArray) (w : World) (h0 : 0 < s.size) (hs : s.size ≤ 4000) (hq : s[0]'h0 ≠ 39) (hnd : ndL (decodeL s.data.toList).1 = false) (hhead : s.data.toList.head? = some (s[0]'h0)) :
    Calls Tryd.prog 14 #[.string s] w (WordR s.data.toList (signO s.data.toList) w) := by
  have hsi : (s.size : Int) ≤ 4000 := by omega
  have h0i : (0 : Int) < (s.size : Int) := by omega
  have HHead := Lib.hid hhead
  have HBx := Lib.hid (Box.make w)
  have hv := u8_ne (n := 39) (i := 39) rfl (by decide) hq
  have h2 : letL (decodeL s.data.toList).1 = false ∧ digL (decodeL s.data.toList).1 = false := by
    unfold ndL at hnd
    rw [Bool.or_eq_false_iff] at hnd
    exact hnd
  have hzl : letZ (rnZ s.data.toList) = false := (rnZ_let s.data.toList).trans h2.1
  have hzd : digZ (rnZ s.data.toList) = false := (rnZ_dig s.data.toList).trans h2.2
  clear hq hnd hhead h2
  go_enter Tryd.func14, Tryd.ntmps14
  go_wp2_with fail
  refine (first_any s _ h0 hs).mono ?_
  rintro e w2 ⟨rfl, hb2⟩
  have HBx2 := Lib.hid (HBx.out.later hb2)
  clear hb2
  go_wp2_with fail
  refine (rletter_any _ _).mono ?_
  rintro e w3 ⟨rfl, hw⟩
  subst hw
  rw [hzl]
  go_wp2_with fail
  refine (rdigit_any _ _).mono ?_
  rintro e w4 ⟨rfl, hw⟩
  subst hw
  rw [hzd]
  go_upto_region 14 with (fail)
  go_cut [97] (fun t wx => t = .bool (twoS s.data.toList) ∧ wx = w4)
  case first =>
    by_cases h1 : 2 ≤ s.size
    · have h1i : (2 : Int) ≤ (s.size : Int) := by omega
      obtain ⟨T, hT, hsl⟩ := slice_to s 2 h1
      have hsl2 : ∀ W, (Instr.slice 9 (.string s) none (some (.int .i64 2)) none).run Tryd.prog W = .ok (.string T) W := hsl
      obtain ⟨b1, e1⟩ : ∃ b, (T.toList == [60, 62]) = b := ⟨_, rfl⟩
      obtain ⟨b2, e2⟩ : ∃ b, (T.toList == [60, 61]) = b := ⟨_, rfl⟩
      obtain ⟨b3, e3⟩ : ∃ b, (T.toList == [62, 61]) = b := ⟨_, rfl⟩
      have HP := Lib.hid (show twoS s.data.toList = (b1 || b2 || b3) by
        unfold twoS
        rw [← hT, ← e1, ← e2, ← e3, ByteArray.toList_eq])
      clear h1 hT hsl
      cases b1
      · cases b2
        · cases b3 <;> (
            go_wp2
            go_meet
            exact ⟨by rw [HP.out]; rfl, rfl⟩)
        · go_wp2
          go_meet
          exact ⟨by rw [HP.out]; rfl, rfl⟩
      · go_wp2
        go_meet
        exact ⟨by rw [HP.out]; rfl, rfl⟩
    · have h1i : decide ((2 : Int) ≤ (s.size : Int)) = false := decide_eq_false (by omega)
      have h1j : (s.size : Int) < 2 := by omega
      have HP := Lib.hid (two_short (l := s.data.toList) (by rw [len_list]; omega))
      clear h1
      go_wp2
      go_meet
      exact ⟨by rw [HP.out], rfl⟩
  case rest =>
    obtain ⟨rfl, rfl⟩ := hcut
    cases ht : twoS s.data.toList with
    | true =>
      have h1 : 2 ≤ s.size := by
        rcases Nat.lt_or_ge s.size 2 with h | h
        · rw [two_short (by rw [len_list]; omega)] at ht; cases ht
        · exact h
      obtain ⟨T, hT, hsl⟩ := slice_to s 2 h1
      have hsl2 : ∀ W, (Instr.slice 9 (.string s) none (some (.int .i64 2)) none).run Tryd.prog W = .ok (.string T) W := hsl
      have HO := Lib.hid (show signO s.data.toList = some ((4, T.data.toList, 0), s.data.toList.drop 2) by unfold signO; rw [ht, hT]; rfl)
      have H1 := Lib.hid h1
      obtain ⟨⟨c0, c1, c2⟩, fz, hlt⟩ := HBx2.out.facts
      clear ht hT hsl h1
      go_wp2
      obtain ⟨HC, hbf⟩ := HBx2.out.fill (.int .i64 4) (.string T) (.int .i64 0)
      have HBf := Lib.hid hbf
      clear hbf
      generalize ((wc.setCell ⟨w.heap.size, 0, none⟩ (.int .i64 4)).setCell ⟨w.heap.size, 1, none⟩ (.string T)).setCell ⟨w.heap.size, 2, none⟩ (.int .i64 0) = w9 at *
      (try simp only [Exit.inBlock, Exit.then])
      refine bodyPost_ret (results_word rfl _ _ w.heap.size _ _ _ rfl HC) rfl ?_
      exact ⟨4, T, 0, _, _, rfl, HBf.out, by rw [HO.out]; exact ⟨rfl, rfl, 2, rfl, by decide, by rw [len_list]; exact H1.out, rfl⟩⟩
    | false =>
      have HSg := Lib.hid (show signO s.data.toList = if (signs.any fun b => s.data.toList.head? == some b) = true then some ((4, s.data.toList.take 1, 0), s.data.toList.drop 1) else none by unfold signO; rw [ht]; rfl)
      obtain ⟨T, hT, hsl⟩ := slice_to s 1 (by omega)
      have hsl2 : ∀ W, (Instr.slice 9 (.string s) none (some (.int .i64 1)) none).run Tryd.prog W = .ok (.string T) W := hsl
      have HT := Lib.hid hT
      clear ht hT hsl
      go_upto_region 17 with (fail)
      obtain ⟨SG, hSG⟩ : ∃ SG : ByteArray, SG = ⟨#[40, 41, 44, 46, 59, 42, 43, 45, 61, 60, 62]⟩ := ⟨_, rfl⟩
      rw [← hSG]
      have hS11 : SG.size = 11 := by rw [hSG]; rfl
      have HSl := Lib.hid (show SG.data.toList = signs by rw [hSG]; rfl)
      have hS11i : (SG.size : Int) = 11 := by omega
      clear hSG
      go_wp2_with fail
      go_loopw [103] (fun i wr => ∃ k : Nat, k ≤ SG.size ∧ i = .int .i64 (k : Int) ∧ Hid (Box w w.heap.size wr) ∧ Hid (∀ j, j < k → SG.data.toList.getD j 0 ≠ s[0]'h0)) (fun i _ => SG.size - (RowKit.intOf i).toNat)
      case atStart => exact ⟨0, by omega, rfl, HBx2, Lib.hid (fun j hj => by omega)⟩
      case round =>
        obtain ⟨k, hk, rfl, HBr, HNo⟩ := hrel
        have hk0 : (0 : Int) ≤ (k : Int) := by omega
        by_cases hlt : k < SG.size
        · have hki : (k : Int) < (SG.size : Int) := by omega
          have HB := Lib.hid (byte_at SG k hlt)
          by_cases he : SG[k]'hlt = s[0]'h0
          · have heb : ((((SG[k]'hlt).toNat : Nat) : Int) == (((s[0]'h0).toNat : Nat) : Int)) = true := by rw [he]; simp
            have HO := Lib.hid (show signO s.data.toList = some ((4, T.data.toList, 0), s.data.toList.drop 1) by
              rw [HSg.out, if_pos, HT.out]
              rw [List.any_eq_true]
              refine ⟨s[0]'h0, ?_, by rw [HHead.out]; simp⟩
              rw [← he, HB.out, ← HSl.out, List.getD_eq_getElem?_getD, List.getElem?_eq_getElem (by rw [len_list]; exact hlt)]
              exact List.getElem_mem _)
            clear he
            go_upto_region 20 with (fail)
            go_quiet (fail)
            obtain ⟨w5, hw5⟩ : ∃ w5, w5 = wr.drewN nq := ⟨_, rfl⟩
            have HBx5 := Lib.hid (HBr.out.later (show Below wr.heap.size wr w5 by rw [hw5]; exact ⟨rfl, rfl, rfl, Nat.le_refl _, fun _ _ => rfl⟩))
            rw [← hw5]
            obtain ⟨⟨c0, c1, c2⟩, fz, hltn⟩ := HBx5.out.facts
            clear hw5
            go_wp2
            obtain ⟨HC, hbf⟩ := HBx5.out.fill (.int .i64 4) (.string T) (.int .i64 0)
            have HBf := Lib.hid hbf
            clear hbf
            generalize ((w5.setCell ⟨w.heap.size, 0, none⟩ (.int .i64 4)).setCell ⟨w.heap.size, 1, none⟩ (.string T)).setCell ⟨w.heap.size, 2, none⟩ (.int .i64 0) = w9 at *
            (try simp only [Exit.inBlock, Exit.then])
            refine bodyPost_ret (results_word rfl _ _ w.heap.size _ _ _ rfl HC) rfl ?_
            exact ⟨4, T, 0, _, _, rfl, HBf.out, by rw [HO.out]; exact ⟨rfl, rfl, 1, rfl, by decide, by rw [len_list]; omega, rfl⟩⟩
          · have heb : ((((SG[k]'hlt).toNat : Nat) : Int) == (((s[0]'h0).toNat : Nat) : Int)) = false := by
              rw [beq_eq_false_iff_ne]
              intro e
              exact he (UInt8.toNat_inj.1 (by omega))
            have HN := Lib.hid (show ∀ j, j < k + 1 → SG.data.toList.getD j 0 ≠ s[0]'h0 from fun j hj => by
              rcases Nat.lt_or_ge j k with h | h
              · exact HNo.out j h
              · obtain rfl : j = k := by omega
                rw [← HB.out]; exact he)
            clear he
            go_upto_region 20 with (fail)
            go_quiet (fail)
            obtain ⟨w5, hw5⟩ : ∃ w5, w5 = wr.drewN nq := ⟨_, rfl⟩
            have HBx5 := Lib.hid (HBr.out.later (show Below wr.heap.size wr w5 by rw [hw5]; exact ⟨rfl, rfl, rfl, Nat.le_refl _, fun _ _ => rfl⟩))
            rw [← hw5]
            clear hw5
            go_wp2
            go_roundw
            case rel => exact ⟨k + 1, by omega, rfl, HBx5, HN⟩
            case measure =>
              simp [go_sem, RowKit.intOf]
              omega
        · obtain rfl : k = SG.size := by omega
          have HO := Lib.hid (show signO s.data.toList = none by
            rw [HSg.out, if_neg]
            rw [List.any_eq_true]
            rintro ⟨b, hb, hbe⟩
            rw [HHead.out] at hbe
            have hbe2 : s[0]'h0 = b := by simpa using hbe
            rw [← HSl.out] at hb
            obtain ⟨j, hj, hjb⟩ := List.mem_iff_getElem.1 hb
            refine HNo.out j (by rw [len_list] at hj; exact hj) ?_
            rw [List.getD_eq_getElem?_getD, List.getElem?_eq_getElem hj, hbe2, ← hjb]
            rfl)
          obtain ⟨⟨c0, c1, c2⟩, fz, hltn⟩ := HBr.out.facts
          clear hlt
          go_wp2
          obtain ⟨HC, hbf⟩ := HBr.out.fill (.int .i64 0) (.string ⟨#[]⟩) (.int .i64 0)
          have HBf := Lib.hid hbf
          clear hbf
          generalize ((wr.setCell ⟨w.heap.size, 0, none⟩ (.int .i64 0)).setCell ⟨w.heap.size, 1, none⟩ (.string ⟨#[]⟩)).setCell ⟨w.heap.size, 2, none⟩ (.int .i64 0) = w9 at *
          (try simp only [Exit.inBlock, Exit.then])
          refine bodyPost_ret (results_word rfl _ _ w.heap.size _ _ _ rfl HC) rfl ?_
          exact ⟨0, _, 0, _, _, rfl, HBf.out, by rw [HO.out]; rfl⟩
end Go.Proofs.YtplgkblahmndoaaDoor
