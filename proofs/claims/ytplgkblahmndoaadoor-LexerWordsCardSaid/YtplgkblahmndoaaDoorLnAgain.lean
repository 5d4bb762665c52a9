/- LexerAgain: the law's walk. -/
import Derived.Test.YtplgkblahmndoaaDoorLnNotes
import Derived.Test.YtplgkblahmndoaaDoorLnPure
namespace Go.Proofs.YtplgkblahmndoaaDoor
open Go.RowKit Go.Lib
set_option linter.unusedVariables false
set_option maxRecDepth 100000

theorem take_one {l : Bs} {m : Nat} (h : m < l.length) : l.take (m + 1) = l.take m ++ [l.getD m 0] := by
  rw [List.take_add_one]
  congr 1
  rw [List.getD_eq_getElem?_getD, List.getElem?_eq_getElem h]
  rfl
theorem drop_one {l : Bs} {m : Nat} (h : m < l.length) : (l.drop m).take 1 = [l.getD m 0] := by
  rw [List.getD_eq_getElem?_getD, List.getElem?_eq_getElem h]
  rw [List.drop_eq_getElem_cons h]
  rfl
theorem byte_at (s : ByteArray) (m : Nat) (h : m < s.size) : s[m]'h = s.data.toList.getD m 0 := by
  rw [List.getD_eq_getElem?_getD, Array.getElem?_toList]
  have : s.data[m]? = some (s[m]'h) := Array.getElem?_eq_getElem h
  rw [this]; rfl
theorem ext_one (s : ByteArray) (m : Nat) (h : m < s.size) : (s.extract m (m + 1)).data.toList = [s.data.toList.getD m 0] := by
  rw [Lib.extract_data, Nat.add_sub_cancel_left]
  exact drop_one (by rw [len_list]; exact h)

set_option maxHeartbeats 6400000 in
theorem lexerAgain_walk (s : ByteArray) (w : World) (hv : VOk w) (hN : gMax < w.heap.size ∧ gErr < w.heap.size) (hs : s.size ≤ 140737488355328) :
    Calls Tryd.prog 4 #[.string s] w fun e w' => e = .returned (.bool true) ∧ Below w.heap.size w w' := by
  have HV := Lib.hid hv
  clear hv
  go_enter Tryd.func4, Tryd.ntmps4
  go_wp2_with fail
  refine (awake_all _ HV.out hN).mono ?_
  rintro e w1 ⟨rfl, hb1⟩
  have HB1 := Lib.hid hb1
  have HV1 := Lib.hid (HV.out.below HB1.out hN)
  have hN1 : gMax < w1.heap.size ∧ gErr < w1.heap.size := ⟨Nat.lt_of_lt_of_le hN.1 HB1.out.size, Nat.lt_of_lt_of_le hN.2 HB1.out.size⟩
  clear hb1
  go_wp2_with fail
  refine (words_any s _ HV1.out hN1 (by omega)).mono ?_
  rintro e w2 hp
  cases hr : wordsA s.data.toList with
  | no x =>
    rw [hr] at hp
    obtain ⟨rfl, hx, hb2⟩ := hp
    have hxb : (x == 0) = false := beq_eq_false_iff_ne.2 hx
    have hxn : (x != 0) = true := bne_iff_ne.2 hx
    have HB2 := Lib.hid (bt HB1.out hb2)
    clear hr hx hb2
    go_wp2
    go_ret
    exact ⟨rfl, HB2.out⟩
  | ok ws =>
    rw [hr] at hp
    obtain ⟨v, rfl, hx, hb2⟩ := hp
    obtain ⟨av, cv, rfl⟩ := own_slice3 hx
    have HX := Lib.hid hx
    have HB2 := Lib.hid (bt HB1.out hb2)
    have HV2 := Lib.hid (HV.out.below HB2.out hN)
    have hN2 : gMax < w2.heap.size ∧ gErr < w2.heap.size := ⟨Nat.lt_of_lt_of_le hN1.1 hb2.size, Nat.lt_of_lt_of_le hN1.2 hb2.size⟩
    have h4 : s.size ≤ 4000 ∧ run (0, [], []) s.data.toList = .ok ws := by
      unfold wordsA at hr
      split at hr
      · cases hr
      · rename_i h; rw [len_list] at h; exact ⟨by omega, hr⟩
    have HR := Lib.hid h4.2
    have h6 : ws.length ≤ 600 := run_most _ _ _ _ _ _ (Nat.le_refl _) h4.2 (by simp)
    have HSm := Lib.hid (run_small 4000 _ _ _ _ _ _ (Nat.le_refl _) h4.2 (by rw [len_list]; simp; omega) (fun x hx => by simp at hx))
    have h6i : (ws.length : Int) ≤ 600 := by omega
    clear hr hx hb2 h4
    go_wp2_with fail
    go_loopw [5, 26] (fun t i wr => ∃ (k : Nat) (T : ByteArray), k ≤ ws.length ∧ i = .int .i64 (k : Int) ∧ t = .string T ∧ wr = w2 ∧ Hid (T.data.toList = wrT (ws.take k))) (fun _ i _ => ws.length - (RowKit.intOf i).toNat)
    case atStart => exact ⟨0, _, by omega, rfl, rfl, rfl, Lib.hid (by simp [wrT])⟩
    case round =>
      obtain ⟨k, T, hk, rfl, rfl, rfl, HT⟩ := hrel
      have hk0 : (0 : Int) ≤ (k : Int) := by omega
      by_cases hlt : k < ws.length
      · have hki : (k : Int) < (ws.length : Int) := by omega
        obtain ⟨g, cap, he, hg, hB, hc⟩ := wd_at HX.out hlt
        cases he
        obtain ⟨c0, c1, c2⟩ := hc k hlt
        have HTk := Lib.hid (take_more ws hlt)
        have HSx := Lib.hid (HSm.out (ws.getD k noW) (by rw [List.getD_eq_getElem?_getD, List.getElem?_eq_getElem hlt]; exact List.getElem_mem hlt))
        generalize ws.getD k noW = x at *
        obtain ⟨x1, x2, x3⟩ := x
        simp only at c0 c1 c2
        obtain ⟨S, rfl⟩ : ∃ S : ByteArray, x2 = S.data.toList := ⟨⟨x2.toArray⟩, rfl⟩
        have hS : S.size ≤ 4000 := by have := HSx.out; simp only [len_list] at this; exact this
        have hSi : (S.size : Int) ≤ 4000 := by omega
        simp only [Array.toArray_toList] at c1
        have hTs : T.size ≤ 4801800 := by
          rw [← len_list, HT.out]
          have := wrT_len (ws.take k) (fun x hx => HSm.out x (List.mem_of_mem_take hx))
          have h1 : (ws.take k).length ≤ 600 := by rw [List.length_take]; omega
          have h2 := Nat.mul_le_mul_right (2 * 4000 + 3) h1
          omega
        clear hc c2
        by_cases h3 : x1 = 3
        · subst h3
          have HNx := Lib.hid (fun (T2 Q : ByteArray) (hQ : Q.data.toList = dbl S.data.toList) (h2 : T2.data.toList = T.data.toList ++ (39 :: (Q.data.toList ++ [39])) ++ [32]) => (show T2.data.toList = wrT (ws.take (k + 1)) by
            rw [h2, HTk.out, wrT_snoc, HT.out, hQ]
            simp [wrW]))
          go_wp2_with fail
          go_loopw [8, 42] (fun q j wr2 => ∃ (m : Nat) (Q : ByteArray), m ≤ S.size ∧ j = .int .i64 (m : Int) ∧ q = .string Q ∧ wr2 = wr ∧ Hid (Q.data.toList = dbl (S.data.toList.take m))) (fun _ j _ => S.size - (RowKit.intOf j).toNat)
          case atStart => exact ⟨0, _, by omega, rfl, rfl, rfl, Lib.hid (by simp [dbl])⟩
          case round =>
            obtain ⟨m, Q, hm, rfl, rfl, hwr, HQ⟩ := hrel
            subst hwr
            have hm0 : (0 : Int) ≤ (m : Int) := by omega
            have hQs : Q.size ≤ 8000 := by
              rw [← len_list, HQ.out]
              have := dbl_len (S.data.toList.take m)
              have h1 : (S.data.toList.take m).length ≤ 4000 := by rw [List.length_take, len_list]; omega
              omega
            by_cases hml : m < S.size
            · have hmi : (m : Int) < (S.size : Int) := by omega
              obtain ⟨E, hE⟩ : ∃ E, E = S.extract m (m + 1) := ⟨_, rfl⟩
              have HE := Lib.hid (show E.data.toList = [S.data.toList.getD m 0] by rw [hE]; exact ext_one S m hml)
              have HT1 := Lib.hid (take_one (l := S.data.toList) (m := m) (by rw [len_list]; exact hml))
              have hsl : ∀ W, (Instr.slice 9 (.string S) (some (.int .i64 (m : Int))) (some (.int .i64 ((m : Int) + 1))) none).run Tryd.prog W = .ok (.string E) W := fun W => by
                have := run_slice_text S m (m + 1) (by omega) (by omega) W
                rw [hE]
                simpa using this
              have HBa := Lib.hid (byte_at S m hml)
              have hEs : E.size = 1 := by rw [← len_list, HE.out]; rfl
              clear hE
              by_cases hq : S[m]'hml = 39
              · have hqb : ((((S[m]'hml).toNat : Nat) : Int) == 39) = true := by rw [hq]; rfl
                have HD := Lib.hid (show S.data.toList.getD m 0 = 39 from HBa.out.symm.trans hq)
                clear hq
                go_wp2
                go_roundw
                case rel =>
                  refine ⟨m + 1, _, by omega, rfl, rfl, trivial, Lib.hid ?_⟩
                  rw [bapp, bapp, HT1.out, dbl_app, HQ.out, HE.out, HD.out]
                  simp [dbl]
                case measure =>
                  simp [go_sem, RowKit.intOf]
                  omega
              · have hqb : ((((S[m]'hml).toNat : Nat) : Int) == 39) = false := by
                  rw [beq_eq_false_iff_ne]
                  intro e
                  exact hq (UInt8.toNat_inj.1 (by have : (S[m]'hml).toNat = 39 := by omega
                                                  rw [this]; rfl))
                have HD := Lib.hid (show ¬ S.data.toList.getD m 0 = 39 from fun e => hq (HBa.out.trans e))
                clear hq
                go_wp2
                go_roundw
                case rel =>
                  refine ⟨m + 1, _, by omega, rfl, rfl, trivial, Lib.hid ?_⟩
                  rw [bapp, HT1.out, dbl_app, HQ.out, HE.out]
                  have hD := HD.out
                  generalize S.data.toList.getD m 0 = c at hD
                  unfold dbl
                  rw [if_neg hD]
                  rfl
                case measure =>
                  simp [go_sem, RowKit.intOf]
                  omega
            · obtain rfl : m = S.size := by omega
              have HQ2 := Lib.hid (show Q.data.toList = dbl S.data.toList by have := HQ.out; rwa [List.take_of_length_le (by rw [len_list]; exact Nat.le_refl _)] at this)
              clear hml
              go_wp2
              go_roundw
              case rel => exact ⟨k + 1, _, by omega, rfl, rfl, trivial, Lib.hid (HNx.out _ Q HQ2.out (by rw [bapp, bapp, bapp, bapp]; simp))⟩
              case measure =>
                simp [go_sem, RowKit.intOf]
                omega
        · have h3b : (x1 == 3) = false := beq_eq_false_iff_ne.2 h3
          have HNx := Lib.hid (fun (T2 : ByteArray) (h2 : T2.data.toList = T.data.toList ++ S.data.toList ++ [32]) => (show T2.data.toList = wrT (ws.take (k + 1)) by
            rw [h2, HTk.out, wrT_snoc, HT.out]
            simp [wrW, h3]))
          clear h3
          go_wp2
          go_roundw
          case rel => exact ⟨k + 1, _, by omega, rfl, rfl, trivial, Lib.hid (HNx.out _ (by rw [bapp, bapp]))⟩
          case measure =>
            simp [go_sem, RowKit.intOf]
            omega
      · obtain rfl : k = ws.length := by omega
        have HW := Lib.hid (show T.data.toList = wrT ws by have := HT.out; rwa [List.take_length] at this)
        have hTs : T.size ≤ 600 * 8003 := by
          rw [← len_list, HW.out]
          have := wrT_len ws HSm.out
          have h2 := Nat.mul_le_mul_right (2 * 4000 + 3) h6
          omega
        have hTi : (T.size : Int) ≤ 4801800 := by omega
        clear hlt
        have HXr := Lib.hid HX.out
        go_wp2_with fail
        refine (words_any T _ HV2.out hN2 (by omega)).mono ?_
        rintro e w3 hp
        by_cases h4 : 4000 < T.size
        · have h4i : (4000 : Int) < (T.size : Int) := by omega
          have e5 : wordsA T.data.toList = .no eL := by unfold wordsA; rw [if_pos (by rw [len_list]; exact h4)]
          rw [e5] at hp
          obtain ⟨rfl, _, hb3⟩ := hp
          have HB3 := Lib.hid (bt HB2.out hb3)
          clear h4 e5 hb3
          go_wp2
          go_ret
          exact ⟨rfl, HB3.out⟩
        · have h4i : (T.size : Int) ≤ 4000 := by omega
          have e5 : wordsA T.data.toList = .ok ws := by unfold wordsA; rw [if_neg (by rw [len_list]; exact h4), HW.out]; exact run_again HR.out
          rw [e5] at hp
          obtain ⟨vz, rfl, hz, hb3⟩ := hp
          have HZ := Lib.hid hz
          have HB3 := Lib.hid (bt HB2.out hb3)
          have HX3 := Lib.hid (own_below HX.out hb3)
          clear h4 e5 hz hb3
          go_wp2_with fail
          refine (ours_any _ _ ws _ HX3.out (by omega)).mono ?_
          rintro e w4 ⟨u4, rfl, ho4, hb4⟩
          have HO4 := Lib.hid ho4
          have HB4 := Lib.hid (bt HB3.out hb4)
          have HZ4 := Lib.hid (own_below HZ.out hb4)
          clear ho4 hb4
          go_wp2_with fail
          refine (same_yes _ _ _ _ ws _ HZ4.out HO4.out (by omega)).mono ?_
          rintro e w5 ⟨rfl, hb5⟩
          have HB5 := Lib.hid (bt HB4.out hb5)
          clear hb5
          go_wp2
          go_ret
          exact ⟨rfl, HB5.out⟩
end Go.Proofs.YtplgkblahmndoaaDoor
