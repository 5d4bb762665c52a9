/- parse.long. -/
import Derived.Test.YtknhphcfcpjhiaaGreatDoorPsSt2
import Derived.Test.YtknhphcfcpjhiaaGreatDoorPsSt3
import Derived.Test.YtknhphcfcpjhiaaGreatDoorPsSt4
import Derived.Test.YtknhphcfcpjhiaaGreatDoorPsSt6
import Derived.Test.YtknhphcfcpjhiaaGreatDoorPsSt8
import Derived.Test.YtknhphcfcpjhiaaGreatDoorPsSt10
import Derived.Test.YtknhphcfcpjhiaaGreatDoorPsDrop
namespace Go.Proofs.YtknhphcfcpjhiaaGreatDoor
open Go.RowKit
set_option linter.unusedVariables false
set_option linter.unusedSimpArgs false
set_option maxRecDepth 100000
theorem pstatement_any (N : Nat) (w : World) (b off : Nat) (wn wc : Nat) (ws : List Wd) (s0 : PS) (h : RdS N w (some ⟨b, off, none⟩) wn wc ws s0) (hr : RCx b off wn wc ws) :
    Calls Tryz.prog 19 #[.pointer (some ⟨N, 0, none⟩)] w (PsV (AgV smS) N w (some ⟨b, off, none⟩) wn wc ws (statementR ws s0)) := by
  cases hc : takeR ws 1 kCREATE s0 with
  | mk t s1 =>
  cases t with
  | true => exact pstm_0 N w b off wn wc ws s0 s1 h hr hc
  | false =>
    cases hd : takeR ws 1 kDROP s1 with
    | mk t s2 =>
    cases t with
    | true => exact pstm_1 N w b off wn wc ws s0 s1 s2 h hr hc hd
    | false =>
      cases hi : takeR ws 1 kINSERT s2 with
      | mk t s3 =>
      cases t with
      | true => exact pstm_2 N w b off wn wc ws s0 s1 s2 s3 h hr hc hd hi
      | false =>
        cases hu : takeR ws 1 kUPDATE s3 with
        | mk t s4 =>
        cases t with
        | true => exact pstm_3 N w b off wn wc ws s0 s1 s2 s3 s4 h hr hc hd hi hu
        | false =>
          cases hx : takeR ws 1 kDELETE s4 with
          | mk t s5 =>
          cases t with
          | true => exact pstm_4 N w b off wn wc ws s0 s1 s2 s3 s4 s5 h hr hc hd hi hu hx
          | false =>
            cases hs : takeR ws 1 kSELECT s5 with
            | mk t s6 =>
            cases t with
            | true => exact pstm_5 N w b off wn wc ws s0 s1 s2 s3 s4 s5 s6 h hr hc hd hi hu hx hs
            | false =>
              cases hb : takeR ws 1 kBEGIN s6 with
              | mk t s7 =>
              cases t with
              | true => exact pstm_6 N w b off wn wc ws s0 s1 s2 s3 s4 s5 s6 s7 h hr hc hd hi hu hx hs hb
              | false =>
                cases hm : takeR ws 1 kCOMMIT s7 with
                | mk t s8 =>
                cases t with
                | true => exact pstm_7 N w b off wn wc ws s0 s1 s2 s3 s4 s5 s6 s7 s8 h hr hc hd hi hu hx hs hb hm
                | false =>
                  cases hr0 : takeR ws 1 kROLLBACK s8 with
                  | mk t s9 =>
                  cases t with
                  | true => exact pstm_8 N w b off wn wc ws s0 s1 s2 s3 s4 s5 s6 s7 s8 s9 h hr hc hd hi hu hx hs hb hm hr0
                  | false =>
                    exact pstm_9 N w b off wn wc ws s0 s1 s2 s3 s4 s5 s6 s7 s8 s9 h hr hc hd hi hu hx hs hb hm hr0
end Go.Proofs.YtknhphcfcpjhiaaGreatDoor
namespace Go.Proofs.YtknhphcfcpjhiaaGreatDoor
open Go.RowKit
set_option linter.unusedVariables false
set_option linter.unusedSimpArgs false
set_option maxRecDepth 100000
set_option maxHeartbeats 6400000 in
theorem pstm_nil (N : Nat) (w0 : World) (wa : Option Addr) (wn wc : Nat) (ws : List Wd) (s0 s1 s2 s3 s4 s5 s6 s7 s8 s9 : PS) (h : RdS N w0 wa wn wc ws s0) (hc : takeR ws 1 kCREATE s0 = (false, s1)) (hd : takeR ws 1 kDROP s1 = (false, s2)) (hi : takeR ws 1 kINSERT s2 = (false, s3)) (hu : takeR ws 1 kUPDATE s3 = (false, s4)) (hx : takeR ws 1 kDELETE s4 = (false, s5)) (hs : takeR ws 1 kSELECT s5 = (false, s6)) (hb : takeR ws 1 kBEGIN s6 = (false, s7)) (hm : takeR ws 1 kCOMMIT s7 = (false, s8)) (hr0 : takeR ws 1 kROLLBACK s8 = (false, s9)) :
    Calls Tryz.prog 19 #[.pointer (some ⟨N, 0, none⟩)] w0 (PsV (AgV smS) N w0 wa wn wc ws (statementR ws s0)) := by
  have hB0 := bel0 (.cells #[.pointer (some ⟨N, 0, none⟩)] 107) (Below.refl w0.heap.size w0)
  have hlow := h.low
  refine Calls.mono (R := PsV (AgV smS) N (w0.alloc (.cells #[.pointer (some ⟨N, 0, none⟩)] 107)) wa wn wc ws (statementR ws s0)) ?_ (fun e w' hp => psv_up (RTo.of_below (N := N) hB0 (Nat.le_of_lt hlow)) hp)
  have hXp := Go.heap_alloc_new w0 (.cells #[.pointer (some ⟨N, 0, none⟩)] 107 (0, 0))
  have hsz : (w0.alloc (.cells #[.pointer (some ⟨N, 0, none⟩)] 107)).heap.size = w0.heap.size + 1 := by simp
  have h1 := h.below hB0
  have HXN := Lib.hid (show w0.heap.size ≠ N by omega)
  clear h hB0 hlow
  go_enter Tryz.func19, Tryz.ntmps19
  go_upto_region 1 with (fail)
  generalize w0.alloc (.cells #[.pointer (some ⟨N, 0, none⟩)] 107) = w at *
  rw [← hsz]
  generalize w0.heap.size = X at *
  have HN := Lib.hid h1.low
  have HIt := Lib.hid (show statementR ws s0 = (zST, fl 3 s9) by rw [statementR_eq]; simp only [hc, hd, hi, hu, hx, hs, hb, hm, hr0, if_true, if_false, Bool.false_eq_true])
  have HB := Lib.hid (bel0 (.cells #[.int .i64 0, .string ⟨#[]⟩, .string ⟨#[]⟩, .bool false, .slice none 0 0, .slice none 0 0, .slice none 0 0, .slice none 0 0, .slice none 0 0, .bool false, .bool false, .slice none 0 0, .slice none 0 0, .slice none 0 0, .slice none 0 0, .slice none 0 0, .int .i64 0] 45) (Below.refl w.heap.size w))
  have HX1 := Lib.hid (Go.heap_alloc_new w (.cells #[.int .i64 0, .string ⟨#[]⟩, .string ⟨#[]⟩, .bool false, .slice none 0 0, .slice none 0 0, .slice none 0 0, .slice none 0 0, .slice none 0 0, .bool false, .bool false, .slice none 0 0, .slice none 0 0, .slice none 0 0, .slice none 0 0, .slice none 0 0, .int .i64 0] 45 (0, 0)))
  have HS1 := Lib.hid (h1.below HB.out)
  have HT1 := Lib.hid (RTo.of_below (N := N) HB.out (Nat.le_of_lt h1.low))
  have HW1 := Lib.hid (show w.heap.size < (w.alloc (.cells #[.int .i64 0, .string ⟨#[]⟩, .string ⟨#[]⟩, .bool false, .slice none 0 0, .slice none 0 0, .slice none 0 0, .slice none 0 0, .slice none 0 0, .bool false, .bool false, .slice none 0 0, .slice none 0 0, .slice none 0 0, .slice none 0 0, .slice none 0 0, .int .i64 0] 45)).heap.size from (Array.getElem?_eq_some_iff.1 HX1.out).1)
  have HXw := Lib.hid (show X < w.heap.size from (Array.getElem?_eq_some_iff.1 hXp).1)
  have HP1 := Lib.hid ((HB.out.block X HXw.out).trans hXp)
  have HHC := Lib.hid hc
  have HHD := Lib.hid hd
  have HHI := Lib.hid hi
  have HHU := Lib.hid hu
  have HHX := Lib.hid hx
  have HHS := Lib.hid hs
  have HHB := Lib.hid hb
  have HHM := Lib.hid hm
  have HHR0 := Lib.hid hr0
  clear h1 hXp hsz hc hd hi hu hx hs hb hm hr0
  generalize w.alloc (.cells #[.int .i64 0, .string ⟨#[]⟩, .string ⟨#[]⟩, .bool false, .slice none 0 0, .slice none 0 0, .slice none 0 0, .slice none 0 0, .slice none 0 0, .bool false, .bool false, .slice none 0 0, .slice none 0 0, .slice none 0 0, .slice none 0 0, .slice none 0 0, .int .i64 0] 45) = w1 at *
  have HL1 := Lib.hid (Nat.le_refl w1.heap.size)
  have HKw := Lib.hid (pkeyword_any kCREATE N w1 _ wn wc ws s0 HS1.out)
  rw [HHC.out, show bs kCREATE = ⟨#[67, 82, 69, 65, 84, 69]⟩ from rfl] at HKw
  dsimp only at HKw
  have cX := cell_of_row _ _ 0 _ _ _ HP1.out
  go_wp2_with fail
  clear cX
  refine HKw.out.mono ?_
  rintro e w2 ⟨rfl, h1, h2⟩
  have HP2 := Lib.hid ((h2.block X (Array.getElem?_eq_some_iff.1 HP1.out).1 HXN.out).trans HP1.out)
  have HS2 := Lib.hid h1
  have HT2 := Lib.hid (HT1.out.trans h2)
  have HX2 := Lib.hid ((h2.block _ (Array.getElem?_eq_some_iff.1 HX1.out).1 (by have := HN.out; omega)).trans HX1.out)
  have HL2 := Lib.hid (Nat.le_trans HL1.out h2.size)
  clear h1 h2 HKw
  have HKw := Lib.hid (pkeyword_any kDROP N w2 _ wn wc ws s1 HS2.out)
  rw [HHD.out, show bs kDROP = ⟨#[68, 82, 79, 80]⟩ from rfl] at HKw
  dsimp only at HKw
  have cX := cell_of_row _ _ 0 _ _ _ HP2.out
  go_wp2_with fail
  clear cX
  refine HKw.out.mono ?_
  rintro e w3 ⟨rfl, h1, h2⟩
  have HP3 := Lib.hid ((h2.block X (Array.getElem?_eq_some_iff.1 HP2.out).1 HXN.out).trans HP2.out)
  have HS3 := Lib.hid h1
  have HT3 := Lib.hid (HT2.out.trans h2)
  have HX3 := Lib.hid ((h2.block _ (Array.getElem?_eq_some_iff.1 HX2.out).1 (by have := HN.out; omega)).trans HX2.out)
  have HL3 := Lib.hid (Nat.le_trans HL2.out h2.size)
  clear h1 h2 HKw
  have HKw := Lib.hid (pkeyword_any kINSERT N w3 _ wn wc ws s2 HS3.out)
  rw [HHI.out, show bs kINSERT = ⟨#[73, 78, 83, 69, 82, 84]⟩ from rfl] at HKw
  dsimp only at HKw
  have cX := cell_of_row _ _ 0 _ _ _ HP3.out
  go_wp2_with fail
  clear cX
  refine HKw.out.mono ?_
  rintro e w4 ⟨rfl, h1, h2⟩
  have HP4 := Lib.hid ((h2.block X (Array.getElem?_eq_some_iff.1 HP3.out).1 HXN.out).trans HP3.out)
  have HS4 := Lib.hid h1
  have HT4 := Lib.hid (HT3.out.trans h2)
  have HX4 := Lib.hid ((h2.block _ (Array.getElem?_eq_some_iff.1 HX3.out).1 (by have := HN.out; omega)).trans HX3.out)
  have HL4 := Lib.hid (Nat.le_trans HL3.out h2.size)
  clear h1 h2 HKw
  have HKw := Lib.hid (pkeyword_any kUPDATE N w4 _ wn wc ws s3 HS4.out)
  rw [HHU.out, show bs kUPDATE = ⟨#[85, 80, 68, 65, 84, 69]⟩ from rfl] at HKw
  dsimp only at HKw
  have cX := cell_of_row _ _ 0 _ _ _ HP4.out
  go_wp2_with fail
  clear cX
  refine HKw.out.mono ?_
  rintro e w5 ⟨rfl, h1, h2⟩
  have HP5 := Lib.hid ((h2.block X (Array.getElem?_eq_some_iff.1 HP4.out).1 HXN.out).trans HP4.out)
  have HS5 := Lib.hid h1
  have HT5 := Lib.hid (HT4.out.trans h2)
  have HX5 := Lib.hid ((h2.block _ (Array.getElem?_eq_some_iff.1 HX4.out).1 (by have := HN.out; omega)).trans HX4.out)
  have HL5 := Lib.hid (Nat.le_trans HL4.out h2.size)
  clear h1 h2 HKw
  have HKw := Lib.hid (pkeyword_any kDELETE N w5 _ wn wc ws s4 HS5.out)
  rw [HHX.out, show bs kDELETE = ⟨#[68, 69, 76, 69, 84, 69]⟩ from rfl] at HKw
  dsimp only at HKw
  have cX := cell_of_row _ _ 0 _ _ _ HP5.out
  go_wp2_with fail
  clear cX
  refine HKw.out.mono ?_
  rintro e w6 ⟨rfl, h1, h2⟩
  have HP6 := Lib.hid ((h2.block X (Array.getElem?_eq_some_iff.1 HP5.out).1 HXN.out).trans HP5.out)
  have HS6 := Lib.hid h1
  have HT6 := Lib.hid (HT5.out.trans h2)
  have HX6 := Lib.hid ((h2.block _ (Array.getElem?_eq_some_iff.1 HX5.out).1 (by have := HN.out; omega)).trans HX5.out)
  have HL6 := Lib.hid (Nat.le_trans HL5.out h2.size)
  clear h1 h2 HKw
  have HKw := Lib.hid (pkeyword_any kSELECT N w6 _ wn wc ws s5 HS6.out)
  rw [HHS.out, show bs kSELECT = ⟨#[83, 69, 76, 69, 67, 84]⟩ from rfl] at HKw
  dsimp only at HKw
  have cX := cell_of_row _ _ 0 _ _ _ HP6.out
  go_wp2_with fail
  clear cX
  refine HKw.out.mono ?_
  rintro e w7 ⟨rfl, h1, h2⟩
  have HP7 := Lib.hid ((h2.block X (Array.getElem?_eq_some_iff.1 HP6.out).1 HXN.out).trans HP6.out)
  have HS7 := Lib.hid h1
  have HT7 := Lib.hid (HT6.out.trans h2)
  have HX7 := Lib.hid ((h2.block _ (Array.getElem?_eq_some_iff.1 HX6.out).1 (by have := HN.out; omega)).trans HX6.out)
  have HL7 := Lib.hid (Nat.le_trans HL6.out h2.size)
  clear h1 h2 HKw
  have HKw := Lib.hid (pkeyword_any kBEGIN N w7 _ wn wc ws s6 HS7.out)
  rw [HHB.out, show bs kBEGIN = ⟨#[66, 69, 71, 73, 78]⟩ from rfl] at HKw
  dsimp only at HKw
  have cX := cell_of_row _ _ 0 _ _ _ HP7.out
  go_wp2_with fail
  clear cX
  refine HKw.out.mono ?_
  rintro e w8 ⟨rfl, h1, h2⟩
  have HP8 := Lib.hid ((h2.block X (Array.getElem?_eq_some_iff.1 HP7.out).1 HXN.out).trans HP7.out)
  have HS8 := Lib.hid h1
  have HT8 := Lib.hid (HT7.out.trans h2)
  have HX8 := Lib.hid ((h2.block _ (Array.getElem?_eq_some_iff.1 HX7.out).1 (by have := HN.out; omega)).trans HX7.out)
  have HL8 := Lib.hid (Nat.le_trans HL7.out h2.size)
  clear h1 h2 HKw
  have HKw := Lib.hid (pkeyword_any kCOMMIT N w8 _ wn wc ws s7 HS8.out)
  rw [HHM.out, show bs kCOMMIT = ⟨#[67, 79, 77, 77, 73, 84]⟩ from rfl] at HKw
  dsimp only at HKw
  have cX := cell_of_row _ _ 0 _ _ _ HP8.out
  go_wp2_with fail
  clear cX
  refine HKw.out.mono ?_
  rintro e w9 ⟨rfl, h1, h2⟩
  have HP9 := Lib.hid ((h2.block X (Array.getElem?_eq_some_iff.1 HP8.out).1 HXN.out).trans HP8.out)
  have HS9 := Lib.hid h1
  have HT9 := Lib.hid (HT8.out.trans h2)
  have HX9 := Lib.hid ((h2.block _ (Array.getElem?_eq_some_iff.1 HX8.out).1 (by have := HN.out; omega)).trans HX8.out)
  have HL9 := Lib.hid (Nat.le_trans HL8.out h2.size)
  clear h1 h2 HKw
  have HKw := Lib.hid (pkeyword_any kROLLBACK N w9 _ wn wc ws s8 HS9.out)
  rw [HHR0.out, show bs kROLLBACK = ⟨#[82, 79, 76, 76, 66, 65, 67, 75]⟩ from rfl] at HKw
  dsimp only at HKw
  have cX := cell_of_row _ _ 0 _ _ _ HP9.out
  go_wp2_with fail
  clear cX
  refine HKw.out.mono ?_
  rintro e w10 ⟨rfl, h1, h2⟩
  have HP10 := Lib.hid ((h2.block X (Array.getElem?_eq_some_iff.1 HP9.out).1 HXN.out).trans HP9.out)
  have HS10 := Lib.hid h1
  have HT10 := Lib.hid (HT9.out.trans h2)
  have HX10 := Lib.hid ((h2.block _ (Array.getElem?_eq_some_iff.1 HX9.out).1 (by have := HN.out; omega)).trans HX9.out)
  have HL10 := Lib.hid (Nat.le_trans HL9.out h2.size)
  clear h1 h2 HKw
  have HFl := Lib.hid (fail_any N w10 _ wn wc ws s9 HS10.out 3 (by unfold InR; omega))
  replace HIt := Lib.hid (show statementR ws s0 = (zST, fl 3 s9) from HIt.out)
  obtain ⟨s10, hsf⟩ : ∃ q, q = fl 3 s9 := ⟨_, rfl⟩
  rw [← hsf] at HFl HIt
  clear hsf
  have cX := cell_of_row _ _ 0 _ _ _ HP10.out
  go_wp2_with fail
  clear cX
  refine HFl.out.mono ?_
  rintro e w11 ⟨rfl, h1, h2⟩
  have HP11 := Lib.hid ((h2.block X (Array.getElem?_eq_some_iff.1 HP10.out).1 HXN.out).trans HP10.out)
  have HS11 := Lib.hid h1
  have HT11 := Lib.hid (HT10.out.trans h2)
  have HX11 := Lib.hid ((h2.block _ (Array.getElem?_eq_some_iff.1 HX10.out).1 (by have := HN.out; omega)).trans HX10.out)
  have HL11 := Lib.hid (Nat.le_trans HL10.out h2.size)
  clear h1 h2
  have HR := Lib.hid (show statementR ws s0 = (zST, s10) from HIt.out)
  have HFin := Lib.hid (wbox_sm HX11.out (.int .i64 0) (.string ⟨#[]⟩) (.string ⟨#[]⟩) (.bool false) (.slice none 0 0) (.slice none 0 0) (.slice none 0 0) (.slice none 0 0) (.slice none 0 0) (.bool false) (.bool false) (.slice none 0 0) (.slice none 0 0) (.slice none 0 0) (.slice none 0 0) (.slice none 0 0) (.int .i64 0))
  have HF1 := Lib.hid (HS11.out.setLe (R := w.heap.size) HN.out 0 [.int .i64 0, .string ⟨#[]⟩, .string ⟨#[]⟩, .bool false, .slice none 0 0, .slice none 0 0, .slice none 0 0, .slice none 0 0, .slice none 0 0, .bool false, .bool false, .slice none 0 0, .slice none 0 0, .slice none 0 0, .slice none 0 0, .slice none 0 0, .int .i64 0])
  have HF2 := Lib.hid (HT11.out.setLe (R := w.heap.size) (Nat.le_of_lt HN.out) (Nat.le_refl _) 0 [.int .i64 0, .string ⟨#[]⟩, .string ⟨#[]⟩, .bool false, .slice none 0 0, .slice none 0 0, .slice none 0 0, .slice none 0 0, .slice none 0 0, .bool false, .bool false, .slice none 0 0, .slice none 0 0, .slice none 0 0, .slice none 0 0, .slice none 0 0, .int .i64 0])
  go_upto_region 29 with (fail)
  refine wp_region_lit ?_
  refine wpl_lit rfl _ _ rfl _ rfl [.int .i64 0, .string ⟨#[]⟩, .string ⟨#[]⟩, .bool false, .slice none 0 0, .slice none 0 0, .slice none 0 0, .slice none 0 0, .slice none 0 0, .bool false, .bool false, .slice none 0 0, .slice none 0 0, .slice none 0 0, .slice none 0 0, .slice none 0 0, .int .i64 0] (by kernel_rfl) rfl _ _ _ rfl _ rfl w.heap.size rfl rfl _ _ HX11.out (by kernel_rfl) rfl rfl ?_
  refine wpList_nil ?_
  go_wp2
  refine bodyPost_ret (results_sm rfl _ _ w.heap.size _ _ _ _ _ _ _ _ _ _ _ _ _ _ _ _ _ rfl HFin.out) rfl ?_
  rw [HR.out]
  exact ⟨⟨_, rfl, _, rfl, _, _, _, _, _, _, rfl, SlV.nil _ _ _, SlV.nil _ _ _, SlV.nil _ _ _, SlV.nil _ _ _, LeV.nil _ _, zQ_lies _ _, rfl, eB_le, eB_le⟩, HF1.out, HF2.out⟩
end Go.Proofs.YtknhphcfcpjhiaaGreatDoor
namespace Go.Proofs.YtknhphcfcpjhiaaGreatDoor
open Go.RowKit
set_option linter.unusedVariables false
set_option linter.unusedSimpArgs false
set_option maxRecDepth 100000
theorem any_drop {α : Type} {f : α → Bool} {l : List α} {k : Nat} (h : k < l.length) : (l.drop k).any f = (f l[k] || (l.drop (k + 1)).any f) := by
  rw [List.drop_eq_getElem_cons h]
  rfl
set_option maxHeartbeats 6400000 in
theorem plong_any (w : World) (Q : Nat → Prop) (v : Value) (s : ST) (h : AgV smS w Q v s) :
    Calls Tryz.prog 22 #[v] w fun e w' => e = .returned (.bool (longR s)) ∧ Below w.heap.size w w' := by
  obtain ⟨_, rfl, _, _, _, _, _, _, rfl, ⟨azc, czc, rfl, c1, c2, -⟩, ⟨azk, czk, rfl, k1, k2, -⟩, ⟨azr, czr, rfl, r1, r2, hrw⟩, ⟨azs, czs, rfl, s1, s2, -⟩, ⟨azw, czw, rfl, -⟩, ⟨_, _, _, _, _, rfl, ⟨aqi, cqi, rfl, i1, i2, -⟩, ⟨aqf, cqf, rfl, f1, f2, -⟩, ⟨aqw, cqw, rfl, -⟩, ⟨aqg, cqg, rfl, -, g1, g2⟩, ⟨aqo, cqo, rfl, o1, o2, -⟩, -⟩, -⟩ := h
  have HRw := Lib.hid hrw
  have HLr := Lib.hid (show longR s = (s.rows.any (fun r => decide (8 < r.length)) || (decide (8 < s.cols.length) || decide (8 < s.keys.length) || decide (8 < s.q.items.length) || decide (8 < s.q.group.length) || decide (8 < s.q.ord.length) || decide (3 < s.q.src.length) || decide (10 < s.rows.length) || decide (8 < s.sets.length))) from rfl)
  have HR0 := Lib.hid (show (s.rows.drop 0).any (fun r => decide (8 < r.length)) = s.rows.any (fun r => decide (8 < r.length)) from rfl)
  have HBd := Lib.hid (show s.cols.length ≤ maxLen ∧ s.keys.length ≤ maxLen ∧ s.rows.length ≤ maxLen ∧ s.sets.length ≤ maxLen ∧ s.q.items.length ≤ maxLen ∧ s.q.src.length ≤ maxLen ∧ s.q.group.length ≤ maxLen ∧ s.q.ord.length ≤ maxLen from ⟨by omega, by omega, by omega, by omega, by omega, by omega, by omega, by omega⟩)
  clear hrw c1 c2 k1 k2 r1 r2 s1 s2 i1 i2 f1 f2 g1 g2 o1 o2
  obtain ⟨nc, hnc⟩ : ∃ n, n = s.cols.length := ⟨_, rfl⟩
  have HNC := Lib.hid hnc
  obtain ⟨nk, hnk⟩ : ∃ n, n = s.keys.length := ⟨_, rfl⟩
  have HNK := Lib.hid hnk
  obtain ⟨nr, hnr⟩ : ∃ n, n = s.rows.length := ⟨_, rfl⟩
  have HNR := Lib.hid hnr
  obtain ⟨ns, hns⟩ : ∃ n, n = s.sets.length := ⟨_, rfl⟩
  have HNS := Lib.hid hns
  obtain ⟨ni, hni⟩ : ∃ n, n = s.q.items.length := ⟨_, rfl⟩
  have HNI := Lib.hid hni
  obtain ⟨nf, hnf⟩ : ∃ n, n = s.q.src.length := ⟨_, rfl⟩
  have HNF := Lib.hid hnf
  obtain ⟨ng, hng⟩ : ∃ n, n = s.q.group.length := ⟨_, rfl⟩
  have HNG := Lib.hid hng
  obtain ⟨no, hno⟩ : ∃ n, n = s.q.ord.length := ⟨_, rfl⟩
  have HNO := Lib.hid hno
  rw [← hnc, ← hnk, ← hnr, ← hns, ← hni, ← hnf, ← hng, ← hno] at HLr HBd ⊢
  clear hnc hnk hnr hns hni hnf hng hno
  have HX := Lib.hid (Go.heap_alloc_new w (.cells #[.int .i64 s.kind, .string s.name, .string s.on, .bool s.uniq, .slice azc nc czc, .slice azk nk czk, .slice azr nr czr, .slice azs ns czs, .slice azw s.whr.length czw, .bool s.q.dist, .bool s.q.star, .slice aqi ni cqi, .slice aqf nf cqf, .slice aqw s.q.whr.length cqw, .slice aqg ng cqg, .slice aqo no cqo, .int .i64 s.q.lim] 45 (0, 0)))
  have HB := Lib.hid (bel0 (.cells #[.int .i64 s.kind, .string s.name, .string s.on, .bool s.uniq, .slice azc nc czc, .slice azk nk czk, .slice azr nr czr, .slice azs ns czs, .slice azw s.whr.length czw, .bool s.q.dist, .bool s.q.star, .slice aqi ni cqi, .slice aqf nf cqf, .slice aqw s.q.whr.length cqw, .slice aqg ng cqg, .slice aqo no cqo, .int .i64 s.q.lim] 45) (Below.refl w.heap.size w))
  go_enter Tryz.func22, Tryz.ntmps22
  go_upto_region 1 with (fail)
  generalize w.alloc (.cells #[.int .i64 s.kind, .string s.name, .string s.on, .bool s.uniq, .slice azc nc czc, .slice azk nk czk, .slice azr nr czr, .slice azs ns czs, .slice azw s.whr.length czw, .bool s.q.dist, .bool s.q.star, .slice aqi ni cqi, .slice aqf nf cqf, .slice aqw s.q.whr.length cqw, .slice aqg ng cqg, .slice aqo no cqo, .int .i64 s.q.lim] 45) = w1 at *
  obtain ⟨l0, l1, l2, l3, l4, l5, l6, l7, l8, l9, l10, l11, l12, l13, l14, l15, l16, lz, lN⟩ := rowc_sm HX.out
  go_wp2_with fail
  go_loopw [9] (fun i wr => ∃ k : Nat, k ≤ nr ∧ i = .int .i64 (k : Int) ∧ wr = w1 ∧ Hid ((s.rows.drop k).any (fun r => decide (8 < r.length)) = s.rows.any (fun r => decide (8 < r.length)))) (fun i _ => nr - (intOf i).toNat)
  case atStart => exact ⟨0, by omega, rfl, rfl, HR0⟩
  case round =>
    obtain ⟨k, hk, rfl, rfl, HL⟩ := hrel
    have hk0 : (0 : Int) ≤ (k : Int) := by omega
    have hnm : nr ≤ 9223372036854775807 := by have := HBd.out; unfold maxLen at this; omega
    by_cases hlt : k < nr
    · have hki : (k : Int) < (nr : Int) := by omega
      have hkl : k < s.rows.length := by rw [← HNR.out]; exact hlt
      have HD := Lib.hid (any_drop (f := fun r : List ET => decide (8 < r.length)) hkl)
      rcases HRw.out with h0 | ⟨rb, ro, hra, -, hrl, hel⟩
      · rw [h0] at hkl; simp at hkl
      subst hra
      obtain ⟨_, ⟨ra, rc, rfl, -⟩, hc⟩ := hel k hkl
      have q0 := (World.cell?_of_block (HB.out.block rb hrl)).trans (hc 0 _ rfl)
      rw [show ro + k * roS.n + 0 = ro + k by show ro + k * 1 + 0 = ro + k; omega] at q0
      have hrb : rb < wr.heap.size := Nat.lt_of_lt_of_le hrl HB.out.size
      obtain ⟨r, hr⟩ : ∃ r, r = s.rows[k] := ⟨_, rfl⟩
      rw [← hr] at q0 HD
      obtain ⟨m, hm⟩ : ∃ m, m = r.length := ⟨_, rfl⟩
      rw [← hm] at q0 HD
      clear hc hel hr hm hkl
      by_cases h8 : 8 < m
      · have h8i : (8 : Int) < (m : Int) := by omega
        have HT := Lib.hid (show longR s = true by rw [HLr.out, ← HL.out, HD.out]; simp [h8])
        clear h8
        go_wp2
        go_ret
        rw [HT.out]
        exact ⟨rfl, HB.out⟩
      · have h8i : ¬ (8 : Int) < (m : Int) := by omega
        have HT := Lib.hid (show (s.rows.drop (k + 1)).any (fun r => decide (8 < r.length)) = s.rows.any (fun r => decide (8 < r.length)) by rw [← HL.out, HD.out]; simp [h8])
        have HLt := Lib.hid hlt
        clear h8 hlt
        go_wp2
        go_roundw
        case rel => first | exact ⟨k + 1, HLt.out, by go_num, trivial, HT⟩ | (repeat apply Exists.intro; refine ⟨?_, rfl⟩; exact ⟨k + 1, HLt.out, by go_num, trivial, HT⟩)
        case measure => have := HLt.out; simp [intOf]; omega
    · have hkk : ¬ ((k : Int) < (nr : Int)) := by omega
      have HLs := Lib.hid (show longR s = (decide (8 < nc) || decide (8 < nk) || decide (8 < ni) || decide (8 < ng) || decide (8 < no) || decide (3 < nf) || decide (10 < nr) || decide (8 < ns)) by
        have h1 := HL.out
        rw [List.drop_of_length_le (by rw [← HNR.out]; omega)] at h1
        rw [HLr.out, ← h1]
        rfl)
      have HBq := Lib.hid (bt HB.out (bel0 (.cells #[.bool s.q.dist, .bool s.q.star, .slice aqi ni cqi, .slice aqf nf cqf, .slice aqw s.q.whr.length cqw, .slice aqg ng cqg, .slice aqo no cqo, .int .i64 s.q.lim] 43) (Below.refl wr.heap.size wr)))
      go_wp2
      all_goals
        go_ret
        refine ⟨?_, by first | exact HB.out | exact HBq.out⟩
        rw [HLs.out]
        refine congrArg (fun b => Ending.returned (.bool b)) ?_
        clear HLs HLr HL HBd HNR HRw HB HX HBq
        first
          | (symm; simp only [Bool.or_eq_true, decide_eq_true_eq]; omega)
          | (rw [Bool.eq_iff_iff]; simp only [Bool.or_eq_true, decide_eq_true_eq]; omega)
          | (symm; rw [← Bool.not_eq_true]; simp only [Bool.or_eq_true, decide_eq_true_eq]; omega)
          | trace_state
end Go.Proofs.YtknhphcfcpjhiaaGreatDoor
