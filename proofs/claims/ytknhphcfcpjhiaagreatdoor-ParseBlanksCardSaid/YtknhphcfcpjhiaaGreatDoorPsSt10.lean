/- The package's reader of statements: statement. Written by genpst.py. -/
import Derived.Test.YtknhphcfcpjhiaaGreatDoorPsSt2
namespace Go.Proofs.YtknhphcfcpjhiaaGreatDoor
open Go.RowKit
set_option linter.unusedVariables false
set_option linter.unusedSimpArgs false
set_option maxRecDepth 100000
set_option maxHeartbeats 6400000 in
theorem pstm_8 (N : Nat) (w0 : World) (b off : Nat) (wn wc : Nat) (ws : List Wd) (s0 s1 s2 s3 s4 s5 s6 s7 s8 s9 : PS) (h : RdS N w0 (some ⟨b, off, none⟩) wn wc ws s0) (hr : RCx b off wn wc ws) (hc : takeR ws 1 kCREATE s0 = (false, s1)) (hd : takeR ws 1 kDROP s1 = (false, s2)) (hi : takeR ws 1 kINSERT s2 = (false, s3)) (hu : takeR ws 1 kUPDATE s3 = (false, s4)) (hx : takeR ws 1 kDELETE s4 = (false, s5)) (hs : takeR ws 1 kSELECT s5 = (false, s6)) (hb : takeR ws 1 kBEGIN s6 = (false, s7)) (hm : takeR ws 1 kCOMMIT s7 = (false, s8)) (hr0 : takeR ws 1 kROLLBACK s8 = (true, s9)) :
    Calls Tryz.prog 19 #[.pointer (some ⟨N, 0, none⟩)] w0 (PsV (AgV smS) N w0 (some ⟨b, off, none⟩) wn wc ws (statementR ws s0)) := by
  have hB0 := bel0 (.cells #[.pointer (some ⟨N, 0, none⟩)] 107) (Below.refl w0.heap.size w0)
  have hlow := h.low
  refine Calls.mono (R := PsV (AgV smS) N (w0.alloc (.cells #[.pointer (some ⟨N, 0, none⟩)] 107)) (some ⟨b, off, none⟩) wn wc ws (statementR ws s0)) ?_ (fun e w' hp => psv_up (RTo.of_below (N := N) hB0 (Nat.le_of_lt hlow)) hp)
  have hXp := Go.heap_alloc_new w0 (.cells #[.pointer (some ⟨N, 0, none⟩)] 107 (0, 0))
  have hsz : (w0.alloc (.cells #[.pointer (some ⟨N, 0, none⟩)] 107)).heap.size = w0.heap.size + 1 := by simp
  have h1 := h.below hB0
  have HXN := Lib.hid (show w0.heap.size ≠ N by omega)
  clear h hB0 hlow
  go_enter Tryz.func19, Tryz.ntmps19
  go_upto_region 1 with (fail)
  generalize w0.alloc (.cells #[.pointer (some ⟨N, 0, none⟩)] 107) = w at *
  rw [← hsz]
  generalize w0.heap.size = X at *
  have HRc := Lib.hid hr
  have HN := Lib.hid h1.low
  have HIt := Lib.hid (show statementR ws s0 = ({ zST with kind := 13 }, s9) by rw [statementR_eq]; simp only [hc, hd, hi, hu, hx, hs, hb, hm, hr0, if_true, if_false, Bool.false_eq_true])
  have HB := Lib.hid (bel0 (.cells #[.int .i64 0, .string ⟨#[]⟩, .string ⟨#[]⟩, .bool false, .slice none 0 0, .slice none 0 0, .slice none 0 0, .slice none 0 0, .slice none 0 0, .bool false, .bool false, .slice none 0 0, .slice none 0 0, .slice none 0 0, .slice none 0 0, .slice none 0 0, .int .i64 0] 45) (Below.refl w.heap.size w))
  have HX1 := Lib.hid (Go.heap_alloc_new w (.cells #[.int .i64 0, .string ⟨#[]⟩, .string ⟨#[]⟩, .bool false, .slice none 0 0, .slice none 0 0, .slice none 0 0, .slice none 0 0, .slice none 0 0, .bool false, .bool false, .slice none 0 0, .slice none 0 0, .slice none 0 0, .slice none 0 0, .slice none 0 0, .int .i64 0] 45 (0, 0)))
  have HS1 := Lib.hid (h1.below HB.out)
  have HT1 := Lib.hid (RTo.of_below (N := N) HB.out (Nat.le_of_lt h1.low))
  have HW1 := Lib.hid (show w.heap.size < (w.alloc (.cells #[.int .i64 0, .string ⟨#[]⟩, .string ⟨#[]⟩, .bool false, .slice none 0 0, .slice none 0 0, .slice none 0 0, .slice none 0 0, .slice none 0 0, .bool false, .bool false, .slice none 0 0, .slice none 0 0, .slice none 0 0, .slice none 0 0, .slice none 0 0, .int .i64 0] 45)).heap.size from (Array.getElem?_eq_some_iff.1 HX1.out).1)
  have HXw := Lib.hid (show X < w.heap.size from (Array.getElem?_eq_some_iff.1 hXp).1)
  have HP1 := Lib.hid ((HB.out.block X HXw.out).trans hXp)
  have HHC := Lib.hid hc
  have HHD := Lib.hid hd
  have HHI := Lib.hid hi
  have HHU := Lib.hid hu
  have HHX := Lib.hid hx
  have HHS := Lib.hid hs
  have HHB := Lib.hid hb
  have HHM := Lib.hid hm
  have HHR0 := Lib.hid hr0
  clear h1 hr hXp hsz hc hd hi hu hx hs hb hm hr0
  generalize w.alloc (.cells #[.int .i64 0, .string ⟨#[]⟩, .string ⟨#[]⟩, .bool false, .slice none 0 0, .slice none 0 0, .slice none 0 0, .slice none 0 0, .slice none 0 0, .bool false, .bool false, .slice none 0 0, .slice none 0 0, .slice none 0 0, .slice none 0 0, .slice none 0 0, .int .i64 0] 45) = w1 at *
  have HL1 := Lib.hid (Nat.le_refl w1.heap.size)
  have HKw := Lib.hid (pkeyword_any kCREATE N w1 _ wn wc ws s0 HS1.out)
  rw [HHC.out, show bs kCREATE = ⟨#[67, 82, 69, 65, 84, 69]⟩ from rfl] at HKw
  dsimp only at HKw
  have cX := cell_of_row _ _ 0 _ _ _ HP1.out
  go_wp2_with fail
  clear cX
  refine HKw.out.mono ?_
  rintro e w2 ⟨rfl, h1, h2⟩
  have HP2 := Lib.hid ((h2.block X (Array.getElem?_eq_some_iff.1 HP1.out).1 HXN.out).trans HP1.out)
  have HS2 := Lib.hid h1
  have HT2 := Lib.hid (HT1.out.trans h2)
  have HX2 := Lib.hid ((h2.block _ (Array.getElem?_eq_some_iff.1 HX1.out).1 (by have := HN.out; omega)).trans HX1.out)
  have HL2 := Lib.hid (Nat.le_trans HL1.out h2.size)
  clear h1 h2 HKw
  have HKw := Lib.hid (pkeyword_any kDROP N w2 _ wn wc ws s1 HS2.out)
  rw [HHD.out, show bs kDROP = ⟨#[68, 82, 79, 80]⟩ from rfl] at HKw
  dsimp only at HKw
  have cX := cell_of_row _ _ 0 _ _ _ HP2.out
  go_wp2_with fail
  clear cX
  refine HKw.out.mono ?_
  rintro e w3 ⟨rfl, h1, h2⟩
  have HP3 := Lib.hid ((h2.block X (Array.getElem?_eq_some_iff.1 HP2.out).1 HXN.out).trans HP2.out)
  have HS3 := Lib.hid h1
  have HT3 := Lib.hid (HT2.out.trans h2)
  have HX3 := Lib.hid ((h2.block _ (Array.getElem?_eq_some_iff.1 HX2.out).1 (by have := HN.out; omega)).trans HX2.out)
  have HL3 := Lib.hid (Nat.le_trans HL2.out h2.size)
  clear h1 h2 HKw
  have HKw := Lib.hid (pkeyword_any kINSERT N w3 _ wn wc ws s2 HS3.out)
  rw [HHI.out, show bs kINSERT = ⟨#[73, 78, 83, 69, 82, 84]⟩ from rfl] at HKw
  dsimp only at HKw
  have cX := cell_of_row _ _ 0 _ _ _ HP3.out
  go_wp2_with fail
  clear cX
  refine HKw.out.mono ?_
  rintro e w4 ⟨rfl, h1, h2⟩
  have HP4 := Lib.hid ((h2.block X (Array.getElem?_eq_some_iff.1 HP3.out).1 HXN.out).trans HP3.out)
  have HS4 := Lib.hid h1
  have HT4 := Lib.hid (HT3.out.trans h2)
  have HX4 := Lib.hid ((h2.block _ (Array.getElem?_eq_some_iff.1 HX3.out).1 (by have := HN.out; omega)).trans HX3.out)
  have HL4 := Lib.hid (Nat.le_trans HL3.out h2.size)
  clear h1 h2 HKw
  have HKw := Lib.hid (pkeyword_any kUPDATE N w4 _ wn wc ws s3 HS4.out)
  rw [HHU.out, show bs kUPDATE = ⟨#[85, 80, 68, 65, 84, 69]⟩ from rfl] at HKw
  dsimp only at HKw
  have cX := cell_of_row _ _ 0 _ _ _ HP4.out
  go_wp2_with fail
  clear cX
  refine HKw.out.mono ?_
  rintro e w5 ⟨rfl, h1, h2⟩
  have HP5 := Lib.hid ((h2.block X (Array.getElem?_eq_some_iff.1 HP4.out).1 HXN.out).trans HP4.out)
  have HS5 := Lib.hid h1
  have HT5 := Lib.hid (HT4.out.trans h2)
  have HX5 := Lib.hid ((h2.block _ (Array.getElem?_eq_some_iff.1 HX4.out).1 (by have := HN.out; omega)).trans HX4.out)
  have HL5 := Lib.hid (Nat.le_trans HL4.out h2.size)
  clear h1 h2 HKw
  have HKw := Lib.hid (pkeyword_any kDELETE N w5 _ wn wc ws s4 HS5.out)
  rw [HHX.out, show bs kDELETE = ⟨#[68, 69, 76, 69, 84, 69]⟩ from rfl] at HKw
  dsimp only at HKw
  have cX := cell_of_row _ _ 0 _ _ _ HP5.out
  go_wp2_with fail
  clear cX
  refine HKw.out.mono ?_
  rintro e w6 ⟨rfl, h1, h2⟩
  have HP6 := Lib.hid ((h2.block X (Array.getElem?_eq_some_iff.1 HP5.out).1 HXN.out).trans HP5.out)
  have HS6 := Lib.hid h1
  have HT6 := Lib.hid (HT5.out.trans h2)
  have HX6 := Lib.hid ((h2.block _ (Array.getElem?_eq_some_iff.1 HX5.out).1 (by have := HN.out; omega)).trans HX5.out)
  have HL6 := Lib.hid (Nat.le_trans HL5.out h2.size)
  clear h1 h2 HKw
  have HKw := Lib.hid (pkeyword_any kSELECT N w6 _ wn wc ws s5 HS6.out)
  rw [HHS.out, show bs kSELECT = ⟨#[83, 69, 76, 69, 67, 84]⟩ from rfl] at HKw
  dsimp only at HKw
  have cX := cell_of_row _ _ 0 _ _ _ HP6.out
  go_wp2_with fail
  clear cX
  refine HKw.out.mono ?_
  rintro e w7 ⟨rfl, h1, h2⟩
  have HP7 := Lib.hid ((h2.block X (Array.getElem?_eq_some_iff.1 HP6.out).1 HXN.out).trans HP6.out)
  have HS7 := Lib.hid h1
  have HT7 := Lib.hid (HT6.out.trans h2)
  have HX7 := Lib.hid ((h2.block _ (Array.getElem?_eq_some_iff.1 HX6.out).1 (by have := HN.out; omega)).trans HX6.out)
  have HL7 := Lib.hid (Nat.le_trans HL6.out h2.size)
  clear h1 h2 HKw
  have HKw := Lib.hid (pkeyword_any kBEGIN N w7 _ wn wc ws s6 HS7.out)
  rw [HHB.out, show bs kBEGIN = ⟨#[66, 69, 71, 73, 78]⟩ from rfl] at HKw
  dsimp only at HKw
  have cX := cell_of_row _ _ 0 _ _ _ HP7.out
  go_wp2_with fail
  clear cX
  refine HKw.out.mono ?_
  rintro e w8 ⟨rfl, h1, h2⟩
  have HP8 := Lib.hid ((h2.block X (Array.getElem?_eq_some_iff.1 HP7.out).1 HXN.out).trans HP7.out)
  have HS8 := Lib.hid h1
  have HT8 := Lib.hid (HT7.out.trans h2)
  have HX8 := Lib.hid ((h2.block _ (Array.getElem?_eq_some_iff.1 HX7.out).1 (by have := HN.out; omega)).trans HX7.out)
  have HL8 := Lib.hid (Nat.le_trans HL7.out h2.size)
  clear h1 h2 HKw
  have HKw := Lib.hid (pkeyword_any kCOMMIT N w8 _ wn wc ws s7 HS8.out)
  rw [HHM.out, show bs kCOMMIT = ⟨#[67, 79, 77, 77, 73, 84]⟩ from rfl] at HKw
  dsimp only at HKw
  have cX := cell_of_row _ _ 0 _ _ _ HP8.out
  go_wp2_with fail
  clear cX
  refine HKw.out.mono ?_
  rintro e w9 ⟨rfl, h1, h2⟩
  have HP9 := Lib.hid ((h2.block X (Array.getElem?_eq_some_iff.1 HP8.out).1 HXN.out).trans HP8.out)
  have HS9 := Lib.hid h1
  have HT9 := Lib.hid (HT8.out.trans h2)
  have HX9 := Lib.hid ((h2.block _ (Array.getElem?_eq_some_iff.1 HX8.out).1 (by have := HN.out; omega)).trans HX8.out)
  have HL9 := Lib.hid (Nat.le_trans HL8.out h2.size)
  clear h1 h2 HKw
  have HKw := Lib.hid (pkeyword_any kROLLBACK N w9 _ wn wc ws s8 HS9.out)
  rw [HHR0.out, show bs kROLLBACK = ⟨#[82, 79, 76, 76, 66, 65, 67, 75]⟩ from rfl] at HKw
  dsimp only at HKw
  have cX := cell_of_row _ _ 0 _ _ _ HP9.out
  go_wp2_with fail
  clear cX
  refine HKw.out.mono ?_
  rintro e w10 ⟨rfl, h1, h2⟩
  have HP10 := Lib.hid ((h2.block X (Array.getElem?_eq_some_iff.1 HP9.out).1 HXN.out).trans HP9.out)
  have HS10 := Lib.hid h1
  have HT10 := Lib.hid (HT9.out.trans h2)
  have HX10 := Lib.hid ((h2.block _ (Array.getElem?_eq_some_iff.1 HX9.out).1 (by have := HN.out; omega)).trans HX9.out)
  have HL10 := Lib.hid (Nat.le_trans HL9.out h2.size)
  clear h1 h2 HKw
  have HR := Lib.hid (show statementR ws s0 = ({ zST with kind := 13 }, s9) from HIt.out)
  have HFin := Lib.hid (wbox_sm HX10.out (.int .i64 13) (.string ⟨#[]⟩) (.string ⟨#[]⟩) (.bool false) (.slice none 0 0) (.slice none 0 0) (.slice none 0 0) (.slice none 0 0) (.slice none 0 0) (.bool false) (.bool false) (.slice none 0 0) (.slice none 0 0) (.slice none 0 0) (.slice none 0 0) (.slice none 0 0) (.int .i64 0))
  have HF1 := Lib.hid (HS10.out.setLe (R := w.heap.size) HN.out 0 [.int .i64 13, .string ⟨#[]⟩, .string ⟨#[]⟩, .bool false, .slice none 0 0, .slice none 0 0, .slice none 0 0, .slice none 0 0, .slice none 0 0, .bool false, .bool false, .slice none 0 0, .slice none 0 0, .slice none 0 0, .slice none 0 0, .slice none 0 0, .int .i64 0])
  have HF2 := Lib.hid (HT10.out.setLe (R := w.heap.size) (Nat.le_of_lt HN.out) (Nat.le_refl _) 0 [.int .i64 13, .string ⟨#[]⟩, .string ⟨#[]⟩, .bool false, .slice none 0 0, .slice none 0 0, .slice none 0 0, .slice none 0 0, .slice none 0 0, .bool false, .bool false, .slice none 0 0, .slice none 0 0, .slice none 0 0, .slice none 0 0, .slice none 0 0, .int .i64 0])
  go_upto_region 27 with (fail)
  refine wp_region_lit ?_
  refine wpl_lit rfl _ _ rfl _ rfl [.int .i64 13, .string ⟨#[]⟩, .string ⟨#[]⟩, .bool false, .slice none 0 0, .slice none 0 0, .slice none 0 0, .slice none 0 0, .slice none 0 0, .bool false, .bool false, .slice none 0 0, .slice none 0 0, .slice none 0 0, .slice none 0 0, .slice none 0 0, .int .i64 0] (by kernel_rfl) rfl _ _ _ rfl _ rfl w.heap.size rfl rfl _ _ HX10.out (by kernel_rfl) rfl rfl ?_
  refine wpList_nil ?_
  go_wp2
  refine bodyPost_ret (results_sm rfl _ _ w.heap.size _ _ _ _ _ _ _ _ _ _ _ _ _ _ _ _ _ rfl HFin.out) rfl ?_
  rw [HR.out]
  exact ⟨⟨_, rfl, _, rfl, _, _, _, _, _, _, rfl, SlV.nil _ _ _, SlV.nil _ _ _, SlV.nil _ _ _, SlV.nil _ _ _, LeV.nil _ _, zQ_lies _ _, rfl, eB_le, eB_le⟩, HF1.out, HF2.out⟩
end Go.Proofs.YtknhphcfcpjhiaaGreatDoor
namespace Go.Proofs.YtknhphcfcpjhiaaGreatDoor
open Go.RowKit
set_option linter.unusedVariables false
set_option linter.unusedSimpArgs false
set_option maxRecDepth 100000
set_option maxHeartbeats 6400000 in
theorem pstm_9 (N : Nat) (w0 : World) (b off : Nat) (wn wc : Nat) (ws : List Wd) (s0 s1 s2 s3 s4 s5 s6 s7 s8 s9 : PS) (h : RdS N w0 (some ⟨b, off, none⟩) wn wc ws s0) (hr : RCx b off wn wc ws) (hc : takeR ws 1 kCREATE s0 = (false, s1)) (hd : takeR ws 1 kDROP s1 = (false, s2)) (hi : takeR ws 1 kINSERT s2 = (false, s3)) (hu : takeR ws 1 kUPDATE s3 = (false, s4)) (hx : takeR ws 1 kDELETE s4 = (false, s5)) (hs : takeR ws 1 kSELECT s5 = (false, s6)) (hb : takeR ws 1 kBEGIN s6 = (false, s7)) (hm : takeR ws 1 kCOMMIT s7 = (false, s8)) (hr0 : takeR ws 1 kROLLBACK s8 = (false, s9)) :
    Calls Tryz.prog 19 #[.pointer (some ⟨N, 0, none⟩)] w0 (PsV (AgV smS) N w0 (some ⟨b, off, none⟩) wn wc ws (statementR ws s0)) := by
  have hB0 := bel0 (.cells #[.pointer (some ⟨N, 0, none⟩)] 107) (Below.refl w0.heap.size w0)
  have hlow := h.low
  refine Calls.mono (R := PsV (AgV smS) N (w0.alloc (.cells #[.pointer (some ⟨N, 0, none⟩)] 107)) (some ⟨b, off, none⟩) wn wc ws (statementR ws s0)) ?_ (fun e w' hp => psv_up (RTo.of_below (N := N) hB0 (Nat.le_of_lt hlow)) hp)
  have hXp := Go.heap_alloc_new w0 (.cells #[.pointer (some ⟨N, 0, none⟩)] 107 (0, 0))
  have hsz : (w0.alloc (.cells #[.pointer (some ⟨N, 0, none⟩)] 107)).heap.size = w0.heap.size + 1 := by simp
  have h1 := h.below hB0
  have HXN := Lib.hid (show w0.heap.size ≠ N by omega)
  clear h hB0 hlow
  go_enter Tryz.func19, Tryz.ntmps19
  go_upto_region 1 with (fail)
  generalize w0.alloc (.cells #[.pointer (some ⟨N, 0, none⟩)] 107) = w at *
  rw [← hsz]
  generalize w0.heap.size = X at *
  have HRc := Lib.hid hr
  have HN := Lib.hid h1.low
  have HIt := Lib.hid (show statementR ws s0 = (zST, fl 3 s9) by rw [statementR_eq]; simp only [hc, hd, hi, hu, hx, hs, hb, hm, hr0, if_true, if_false, Bool.false_eq_true])
  have HB := Lib.hid (bel0 (.cells #[.int .i64 0, .string ⟨#[]⟩, .string ⟨#[]⟩, .bool false, .slice none 0 0, .slice none 0 0, .slice none 0 0, .slice none 0 0, .slice none 0 0, .bool false, .bool false, .slice none 0 0, .slice none 0 0, .slice none 0 0, .slice none 0 0, .slice none 0 0, .int .i64 0] 45) (Below.refl w.heap.size w))
  have HX1 := Lib.hid (Go.heap_alloc_new w (.cells #[.int .i64 0, .string ⟨#[]⟩, .string ⟨#[]⟩, .bool false, .slice none 0 0, .slice none 0 0, .slice none 0 0, .slice none 0 0, .slice none 0 0, .bool false, .bool false, .slice none 0 0, .slice none 0 0, .slice none 0 0, .slice none 0 0, .slice none 0 0, .int .i64 0] 45 (0, 0)))
  have HS1 := Lib.hid (h1.below HB.out)
  have HT1 := Lib.hid (RTo.of_below (N := N) HB.out (Nat.le_of_lt h1.low))
  have HW1 := Lib.hid (show w.heap.size < (w.alloc (.cells #[.int .i64 0, .string ⟨#[]⟩, .string ⟨#[]⟩, .bool false, .slice none 0 0, .slice none 0 0, .slice none 0 0, .slice none 0 0, .slice none 0 0, .bool false, .bool false, .slice none 0 0, .slice none 0 0, .slice none 0 0, .slice none 0 0, .slice none 0 0, .int .i64 0] 45)).heap.size from (Array.getElem?_eq_some_iff.1 HX1.out).1)
  have HXw := Lib.hid (show X < w.heap.size from (Array.getElem?_eq_some_iff.1 hXp).1)
  have HP1 := Lib.hid ((HB.out.block X HXw.out).trans hXp)
  have HHC := Lib.hid hc
  have HHD := Lib.hid hd
  have HHI := Lib.hid hi
  have HHU := Lib.hid hu
  have HHX := Lib.hid hx
  have HHS := Lib.hid hs
  have HHB := Lib.hid hb
  have HHM := Lib.hid hm
  have HHR0 := Lib.hid hr0
  clear h1 hr hXp hsz hc hd hi hu hx hs hb hm hr0
  generalize w.alloc (.cells #[.int .i64 0, .string ⟨#[]⟩, .string ⟨#[]⟩, .bool false, .slice none 0 0, .slice none 0 0, .slice none 0 0, .slice none 0 0, .slice none 0 0, .bool false, .bool false, .slice none 0 0, .slice none 0 0, .slice none 0 0, .slice none 0 0, .slice none 0 0, .int .i64 0] 45) = w1 at *
  have HL1 := Lib.hid (Nat.le_refl w1.heap.size)
  have HKw := Lib.hid (pkeyword_any kCREATE N w1 _ wn wc ws s0 HS1.out)
  rw [HHC.out, show bs kCREATE = ⟨#[67, 82, 69, 65, 84, 69]⟩ from rfl] at HKw
  dsimp only at HKw
  have cX := cell_of_row _ _ 0 _ _ _ HP1.out
  go_wp2_with fail
  clear cX
  refine HKw.out.mono ?_
  rintro e w2 ⟨rfl, h1, h2⟩
  have HP2 := Lib.hid ((h2.block X (Array.getElem?_eq_some_iff.1 HP1.out).1 HXN.out).trans HP1.out)
  have HS2 := Lib.hid h1
  have HT2 := Lib.hid (HT1.out.trans h2)
  have HX2 := Lib.hid ((h2.block _ (Array.getElem?_eq_some_iff.1 HX1.out).1 (by have := HN.out; omega)).trans HX1.out)
  have HL2 := Lib.hid (Nat.le_trans HL1.out h2.size)
  clear h1 h2 HKw
  have HKw := Lib.hid (pkeyword_any kDROP N w2 _ wn wc ws s1 HS2.out)
  rw [HHD.out, show bs kDROP = ⟨#[68, 82, 79, 80]⟩ from rfl] at HKw
  dsimp only at HKw
  have cX := cell_of_row _ _ 0 _ _ _ HP2.out
  go_wp2_with fail
  clear cX
  refine HKw.out.mono ?_
  rintro e w3 ⟨rfl, h1, h2⟩
  have HP3 := Lib.hid ((h2.block X (Array.getElem?_eq_some_iff.1 HP2.out).1 HXN.out).trans HP2.out)
  have HS3 := Lib.hid h1
  have HT3 := Lib.hid (HT2.out.trans h2)
  have HX3 := Lib.hid ((h2.block _ (Array.getElem?_eq_some_iff.1 HX2.out).1 (by have := HN.out; omega)).trans HX2.out)
  have HL3 := Lib.hid (Nat.le_trans HL2.out h2.size)
  clear h1 h2 HKw
  have HKw := Lib.hid (pkeyword_any kINSERT N w3 _ wn wc ws s2 HS3.out)
  rw [HHI.out, show bs kINSERT = ⟨#[73, 78, 83, 69, 82, 84]⟩ from rfl] at HKw
  dsimp only at HKw
  have cX := cell_of_row _ _ 0 _ _ _ HP3.out
  go_wp2_with fail
  clear cX
  refine HKw.out.mono ?_
  rintro e w4 ⟨rfl, h1, h2⟩
  have HP4 := Lib.hid ((h2.block X (Array.getElem?_eq_some_iff.1 HP3.out).1 HXN.out).trans HP3.out)
  have HS4 := Lib.hid h1
  have HT4 := Lib.hid (HT3.out.trans h2)
  have HX4 := Lib.hid ((h2.block _ (Array.getElem?_eq_some_iff.1 HX3.out).1 (by have := HN.out; omega)).trans HX3.out)
  have HL4 := Lib.hid (Nat.le_trans HL3.out h2.size)
  clear h1 h2 HKw
  have HKw := Lib.hid (pkeyword_any kUPDATE N w4 _ wn wc ws s3 HS4.out)
  rw [HHU.out, show bs kUPDATE = ⟨#[85, 80, 68, 65, 84, 69]⟩ from rfl] at HKw
  dsimp only at HKw
  have cX := cell_of_row _ _ 0 _ _ _ HP4.out
  go_wp2_with fail
  clear cX
  refine HKw.out.mono ?_
  rintro e w5 ⟨rfl, h1, h2⟩
  have HP5 := Lib.hid ((h2.block X (Array.getElem?_eq_some_iff.1 HP4.out).1 HXN.out).trans HP4.out)
  have HS5 := Lib.hid h1
  have HT5 := Lib.hid (HT4.out.trans h2)
  have HX5 := Lib.hid ((h2.block _ (Array.getElem?_eq_some_iff.1 HX4.out).1 (by have := HN.out; omega)).trans HX4.out)
  have HL5 := Lib.hid (Nat.le_trans HL4.out h2.size)
  clear h1 h2 HKw
  have HKw := Lib.hid (pkeyword_any kDELETE N w5 _ wn wc ws s4 HS5.out)
  rw [HHX.out, show bs kDELETE = ⟨#[68, 69, 76, 69, 84, 69]⟩ from rfl] at HKw
  dsimp only at HKw
  have cX := cell_of_row _ _ 0 _ _ _ HP5.out
  go_wp2_with fail
  clear cX
  refine HKw.out.mono ?_
  rintro e w6 ⟨rfl, h1, h2⟩
  have HP6 := Lib.hid ((h2.block X (Array.getElem?_eq_some_iff.1 HP5.out).1 HXN.out).trans HP5.out)
  have HS6 := Lib.hid h1
  have HT6 := Lib.hid (HT5.out.trans h2)
  have HX6 := Lib.hid ((h2.block _ (Array.getElem?_eq_some_iff.1 HX5.out).1 (by have := HN.out; omega)).trans HX5.out)
  have HL6 := Lib.hid (Nat.le_trans HL5.out h2.size)
  clear h1 h2 HKw
  have HKw := Lib.hid (pkeyword_any kSELECT N w6 _ wn wc ws s5 HS6.out)
  rw [HHS.out, show bs kSELECT = ⟨#[83, 69, 76, 69, 67, 84]⟩ from rfl] at HKw
  dsimp only at HKw
  have cX := cell_of_row _ _ 0 _ _ _ HP6.out
  go_wp2_with fail
  clear cX
  refine HKw.out.mono ?_
  rintro e w7 ⟨rfl, h1, h2⟩
  have HP7 := Lib.hid ((h2.block X (Array.getElem?_eq_some_iff.1 HP6.out).1 HXN.out).trans HP6.out)
  have HS7 := Lib.hid h1
  have HT7 := Lib.hid (HT6.out.trans h2)
  have HX7 := Lib.hid ((h2.block _ (Array.getElem?_eq_some_iff.1 HX6.out).1 (by have := HN.out; omega)).trans HX6.out)
  have HL7 := Lib.hid (Nat.le_trans HL6.out h2.size)
  clear h1 h2 HKw
  have HKw := Lib.hid (pkeyword_any kBEGIN N w7 _ wn wc ws s6 HS7.out)
  rw [HHB.out, show bs kBEGIN = ⟨#[66, 69, 71, 73, 78]⟩ from rfl] at HKw
  dsimp only at HKw
  have cX := cell_of_row _ _ 0 _ _ _ HP7.out
  go_wp2_with fail
  clear cX
  refine HKw.out.mono ?_
  rintro e w8 ⟨rfl, h1, h2⟩
  have HP8 := Lib.hid ((h2.block X (Array.getElem?_eq_some_iff.1 HP7.out).1 HXN.out).trans HP7.out)
  have HS8 := Lib.hid h1
  have HT8 := Lib.hid (HT7.out.trans h2)
  have HX8 := Lib.hid ((h2.block _ (Array.getElem?_eq_some_iff.1 HX7.out).1 (by have := HN.out; omega)).trans HX7.out)
  have HL8 := Lib.hid (Nat.le_trans HL7.out h2.size)
  clear h1 h2 HKw
  have HKw := Lib.hid (pkeyword_any kCOMMIT N w8 _ wn wc ws s7 HS8.out)
  rw [HHM.out, show bs kCOMMIT = ⟨#[67, 79, 77, 77, 73, 84]⟩ from rfl] at HKw
  dsimp only at HKw
  have cX := cell_of_row _ _ 0 _ _ _ HP8.out
  go_wp2_with fail
  clear cX
  refine HKw.out.mono ?_
  rintro e w9 ⟨rfl, h1, h2⟩
  have HP9 := Lib.hid ((h2.block X (Array.getElem?_eq_some_iff.1 HP8.out).1 HXN.out).trans HP8.out)
  have HS9 := Lib.hid h1
  have HT9 := Lib.hid (HT8.out.trans h2)
  have HX9 := Lib.hid ((h2.block _ (Array.getElem?_eq_some_iff.1 HX8.out).1 (by have := HN.out; omega)).trans HX8.out)
  have HL9 := Lib.hid (Nat.le_trans HL8.out h2.size)
  clear h1 h2 HKw
  have HKw := Lib.hid (pkeyword_any kROLLBACK N w9 _ wn wc ws s8 HS9.out)
  rw [HHR0.out, show bs kROLLBACK = ⟨#[82, 79, 76, 76, 66, 65, 67, 75]⟩ from rfl] at HKw
  dsimp only at HKw
  have cX := cell_of_row _ _ 0 _ _ _ HP9.out
  go_wp2_with fail
  clear cX
  refine HKw.out.mono ?_
  rintro e w10 ⟨rfl, h1, h2⟩
  have HP10 := Lib.hid ((h2.block X (Array.getElem?_eq_some_iff.1 HP9.out).1 HXN.out).trans HP9.out)
  have HS10 := Lib.hid h1
  have HT10 := Lib.hid (HT9.out.trans h2)
  have HX10 := Lib.hid ((h2.block _ (Array.getElem?_eq_some_iff.1 HX9.out).1 (by have := HN.out; omega)).trans HX9.out)
  have HL10 := Lib.hid (Nat.le_trans HL9.out h2.size)
  clear h1 h2 HKw
  have HFl := Lib.hid (fail_any N w10 _ wn wc ws s9 HS10.out 3 (by unfold InR; omega))
  replace HIt := Lib.hid (show statementR ws s0 = (zST, fl 3 s9) from HIt.out)
  obtain ⟨s10, hsf⟩ : ∃ q, q = fl 3 s9 := ⟨_, rfl⟩
  rw [← hsf] at HFl HIt
  clear hsf
  have cX := cell_of_row _ _ 0 _ _ _ HP10.out
  go_wp2_with fail
  clear cX
  refine HFl.out.mono ?_
  rintro e w11 ⟨rfl, h1, h2⟩
  have HP11 := Lib.hid ((h2.block X (Array.getElem?_eq_some_iff.1 HP10.out).1 HXN.out).trans HP10.out)
  have HS11 := Lib.hid h1
  have HT11 := Lib.hid (HT10.out.trans h2)
  have HX11 := Lib.hid ((h2.block _ (Array.getElem?_eq_some_iff.1 HX10.out).1 (by have := HN.out; omega)).trans HX10.out)
  have HL11 := Lib.hid (Nat.le_trans HL10.out h2.size)
  clear h1 h2
  have HR := Lib.hid (show statementR ws s0 = (zST, s10) from HIt.out)
  have HFin := Lib.hid (wbox_sm HX11.out (.int .i64 0) (.string ⟨#[]⟩) (.string ⟨#[]⟩) (.bool false) (.slice none 0 0) (.slice none 0 0) (.slice none 0 0) (.slice none 0 0) (.slice none 0 0) (.bool false) (.bool false) (.slice none 0 0) (.slice none 0 0) (.slice none 0 0) (.slice none 0 0) (.slice none 0 0) (.int .i64 0))
  have HF1 := Lib.hid (HS11.out.setLe (R := w.heap.size) HN.out 0 [.int .i64 0, .string ⟨#[]⟩, .string ⟨#[]⟩, .bool false, .slice none 0 0, .slice none 0 0, .slice none 0 0, .slice none 0 0, .slice none 0 0, .bool false, .bool false, .slice none 0 0, .slice none 0 0, .slice none 0 0, .slice none 0 0, .slice none 0 0, .int .i64 0])
  have HF2 := Lib.hid (HT11.out.setLe (R := w.heap.size) (Nat.le_of_lt HN.out) (Nat.le_refl _) 0 [.int .i64 0, .string ⟨#[]⟩, .string ⟨#[]⟩, .bool false, .slice none 0 0, .slice none 0 0, .slice none 0 0, .slice none 0 0, .slice none 0 0, .bool false, .bool false, .slice none 0 0, .slice none 0 0, .slice none 0 0, .slice none 0 0, .slice none 0 0, .int .i64 0])
  go_upto_region 29 with (fail)
  refine wp_region_lit ?_
  refine wpl_lit rfl _ _ rfl _ rfl [.int .i64 0, .string ⟨#[]⟩, .string ⟨#[]⟩, .bool false, .slice none 0 0, .slice none 0 0, .slice none 0 0, .slice none 0 0, .slice none 0 0, .bool false, .bool false, .slice none 0 0, .slice none 0 0, .slice none 0 0, .slice none 0 0, .slice none 0 0, .int .i64 0] (by kernel_rfl) rfl _ _ _ rfl _ rfl w.heap.size rfl rfl _ _ HX11.out (by kernel_rfl) rfl rfl ?_
  refine wpList_nil ?_
  go_wp2
  refine bodyPost_ret (results_sm rfl _ _ w.heap.size _ _ _ _ _ _ _ _ _ _ _ _ _ _ _ _ _ rfl HFin.out) rfl ?_
  rw [HR.out]
  exact ⟨⟨_, rfl, _, rfl, _, _, _, _, _, _, rfl, SlV.nil _ _ _, SlV.nil _ _ _, SlV.nil _ _ _, SlV.nil _ _ _, LeV.nil _ _, zQ_lies _ _, rfl, eB_le, eB_le⟩, HF1.out, HF2.out⟩
end Go.Proofs.YtknhphcfcpjhiaaGreatDoor
