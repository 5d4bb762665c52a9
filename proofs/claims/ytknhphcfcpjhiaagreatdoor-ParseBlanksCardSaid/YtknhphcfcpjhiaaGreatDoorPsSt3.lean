/- The package's reader of statements: statement. Written by genpst.py. -/
import Derived.Test.YtknhphcfcpjhiaaGreatDoorPsSt2
namespace Go.Proofs.YtknhphcfcpjhiaaGreatDoor
open Go.RowKit
set_option linter.unusedVariables false
set_option linter.unusedSimpArgs false
set_option maxRecDepth 100000
set_option maxHeartbeats 6400000 in
theorem pstm_2 (N : Nat) (w0 : World) (b off : Nat) (wn wc : Nat) (ws : List Wd) (s0 s1 s2 s3 : PS) (h : RdS N w0 (some ⟨b, off, none⟩) wn wc ws s0) (hr : RCx b off wn wc ws) (hc : takeR ws 1 kCREATE s0 = (false, s1)) (hd : takeR ws 1 kDROP s1 = (false, s2)) (hi : takeR ws 1 kINSERT s2 = (true, s3)) :
    Calls Tryz.prog 19 #[.pointer (some ⟨N, 0, none⟩)] w0 (PsV (AgV smS) N w0 (some ⟨b, off, none⟩) wn wc ws (statementR ws s0)) := by
  have hB0 := bel0 (.cells #[.pointer (some ⟨N, 0, none⟩)] 107) (Below.refl w0.heap.size w0)
  have hlow := h.low
  refine Calls.mono (R := PsV (AgV smS) N (w0.alloc (.cells #[.pointer (some ⟨N, 0, none⟩)] 107)) (some ⟨b, off, none⟩) wn wc ws (statementR ws s0)) ?_ (fun e w' hp => psv_up (RTo.of_below (N := N) hB0 (Nat.le_of_lt hlow)) hp)
  have hXp := Go.heap_alloc_new w0 (.cells #[.pointer (some ⟨N, 0, none⟩)] 107 (0, 0))
  have hsz : (w0.alloc (.cells #[.pointer (some ⟨N, 0, none⟩)] 107)).heap.size = w0.heap.size + 1 := by simp
  have h1 := h.below hB0
  have HXN := Lib.hid (show w0.heap.size ≠ N by omega)
  clear h hB0 hlow
  go_enter Tryz.func19, Tryz.ntmps19
  go_upto_region 1 with (fail)
  generalize w0.alloc (.cells #[.pointer (some ⟨N, 0, none⟩)] 107) = w at *
  rw [← hsz]
  generalize w0.heap.size = X at *
  have HRc := Lib.hid hr
  have HN := Lib.hid h1.low
  have HIt := Lib.hid (show statementR ws s0 = sI ws (nameR ws (mustK ws [kINTO] s3)) by rw [statementR_eq]; simp only [hc, hd, hi, if_true, if_false, Bool.false_eq_true])
  have HB := Lib.hid (bel0 (.cells #[.int .i64 0, .string ⟨#[]⟩, .string ⟨#[]⟩, .bool false, .slice none 0 0, .slice none 0 0, .slice none 0 0, .slice none 0 0, .slice none 0 0, .bool false, .bool false, .slice none 0 0, .slice none 0 0, .slice none 0 0, .slice none 0 0, .slice none 0 0, .int .i64 0] 45) (Below.refl w.heap.size w))
  have HX1 := Lib.hid (Go.heap_alloc_new w (.cells #[.int .i64 0, .string ⟨#[]⟩, .string ⟨#[]⟩, .bool false, .slice none 0 0, .slice none 0 0, .slice none 0 0, .slice none 0 0, .slice none 0 0, .bool false, .bool false, .slice none 0 0, .slice none 0 0, .slice none 0 0, .slice none 0 0, .slice none 0 0, .int .i64 0] 45 (0, 0)))
  have HS1 := Lib.hid (h1.below HB.out)
  have HT1 := Lib.hid (RTo.of_below (N := N) HB.out (Nat.le_of_lt h1.low))
  have HW1 := Lib.hid (show w.heap.size < (w.alloc (.cells #[.int .i64 0, .string ⟨#[]⟩, .string ⟨#[]⟩, .bool false, .slice none 0 0, .slice none 0 0, .slice none 0 0, .slice none 0 0, .slice none 0 0, .bool false, .bool false, .slice none 0 0, .slice none 0 0, .slice none 0 0, .slice none 0 0, .slice none 0 0, .int .i64 0] 45)).heap.size from (Array.getElem?_eq_some_iff.1 HX1.out).1)
  have HXw := Lib.hid (show X < w.heap.size from (Array.getElem?_eq_some_iff.1 hXp).1)
  have HP1 := Lib.hid ((HB.out.block X HXw.out).trans hXp)
  have HHC := Lib.hid hc
  have HHD := Lib.hid hd
  have HHI := Lib.hid hi
  clear h1 hr hXp hsz hc hd hi
  generalize w.alloc (.cells #[.int .i64 0, .string ⟨#[]⟩, .string ⟨#[]⟩, .bool false, .slice none 0 0, .slice none 0 0, .slice none 0 0, .slice none 0 0, .slice none 0 0, .bool false, .bool false, .slice none 0 0, .slice none 0 0, .slice none 0 0, .slice none 0 0, .slice none 0 0, .int .i64 0] 45) = w1 at *
  have HL1 := Lib.hid (Nat.le_refl w1.heap.size)
  have HKw := Lib.hid (pkeyword_any kCREATE N w1 _ wn wc ws s0 HS1.out)
  rw [HHC.out, show bs kCREATE = ⟨#[67, 82, 69, 65, 84, 69]⟩ from rfl] at HKw
  dsimp only at HKw
  have cX := cell_of_row _ _ 0 _ _ _ HP1.out
  go_wp2_with fail
  clear cX
  refine HKw.out.mono ?_
  rintro e w2 ⟨rfl, h1, h2⟩
  have HP2 := Lib.hid ((h2.block X (Array.getElem?_eq_some_iff.1 HP1.out).1 HXN.out).trans HP1.out)
  have HS2 := Lib.hid h1
  have HT2 := Lib.hid (HT1.out.trans h2)
  have HX2 := Lib.hid ((h2.block _ (Array.getElem?_eq_some_iff.1 HX1.out).1 (by have := HN.out; omega)).trans HX1.out)
  have HL2 := Lib.hid (Nat.le_trans HL1.out h2.size)
  clear h1 h2 HKw
  have HKw := Lib.hid (pkeyword_any kDROP N w2 _ wn wc ws s1 HS2.out)
  rw [HHD.out, show bs kDROP = ⟨#[68, 82, 79, 80]⟩ from rfl] at HKw
  dsimp only at HKw
  have cX := cell_of_row _ _ 0 _ _ _ HP2.out
  go_wp2_with fail
  clear cX
  refine HKw.out.mono ?_
  rintro e w3 ⟨rfl, h1, h2⟩
  have HP3 := Lib.hid ((h2.block X (Array.getElem?_eq_some_iff.1 HP2.out).1 HXN.out).trans HP2.out)
  have HS3 := Lib.hid h1
  have HT3 := Lib.hid (HT2.out.trans h2)
  have HX3 := Lib.hid ((h2.block _ (Array.getElem?_eq_some_iff.1 HX2.out).1 (by have := HN.out; omega)).trans HX2.out)
  have HL3 := Lib.hid (Nat.le_trans HL2.out h2.size)
  clear h1 h2 HKw
  have HKw := Lib.hid (pkeyword_any kINSERT N w3 _ wn wc ws s2 HS3.out)
  rw [HHI.out, show bs kINSERT = ⟨#[73, 78, 83, 69, 82, 84]⟩ from rfl] at HKw
  dsimp only at HKw
  have cX := cell_of_row _ _ 0 _ _ _ HP3.out
  go_wp2_with fail
  clear cX
  refine HKw.out.mono ?_
  rintro e w4 ⟨rfl, h1, h2⟩
  have HP4 := Lib.hid ((h2.block X (Array.getElem?_eq_some_iff.1 HP3.out).1 HXN.out).trans HP3.out)
  have HS4 := Lib.hid h1
  have HT4 := Lib.hid (HT3.out.trans h2)
  have HX4 := Lib.hid ((h2.block _ (Array.getElem?_eq_some_iff.1 HX3.out).1 (by have := HN.out; omega)).trans HX3.out)
  have HL4 := Lib.hid (Nat.le_trans HL3.out h2.size)
  clear h1 h2 HKw
  have HBk := Lib.hid (bel0 (.cells #[.string ⟨#[73, 78, 84, 79]⟩] 9) (Below.refl w4.heap.size w4))
  have HKx := Lib.hid (Go.heap_alloc_new w4 (.cells #[.string ⟨#[73, 78, 84, 79]⟩] 9 (0, 0)))
  have HMu := Lib.hid (must_any [kINTO] (by decide) N (w4.alloc (.cells #[.string ⟨#[73, 78, 84, 79]⟩] 9)) _ wn wc ws s3 (HS4.out.below HBk.out) (some ⟨w4.heap.size, 0, none⟩) 1 ⟨w4.heap.size, 0, rfl, by have := HS4.out.low; omega, (Array.getElem?_eq_some_iff.1 HKx.out).1, fun q hq => by
    have h0 : q = 0 := by simpa using hq
    subst h0
    exact cell_of_row _ _ 0 _ _ _ HKx.out⟩)
  obtain ⟨s4, hsm⟩ : ∃ q, q = mustK ws [kINTO] s3 := ⟨_, rfl⟩
  rw [← hsm] at HMu HIt
  clear hsm
  have h2k := RTo.of_below (N := N) HBk.out (Nat.le_of_lt HS4.out.low)
  have cX := cell_of_row _ _ 0 _ _ _ HP4.out
  go_wp2_with fail
  clear cX
  refine HMu.out.mono ?_
  rintro e w5 ⟨rfl, h1, h2x⟩
  have h2 := h2k.trans h2x
  have HP5 := Lib.hid ((h2.block X (Array.getElem?_eq_some_iff.1 HP4.out).1 HXN.out).trans HP4.out)
  have HS5 := Lib.hid h1
  have HT5 := Lib.hid (HT4.out.trans h2)
  have HX5 := Lib.hid ((h2.block _ (Array.getElem?_eq_some_iff.1 HX4.out).1 (by have := HN.out; omega)).trans HX4.out)
  have HL5 := Lib.hid (Nat.le_trans HL4.out h2.size)
  clear h1 h2 h2k h2x
  have HNs := Lib.hid (nameR_le ws s4)
  have HNm := Lib.hid (pname_any2 N w5 _ wn wc ws s4 HS5.out HRc.out.z)
  obtain ⟨q, hq⟩ : ∃ q, q = nameR ws s4 := ⟨_, rfl⟩
  rw [← hq] at HIt HNm HNs
  clear hq
  obtain ⟨nm, s5⟩ := q
  dsimp only at HIt HNm HNs
  have HNsnm := Lib.hid HNs.out
  have cX := cell_of_row _ _ 0 _ _ _ HP5.out
  go_wp2_with fail
  clear cX
  refine HNm.out.mono ?_
  rintro e w6 ⟨rfl, h1, h2⟩
  have HP6 := Lib.hid ((h2.block X (Array.getElem?_eq_some_iff.1 HP5.out).1 HXN.out).trans HP5.out)
  have HS6 := Lib.hid h1
  have HT6 := Lib.hid (HT5.out.trans h2)
  have HX6 := Lib.hid ((h2.block _ (Array.getElem?_eq_some_iff.1 HX5.out).1 (by have := HN.out; omega)).trans HX5.out)
  have HL6 := Lib.hid (Nat.le_trans HL5.out h2.size)
  clear h1 h2
  rename_i K hK
  dsimp only
  refine hK _ _ ?_
  refine wpl_box rfl _ _ rfl _ rfl [.int .i64 7, .string nm, .string ⟨#[]⟩, .bool false, .slice none 0 0, .slice none 0 0, .slice none 0 0, .slice none 0 0, .slice none 0 0, .bool false, .bool false, .slice none 0 0, .slice none 0 0, .slice none 0 0, .slice none 0 0, .slice none 0 0, .int .i64 0] (by kernel_rfl) rfl _ rfl _ rfl #[.int .i64 0, .string ⟨#[]⟩, .string ⟨#[]⟩, .bool false, .slice none 0 0, .slice none 0 0, .slice none 0 0, .slice none 0 0, .slice none 0 0, .bool false, .bool false, .slice none 0 0, .slice none 0 0, .slice none 0 0, .slice none 0 0, .slice none 0 0, .int .i64 0] (by kernel_rfl) rfl _ _ _ rfl _ rfl rfl rfl (by kernel_rfl) rfl rfl ?_
  refine wpList_nil ?_
  go_upto_region 8 with (fail)
  have HBa := Lib.hid (bel0 (.cells #[.int .i64 7, .string nm, .string ⟨#[]⟩, .bool false, .slice none 0 0, .slice none 0 0, .slice none 0 0, .slice none 0 0, .slice none 0 0, .bool false, .bool false, .slice none 0 0, .slice none 0 0, .slice none 0 0, .slice none 0 0, .slice none 0 0, .int .i64 0] 45) (Below.refl w6.heap.size w6))
  have HY7 := Lib.hid (Go.heap_alloc_new w6 (.cells #[.int .i64 7, .string nm, .string ⟨#[]⟩, .bool false, .slice none 0 0, .slice none 0 0, .slice none 0 0, .slice none 0 0, .slice none 0 0, .bool false, .bool false, .slice none 0 0, .slice none 0 0, .slice none 0 0, .slice none 0 0, .slice none 0 0, .int .i64 0] 45 (0, 0)))
  have HS7 := Lib.hid (HS6.out.below HBa.out)
  have HT7 := Lib.hid (HT6.out.trans (RTo.of_below HBa.out (Nat.le_of_lt HS6.out.low)))
  have HX7 := Lib.hid ((HBa.out.block _ (Array.getElem?_eq_some_iff.1 HX6.out).1).trans HX6.out)
  have HW2 := Lib.hid (show w.heap.size < w6.heap.size from (Array.getElem?_eq_some_iff.1 HX6.out).1)
  have HN2 := Lib.hid (show N < w6.heap.size from HS6.out.low)
  have HL7 := Lib.hid (Nat.le_trans HL6.out HBa.out.size)
  have HP7 := Lib.hid ((HBa.out.block X (Array.getElem?_eq_some_iff.1 HP6.out).1).trans HP6.out)
  generalize w6.alloc (.cells #[.int .i64 7, .string nm, .string ⟨#[]⟩, .bool false, .slice none 0 0, .slice none 0 0, .slice none 0 0, .slice none 0 0, .slice none 0 0, .bool false, .bool false, .slice none 0 0, .slice none 0 0, .slice none 0 0, .slice none 0 0, .slice none 0 0, .int .i64 0] 45) = w7 at *
  replace HIt := Lib.hid (show statementR ws s0 = sI2 ws nm (listR ws (brackR ws (exprR ws)) (mustK ws [kVALUES] s5)) from HIt.out)
  have HBk := Lib.hid (bel0 (.cells #[.string ⟨#[86, 65, 76, 85, 69, 83]⟩] 9) (Below.refl w7.heap.size w7))
  have HKx := Lib.hid (Go.heap_alloc_new w7 (.cells #[.string ⟨#[86, 65, 76, 85, 69, 83]⟩] 9 (0, 0)))
  have HMu := Lib.hid (must_any [kVALUES] (by decide) N (w7.alloc (.cells #[.string ⟨#[86, 65, 76, 85, 69, 83]⟩] 9)) _ wn wc ws s5 (HS7.out.below HBk.out) (some ⟨w7.heap.size, 0, none⟩) 1 ⟨w7.heap.size, 0, rfl, by have := HS7.out.low; omega, (Array.getElem?_eq_some_iff.1 HKx.out).1, fun q hq => by
    have h0 : q = 0 := by simpa using hq
    subst h0
    exact cell_of_row _ _ 0 _ _ _ HKx.out⟩)
  obtain ⟨s6, hsm⟩ : ∃ q, q = mustK ws [kVALUES] s5 := ⟨_, rfl⟩
  rw [← hsm] at HMu HIt
  clear hsm
  have h2k := RTo.of_below (N := N) HBk.out (Nat.le_of_lt HS7.out.low)
  have cX := cell_of_row _ _ 0 _ _ _ HP7.out
  go_wp2_with fail
  clear cX
  refine HMu.out.mono ?_
  rintro e w8 ⟨rfl, h1, h2x⟩
  have h2 := h2k.trans h2x
  have HP8 := Lib.hid ((h2.block X (Array.getElem?_eq_some_iff.1 HP7.out).1 HXN.out).trans HP7.out)
  have HS8 := Lib.hid h1
  have HT8 := Lib.hid (HT7.out.trans h2)
  have HX8 := Lib.hid ((h2.block _ (Array.getElem?_eq_some_iff.1 HX7.out).1 (by have := HN.out; omega)).trans HX7.out)
  have HY8 := Lib.hid ((h2.block _ (Array.getElem?_eq_some_iff.1 HY7.out).1 (by have := HN2.out; omega)).trans HY7.out)
  have HL8 := Lib.hid (Nat.le_trans HL7.out h2.size)
  clear h1 h2 h2k h2x
  have HCl := Lib.hid (plist_ro N w8 b off wn wc ws s6 HS8.out HRc.out X HP8.out HXN.out)
  obtain ⟨q, hq⟩ : ∃ q, q = listR ws (brackR ws (exprR ws)) s6 := ⟨_, rfl⟩
  rw [← hq] at HIt HCl
  clear hq
  obtain ⟨lr, s7⟩ := q
  try dsimp only at HIt HCl
  have cX := cell_of_row _ _ 0 _ _ _ HP8.out
  go_wp2_with fail
  clear cX
  refine HCl.out.mono ?_
  rintro e w9 ⟨⟨_, rfl, ar, cr, rfl, hv⟩, h1, h2⟩
  replace hv : SlV roS w9 (fun b => w8.heap.size ≤ b) (.slice ar lr.length cr) lr := ⟨ar, cr, rfl, hv⟩
  have HP9 := Lib.hid ((h2.block X (Array.getElem?_eq_some_iff.1 HP8.out).1 HXN.out).trans HP8.out)
  have HS9 := Lib.hid h1
  have HT9 := Lib.hid (HT8.out.trans h2)
  have HX9 := Lib.hid ((h2.block _ (Array.getElem?_eq_some_iff.1 HX8.out).1 (by have := HN.out; omega)).trans HX8.out)
  have HY9 := Lib.hid ((h2.block _ (Array.getElem?_eq_some_iff.1 HY8.out).1 (by have := HN2.out; omega)).trans HY8.out)
  have HL9 := Lib.hid (Nat.le_trans HL8.out h2.size)
  have HVr9 := Lib.hid (hv.mono (Q' := fun b => w1.heap.size ≤ b ∧ b ≠ w6.heap.size) (fun b hb _ => ⟨Nat.le_trans HL8.out hb, by have := (Array.getElem?_eq_some_iff.1 HY8.out).1; omega⟩))
  clear hv h1 h2 HCl
  have HP10 := Lib.hid ((setLe_other (B := w6.heap.size) (M := X) (by have := HXw.out; have := HW2.out; omega) [.slice ar lr.length cr] 6 w9).trans HP9.out)
  have HVr10 := Lib.hid (HVr9.out.far (w' := setLe w9 w6.heap.size 6 [.slice ar lr.length cr]) (by rw [setLe_size]; exact Nat.le_refl _) (fun b hb hlt => setLe_other hb.2 _ _ _))
  have HS10 := Lib.hid (HS9.out.setLe (R := w6.heap.size) HN2.out 6 [.slice ar lr.length cr])
  have HT10 := Lib.hid (HT9.out.setLe (R := w6.heap.size) (Nat.le_of_lt HN2.out) (Nat.le_of_lt HW2.out) 6 [.slice ar lr.length cr])
  have HX10 := Lib.hid ((setLe_other (B := w6.heap.size) (M := w.heap.size) (by have := HW2.out; omega) [.slice ar lr.length cr] 6 w9).trans HX9.out)
  have HY10 := Lib.hid (show (setLe w9 w6.heap.size 6 [.slice ar lr.length cr]).heap[w6.heap.size]? = some (.cells #[.int .i64 7, .string nm, .string ⟨#[]⟩, .bool false, .slice none 0 0, .slice none 0 0, .slice ar lr.length cr, .slice none 0 0, .slice none 0 0, .bool false, .bool false, .slice none 0 0, .slice none 0 0, .slice none 0 0, .slice none 0 0, .slice none 0 0, .int .i64 0] 45 (0, 0)) from Go.heap_setCell_same w9 w6.heap.size 6 _ _ _ HY9.out)
  have HL10 := Lib.hid (show w1.heap.size ≤ (setLe w9 w6.heap.size 6 [.slice ar lr.length cr]).heap.size by rw [setLe_size]; exact HL9.out)
  obtain ⟨l0, l1, l2, l3, l4, l5, l6, l7, l8, l9, l10, l11, l12, l13, l14, l15, l16, lz, lN⟩ := rowc_sm HY9.out
  go_upto_region 10 with (fail)
  generalize hwa : setLe w9 w6.heap.size 6 [.slice ar lr.length cr] = w10 at *
  have hwb : (w9.setCell ⟨w6.heap.size, 6, none⟩ (.slice ar lr.length cr)) = w10 := hwa
  rw [hwb]
  clear hwa hwb l0 l1 l2 l3 l4 l5 l6 l7 l8 l9 l10 l11 l12 l13 l14 l15 l16 lz lN
  have HWr := Lib.hid ((HVr10.out.far (w' := setLe w10 w.heap.size 0 [.int .i64 7, .string nm, .string ⟨#[]⟩, .bool false, .slice none 0 0, .slice none 0 0, .slice ar lr.length cr, .slice none 0 0, .slice none 0 0, .bool false, .bool false, .slice none 0 0, .slice none 0 0, .slice none 0 0, .slice none 0 0, .slice none 0 0, .int .i64 0]) (by rw [setLe_size]; exact Nat.le_refl _) (fun b hb hlt => setLe_other (by have := HW1.out; have := hb.1; omega) _ _ _)).mono (Q' := fun b => w.heap.size ≤ b) (fun b hb _ => by have := HW1.out; have := hb.1; omega))
  have HR := Lib.hid (show statementR ws s0 = ({ zST with kind := 7, name := nm, rows := lr }, s7) from HIt.out)
  have HFin := Lib.hid (wbox_sm HX10.out (.int .i64 7) (.string nm) (.string ⟨#[]⟩) (.bool false) (.slice none 0 0) (.slice none 0 0) (.slice ar lr.length cr) (.slice none 0 0) (.slice none 0 0) (.bool false) (.bool false) (.slice none 0 0) (.slice none 0 0) (.slice none 0 0) (.slice none 0 0) (.slice none 0 0) (.int .i64 0))
  have HF1 := Lib.hid (HS10.out.setLe (R := w.heap.size) HN.out 0 [.int .i64 7, .string nm, .string ⟨#[]⟩, .bool false, .slice none 0 0, .slice none 0 0, .slice ar lr.length cr, .slice none 0 0, .slice none 0 0, .bool false, .bool false, .slice none 0 0, .slice none 0 0, .slice none 0 0, .slice none 0 0, .slice none 0 0, .int .i64 0])
  have HF2 := Lib.hid (HT10.out.setLe (R := w.heap.size) (Nat.le_of_lt HN.out) (Nat.le_refl _) 0 [.int .i64 7, .string nm, .string ⟨#[]⟩, .bool false, .slice none 0 0, .slice none 0 0, .slice ar lr.length cr, .slice none 0 0, .slice none 0 0, .bool false, .bool false, .slice none 0 0, .slice none 0 0, .slice none 0 0, .slice none 0 0, .slice none 0 0, .int .i64 0])
  refine wp_region_lit ?_
  refine wpl_copy rfl _ _ rfl _ rfl w6.heap.size rfl [.int .i64 7, .string nm, .string ⟨#[]⟩, .bool false, .slice none 0 0, .slice none 0 0, .slice ar lr.length cr, .slice none 0 0, .slice none 0 0, .bool false, .bool false, .slice none 0 0, .slice none 0 0, .slice none 0 0, .slice none 0 0, .slice none 0 0, .int .i64 0] _ HY10.out _ Tryz.underlying45 rfl (by kernel_rfl) rfl _ _ _ rfl _ rfl w.heap.size rfl rfl _ _ HX10.out (by kernel_rfl) rfl rfl ?_
  refine wpList_nil ?_
  go_wp2
  refine bodyPost_ret (results_sm rfl _ _ w.heap.size _ _ _ _ _ _ _ _ _ _ _ _ _ _ _ _ _ rfl HFin.out) rfl ?_
  rw [HR.out]
  exact ⟨⟨_, rfl, _, rfl, _, _, _, _, _, _, rfl, SlV.nil _ _ _, SlV.nil _ _ _, HWr.out, SlV.nil _ _ _, LeV.nil _ _, zQ_lies _ _, rfl, HNsnm.out, eB_le⟩, HF1.out, HF2.out⟩
end Go.Proofs.YtknhphcfcpjhiaaGreatDoor
