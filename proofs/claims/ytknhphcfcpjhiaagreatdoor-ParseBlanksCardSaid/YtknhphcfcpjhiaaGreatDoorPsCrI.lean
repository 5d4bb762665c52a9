/- The package's reader of statements: create. Written by genpct.py. -/
import Derived.Test.YtknhphcfcpjhiaaGreatDoorPsCrV
namespace Go.Proofs.YtknhphcfcpjhiaaGreatDoor
open Go.RowKit
set_option linter.unusedVariables false
set_option linter.unusedSimpArgs false
set_option maxRecDepth 100000
set_option maxHeartbeats 6400000 in
theorem pcreate_i (N : Nat) (w : World) (b off : Nat) (wn wc : Nat) (ws : List Wd) (s0 : PS) (h : RdS N w (some ⟨b, off, none⟩) wn wc ws s0) (hr : RCx b off wn wc ws) (ht : (takeR ws 1 kTABLE s0).1 = false) (hm : (takeR ws 1 kMATERIALIZED (takeR ws 1 kTABLE s0).2).1 = false) :
    Calls Tryz.prog 49 #[.pointer (some ⟨N, 0, none⟩)] w (PsV (AgV smS) N w (some ⟨b, off, none⟩) wn wc ws (createR ws s0)) := by
  have HRc := Lib.hid hr
  have HN := Lib.hid h.low
  have HIt := Lib.hid (show createR ws s0 = (if (takeR ws 1 kTABLE s0).1 = true then cT ws (nameR ws (takeR ws 1 kTABLE s0).2) else if (takeR ws 1 kMATERIALIZED (takeR ws 1 kTABLE s0).2).1 = true then cV ws (takeR ws 1 kMATERIALIZED (takeR ws 1 kTABLE s0).2).2 else cI ws (takeR ws 1 kUNIQUE (takeR ws 1 kMATERIALIZED (takeR ws 1 kTABLE s0).2).2)) from createR_eq ws s0)
  have HB := Lib.hid (bel0 (.cells #[.int .i64 0, .string ⟨#[]⟩, .string ⟨#[]⟩, .bool false, .slice none 0 0, .slice none 0 0, .slice none 0 0, .slice none 0 0, .slice none 0 0, .bool false, .bool false, .slice none 0 0, .slice none 0 0, .slice none 0 0, .slice none 0 0, .slice none 0 0, .int .i64 0] 45) (Below.refl w.heap.size w))
  have HX1 := Lib.hid (Go.heap_alloc_new w (.cells #[.int .i64 0, .string ⟨#[]⟩, .string ⟨#[]⟩, .bool false, .slice none 0 0, .slice none 0 0, .slice none 0 0, .slice none 0 0, .slice none 0 0, .bool false, .bool false, .slice none 0 0, .slice none 0 0, .slice none 0 0, .slice none 0 0, .slice none 0 0, .int .i64 0] 45 (0, 0)))
  have HS1 := Lib.hid (h.below HB.out)
  have HT1 := Lib.hid (RTo.of_below (N := N) HB.out (Nat.le_of_lt h.low))
  have HW1 := Lib.hid (show w.heap.size < (w.alloc (.cells #[.int .i64 0, .string ⟨#[]⟩, .string ⟨#[]⟩, .bool false, .slice none 0 0, .slice none 0 0, .slice none 0 0, .slice none 0 0, .slice none 0 0, .bool false, .bool false, .slice none 0 0, .slice none 0 0, .slice none 0 0, .slice none 0 0, .slice none 0 0, .int .i64 0] 45)).heap.size from (Array.getElem?_eq_some_iff.1 HX1.out).1)
  have HHT := Lib.hid ht
  have HHM := Lib.hid hm
  clear h hr ht hm
  go_enter Tryz.func49, Tryz.ntmps49
  go_upto_region 1 with (fail)
  generalize w.alloc (.cells #[.int .i64 0, .string ⟨#[]⟩, .string ⟨#[]⟩, .bool false, .slice none 0 0, .slice none 0 0, .slice none 0 0, .slice none 0 0, .slice none 0 0, .bool false, .bool false, .slice none 0 0, .slice none 0 0, .slice none 0 0, .slice none 0 0, .slice none 0 0, .int .i64 0] 45) = w1 at *
  have HL1 := Lib.hid (Nat.le_refl w1.heap.size)
  have HKw := Lib.hid (pkeyword_any kTABLE N w1 _ wn wc ws s0 HS1.out)
  obtain ⟨r, hrr⟩ : ∃ r, r = takeR ws 1 kTABLE s0 := ⟨_, rfl⟩
  rw [← hrr] at HKw HIt HHT HHM
  clear hrr
  obtain ⟨t, s1⟩ := r
  dsimp only at HKw HIt HHT HHM
  obtain rfl : t = false := HHT.out
  clear HHT
  rw [show bs kTABLE = ⟨#[84, 65, 66, 76, 69]⟩ from rfl] at HKw
  go_wp2_with fail
  refine HKw.out.mono ?_
  rintro e w2 ⟨rfl, h1, h2⟩
  have HS2 := Lib.hid h1
  have HT2 := Lib.hid (HT1.out.trans h2)
  have HX2 := Lib.hid ((h2.block _ (Array.getElem?_eq_some_iff.1 HX1.out).1 (by have := HN.out; omega)).trans HX1.out)
  have HL2 := Lib.hid (Nat.le_trans HL1.out h2.size)
  clear h1 h2
  replace HIt := Lib.hid (show createR ws s0 = (if (takeR ws 1 kMATERIALIZED s1).1 = true then cV ws (takeR ws 1 kMATERIALIZED s1).2 else cI ws (takeR ws 1 kUNIQUE (takeR ws 1 kMATERIALIZED s1).2)) from HIt.out)
  have HKw := Lib.hid (pkeyword_any kMATERIALIZED N w2 _ wn wc ws s1 HS2.out)
  obtain ⟨r, hrr⟩ : ∃ r, r = takeR ws 1 kMATERIALIZED s1 := ⟨_, rfl⟩
  rw [← hrr] at HKw HIt HHM
  clear hrr
  obtain ⟨t, s2⟩ := r
  dsimp only at HKw HIt HHM
  obtain rfl : t = false := HHM.out
  clear HHM
  rw [show bs kMATERIALIZED = ⟨#[77, 65, 84, 69, 82, 73, 65, 76, 73, 90, 69, 68]⟩ from rfl] at HKw
  go_wp2_with fail
  refine HKw.out.mono ?_
  rintro e w3 ⟨rfl, h1, h2⟩
  have HS3 := Lib.hid h1
  have HT3 := Lib.hid (HT2.out.trans h2)
  have HX3 := Lib.hid ((h2.block _ (Array.getElem?_eq_some_iff.1 HX2.out).1 (by have := HN.out; omega)).trans HX2.out)
  have HL3 := Lib.hid (Nat.le_trans HL2.out h2.size)
  clear h1 h2
  replace HIt := Lib.hid (show createR ws s0 = cI ws (takeR ws 1 kUNIQUE s2) from HIt.out)
  have HKw := Lib.hid (pkeyword_any kUNIQUE N w3 _ wn wc ws s2 HS3.out)
  obtain ⟨r, hrr⟩ : ∃ r, r = takeR ws 1 kUNIQUE s2 := ⟨_, rfl⟩
  rw [← hrr] at HKw HIt
  clear hrr
  obtain ⟨tu, s3⟩ := r
  dsimp only at HKw HIt
  rw [show bs kUNIQUE = ⟨#[85, 78, 73, 81, 85, 69]⟩ from rfl] at HKw
  go_wp2_with fail
  refine HKw.out.mono ?_
  rintro e w4 ⟨rfl, h1, h2⟩
  have HS4 := Lib.hid h1
  have HT4 := Lib.hid (HT3.out.trans h2)
  have HX4 := Lib.hid ((h2.block _ (Array.getElem?_eq_some_iff.1 HX3.out).1 (by have := HN.out; omega)).trans HX3.out)
  have HL4 := Lib.hid (Nat.le_trans HL3.out h2.size)
  clear h1 h2
  rename_i K hK
  dsimp only
  refine hK _ _ ?_
  refine wpl_box rfl _ _ rfl _ rfl [.int .i64 2, .string ⟨#[]⟩, .string ⟨#[]⟩, .bool tu, .slice none 0 0, .slice none 0 0, .slice none 0 0, .slice none 0 0, .slice none 0 0, .bool false, .bool false, .slice none 0 0, .slice none 0 0, .slice none 0 0, .slice none 0 0, .slice none 0 0, .int .i64 0] (by kernel_rfl) rfl _ rfl _ rfl #[.int .i64 0, .string ⟨#[]⟩, .string ⟨#[]⟩, .bool false, .slice none 0 0, .slice none 0 0, .slice none 0 0, .slice none 0 0, .slice none 0 0, .bool false, .bool false, .slice none 0 0, .slice none 0 0, .slice none 0 0, .slice none 0 0, .slice none 0 0, .int .i64 0] (by kernel_rfl) rfl _ _ _ rfl _ rfl rfl rfl (by kernel_rfl) rfl rfl ?_
  refine wpList_nil ?_
  go_upto_region 10 with (fail)
  have HBa := Lib.hid (bel0 (.cells #[.int .i64 2, .string ⟨#[]⟩, .string ⟨#[]⟩, .bool tu, .slice none 0 0, .slice none 0 0, .slice none 0 0, .slice none 0 0, .slice none 0 0, .bool false, .bool false, .slice none 0 0, .slice none 0 0, .slice none 0 0, .slice none 0 0, .slice none 0 0, .int .i64 0] 45) (Below.refl w4.heap.size w4))
  have HY5 := Lib.hid (Go.heap_alloc_new w4 (.cells #[.int .i64 2, .string ⟨#[]⟩, .string ⟨#[]⟩, .bool tu, .slice none 0 0, .slice none 0 0, .slice none 0 0, .slice none 0 0, .slice none 0 0, .bool false, .bool false, .slice none 0 0, .slice none 0 0, .slice none 0 0, .slice none 0 0, .slice none 0 0, .int .i64 0] 45 (0, 0)))
  have HS5 := Lib.hid (HS4.out.below HBa.out)
  have HT5 := Lib.hid (HT4.out.trans (RTo.of_below HBa.out (Nat.le_of_lt HS4.out.low)))
  have HX5 := Lib.hid ((HBa.out.block _ (Array.getElem?_eq_some_iff.1 HX4.out).1).trans HX4.out)
  have HW2 := Lib.hid (show w.heap.size < w4.heap.size from (Array.getElem?_eq_some_iff.1 HX4.out).1)
  have HN2 := Lib.hid (show N < w4.heap.size from HS4.out.low)
  have HL5 := Lib.hid (Nat.le_trans HL4.out HBa.out.size)
  generalize w4.alloc (.cells #[.int .i64 2, .string ⟨#[]⟩, .string ⟨#[]⟩, .bool tu, .slice none 0 0, .slice none 0 0, .slice none 0 0, .slice none 0 0, .slice none 0 0, .bool false, .bool false, .slice none 0 0, .slice none 0 0, .slice none 0 0, .slice none 0 0, .slice none 0 0, .int .i64 0] 45) = w5 at *
  replace HIt := Lib.hid (show createR ws s0 = cI1 ws tu (nameR ws (mustK ws [kINDEX] s3)) from HIt.out)
  have HBk := Lib.hid (bel0 (.cells #[.string ⟨#[73, 78, 68, 69, 88]⟩] 9) (Below.refl w5.heap.size w5))
  have HKx := Lib.hid (Go.heap_alloc_new w5 (.cells #[.string ⟨#[73, 78, 68, 69, 88]⟩] 9 (0, 0)))
  have HMu := Lib.hid (must_any [kINDEX] (by decide) N (w5.alloc (.cells #[.string ⟨#[73, 78, 68, 69, 88]⟩] 9)) _ wn wc ws s3 (HS5.out.below HBk.out) (some ⟨w5.heap.size, 0, none⟩) 1 ⟨w5.heap.size, 0, rfl, by have := HS5.out.low; omega, (Array.getElem?_eq_some_iff.1 HKx.out).1, fun q hq => by
    have h0 : q = 0 := by simpa using hq
    subst h0
    exact cell_of_row _ _ 0 _ _ _ HKx.out⟩)
  obtain ⟨s4, hsm⟩ : ∃ q, q = mustK ws [kINDEX] s3 := ⟨_, rfl⟩
  rw [← hsm] at HMu HIt
  clear hsm
  have h2k := RTo.of_below (N := N) HBk.out (Nat.le_of_lt HS5.out.low)
  go_wp2_with fail
  refine HMu.out.mono ?_
  rintro e w6 ⟨rfl, h1, h2x⟩
  have h2 := h2k.trans h2x
  have HS6 := Lib.hid h1
  have HT6 := Lib.hid (HT5.out.trans h2)
  have HX6 := Lib.hid ((h2.block _ (Array.getElem?_eq_some_iff.1 HX5.out).1 (by have := HN.out; omega)).trans HX5.out)
  have HY6 := Lib.hid ((h2.block _ (Array.getElem?_eq_some_iff.1 HY5.out).1 (by have := HN2.out; omega)).trans HY5.out)
  have HL6 := Lib.hid (Nat.le_trans HL5.out h2.size)
  clear h1 h2 h2k h2x
  have HNs := Lib.hid (nameR_le ws s4)
  have HNm := Lib.hid (pname_any2 N w6 _ wn wc ws s4 HS6.out HRc.out.z)
  obtain ⟨q, hq⟩ : ∃ q, q = nameR ws s4 := ⟨_, rfl⟩
  rw [← hq] at HIt HNm HNs
  clear hq
  obtain ⟨nm, s5⟩ := q
  dsimp only at HIt HNm HNs
  have HNsnm := Lib.hid HNs.out
  go_wp2_with fail
  refine HNm.out.mono ?_
  rintro e w7 ⟨rfl, h1, h2⟩
  have HS7 := Lib.hid h1
  have HT7 := Lib.hid (HT6.out.trans h2)
  have HX7 := Lib.hid ((h2.block _ (Array.getElem?_eq_some_iff.1 HX6.out).1 (by have := HN.out; omega)).trans HX6.out)
  have HY7 := Lib.hid ((h2.block _ (Array.getElem?_eq_some_iff.1 HY6.out).1 (by have := HN2.out; omega)).trans HY6.out)
  have HL7 := Lib.hid (Nat.le_trans HL6.out h2.size)
  clear h1 h2
  have HS8 := Lib.hid (HS7.out.setLe (R := w4.heap.size) HN2.out 1 [.string nm])
  have HT8 := Lib.hid (HT7.out.setLe (R := w4.heap.size) (Nat.le_of_lt HN2.out) (Nat.le_of_lt HW2.out) 1 [.string nm])
  have HX8 := Lib.hid ((setLe_other (B := w4.heap.size) (M := w.heap.size) (by have := HW2.out; omega) [.string nm] 1 w7).trans HX7.out)
  have HY8 := Lib.hid (show (setLe w7 w4.heap.size 1 [.string nm]).heap[w4.heap.size]? = some (.cells #[.int .i64 2, .string nm, .string ⟨#[]⟩, .bool tu, .slice none 0 0, .slice none 0 0, .slice none 0 0, .slice none 0 0, .slice none 0 0, .bool false, .bool false, .slice none 0 0, .slice none 0 0, .slice none 0 0, .slice none 0 0, .slice none 0 0, .int .i64 0] 45 (0, 0)) from Go.heap_setCell_same w7 w4.heap.size 1 _ _ _ HY7.out)
  have HL8 := Lib.hid (show w1.heap.size ≤ (setLe w7 w4.heap.size 1 [.string nm]).heap.size by rw [setLe_size]; exact HL7.out)
  obtain ⟨l0, l1, l2, l3, l4, l5, l6, l7, l8, l9, l10, l11, l12, l13, l14, l15, l16, lz, lN⟩ := rowc_sm HY7.out
  go_upto_region 12 with (fail)
  generalize hwa : setLe w7 w4.heap.size 1 [.string nm] = w8 at *
  have hwb : (w7.setCell ⟨w4.heap.size, 1, none⟩ (.string nm)) = w8 := hwa
  rw [hwb]
  clear hwa hwb l0 l1 l2 l3 l4 l5 l6 l7 l8 l9 l10 l11 l12 l13 l14 l15 l16 lz lN
  replace HIt := Lib.hid (show createR ws s0 = cI2 ws tu nm (nameR ws (mustK ws [kON] s5)) from HIt.out)
  have HBk := Lib.hid (bel0 (.cells #[.string ⟨#[79, 78]⟩] 9) (Below.refl w8.heap.size w8))
  have HKx := Lib.hid (Go.heap_alloc_new w8 (.cells #[.string ⟨#[79, 78]⟩] 9 (0, 0)))
  have HMu := Lib.hid (must_any [kON] (by decide) N (w8.alloc (.cells #[.string ⟨#[79, 78]⟩] 9)) _ wn wc ws s5 (HS8.out.below HBk.out) (some ⟨w8.heap.size, 0, none⟩) 1 ⟨w8.heap.size, 0, rfl, by have := HS8.out.low; omega, (Array.getElem?_eq_some_iff.1 HKx.out).1, fun q hq => by
    have h0 : q = 0 := by simpa using hq
    subst h0
    exact cell_of_row _ _ 0 _ _ _ HKx.out⟩)
  obtain ⟨s6, hsm⟩ : ∃ q, q = mustK ws [kON] s5 := ⟨_, rfl⟩
  rw [← hsm] at HMu HIt
  clear hsm
  have h2k := RTo.of_below (N := N) HBk.out (Nat.le_of_lt HS8.out.low)
  go_wp2_with fail
  refine HMu.out.mono ?_
  rintro e w9 ⟨rfl, h1, h2x⟩
  have h2 := h2k.trans h2x
  have HS9 := Lib.hid h1
  have HT9 := Lib.hid (HT8.out.trans h2)
  have HX9 := Lib.hid ((h2.block _ (Array.getElem?_eq_some_iff.1 HX8.out).1 (by have := HN.out; omega)).trans HX8.out)
  have HY9 := Lib.hid ((h2.block _ (Array.getElem?_eq_some_iff.1 HY8.out).1 (by have := HN2.out; omega)).trans HY8.out)
  have HL9 := Lib.hid (Nat.le_trans HL8.out h2.size)
  clear h1 h2 h2k h2x
  have HNs := Lib.hid (nameR_le ws s6)
  have HNm := Lib.hid (pname_any2 N w9 _ wn wc ws s6 HS9.out HRc.out.z)
  obtain ⟨q, hq⟩ : ∃ q, q = nameR ws s6 := ⟨_, rfl⟩
  rw [← hq] at HIt HNm HNs
  clear hq
  obtain ⟨no, s7⟩ := q
  dsimp only at HIt HNm HNs
  have HNsno := Lib.hid HNs.out
  go_wp2_with fail
  refine HNm.out.mono ?_
  rintro e w10 ⟨rfl, h1, h2⟩
  have HS10 := Lib.hid h1
  have HT10 := Lib.hid (HT9.out.trans h2)
  have HX10 := Lib.hid ((h2.block _ (Array.getElem?_eq_some_iff.1 HX9.out).1 (by have := HN.out; omega)).trans HX9.out)
  have HY10 := Lib.hid ((h2.block _ (Array.getElem?_eq_some_iff.1 HY9.out).1 (by have := HN2.out; omega)).trans HY9.out)
  have HL10 := Lib.hid (Nat.le_trans HL9.out h2.size)
  clear h1 h2
  have HS11 := Lib.hid (HS10.out.setLe (R := w4.heap.size) HN2.out 2 [.string no])
  have HT11 := Lib.hid (HT10.out.setLe (R := w4.heap.size) (Nat.le_of_lt HN2.out) (Nat.le_of_lt HW2.out) 2 [.string no])
  have HX11 := Lib.hid ((setLe_other (B := w4.heap.size) (M := w.heap.size) (by have := HW2.out; omega) [.string no] 2 w10).trans HX10.out)
  have HY11 := Lib.hid (show (setLe w10 w4.heap.size 2 [.string no]).heap[w4.heap.size]? = some (.cells #[.int .i64 2, .string nm, .string no, .bool tu, .slice none 0 0, .slice none 0 0, .slice none 0 0, .slice none 0 0, .slice none 0 0, .bool false, .bool false, .slice none 0 0, .slice none 0 0, .slice none 0 0, .slice none 0 0, .slice none 0 0, .int .i64 0] 45 (0, 0)) from Go.heap_setCell_same w10 w4.heap.size 2 _ _ _ HY10.out)
  have HL11 := Lib.hid (show w1.heap.size ≤ (setLe w10 w4.heap.size 2 [.string no]).heap.size by rw [setLe_size]; exact HL10.out)
  obtain ⟨l0, l1, l2, l3, l4, l5, l6, l7, l8, l9, l10, l11, l12, l13, l14, l15, l16, lz, lN⟩ := rowc_sm HY10.out
  go_upto_region 14 with (fail)
  generalize hwa : setLe w10 w4.heap.size 2 [.string no] = w11 at *
  have hwb : (w10.setCell ⟨w4.heap.size, 2, none⟩ (.string no)) = w11 := hwa
  rw [hwb]
  clear hwa hwb l0 l1 l2 l3 l4 l5 l6 l7 l8 l9 l10 l11 l12 l13 l14 l15 l16 lz lN
  replace HIt := Lib.hid (show createR ws s0 = cI3 ws tu nm no (brackR ws (nameR ws) s7) from HIt.out)
  have HCl := Lib.hid (pbrack_st N w11 b off wn wc ws s7 HS11.out HRc.out)
  obtain ⟨q, hq⟩ : ∃ q, q = brackR ws (nameR ws) s7 := ⟨_, rfl⟩
  rw [← hq] at HIt HCl
  clear hq
  obtain ⟨lk, s8⟩ := q
  try dsimp only at HIt HCl
  go_wp2_with fail
  refine HCl.out.mono ?_
  rintro e w12 ⟨⟨_, rfl, ak, ck, rfl, hv⟩, h1, h2⟩
  replace hv : SlV stS w12 (fun b => w11.heap.size ≤ b) (.slice ak lk.length ck) lk := ⟨ak, ck, rfl, hv⟩
  have HS12 := Lib.hid h1
  have HT12 := Lib.hid (HT11.out.trans h2)
  have HX12 := Lib.hid ((h2.block _ (Array.getElem?_eq_some_iff.1 HX11.out).1 (by have := HN.out; omega)).trans HX11.out)
  have HY12 := Lib.hid ((h2.block _ (Array.getElem?_eq_some_iff.1 HY11.out).1 (by have := HN2.out; omega)).trans HY11.out)
  have HL12 := Lib.hid (Nat.le_trans HL11.out h2.size)
  have HVk12 := Lib.hid (hv.mono (Q' := fun b => w1.heap.size ≤ b ∧ b ≠ w4.heap.size) (fun b hb _ => ⟨Nat.le_trans HL11.out hb, by have := (Array.getElem?_eq_some_iff.1 HY11.out).1; omega⟩))
  clear hv h1 h2 HCl
  have HVk13 := Lib.hid (HVk12.out.far (w' := setLe w12 w4.heap.size 5 [.slice ak lk.length ck]) (by rw [setLe_size]; exact Nat.le_refl _) (fun b hb hlt => setLe_other hb.2 _ _ _))
  have HS13 := Lib.hid (HS12.out.setLe (R := w4.heap.size) HN2.out 5 [.slice ak lk.length ck])
  have HT13 := Lib.hid (HT12.out.setLe (R := w4.heap.size) (Nat.le_of_lt HN2.out) (Nat.le_of_lt HW2.out) 5 [.slice ak lk.length ck])
  have HX13 := Lib.hid ((setLe_other (B := w4.heap.size) (M := w.heap.size) (by have := HW2.out; omega) [.slice ak lk.length ck] 5 w12).trans HX12.out)
  have HY13 := Lib.hid (show (setLe w12 w4.heap.size 5 [.slice ak lk.length ck]).heap[w4.heap.size]? = some (.cells #[.int .i64 2, .string nm, .string no, .bool tu, .slice none 0 0, .slice ak lk.length ck, .slice none 0 0, .slice none 0 0, .slice none 0 0, .bool false, .bool false, .slice none 0 0, .slice none 0 0, .slice none 0 0, .slice none 0 0, .slice none 0 0, .int .i64 0] 45 (0, 0)) from Go.heap_setCell_same w12 w4.heap.size 5 _ _ _ HY12.out)
  have HL13 := Lib.hid (show w1.heap.size ≤ (setLe w12 w4.heap.size 5 [.slice ak lk.length ck]).heap.size by rw [setLe_size]; exact HL12.out)
  obtain ⟨l0, l1, l2, l3, l4, l5, l6, l7, l8, l9, l10, l11, l12, l13, l14, l15, l16, lz, lN⟩ := rowc_sm HY12.out
  go_upto_region 15 with (fail)
  generalize hwa : setLe w12 w4.heap.size 5 [.slice ak lk.length ck] = w13 at *
  have hwb : (w12.setCell ⟨w4.heap.size, 5, none⟩ (.slice ak lk.length ck)) = w13 := hwa
  rw [hwb]
  clear hwa hwb l0 l1 l2 l3 l4 l5 l6 l7 l8 l9 l10 l11 l12 l13 l14 l15 l16 lz lN
  have HWk := Lib.hid ((HVk13.out.far (w' := setLe w13 w.heap.size 0 [.int .i64 2, .string nm, .string no, .bool tu, .slice none 0 0, .slice ak lk.length ck, .slice none 0 0, .slice none 0 0, .slice none 0 0, .bool false, .bool false, .slice none 0 0, .slice none 0 0, .slice none 0 0, .slice none 0 0, .slice none 0 0, .int .i64 0]) (by rw [setLe_size]; exact Nat.le_refl _) (fun b hb hlt => setLe_other (by have := HW1.out; have := hb.1; omega) _ _ _)).mono (Q' := fun b => w.heap.size ≤ b) (fun b hb _ => by have := HW1.out; have := hb.1; omega))
  have HR := Lib.hid (show createR ws s0 = ({ zST with kind := 2, uniq := tu, name := nm, on := no, keys := lk }, s8) from HIt.out)
  have HFin := Lib.hid (wbox_sm HX13.out (.int .i64 2) (.string nm) (.string no) (.bool tu) (.slice none 0 0) (.slice ak lk.length ck) (.slice none 0 0) (.slice none 0 0) (.slice none 0 0) (.bool false) (.bool false) (.slice none 0 0) (.slice none 0 0) (.slice none 0 0) (.slice none 0 0) (.slice none 0 0) (.int .i64 0))
  have HF1 := Lib.hid (HS13.out.setLe (R := w.heap.size) HN.out 0 [.int .i64 2, .string nm, .string no, .bool tu, .slice none 0 0, .slice ak lk.length ck, .slice none 0 0, .slice none 0 0, .slice none 0 0, .bool false, .bool false, .slice none 0 0, .slice none 0 0, .slice none 0 0, .slice none 0 0, .slice none 0 0, .int .i64 0])
  have HF2 := Lib.hid (HT13.out.setLe (R := w.heap.size) (Nat.le_of_lt HN.out) (Nat.le_refl _) 0 [.int .i64 2, .string nm, .string no, .bool tu, .slice none 0 0, .slice ak lk.length ck, .slice none 0 0, .slice none 0 0, .slice none 0 0, .bool false, .bool false, .slice none 0 0, .slice none 0 0, .slice none 0 0, .slice none 0 0, .slice none 0 0, .int .i64 0])
  refine wp_region_lit ?_
  refine wpl_copy rfl _ _ rfl _ rfl w4.heap.size rfl [.int .i64 2, .string nm, .string no, .bool tu, .slice none 0 0, .slice ak lk.length ck, .slice none 0 0, .slice none 0 0, .slice none 0 0, .bool false, .bool false, .slice none 0 0, .slice none 0 0, .slice none 0 0, .slice none 0 0, .slice none 0 0, .int .i64 0] _ HY13.out _ Tryz.underlying45 rfl (by kernel_rfl) rfl _ _ _ rfl _ rfl w.heap.size rfl rfl _ _ HX13.out (by kernel_rfl) rfl rfl ?_
  refine wpList_nil ?_
  go_wp2
  refine bodyPost_ret (results_sm rfl _ _ w.heap.size _ _ _ _ _ _ _ _ _ _ _ _ _ _ _ _ _ rfl HFin.out) rfl ?_
  rw [HR.out]
  exact ⟨⟨_, rfl, _, rfl, _, _, _, _, _, _, rfl, SlV.nil _ _ _, HWk.out, SlV.nil _ _ _, SlV.nil _ _ _, LeV.nil _ _, zQ_lies _ _, rfl, HNsnm.out, HNsno.out⟩, HF1.out, HF2.out⟩
end Go.Proofs.YtknhphcfcpjhiaaGreatDoor
