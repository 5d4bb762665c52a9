/- The package's reader of statements: query. Written by genpqu.py. -/
import Derived.Test.YtknhphcfcpjhiaaGreatDoorPsQu0
namespace Go.Proofs.YtknhphcfcpjhiaaGreatDoor
open Go.RowKit
set_option linter.unusedVariables false
set_option linter.unusedSimpArgs false
set_option maxRecDepth 100000
set_option maxHeartbeats 6400000 in
theorem pquery_t (N : Nat) (w : World) (b off : Nat) (wn wc : Nat) (ws : List Wd) (s0 : PS) (h : RdS N w (some ⟨b, off, none⟩) wn wc ws s0) (hr : RCx b off wn wc ws) (hst : (takeR ws 4 [42] (takeR ws 1 kDISTINCT s0).2).1 = true) :
    Calls Tryz.prog 60 #[.pointer (some ⟨N, 0, none⟩)] w (PsV (AgV quS) N w (some ⟨b, off, none⟩) wn wc ws (queryR ws s0)) := by
  have HRc := Lib.hid hr
  have HN := Lib.hid h.low
  have HIt := Lib.hid (show queryR ws s0 = q0 ws (takeR ws 1 kDISTINCT s0) ∧ (takeR ws 4 [42] (takeR ws 1 kDISTINCT s0).2).1 = true from ⟨queryR_eq ws s0, hst⟩)
  have HB := Lib.hid (bel0 (.cells #[.bool false, .bool false, .slice none 0 0, .slice none 0 0, .slice none 0 0, .slice none 0 0, .slice none 0 0, .int .i64 0] 43) (Below.refl w.heap.size w))
  have HX1 := Lib.hid (Go.heap_alloc_new w (.cells #[.bool false, .bool false, .slice none 0 0, .slice none 0 0, .slice none 0 0, .slice none 0 0, .slice none 0 0, .int .i64 0] 43 (0, 0)))
  have HS1 := Lib.hid (h.below HB.out)
  have HT1 := Lib.hid (RTo.of_below (N := N) HB.out (Nat.le_of_lt h.low))
  have HW1 := Lib.hid (show w.heap.size < (w.alloc (.cells #[.bool false, .bool false, .slice none 0 0, .slice none 0 0, .slice none 0 0, .slice none 0 0, .slice none 0 0, .int .i64 0] 43)).heap.size from (Array.getElem?_eq_some_iff.1 HX1.out).1)
  clear h hr hst
  go_enter Tryz.func60, Tryz.ntmps60
  go_upto_region 1 with (fail)
  generalize w.alloc (.cells #[.bool false, .bool false, .slice none 0 0, .slice none 0 0, .slice none 0 0, .slice none 0 0, .slice none 0 0, .int .i64 0] 43) = w1 at *
  have HL1 := Lib.hid (Nat.le_refl w1.heap.size)
  have HKw := Lib.hid (pkeyword_any kDISTINCT N w1 _ wn wc ws s0 HS1.out)
  obtain ⟨r, hrr⟩ : ∃ r, r = takeR ws 1 kDISTINCT s0 := ⟨_, rfl⟩
  rw [← hrr] at HKw HIt
  clear hrr
  obtain ⟨d, s1⟩ := r
  dsimp only at HKw HIt
  rw [show bs kDISTINCT = ⟨#[68, 73, 83, 84, 73, 78, 67, 84]⟩ from rfl] at HKw
  go_wp2_with fail
  refine HKw.out.mono ?_
  rintro e w2 ⟨rfl, h1, h2⟩
  have HS2 := Lib.hid h1
  have HT2 := Lib.hid (HT1.out.trans h2)
  have HX2 := Lib.hid ((h2.block _ (Array.getElem?_eq_some_iff.1 HX1.out).1 (by have := HN.out; omega)).trans HX1.out)
  have HL2 := Lib.hid (Nat.le_trans HL1.out h2.size)
  clear h1 h2
  have HSt := Lib.hid HIt.out.2
  replace HIt := Lib.hid (show queryR ws s0 = q1 ws d (takeR ws 4 [42] s1) from HIt.out.1)
  have HSg := Lib.hid (psign_any [42] N w2 _ wn wc ws s1 HS2.out)
  obtain ⟨r, hrr⟩ : ∃ r, r = takeR ws 4 [42] s1 := ⟨_, rfl⟩
  rw [← hrr] at HSg HIt HSt
  clear hrr
  obtain ⟨t, s2⟩ := r
  dsimp only at HSg HSt
  obtain rfl : t = true := HSt.out
  clear HSt
  rw [show bs [42] = ⟨#[42]⟩ from rfl] at HSg
  go_wp2_with fail
  refine HSg.out.mono ?_
  rintro e w3 ⟨rfl, h1, h2⟩
  have HS3 := Lib.hid h1
  have HT3 := Lib.hid (HT2.out.trans h2)
  have HX3 := Lib.hid ((h2.block _ (Array.getElem?_eq_some_iff.1 HX2.out).1 (by have := HN.out; omega)).trans HX2.out)
  have HL3 := Lib.hid (Nat.le_trans HL2.out h2.size)
  clear h1 h2
  go_upto_region 2 with (fail)
  have HBa := Lib.hid (bel0 (.cells #[.bool d, .bool true, .slice none 0 0, .slice none 0 0, .slice none 0 0, .slice none 0 0, .slice none 0 0, .int .i64 (-1)] 43) (Below.refl w3.heap.size w3))
  have HY4 := Lib.hid (Go.heap_alloc_new w3 (.cells #[.bool d, .bool true, .slice none 0 0, .slice none 0 0, .slice none 0 0, .slice none 0 0, .slice none 0 0, .int .i64 (-1)] 43 (0, 0)))
  have HS4 := Lib.hid (HS3.out.below HBa.out)
  have HT4 := Lib.hid (HT3.out.trans (RTo.of_below HBa.out (Nat.le_of_lt HS3.out.low)))
  have HX4 := Lib.hid ((HBa.out.block _ (Array.getElem?_eq_some_iff.1 HX3.out).1).trans HX3.out)
  have HW2 := Lib.hid (show w.heap.size < w3.heap.size from (Array.getElem?_eq_some_iff.1 HX3.out).1)
  have HN2 := Lib.hid (show N < w3.heap.size from HS3.out.low)
  have HL4 := Lib.hid (Nat.le_trans HL3.out HBa.out.size)
  generalize w3.alloc (.cells #[.bool d, .bool true, .slice none 0 0, .slice none 0 0, .slice none 0 0, .slice none 0 0, .slice none 0 0, .int .i64 (-1)] 43) = w4 at *
  obtain ⟨l0, l1, l2, l3, l4, l5, l6, l7, lz, lN⟩ := rowc_qu HY4.out
  go_upto_region 4 with (fail)
  clear l0 l1 l2 l3 l4 l5 l6 l7 lz lN
  replace HIt := Lib.hid (show queryR ws s0 = q2 ws d true [] s2 from HIt.out)
  replace HIt := Lib.hid (show queryR ws s0 = q2a ws d true [] (sourcesR ws (mustK ws [kFROM] s2)) from HIt.out)
  have HBk := Lib.hid (bel0 (.cells #[.string ⟨#[70, 82, 79, 77]⟩] 9) (Below.refl w4.heap.size w4))
  have HKx := Lib.hid (Go.heap_alloc_new w4 (.cells #[.string ⟨#[70, 82, 79, 77]⟩] 9 (0, 0)))
  have HMu := Lib.hid (must_any [kFROM] (by decide) N (w4.alloc (.cells #[.string ⟨#[70, 82, 79, 77]⟩] 9)) _ wn wc ws s2 (HS4.out.below HBk.out) (some ⟨w4.heap.size, 0, none⟩) 1 ⟨w4.heap.size, 0, rfl, by have := HS4.out.low; omega, (Array.getElem?_eq_some_iff.1 HKx.out).1, fun q hq => by
    have h0 : q = 0 := by simpa using hq
    subst h0
    exact cell_of_row _ _ 0 _ _ _ HKx.out⟩)
  obtain ⟨s3, hsm⟩ : ∃ q, q = mustK ws [kFROM] s2 := ⟨_, rfl⟩
  rw [← hsm] at HMu HIt
  clear hsm
  have h2k := RTo.of_below (N := N) HBk.out (Nat.le_of_lt HS4.out.low)
  go_wp2_with fail
  refine HMu.out.mono ?_
  rintro e w5 ⟨rfl, h1, h2x⟩
  have h2 := h2k.trans h2x
  have HS5 := Lib.hid h1
  have HT5 := Lib.hid (HT4.out.trans h2)
  have HX5 := Lib.hid ((h2.block _ (Array.getElem?_eq_some_iff.1 HX4.out).1 (by have := HN.out; omega)).trans HX4.out)
  have HY5 := Lib.hid ((h2.block _ (Array.getElem?_eq_some_iff.1 HY4.out).1 (by have := HN2.out; omega)).trans HY4.out)
  have HL5 := Lib.hid (Nat.le_trans HL4.out h2.size)
  clear h1 h2 h2k h2x
  have HCl := Lib.hid (psources_any N w5 b off wn wc ws s3 HS5.out HRc.out)
  obtain ⟨q, hq⟩ : ∃ q, q = sourcesR ws s3 := ⟨_, rfl⟩
  rw [← hq] at HIt HCl
  clear hq
  obtain ⟨lf, s4⟩ := q
  try dsimp only at HIt HCl
  go_wp2_with fail
  refine HCl.out.mono ?_
  rintro e w6 ⟨⟨_, rfl, af, cf, rfl, hv⟩, h1, h2⟩
  replace hv : SlV soS w6 (fun b => w5.heap.size ≤ b) (.slice af lf.length cf) lf := ⟨af, cf, rfl, hv⟩
  have HS6 := Lib.hid h1
  have HT6 := Lib.hid (HT5.out.trans h2)
  have HX6 := Lib.hid ((h2.block _ (Array.getElem?_eq_some_iff.1 HX5.out).1 (by have := HN.out; omega)).trans HX5.out)
  have HY6 := Lib.hid ((h2.block _ (Array.getElem?_eq_some_iff.1 HY5.out).1 (by have := HN2.out; omega)).trans HY5.out)
  have HL6 := Lib.hid (Nat.le_trans HL5.out h2.size)
  have HVf6 := Lib.hid (hv.mono (Q' := fun b => w1.heap.size ≤ b ∧ b ≠ w3.heap.size) (fun b hb _ => ⟨Nat.le_trans HL5.out hb, by have := (Array.getElem?_eq_some_iff.1 HY5.out).1; omega⟩))
  clear hv h1 h2 HCl
  have HVf7 := Lib.hid (HVf6.out.far (w' := setLe w6 w3.heap.size 3 [.slice af lf.length cf]) (by rw [setLe_size]; exact Nat.le_refl _) (fun b hb hlt => setLe_other hb.2 _ _ _))
  have HS7 := Lib.hid (HS6.out.setLe (R := w3.heap.size) HN2.out 3 [.slice af lf.length cf])
  have HT7 := Lib.hid (HT6.out.setLe (R := w3.heap.size) (Nat.le_of_lt HN2.out) (Nat.le_of_lt HW2.out) 3 [.slice af lf.length cf])
  have HX7 := Lib.hid ((setLe_other (B := w3.heap.size) (M := w.heap.size) (by have := HW2.out; omega) [.slice af lf.length cf] 3 w6).trans HX6.out)
  have HY7 := Lib.hid (show (setLe w6 w3.heap.size 3 [.slice af lf.length cf]).heap[w3.heap.size]? = some (.cells #[.bool d, .bool true, .slice none 0 0, .slice af lf.length cf, .slice none 0 0, .slice none 0 0, .slice none 0 0, .int .i64 (-1)] 43 (0, 0)) from Go.heap_setCell_same w6 w3.heap.size 3 _ _ _ HY6.out)
  have HL7 := Lib.hid (show w1.heap.size ≤ (setLe w6 w3.heap.size 3 [.slice af lf.length cf]).heap.size by rw [setLe_size]; exact HL6.out)
  obtain ⟨l0, l1, l2, l3, l4, l5, l6, l7, lz, lN⟩ := rowc_qu HY6.out
  go_upto_region 6 with (fail)
  generalize hwa : setLe w6 w3.heap.size 3 [.slice af lf.length cf] = w7 at *
  have hwb : (w6.setCell ⟨w3.heap.size, 3, none⟩ (.slice af lf.length cf)) = w7 := hwa
  rw [hwb]
  clear hwa hwb l0 l1 l2 l3 l4 l5 l6 l7 lz lN
  replace HIt := Lib.hid (show queryR ws s0 = q2b ws d true [] lf (whereR ws s4) from HIt.out)
  have HCl := Lib.hid (pwhere_any N w7 b off wn wc ws s4 HS7.out HRc.out)
  obtain ⟨q, hq⟩ : ∃ q, q = whereR ws s4 := ⟨_, rfl⟩
  rw [← hq] at HIt HCl
  clear hq
  obtain ⟨lw, s5⟩ := q
  try dsimp only at HIt HCl
  go_wp2_with fail
  refine HCl.out.mono ?_
  rintro e w8 ⟨⟨_, rfl, aw, cw, rfl, hv⟩, h1, h2⟩
  replace hv : LeV w8 (fun b => w7.heap.size ≤ b) (.slice aw lw.length cw) lw := ⟨aw, cw, rfl, hv⟩
  have HVf8 := Lib.hid (HVf7.out.far h2.size (fun b hb hlt => h2.block b hlt (by have := HN.out; have := HW1.out; omega)))
  have HS8 := Lib.hid h1
  have HT8 := Lib.hid (HT7.out.trans h2)
  have HX8 := Lib.hid ((h2.block _ (Array.getElem?_eq_some_iff.1 HX7.out).1 (by have := HN.out; omega)).trans HX7.out)
  have HY8 := Lib.hid ((h2.block _ (Array.getElem?_eq_some_iff.1 HY7.out).1 (by have := HN2.out; omega)).trans HY7.out)
  have HL8 := Lib.hid (Nat.le_trans HL7.out h2.size)
  have HVw8 := Lib.hid (hv.mono (Q' := fun b => w1.heap.size ≤ b ∧ b ≠ w3.heap.size) (fun b hb _ => ⟨Nat.le_trans HL7.out hb, by have := (Array.getElem?_eq_some_iff.1 HY7.out).1; omega⟩))
  clear hv h1 h2 HCl
  have HVf9 := Lib.hid (HVf8.out.far (w' := setLe w8 w3.heap.size 4 [.slice aw lw.length cw]) (by rw [setLe_size]; exact Nat.le_refl _) (fun b hb hlt => setLe_other hb.2 _ _ _))
  have HVw9 := Lib.hid (HVw8.out.far (w' := setLe w8 w3.heap.size 4 [.slice aw lw.length cw]) (by rw [setLe_size]; exact Nat.le_refl _) (fun b hb hlt => setLe_other hb.2 _ _ _))
  have HS9 := Lib.hid (HS8.out.setLe (R := w3.heap.size) HN2.out 4 [.slice aw lw.length cw])
  have HT9 := Lib.hid (HT8.out.setLe (R := w3.heap.size) (Nat.le_of_lt HN2.out) (Nat.le_of_lt HW2.out) 4 [.slice aw lw.length cw])
  have HX9 := Lib.hid ((setLe_other (B := w3.heap.size) (M := w.heap.size) (by have := HW2.out; omega) [.slice aw lw.length cw] 4 w8).trans HX8.out)
  have HY9 := Lib.hid (show (setLe w8 w3.heap.size 4 [.slice aw lw.length cw]).heap[w3.heap.size]? = some (.cells #[.bool d, .bool true, .slice none 0 0, .slice af lf.length cf, .slice aw lw.length cw, .slice none 0 0, .slice none 0 0, .int .i64 (-1)] 43 (0, 0)) from Go.heap_setCell_same w8 w3.heap.size 4 _ _ _ HY8.out)
  have HL9 := Lib.hid (show w1.heap.size ≤ (setLe w8 w3.heap.size 4 [.slice aw lw.length cw]).heap.size by rw [setLe_size]; exact HL8.out)
  obtain ⟨l0, l1, l2, l3, l4, l5, l6, l7, lz, lN⟩ := rowc_qu HY8.out
  go_upto_region 7 with (fail)
  generalize hwa : setLe w8 w3.heap.size 4 [.slice aw lw.length cw] = w9 at *
  have hwb : (w8.setCell ⟨w3.heap.size, 4, none⟩ (.slice aw lw.length cw)) = w9 := hwa
  rw [hwb]
  clear hwa hwb l0 l1 l2 l3 l4 l5 l6 l7 lz lN
  replace HIt := Lib.hid (show queryR ws s0 = q3 ws d true [] lf lw s5 from HIt.out)
  replace HIt := Lib.hid (show queryR ws s0 = (if (takeR ws 1 kGROUP s5).1 = true then q3a ws d true [] lf lw (listR ws (exprR ws) (mustK ws [kBY] (takeR ws 1 kGROUP s5).2)) else q4 ws d true [] lf lw [] (takeR ws 1 kGROUP s5).2) from HIt.out)
  have HKw := Lib.hid (pkeyword_any kGROUP N w9 _ wn wc ws s5 HS9.out)
  obtain ⟨r, hrr⟩ : ∃ r, r = takeR ws 1 kGROUP s5 := ⟨_, rfl⟩
  rw [← hrr] at HKw HIt
  clear hrr
  obtain ⟨tg, s6⟩ := r
  dsimp only at HKw HIt
  rw [show bs kGROUP = ⟨#[71, 82, 79, 85, 80]⟩ from rfl] at HKw
  go_wp2_with fail
  refine HKw.out.mono ?_
  rintro e w10 ⟨rfl, h1, h2⟩
  have HVf10 := Lib.hid (HVf9.out.far h2.size (fun b hb hlt => h2.block b hlt (by have := HN.out; have := HW1.out; omega)))
  have HVw10 := Lib.hid (HVw9.out.far h2.size (fun b hb hlt => h2.block b hlt (by have := HN.out; have := HW1.out; omega)))
  have HS10 := Lib.hid h1
  have HT10 := Lib.hid (HT9.out.trans h2)
  have HX10 := Lib.hid ((h2.block _ (Array.getElem?_eq_some_iff.1 HX9.out).1 (by have := HN.out; omega)).trans HX9.out)
  have HY10 := Lib.hid ((h2.block _ (Array.getElem?_eq_some_iff.1 HY9.out).1 (by have := HN2.out; omega)).trans HY9.out)
  have HL10 := Lib.hid (Nat.le_trans HL9.out h2.size)
  clear h1 h2
  cases tg with
  | false =>
    replace HIt := Lib.hid (show queryR ws s0 = (if (takeR ws 1 kORDER s6).1 = true then q4a ws d true [] lf lw [] (listR ws (orderR ws) (mustK ws [kBY] (takeR ws 1 kORDER s6).2)) else q5 ws d true [] lf lw [] [] (takeR ws 1 kORDER s6).2) from HIt.out)
    have HKw := Lib.hid (pkeyword_any kORDER N w10 _ wn wc ws s6 HS10.out)
    obtain ⟨r, hrr⟩ : ∃ r, r = takeR ws 1 kORDER s6 := ⟨_, rfl⟩
    rw [← hrr] at HKw HIt
    clear hrr
    obtain ⟨tq, s7⟩ := r
    dsimp only at HKw HIt
    rw [show bs kORDER = ⟨#[79, 82, 68, 69, 82]⟩ from rfl] at HKw
    go_wp2_with fail
    refine HKw.out.mono ?_
    rintro e w11 ⟨rfl, h1, h2⟩
    have HVf11 := Lib.hid (HVf10.out.far h2.size (fun b hb hlt => h2.block b hlt (by have := HN.out; have := HW1.out; omega)))
    have HVw11 := Lib.hid (HVw10.out.far h2.size (fun b hb hlt => h2.block b hlt (by have := HN.out; have := HW1.out; omega)))
    have HS11 := Lib.hid h1
    have HT11 := Lib.hid (HT10.out.trans h2)
    have HX11 := Lib.hid ((h2.block _ (Array.getElem?_eq_some_iff.1 HX10.out).1 (by have := HN.out; omega)).trans HX10.out)
    have HY11 := Lib.hid ((h2.block _ (Array.getElem?_eq_some_iff.1 HY10.out).1 (by have := HN2.out; omega)).trans HY10.out)
    have HL11 := Lib.hid (Nat.le_trans HL10.out h2.size)
    clear h1 h2
    cases tq with
    | false =>
      replace HIt := Lib.hid (show queryR ws s0 = (if (takeR ws 1 kLIMIT s7).1 = true then (⟨d, true, [], lf, lw, [], [], (numR ws (takeR ws 1 kLIMIT s7).2).1⟩, (numR ws (takeR ws 1 kLIMIT s7).2).2) else (⟨d, true, [], lf, lw, [], [], -1⟩, (takeR ws 1 kLIMIT s7).2)) from HIt.out)
      have HKw := Lib.hid (pkeyword_any kLIMIT N w11 _ wn wc ws s7 HS11.out)
      obtain ⟨r, hrr⟩ : ∃ r, r = takeR ws 1 kLIMIT s7 := ⟨_, rfl⟩
      rw [← hrr] at HKw HIt
      clear hrr
      obtain ⟨tl, s8⟩ := r
      dsimp only at HKw HIt
      rw [show bs kLIMIT = ⟨#[76, 73, 77, 73, 84]⟩ from rfl] at HKw
      go_wp2_with fail
      refine HKw.out.mono ?_
      rintro e w12 ⟨rfl, h1, h2⟩
      have HVf12 := Lib.hid (HVf11.out.far h2.size (fun b hb hlt => h2.block b hlt (by have := HN.out; have := HW1.out; omega)))
      have HVw12 := Lib.hid (HVw11.out.far h2.size (fun b hb hlt => h2.block b hlt (by have := HN.out; have := HW1.out; omega)))
      have HS12 := Lib.hid h1
      have HT12 := Lib.hid (HT11.out.trans h2)
      have HX12 := Lib.hid ((h2.block _ (Array.getElem?_eq_some_iff.1 HX11.out).1 (by have := HN.out; omega)).trans HX11.out)
      have HY12 := Lib.hid ((h2.block _ (Array.getElem?_eq_some_iff.1 HY11.out).1 (by have := HN2.out; omega)).trans HY11.out)
      have HL12 := Lib.hid (Nat.le_trans HL11.out h2.size)
      clear h1 h2
      cases tl with
      | false =>
        have HWf := Lib.hid ((HVf12.out.far (w' := setLe w12 w.heap.size 0 [.bool d, .bool true, .slice none 0 0, .slice af lf.length cf, .slice aw lw.length cw, .slice none 0 0, .slice none 0 0, .int .i64 (-1)]) (by rw [setLe_size]; exact Nat.le_refl _) (fun b hb hlt => setLe_other (by have := HW1.out; have := hb.1; omega) _ _ _)).mono (Q' := fun b => w.heap.size ≤ b) (fun b hb _ => by have := HW1.out; have := hb.1; omega))
        have HWw := Lib.hid ((HVw12.out.far (w' := setLe w12 w.heap.size 0 [.bool d, .bool true, .slice none 0 0, .slice af lf.length cf, .slice aw lw.length cw, .slice none 0 0, .slice none 0 0, .int .i64 (-1)]) (by rw [setLe_size]; exact Nat.le_refl _) (fun b hb hlt => setLe_other (by have := HW1.out; have := hb.1; omega) _ _ _)).mono (Q' := fun b => w.heap.size ≤ b) (fun b hb _ => by have := HW1.out; have := hb.1; omega))
        have HR := Lib.hid (show queryR ws s0 = (⟨d, true, [], lf, lw, [], [], -1⟩, s8) from HIt.out)
        obtain ⟨l0, l1, l2, l3, l4, l5, l6, l7, lz, lN⟩ := rowc_qu HY12.out
        obtain ⟨g0, g1, g2, g3, g4, g5, g6, g7, gz, gN⟩ := rowc_qu HX12.out
        have HFin := Lib.hid (wbox_qu HX12.out (.bool d) (.bool true) (.slice none 0 0) (.slice af lf.length cf) (.slice aw lw.length cw) (.slice none 0 0) (.slice none 0 0) (.int .i64 (-1)))
        have HF1 := Lib.hid (HS12.out.setLe (R := w.heap.size) HN.out 0 [.bool d, .bool true, .slice none 0 0, .slice af lf.length cf, .slice aw lw.length cw, .slice none 0 0, .slice none 0 0, .int .i64 (-1)])
        have HF2 := Lib.hid (HT12.out.setLe (R := w.heap.size) (Nat.le_of_lt HN.out) (Nat.le_refl _) 0 [.bool d, .bool true, .slice none 0 0, .slice af lf.length cf, .slice aw lw.length cw, .slice none 0 0, .slice none 0 0, .int .i64 (-1)])
        go_wp2
        refine bodyPost_ret (results_qu rfl _ _ w.heap.size _ _ _ _ _ _ _ _ rfl HFin.out) rfl ?_
        rw [HR.out]
        exact ⟨⟨_, rfl, _, rfl, _, _, _, _, _, rfl, SlV.nil _ _ _, HWf.out, HWw.out, LeV.nil _ _, SlV.nil _ _ _, rfl⟩, HF1.out, HF2.out⟩
      | true =>
        replace HIt := Lib.hid (show queryR ws s0 = (⟨d, true, [], lf, lw, [], [], (numR ws s8).1⟩, (numR ws s8).2) from HIt.out)
        have HNi := Lib.hid (num_inr HRc.out.z s8)
        have HNu := Lib.hid (pnumber_any N w12 _ wn wc ws s8 HS12.out HRc.out.z)
        obtain ⟨q, hq⟩ : ∃ q, q = numR ws s8 := ⟨_, rfl⟩
        rw [← hq] at HIt HNu HNi
        clear hq
        obtain ⟨lim, s9⟩ := q
        dsimp only at HIt HNu HNi
        go_wp2_with fail
        refine HNu.out.mono ?_
        rintro e w13 ⟨rfl, h1, h2⟩
        have HVf13 := Lib.hid (HVf12.out.far h2.size (fun b hb hlt => h2.block b hlt (by have := HN.out; have := HW1.out; omega)))
        have HVw13 := Lib.hid (HVw12.out.far h2.size (fun b hb hlt => h2.block b hlt (by have := HN.out; have := HW1.out; omega)))
        have HS13 := Lib.hid h1
        have HT13 := Lib.hid (HT12.out.trans h2)
        have HX13 := Lib.hid ((h2.block _ (Array.getElem?_eq_some_iff.1 HX12.out).1 (by have := HN.out; omega)).trans HX12.out)
        have HY13 := Lib.hid ((h2.block _ (Array.getElem?_eq_some_iff.1 HY12.out).1 (by have := HN2.out; omega)).trans HY12.out)
        have HL13 := Lib.hid (Nat.le_trans HL12.out h2.size)
        clear h1 h2
        have HVf14 := Lib.hid (HVf13.out.far (w' := setLe w13 w3.heap.size 7 [.int .i64 lim]) (by rw [setLe_size]; exact Nat.le_refl _) (fun b hb hlt => setLe_other hb.2 _ _ _))
        have HVw14 := Lib.hid (HVw13.out.far (w' := setLe w13 w3.heap.size 7 [.int .i64 lim]) (by rw [setLe_size]; exact Nat.le_refl _) (fun b hb hlt => setLe_other hb.2 _ _ _))
        have HS14 := Lib.hid (HS13.out.setLe (R := w3.heap.size) HN2.out 7 [.int .i64 lim])
        have HT14 := Lib.hid (HT13.out.setLe (R := w3.heap.size) (Nat.le_of_lt HN2.out) (Nat.le_of_lt HW2.out) 7 [.int .i64 lim])
        have HX14 := Lib.hid ((setLe_other (B := w3.heap.size) (M := w.heap.size) (by have := HW2.out; omega) [.int .i64 lim] 7 w13).trans HX13.out)
        have HY14 := Lib.hid (show (setLe w13 w3.heap.size 7 [.int .i64 lim]).heap[w3.heap.size]? = some (.cells #[.bool d, .bool true, .slice none 0 0, .slice af lf.length cf, .slice aw lw.length cw, .slice none 0 0, .slice none 0 0, .int .i64 lim] 43 (0, 0)) from Go.heap_setCell_same w13 w3.heap.size 7 _ _ _ HY13.out)
        have HL14 := Lib.hid (show w1.heap.size ≤ (setLe w13 w3.heap.size 7 [.int .i64 lim]).heap.size by rw [setLe_size]; exact HL13.out)
        obtain ⟨l0, l1, l2, l3, l4, l5, l6, l7, lz, lN⟩ := rowc_qu HY13.out
        go_upto_region 15 with (fail)
        generalize hwa : setLe w13 w3.heap.size 7 [.int .i64 lim] = w14 at *
        have hwb : (w13.setCell ⟨w3.heap.size, 7, none⟩ (.int .i64 lim)) = w14 := hwa
        rw [hwb]
        clear hwa hwb l0 l1 l2 l3 l4 l5 l6 l7 lz lN
        have HWf := Lib.hid ((HVf14.out.far (w' := setLe w14 w.heap.size 0 [.bool d, .bool true, .slice none 0 0, .slice af lf.length cf, .slice aw lw.length cw, .slice none 0 0, .slice none 0 0, .int .i64 lim]) (by rw [setLe_size]; exact Nat.le_refl _) (fun b hb hlt => setLe_other (by have := HW1.out; have := hb.1; omega) _ _ _)).mono (Q' := fun b => w.heap.size ≤ b) (fun b hb _ => by have := HW1.out; have := hb.1; omega))
        have HWw := Lib.hid ((HVw14.out.far (w' := setLe w14 w.heap.size 0 [.bool d, .bool true, .slice none 0 0, .slice af lf.length cf, .slice aw lw.length cw, .slice none 0 0, .slice none 0 0, .int .i64 lim]) (by rw [setLe_size]; exact Nat.le_refl _) (fun b hb hlt => setLe_other (by have := HW1.out; have := hb.1; omega) _ _ _)).mono (Q' := fun b => w.heap.size ≤ b) (fun b hb _ => by have := HW1.out; have := hb.1; omega))
        have HR := Lib.hid (show queryR ws s0 = (⟨d, true, [], lf, lw, [], [], lim⟩, s9) from HIt.out)
        obtain ⟨l0, l1, l2, l3, l4, l5, l6, l7, lz, lN⟩ := rowc_qu HY14.out
        obtain ⟨g0, g1, g2, g3, g4, g5, g6, g7, gz, gN⟩ := rowc_qu HX14.out
        have HFin := Lib.hid (wbox_qu HX14.out (.bool d) (.bool true) (.slice none 0 0) (.slice af lf.length cf) (.slice aw lw.length cw) (.slice none 0 0) (.slice none 0 0) (.int .i64 lim))
        have HF1 := Lib.hid (HS14.out.setLe (R := w.heap.size) HN.out 0 [.bool d, .bool true, .slice none 0 0, .slice af lf.length cf, .slice aw lw.length cw, .slice none 0 0, .slice none 0 0, .int .i64 lim])
        have HF2 := Lib.hid (HT14.out.setLe (R := w.heap.size) (Nat.le_of_lt HN.out) (Nat.le_refl _) 0 [.bool d, .bool true, .slice none 0 0, .slice af lf.length cf, .slice aw lw.length cw, .slice none 0 0, .slice none 0 0, .int .i64 lim])
        go_wp2
        refine bodyPost_ret (results_qu rfl _ _ w.heap.size _ _ _ _ _ _ _ _ rfl HFin.out) rfl ?_
        rw [HR.out]
        exact ⟨⟨_, rfl, _, rfl, _, _, _, _, _, rfl, SlV.nil _ _ _, HWf.out, HWw.out, LeV.nil _ _, SlV.nil _ _ _, HNi.out⟩, HF1.out, HF2.out⟩
    | true =>
      replace HIt := Lib.hid (show queryR ws s0 = q4a ws d true [] lf lw [] (listR ws (orderR ws) (mustK ws [kBY] s7)) from HIt.out)
      have HBk := Lib.hid (bel0 (.cells #[.string ⟨#[66, 89]⟩] 9) (Below.refl w11.heap.size w11))
      have HKx := Lib.hid (Go.heap_alloc_new w11 (.cells #[.string ⟨#[66, 89]⟩] 9 (0, 0)))
      have HMu := Lib.hid (must_any [kBY] (by decide) N (w11.alloc (.cells #[.string ⟨#[66, 89]⟩] 9)) _ wn wc ws s7 (HS11.out.below HBk.out) (some ⟨w11.heap.size, 0, none⟩) 1 ⟨w11.heap.size, 0, rfl, by have := HS11.out.low; omega, (Array.getElem?_eq_some_iff.1 HKx.out).1, fun q hq => by
        have h0 : q = 0 := by simpa using hq
        subst h0
        exact cell_of_row _ _ 0 _ _ _ HKx.out⟩)
      obtain ⟨s8, hsm⟩ : ∃ q, q = mustK ws [kBY] s7 := ⟨_, rfl⟩
      rw [← hsm] at HMu HIt
      clear hsm
      have h2k := RTo.of_below (N := N) HBk.out (Nat.le_of_lt HS11.out.low)
      go_wp2_with fail
      refine HMu.out.mono ?_
      rintro e w12 ⟨rfl, h1, h2x⟩
      have h2 := h2k.trans h2x
      have HVf12 := Lib.hid (HVf11.out.far h2.size (fun b hb hlt => h2.block b hlt (by have := HN.out; have := HW1.out; omega)))
      have HVw12 := Lib.hid (HVw11.out.far h2.size (fun b hb hlt => h2.block b hlt (by have := HN.out; have := HW1.out; omega)))
      have HS12 := Lib.hid h1
      have HT12 := Lib.hid (HT11.out.trans h2)
      have HX12 := Lib.hid ((h2.block _ (Array.getElem?_eq_some_iff.1 HX11.out).1 (by have := HN.out; omega)).trans HX11.out)
      have HY12 := Lib.hid ((h2.block _ (Array.getElem?_eq_some_iff.1 HY11.out).1 (by have := HN2.out; omega)).trans HY11.out)
      have HL12 := Lib.hid (Nat.le_trans HL11.out h2.size)
      clear h1 h2 h2k h2x
      have HCl := Lib.hid (plist_od N w12 b off wn wc ws s8 HS12.out HRc.out)
      obtain ⟨q, hq⟩ : ∃ q, q = listR ws (orderR ws) s8 := ⟨_, rfl⟩
      rw [← hq] at HIt HCl
      clear hq
      obtain ⟨lo, s9⟩ := q
      try dsimp only at HIt HCl
      go_wp2_with fail
      refine HCl.out.mono ?_
      rintro e w13 ⟨⟨_, rfl, ao, co, rfl, hv⟩, h1, h2⟩
      replace hv : SlV odS w13 (fun b => w12.heap.size ≤ b) (.slice ao lo.length co) lo := ⟨ao, co, rfl, hv⟩
      have HVf13 := Lib.hid (HVf12.out.far h2.size (fun b hb hlt => h2.block b hlt (by have := HN.out; have := HW1.out; omega)))
      have HVw13 := Lib.hid (HVw12.out.far h2.size (fun b hb hlt => h2.block b hlt (by have := HN.out; have := HW1.out; omega)))
      have HS13 := Lib.hid h1
      have HT13 := Lib.hid (HT12.out.trans h2)
      have HX13 := Lib.hid ((h2.block _ (Array.getElem?_eq_some_iff.1 HX12.out).1 (by have := HN.out; omega)).trans HX12.out)
      have HY13 := Lib.hid ((h2.block _ (Array.getElem?_eq_some_iff.1 HY12.out).1 (by have := HN2.out; omega)).trans HY12.out)
      have HL13 := Lib.hid (Nat.le_trans HL12.out h2.size)
      have HVo13 := Lib.hid (hv.mono (Q' := fun b => w1.heap.size ≤ b ∧ b ≠ w3.heap.size) (fun b hb _ => ⟨Nat.le_trans HL12.out hb, by have := (Array.getElem?_eq_some_iff.1 HY12.out).1; omega⟩))
      clear hv h1 h2 HCl
      have HVf14 := Lib.hid (HVf13.out.far (w' := setLe w13 w3.heap.size 6 [.slice ao lo.length co]) (by rw [setLe_size]; exact Nat.le_refl _) (fun b hb hlt => setLe_other hb.2 _ _ _))
      have HVw14 := Lib.hid (HVw13.out.far (w' := setLe w13 w3.heap.size 6 [.slice ao lo.length co]) (by rw [setLe_size]; exact Nat.le_refl _) (fun b hb hlt => setLe_other hb.2 _ _ _))
      have HVo14 := Lib.hid (HVo13.out.far (w' := setLe w13 w3.heap.size 6 [.slice ao lo.length co]) (by rw [setLe_size]; exact Nat.le_refl _) (fun b hb hlt => setLe_other hb.2 _ _ _))
      have HS14 := Lib.hid (HS13.out.setLe (R := w3.heap.size) HN2.out 6 [.slice ao lo.length co])
      have HT14 := Lib.hid (HT13.out.setLe (R := w3.heap.size) (Nat.le_of_lt HN2.out) (Nat.le_of_lt HW2.out) 6 [.slice ao lo.length co])
      have HX14 := Lib.hid ((setLe_other (B := w3.heap.size) (M := w.heap.size) (by have := HW2.out; omega) [.slice ao lo.length co] 6 w13).trans HX13.out)
      have HY14 := Lib.hid (show (setLe w13 w3.heap.size 6 [.slice ao lo.length co]).heap[w3.heap.size]? = some (.cells #[.bool d, .bool true, .slice none 0 0, .slice af lf.length cf, .slice aw lw.length cw, .slice none 0 0, .slice ao lo.length co, .int .i64 (-1)] 43 (0, 0)) from Go.heap_setCell_same w13 w3.heap.size 6 _ _ _ HY13.out)
      have HL14 := Lib.hid (show w1.heap.size ≤ (setLe w13 w3.heap.size 6 [.slice ao lo.length co]).heap.size by rw [setLe_size]; exact HL13.out)
      obtain ⟨l0, l1, l2, l3, l4, l5, l6, l7, lz, lN⟩ := rowc_qu HY13.out
      go_upto_region 13 with (fail)
      generalize hwa : setLe w13 w3.heap.size 6 [.slice ao lo.length co] = w14 at *
      have hwb : (w13.setCell ⟨w3.heap.size, 6, none⟩ (.slice ao lo.length co)) = w14 := hwa
      rw [hwb]
      clear hwa hwb l0 l1 l2 l3 l4 l5 l6 l7 lz lN
      replace HIt := Lib.hid (show queryR ws s0 = (if (takeR ws 1 kLIMIT s9).1 = true then (⟨d, true, [], lf, lw, [], lo, (numR ws (takeR ws 1 kLIMIT s9).2).1⟩, (numR ws (takeR ws 1 kLIMIT s9).2).2) else (⟨d, true, [], lf, lw, [], lo, -1⟩, (takeR ws 1 kLIMIT s9).2)) from HIt.out)
      have HKw := Lib.hid (pkeyword_any kLIMIT N w14 _ wn wc ws s9 HS14.out)
      obtain ⟨r, hrr⟩ : ∃ r, r = takeR ws 1 kLIMIT s9 := ⟨_, rfl⟩
      rw [← hrr] at HKw HIt
      clear hrr
      obtain ⟨tl, s10⟩ := r
      dsimp only at HKw HIt
      rw [show bs kLIMIT = ⟨#[76, 73, 77, 73, 84]⟩ from rfl] at HKw
      go_wp2_with fail
      refine HKw.out.mono ?_
      rintro e w15 ⟨rfl, h1, h2⟩
      have HVf15 := Lib.hid (HVf14.out.far h2.size (fun b hb hlt => h2.block b hlt (by have := HN.out; have := HW1.out; omega)))
      have HVw15 := Lib.hid (HVw14.out.far h2.size (fun b hb hlt => h2.block b hlt (by have := HN.out; have := HW1.out; omega)))
      have HVo15 := Lib.hid (HVo14.out.far h2.size (fun b hb hlt => h2.block b hlt (by have := HN.out; have := HW1.out; omega)))
      have HS15 := Lib.hid h1
      have HT15 := Lib.hid (HT14.out.trans h2)
      have HX15 := Lib.hid ((h2.block _ (Array.getElem?_eq_some_iff.1 HX14.out).1 (by have := HN.out; omega)).trans HX14.out)
      have HY15 := Lib.hid ((h2.block _ (Array.getElem?_eq_some_iff.1 HY14.out).1 (by have := HN2.out; omega)).trans HY14.out)
      have HL15 := Lib.hid (Nat.le_trans HL14.out h2.size)
      clear h1 h2
      cases tl with
      | false =>
        have HWf := Lib.hid ((HVf15.out.far (w' := setLe w15 w.heap.size 0 [.bool d, .bool true, .slice none 0 0, .slice af lf.length cf, .slice aw lw.length cw, .slice none 0 0, .slice ao lo.length co, .int .i64 (-1)]) (by rw [setLe_size]; exact Nat.le_refl _) (fun b hb hlt => setLe_other (by have := HW1.out; have := hb.1; omega) _ _ _)).mono (Q' := fun b => w.heap.size ≤ b) (fun b hb _ => by have := HW1.out; have := hb.1; omega))
        have HWw := Lib.hid ((HVw15.out.far (w' := setLe w15 w.heap.size 0 [.bool d, .bool true, .slice none 0 0, .slice af lf.length cf, .slice aw lw.length cw, .slice none 0 0, .slice ao lo.length co, .int .i64 (-1)]) (by rw [setLe_size]; exact Nat.le_refl _) (fun b hb hlt => setLe_other (by have := HW1.out; have := hb.1; omega) _ _ _)).mono (Q' := fun b => w.heap.size ≤ b) (fun b hb _ => by have := HW1.out; have := hb.1; omega))
        have HWo := Lib.hid ((HVo15.out.far (w' := setLe w15 w.heap.size 0 [.bool d, .bool true, .slice none 0 0, .slice af lf.length cf, .slice aw lw.length cw, .slice none 0 0, .slice ao lo.length co, .int .i64 (-1)]) (by rw [setLe_size]; exact Nat.le_refl _) (fun b hb hlt => setLe_other (by have := HW1.out; have := hb.1; omega) _ _ _)).mono (Q' := fun b => w.heap.size ≤ b) (fun b hb _ => by have := HW1.out; have := hb.1; omega))
        have HR := Lib.hid (show queryR ws s0 = (⟨d, true, [], lf, lw, [], lo, -1⟩, s10) from HIt.out)
        obtain ⟨l0, l1, l2, l3, l4, l5, l6, l7, lz, lN⟩ := rowc_qu HY15.out
        obtain ⟨g0, g1, g2, g3, g4, g5, g6, g7, gz, gN⟩ := rowc_qu HX15.out
        have HFin := Lib.hid (wbox_qu HX15.out (.bool d) (.bool true) (.slice none 0 0) (.slice af lf.length cf) (.slice aw lw.length cw) (.slice none 0 0) (.slice ao lo.length co) (.int .i64 (-1)))
        have HF1 := Lib.hid (HS15.out.setLe (R := w.heap.size) HN.out 0 [.bool d, .bool true, .slice none 0 0, .slice af lf.length cf, .slice aw lw.length cw, .slice none 0 0, .slice ao lo.length co, .int .i64 (-1)])
        have HF2 := Lib.hid (HT15.out.setLe (R := w.heap.size) (Nat.le_of_lt HN.out) (Nat.le_refl _) 0 [.bool d, .bool true, .slice none 0 0, .slice af lf.length cf, .slice aw lw.length cw, .slice none 0 0, .slice ao lo.length co, .int .i64 (-1)])
        go_wp2
        refine bodyPost_ret (results_qu rfl _ _ w.heap.size _ _ _ _ _ _ _ _ rfl HFin.out) rfl ?_
        rw [HR.out]
        exact ⟨⟨_, rfl, _, rfl, _, _, _, _, _, rfl, SlV.nil _ _ _, HWf.out, HWw.out, LeV.nil _ _, HWo.out, rfl⟩, HF1.out, HF2.out⟩
      | true =>
        replace HIt := Lib.hid (show queryR ws s0 = (⟨d, true, [], lf, lw, [], lo, (numR ws s10).1⟩, (numR ws s10).2) from HIt.out)
        have HNi := Lib.hid (num_inr HRc.out.z s10)
        have HNu := Lib.hid (pnumber_any N w15 _ wn wc ws s10 HS15.out HRc.out.z)
        obtain ⟨q, hq⟩ : ∃ q, q = numR ws s10 := ⟨_, rfl⟩
        rw [← hq] at HIt HNu HNi
        clear hq
        obtain ⟨lim, s11⟩ := q
        dsimp only at HIt HNu HNi
        go_wp2_with fail
        refine HNu.out.mono ?_
        rintro e w16 ⟨rfl, h1, h2⟩
        have HVf16 := Lib.hid (HVf15.out.far h2.size (fun b hb hlt => h2.block b hlt (by have := HN.out; have := HW1.out; omega)))
        have HVw16 := Lib.hid (HVw15.out.far h2.size (fun b hb hlt => h2.block b hlt (by have := HN.out; have := HW1.out; omega)))
        have HVo16 := Lib.hid (HVo15.out.far h2.size (fun b hb hlt => h2.block b hlt (by have := HN.out; have := HW1.out; omega)))
        have HS16 := Lib.hid h1
        have HT16 := Lib.hid (HT15.out.trans h2)
        have HX16 := Lib.hid ((h2.block _ (Array.getElem?_eq_some_iff.1 HX15.out).1 (by have := HN.out; omega)).trans HX15.out)
        have HY16 := Lib.hid ((h2.block _ (Array.getElem?_eq_some_iff.1 HY15.out).1 (by have := HN2.out; omega)).trans HY15.out)
        have HL16 := Lib.hid (Nat.le_trans HL15.out h2.size)
        clear h1 h2
        have HVf17 := Lib.hid (HVf16.out.far (w' := setLe w16 w3.heap.size 7 [.int .i64 lim]) (by rw [setLe_size]; exact Nat.le_refl _) (fun b hb hlt => setLe_other hb.2 _ _ _))
        have HVw17 := Lib.hid (HVw16.out.far (w' := setLe w16 w3.heap.size 7 [.int .i64 lim]) (by rw [setLe_size]; exact Nat.le_refl _) (fun b hb hlt => setLe_other hb.2 _ _ _))
        have HVo17 := Lib.hid (HVo16.out.far (w' := setLe w16 w3.heap.size 7 [.int .i64 lim]) (by rw [setLe_size]; exact Nat.le_refl _) (fun b hb hlt => setLe_other hb.2 _ _ _))
        have HS17 := Lib.hid (HS16.out.setLe (R := w3.heap.size) HN2.out 7 [.int .i64 lim])
        have HT17 := Lib.hid (HT16.out.setLe (R := w3.heap.size) (Nat.le_of_lt HN2.out) (Nat.le_of_lt HW2.out) 7 [.int .i64 lim])
        have HX17 := Lib.hid ((setLe_other (B := w3.heap.size) (M := w.heap.size) (by have := HW2.out; omega) [.int .i64 lim] 7 w16).trans HX16.out)
        have HY17 := Lib.hid (show (setLe w16 w3.heap.size 7 [.int .i64 lim]).heap[w3.heap.size]? = some (.cells #[.bool d, .bool true, .slice none 0 0, .slice af lf.length cf, .slice aw lw.length cw, .slice none 0 0, .slice ao lo.length co, .int .i64 lim] 43 (0, 0)) from Go.heap_setCell_same w16 w3.heap.size 7 _ _ _ HY16.out)
        have HL17 := Lib.hid (show w1.heap.size ≤ (setLe w16 w3.heap.size 7 [.int .i64 lim]).heap.size by rw [setLe_size]; exact HL16.out)
        obtain ⟨l0, l1, l2, l3, l4, l5, l6, l7, lz, lN⟩ := rowc_qu HY16.out
        go_upto_region 15 with (fail)
        generalize hwa : setLe w16 w3.heap.size 7 [.int .i64 lim] = w17 at *
        have hwb : (w16.setCell ⟨w3.heap.size, 7, none⟩ (.int .i64 lim)) = w17 := hwa
        rw [hwb]
        clear hwa hwb l0 l1 l2 l3 l4 l5 l6 l7 lz lN
        have HWf := Lib.hid ((HVf17.out.far (w' := setLe w17 w.heap.size 0 [.bool d, .bool true, .slice none 0 0, .slice af lf.length cf, .slice aw lw.length cw, .slice none 0 0, .slice ao lo.length co, .int .i64 lim]) (by rw [setLe_size]; exact Nat.le_refl _) (fun b hb hlt => setLe_other (by have := HW1.out; have := hb.1; omega) _ _ _)).mono (Q' := fun b => w.heap.size ≤ b) (fun b hb _ => by have := HW1.out; have := hb.1; omega))
        have HWw := Lib.hid ((HVw17.out.far (w' := setLe w17 w.heap.size 0 [.bool d, .bool true, .slice none 0 0, .slice af lf.length cf, .slice aw lw.length cw, .slice none 0 0, .slice ao lo.length co, .int .i64 lim]) (by rw [setLe_size]; exact Nat.le_refl _) (fun b hb hlt => setLe_other (by have := HW1.out; have := hb.1; omega) _ _ _)).mono (Q' := fun b => w.heap.size ≤ b) (fun b hb _ => by have := HW1.out; have := hb.1; omega))
        have HWo := Lib.hid ((HVo17.out.far (w' := setLe w17 w.heap.size 0 [.bool d, .bool true, .slice none 0 0, .slice af lf.length cf, .slice aw lw.length cw, .slice none 0 0, .slice ao lo.length co, .int .i64 lim]) (by rw [setLe_size]; exact Nat.le_refl _) (fun b hb hlt => setLe_other (by have := HW1.out; have := hb.1; omega) _ _ _)).mono (Q' := fun b => w.heap.size ≤ b) (fun b hb _ => by have := HW1.out; have := hb.1; omega))
        have HR := Lib.hid (show queryR ws s0 = (⟨d, true, [], lf, lw, [], lo, lim⟩, s11) from HIt.out)
        obtain ⟨l0, l1, l2, l3, l4, l5, l6, l7, lz, lN⟩ := rowc_qu HY17.out
        obtain ⟨g0, g1, g2, g3, g4, g5, g6, g7, gz, gN⟩ := rowc_qu HX17.out
        have HFin := Lib.hid (wbox_qu HX17.out (.bool d) (.bool true) (.slice none 0 0) (.slice af lf.length cf) (.slice aw lw.length cw) (.slice none 0 0) (.slice ao lo.length co) (.int .i64 lim))
        have HF1 := Lib.hid (HS17.out.setLe (R := w.heap.size) HN.out 0 [.bool d, .bool true, .slice none 0 0, .slice af lf.length cf, .slice aw lw.length cw, .slice none 0 0, .slice ao lo.length co, .int .i64 lim])
        have HF2 := Lib.hid (HT17.out.setLe (R := w.heap.size) (Nat.le_of_lt HN.out) (Nat.le_refl _) 0 [.bool d, .bool true, .slice none 0 0, .slice af lf.length cf, .slice aw lw.length cw, .slice none 0 0, .slice ao lo.length co, .int .i64 lim])
        go_wp2
        refine bodyPost_ret (results_qu rfl _ _ w.heap.size _ _ _ _ _ _ _ _ rfl HFin.out) rfl ?_
        rw [HR.out]
        exact ⟨⟨_, rfl, _, rfl, _, _, _, _, _, rfl, SlV.nil _ _ _, HWf.out, HWw.out, LeV.nil _ _, HWo.out, HNi.out⟩, HF1.out, HF2.out⟩
  | true =>
    replace HIt := Lib.hid (show queryR ws s0 = q3a ws d true [] lf lw (listR ws (exprR ws) (mustK ws [kBY] s6)) from HIt.out)
    have HBk := Lib.hid (bel0 (.cells #[.string ⟨#[66, 89]⟩] 9) (Below.refl w10.heap.size w10))
    have HKx := Lib.hid (Go.heap_alloc_new w10 (.cells #[.string ⟨#[66, 89]⟩] 9 (0, 0)))
    have HMu := Lib.hid (must_any [kBY] (by decide) N (w10.alloc (.cells #[.string ⟨#[66, 89]⟩] 9)) _ wn wc ws s6 (HS10.out.below HBk.out) (some ⟨w10.heap.size, 0, none⟩) 1 ⟨w10.heap.size, 0, rfl, by have := HS10.out.low; omega, (Array.getElem?_eq_some_iff.1 HKx.out).1, fun q hq => by
      have h0 : q = 0 := by simpa using hq
      subst h0
      exact cell_of_row _ _ 0 _ _ _ HKx.out⟩)
    obtain ⟨s7, hsm⟩ : ∃ q, q = mustK ws [kBY] s6 := ⟨_, rfl⟩
    rw [← hsm] at HMu HIt
    clear hsm
    have h2k := RTo.of_below (N := N) HBk.out (Nat.le_of_lt HS10.out.low)
    go_wp2_with fail
    refine HMu.out.mono ?_
    rintro e w11 ⟨rfl, h1, h2x⟩
    have h2 := h2k.trans h2x
    have HVf11 := Lib.hid (HVf10.out.far h2.size (fun b hb hlt => h2.block b hlt (by have := HN.out; have := HW1.out; omega)))
    have HVw11 := Lib.hid (HVw10.out.far h2.size (fun b hb hlt => h2.block b hlt (by have := HN.out; have := HW1.out; omega)))
    have HS11 := Lib.hid h1
    have HT11 := Lib.hid (HT10.out.trans h2)
    have HX11 := Lib.hid ((h2.block _ (Array.getElem?_eq_some_iff.1 HX10.out).1 (by have := HN.out; omega)).trans HX10.out)
    have HY11 := Lib.hid ((h2.block _ (Array.getElem?_eq_some_iff.1 HY10.out).1 (by have := HN2.out; omega)).trans HY10.out)
    have HL11 := Lib.hid (Nat.le_trans HL10.out h2.size)
    clear h1 h2 h2k h2x
    have HCl := Lib.hid ((plist_ex N w11 b off wn wc ws s7 HS11.out HRc.out).mono (fun e w2 hx => ⟨hx.1.imp (fun v hv => ⟨hv.1, hv.2.el⟩), hx.2⟩ : ∀ e w2, _ → PsV LeV N w11 (some ⟨b, off, none⟩) wn wc ws (listR ws (exprR ws) s7) e w2))
    obtain ⟨q, hq⟩ : ∃ q, q = listR ws (exprR ws) s7 := ⟨_, rfl⟩
    rw [← hq] at HIt HCl
    clear hq
    obtain ⟨lg, s8⟩ := q
    try dsimp only at HIt HCl
    go_wp2_with fail
    refine HCl.out.mono ?_
    rintro e w12 ⟨⟨_, rfl, ag, cg, rfl, hv⟩, h1, h2⟩
    replace hv : LeV w12 (fun b => w11.heap.size ≤ b) (.slice ag lg.length cg) lg := ⟨ag, cg, rfl, hv⟩
    have HVf12 := Lib.hid (HVf11.out.far h2.size (fun b hb hlt => h2.block b hlt (by have := HN.out; have := HW1.out; omega)))
    have HVw12 := Lib.hid (HVw11.out.far h2.size (fun b hb hlt => h2.block b hlt (by have := HN.out; have := HW1.out; omega)))
    have HS12 := Lib.hid h1
    have HT12 := Lib.hid (HT11.out.trans h2)
    have HX12 := Lib.hid ((h2.block _ (Array.getElem?_eq_some_iff.1 HX11.out).1 (by have := HN.out; omega)).trans HX11.out)
    have HY12 := Lib.hid ((h2.block _ (Array.getElem?_eq_some_iff.1 HY11.out).1 (by have := HN2.out; omega)).trans HY11.out)
    have HL12 := Lib.hid (Nat.le_trans HL11.out h2.size)
    have HVg12 := Lib.hid (hv.mono (Q' := fun b => w1.heap.size ≤ b ∧ b ≠ w3.heap.size) (fun b hb _ => ⟨Nat.le_trans HL11.out hb, by have := (Array.getElem?_eq_some_iff.1 HY11.out).1; omega⟩))
    clear hv h1 h2 HCl
    have HVf13 := Lib.hid (HVf12.out.far (w' := setLe w12 w3.heap.size 5 [.slice ag lg.length cg]) (by rw [setLe_size]; exact Nat.le_refl _) (fun b hb hlt => setLe_other hb.2 _ _ _))
    have HVw13 := Lib.hid (HVw12.out.far (w' := setLe w12 w3.heap.size 5 [.slice ag lg.length cg]) (by rw [setLe_size]; exact Nat.le_refl _) (fun b hb hlt => setLe_other hb.2 _ _ _))
    have HVg13 := Lib.hid (HVg12.out.far (w' := setLe w12 w3.heap.size 5 [.slice ag lg.length cg]) (by rw [setLe_size]; exact Nat.le_refl _) (fun b hb hlt => setLe_other hb.2 _ _ _))
    have HS13 := Lib.hid (HS12.out.setLe (R := w3.heap.size) HN2.out 5 [.slice ag lg.length cg])
    have HT13 := Lib.hid (HT12.out.setLe (R := w3.heap.size) (Nat.le_of_lt HN2.out) (Nat.le_of_lt HW2.out) 5 [.slice ag lg.length cg])
    have HX13 := Lib.hid ((setLe_other (B := w3.heap.size) (M := w.heap.size) (by have := HW2.out; omega) [.slice ag lg.length cg] 5 w12).trans HX12.out)
    have HY13 := Lib.hid (show (setLe w12 w3.heap.size 5 [.slice ag lg.length cg]).heap[w3.heap.size]? = some (.cells #[.bool d, .bool true, .slice none 0 0, .slice af lf.length cf, .slice aw lw.length cw, .slice ag lg.length cg, .slice none 0 0, .int .i64 (-1)] 43 (0, 0)) from Go.heap_setCell_same w12 w3.heap.size 5 _ _ _ HY12.out)
    have HL13 := Lib.hid (show w1.heap.size ≤ (setLe w12 w3.heap.size 5 [.slice ag lg.length cg]).heap.size by rw [setLe_size]; exact HL12.out)
    obtain ⟨l0, l1, l2, l3, l4, l5, l6, l7, lz, lN⟩ := rowc_qu HY12.out
    go_upto_region 10 with (fail)
    generalize hwa : setLe w12 w3.heap.size 5 [.slice ag lg.length cg] = w13 at *
    have hwb : (w12.setCell ⟨w3.heap.size, 5, none⟩ (.slice ag lg.length cg)) = w13 := hwa
    rw [hwb]
    clear hwa hwb l0 l1 l2 l3 l4 l5 l6 l7 lz lN
    replace HIt := Lib.hid (show queryR ws s0 = (if (takeR ws 1 kORDER s8).1 = true then q4a ws d true [] lf lw lg (listR ws (orderR ws) (mustK ws [kBY] (takeR ws 1 kORDER s8).2)) else q5 ws d true [] lf lw lg [] (takeR ws 1 kORDER s8).2) from HIt.out)
    have HKw := Lib.hid (pkeyword_any kORDER N w13 _ wn wc ws s8 HS13.out)
    obtain ⟨r, hrr⟩ : ∃ r, r = takeR ws 1 kORDER s8 := ⟨_, rfl⟩
    rw [← hrr] at HKw HIt
    clear hrr
    obtain ⟨tq, s9⟩ := r
    dsimp only at HKw HIt
    rw [show bs kORDER = ⟨#[79, 82, 68, 69, 82]⟩ from rfl] at HKw
    go_wp2_with fail
    refine HKw.out.mono ?_
    rintro e w14 ⟨rfl, h1, h2⟩
    have HVf14 := Lib.hid (HVf13.out.far h2.size (fun b hb hlt => h2.block b hlt (by have := HN.out; have := HW1.out; omega)))
    have HVw14 := Lib.hid (HVw13.out.far h2.size (fun b hb hlt => h2.block b hlt (by have := HN.out; have := HW1.out; omega)))
    have HVg14 := Lib.hid (HVg13.out.far h2.size (fun b hb hlt => h2.block b hlt (by have := HN.out; have := HW1.out; omega)))
    have HS14 := Lib.hid h1
    have HT14 := Lib.hid (HT13.out.trans h2)
    have HX14 := Lib.hid ((h2.block _ (Array.getElem?_eq_some_iff.1 HX13.out).1 (by have := HN.out; omega)).trans HX13.out)
    have HY14 := Lib.hid ((h2.block _ (Array.getElem?_eq_some_iff.1 HY13.out).1 (by have := HN2.out; omega)).trans HY13.out)
    have HL14 := Lib.hid (Nat.le_trans HL13.out h2.size)
    clear h1 h2
    cases tq with
    | false =>
      replace HIt := Lib.hid (show queryR ws s0 = (if (takeR ws 1 kLIMIT s9).1 = true then (⟨d, true, [], lf, lw, lg, [], (numR ws (takeR ws 1 kLIMIT s9).2).1⟩, (numR ws (takeR ws 1 kLIMIT s9).2).2) else (⟨d, true, [], lf, lw, lg, [], -1⟩, (takeR ws 1 kLIMIT s9).2)) from HIt.out)
      have HKw := Lib.hid (pkeyword_any kLIMIT N w14 _ wn wc ws s9 HS14.out)
      obtain ⟨r, hrr⟩ : ∃ r, r = takeR ws 1 kLIMIT s9 := ⟨_, rfl⟩
      rw [← hrr] at HKw HIt
      clear hrr
      obtain ⟨tl, s10⟩ := r
      dsimp only at HKw HIt
      rw [show bs kLIMIT = ⟨#[76, 73, 77, 73, 84]⟩ from rfl] at HKw
      go_wp2_with fail
      refine HKw.out.mono ?_
      rintro e w15 ⟨rfl, h1, h2⟩
      have HVf15 := Lib.hid (HVf14.out.far h2.size (fun b hb hlt => h2.block b hlt (by have := HN.out; have := HW1.out; omega)))
      have HVw15 := Lib.hid (HVw14.out.far h2.size (fun b hb hlt => h2.block b hlt (by have := HN.out; have := HW1.out; omega)))
      have HVg15 := Lib.hid (HVg14.out.far h2.size (fun b hb hlt => h2.block b hlt (by have := HN.out; have := HW1.out; omega)))
      have HS15 := Lib.hid h1
      have HT15 := Lib.hid (HT14.out.trans h2)
      have HX15 := Lib.hid ((h2.block _ (Array.getElem?_eq_some_iff.1 HX14.out).1 (by have := HN.out; omega)).trans HX14.out)
      have HY15 := Lib.hid ((h2.block _ (Array.getElem?_eq_some_iff.1 HY14.out).1 (by have := HN2.out; omega)).trans HY14.out)
      have HL15 := Lib.hid (Nat.le_trans HL14.out h2.size)
      clear h1 h2
      cases tl with
      | false =>
        have HWf := Lib.hid ((HVf15.out.far (w' := setLe w15 w.heap.size 0 [.bool d, .bool true, .slice none 0 0, .slice af lf.length cf, .slice aw lw.length cw, .slice ag lg.length cg, .slice none 0 0, .int .i64 (-1)]) (by rw [setLe_size]; exact Nat.le_refl _) (fun b hb hlt => setLe_other (by have := HW1.out; have := hb.1; omega) _ _ _)).mono (Q' := fun b => w.heap.size ≤ b) (fun b hb _ => by have := HW1.out; have := hb.1; omega))
        have HWw := Lib.hid ((HVw15.out.far (w' := setLe w15 w.heap.size 0 [.bool d, .bool true, .slice none 0 0, .slice af lf.length cf, .slice aw lw.length cw, .slice ag lg.length cg, .slice none 0 0, .int .i64 (-1)]) (by rw [setLe_size]; exact Nat.le_refl _) (fun b hb hlt => setLe_other (by have := HW1.out; have := hb.1; omega) _ _ _)).mono (Q' := fun b => w.heap.size ≤ b) (fun b hb _ => by have := HW1.out; have := hb.1; omega))
        have HWg := Lib.hid ((HVg15.out.far (w' := setLe w15 w.heap.size 0 [.bool d, .bool true, .slice none 0 0, .slice af lf.length cf, .slice aw lw.length cw, .slice ag lg.length cg, .slice none 0 0, .int .i64 (-1)]) (by rw [setLe_size]; exact Nat.le_refl _) (fun b hb hlt => setLe_other (by have := HW1.out; have := hb.1; omega) _ _ _)).mono (Q' := fun b => w.heap.size ≤ b) (fun b hb _ => by have := HW1.out; have := hb.1; omega))
        have HR := Lib.hid (show queryR ws s0 = (⟨d, true, [], lf, lw, lg, [], -1⟩, s10) from HIt.out)
        obtain ⟨l0, l1, l2, l3, l4, l5, l6, l7, lz, lN⟩ := rowc_qu HY15.out
        obtain ⟨g0, g1, g2, g3, g4, g5, g6, g7, gz, gN⟩ := rowc_qu HX15.out
        have HFin := Lib.hid (wbox_qu HX15.out (.bool d) (.bool true) (.slice none 0 0) (.slice af lf.length cf) (.slice aw lw.length cw) (.slice ag lg.length cg) (.slice none 0 0) (.int .i64 (-1)))
        have HF1 := Lib.hid (HS15.out.setLe (R := w.heap.size) HN.out 0 [.bool d, .bool true, .slice none 0 0, .slice af lf.length cf, .slice aw lw.length cw, .slice ag lg.length cg, .slice none 0 0, .int .i64 (-1)])
        have HF2 := Lib.hid (HT15.out.setLe (R := w.heap.size) (Nat.le_of_lt HN.out) (Nat.le_refl _) 0 [.bool d, .bool true, .slice none 0 0, .slice af lf.length cf, .slice aw lw.length cw, .slice ag lg.length cg, .slice none 0 0, .int .i64 (-1)])
        go_wp2
        refine bodyPost_ret (results_qu rfl _ _ w.heap.size _ _ _ _ _ _ _ _ rfl HFin.out) rfl ?_
        rw [HR.out]
        exact ⟨⟨_, rfl, _, rfl, _, _, _, _, _, rfl, SlV.nil _ _ _, HWf.out, HWw.out, HWg.out, SlV.nil _ _ _, rfl⟩, HF1.out, HF2.out⟩
      | true =>
        replace HIt := Lib.hid (show queryR ws s0 = (⟨d, true, [], lf, lw, lg, [], (numR ws s10).1⟩, (numR ws s10).2) from HIt.out)
        have HNi := Lib.hid (num_inr HRc.out.z s10)
        have HNu := Lib.hid (pnumber_any N w15 _ wn wc ws s10 HS15.out HRc.out.z)
        obtain ⟨q, hq⟩ : ∃ q, q = numR ws s10 := ⟨_, rfl⟩
        rw [← hq] at HIt HNu HNi
        clear hq
        obtain ⟨lim, s11⟩ := q
        dsimp only at HIt HNu HNi
        go_wp2_with fail
        refine HNu.out.mono ?_
        rintro e w16 ⟨rfl, h1, h2⟩
        have HVf16 := Lib.hid (HVf15.out.far h2.size (fun b hb hlt => h2.block b hlt (by have := HN.out; have := HW1.out; omega)))
        have HVw16 := Lib.hid (HVw15.out.far h2.size (fun b hb hlt => h2.block b hlt (by have := HN.out; have := HW1.out; omega)))
        have HVg16 := Lib.hid (HVg15.out.far h2.size (fun b hb hlt => h2.block b hlt (by have := HN.out; have := HW1.out; omega)))
        have HS16 := Lib.hid h1
        have HT16 := Lib.hid (HT15.out.trans h2)
        have HX16 := Lib.hid ((h2.block _ (Array.getElem?_eq_some_iff.1 HX15.out).1 (by have := HN.out; omega)).trans HX15.out)
        have HY16 := Lib.hid ((h2.block _ (Array.getElem?_eq_some_iff.1 HY15.out).1 (by have := HN2.out; omega)).trans HY15.out)
        have HL16 := Lib.hid (Nat.le_trans HL15.out h2.size)
        clear h1 h2
        have HVf17 := Lib.hid (HVf16.out.far (w' := setLe w16 w3.heap.size 7 [.int .i64 lim]) (by rw [setLe_size]; exact Nat.le_refl _) (fun b hb hlt => setLe_other hb.2 _ _ _))
        have HVw17 := Lib.hid (HVw16.out.far (w' := setLe w16 w3.heap.size 7 [.int .i64 lim]) (by rw [setLe_size]; exact Nat.le_refl _) (fun b hb hlt => setLe_other hb.2 _ _ _))
        have HVg17 := Lib.hid (HVg16.out.far (w' := setLe w16 w3.heap.size 7 [.int .i64 lim]) (by rw [setLe_size]; exact Nat.le_refl _) (fun b hb hlt => setLe_other hb.2 _ _ _))
        have HS17 := Lib.hid (HS16.out.setLe (R := w3.heap.size) HN2.out 7 [.int .i64 lim])
        have HT17 := Lib.hid (HT16.out.setLe (R := w3.heap.size) (Nat.le_of_lt HN2.out) (Nat.le_of_lt HW2.out) 7 [.int .i64 lim])
        have HX17 := Lib.hid ((setLe_other (B := w3.heap.size) (M := w.heap.size) (by have := HW2.out; omega) [.int .i64 lim] 7 w16).trans HX16.out)
        have HY17 := Lib.hid (show (setLe w16 w3.heap.size 7 [.int .i64 lim]).heap[w3.heap.size]? = some (.cells #[.bool d, .bool true, .slice none 0 0, .slice af lf.length cf, .slice aw lw.length cw, .slice ag lg.length cg, .slice none 0 0, .int .i64 lim] 43 (0, 0)) from Go.heap_setCell_same w16 w3.heap.size 7 _ _ _ HY16.out)
        have HL17 := Lib.hid (show w1.heap.size ≤ (setLe w16 w3.heap.size 7 [.int .i64 lim]).heap.size by rw [setLe_size]; exact HL16.out)
        obtain ⟨l0, l1, l2, l3, l4, l5, l6, l7, lz, lN⟩ := rowc_qu HY16.out
        go_upto_region 15 with (fail)
        generalize hwa : setLe w16 w3.heap.size 7 [.int .i64 lim] = w17 at *
        have hwb : (w16.setCell ⟨w3.heap.size, 7, none⟩ (.int .i64 lim)) = w17 := hwa
        rw [hwb]
        clear hwa hwb l0 l1 l2 l3 l4 l5 l6 l7 lz lN
        have HWf := Lib.hid ((HVf17.out.far (w' := setLe w17 w.heap.size 0 [.bool d, .bool true, .slice none 0 0, .slice af lf.length cf, .slice aw lw.length cw, .slice ag lg.length cg, .slice none 0 0, .int .i64 lim]) (by rw [setLe_size]; exact Nat.le_refl _) (fun b hb hlt => setLe_other (by have := HW1.out; have := hb.1; omega) _ _ _)).mono (Q' := fun b => w.heap.size ≤ b) (fun b hb _ => by have := HW1.out; have := hb.1; omega))
        have HWw := Lib.hid ((HVw17.out.far (w' := setLe w17 w.heap.size 0 [.bool d, .bool true, .slice none 0 0, .slice af lf.length cf, .slice aw lw.length cw, .slice ag lg.length cg, .slice none 0 0, .int .i64 lim]) (by rw [setLe_size]; exact Nat.le_refl _) (fun b hb hlt => setLe_other (by have := HW1.out; have := hb.1; omega) _ _ _)).mono (Q' := fun b => w.heap.size ≤ b) (fun b hb _ => by have := HW1.out; have := hb.1; omega))
        have HWg := Lib.hid ((HVg17.out.far (w' := setLe w17 w.heap.size 0 [.bool d, .bool true, .slice none 0 0, .slice af lf.length cf, .slice aw lw.length cw, .slice ag lg.length cg, .slice none 0 0, .int .i64 lim]) (by rw [setLe_size]; exact Nat.le_refl _) (fun b hb hlt => setLe_other (by have := HW1.out; have := hb.1; omega) _ _ _)).mono (Q' := fun b => w.heap.size ≤ b) (fun b hb _ => by have := HW1.out; have := hb.1; omega))
        have HR := Lib.hid (show queryR ws s0 = (⟨d, true, [], lf, lw, lg, [], lim⟩, s11) from HIt.out)
        obtain ⟨l0, l1, l2, l3, l4, l5, l6, l7, lz, lN⟩ := rowc_qu HY17.out
        obtain ⟨g0, g1, g2, g3, g4, g5, g6, g7, gz, gN⟩ := rowc_qu HX17.out
        have HFin := Lib.hid (wbox_qu HX17.out (.bool d) (.bool true) (.slice none 0 0) (.slice af lf.length cf) (.slice aw lw.length cw) (.slice ag lg.length cg) (.slice none 0 0) (.int .i64 lim))
        have HF1 := Lib.hid (HS17.out.setLe (R := w.heap.size) HN.out 0 [.bool d, .bool true, .slice none 0 0, .slice af lf.length cf, .slice aw lw.length cw, .slice ag lg.length cg, .slice none 0 0, .int .i64 lim])
        have HF2 := Lib.hid (HT17.out.setLe (R := w.heap.size) (Nat.le_of_lt HN.out) (Nat.le_refl _) 0 [.bool d, .bool true, .slice none 0 0, .slice af lf.length cf, .slice aw lw.length cw, .slice ag lg.length cg, .slice none 0 0, .int .i64 lim])
        go_wp2
        refine bodyPost_ret (results_qu rfl _ _ w.heap.size _ _ _ _ _ _ _ _ rfl HFin.out) rfl ?_
        rw [HR.out]
        exact ⟨⟨_, rfl, _, rfl, _, _, _, _, _, rfl, SlV.nil _ _ _, HWf.out, HWw.out, HWg.out, SlV.nil _ _ _, HNi.out⟩, HF1.out, HF2.out⟩
    | true =>
      replace HIt := Lib.hid (show queryR ws s0 = q4a ws d true [] lf lw lg (listR ws (orderR ws) (mustK ws [kBY] s9)) from HIt.out)
      have HBk := Lib.hid (bel0 (.cells #[.string ⟨#[66, 89]⟩] 9) (Below.refl w14.heap.size w14))
      have HKx := Lib.hid (Go.heap_alloc_new w14 (.cells #[.string ⟨#[66, 89]⟩] 9 (0, 0)))
      have HMu := Lib.hid (must_any [kBY] (by decide) N (w14.alloc (.cells #[.string ⟨#[66, 89]⟩] 9)) _ wn wc ws s9 (HS14.out.below HBk.out) (some ⟨w14.heap.size, 0, none⟩) 1 ⟨w14.heap.size, 0, rfl, by have := HS14.out.low; omega, (Array.getElem?_eq_some_iff.1 HKx.out).1, fun q hq => by
        have h0 : q = 0 := by simpa using hq
        subst h0
        exact cell_of_row _ _ 0 _ _ _ HKx.out⟩)
      obtain ⟨s10, hsm⟩ : ∃ q, q = mustK ws [kBY] s9 := ⟨_, rfl⟩
      rw [← hsm] at HMu HIt
      clear hsm
      have h2k := RTo.of_below (N := N) HBk.out (Nat.le_of_lt HS14.out.low)
      go_wp2_with fail
      refine HMu.out.mono ?_
      rintro e w15 ⟨rfl, h1, h2x⟩
      have h2 := h2k.trans h2x
      have HVf15 := Lib.hid (HVf14.out.far h2.size (fun b hb hlt => h2.block b hlt (by have := HN.out; have := HW1.out; omega)))
      have HVw15 := Lib.hid (HVw14.out.far h2.size (fun b hb hlt => h2.block b hlt (by have := HN.out; have := HW1.out; omega)))
      have HVg15 := Lib.hid (HVg14.out.far h2.size (fun b hb hlt => h2.block b hlt (by have := HN.out; have := HW1.out; omega)))
      have HS15 := Lib.hid h1
      have HT15 := Lib.hid (HT14.out.trans h2)
      have HX15 := Lib.hid ((h2.block _ (Array.getElem?_eq_some_iff.1 HX14.out).1 (by have := HN.out; omega)).trans HX14.out)
      have HY15 := Lib.hid ((h2.block _ (Array.getElem?_eq_some_iff.1 HY14.out).1 (by have := HN2.out; omega)).trans HY14.out)
      have HL15 := Lib.hid (Nat.le_trans HL14.out h2.size)
      clear h1 h2 h2k h2x
      have HCl := Lib.hid (plist_od N w15 b off wn wc ws s10 HS15.out HRc.out)
      obtain ⟨q, hq⟩ : ∃ q, q = listR ws (orderR ws) s10 := ⟨_, rfl⟩
      rw [← hq] at HIt HCl
      clear hq
      obtain ⟨lo, s11⟩ := q
      try dsimp only at HIt HCl
      go_wp2_with fail
      refine HCl.out.mono ?_
      rintro e w16 ⟨⟨_, rfl, ao, co, rfl, hv⟩, h1, h2⟩
      replace hv : SlV odS w16 (fun b => w15.heap.size ≤ b) (.slice ao lo.length co) lo := ⟨ao, co, rfl, hv⟩
      have HVf16 := Lib.hid (HVf15.out.far h2.size (fun b hb hlt => h2.block b hlt (by have := HN.out; have := HW1.out; omega)))
      have HVw16 := Lib.hid (HVw15.out.far h2.size (fun b hb hlt => h2.block b hlt (by have := HN.out; have := HW1.out; omega)))
      have HVg16 := Lib.hid (HVg15.out.far h2.size (fun b hb hlt => h2.block b hlt (by have := HN.out; have := HW1.out; omega)))
      have HS16 := Lib.hid h1
      have HT16 := Lib.hid (HT15.out.trans h2)
      have HX16 := Lib.hid ((h2.block _ (Array.getElem?_eq_some_iff.1 HX15.out).1 (by have := HN.out; omega)).trans HX15.out)
      have HY16 := Lib.hid ((h2.block _ (Array.getElem?_eq_some_iff.1 HY15.out).1 (by have := HN2.out; omega)).trans HY15.out)
      have HL16 := Lib.hid (Nat.le_trans HL15.out h2.size)
      have HVo16 := Lib.hid (hv.mono (Q' := fun b => w1.heap.size ≤ b ∧ b ≠ w3.heap.size) (fun b hb _ => ⟨Nat.le_trans HL15.out hb, by have := (Array.getElem?_eq_some_iff.1 HY15.out).1; omega⟩))
      clear hv h1 h2 HCl
      have HVf17 := Lib.hid (HVf16.out.far (w' := setLe w16 w3.heap.size 6 [.slice ao lo.length co]) (by rw [setLe_size]; exact Nat.le_refl _) (fun b hb hlt => setLe_other hb.2 _ _ _))
      have HVw17 := Lib.hid (HVw16.out.far (w' := setLe w16 w3.heap.size 6 [.slice ao lo.length co]) (by rw [setLe_size]; exact Nat.le_refl _) (fun b hb hlt => setLe_other hb.2 _ _ _))
      have HVg17 := Lib.hid (HVg16.out.far (w' := setLe w16 w3.heap.size 6 [.slice ao lo.length co]) (by rw [setLe_size]; exact Nat.le_refl _) (fun b hb hlt => setLe_other hb.2 _ _ _))
      have HVo17 := Lib.hid (HVo16.out.far (w' := setLe w16 w3.heap.size 6 [.slice ao lo.length co]) (by rw [setLe_size]; exact Nat.le_refl _) (fun b hb hlt => setLe_other hb.2 _ _ _))
      have HS17 := Lib.hid (HS16.out.setLe (R := w3.heap.size) HN2.out 6 [.slice ao lo.length co])
      have HT17 := Lib.hid (HT16.out.setLe (R := w3.heap.size) (Nat.le_of_lt HN2.out) (Nat.le_of_lt HW2.out) 6 [.slice ao lo.length co])
      have HX17 := Lib.hid ((setLe_other (B := w3.heap.size) (M := w.heap.size) (by have := HW2.out; omega) [.slice ao lo.length co] 6 w16).trans HX16.out)
      have HY17 := Lib.hid (show (setLe w16 w3.heap.size 6 [.slice ao lo.length co]).heap[w3.heap.size]? = some (.cells #[.bool d, .bool true, .slice none 0 0, .slice af lf.length cf, .slice aw lw.length cw, .slice ag lg.length cg, .slice ao lo.length co, .int .i64 (-1)] 43 (0, 0)) from Go.heap_setCell_same w16 w3.heap.size 6 _ _ _ HY16.out)
      have HL17 := Lib.hid (show w1.heap.size ≤ (setLe w16 w3.heap.size 6 [.slice ao lo.length co]).heap.size by rw [setLe_size]; exact HL16.out)
      obtain ⟨l0, l1, l2, l3, l4, l5, l6, l7, lz, lN⟩ := rowc_qu HY16.out
      go_upto_region 13 with (fail)
      generalize hwa : setLe w16 w3.heap.size 6 [.slice ao lo.length co] = w17 at *
      have hwb : (w16.setCell ⟨w3.heap.size, 6, none⟩ (.slice ao lo.length co)) = w17 := hwa
      rw [hwb]
      clear hwa hwb l0 l1 l2 l3 l4 l5 l6 l7 lz lN
      replace HIt := Lib.hid (show queryR ws s0 = (if (takeR ws 1 kLIMIT s11).1 = true then (⟨d, true, [], lf, lw, lg, lo, (numR ws (takeR ws 1 kLIMIT s11).2).1⟩, (numR ws (takeR ws 1 kLIMIT s11).2).2) else (⟨d, true, [], lf, lw, lg, lo, -1⟩, (takeR ws 1 kLIMIT s11).2)) from HIt.out)
      have HKw := Lib.hid (pkeyword_any kLIMIT N w17 _ wn wc ws s11 HS17.out)
      obtain ⟨r, hrr⟩ : ∃ r, r = takeR ws 1 kLIMIT s11 := ⟨_, rfl⟩
      rw [← hrr] at HKw HIt
      clear hrr
      obtain ⟨tl, s12⟩ := r
      dsimp only at HKw HIt
      rw [show bs kLIMIT = ⟨#[76, 73, 77, 73, 84]⟩ from rfl] at HKw
      go_wp2_with fail
      refine HKw.out.mono ?_
      rintro e w18 ⟨rfl, h1, h2⟩
      have HVf18 := Lib.hid (HVf17.out.far h2.size (fun b hb hlt => h2.block b hlt (by have := HN.out; have := HW1.out; omega)))
      have HVw18 := Lib.hid (HVw17.out.far h2.size (fun b hb hlt => h2.block b hlt (by have := HN.out; have := HW1.out; omega)))
      have HVg18 := Lib.hid (HVg17.out.far h2.size (fun b hb hlt => h2.block b hlt (by have := HN.out; have := HW1.out; omega)))
      have HVo18 := Lib.hid (HVo17.out.far h2.size (fun b hb hlt => h2.block b hlt (by have := HN.out; have := HW1.out; omega)))
      have HS18 := Lib.hid h1
      have HT18 := Lib.hid (HT17.out.trans h2)
      have HX18 := Lib.hid ((h2.block _ (Array.getElem?_eq_some_iff.1 HX17.out).1 (by have := HN.out; omega)).trans HX17.out)
      have HY18 := Lib.hid ((h2.block _ (Array.getElem?_eq_some_iff.1 HY17.out).1 (by have := HN2.out; omega)).trans HY17.out)
      have HL18 := Lib.hid (Nat.le_trans HL17.out h2.size)
      clear h1 h2
      cases tl with
      | false =>
        have HWf := Lib.hid ((HVf18.out.far (w' := setLe w18 w.heap.size 0 [.bool d, .bool true, .slice none 0 0, .slice af lf.length cf, .slice aw lw.length cw, .slice ag lg.length cg, .slice ao lo.length co, .int .i64 (-1)]) (by rw [setLe_size]; exact Nat.le_refl _) (fun b hb hlt => setLe_other (by have := HW1.out; have := hb.1; omega) _ _ _)).mono (Q' := fun b => w.heap.size ≤ b) (fun b hb _ => by have := HW1.out; have := hb.1; omega))
        have HWw := Lib.hid ((HVw18.out.far (w' := setLe w18 w.heap.size 0 [.bool d, .bool true, .slice none 0 0, .slice af lf.length cf, .slice aw lw.length cw, .slice ag lg.length cg, .slice ao lo.length co, .int .i64 (-1)]) (by rw [setLe_size]; exact Nat.le_refl _) (fun b hb hlt => setLe_other (by have := HW1.out; have := hb.1; omega) _ _ _)).mono (Q' := fun b => w.heap.size ≤ b) (fun b hb _ => by have := HW1.out; have := hb.1; omega))
        have HWg := Lib.hid ((HVg18.out.far (w' := setLe w18 w.heap.size 0 [.bool d, .bool true, .slice none 0 0, .slice af lf.length cf, .slice aw lw.length cw, .slice ag lg.length cg, .slice ao lo.length co, .int .i64 (-1)]) (by rw [setLe_size]; exact Nat.le_refl _) (fun b hb hlt => setLe_other (by have := HW1.out; have := hb.1; omega) _ _ _)).mono (Q' := fun b => w.heap.size ≤ b) (fun b hb _ => by have := HW1.out; have := hb.1; omega))
        have HWo := Lib.hid ((HVo18.out.far (w' := setLe w18 w.heap.size 0 [.bool d, .bool true, .slice none 0 0, .slice af lf.length cf, .slice aw lw.length cw, .slice ag lg.length cg, .slice ao lo.length co, .int .i64 (-1)]) (by rw [setLe_size]; exact Nat.le_refl _) (fun b hb hlt => setLe_other (by have := HW1.out; have := hb.1; omega) _ _ _)).mono (Q' := fun b => w.heap.size ≤ b) (fun b hb _ => by have := HW1.out; have := hb.1; omega))
        have HR := Lib.hid (show queryR ws s0 = (⟨d, true, [], lf, lw, lg, lo, -1⟩, s12) from HIt.out)
        obtain ⟨l0, l1, l2, l3, l4, l5, l6, l7, lz, lN⟩ := rowc_qu HY18.out
        obtain ⟨g0, g1, g2, g3, g4, g5, g6, g7, gz, gN⟩ := rowc_qu HX18.out
        have HFin := Lib.hid (wbox_qu HX18.out (.bool d) (.bool true) (.slice none 0 0) (.slice af lf.length cf) (.slice aw lw.length cw) (.slice ag lg.length cg) (.slice ao lo.length co) (.int .i64 (-1)))
        have HF1 := Lib.hid (HS18.out.setLe (R := w.heap.size) HN.out 0 [.bool d, .bool true, .slice none 0 0, .slice af lf.length cf, .slice aw lw.length cw, .slice ag lg.length cg, .slice ao lo.length co, .int .i64 (-1)])
        have HF2 := Lib.hid (HT18.out.setLe (R := w.heap.size) (Nat.le_of_lt HN.out) (Nat.le_refl _) 0 [.bool d, .bool true, .slice none 0 0, .slice af lf.length cf, .slice aw lw.length cw, .slice ag lg.length cg, .slice ao lo.length co, .int .i64 (-1)])
        go_wp2
        refine bodyPost_ret (results_qu rfl _ _ w.heap.size _ _ _ _ _ _ _ _ rfl HFin.out) rfl ?_
        rw [HR.out]
        exact ⟨⟨_, rfl, _, rfl, _, _, _, _, _, rfl, SlV.nil _ _ _, HWf.out, HWw.out, HWg.out, HWo.out, rfl⟩, HF1.out, HF2.out⟩
      | true =>
        replace HIt := Lib.hid (show queryR ws s0 = (⟨d, true, [], lf, lw, lg, lo, (numR ws s12).1⟩, (numR ws s12).2) from HIt.out)
        have HNi := Lib.hid (num_inr HRc.out.z s12)
        have HNu := Lib.hid (pnumber_any N w18 _ wn wc ws s12 HS18.out HRc.out.z)
        obtain ⟨q, hq⟩ : ∃ q, q = numR ws s12 := ⟨_, rfl⟩
        rw [← hq] at HIt HNu HNi
        clear hq
        obtain ⟨lim, s13⟩ := q
        dsimp only at HIt HNu HNi
        go_wp2_with fail
        refine HNu.out.mono ?_
        rintro e w19 ⟨rfl, h1, h2⟩
        have HVf19 := Lib.hid (HVf18.out.far h2.size (fun b hb hlt => h2.block b hlt (by have := HN.out; have := HW1.out; omega)))
        have HVw19 := Lib.hid (HVw18.out.far h2.size (fun b hb hlt => h2.block b hlt (by have := HN.out; have := HW1.out; omega)))
        have HVg19 := Lib.hid (HVg18.out.far h2.size (fun b hb hlt => h2.block b hlt (by have := HN.out; have := HW1.out; omega)))
        have HVo19 := Lib.hid (HVo18.out.far h2.size (fun b hb hlt => h2.block b hlt (by have := HN.out; have := HW1.out; omega)))
        have HS19 := Lib.hid h1
        have HT19 := Lib.hid (HT18.out.trans h2)
        have HX19 := Lib.hid ((h2.block _ (Array.getElem?_eq_some_iff.1 HX18.out).1 (by have := HN.out; omega)).trans HX18.out)
        have HY19 := Lib.hid ((h2.block _ (Array.getElem?_eq_some_iff.1 HY18.out).1 (by have := HN2.out; omega)).trans HY18.out)
        have HL19 := Lib.hid (Nat.le_trans HL18.out h2.size)
        clear h1 h2
        have HVf20 := Lib.hid (HVf19.out.far (w' := setLe w19 w3.heap.size 7 [.int .i64 lim]) (by rw [setLe_size]; exact Nat.le_refl _) (fun b hb hlt => setLe_other hb.2 _ _ _))
        have HVw20 := Lib.hid (HVw19.out.far (w' := setLe w19 w3.heap.size 7 [.int .i64 lim]) (by rw [setLe_size]; exact Nat.le_refl _) (fun b hb hlt => setLe_other hb.2 _ _ _))
        have HVg20 := Lib.hid (HVg19.out.far (w' := setLe w19 w3.heap.size 7 [.int .i64 lim]) (by rw [setLe_size]; exact Nat.le_refl _) (fun b hb hlt => setLe_other hb.2 _ _ _))
        have HVo20 := Lib.hid (HVo19.out.far (w' := setLe w19 w3.heap.size 7 [.int .i64 lim]) (by rw [setLe_size]; exact Nat.le_refl _) (fun b hb hlt => setLe_other hb.2 _ _ _))
        have HS20 := Lib.hid (HS19.out.setLe (R := w3.heap.size) HN2.out 7 [.int .i64 lim])
        have HT20 := Lib.hid (HT19.out.setLe (R := w3.heap.size) (Nat.le_of_lt HN2.out) (Nat.le_of_lt HW2.out) 7 [.int .i64 lim])
        have HX20 := Lib.hid ((setLe_other (B := w3.heap.size) (M := w.heap.size) (by have := HW2.out; omega) [.int .i64 lim] 7 w19).trans HX19.out)
        have HY20 := Lib.hid (show (setLe w19 w3.heap.size 7 [.int .i64 lim]).heap[w3.heap.size]? = some (.cells #[.bool d, .bool true, .slice none 0 0, .slice af lf.length cf, .slice aw lw.length cw, .slice ag lg.length cg, .slice ao lo.length co, .int .i64 lim] 43 (0, 0)) from Go.heap_setCell_same w19 w3.heap.size 7 _ _ _ HY19.out)
        have HL20 := Lib.hid (show w1.heap.size ≤ (setLe w19 w3.heap.size 7 [.int .i64 lim]).heap.size by rw [setLe_size]; exact HL19.out)
        obtain ⟨l0, l1, l2, l3, l4, l5, l6, l7, lz, lN⟩ := rowc_qu HY19.out
        go_upto_region 15 with (fail)
        generalize hwa : setLe w19 w3.heap.size 7 [.int .i64 lim] = w20 at *
        have hwb : (w19.setCell ⟨w3.heap.size, 7, none⟩ (.int .i64 lim)) = w20 := hwa
        rw [hwb]
        clear hwa hwb l0 l1 l2 l3 l4 l5 l6 l7 lz lN
        have HWf := Lib.hid ((HVf20.out.far (w' := setLe w20 w.heap.size 0 [.bool d, .bool true, .slice none 0 0, .slice af lf.length cf, .slice aw lw.length cw, .slice ag lg.length cg, .slice ao lo.length co, .int .i64 lim]) (by rw [setLe_size]; exact Nat.le_refl _) (fun b hb hlt => setLe_other (by have := HW1.out; have := hb.1; omega) _ _ _)).mono (Q' := fun b => w.heap.size ≤ b) (fun b hb _ => by have := HW1.out; have := hb.1; omega))
        have HWw := Lib.hid ((HVw20.out.far (w' := setLe w20 w.heap.size 0 [.bool d, .bool true, .slice none 0 0, .slice af lf.length cf, .slice aw lw.length cw, .slice ag lg.length cg, .slice ao lo.length co, .int .i64 lim]) (by rw [setLe_size]; exact Nat.le_refl _) (fun b hb hlt => setLe_other (by have := HW1.out; have := hb.1; omega) _ _ _)).mono (Q' := fun b => w.heap.size ≤ b) (fun b hb _ => by have := HW1.out; have := hb.1; omega))
        have HWg := Lib.hid ((HVg20.out.far (w' := setLe w20 w.heap.size 0 [.bool d, .bool true, .slice none 0 0, .slice af lf.length cf, .slice aw lw.length cw, .slice ag lg.length cg, .slice ao lo.length co, .int .i64 lim]) (by rw [setLe_size]; exact Nat.le_refl _) (fun b hb hlt => setLe_other (by have := HW1.out; have := hb.1; omega) _ _ _)).mono (Q' := fun b => w.heap.size ≤ b) (fun b hb _ => by have := HW1.out; have := hb.1; omega))
        have HWo := Lib.hid ((HVo20.out.far (w' := setLe w20 w.heap.size 0 [.bool d, .bool true, .slice none 0 0, .slice af lf.length cf, .slice aw lw.length cw, .slice ag lg.length cg, .slice ao lo.length co, .int .i64 lim]) (by rw [setLe_size]; exact Nat.le_refl _) (fun b hb hlt => setLe_other (by have := HW1.out; have := hb.1; omega) _ _ _)).mono (Q' := fun b => w.heap.size ≤ b) (fun b hb _ => by have := HW1.out; have := hb.1; omega))
        have HR := Lib.hid (show queryR ws s0 = (⟨d, true, [], lf, lw, lg, lo, lim⟩, s13) from HIt.out)
        obtain ⟨l0, l1, l2, l3, l4, l5, l6, l7, lz, lN⟩ := rowc_qu HY20.out
        obtain ⟨g0, g1, g2, g3, g4, g5, g6, g7, gz, gN⟩ := rowc_qu HX20.out
        have HFin := Lib.hid (wbox_qu HX20.out (.bool d) (.bool true) (.slice none 0 0) (.slice af lf.length cf) (.slice aw lw.length cw) (.slice ag lg.length cg) (.slice ao lo.length co) (.int .i64 lim))
        have HF1 := Lib.hid (HS20.out.setLe (R := w.heap.size) HN.out 0 [.bool d, .bool true, .slice none 0 0, .slice af lf.length cf, .slice aw lw.length cw, .slice ag lg.length cg, .slice ao lo.length co, .int .i64 lim])
        have HF2 := Lib.hid (HT20.out.setLe (R := w.heap.size) (Nat.le_of_lt HN.out) (Nat.le_refl _) 0 [.bool d, .bool true, .slice none 0 0, .slice af lf.length cf, .slice aw lw.length cw, .slice ag lg.length cg, .slice ao lo.length co, .int .i64 lim])
        go_wp2
        refine bodyPost_ret (results_qu rfl _ _ w.heap.size _ _ _ _ _ _ _ _ rfl HFin.out) rfl ?_
        rw [HR.out]
        exact ⟨⟨_, rfl, _, rfl, _, _, _, _, _, rfl, SlV.nil _ _ _, HWf.out, HWw.out, HWg.out, HWo.out, HNi.out⟩, HF1.out, HF2.out⟩
end Go.Proofs.YtknhphcfcpjhiaaGreatDoor
