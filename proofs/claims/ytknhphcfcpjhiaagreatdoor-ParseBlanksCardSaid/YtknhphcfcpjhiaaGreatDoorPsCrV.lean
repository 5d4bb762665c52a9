/- The package's reader of statements: create. Written by genpct.py. -/
import Derived.Test.YtknhphcfcpjhiaaGreatDoorPsLSt
import Derived.Test.YtknhphcfcpjhiaaGreatDoorPsQ
import Derived.Test.YtknhphcfcpjhiaaGreatDoorPsDrop
namespace Go.Proofs.YtknhphcfcpjhiaaGreatDoor
open Go.RowKit
set_option linter.unusedVariables false
set_option linter.unusedSimpArgs false
set_option maxRecDepth 100000
set_option maxHeartbeats 6400000 in
theorem pbrack_st (N : Nat) (w : World) (b off : Nat) (wn wc : Nat) (ws : List Wd) (s : PS) (h : RdS N w (some ⟨b, off, none⟩) wn wc ws s) (hr : RCx b off wn wc ws) :
    Calls Tryz.prog 103 #[.pointer (some ⟨N, 0, none⟩), .func (Fn.func 52) #[.pointer (some ⟨N, 0, none⟩)] #[]] w (PsV (SlV stS) N w (some ⟨b, off, none⟩) wn wc ws (brackR ws (nameR ws) s)) := by
  have HRc := Lib.hid hr
  have HN := Lib.hid h.low
  have HE := Lib.hid (show brackR ws (nameR ws) s = ((listR ws (nameR ws) (mustG ws [40] s)).1, mustG ws [41] (listR ws (nameR ws) (mustG ws [40] s)).2) from rfl)
  have HM1 := Lib.hid (mustSign_any [40] N w _ wn wc ws s h)
  rw [show bs [40] = ⟨#[40]⟩ from rfl] at HM1
  clear h hr
  go_enter Tryz.func103, Tryz.ntmps103
  go_wp2_with (go_at_call 104; refine HM1.out.mono ?_)
  rintro e w1 ⟨rfl, h1, h2⟩
  obtain ⟨s1, hs1⟩ : ∃ s1, s1 = mustG ws [40] s := ⟨_, rfl⟩
  rw [← hs1] at h1 HE
  clear hs1
  have HL := Lib.hid (plist_st N w1 b off wn wc ws s1 h1 HRc.out)
  have HT1 := Lib.hid h2
  clear h1 h2 HM1
  go_wp2_with (go_at_call 145; refine HL.out.mono ?_)
  rintro e w2 ⟨⟨v, rfl, hv⟩, h1, h2⟩
  obtain ⟨q, hq⟩ : ∃ q, q = listR ws (nameR ws) s1 := ⟨_, rfl⟩
  rw [← hq] at hv h1 HE
  clear hq HL
  obtain ⟨l, s2⟩ := q
  dsimp only at hv h1 HE
  have HM2 := Lib.hid (mustSign_any [41] N w2 _ wn wc ws s2 h1)
  rw [show bs [41] = ⟨#[41]⟩ from rfl] at HM2
  have HV := Lib.hid (hv.mono (Q' := fun b => w.heap.size ≤ b) (fun b hb _ => Nat.le_trans HT1.out.size hb))
  have HT2 := Lib.hid (HT1.out.trans h2)
  clear hv h1 h2
  go_wp2_with (go_at_call 104; refine HM2.out.mono ?_)
  rintro e w3 ⟨rfl, h1, h2⟩
  have HV3 := Lib.hid (HV.out.rto h2 HN.out)
  have HS3 := Lib.hid h1
  have HT3 := Lib.hid (HT2.out.trans h2)
  clear h1 h2
  go_wp2
  go_ret
  rw [HE.out]
  exact ⟨⟨_, rfl, HV3.out⟩, HS3.out, HT3.out⟩
end Go.Proofs.YtknhphcfcpjhiaaGreatDoor
namespace Go.Proofs.YtknhphcfcpjhiaaGreatDoor
open Go.RowKit
set_option linter.unusedVariables false
set_option linter.unusedSimpArgs false
set_option maxRecDepth 100000
def QuV (w : World) (Q : Nat → Prop) (cs : List Value) (q : QT) : Prop := quS.R w Q cs q
theorem QuV.far {w w' : World} {Q : Nat → Prop} {cs : List Value} {q : QT} (h : QuV w Q cs q) (hs : w.heap.size ≤ w'.heap.size) (hb : ∀ b, Q b → b < w.heap.size → w'.heap[b]? = w.heap[b]?) : QuV w' Q cs q := quS.far h hs hb
theorem QuV.mono {w : World} {Q Q' : Nat → Prop} {cs : List Value} {q : QT} (h : QuV w Q cs q) (hq : ∀ b, Q b → b < w.heap.size → Q' b) : QuV w Q' cs q := quS.mono h hq
def cT2 (ws : List Wd) (nm : ByteArray) (r : List Co × PS) : ST × PS := ({ zST with kind := 1, name := nm, cols := r.1 }, r.2)
def cT (ws : List Wd) (r : ByteArray × PS) : ST × PS := cT2 ws r.1 (brackR ws (columnR ws) r.2)
def cV2 (ws : List Wd) (nm : ByteArray) (r : QT × PS) : ST × PS := ({ zST with kind := 3, name := nm, q := r.1 }, r.2)
def cV1 (ws : List Wd) (r : ByteArray × PS) : ST × PS := cV2 ws r.1 (queryR ws (mustK ws [kAS, kSELECT] r.2))
def cV (ws : List Wd) (s : PS) : ST × PS := cV1 ws (nameR ws (mustK ws [kVIEW] s))
def cI3 (ws : List Wd) (u : Bool) (nm on : ByteArray) (r : List ByteArray × PS) : ST × PS := ({ zST with kind := 2, uniq := u, name := nm, on := on, keys := r.1 }, r.2)
def cI2 (ws : List Wd) (u : Bool) (nm : ByteArray) (r : ByteArray × PS) : ST × PS := cI3 ws u nm r.1 (brackR ws (nameR ws) r.2)
def cI1 (ws : List Wd) (u : Bool) (r : ByteArray × PS) : ST × PS := cI2 ws u r.1 (nameR ws (mustK ws [kON] r.2))
def cI (ws : List Wd) (r : Bool × PS) : ST × PS := cI1 ws r.1 (nameR ws (mustK ws [kINDEX] r.2))
theorem createR_eq (ws : List Wd) (s : PS) : createR ws s = (if (takeR ws 1 kTABLE s).1 = true then cT ws (nameR ws (takeR ws 1 kTABLE s).2) else if (takeR ws 1 kMATERIALIZED (takeR ws 1 kTABLE s).2).1 = true then cV ws (takeR ws 1 kMATERIALIZED (takeR ws 1 kTABLE s).2).2 else cI ws (takeR ws 1 kUNIQUE (takeR ws 1 kMATERIALIZED (takeR ws 1 kTABLE s).2).2)) := rfl
end Go.Proofs.YtknhphcfcpjhiaaGreatDoor
namespace Go.Proofs.YtknhphcfcpjhiaaGreatDoor
open Go.RowKit
set_option linter.unusedVariables false
set_option linter.unusedSimpArgs false
set_option maxRecDepth 100000
set_option maxHeartbeats 6400000 in
theorem pcreate_t (N : Nat) (w : World) (b off : Nat) (wn wc : Nat) (ws : List Wd) (s0 : PS) (h : RdS N w (some ⟨b, off, none⟩) wn wc ws s0) (hr : RCx b off wn wc ws) (ht : (takeR ws 1 kTABLE s0).1 = true) :
    Calls Tryz.prog 49 #[.pointer (some ⟨N, 0, none⟩)] w (PsV (AgV smS) N w (some ⟨b, off, none⟩) wn wc ws (createR ws s0)) := by
  have HRc := Lib.hid hr
  have HN := Lib.hid h.low
  have HIt := Lib.hid (show createR ws s0 = (if (takeR ws 1 kTABLE s0).1 = true then cT ws (nameR ws (takeR ws 1 kTABLE s0).2) else if (takeR ws 1 kMATERIALIZED (takeR ws 1 kTABLE s0).2).1 = true then cV ws (takeR ws 1 kMATERIALIZED (takeR ws 1 kTABLE s0).2).2 else cI ws (takeR ws 1 kUNIQUE (takeR ws 1 kMATERIALIZED (takeR ws 1 kTABLE s0).2).2)) from createR_eq ws s0)
  have HB := Lib.hid (bel0 (.cells #[.int .i64 0, .string ⟨#[]⟩, .string ⟨#[]⟩, .bool false, .slice none 0 0, .slice none 0 0, .slice none 0 0, .slice none 0 0, .slice none 0 0, .bool false, .bool false, .slice none 0 0, .slice none 0 0, .slice none 0 0, .slice none 0 0, .slice none 0 0, .int .i64 0] 45) (Below.refl w.heap.size w))
  have HX1 := Lib.hid (Go.heap_alloc_new w (.cells #[.int .i64 0, .string ⟨#[]⟩, .string ⟨#[]⟩, .bool false, .slice none 0 0, .slice none 0 0, .slice none 0 0, .slice none 0 0, .slice none 0 0, .bool false, .bool false, .slice none 0 0, .slice none 0 0, .slice none 0 0, .slice none 0 0, .slice none 0 0, .int .i64 0] 45 (0, 0)))
  have HS1 := Lib.hid (h.below HB.out)
  have HT1 := Lib.hid (RTo.of_below (N := N) HB.out (Nat.le_of_lt h.low))
  have HW1 := Lib.hid (show w.heap.size < (w.alloc (.cells #[.int .i64 0, .string ⟨#[]⟩, .string ⟨#[]⟩, .bool false, .slice none 0 0, .slice none 0 0, .slice none 0 0, .slice none 0 0, .slice none 0 0, .bool false, .bool false, .slice none 0 0, .slice none 0 0, .slice none 0 0, .slice none 0 0, .slice none 0 0, .int .i64 0] 45)).heap.size from (Array.getElem?_eq_some_iff.1 HX1.out).1)
  have HHT := Lib.hid ht
  clear h hr ht
  go_enter Tryz.func49, Tryz.ntmps49
  go_upto_region 1 with (fail)
  generalize w.alloc (.cells #[.int .i64 0, .string ⟨#[]⟩, .string ⟨#[]⟩, .bool false, .slice none 0 0, .slice none 0 0, .slice none 0 0, .slice none 0 0, .slice none 0 0, .bool false, .bool false, .slice none 0 0, .slice none 0 0, .slice none 0 0, .slice none 0 0, .slice none 0 0, .int .i64 0] 45) = w1 at *
  have HL1 := Lib.hid (Nat.le_refl w1.heap.size)
  have HKw := Lib.hid (pkeyword_any kTABLE N w1 _ wn wc ws s0 HS1.out)
  obtain ⟨r, hrr⟩ : ∃ r, r = takeR ws 1 kTABLE s0 := ⟨_, rfl⟩
  rw [← hrr] at HKw HIt HHT
  clear hrr
  obtain ⟨t, s1⟩ := r
  dsimp only at HKw HIt HHT
  obtain rfl : t = true := HHT.out
  clear HHT
  rw [show bs kTABLE = ⟨#[84, 65, 66, 76, 69]⟩ from rfl] at HKw
  go_wp2_with fail
  refine HKw.out.mono ?_
  rintro e w2 ⟨rfl, h1, h2⟩
  have HS2 := Lib.hid h1
  have HT2 := Lib.hid (HT1.out.trans h2)
  have HX2 := Lib.hid ((h2.block _ (Array.getElem?_eq_some_iff.1 HX1.out).1 (by have := HN.out; omega)).trans HX1.out)
  have HL2 := Lib.hid (Nat.le_trans HL1.out h2.size)
  clear h1 h2
  replace HIt := Lib.hid (show createR ws s0 = cT ws (nameR ws s1) from HIt.out)
  have HNs := Lib.hid (nameR_le ws s1)
  have HNm := Lib.hid (pname_any2 N w2 _ wn wc ws s1 HS2.out HRc.out.z)
  obtain ⟨q, hq⟩ : ∃ q, q = nameR ws s1 := ⟨_, rfl⟩
  rw [← hq] at HIt HNm HNs
  clear hq
  obtain ⟨nm, s2⟩ := q
  dsimp only at HIt HNm HNs
  have HNsnm := Lib.hid HNs.out
  go_wp2_with fail
  refine HNm.out.mono ?_
  rintro e w3 ⟨rfl, h1, h2⟩
  have HS3 := Lib.hid h1
  have HT3 := Lib.hid (HT2.out.trans h2)
  have HX3 := Lib.hid ((h2.block _ (Array.getElem?_eq_some_iff.1 HX2.out).1 (by have := HN.out; omega)).trans HX2.out)
  have HL3 := Lib.hid (Nat.le_trans HL2.out h2.size)
  clear h1 h2
  replace HIt := Lib.hid (show createR ws s0 = cT2 ws nm (brackR ws (columnR ws) s2) from HIt.out)
  have HCl := Lib.hid (pbrack_co N w3 b off wn wc ws s2 HS3.out HRc.out)
  obtain ⟨q, hq⟩ : ∃ q, q = brackR ws (columnR ws) s2 := ⟨_, rfl⟩
  rw [← hq] at HIt HCl
  clear hq
  obtain ⟨lc, s3⟩ := q
  try dsimp only at HIt HCl
  go_wp2_with fail
  refine HCl.out.mono ?_
  rintro e w4 ⟨⟨_, rfl, ac, cc, rfl, hv⟩, h1, h2⟩
  replace hv : SlV coS w4 (fun b => w3.heap.size ≤ b) (.slice ac lc.length cc) lc := ⟨ac, cc, rfl, hv⟩
  have HS4 := Lib.hid h1
  have HT4 := Lib.hid (HT3.out.trans h2)
  have HX4 := Lib.hid ((h2.block _ (Array.getElem?_eq_some_iff.1 HX3.out).1 (by have := HN.out; omega)).trans HX3.out)
  have HL4 := Lib.hid (Nat.le_trans HL3.out h2.size)
  have HVc4 := Lib.hid (hv.mono (Q' := fun b => w1.heap.size ≤ b) (fun b hb _ => Nat.le_trans HL3.out hb))
  clear hv h1 h2 HCl
  have HWc := Lib.hid ((HVc4.out.far (w' := setLe w4 w.heap.size 0 [.int .i64 1, .string nm, .string ⟨#[]⟩, .bool false, .slice ac lc.length cc, .slice none 0 0, .slice none 0 0, .slice none 0 0, .slice none 0 0, .bool false, .bool false, .slice none 0 0, .slice none 0 0, .slice none 0 0, .slice none 0 0, .slice none 0 0, .int .i64 0]) (by rw [setLe_size]; exact Nat.le_refl _) (fun b hb hlt => setLe_other (by have := HW1.out; have := hb; omega) _ _ _)).mono (Q' := fun b => w.heap.size ≤ b) (fun b hb _ => by have := HW1.out; have := hb; omega))
  have HR := Lib.hid (show createR ws s0 = ({ zST with kind := 1, name := nm, cols := lc }, s3) from HIt.out)
  have HFin := Lib.hid (wbox_sm HX4.out (.int .i64 1) (.string nm) (.string ⟨#[]⟩) (.bool false) (.slice ac lc.length cc) (.slice none 0 0) (.slice none 0 0) (.slice none 0 0) (.slice none 0 0) (.bool false) (.bool false) (.slice none 0 0) (.slice none 0 0) (.slice none 0 0) (.slice none 0 0) (.slice none 0 0) (.int .i64 0))
  have HF1 := Lib.hid (HS4.out.setLe (R := w.heap.size) HN.out 0 [.int .i64 1, .string nm, .string ⟨#[]⟩, .bool false, .slice ac lc.length cc, .slice none 0 0, .slice none 0 0, .slice none 0 0, .slice none 0 0, .bool false, .bool false, .slice none 0 0, .slice none 0 0, .slice none 0 0, .slice none 0 0, .slice none 0 0, .int .i64 0])
  have HF2 := Lib.hid (HT4.out.setLe (R := w.heap.size) (Nat.le_of_lt HN.out) (Nat.le_refl _) 0 [.int .i64 1, .string nm, .string ⟨#[]⟩, .bool false, .slice ac lc.length cc, .slice none 0 0, .slice none 0 0, .slice none 0 0, .slice none 0 0, .bool false, .bool false, .slice none 0 0, .slice none 0 0, .slice none 0 0, .slice none 0 0, .slice none 0 0, .int .i64 0])
  rename_i K hK
  dsimp only
  refine hK _ _ ?_
  refine wpl_lit rfl _ _ rfl _ rfl [.int .i64 1, .string nm, .string ⟨#[]⟩, .bool false, .slice ac lc.length cc, .slice none 0 0, .slice none 0 0, .slice none 0 0, .slice none 0 0, .bool false, .bool false, .slice none 0 0, .slice none 0 0, .slice none 0 0, .slice none 0 0, .slice none 0 0, .int .i64 0] (by kernel_rfl) rfl _ _ _ rfl _ rfl w.heap.size rfl rfl _ _ HX4.out (by kernel_rfl) rfl rfl ?_
  refine wpList_nil ?_
  go_wp2
  refine bodyPost_ret (results_sm rfl _ _ w.heap.size _ _ _ _ _ _ _ _ _ _ _ _ _ _ _ _ _ rfl HFin.out) rfl ?_
  rw [HR.out]
  exact ⟨⟨_, rfl, _, rfl, _, _, _, _, _, _, rfl, HWc.out, SlV.nil _ _ _, SlV.nil _ _ _, SlV.nil _ _ _, LeV.nil _ _, zQ_lies _ _, rfl, HNsnm.out, eB_le⟩, HF1.out, HF2.out⟩
end Go.Proofs.YtknhphcfcpjhiaaGreatDoor
namespace Go.Proofs.YtknhphcfcpjhiaaGreatDoor
open Go.RowKit
set_option linter.unusedVariables false
set_option linter.unusedSimpArgs false
set_option maxRecDepth 100000
set_option maxHeartbeats 6400000 in
theorem pcreate_v (N : Nat) (w : World) (b off : Nat) (wn wc : Nat) (ws : List Wd) (s0 : PS) (h : RdS N w (some ⟨b, off, none⟩) wn wc ws s0) (hr : RCx b off wn wc ws) (ht : (takeR ws 1 kTABLE s0).1 = false) (hm : (takeR ws 1 kMATERIALIZED (takeR ws 1 kTABLE s0).2).1 = true) :
    Calls Tryz.prog 49 #[.pointer (some ⟨N, 0, none⟩)] w (PsV (AgV smS) N w (some ⟨b, off, none⟩) wn wc ws (createR ws s0)) := by
  have HRc := Lib.hid hr
  have HN := Lib.hid h.low
  have HIt := Lib.hid (show createR ws s0 = (if (takeR ws 1 kTABLE s0).1 = true then cT ws (nameR ws (takeR ws 1 kTABLE s0).2) else if (takeR ws 1 kMATERIALIZED (takeR ws 1 kTABLE s0).2).1 = true then cV ws (takeR ws 1 kMATERIALIZED (takeR ws 1 kTABLE s0).2).2 else cI ws (takeR ws 1 kUNIQUE (takeR ws 1 kMATERIALIZED (takeR ws 1 kTABLE s0).2).2)) from createR_eq ws s0)
  have HB := Lib.hid (bel0 (.cells #[.int .i64 0, .string ⟨#[]⟩, .string ⟨#[]⟩, .bool false, .slice none 0 0, .slice none 0 0, .slice none 0 0, .slice none 0 0, .slice none 0 0, .bool false, .bool false, .slice none 0 0, .slice none 0 0, .slice none 0 0, .slice none 0 0, .slice none 0 0, .int .i64 0] 45) (Below.refl w.heap.size w))
  have HX1 := Lib.hid (Go.heap_alloc_new w (.cells #[.int .i64 0, .string ⟨#[]⟩, .string ⟨#[]⟩, .bool false, .slice none 0 0, .slice none 0 0, .slice none 0 0, .slice none 0 0, .slice none 0 0, .bool false, .bool false, .slice none 0 0, .slice none 0 0, .slice none 0 0, .slice none 0 0, .slice none 0 0, .int .i64 0] 45 (0, 0)))
  have HS1 := Lib.hid (h.below HB.out)
  have HT1 := Lib.hid (RTo.of_below (N := N) HB.out (Nat.le_of_lt h.low))
  have HW1 := Lib.hid (show w.heap.size < (w.alloc (.cells #[.int .i64 0, .string ⟨#[]⟩, .string ⟨#[]⟩, .bool false, .slice none 0 0, .slice none 0 0, .slice none 0 0, .slice none 0 0, .slice none 0 0, .bool false, .bool false, .slice none 0 0, .slice none 0 0, .slice none 0 0, .slice none 0 0, .slice none 0 0, .int .i64 0] 45)).heap.size from (Array.getElem?_eq_some_iff.1 HX1.out).1)
  have HHT := Lib.hid ht
  have HHM := Lib.hid hm
  clear h hr ht hm
  go_enter Tryz.func49, Tryz.ntmps49
  go_upto_region 1 with (fail)
  generalize w.alloc (.cells #[.int .i64 0, .string ⟨#[]⟩, .string ⟨#[]⟩, .bool false, .slice none 0 0, .slice none 0 0, .slice none 0 0, .slice none 0 0, .slice none 0 0, .bool false, .bool false, .slice none 0 0, .slice none 0 0, .slice none 0 0, .slice none 0 0, .slice none 0 0, .int .i64 0] 45) = w1 at *
  have HL1 := Lib.hid (Nat.le_refl w1.heap.size)
  have HKw := Lib.hid (pkeyword_any kTABLE N w1 _ wn wc ws s0 HS1.out)
  obtain ⟨r, hrr⟩ : ∃ r, r = takeR ws 1 kTABLE s0 := ⟨_, rfl⟩
  rw [← hrr] at HKw HIt HHT HHM
  clear hrr
  obtain ⟨t, s1⟩ := r
  dsimp only at HKw HIt HHT HHM
  obtain rfl : t = false := HHT.out
  clear HHT
  rw [show bs kTABLE = ⟨#[84, 65, 66, 76, 69]⟩ from rfl] at HKw
  go_wp2_with fail
  refine HKw.out.mono ?_
  rintro e w2 ⟨rfl, h1, h2⟩
  have HS2 := Lib.hid h1
  have HT2 := Lib.hid (HT1.out.trans h2)
  have HX2 := Lib.hid ((h2.block _ (Array.getElem?_eq_some_iff.1 HX1.out).1 (by have := HN.out; omega)).trans HX1.out)
  have HL2 := Lib.hid (Nat.le_trans HL1.out h2.size)
  clear h1 h2
  replace HIt := Lib.hid (show createR ws s0 = (if (takeR ws 1 kMATERIALIZED s1).1 = true then cV ws (takeR ws 1 kMATERIALIZED s1).2 else cI ws (takeR ws 1 kUNIQUE (takeR ws 1 kMATERIALIZED s1).2)) from HIt.out)
  have HKw := Lib.hid (pkeyword_any kMATERIALIZED N w2 _ wn wc ws s1 HS2.out)
  obtain ⟨r, hrr⟩ : ∃ r, r = takeR ws 1 kMATERIALIZED s1 := ⟨_, rfl⟩
  rw [← hrr] at HKw HIt HHM
  clear hrr
  obtain ⟨t, s2⟩ := r
  dsimp only at HKw HIt HHM
  obtain rfl : t = true := HHM.out
  clear HHM
  rw [show bs kMATERIALIZED = ⟨#[77, 65, 84, 69, 82, 73, 65, 76, 73, 90, 69, 68]⟩ from rfl] at HKw
  go_wp2_with fail
  refine HKw.out.mono ?_
  rintro e w3 ⟨rfl, h1, h2⟩
  have HS3 := Lib.hid h1
  have HT3 := Lib.hid (HT2.out.trans h2)
  have HX3 := Lib.hid ((h2.block _ (Array.getElem?_eq_some_iff.1 HX2.out).1 (by have := HN.out; omega)).trans HX2.out)
  have HL3 := Lib.hid (Nat.le_trans HL2.out h2.size)
  clear h1 h2
  replace HIt := Lib.hid (show createR ws s0 = cV1 ws (nameR ws (mustK ws [kVIEW] s2)) from HIt.out)
  have HBk := Lib.hid (bel0 (.cells #[.string ⟨#[86, 73, 69, 87]⟩] 9) (Below.refl w3.heap.size w3))
  have HKx := Lib.hid (Go.heap_alloc_new w3 (.cells #[.string ⟨#[86, 73, 69, 87]⟩] 9 (0, 0)))
  have HMu := Lib.hid (must_any [kVIEW] (by decide) N (w3.alloc (.cells #[.string ⟨#[86, 73, 69, 87]⟩] 9)) _ wn wc ws s2 (HS3.out.below HBk.out) (some ⟨w3.heap.size, 0, none⟩) 1 ⟨w3.heap.size, 0, rfl, by have := HS3.out.low; omega, (Array.getElem?_eq_some_iff.1 HKx.out).1, fun q hq => by
    have h0 : q = 0 := by simpa using hq
    subst h0
    exact cell_of_row _ _ 0 _ _ _ HKx.out⟩)
  obtain ⟨s3, hsm⟩ : ∃ q, q = mustK ws [kVIEW] s2 := ⟨_, rfl⟩
  rw [← hsm] at HMu HIt
  clear hsm
  have h2k := RTo.of_below (N := N) HBk.out (Nat.le_of_lt HS3.out.low)
  go_wp2_with fail
  refine HMu.out.mono ?_
  rintro e w4 ⟨rfl, h1, h2x⟩
  have h2 := h2k.trans h2x
  have HS4 := Lib.hid h1
  have HT4 := Lib.hid (HT3.out.trans h2)
  have HX4 := Lib.hid ((h2.block _ (Array.getElem?_eq_some_iff.1 HX3.out).1 (by have := HN.out; omega)).trans HX3.out)
  have HL4 := Lib.hid (Nat.le_trans HL3.out h2.size)
  clear h1 h2 h2k h2x
  have HNs := Lib.hid (nameR_le ws s3)
  have HNm := Lib.hid (pname_any2 N w4 _ wn wc ws s3 HS4.out HRc.out.z)
  obtain ⟨q, hq⟩ : ∃ q, q = nameR ws s3 := ⟨_, rfl⟩
  rw [← hq] at HIt HNm HNs
  clear hq
  obtain ⟨nm, s4⟩ := q
  dsimp only at HIt HNm HNs
  have HNsnm := Lib.hid HNs.out
  go_wp2_with fail
  refine HNm.out.mono ?_
  rintro e w5 ⟨rfl, h1, h2⟩
  have HS5 := Lib.hid h1
  have HT5 := Lib.hid (HT4.out.trans h2)
  have HX5 := Lib.hid ((h2.block _ (Array.getElem?_eq_some_iff.1 HX4.out).1 (by have := HN.out; omega)).trans HX4.out)
  have HL5 := Lib.hid (Nat.le_trans HL4.out h2.size)
  clear h1 h2
  rename_i K hK
  dsimp only
  refine hK _ _ ?_
  refine wpl_box rfl _ _ rfl _ rfl [.int .i64 3, .string nm, .string ⟨#[]⟩, .bool false, .slice none 0 0, .slice none 0 0, .slice none 0 0, .slice none 0 0, .slice none 0 0, .bool false, .bool false, .slice none 0 0, .slice none 0 0, .slice none 0 0, .slice none 0 0, .slice none 0 0, .int .i64 0] (by kernel_rfl) rfl _ rfl _ rfl #[.int .i64 0, .string ⟨#[]⟩, .string ⟨#[]⟩, .bool false, .slice none 0 0, .slice none 0 0, .slice none 0 0, .slice none 0 0, .slice none 0 0, .bool false, .bool false, .slice none 0 0, .slice none 0 0, .slice none 0 0, .slice none 0 0, .slice none 0 0, .int .i64 0] (by kernel_rfl) rfl _ _ _ rfl _ rfl rfl rfl (by kernel_rfl) rfl rfl ?_
  refine wpList_nil ?_
  go_upto_region 6 with (fail)
  have HBa := Lib.hid (bel0 (.cells #[.int .i64 3, .string nm, .string ⟨#[]⟩, .bool false, .slice none 0 0, .slice none 0 0, .slice none 0 0, .slice none 0 0, .slice none 0 0, .bool false, .bool false, .slice none 0 0, .slice none 0 0, .slice none 0 0, .slice none 0 0, .slice none 0 0, .int .i64 0] 45) (Below.refl w5.heap.size w5))
  have HY6 := Lib.hid (Go.heap_alloc_new w5 (.cells #[.int .i64 3, .string nm, .string ⟨#[]⟩, .bool false, .slice none 0 0, .slice none 0 0, .slice none 0 0, .slice none 0 0, .slice none 0 0, .bool false, .bool false, .slice none 0 0, .slice none 0 0, .slice none 0 0, .slice none 0 0, .slice none 0 0, .int .i64 0] 45 (0, 0)))
  have HS6 := Lib.hid (HS5.out.below HBa.out)
  have HT6 := Lib.hid (HT5.out.trans (RTo.of_below HBa.out (Nat.le_of_lt HS5.out.low)))
  have HX6 := Lib.hid ((HBa.out.block _ (Array.getElem?_eq_some_iff.1 HX5.out).1).trans HX5.out)
  have HW2 := Lib.hid (show w.heap.size < w5.heap.size from (Array.getElem?_eq_some_iff.1 HX5.out).1)
  have HN2 := Lib.hid (show N < w5.heap.size from HS5.out.low)
  have HL6 := Lib.hid (Nat.le_trans HL5.out HBa.out.size)
  generalize w5.alloc (.cells #[.int .i64 3, .string nm, .string ⟨#[]⟩, .bool false, .slice none 0 0, .slice none 0 0, .slice none 0 0, .slice none 0 0, .slice none 0 0, .bool false, .bool false, .slice none 0 0, .slice none 0 0, .slice none 0 0, .slice none 0 0, .slice none 0 0, .int .i64 0] 45) = w6 at *
  replace HIt := Lib.hid (show createR ws s0 = cV2 ws nm (queryR ws (mustK ws [kAS, kSELECT] s4)) from HIt.out)
  have HBk := Lib.hid (bel0 (.cells #[.string ⟨#[65, 83]⟩, .string ⟨#[83, 69, 76, 69, 67, 84]⟩] 9) (Below.refl w6.heap.size w6))
  have HKx := Lib.hid (Go.heap_alloc_new w6 (.cells #[.string ⟨#[65, 83]⟩, .string ⟨#[83, 69, 76, 69, 67, 84]⟩] 9 (0, 0)))
  have HMu := Lib.hid (must_any [kAS, kSELECT] (by decide) N (w6.alloc (.cells #[.string ⟨#[65, 83]⟩, .string ⟨#[83, 69, 76, 69, 67, 84]⟩] 9)) _ wn wc ws s4 (HS6.out.below HBk.out) (some ⟨w6.heap.size, 0, none⟩) 2 ⟨w6.heap.size, 0, rfl, by have := HS6.out.low; omega, (Array.getElem?_eq_some_iff.1 HKx.out).1, fun q hq => by
    have h0 : q = 0 ∨ q = 1 := by simp at hq; omega
    rcases h0 with rfl | rfl
    · exact cell_of_row _ _ 0 _ _ _ HKx.out
    · exact cell_of_row _ _ 1 _ _ _ HKx.out⟩)
  obtain ⟨s5, hsm⟩ : ∃ q, q = mustK ws [kAS, kSELECT] s4 := ⟨_, rfl⟩
  rw [← hsm] at HMu HIt
  clear hsm
  have h2k := RTo.of_below (N := N) HBk.out (Nat.le_of_lt HS6.out.low)
  go_wp2_with fail
  refine HMu.out.mono ?_
  rintro e w7 ⟨rfl, h1, h2x⟩
  have h2 := h2k.trans h2x
  have HS7 := Lib.hid h1
  have HT7 := Lib.hid (HT6.out.trans h2)
  have HX7 := Lib.hid ((h2.block _ (Array.getElem?_eq_some_iff.1 HX6.out).1 (by have := HN.out; omega)).trans HX6.out)
  have HY7 := Lib.hid ((h2.block _ (Array.getElem?_eq_some_iff.1 HY6.out).1 (by have := HN2.out; omega)).trans HY6.out)
  have HL7 := Lib.hid (Nat.le_trans HL6.out h2.size)
  clear h1 h2 h2k h2x
  have HCl := Lib.hid (pquery_any N w7 b off wn wc ws s5 HS7.out HRc.out)
  obtain ⟨q, hq⟩ : ∃ q, q = queryR ws s5 := ⟨_, rfl⟩
  rw [← hq] at HIt HCl
  clear hq
  obtain ⟨lq, s6⟩ := q
  try dsimp only at HIt HCl
  go_wp2_with fail
  refine HCl.out.mono ?_
  rintro e w8 ⟨⟨_, rfl, _, rfl, vi, vf, vw, vg, vo, rfl, ⟨aqi, cqi, rfl, hvi⟩, ⟨aqf, cqf, rfl, hvf⟩, ⟨aqw, cqw, rfl, hvw⟩, ⟨aqg, cqg, rfl, hvg⟩, ⟨aqo, cqo, rfl, hvo⟩, hvl⟩, h1, h2⟩
  have hv : QuV w8 (fun b => w7.heap.size ≤ b) [.bool lq.dist, .bool lq.star, .slice aqi lq.items.length cqi, .slice aqf lq.src.length cqf, .slice aqw lq.whr.length cqw, .slice aqg lq.group.length cqg, .slice aqo lq.ord.length cqo, .int .i64 lq.lim] lq := ⟨_, _, _, _, _, rfl, ⟨aqi, cqi, rfl, hvi⟩, ⟨aqf, cqf, rfl, hvf⟩, ⟨aqw, cqw, rfl, hvw⟩, ⟨aqg, cqg, rfl, hvg⟩, ⟨aqo, cqo, rfl, hvo⟩, hvl⟩
  clear hvi hvf hvw hvg hvo hvl
  have HS8 := Lib.hid h1
  have HT8 := Lib.hid (HT7.out.trans h2)
  have HX8 := Lib.hid ((h2.block _ (Array.getElem?_eq_some_iff.1 HX7.out).1 (by have := HN.out; omega)).trans HX7.out)
  have HY8 := Lib.hid ((h2.block _ (Array.getElem?_eq_some_iff.1 HY7.out).1 (by have := HN2.out; omega)).trans HY7.out)
  have HL8 := Lib.hid (Nat.le_trans HL7.out h2.size)
  have HVq8 := Lib.hid (hv.mono (Q' := fun b => w1.heap.size ≤ b ∧ b ≠ w5.heap.size) (fun b hb _ => ⟨Nat.le_trans HL7.out hb, by have := (Array.getElem?_eq_some_iff.1 HY7.out).1; omega⟩))
  clear hv h1 h2 HCl
  have HVq9 := Lib.hid (HVq8.out.far (w' := setLe w8 w5.heap.size 9 [.bool lq.dist, .bool lq.star, .slice aqi lq.items.length cqi, .slice aqf lq.src.length cqf, .slice aqw lq.whr.length cqw, .slice aqg lq.group.length cqg, .slice aqo lq.ord.length cqo, .int .i64 lq.lim]) (by rw [setLe_size]; exact Nat.le_refl _) (fun b hb hlt => setLe_other hb.2 _ _ _))
  have HS9 := Lib.hid (HS8.out.setLe (R := w5.heap.size) HN2.out 9 [.bool lq.dist, .bool lq.star, .slice aqi lq.items.length cqi, .slice aqf lq.src.length cqf, .slice aqw lq.whr.length cqw, .slice aqg lq.group.length cqg, .slice aqo lq.ord.length cqo, .int .i64 lq.lim])
  have HT9 := Lib.hid (HT8.out.setLe (R := w5.heap.size) (Nat.le_of_lt HN2.out) (Nat.le_of_lt HW2.out) 9 [.bool lq.dist, .bool lq.star, .slice aqi lq.items.length cqi, .slice aqf lq.src.length cqf, .slice aqw lq.whr.length cqw, .slice aqg lq.group.length cqg, .slice aqo lq.ord.length cqo, .int .i64 lq.lim])
  have HX9 := Lib.hid ((setLe_other (B := w5.heap.size) (M := w.heap.size) (by have := HW2.out; omega) [.bool lq.dist, .bool lq.star, .slice aqi lq.items.length cqi, .slice aqf lq.src.length cqf, .slice aqw lq.whr.length cqw, .slice aqg lq.group.length cqg, .slice aqo lq.ord.length cqo, .int .i64 lq.lim] 9 w8).trans HX8.out)
  have HY9 := Lib.hid (show (setLe w8 w5.heap.size 9 [.bool lq.dist, .bool lq.star, .slice aqi lq.items.length cqi, .slice aqf lq.src.length cqf, .slice aqw lq.whr.length cqw, .slice aqg lq.group.length cqg, .slice aqo lq.ord.length cqo, .int .i64 lq.lim]).heap[w5.heap.size]? = some (.cells #[.int .i64 3, .string nm, .string ⟨#[]⟩, .bool false, .slice none 0 0, .slice none 0 0, .slice none 0 0, .slice none 0 0, .slice none 0 0, .bool lq.dist, .bool lq.star, .slice aqi lq.items.length cqi, .slice aqf lq.src.length cqf, .slice aqw lq.whr.length cqw, .slice aqg lq.group.length cqg, .slice aqo lq.ord.length cqo, .int .i64 lq.lim] 45 (0, 0)) from heap_setLe [.bool lq.dist, .bool lq.star, .slice aqi lq.items.length cqi, .slice aqf lq.src.length cqf, .slice aqw lq.whr.length cqw, .slice aqg lq.group.length cqg, .slice aqo lq.ord.length cqo, .int .i64 lq.lim] [.int .i64 3, .string nm, .string ⟨#[]⟩, .bool false, .slice none 0 0, .slice none 0 0, .slice none 0 0, .slice none 0 0, .slice none 0 0] [.bool false, .bool false, .slice none 0 0, .slice none 0 0, .slice none 0 0, .slice none 0 0, .slice none 0 0, .int .i64 0] w8 (by simp) HY8.out)
  have HL9 := Lib.hid (show w1.heap.size ≤ (setLe w8 w5.heap.size 9 [.bool lq.dist, .bool lq.star, .slice aqi lq.items.length cqi, .slice aqf lq.src.length cqf, .slice aqw lq.whr.length cqw, .slice aqg lq.group.length cqg, .slice aqo lq.ord.length cqo, .int .i64 lq.lim]).heap.size by rw [setLe_size]; exact HL8.out)
  obtain ⟨l0, l1, l2, l3, l4, l5, l6, l7, l8, l9, l10, l11, l12, l13, l14, l15, l16, lz, lN⟩ := rowc_sm HY8.out
  go_upto_region 8 with (fail)
  generalize hwa : setLe w8 w5.heap.size 9 [.bool lq.dist, .bool lq.star, .slice aqi lq.items.length cqi, .slice aqf lq.src.length cqf, .slice aqw lq.whr.length cqw, .slice aqg lq.group.length cqg, .slice aqo lq.ord.length cqo, .int .i64 lq.lim] = w9 at *
  have hwb : ((((((((w8.setCell ⟨w5.heap.size, 9, none⟩ (.bool lq.dist)).setCell ⟨w5.heap.size, 10, none⟩ (.bool lq.star)).setCell ⟨w5.heap.size, 11, none⟩ (.slice aqi lq.items.length cqi)).setCell ⟨w5.heap.size, 12, none⟩ (.slice aqf lq.src.length cqf)).setCell ⟨w5.heap.size, 13, none⟩ (.slice aqw lq.whr.length cqw)).setCell ⟨w5.heap.size, 14, none⟩ (.slice aqg lq.group.length cqg)).setCell ⟨w5.heap.size, 15, none⟩ (.slice aqo lq.ord.length cqo)).setCell ⟨w5.heap.size, 16, none⟩ (.int .i64 lq.lim)) = w9 := hwa
  rw [hwb]
  clear hwa hwb l0 l1 l2 l3 l4 l5 l6 l7 l8 l9 l10 l11 l12 l13 l14 l15 l16 lz lN
  have HWq := Lib.hid ((HVq9.out.far (w' := setLe w9 w.heap.size 0 [.int .i64 3, .string nm, .string ⟨#[]⟩, .bool false, .slice none 0 0, .slice none 0 0, .slice none 0 0, .slice none 0 0, .slice none 0 0, .bool lq.dist, .bool lq.star, .slice aqi lq.items.length cqi, .slice aqf lq.src.length cqf, .slice aqw lq.whr.length cqw, .slice aqg lq.group.length cqg, .slice aqo lq.ord.length cqo, .int .i64 lq.lim]) (by rw [setLe_size]; exact Nat.le_refl _) (fun b hb hlt => setLe_other (by have := HW1.out; have := hb.1; omega) _ _ _)).mono (Q' := fun b => w.heap.size ≤ b) (fun b hb _ => by have := HW1.out; have := hb.1; omega))
  have HR := Lib.hid (show createR ws s0 = ({ zST with kind := 3, name := nm, q := lq }, s6) from HIt.out)
  have HFin := Lib.hid (wbox_sm HX9.out (.int .i64 3) (.string nm) (.string ⟨#[]⟩) (.bool false) (.slice none 0 0) (.slice none 0 0) (.slice none 0 0) (.slice none 0 0) (.slice none 0 0) (.bool lq.dist) (.bool lq.star) (.slice aqi lq.items.length cqi) (.slice aqf lq.src.length cqf) (.slice aqw lq.whr.length cqw) (.slice aqg lq.group.length cqg) (.slice aqo lq.ord.length cqo) (.int .i64 lq.lim))
  have HF1 := Lib.hid (HS9.out.setLe (R := w.heap.size) HN.out 0 [.int .i64 3, .string nm, .string ⟨#[]⟩, .bool false, .slice none 0 0, .slice none 0 0, .slice none 0 0, .slice none 0 0, .slice none 0 0, .bool lq.dist, .bool lq.star, .slice aqi lq.items.length cqi, .slice aqf lq.src.length cqf, .slice aqw lq.whr.length cqw, .slice aqg lq.group.length cqg, .slice aqo lq.ord.length cqo, .int .i64 lq.lim])
  have HF2 := Lib.hid (HT9.out.setLe (R := w.heap.size) (Nat.le_of_lt HN.out) (Nat.le_refl _) 0 [.int .i64 3, .string nm, .string ⟨#[]⟩, .bool false, .slice none 0 0, .slice none 0 0, .slice none 0 0, .slice none 0 0, .slice none 0 0, .bool lq.dist, .bool lq.star, .slice aqi lq.items.length cqi, .slice aqf lq.src.length cqf, .slice aqw lq.whr.length cqw, .slice aqg lq.group.length cqg, .slice aqo lq.ord.length cqo, .int .i64 lq.lim])
  refine wp_region_lit ?_
  refine wpl_copy rfl _ _ rfl _ rfl w5.heap.size rfl [.int .i64 3, .string nm, .string ⟨#[]⟩, .bool false, .slice none 0 0, .slice none 0 0, .slice none 0 0, .slice none 0 0, .slice none 0 0, .bool lq.dist, .bool lq.star, .slice aqi lq.items.length cqi, .slice aqf lq.src.length cqf, .slice aqw lq.whr.length cqw, .slice aqg lq.group.length cqg, .slice aqo lq.ord.length cqo, .int .i64 lq.lim] _ HY9.out _ Tryz.underlying45 rfl (by kernel_rfl) rfl _ _ _ rfl _ rfl w.heap.size rfl rfl _ _ HX9.out (by kernel_rfl) rfl rfl ?_
  refine wpList_nil ?_
  go_wp2
  refine bodyPost_ret (results_sm rfl _ _ w.heap.size _ _ _ _ _ _ _ _ _ _ _ _ _ _ _ _ _ rfl HFin.out) rfl ?_
  rw [HR.out]
  exact ⟨⟨_, rfl, _, rfl, _, _, _, _, _, _, rfl, SlV.nil _ _ _, SlV.nil _ _ _, SlV.nil _ _ _, SlV.nil _ _ _, LeV.nil _ _, HWq.out, rfl, HNsnm.out, eB_le⟩, HF1.out, HF2.out⟩
end Go.Proofs.YtknhphcfcpjhiaaGreatDoor
