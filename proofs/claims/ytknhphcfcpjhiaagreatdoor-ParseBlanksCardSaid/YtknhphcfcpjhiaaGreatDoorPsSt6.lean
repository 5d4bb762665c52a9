/- The package's reader of statements: statement. Written by genpst.py. -/
import Derived.Test.YtknhphcfcpjhiaaGreatDoorPsSt2
import Derived.Test.YtknhphcfcpjhiaaGreatDoorPsExR
namespace Go.Proofs.YtknhphcfcpjhiaaGreatDoor
open Go.RowKit
set_option linter.unusedVariables false
set_option linter.unusedSimpArgs false
set_option maxRecDepth 100000
set_option maxHeartbeats 6400000 in
theorem pstm_4 (N : Nat) (w0 : World) (b off : Nat) (wn wc : Nat) (ws : List Wd) (s0 s1 s2 s3 s4 s5 : PS) (h : RdS N w0 (some ⟨b, off, none⟩) wn wc ws s0) (hr : RCx b off wn wc ws) (hc : takeR ws 1 kCREATE s0 = (false, s1)) (hd : takeR ws 1 kDROP s1 = (false, s2)) (hi : takeR ws 1 kINSERT s2 = (false, s3)) (hu : takeR ws 1 kUPDATE s3 = (false, s4)) (hx : takeR ws 1 kDELETE s4 = (true, s5)) :
    Calls Tryz.prog 19 #[.pointer (some ⟨N, 0, none⟩)] w0 (PsV (AgV smS) N w0 (some ⟨b, off, none⟩) wn wc ws (statementR ws s0)) := by
  have hB0 := bel0 (.cells #[.pointer (some ⟨N, 0, none⟩)] 107) (Below.refl w0.heap.size w0)
  have hlow := h.low
  refine Calls.mono (R := PsV (AgV smS) N (w0.alloc (.cells #[.pointer (some ⟨N, 0, none⟩)] 107)) (some ⟨b, off, none⟩) wn wc ws (statementR ws s0)) ?_ (fun e w' hp => psv_up (RTo.of_below (N := N) hB0 (Nat.le_of_lt hlow)) hp)
  have hXp := Go.heap_alloc_new w0 (.cells #[.pointer (some ⟨N, 0, none⟩)] 107 (0, 0))
  have hsz : (w0.alloc (.cells #[.pointer (some ⟨N, 0, none⟩)] 107)).heap.size = w0.heap.size + 1 := by simp
  have h1 := h.below hB0
  have HXN := Lib.hid (show w0.heap.size ≠ N by omega)
  clear h hB0 hlow
  go_enter Tryz.func19, Tryz.ntmps19
  go_upto_region 1 with (fail)
  generalize w0.alloc (.cells #[.pointer (some ⟨N, 0, none⟩)] 107) = w at *
  rw [← hsz]
  generalize w0.heap.size = X at *
  have HRc := Lib.hid hr
  have HN := Lib.hid h1.low
  have HIt := Lib.hid (show statementR ws s0 = sX ws (nameR ws (mustK ws [kFROM] s5)) by rw [statementR_eq]; simp only [hc, hd, hi, hu, hx, if_true, if_false, Bool.false_eq_true])
  have HB := Lib.hid (bel0 (.cells #[.int .i64 0, .string ⟨#[]⟩, .string ⟨#[]⟩, .bool false, .slice none 0 0, .slice none 0 0, .slice none 0 0, .slice none 0 0, .slice none 0 0, .bool false, .bool false, .slice none 0 0, .slice none 0 0, .slice none 0 0, .slice none 0 0, .slice none 0 0, .int .i64 0] 45) (Below.refl w.heap.size w))
  have HX1 := Lib.hid (Go.heap_alloc_new w (.cells #[.int .i64 0, .string ⟨#[]⟩, .string ⟨#[]⟩, .bool false, .slice none 0 0, .slice none 0 0, .slice none 0 0, .slice none 0 0, .slice none 0 0, .bool false, .bool false, .slice none 0 0, .slice none 0 0, .slice none 0 0, .slice none 0 0, .slice none 0 0, .int .i64 0] 45 (0, 0)))
  have HS1 := Lib.hid (h1.below HB.out)
  have HT1 := Lib.hid (RTo.of_below (N := N) HB.out (Nat.le_of_lt h1.low))
  have HW1 := Lib.hid (show w.heap.size < (w.alloc (.cells #[.int .i64 0, .string ⟨#[]⟩, .string ⟨#[]⟩, .bool false, .slice none 0 0, .slice none 0 0, .slice none 0 0, .slice none 0 0, .slice none 0 0, .bool false, .bool false, .slice none 0 0, .slice none 0 0, .slice none 0 0, .slice none 0 0, .slice none 0 0, .int .i64 0] 45)).heap.size from (Array.getElem?_eq_some_iff.1 HX1.out).1)
  have HXw := Lib.hid (show X < w.heap.size from (Array.getElem?_eq_some_iff.1 hXp).1)
  have HP1 := Lib.hid ((HB.out.block X HXw.out).trans hXp)
  have HHC := Lib.hid hc
  have HHD := Lib.hid hd
  have HHI := Lib.hid hi
  have HHU := Lib.hid hu
  have HHX := Lib.hid hx
  clear h1 hr hXp hsz hc hd hi hu hx
  generalize w.alloc (.cells #[.int .i64 0, .string ⟨#[]⟩, .string ⟨#[]⟩, .bool false, .slice none 0 0, .slice none 0 0, .slice none 0 0, .slice none 0 0, .slice none 0 0, .bool false, .bool false, .slice none 0 0, .slice none 0 0, .slice none 0 0, .slice none 0 0, .slice none 0 0, .int .i64 0] 45) = w1 at *
  have HL1 := Lib.hid (Nat.le_refl w1.heap.size)
  have HKw := Lib.hid (pkeyword_any kCREATE N w1 _ wn wc ws s0 HS1.out)
  rw [HHC.out, show bs kCREATE = ⟨#[67, 82, 69, 65, 84, 69]⟩ from rfl] at HKw
  dsimp only at HKw
  have cX := cell_of_row _ _ 0 _ _ _ HP1.out
  go_wp2_with fail
  clear cX
  refine HKw.out.mono ?_
  rintro e w2 ⟨rfl, h1, h2⟩
  have HP2 := Lib.hid ((h2.block X (Array.getElem?_eq_some_iff.1 HP1.out).1 HXN.out).trans HP1.out)
  have HS2 := Lib.hid h1
  have HT2 := Lib.hid (HT1.out.trans h2)
  have HX2 := Lib.hid ((h2.block _ (Array.getElem?_eq_some_iff.1 HX1.out).1 (by have := HN.out; omega)).trans HX1.out)
  have HL2 := Lib.hid (Nat.le_trans HL1.out h2.size)
  clear h1 h2 HKw
  have HKw := Lib.hid (pkeyword_any kDROP N w2 _ wn wc ws s1 HS2.out)
  rw [HHD.out, show bs kDROP = ⟨#[68, 82, 79, 80]⟩ from rfl] at HKw
  dsimp only at HKw
  have cX := cell_of_row _ _ 0 _ _ _ HP2.out
  go_wp2_with fail
  clear cX
  refine HKw.out.mono ?_
  rintro e w3 ⟨rfl, h1, h2⟩
  have HP3 := Lib.hid ((h2.block X (Array.getElem?_eq_some_iff.1 HP2.out).1 HXN.out).trans HP2.out)
  have HS3 := Lib.hid h1
  have HT3 := Lib.hid (HT2.out.trans h2)
  have HX3 := Lib.hid ((h2.block _ (Array.getElem?_eq_some_iff.1 HX2.out).1 (by have := HN.out; omega)).trans HX2.out)
  have HL3 := Lib.hid (Nat.le_trans HL2.out h2.size)
  clear h1 h2 HKw
  have HKw := Lib.hid (pkeyword_any kINSERT N w3 _ wn wc ws s2 HS3.out)
  rw [HHI.out, show bs kINSERT = ⟨#[73, 78, 83, 69, 82, 84]⟩ from rfl] at HKw
  dsimp only at HKw
  have cX := cell_of_row _ _ 0 _ _ _ HP3.out
  go_wp2_with fail
  clear cX
  refine HKw.out.mono ?_
  rintro e w4 ⟨rfl, h1, h2⟩
  have HP4 := Lib.hid ((h2.block X (Array.getElem?_eq_some_iff.1 HP3.out).1 HXN.out).trans HP3.out)
  have HS4 := Lib.hid h1
  have HT4 := Lib.hid (HT3.out.trans h2)
  have HX4 := Lib.hid ((h2.block _ (Array.getElem?_eq_some_iff.1 HX3.out).1 (by have := HN.out; omega)).trans HX3.out)
  have HL4 := Lib.hid (Nat.le_trans HL3.out h2.size)
  clear h1 h2 HKw
  have HKw := Lib.hid (pkeyword_any kUPDATE N w4 _ wn wc ws s3 HS4.out)
  rw [HHU.out, show bs kUPDATE = ⟨#[85, 80, 68, 65, 84, 69]⟩ from rfl] at HKw
  dsimp only at HKw
  have cX := cell_of_row _ _ 0 _ _ _ HP4.out
  go_wp2_with fail
  clear cX
  refine HKw.out.mono ?_
  rintro e w5 ⟨rfl, h1, h2⟩
  have HP5 := Lib.hid ((h2.block X (Array.getElem?_eq_some_iff.1 HP4.out).1 HXN.out).trans HP4.out)
  have HS5 := Lib.hid h1
  have HT5 := Lib.hid (HT4.out.trans h2)
  have HX5 := Lib.hid ((h2.block _ (Array.getElem?_eq_some_iff.1 HX4.out).1 (by have := HN.out; omega)).trans HX4.out)
  have HL5 := Lib.hid (Nat.le_trans HL4.out h2.size)
  clear h1 h2 HKw
  have HKw := Lib.hid (pkeyword_any kDELETE N w5 _ wn wc ws s4 HS5.out)
  rw [HHX.out, show bs kDELETE = ⟨#[68, 69, 76, 69, 84, 69]⟩ from rfl] at HKw
  dsimp only at HKw
  have cX := cell_of_row _ _ 0 _ _ _ HP5.out
  go_wp2_with fail
  clear cX
  refine HKw.out.mono ?_
  rintro e w6 ⟨rfl, h1, h2⟩
  have HP6 := Lib.hid ((h2.block X (Array.getElem?_eq_some_iff.1 HP5.out).1 HXN.out).trans HP5.out)
  have HS6 := Lib.hid h1
  have HT6 := Lib.hid (HT5.out.trans h2)
  have HX6 := Lib.hid ((h2.block _ (Array.getElem?_eq_some_iff.1 HX5.out).1 (by have := HN.out; omega)).trans HX5.out)
  have HL6 := Lib.hid (Nat.le_trans HL5.out h2.size)
  clear h1 h2 HKw
  have HBk := Lib.hid (bel0 (.cells #[.string ⟨#[70, 82, 79, 77]⟩] 9) (Below.refl w6.heap.size w6))
  have HKx := Lib.hid (Go.heap_alloc_new w6 (.cells #[.string ⟨#[70, 82, 79, 77]⟩] 9 (0, 0)))
  have HMu := Lib.hid (must_any [kFROM] (by decide) N (w6.alloc (.cells #[.string ⟨#[70, 82, 79, 77]⟩] 9)) _ wn wc ws s5 (HS6.out.below HBk.out) (some ⟨w6.heap.size, 0, none⟩) 1 ⟨w6.heap.size, 0, rfl, by have := HS6.out.low; omega, (Array.getElem?_eq_some_iff.1 HKx.out).1, fun q hq => by
    have h0 : q = 0 := by simpa using hq
    subst h0
    exact cell_of_row _ _ 0 _ _ _ HKx.out⟩)
  obtain ⟨s6, hsm⟩ : ∃ q, q = mustK ws [kFROM] s5 := ⟨_, rfl⟩
  rw [← hsm] at HMu HIt
  clear hsm
  have h2k := RTo.of_below (N := N) HBk.out (Nat.le_of_lt HS6.out.low)
  have cX := cell_of_row _ _ 0 _ _ _ HP6.out
  go_wp2_with fail
  clear cX
  refine HMu.out.mono ?_
  rintro e w7 ⟨rfl, h1, h2x⟩
  have h2 := h2k.trans h2x
  have HP7 := Lib.hid ((h2.block X (Array.getElem?_eq_some_iff.1 HP6.out).1 HXN.out).trans HP6.out)
  have HS7 := Lib.hid h1
  have HT7 := Lib.hid (HT6.out.trans h2)
  have HX7 := Lib.hid ((h2.block _ (Array.getElem?_eq_some_iff.1 HX6.out).1 (by have := HN.out; omega)).trans HX6.out)
  have HL7 := Lib.hid (Nat.le_trans HL6.out h2.size)
  clear h1 h2 h2k h2x
  have HNs := Lib.hid (nameR_le ws s6)
  have HNm := Lib.hid (show ∀ W, RdS N W (some ⟨b, off, none⟩) wn wc ws s6 → Calls Tryz.prog 52 #[.pointer (some ⟨N, 0, none⟩)] W (PsR N W (some ⟨b, off, none⟩) wn wc ws (.string (nameR ws s6).1) (nameR ws s6).2) from fun W hS => pname_any2 N W _ wn wc ws s6 hS HRc.out.z)
  obtain ⟨q, hq⟩ : ∃ q, q = nameR ws s6 := ⟨_, rfl⟩
  rw [← hq] at HIt HNm HNs
  clear hq
  obtain ⟨nm, s7⟩ := q
  dsimp only at HIt HNm HNs
  replace HIt := Lib.hid (show statementR ws s0 = sX2 ws nm (whereR ws s7) from HIt.out)
  have HWm := Lib.hid (show ∀ W, RdS N W (some ⟨b, off, none⟩) wn wc ws s7 → Calls Tryz.prog 59 #[.pointer (some ⟨N, 0, none⟩)] W (PsV LeV N W (some ⟨b, off, none⟩) wn wc ws (whereR ws s7)) from fun W hS => pwhere_any N W b off wn wc ws s7 hS HRc.out)
  obtain ⟨q, hq⟩ : ∃ q, q = whereR ws s7 := ⟨_, rfl⟩
  rw [← hq] at HIt HWm
  clear hq
  obtain ⟨lw, s8⟩ := q
  try dsimp only at HIt HWm
  have HKx := Lib.hid (show ∀ W, RTo N w7 W → W.cell? ⟨X, 0, none⟩ = some (.pointer (some ⟨N, 0, none⟩)) from fun W ht => cell_of_row _ _ 0 _ _ _ ((ht.block X (Array.getElem?_eq_some_iff.1 HP7.out).1 HXN.out).trans HP7.out))
  go_upto_region 19 with (fail)
  have HQ := Lib.hid (RTo.refl N w7)
  have HR0 := Lib.hid HS7.out
  have HX5 := Lib.hid HX7.out
  refine wp_region_noPanic ?_
  refine wp_region_held_drew (S := fun W => W.cell? ⟨X, 0, none⟩ = some (.pointer (some ⟨N, 0, none⟩))) (by kernel_rfl) (HKx.out _ (rto_drew HQ.out)) (fun hS0 => ?_)
  refine wpAnyH_take (i := 0) (oi := { dst := some 56, op := .load 107 (.tmp 1), type := 107, pos := "read.go:139", after := #[], guard := none }) (v := .pointer (some ⟨N, 0, none⟩)) (by kernel_rfl) (by kernel_rfl) (by kernel_rfl) (by kernel_rfl) (fun _ _ _ h => h) (Or.inl ⟨by rfl, ?_⟩) hS0 ?_
  · intro w' hSw
    go_simp
  try simp only [Act.put, List.setIfInBounds_toArray, List.set_cons_zero, List.set_cons_succ]
  refine wpAnyH_take (i := 2) (oi := { dst := some 58, op := .load 107 (.tmp 1), type := 107, pos := "read.go:139", after := #[], guard := none }) (v := .pointer (some ⟨N, 0, none⟩)) (by kernel_rfl) (by kernel_rfl) (by kernel_rfl) (by kernel_rfl) (fun _ _ _ h => h) (Or.inl ⟨by rfl, ?_⟩) hS0 ?_
  · intro w' hSw
    go_simp
  try simp only [Act.put, List.setIfInBounds_toArray, List.set_cons_zero, List.set_cons_succ]
  refine wpAnyH_ready (rs := [1]) (by kernel_rfl) (by simp) ?_
  refine AllReadyH.cons (o := { dst := some 57, op := .call { callee := .value (.func 52), args := #[.tmp 56], argTypes := #[107] }, type := 9, pos := "read.go:139", after := #[{ on := 0, ground := .data }], guard := none }) (by kernel_rfl) (fun K1 hK => ?_) AllReadyH.nil
  go_simp
  go_at_call 52
  refine (HNm.out _ (rds_drew HR0.out)).mono ?_
  rintro e wa ⟨rfl, h1, h2⟩
  have HR1 := Lib.hid h1
  have HQ1 := Lib.hid ((rto_drew HQ.out).trans h2)
  clear h1 h2
  refine hK.out _ _ (HKx.out _ HQ1.out) (fun _ => ?_)
  clear hK K1
  try simp only [Act.put, List.setIfInBounds_toArray, List.set_cons_zero, List.set_cons_succ]
  refine wpAnyH_ready (rs := [3]) (by kernel_rfl) (by simp) ?_
  refine AllReadyH.cons (o := { dst := some 59, op := .call { callee := .value (.func 59), args := #[.tmp 58], argTypes := #[107] }, type := 38, pos := "read.go:139", after := #[{ on := 2, ground := .data }, { on := 1, ground := .chain }], guard := none }) (by kernel_rfl) (fun K1 hK => ?_) AllReadyH.nil
  go_simp
  go_at_call 59
  refine (HWm.out _ HR1.out).mono ?_
  rintro e wb ⟨⟨v, rfl, aw, cw, rfl, hv⟩, h1, h2⟩
  have HR2 := Lib.hid h1
  have HVw := Lib.hid (show LeV wb (fun b => w1.heap.size ≤ b) (.slice aw lw.length cw) lw from LeV.mono ⟨aw, cw, rfl, hv⟩ (fun b hb _ => Nat.le_trans HL7.out (Nat.le_trans HQ1.out.size hb)))
  have HQ2 := Lib.hid (HQ1.out.trans h2)
  have HXb := Lib.hid ((HQ2.out.block w.heap.size (Array.getElem?_eq_some_iff.1 HX7.out).1 (by have := HN.out; omega)).trans HX7.out)
  have HTb := Lib.hid (HT7.out.trans HQ2.out)
  clear h1 h2 hv
  have HS2 := HKx.out _ HQ2.out
  refine hK.out _ _ HS2 (fun _ => ?_)
  clear hK K1
  try simp only [Act.put, List.setIfInBounds_toArray, List.set_cons_zero, List.set_cons_succ]
  refine wpAnyH_take (i := 4) (oi := { dst := some 60, op := .build 45 #[(0, .const (.int .i64 9)), (1, .tmp 57), (8, .tmp 59)], type := 45, pos := "read.go:139", after := #[{ on := 1, ground := .data }, { on := 3, ground := .data }], guard := none }) (v := .agg #[.int .i64 9, .string nm, .string ⟨#[]⟩, .bool false, .slice none 0 0, .slice none 0 0, .slice none 0 0, .slice none 0 0, .slice aw lw.length cw, .bool false, .bool false, .slice none 0 0, .slice none 0 0, .slice none 0 0, .slice none 0 0, .slice none 0 0, .int .i64 0]) (by kernel_rfl) (by kernel_rfl) (by kernel_rfl) (by kernel_rfl) (fun _ _ _ h => h) (Or.inl ⟨by rfl, ?_⟩) HS2 ?_
  · intro w' hSw
    go_simp
  try simp only [Act.put, List.setIfInBounds_toArray, List.set_cons_zero, List.set_cons_succ]
  refine wpAnyH_ready (rs := [5]) (by kernel_rfl) (by simp) ?_
  refine AllReadyH.cons (o := { dst := none, op := .store 45 (.tmp 2) (.tmp 60), type := 0, pos := "read.go:139", after := #[{ on := 4, ground := .data }, { on := 3, ground := .chain }, { on := 0, ground := .phase }, { on := 1, ground := .phase }, { on := 2, ground := .phase }, { on := 3, ground := .phase }, { on := 4, ground := .phase }], guard := none }) (by kernel_rfl) (fun K1 hK => ?_) AllReadyH.nil
  rw [if_pos (by rfl)]
  refine wp_store_mid 45 (.tmp 2) (.tmp 60) rfl w.heap.size 0 #[.int .i64 9, .string nm, .string ⟨#[]⟩, .bool false, .slice none 0 0, .slice none 0 0, .slice none 0 0, .slice none 0 0, .slice aw lw.length cw, .bool false, .bool false, .slice none 0 0, .slice none 0 0, .slice none 0 0, .slice none 0 0, .slice none 0 0, .int .i64 0] rfl rfl (show World.there wb w.heap.size 0 17 from there_row HXb.out) (by kernel_rfl) (by simp [Value.oneCell']) ?_
  rw [setCells_setLe]
  have HFin := Lib.hid (wbox_sm HXb.out (.int .i64 9) (.string nm) (.string ⟨#[]⟩) (.bool false) (.slice none 0 0) (.slice none 0 0) (.slice none 0 0) (.slice none 0 0) (.slice aw lw.length cw) (.bool false) (.bool false) (.slice none 0 0) (.slice none 0 0) (.slice none 0 0) (.slice none 0 0) (.slice none 0 0) (.int .i64 0))
  have HF1 := Lib.hid (HR2.out.setLe (R := w.heap.size) HN.out 0 [.int .i64 9, .string nm, .string ⟨#[]⟩, .bool false, .slice none 0 0, .slice none 0 0, .slice none 0 0, .slice none 0 0, .slice aw lw.length cw, .bool false, .bool false, .slice none 0 0, .slice none 0 0, .slice none 0 0, .slice none 0 0, .slice none 0 0, .int .i64 0])
  have HF2 := Lib.hid (HTb.out.setLe (R := w.heap.size) (Nat.le_of_lt HN.out) (Nat.le_refl _) 0 [.int .i64 9, .string nm, .string ⟨#[]⟩, .bool false, .slice none 0 0, .slice none 0 0, .slice none 0 0, .slice none 0 0, .slice aw lw.length cw, .bool false, .bool false, .slice none 0 0, .slice none 0 0, .slice none 0 0, .slice none 0 0, .slice none 0 0, .int .i64 0])
  have HWw := Lib.hid ((HVw.out.far (w' := setLe wb w.heap.size 0 [.int .i64 9, .string nm, .string ⟨#[]⟩, .bool false, .slice none 0 0, .slice none 0 0, .slice none 0 0, .slice none 0 0, .slice aw lw.length cw, .bool false, .bool false, .slice none 0 0, .slice none 0 0, .slice none 0 0, .slice none 0 0, .slice none 0 0, .int .i64 0]) (by rw [setLe_size]; exact Nat.le_refl _) (fun b hb hlt => setLe_other (by have := HW1.out; omega) _ _ _)).mono (Q' := fun b => w.heap.size ≤ b) (fun b hb _ => by have := HW1.out; omega))
  have HS3 : (setLe wb w.heap.size 0 [.int .i64 9, .string nm, .string ⟨#[]⟩, .bool false, .slice none 0 0, .slice none 0 0, .slice none 0 0, .slice none 0 0, .slice aw lw.length cw, .bool false, .bool false, .slice none 0 0, .slice none 0 0, .slice none 0 0, .slice none 0 0, .slice none 0 0, .int .i64 0]).cell? ⟨X, 0, none⟩ = some (.pointer (some ⟨N, 0, none⟩)) := (World.cell?_of_block (setLe_other (B := w.heap.size) (M := X) (by have := HXw.out; omega) _ 0 wb)).trans HS2
  have HR := Lib.hid (show statementR ws s0 = ({ zST with kind := 9, name := nm, whr := lw }, s8) from HIt.out)
  have HNsnm := Lib.hid HNs.out
  refine hK.out _ _ HS3 (fun _ => ?_)
  clear hK K1
  refine wpAnyH_done (by kernel_rfl) ?_ _
  refine NoPanic.normal ?_
  go_wp2
  refine bodyPost_ret (results_sm rfl _ _ w.heap.size _ _ _ _ _ _ _ _ _ _ _ _ _ _ _ _ _ rfl HFin.out) rfl ?_
  rw [HR.out]
  exact ⟨⟨_, rfl, _, rfl, _, _, _, _, _, _, rfl, SlV.nil _ _ _, SlV.nil _ _ _, SlV.nil _ _ _, SlV.nil _ _ _, HWw.out, zQ_lies _ _, rfl, HNsnm.out, eB_le⟩, HF1.out, HF2.out⟩
end Go.Proofs.YtknhphcfcpjhiaaGreatDoor
namespace Go.Proofs.YtknhphcfcpjhiaaGreatDoor
open Go.RowKit
set_option linter.unusedVariables false
set_option linter.unusedSimpArgs false
set_option maxRecDepth 100000
set_option maxHeartbeats 6400000 in
theorem pstm_5 (N : Nat) (w0 : World) (b off : Nat) (wn wc : Nat) (ws : List Wd) (s0 s1 s2 s3 s4 s5 s6 : PS) (h : RdS N w0 (some ⟨b, off, none⟩) wn wc ws s0) (hr : RCx b off wn wc ws) (hc : takeR ws 1 kCREATE s0 = (false, s1)) (hd : takeR ws 1 kDROP s1 = (false, s2)) (hi : takeR ws 1 kINSERT s2 = (false, s3)) (hu : takeR ws 1 kUPDATE s3 = (false, s4)) (hx : takeR ws 1 kDELETE s4 = (false, s5)) (hs : takeR ws 1 kSELECT s5 = (true, s6)) :
    Calls Tryz.prog 19 #[.pointer (some ⟨N, 0, none⟩)] w0 (PsV (AgV smS) N w0 (some ⟨b, off, none⟩) wn wc ws (statementR ws s0)) := by
  have hB0 := bel0 (.cells #[.pointer (some ⟨N, 0, none⟩)] 107) (Below.refl w0.heap.size w0)
  have hlow := h.low
  refine Calls.mono (R := PsV (AgV smS) N (w0.alloc (.cells #[.pointer (some ⟨N, 0, none⟩)] 107)) (some ⟨b, off, none⟩) wn wc ws (statementR ws s0)) ?_ (fun e w' hp => psv_up (RTo.of_below (N := N) hB0 (Nat.le_of_lt hlow)) hp)
  have hXp := Go.heap_alloc_new w0 (.cells #[.pointer (some ⟨N, 0, none⟩)] 107 (0, 0))
  have hsz : (w0.alloc (.cells #[.pointer (some ⟨N, 0, none⟩)] 107)).heap.size = w0.heap.size + 1 := by simp
  have h1 := h.below hB0
  have HXN := Lib.hid (show w0.heap.size ≠ N by omega)
  clear h hB0 hlow
  go_enter Tryz.func19, Tryz.ntmps19
  go_upto_region 1 with (fail)
  generalize w0.alloc (.cells #[.pointer (some ⟨N, 0, none⟩)] 107) = w at *
  rw [← hsz]
  generalize w0.heap.size = X at *
  have HRc := Lib.hid hr
  have HN := Lib.hid h1.low
  have HIt := Lib.hid (show statementR ws s0 = sS ws (queryR ws s6) by rw [statementR_eq]; simp only [hc, hd, hi, hu, hx, hs, if_true, if_false, Bool.false_eq_true])
  have HB := Lib.hid (bel0 (.cells #[.int .i64 0, .string ⟨#[]⟩, .string ⟨#[]⟩, .bool false, .slice none 0 0, .slice none 0 0, .slice none 0 0, .slice none 0 0, .slice none 0 0, .bool false, .bool false, .slice none 0 0, .slice none 0 0, .slice none 0 0, .slice none 0 0, .slice none 0 0, .int .i64 0] 45) (Below.refl w.heap.size w))
  have HX1 := Lib.hid (Go.heap_alloc_new w (.cells #[.int .i64 0, .string ⟨#[]⟩, .string ⟨#[]⟩, .bool false, .slice none 0 0, .slice none 0 0, .slice none 0 0, .slice none 0 0, .slice none 0 0, .bool false, .bool false, .slice none 0 0, .slice none 0 0, .slice none 0 0, .slice none 0 0, .slice none 0 0, .int .i64 0] 45 (0, 0)))
  have HS1 := Lib.hid (h1.below HB.out)
  have HT1 := Lib.hid (RTo.of_below (N := N) HB.out (Nat.le_of_lt h1.low))
  have HW1 := Lib.hid (show w.heap.size < (w.alloc (.cells #[.int .i64 0, .string ⟨#[]⟩, .string ⟨#[]⟩, .bool false, .slice none 0 0, .slice none 0 0, .slice none 0 0, .slice none 0 0, .slice none 0 0, .bool false, .bool false, .slice none 0 0, .slice none 0 0, .slice none 0 0, .slice none 0 0, .slice none 0 0, .int .i64 0] 45)).heap.size from (Array.getElem?_eq_some_iff.1 HX1.out).1)
  have HXw := Lib.hid (show X < w.heap.size from (Array.getElem?_eq_some_iff.1 hXp).1)
  have HP1 := Lib.hid ((HB.out.block X HXw.out).trans hXp)
  have HHC := Lib.hid hc
  have HHD := Lib.hid hd
  have HHI := Lib.hid hi
  have HHU := Lib.hid hu
  have HHX := Lib.hid hx
  have HHS := Lib.hid hs
  clear h1 hr hXp hsz hc hd hi hu hx hs
  generalize w.alloc (.cells #[.int .i64 0, .string ⟨#[]⟩, .string ⟨#[]⟩, .bool false, .slice none 0 0, .slice none 0 0, .slice none 0 0, .slice none 0 0, .slice none 0 0, .bool false, .bool false, .slice none 0 0, .slice none 0 0, .slice none 0 0, .slice none 0 0, .slice none 0 0, .int .i64 0] 45) = w1 at *
  have HL1 := Lib.hid (Nat.le_refl w1.heap.size)
  have HKw := Lib.hid (pkeyword_any kCREATE N w1 _ wn wc ws s0 HS1.out)
  rw [HHC.out, show bs kCREATE = ⟨#[67, 82, 69, 65, 84, 69]⟩ from rfl] at HKw
  dsimp only at HKw
  have cX := cell_of_row _ _ 0 _ _ _ HP1.out
  go_wp2_with fail
  clear cX
  refine HKw.out.mono ?_
  rintro e w2 ⟨rfl, h1, h2⟩
  have HP2 := Lib.hid ((h2.block X (Array.getElem?_eq_some_iff.1 HP1.out).1 HXN.out).trans HP1.out)
  have HS2 := Lib.hid h1
  have HT2 := Lib.hid (HT1.out.trans h2)
  have HX2 := Lib.hid ((h2.block _ (Array.getElem?_eq_some_iff.1 HX1.out).1 (by have := HN.out; omega)).trans HX1.out)
  have HL2 := Lib.hid (Nat.le_trans HL1.out h2.size)
  clear h1 h2 HKw
  have HKw := Lib.hid (pkeyword_any kDROP N w2 _ wn wc ws s1 HS2.out)
  rw [HHD.out, show bs kDROP = ⟨#[68, 82, 79, 80]⟩ from rfl] at HKw
  dsimp only at HKw
  have cX := cell_of_row _ _ 0 _ _ _ HP2.out
  go_wp2_with fail
  clear cX
  refine HKw.out.mono ?_
  rintro e w3 ⟨rfl, h1, h2⟩
  have HP3 := Lib.hid ((h2.block X (Array.getElem?_eq_some_iff.1 HP2.out).1 HXN.out).trans HP2.out)
  have HS3 := Lib.hid h1
  have HT3 := Lib.hid (HT2.out.trans h2)
  have HX3 := Lib.hid ((h2.block _ (Array.getElem?_eq_some_iff.1 HX2.out).1 (by have := HN.out; omega)).trans HX2.out)
  have HL3 := Lib.hid (Nat.le_trans HL2.out h2.size)
  clear h1 h2 HKw
  have HKw := Lib.hid (pkeyword_any kINSERT N w3 _ wn wc ws s2 HS3.out)
  rw [HHI.out, show bs kINSERT = ⟨#[73, 78, 83, 69, 82, 84]⟩ from rfl] at HKw
  dsimp only at HKw
  have cX := cell_of_row _ _ 0 _ _ _ HP3.out
  go_wp2_with fail
  clear cX
  refine HKw.out.mono ?_
  rintro e w4 ⟨rfl, h1, h2⟩
  have HP4 := Lib.hid ((h2.block X (Array.getElem?_eq_some_iff.1 HP3.out).1 HXN.out).trans HP3.out)
  have HS4 := Lib.hid h1
  have HT4 := Lib.hid (HT3.out.trans h2)
  have HX4 := Lib.hid ((h2.block _ (Array.getElem?_eq_some_iff.1 HX3.out).1 (by have := HN.out; omega)).trans HX3.out)
  have HL4 := Lib.hid (Nat.le_trans HL3.out h2.size)
  clear h1 h2 HKw
  have HKw := Lib.hid (pkeyword_any kUPDATE N w4 _ wn wc ws s3 HS4.out)
  rw [HHU.out, show bs kUPDATE = ⟨#[85, 80, 68, 65, 84, 69]⟩ from rfl] at HKw
  dsimp only at HKw
  have cX := cell_of_row _ _ 0 _ _ _ HP4.out
  go_wp2_with fail
  clear cX
  refine HKw.out.mono ?_
  rintro e w5 ⟨rfl, h1, h2⟩
  have HP5 := Lib.hid ((h2.block X (Array.getElem?_eq_some_iff.1 HP4.out).1 HXN.out).trans HP4.out)
  have HS5 := Lib.hid h1
  have HT5 := Lib.hid (HT4.out.trans h2)
  have HX5 := Lib.hid ((h2.block _ (Array.getElem?_eq_some_iff.1 HX4.out).1 (by have := HN.out; omega)).trans HX4.out)
  have HL5 := Lib.hid (Nat.le_trans HL4.out h2.size)
  clear h1 h2 HKw
  have HKw := Lib.hid (pkeyword_any kDELETE N w5 _ wn wc ws s4 HS5.out)
  rw [HHX.out, show bs kDELETE = ⟨#[68, 69, 76, 69, 84, 69]⟩ from rfl] at HKw
  dsimp only at HKw
  have cX := cell_of_row _ _ 0 _ _ _ HP5.out
  go_wp2_with fail
  clear cX
  refine HKw.out.mono ?_
  rintro e w6 ⟨rfl, h1, h2⟩
  have HP6 := Lib.hid ((h2.block X (Array.getElem?_eq_some_iff.1 HP5.out).1 HXN.out).trans HP5.out)
  have HS6 := Lib.hid h1
  have HT6 := Lib.hid (HT5.out.trans h2)
  have HX6 := Lib.hid ((h2.block _ (Array.getElem?_eq_some_iff.1 HX5.out).1 (by have := HN.out; omega)).trans HX5.out)
  have HL6 := Lib.hid (Nat.le_trans HL5.out h2.size)
  clear h1 h2 HKw
  have HKw := Lib.hid (pkeyword_any kSELECT N w6 _ wn wc ws s5 HS6.out)
  rw [HHS.out, show bs kSELECT = ⟨#[83, 69, 76, 69, 67, 84]⟩ from rfl] at HKw
  dsimp only at HKw
  have cX := cell_of_row _ _ 0 _ _ _ HP6.out
  go_wp2_with fail
  clear cX
  refine HKw.out.mono ?_
  rintro e w7 ⟨rfl, h1, h2⟩
  have HP7 := Lib.hid ((h2.block X (Array.getElem?_eq_some_iff.1 HP6.out).1 HXN.out).trans HP6.out)
  have HS7 := Lib.hid h1
  have HT7 := Lib.hid (HT6.out.trans h2)
  have HX7 := Lib.hid ((h2.block _ (Array.getElem?_eq_some_iff.1 HX6.out).1 (by have := HN.out; omega)).trans HX6.out)
  have HL7 := Lib.hid (Nat.le_trans HL6.out h2.size)
  clear h1 h2 HKw
  have HCl := Lib.hid (pquery_any N w7 b off wn wc ws s6 HS7.out HRc.out)
  obtain ⟨q, hq⟩ : ∃ q, q = queryR ws s6 := ⟨_, rfl⟩
  rw [← hq] at HIt HCl
  clear hq
  obtain ⟨lq, s7⟩ := q
  try dsimp only at HIt HCl
  have cX := cell_of_row _ _ 0 _ _ _ HP7.out
  go_wp2_with fail
  clear cX
  refine HCl.out.mono ?_
  rintro e w8 ⟨⟨_, rfl, _, rfl, vi, vf, vw, vg, vo, rfl, ⟨aqi, cqi, rfl, hvi⟩, ⟨aqf, cqf, rfl, hvf⟩, ⟨aqw, cqw, rfl, hvw⟩, ⟨aqg, cqg, rfl, hvg⟩, ⟨aqo, cqo, rfl, hvo⟩, hvl⟩, h1, h2⟩
  have hv : QuV w8 (fun b => w7.heap.size ≤ b) [.bool lq.dist, .bool lq.star, .slice aqi lq.items.length cqi, .slice aqf lq.src.length cqf, .slice aqw lq.whr.length cqw, .slice aqg lq.group.length cqg, .slice aqo lq.ord.length cqo, .int .i64 lq.lim] lq := ⟨_, _, _, _, _, rfl, ⟨aqi, cqi, rfl, hvi⟩, ⟨aqf, cqf, rfl, hvf⟩, ⟨aqw, cqw, rfl, hvw⟩, ⟨aqg, cqg, rfl, hvg⟩, ⟨aqo, cqo, rfl, hvo⟩, hvl⟩
  clear hvi hvf hvw hvg hvo hvl
  have HP8 := Lib.hid ((h2.block X (Array.getElem?_eq_some_iff.1 HP7.out).1 HXN.out).trans HP7.out)
  have HS8 := Lib.hid h1
  have HT8 := Lib.hid (HT7.out.trans h2)
  have HX8 := Lib.hid ((h2.block _ (Array.getElem?_eq_some_iff.1 HX7.out).1 (by have := HN.out; omega)).trans HX7.out)
  have HL8 := Lib.hid (Nat.le_trans HL7.out h2.size)
  have HVq8 := Lib.hid (hv.mono (Q' := fun b => w1.heap.size ≤ b) (fun b hb _ => Nat.le_trans HL7.out hb))
  clear hv h1 h2 HCl
  have HWq := Lib.hid ((HVq8.out.far (w' := setLe w8 w.heap.size 0 [.int .i64 10, .string ⟨#[]⟩, .string ⟨#[]⟩, .bool false, .slice none 0 0, .slice none 0 0, .slice none 0 0, .slice none 0 0, .slice none 0 0, .bool lq.dist, .bool lq.star, .slice aqi lq.items.length cqi, .slice aqf lq.src.length cqf, .slice aqw lq.whr.length cqw, .slice aqg lq.group.length cqg, .slice aqo lq.ord.length cqo, .int .i64 lq.lim]) (by rw [setLe_size]; exact Nat.le_refl _) (fun b hb hlt => setLe_other (by have := HW1.out; have := hb; omega) _ _ _)).mono (Q' := fun b => w.heap.size ≤ b) (fun b hb _ => by have := HW1.out; have := hb; omega))
  have HR := Lib.hid (show statementR ws s0 = ({ zST with kind := 10, q := lq }, s7) from HIt.out)
  have HFin := Lib.hid (wbox_sm HX8.out (.int .i64 10) (.string ⟨#[]⟩) (.string ⟨#[]⟩) (.bool false) (.slice none 0 0) (.slice none 0 0) (.slice none 0 0) (.slice none 0 0) (.slice none 0 0) (.bool lq.dist) (.bool lq.star) (.slice aqi lq.items.length cqi) (.slice aqf lq.src.length cqf) (.slice aqw lq.whr.length cqw) (.slice aqg lq.group.length cqg) (.slice aqo lq.ord.length cqo) (.int .i64 lq.lim))
  have HF1 := Lib.hid (HS8.out.setLe (R := w.heap.size) HN.out 0 [.int .i64 10, .string ⟨#[]⟩, .string ⟨#[]⟩, .bool false, .slice none 0 0, .slice none 0 0, .slice none 0 0, .slice none 0 0, .slice none 0 0, .bool lq.dist, .bool lq.star, .slice aqi lq.items.length cqi, .slice aqf lq.src.length cqf, .slice aqw lq.whr.length cqw, .slice aqg lq.group.length cqg, .slice aqo lq.ord.length cqo, .int .i64 lq.lim])
  have HF2 := Lib.hid (HT8.out.setLe (R := w.heap.size) (Nat.le_of_lt HN.out) (Nat.le_refl _) 0 [.int .i64 10, .string ⟨#[]⟩, .string ⟨#[]⟩, .bool false, .slice none 0 0, .slice none 0 0, .slice none 0 0, .slice none 0 0, .slice none 0 0, .bool lq.dist, .bool lq.star, .slice aqi lq.items.length cqi, .slice aqf lq.src.length cqf, .slice aqw lq.whr.length cqw, .slice aqg lq.group.length cqg, .slice aqo lq.ord.length cqo, .int .i64 lq.lim])
  rename_i K hK
  dsimp only
  refine hK _ _ ?_
  refine wpl_lit rfl _ _ rfl _ rfl [.int .i64 10, .string ⟨#[]⟩, .string ⟨#[]⟩, .bool false, .slice none 0 0, .slice none 0 0, .slice none 0 0, .slice none 0 0, .slice none 0 0, .bool lq.dist, .bool lq.star, .slice aqi lq.items.length cqi, .slice aqf lq.src.length cqf, .slice aqw lq.whr.length cqw, .slice aqg lq.group.length cqg, .slice aqo lq.ord.length cqo, .int .i64 lq.lim] (by kernel_rfl) rfl _ _ _ rfl _ rfl w.heap.size rfl rfl _ _ HX8.out (by kernel_rfl) rfl rfl ?_
  refine wpList_nil ?_
  go_wp2
  refine bodyPost_ret (results_sm rfl _ _ w.heap.size _ _ _ _ _ _ _ _ _ _ _ _ _ _ _ _ _ rfl HFin.out) rfl ?_
  rw [HR.out]
  exact ⟨⟨_, rfl, _, rfl, _, _, _, _, _, _, rfl, SlV.nil _ _ _, SlV.nil _ _ _, SlV.nil _ _ _, SlV.nil _ _ _, LeV.nil _ _, HWq.out, rfl, eB_le, eB_le⟩, HF1.out, HF2.out⟩
end Go.Proofs.YtknhphcfcpjhiaaGreatDoor
