/- The package's reader of statements: statement. Written by genpst.py. -/
import Derived.Test.YtknhphcfcpjhiaaGreatDoorPsLRo
namespace Go.Proofs.YtknhphcfcpjhiaaGreatDoor
open Go.RowKit
set_option linter.unusedVariables false
set_option linter.unusedSimpArgs false
set_option maxRecDepth 100000
def SmV (w : World) (Q : Nat → Prop) (cs : List Value) (q : ST) : Prop := smS.R w Q cs q
theorem SmV.far {w w' : World} {Q : Nat → Prop} {cs : List Value} {q : ST} (h : SmV w Q cs q) (hs : w.heap.size ≤ w'.heap.size) (hb : ∀ b, Q b → b < w.heap.size → w'.heap[b]? = w.heap[b]?) : SmV w' Q cs q := smS.far h hs hb
theorem SmV.mono {w : World} {Q Q' : Nat → Prop} {cs : List Value} {q : ST} (h : SmV w Q cs q) (hq : ∀ b, Q b → b < w.heap.size → Q' b) : SmV w Q' cs q := smS.mono h hq
theorem psv_up {α : Type} {S : Shp α} {N : Nat} {w0 w : World} {wa : Option Addr} {wn wc : Nat} {ws : List Wd} {r : α × PS} {e : Ending} {w' : World} (ht : RTo N w0 w) (h : PsV (AgV S) N w wa wn wc ws r e w') : PsV (AgV S) N w0 wa wn wc ws r e w' := by
  obtain ⟨⟨v, rfl, cs, rfl, hr⟩, h1, h2⟩ := h
  exact ⟨⟨_, rfl, cs, rfl, S.mono hr (fun b hb _ => Nat.le_trans ht.size hb)⟩, h1, ht.trans h2⟩
theorem rto_drew {N : Nat} {w w' : World} (h : RTo N w w') : RTo N w w'.drew := ⟨h.below.drew, h.block⟩
theorem rds_drew {N : Nat} {w : World} {wa : Option Addr} {wn wc : Nat} {ws : List Wd} {s : PS} (h : RdS N w wa wn wc ws s) : RdS N w.drew wa wn wc ws s := ⟨h.rd, h.words, h.pos, h.met⟩
def sI2 (ws : List Wd) (nm : ByteArray) (r : List (List ET) × PS) : ST × PS := ({ zST with kind := 7, name := nm, rows := r.1 }, r.2)
def sI (ws : List Wd) (r : ByteArray × PS) : ST × PS := sI2 ws r.1 (listR ws (brackR ws (exprR ws)) (mustK ws [kVALUES] r.2))
def sU3 (ws : List Wd) (nm : ByteArray) (l : List As) (r : List ET × PS) : ST × PS := ({ zST with kind := 8, name := nm, sets := l, whr := r.1 }, r.2)
def sU2 (ws : List Wd) (nm : ByteArray) (r : List As × PS) : ST × PS := sU3 ws nm r.1 (whereR ws r.2)
def sU (ws : List Wd) (r : ByteArray × PS) : ST × PS := sU2 ws r.1 (listR ws (assignR ws) (mustK ws [kSET] r.2))
def sX2 (ws : List Wd) (nm : ByteArray) (r : List ET × PS) : ST × PS := ({ zST with kind := 9, name := nm, whr := r.1 }, r.2)
def sX (ws : List Wd) (r : ByteArray × PS) : ST × PS := sX2 ws r.1 (whereR ws r.2)
def sS (ws : List Wd) (r : QT × PS) : ST × PS := ({ zST with kind := 10, q := r.1 }, r.2)
theorem statementR_eq (ws : List Wd) (s : PS) : statementR ws s = if (takeR ws 1 kCREATE s).1 = true then createR ws (takeR ws 1 kCREATE s).2 else if (takeR ws 1 kDROP (takeR ws 1 kCREATE s).2).1 = true then dropR ws (takeR ws 1 kDROP (takeR ws 1 kCREATE s).2).2 else if (takeR ws 1 kINSERT (takeR ws 1 kDROP (takeR ws 1 kCREATE s).2).2).1 = true then sI ws (nameR ws (mustK ws [kINTO] (takeR ws 1 kINSERT (takeR ws 1 kDROP (takeR ws 1 kCREATE s).2).2).2)) else if (takeR ws 1 kUPDATE (takeR ws 1 kINSERT (takeR ws 1 kDROP (takeR ws 1 kCREATE s).2).2).2).1 = true then sU ws (nameR ws (takeR ws 1 kUPDATE (takeR ws 1 kINSERT (takeR ws 1 kDROP (takeR ws 1 kCREATE s).2).2).2).2) else if (takeR ws 1 kDELETE (takeR ws 1 kUPDATE (takeR ws 1 kINSERT (takeR ws 1 kDROP (takeR ws 1 kCREATE s).2).2).2).2).1 = true then sX ws (nameR ws (mustK ws [kFROM] (takeR ws 1 kDELETE (takeR ws 1 kUPDATE (takeR ws 1 kINSERT (takeR ws 1 kDROP (takeR ws 1 kCREATE s).2).2).2).2).2)) else if (takeR ws 1 kSELECT (takeR ws 1 kDELETE (takeR ws 1 kUPDATE (takeR ws 1 kINSERT (takeR ws 1 kDROP (takeR ws 1 kCREATE s).2).2).2).2).2).1 = true then sS ws (queryR ws (takeR ws 1 kSELECT (takeR ws 1 kDELETE (takeR ws 1 kUPDATE (takeR ws 1 kINSERT (takeR ws 1 kDROP (takeR ws 1 kCREATE s).2).2).2).2).2).2) else if (takeR ws 1 kBEGIN (takeR ws 1 kSELECT (takeR ws 1 kDELETE (takeR ws 1 kUPDATE (takeR ws 1 kINSERT (takeR ws 1 kDROP (takeR ws 1 kCREATE s).2).2).2).2).2).2).1 = true then ({ zST with kind := 11 }, (takeR ws 1 kBEGIN (takeR ws 1 kSELECT (takeR ws 1 kDELETE (takeR ws 1 kUPDATE (takeR ws 1 kINSERT (takeR ws 1 kDROP (takeR ws 1 kCREATE s).2).2).2).2).2).2).2) else if (takeR ws 1 kCOMMIT (takeR ws 1 kBEGIN (takeR ws 1 kSELECT (takeR ws 1 kDELETE (takeR ws 1 kUPDATE (takeR ws 1 kINSERT (takeR ws 1 kDROP (takeR ws 1 kCREATE s).2).2).2).2).2).2).2).1 = true then ({ zST with kind := 12 }, (takeR ws 1 kCOMMIT (takeR ws 1 kBEGIN (takeR ws 1 kSELECT (takeR ws 1 kDELETE (takeR ws 1 kUPDATE (takeR ws 1 kINSERT (takeR ws 1 kDROP (takeR ws 1 kCREATE s).2).2).2).2).2).2).2).2) else if (takeR ws 1 kROLLBACK (takeR ws 1 kCOMMIT (takeR ws 1 kBEGIN (takeR ws 1 kSELECT (takeR ws 1 kDELETE (takeR ws 1 kUPDATE (takeR ws 1 kINSERT (takeR ws 1 kDROP (takeR ws 1 kCREATE s).2).2).2).2).2).2).2).2).1 = true then ({ zST with kind := 13 }, (takeR ws 1 kROLLBACK (takeR ws 1 kCOMMIT (takeR ws 1 kBEGIN (takeR ws 1 kSELECT (takeR ws 1 kDELETE (takeR ws 1 kUPDATE (takeR ws 1 kINSERT (takeR ws 1 kDROP (takeR ws 1 kCREATE s).2).2).2).2).2).2).2).2).2) else (zST, fl 3 (takeR ws 1 kROLLBACK (takeR ws 1 kCOMMIT (takeR ws 1 kBEGIN (takeR ws 1 kSELECT (takeR ws 1 kDELETE (takeR ws 1 kUPDATE (takeR ws 1 kINSERT (takeR ws 1 kDROP (takeR ws 1 kCREATE s).2).2).2).2).2).2).2).2).2) := rfl
end Go.Proofs.YtknhphcfcpjhiaaGreatDoor
namespace Go.Proofs.YtknhphcfcpjhiaaGreatDoor
open Go.RowKit
set_option linter.unusedVariables false
set_option linter.unusedSimpArgs false
set_option maxRecDepth 100000
set_option maxHeartbeats 6400000 in
theorem pstm_0 (N : Nat) (w0 : World) (b off : Nat) (wn wc : Nat) (ws : List Wd) (s0 s1 : PS) (h : RdS N w0 (some ⟨b, off, none⟩) wn wc ws s0) (hr : RCx b off wn wc ws) (hc : takeR ws 1 kCREATE s0 = (true, s1)) :
    Calls Tryz.prog 19 #[.pointer (some ⟨N, 0, none⟩)] w0 (PsV (AgV smS) N w0 (some ⟨b, off, none⟩) wn wc ws (statementR ws s0)) := by
  have hB0 := bel0 (.cells #[.pointer (some ⟨N, 0, none⟩)] 107) (Below.refl w0.heap.size w0)
  have hlow := h.low
  refine Calls.mono (R := PsV (AgV smS) N (w0.alloc (.cells #[.pointer (some ⟨N, 0, none⟩)] 107)) (some ⟨b, off, none⟩) wn wc ws (statementR ws s0)) ?_ (fun e w' hp => psv_up (RTo.of_below (N := N) hB0 (Nat.le_of_lt hlow)) hp)
  have hXp := Go.heap_alloc_new w0 (.cells #[.pointer (some ⟨N, 0, none⟩)] 107 (0, 0))
  have hsz : (w0.alloc (.cells #[.pointer (some ⟨N, 0, none⟩)] 107)).heap.size = w0.heap.size + 1 := by simp
  have h1 := h.below hB0
  have HXN := Lib.hid (show w0.heap.size ≠ N by omega)
  clear h hB0 hlow
  go_enter Tryz.func19, Tryz.ntmps19
  go_upto_region 1 with (fail)
  generalize w0.alloc (.cells #[.pointer (some ⟨N, 0, none⟩)] 107) = w at *
  rw [← hsz]
  generalize w0.heap.size = X at *
  have HRc := Lib.hid hr
  have HN := Lib.hid h1.low
  have HIt := Lib.hid (show statementR ws s0 = createR ws s1 by rw [statementR_eq]; simp only [hc, if_true, if_false, Bool.false_eq_true])
  have HB := Lib.hid (bel0 (.cells #[.int .i64 0, .string ⟨#[]⟩, .string ⟨#[]⟩, .bool false, .slice none 0 0, .slice none 0 0, .slice none 0 0, .slice none 0 0, .slice none 0 0, .bool false, .bool false, .slice none 0 0, .slice none 0 0, .slice none 0 0, .slice none 0 0, .slice none 0 0, .int .i64 0] 45) (Below.refl w.heap.size w))
  have HX1 := Lib.hid (Go.heap_alloc_new w (.cells #[.int .i64 0, .string ⟨#[]⟩, .string ⟨#[]⟩, .bool false, .slice none 0 0, .slice none 0 0, .slice none 0 0, .slice none 0 0, .slice none 0 0, .bool false, .bool false, .slice none 0 0, .slice none 0 0, .slice none 0 0, .slice none 0 0, .slice none 0 0, .int .i64 0] 45 (0, 0)))
  have HS1 := Lib.hid (h1.below HB.out)
  have HT1 := Lib.hid (RTo.of_below (N := N) HB.out (Nat.le_of_lt h1.low))
  have HW1 := Lib.hid (show w.heap.size < (w.alloc (.cells #[.int .i64 0, .string ⟨#[]⟩, .string ⟨#[]⟩, .bool false, .slice none 0 0, .slice none 0 0, .slice none 0 0, .slice none 0 0, .slice none 0 0, .bool false, .bool false, .slice none 0 0, .slice none 0 0, .slice none 0 0, .slice none 0 0, .slice none 0 0, .int .i64 0] 45)).heap.size from (Array.getElem?_eq_some_iff.1 HX1.out).1)
  have HXw := Lib.hid (show X < w.heap.size from (Array.getElem?_eq_some_iff.1 hXp).1)
  have HP1 := Lib.hid ((HB.out.block X HXw.out).trans hXp)
  have HHC := Lib.hid hc
  clear h1 hr hXp hsz hc
  generalize w.alloc (.cells #[.int .i64 0, .string ⟨#[]⟩, .string ⟨#[]⟩, .bool false, .slice none 0 0, .slice none 0 0, .slice none 0 0, .slice none 0 0, .slice none 0 0, .bool false, .bool false, .slice none 0 0, .slice none 0 0, .slice none 0 0, .slice none 0 0, .slice none 0 0, .int .i64 0] 45) = w1 at *
  have HL1 := Lib.hid (Nat.le_refl w1.heap.size)
  have HKw := Lib.hid (pkeyword_any kCREATE N w1 _ wn wc ws s0 HS1.out)
  rw [HHC.out, show bs kCREATE = ⟨#[67, 82, 69, 65, 84, 69]⟩ from rfl] at HKw
  dsimp only at HKw
  have cX := cell_of_row _ _ 0 _ _ _ HP1.out
  go_wp2_with fail
  clear cX
  refine HKw.out.mono ?_
  rintro e w2 ⟨rfl, h1, h2⟩
  have HP2 := Lib.hid ((h2.block X (Array.getElem?_eq_some_iff.1 HP1.out).1 HXN.out).trans HP1.out)
  have HS2 := Lib.hid h1
  have HT2 := Lib.hid (HT1.out.trans h2)
  have HX2 := Lib.hid ((h2.block _ (Array.getElem?_eq_some_iff.1 HX1.out).1 (by have := HN.out; omega)).trans HX1.out)
  have HL2 := Lib.hid (Nat.le_trans HL1.out h2.size)
  clear h1 h2 HKw
  have HCl := Lib.hid (pcreate_any N w2 b off wn wc ws s1 HS2.out HRc.out)
  obtain ⟨q, hq⟩ : ∃ q, q = createR ws s1 := ⟨_, rfl⟩
  rw [← hq] at HIt HCl
  clear hq
  obtain ⟨lz, s2⟩ := q
  try dsimp only at HIt HCl
  have cX := cell_of_row _ _ 0 _ _ _ HP2.out
  go_wp2_with fail
  clear cX
  refine HCl.out.mono ?_
  rintro e w3 ⟨⟨_, rfl, _, rfl, _, _, _, _, _, _, rfl, ⟨azc, czc, rfl, hzc⟩, ⟨azk, czk, rfl, hzk⟩, ⟨azr, czr, rfl, hzr⟩, ⟨azs, czs, rfl, hzs⟩, ⟨azw, czw, rfl, hzw⟩, ⟨_, _, _, _, _, rfl, ⟨aqi, cqi, rfl, hvi⟩, ⟨aqf, cqf, rfl, hvf⟩, ⟨aqw, cqw, rfl, hvw⟩, ⟨aqg, cqg, rfl, hvg⟩, ⟨aqo, cqo, rfl, hvo⟩, hvl⟩, hzz⟩, h1, h2⟩
  have hv : SmV w3 (fun b => w2.heap.size ≤ b) [.int .i64 lz.kind, .string lz.name, .string lz.on, .bool lz.uniq, .slice azc lz.cols.length czc, .slice azk lz.keys.length czk, .slice azr lz.rows.length czr, .slice azs lz.sets.length czs, .slice azw lz.whr.length czw, .bool lz.q.dist, .bool lz.q.star, .slice aqi lz.q.items.length cqi, .slice aqf lz.q.src.length cqf, .slice aqw lz.q.whr.length cqw, .slice aqg lz.q.group.length cqg, .slice aqo lz.q.ord.length cqo, .int .i64 lz.q.lim] lz := ⟨_, _, _, _, _, _, rfl, ⟨azc, czc, rfl, hzc⟩, ⟨azk, czk, rfl, hzk⟩, ⟨azr, czr, rfl, hzr⟩, ⟨azs, czs, rfl, hzs⟩, ⟨azw, czw, rfl, hzw⟩, ⟨_, _, _, _, _, rfl, ⟨aqi, cqi, rfl, hvi⟩, ⟨aqf, cqf, rfl, hvf⟩, ⟨aqw, cqw, rfl, hvw⟩, ⟨aqg, cqg, rfl, hvg⟩, ⟨aqo, cqo, rfl, hvo⟩, hvl⟩, hzz⟩
  clear hvi hvf hvw hvg hvo hvl hzc hzk hzr hzs hzw hzz
  have HP3 := Lib.hid ((h2.block X (Array.getElem?_eq_some_iff.1 HP2.out).1 HXN.out).trans HP2.out)
  have HS3 := Lib.hid h1
  have HT3 := Lib.hid (HT2.out.trans h2)
  have HX3 := Lib.hid ((h2.block _ (Array.getElem?_eq_some_iff.1 HX2.out).1 (by have := HN.out; omega)).trans HX2.out)
  have HL3 := Lib.hid (Nat.le_trans HL2.out h2.size)
  have HVz3 := Lib.hid (hv.mono (Q' := fun b => w1.heap.size ≤ b) (fun b hb _ => Nat.le_trans HL2.out hb))
  clear hv h1 h2 HCl
  have HWz := Lib.hid ((HVz3.out.far (w' := setLe w3 w.heap.size 0 [.int .i64 lz.kind, .string lz.name, .string lz.on, .bool lz.uniq, .slice azc lz.cols.length czc, .slice azk lz.keys.length czk, .slice azr lz.rows.length czr, .slice azs lz.sets.length czs, .slice azw lz.whr.length czw, .bool lz.q.dist, .bool lz.q.star, .slice aqi lz.q.items.length cqi, .slice aqf lz.q.src.length cqf, .slice aqw lz.q.whr.length cqw, .slice aqg lz.q.group.length cqg, .slice aqo lz.q.ord.length cqo, .int .i64 lz.q.lim]) (by rw [setLe_size]; exact Nat.le_refl _) (fun b hb hlt => setLe_other (by have := HW1.out; have := hb; omega) _ _ _)).mono (Q' := fun b => w.heap.size ≤ b) (fun b hb _ => by have := HW1.out; have := hb; omega))
  have HR := Lib.hid (show statementR ws s0 = (lz, s2) from HIt.out)
  have HFin := Lib.hid (wbox_sm HX3.out (.int .i64 lz.kind) (.string lz.name) (.string lz.on) (.bool lz.uniq) (.slice azc lz.cols.length czc) (.slice azk lz.keys.length czk) (.slice azr lz.rows.length czr) (.slice azs lz.sets.length czs) (.slice azw lz.whr.length czw) (.bool lz.q.dist) (.bool lz.q.star) (.slice aqi lz.q.items.length cqi) (.slice aqf lz.q.src.length cqf) (.slice aqw lz.q.whr.length cqw) (.slice aqg lz.q.group.length cqg) (.slice aqo lz.q.ord.length cqo) (.int .i64 lz.q.lim))
  have HF1 := Lib.hid (HS3.out.setLe (R := w.heap.size) HN.out 0 [.int .i64 lz.kind, .string lz.name, .string lz.on, .bool lz.uniq, .slice azc lz.cols.length czc, .slice azk lz.keys.length czk, .slice azr lz.rows.length czr, .slice azs lz.sets.length czs, .slice azw lz.whr.length czw, .bool lz.q.dist, .bool lz.q.star, .slice aqi lz.q.items.length cqi, .slice aqf lz.q.src.length cqf, .slice aqw lz.q.whr.length cqw, .slice aqg lz.q.group.length cqg, .slice aqo lz.q.ord.length cqo, .int .i64 lz.q.lim])
  have HF2 := Lib.hid (HT3.out.setLe (R := w.heap.size) (Nat.le_of_lt HN.out) (Nat.le_refl _) 0 [.int .i64 lz.kind, .string lz.name, .string lz.on, .bool lz.uniq, .slice azc lz.cols.length czc, .slice azk lz.keys.length czk, .slice azr lz.rows.length czr, .slice azs lz.sets.length czs, .slice azw lz.whr.length czw, .bool lz.q.dist, .bool lz.q.star, .slice aqi lz.q.items.length cqi, .slice aqf lz.q.src.length cqf, .slice aqw lz.q.whr.length cqw, .slice aqg lz.q.group.length cqg, .slice aqo lz.q.ord.length cqo, .int .i64 lz.q.lim])
  rename_i K hK
  dsimp only
  refine hK _ _ ?_
  refine wpl_store rfl _ _ _ rfl _ rfl w.heap.size [.int .i64 lz.kind, .string lz.name, .string lz.on, .bool lz.uniq, .slice azc lz.cols.length czc, .slice azk lz.keys.length czk, .slice azr lz.rows.length czr, .slice azs lz.sets.length czs, .slice azw lz.whr.length czw, .bool lz.q.dist, .bool lz.q.star, .slice aqi lz.q.items.length cqi, .slice aqf lz.q.src.length cqf, .slice aqw lz.q.whr.length cqw, .slice aqg lz.q.group.length cqg, .slice aqo lz.q.ord.length cqo, .int .i64 lz.q.lim] rfl rfl _ _ HX3.out (by kernel_rfl) rfl rfl ?_
  refine wpList_nil ?_
  go_wp2
  refine bodyPost_ret (results_sm rfl _ _ w.heap.size _ _ _ _ _ _ _ _ _ _ _ _ _ _ _ _ _ rfl HFin.out) rfl ?_
  rw [HR.out]
  exact ⟨⟨_, rfl, _, rfl, HWz.out⟩, HF1.out, HF2.out⟩
end Go.Proofs.YtknhphcfcpjhiaaGreatDoor
namespace Go.Proofs.YtknhphcfcpjhiaaGreatDoor
open Go.RowKit
set_option linter.unusedVariables false
set_option linter.unusedSimpArgs false
set_option maxRecDepth 100000
set_option maxHeartbeats 6400000 in
theorem pstm_1 (N : Nat) (w0 : World) (b off : Nat) (wn wc : Nat) (ws : List Wd) (s0 s1 s2 : PS) (h : RdS N w0 (some ⟨b, off, none⟩) wn wc ws s0) (hr : RCx b off wn wc ws) (hc : takeR ws 1 kCREATE s0 = (false, s1)) (hd : takeR ws 1 kDROP s1 = (true, s2)) :
    Calls Tryz.prog 19 #[.pointer (some ⟨N, 0, none⟩)] w0 (PsV (AgV smS) N w0 (some ⟨b, off, none⟩) wn wc ws (statementR ws s0)) := by
  have hB0 := bel0 (.cells #[.pointer (some ⟨N, 0, none⟩)] 107) (Below.refl w0.heap.size w0)
  have hlow := h.low
  refine Calls.mono (R := PsV (AgV smS) N (w0.alloc (.cells #[.pointer (some ⟨N, 0, none⟩)] 107)) (some ⟨b, off, none⟩) wn wc ws (statementR ws s0)) ?_ (fun e w' hp => psv_up (RTo.of_below (N := N) hB0 (Nat.le_of_lt hlow)) hp)
  have hXp := Go.heap_alloc_new w0 (.cells #[.pointer (some ⟨N, 0, none⟩)] 107 (0, 0))
  have hsz : (w0.alloc (.cells #[.pointer (some ⟨N, 0, none⟩)] 107)).heap.size = w0.heap.size + 1 := by simp
  have h1 := h.below hB0
  have HXN := Lib.hid (show w0.heap.size ≠ N by omega)
  clear h hB0 hlow
  go_enter Tryz.func19, Tryz.ntmps19
  go_upto_region 1 with (fail)
  generalize w0.alloc (.cells #[.pointer (some ⟨N, 0, none⟩)] 107) = w at *
  rw [← hsz]
  generalize w0.heap.size = X at *
  have HRc := Lib.hid hr
  have HN := Lib.hid h1.low
  have HIt := Lib.hid (show statementR ws s0 = dropR ws s2 by rw [statementR_eq]; simp only [hc, hd, if_true, if_false, Bool.false_eq_true])
  have HB := Lib.hid (bel0 (.cells #[.int .i64 0, .string ⟨#[]⟩, .string ⟨#[]⟩, .bool false, .slice none 0 0, .slice none 0 0, .slice none 0 0, .slice none 0 0, .slice none 0 0, .bool false, .bool false, .slice none 0 0, .slice none 0 0, .slice none 0 0, .slice none 0 0, .slice none 0 0, .int .i64 0] 45) (Below.refl w.heap.size w))
  have HX1 := Lib.hid (Go.heap_alloc_new w (.cells #[.int .i64 0, .string ⟨#[]⟩, .string ⟨#[]⟩, .bool false, .slice none 0 0, .slice none 0 0, .slice none 0 0, .slice none 0 0, .slice none 0 0, .bool false, .bool false, .slice none 0 0, .slice none 0 0, .slice none 0 0, .slice none 0 0, .slice none 0 0, .int .i64 0] 45 (0, 0)))
  have HS1 := Lib.hid (h1.below HB.out)
  have HT1 := Lib.hid (RTo.of_below (N := N) HB.out (Nat.le_of_lt h1.low))
  have HW1 := Lib.hid (show w.heap.size < (w.alloc (.cells #[.int .i64 0, .string ⟨#[]⟩, .string ⟨#[]⟩, .bool false, .slice none 0 0, .slice none 0 0, .slice none 0 0, .slice none 0 0, .slice none 0 0, .bool false, .bool false, .slice none 0 0, .slice none 0 0, .slice none 0 0, .slice none 0 0, .slice none 0 0, .int .i64 0] 45)).heap.size from (Array.getElem?_eq_some_iff.1 HX1.out).1)
  have HXw := Lib.hid (show X < w.heap.size from (Array.getElem?_eq_some_iff.1 hXp).1)
  have HP1 := Lib.hid ((HB.out.block X HXw.out).trans hXp)
  have HHC := Lib.hid hc
  have HHD := Lib.hid hd
  clear h1 hr hXp hsz hc hd
  generalize w.alloc (.cells #[.int .i64 0, .string ⟨#[]⟩, .string ⟨#[]⟩, .bool false, .slice none 0 0, .slice none 0 0, .slice none 0 0, .slice none 0 0, .slice none 0 0, .bool false, .bool false, .slice none 0 0, .slice none 0 0, .slice none 0 0, .slice none 0 0, .slice none 0 0, .int .i64 0] 45) = w1 at *
  have HL1 := Lib.hid (Nat.le_refl w1.heap.size)
  have HKw := Lib.hid (pkeyword_any kCREATE N w1 _ wn wc ws s0 HS1.out)
  rw [HHC.out, show bs kCREATE = ⟨#[67, 82, 69, 65, 84, 69]⟩ from rfl] at HKw
  dsimp only at HKw
  have cX := cell_of_row _ _ 0 _ _ _ HP1.out
  go_wp2_with fail
  clear cX
  refine HKw.out.mono ?_
  rintro e w2 ⟨rfl, h1, h2⟩
  have HP2 := Lib.hid ((h2.block X (Array.getElem?_eq_some_iff.1 HP1.out).1 HXN.out).trans HP1.out)
  have HS2 := Lib.hid h1
  have HT2 := Lib.hid (HT1.out.trans h2)
  have HX2 := Lib.hid ((h2.block _ (Array.getElem?_eq_some_iff.1 HX1.out).1 (by have := HN.out; omega)).trans HX1.out)
  have HL2 := Lib.hid (Nat.le_trans HL1.out h2.size)
  clear h1 h2 HKw
  have HKw := Lib.hid (pkeyword_any kDROP N w2 _ wn wc ws s1 HS2.out)
  rw [HHD.out, show bs kDROP = ⟨#[68, 82, 79, 80]⟩ from rfl] at HKw
  dsimp only at HKw
  have cX := cell_of_row _ _ 0 _ _ _ HP2.out
  go_wp2_with fail
  clear cX
  refine HKw.out.mono ?_
  rintro e w3 ⟨rfl, h1, h2⟩
  have HP3 := Lib.hid ((h2.block X (Array.getElem?_eq_some_iff.1 HP2.out).1 HXN.out).trans HP2.out)
  have HS3 := Lib.hid h1
  have HT3 := Lib.hid (HT2.out.trans h2)
  have HX3 := Lib.hid ((h2.block _ (Array.getElem?_eq_some_iff.1 HX2.out).1 (by have := HN.out; omega)).trans HX2.out)
  have HL3 := Lib.hid (Nat.le_trans HL2.out h2.size)
  clear h1 h2 HKw
  have HCl := Lib.hid (pdrop_any N w3 b off wn wc ws s2 HS3.out HRc.out)
  obtain ⟨q, hq⟩ : ∃ q, q = dropR ws s2 := ⟨_, rfl⟩
  rw [← hq] at HIt HCl
  clear hq
  obtain ⟨lz, s3⟩ := q
  try dsimp only at HIt HCl
  have cX := cell_of_row _ _ 0 _ _ _ HP3.out
  go_wp2_with fail
  clear cX
  refine HCl.out.mono ?_
  rintro e w4 ⟨⟨_, rfl, _, rfl, _, _, _, _, _, _, rfl, ⟨azc, czc, rfl, hzc⟩, ⟨azk, czk, rfl, hzk⟩, ⟨azr, czr, rfl, hzr⟩, ⟨azs, czs, rfl, hzs⟩, ⟨azw, czw, rfl, hzw⟩, ⟨_, _, _, _, _, rfl, ⟨aqi, cqi, rfl, hvi⟩, ⟨aqf, cqf, rfl, hvf⟩, ⟨aqw, cqw, rfl, hvw⟩, ⟨aqg, cqg, rfl, hvg⟩, ⟨aqo, cqo, rfl, hvo⟩, hvl⟩, hzz⟩, h1, h2⟩
  have hv : SmV w4 (fun b => w3.heap.size ≤ b) [.int .i64 lz.kind, .string lz.name, .string lz.on, .bool lz.uniq, .slice azc lz.cols.length czc, .slice azk lz.keys.length czk, .slice azr lz.rows.length czr, .slice azs lz.sets.length czs, .slice azw lz.whr.length czw, .bool lz.q.dist, .bool lz.q.star, .slice aqi lz.q.items.length cqi, .slice aqf lz.q.src.length cqf, .slice aqw lz.q.whr.length cqw, .slice aqg lz.q.group.length cqg, .slice aqo lz.q.ord.length cqo, .int .i64 lz.q.lim] lz := ⟨_, _, _, _, _, _, rfl, ⟨azc, czc, rfl, hzc⟩, ⟨azk, czk, rfl, hzk⟩, ⟨azr, czr, rfl, hzr⟩, ⟨azs, czs, rfl, hzs⟩, ⟨azw, czw, rfl, hzw⟩, ⟨_, _, _, _, _, rfl, ⟨aqi, cqi, rfl, hvi⟩, ⟨aqf, cqf, rfl, hvf⟩, ⟨aqw, cqw, rfl, hvw⟩, ⟨aqg, cqg, rfl, hvg⟩, ⟨aqo, cqo, rfl, hvo⟩, hvl⟩, hzz⟩
  clear hvi hvf hvw hvg hvo hvl hzc hzk hzr hzs hzw hzz
  have HP4 := Lib.hid ((h2.block X (Array.getElem?_eq_some_iff.1 HP3.out).1 HXN.out).trans HP3.out)
  have HS4 := Lib.hid h1
  have HT4 := Lib.hid (HT3.out.trans h2)
  have HX4 := Lib.hid ((h2.block _ (Array.getElem?_eq_some_iff.1 HX3.out).1 (by have := HN.out; omega)).trans HX3.out)
  have HL4 := Lib.hid (Nat.le_trans HL3.out h2.size)
  have HVz4 := Lib.hid (hv.mono (Q' := fun b => w1.heap.size ≤ b) (fun b hb _ => Nat.le_trans HL3.out hb))
  clear hv h1 h2 HCl
  have HWz := Lib.hid ((HVz4.out.far (w' := setLe w4 w.heap.size 0 [.int .i64 lz.kind, .string lz.name, .string lz.on, .bool lz.uniq, .slice azc lz.cols.length czc, .slice azk lz.keys.length czk, .slice azr lz.rows.length czr, .slice azs lz.sets.length czs, .slice azw lz.whr.length czw, .bool lz.q.dist, .bool lz.q.star, .slice aqi lz.q.items.length cqi, .slice aqf lz.q.src.length cqf, .slice aqw lz.q.whr.length cqw, .slice aqg lz.q.group.length cqg, .slice aqo lz.q.ord.length cqo, .int .i64 lz.q.lim]) (by rw [setLe_size]; exact Nat.le_refl _) (fun b hb hlt => setLe_other (by have := HW1.out; have := hb; omega) _ _ _)).mono (Q' := fun b => w.heap.size ≤ b) (fun b hb _ => by have := HW1.out; have := hb; omega))
  have HR := Lib.hid (show statementR ws s0 = (lz, s3) from HIt.out)
  have HFin := Lib.hid (wbox_sm HX4.out (.int .i64 lz.kind) (.string lz.name) (.string lz.on) (.bool lz.uniq) (.slice azc lz.cols.length czc) (.slice azk lz.keys.length czk) (.slice azr lz.rows.length czr) (.slice azs lz.sets.length czs) (.slice azw lz.whr.length czw) (.bool lz.q.dist) (.bool lz.q.star) (.slice aqi lz.q.items.length cqi) (.slice aqf lz.q.src.length cqf) (.slice aqw lz.q.whr.length cqw) (.slice aqg lz.q.group.length cqg) (.slice aqo lz.q.ord.length cqo) (.int .i64 lz.q.lim))
  have HF1 := Lib.hid (HS4.out.setLe (R := w.heap.size) HN.out 0 [.int .i64 lz.kind, .string lz.name, .string lz.on, .bool lz.uniq, .slice azc lz.cols.length czc, .slice azk lz.keys.length czk, .slice azr lz.rows.length czr, .slice azs lz.sets.length czs, .slice azw lz.whr.length czw, .bool lz.q.dist, .bool lz.q.star, .slice aqi lz.q.items.length cqi, .slice aqf lz.q.src.length cqf, .slice aqw lz.q.whr.length cqw, .slice aqg lz.q.group.length cqg, .slice aqo lz.q.ord.length cqo, .int .i64 lz.q.lim])
  have HF2 := Lib.hid (HT4.out.setLe (R := w.heap.size) (Nat.le_of_lt HN.out) (Nat.le_refl _) 0 [.int .i64 lz.kind, .string lz.name, .string lz.on, .bool lz.uniq, .slice azc lz.cols.length czc, .slice azk lz.keys.length czk, .slice azr lz.rows.length czr, .slice azs lz.sets.length czs, .slice azw lz.whr.length czw, .bool lz.q.dist, .bool lz.q.star, .slice aqi lz.q.items.length cqi, .slice aqf lz.q.src.length cqf, .slice aqw lz.q.whr.length cqw, .slice aqg lz.q.group.length cqg, .slice aqo lz.q.ord.length cqo, .int .i64 lz.q.lim])
  rename_i K hK
  dsimp only
  refine hK _ _ ?_
  refine wpl_store rfl _ _ _ rfl _ rfl w.heap.size [.int .i64 lz.kind, .string lz.name, .string lz.on, .bool lz.uniq, .slice azc lz.cols.length czc, .slice azk lz.keys.length czk, .slice azr lz.rows.length czr, .slice azs lz.sets.length czs, .slice azw lz.whr.length czw, .bool lz.q.dist, .bool lz.q.star, .slice aqi lz.q.items.length cqi, .slice aqf lz.q.src.length cqf, .slice aqw lz.q.whr.length cqw, .slice aqg lz.q.group.length cqg, .slice aqo lz.q.ord.length cqo, .int .i64 lz.q.lim] rfl rfl _ _ HX4.out (by kernel_rfl) rfl rfl ?_
  refine wpList_nil ?_
  go_wp2
  refine bodyPost_ret (results_sm rfl _ _ w.heap.size _ _ _ _ _ _ _ _ _ _ _ _ _ _ _ _ _ rfl HFin.out) rfl ?_
  rw [HR.out]
  exact ⟨⟨_, rfl, _, rfl, HWz.out⟩, HF1.out, HF2.out⟩
end Go.Proofs.YtknhphcfcpjhiaaGreatDoor
