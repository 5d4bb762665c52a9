/- The package's taker: close. Written by gentkc.py. -/
import Derived.Test.YtknhphcfcpjhiaaGreatDoorTkAgg
import Derived.Deep.RegionHeld3
namespace Go.Proofs.YtknhphcfcpjhiaaGreatDoor
open Go.RowKit
set_option linter.unusedVariables false
set_option linter.unusedSimpArgs false
set_option maxRecDepth 100000
set_option maxHeartbeats 25600000 in
theorem close_any (A : Nat → Prop) (N : Nat) (w : World) (wa : Option Addr) (wn wc : Nat) (ws : List Wd) (v : Value) (s : Tk) (mr : List PM) (d : Pd) (dl : Nat) (h : TSt A N w wa wn wc ws v s (mr ++ [(d, dl)])) (l : Pt) (lv : Value) (hl : PV w (TQ A N v) lv l) (hd : l.dp < 1000000) (hq : ∀ q, d.left = [q] → q.dp < 1000000) (hk : (Lit.int .i64 d.kind).wf = true) (ho : d.op.size ≤ maxLen) (hlv : InR d.lv) (hls : InR d.least) :
    Calls Tryz.prog 169 #[.pointer (some ⟨N, 0, none⟩), lv] w (PartP A N w wa wn wc ws v (closeP ws l s d (mr.map (·.1)))) := by
  obtain ⟨la, lc, rfl, hlr, hle⟩ := hl
  rw [ptX_arr]
  have H0 := Lib.hid h
  have HLr := Lib.hid hlr
  have HD := Lib.hid hd
  have HQd := Lib.hid hq
  have HKd := Lib.hid hk
  have HOd := Lib.hid ho
  have HLd := Lib.hid hlv
  have HLsd := Lib.hid hls
  have hlow := h.low
  have hone : d.left.length ≤ 1 := h.one (d, dl) (by simp)
  obtain ⟨k, hkk⟩ : ∃ k, k = mr.length := ⟨_, rfl⟩
  obtain ⟨n, hnk⟩ : ∃ n, n = k + 1 := ⟨_, rfl⟩
  have hmsl : (mr ++ [(d, dl)]).length = n := by rw [hnk, hkk]; simp
  obtain ⟨g, c, hv, hgN, hkc, hcm, hgw⟩ := own_sliceP h.own (by rw [hmsl]; omega)
  rw [hmsl] at hv hkc
  subst hv
  have hown := h.own
  rw [hmsl] at hown
  have hrow := own_lastN hnk hown hkk.symm
  obtain ⟨fa, fn, hf, hf2, hf3⟩ : ∃ fa fn, (if d.left = [] then Value.slice none 0 0 else .slice (some ⟨dl, 0, none⟩) 1 1) = .slice fa fn fn ∧ d.left.length = fn ∧ (fa = none → fn = 0) ∧ (∀ b, fa = some b → b = ⟨dl, 0, none⟩) := by
    match hm : d.left, hone with
    | [], _ => exact ⟨none, 0, by simp, rfl, fun _ => rfl, fun b hb => by cases hb⟩
    | [q], _ => exact ⟨some ⟨dl, 0, none⟩, 1, by simp, rfl, fun h => (by cases h), fun b hb => by cases hb; rfl⟩
    | _ :: _ :: _, h => simp at h
  have hX : pmX (d, dl) = [.int .i64 d.kind, .string d.op, .int .i64 0, .int .i64 0, .string ⟨#[]⟩, .string ⟨#[]⟩, .string ⟨#[]⟩, .slice none 0 0, .int .i64 d.lv, .slice fa fn fn, .bool d.closes, .int .i64 d.least] := by
    simp only [pmX, hf]
  rw [hX] at hrow
  have HRow := Lib.hid hrow
  have HF := Lib.hid (And.intro hf2 hf3)
  have HKk := Lib.hid hkk
  have HNk := Lib.hid hnk
  have hkb : n ≤ 100001 := by
    have h1 := h.few
    have h2 := h.pos
    have h3 := h.words.2.1
    rw [← h.are, List.length_map, hmsl] at h1
    omega
  have hB1 := bel0 (.cells #[.int .i64 0, .string ⟨#[]⟩, .int .i64 0, .int .i64 0, .string ⟨#[]⟩, .string ⟨#[]⟩, .string ⟨#[]⟩, .slice none 0 0, .int .i64 0, .int .i64 0] 202) (bel0 (.cells #[.int .i64 l.e.kind, .string l.e.op, .int .i64 l.e.vk, .int .i64 l.e.vn, .string l.e.vs, .string l.e.tab, .string l.e.col, .slice la l.e.parts.length lc, .int .i64 l.lv, .int .i64 l.dp] 202) (Below.refl w.heap.size w))
  have HX := Lib.hid (boxes_lit w (.cells #[.int .i64 l.e.kind, .string l.e.op, .int .i64 l.e.vk, .int .i64 l.e.vn, .string l.e.vs, .string l.e.tab, .string l.e.col, .slice la l.e.parts.length lc, .int .i64 l.lv, .int .i64 l.dp] 202 (0, 0)) (.cells #[.int .i64 0, .string ⟨#[]⟩, .int .i64 0, .int .i64 0, .string ⟨#[]⟩, .string ⟨#[]⟩, .string ⟨#[]⟩, .slice none 0 0, .int .i64 0, .int .i64 0] 202 (0, 0)))
  clear h hd hlr hq hk ho hlv hls hone hown hrow hf hf2 hf3 hX hkk
  go_enter Tryz.func169, Tryz.ntmps169
  go_upto_region 1 with (fail)
  generalize ((w.alloc (.cells #[.int .i64 l.e.kind, .string l.e.op, .int .i64 l.e.vk, .int .i64 l.e.vn, .string l.e.vs, .string l.e.tab, .string l.e.col, .slice la l.e.parts.length lc, .int .i64 l.lv, .int .i64 l.dp] 202)).alloc (.cells #[.int .i64 0, .string ⟨#[]⟩, .int .i64 0, .int .i64 0, .string ⟨#[]⟩, .string ⟨#[]⟩, .string ⟨#[]⟩, .slice none 0 0, .int .i64 0, .int .i64 0] 202)) = w1 at *
  have HSz := Lib.hid HX.out.2
  obtain ⟨v, hv⟩ : ∃ v, v = Value.slice (some ⟨g, 0, none⟩) n c := ⟨_, rfl⟩
  have HV := Lib.hid hv
  have HT1 := Lib.hid (TTo.of_below (v := .slice (some ⟨g, 0, none⟩) n c) hB1 (Nat.le_of_lt hlow))
  have HS1 := Lib.hid ((H0.out.enter w1.heap.size).below hB1)
  have HLe1 := Lib.hid ((hle.mono (Q' := TQ (Bx A w.heap.size w1.heap.size) N (.slice (some ⟨g, 0, none⟩) n c)) (fun b hb hlt => ⟨.inl ⟨hb.1, hlt⟩, hb.2⟩)).keep hB1)
  have HLB := Lib.hid (show ∀ (W : World) (v' : Value), TTo N (.slice (some ⟨g, 0, none⟩) n c) v' w1 W → W.heap[w.heap.size]? = some (.cells #[.int .i64 l.e.kind, .string l.e.op, .int .i64 l.e.vk, .int .i64 l.e.vn, .string l.e.vs, .string l.e.tab, .string l.e.col, .slice la l.e.parts.length lc, .int .i64 l.lv, .int .i64 l.dp] 202 (0, 0)) from fun W v' t => (TTo.box H0.out t (Nat.le_refl _) (by have := HSz.out; omega)).trans HX.out.1.1)
  have HBX := Lib.hid (show ∀ (W : World) (v' : Value), TTo N (.slice (some ⟨g, 0, none⟩) n c) v' w1 W → W.heap[w.heap.size + 1]? = some (.cells #[.int .i64 0, .string ⟨#[]⟩, .int .i64 0, .int .i64 0, .string ⟨#[]⟩, .string ⟨#[]⟩, .string ⟨#[]⟩, .slice none 0 0, .int .i64 0, .int .i64 0] 202 (0, 0)) from fun W v' t => (TTo.box H0.out t (Nat.le_succ _) (by have := HSz.out; omega)).trans HX.out.1.2)
  have HnB := Lib.hid (show ¬ Bx A w.heap.size w1.heap.size (w.heap.size + 1) from fun hb => hb.elim (fun h => by have := h.2; omega) (fun h => by have := HSz.out; omega))
  have HnL := Lib.hid (show ¬ Bx A w.heap.size w1.heap.size w.heap.size from fun hb => hb.elim (fun h => Nat.lt_irrefl _ h.2) (fun h => by have := HSz.out; omega))
  have HSub := Lib.hid (Bx.sub (A := A) (H := w.heap.size) (H1 := w1.heap.size) (by have := HSz.out; omega))
  have HLow := Lib.hid hlow
  have hrw : ∀ j, j < 12 → w1.cell? ⟨g, k * 12 + j, none⟩ = ([.int .i64 d.kind, .string d.op, .int .i64 0, .int .i64 0, .string ⟨#[]⟩, .string ⟨#[]⟩, .string ⟨#[]⟩, .slice none 0 0, .int .i64 d.lv, .slice fa fn fn, .bool d.closes, .int .i64 d.least] : List Value)[j]? := fun j hj => (hB1.cell (p := ⟨g, k * 12 + j, none⟩) hgw).trans (HRow.out j hj)
  obtain ⟨-, -, -, c3, -⟩ := HS1.out.cells
  have hN1 := HS1.out.low
  have hg1 : g < w1.heap.size := Nat.lt_of_lt_of_le hgw hB1.size
  have hkw : wrap64 ((n : Int) - 1) = (k : Int) := by unfold wrap64; omega
  have hkw2 : IntKind.i64.wrap ((n : Int) - 1) = (k : Int) := by rw [IntKind.wrap_i64]; omega
  have hkc2 : (k : Int) ≤ (c : Int) := by omega
  have hk0 : (0 : Int) ≤ (k : Int) := by omega
  have hk1 : (k : Int) < (n : Int) := by omega
  have HK := Lib.hid (show ∀ W : World, Below w1.heap.size w1 W → (W.cell? ⟨N, 3, none⟩ = some (.slice (some ⟨g, 0, none⟩) n c) ∧ W.cell? ⟨g, k * 12, none⟩ = some (.int .i64 d.kind) ∧ W.cell? ⟨g, k * 12 + 1, none⟩ = some (.string d.op) ∧ W.cell? ⟨g, k * 12 + 2, none⟩ = some (.int .i64 0) ∧ W.cell? ⟨g, k * 12 + 3, none⟩ = some (.int .i64 0) ∧ W.cell? ⟨g, k * 12 + 4, none⟩ = some (.string ⟨#[]⟩) ∧ W.cell? ⟨g, k * 12 + 5, none⟩ = some (.string ⟨#[]⟩) ∧ W.cell? ⟨g, k * 12 + 6, none⟩ = some (.string ⟨#[]⟩) ∧ W.cell? ⟨g, k * 12 + 7, none⟩ = some (.slice none 0 0) ∧ W.cell? ⟨g, k * 12 + 8, none⟩ = some (.int .i64 d.lv) ∧ W.cell? ⟨g, k * 12 + 9, none⟩ = some (.slice fa fn fn) ∧ W.cell? ⟨g, k * 12 + 10, none⟩ = some (.bool d.closes) ∧ W.cell? ⟨g, k * 12 + 11, none⟩ = some (.int .i64 d.least)) from fun W hW =>
    ⟨(hW.cell (p := ⟨N, 3, none⟩) hN1).trans c3, (hW.cell (p := ⟨g, k * 12, none⟩) hg1).trans (hrw 0 (by omega)), (hW.cell (p := ⟨g, k * 12 + 1, none⟩) hg1).trans (hrw 1 (by omega)), (hW.cell (p := ⟨g, k * 12 + 2, none⟩) hg1).trans (hrw 2 (by omega)), (hW.cell (p := ⟨g, k * 12 + 3, none⟩) hg1).trans (hrw 3 (by omega)), (hW.cell (p := ⟨g, k * 12 + 4, none⟩) hg1).trans (hrw 4 (by omega)), (hW.cell (p := ⟨g, k * 12 + 5, none⟩) hg1).trans (hrw 5 (by omega)), (hW.cell (p := ⟨g, k * 12 + 6, none⟩) hg1).trans (hrw 6 (by omega)), (hW.cell (p := ⟨g, k * 12 + 7, none⟩) hg1).trans (hrw 7 (by omega)), (hW.cell (p := ⟨g, k * 12 + 8, none⟩) hg1).trans (hrw 8 (by omega)), (hW.cell (p := ⟨g, k * 12 + 9, none⟩) hg1).trans (hrw 9 (by omega)), (hW.cell (p := ⟨g, k * 12 + 10, none⟩) hg1).trans (hrw 10 (by omega)), (hW.cell (p := ⟨g, k * 12 + 11, none⟩) hg1).trans (hrw 11 (by omega))⟩)
  have HGw := Lib.hid hgw
  clear hv hB1 hle hlow hrw hgw c3 hnk hmsl
  go_region_held3 (fun W => W.cell? ⟨N, 3, none⟩ = some (.slice (some ⟨g, 0, none⟩) n c) ∧ W.cell? ⟨g, k * 12, none⟩ = some (.int .i64 d.kind) ∧ W.cell? ⟨g, k * 12 + 1, none⟩ = some (.string d.op) ∧ W.cell? ⟨g, k * 12 + 2, none⟩ = some (.int .i64 0) ∧ W.cell? ⟨g, k * 12 + 3, none⟩ = some (.int .i64 0) ∧ W.cell? ⟨g, k * 12 + 4, none⟩ = some (.string ⟨#[]⟩) ∧ W.cell? ⟨g, k * 12 + 5, none⟩ = some (.string ⟨#[]⟩) ∧ W.cell? ⟨g, k * 12 + 6, none⟩ = some (.string ⟨#[]⟩) ∧ W.cell? ⟨g, k * 12 + 7, none⟩ = some (.slice none 0 0) ∧ W.cell? ⟨g, k * 12 + 8, none⟩ = some (.int .i64 d.lv) ∧ W.cell? ⟨g, k * 12 + 9, none⟩ = some (.slice fa fn fn) ∧ W.cell? ⟨g, k * 12 + 10, none⟩ = some (.bool d.closes) ∧ W.cell? ⟨g, k * 12 + 11, none⟩ = some (.int .i64 d.least)) (exact HK.out _ (by repeat (first | exact Below.refl _ _ | refine bel0 _ ?_ | refine Below.drew ?_))) (fail)
  have hB12 : Below w1.heap.size w1 ((w1.alloc (.cells #[.int .i64 d.kind, .string d.op, .int .i64 0, .int .i64 0, .string ⟨#[]⟩, .string ⟨#[]⟩, .string ⟨#[]⟩, .slice none 0 0, .int .i64 d.lv, .slice fa fn fn, .bool d.closes, .int .i64 d.least] 225)).drew) := (bel0 _ (Below.refl _ _)).drew
  have hp2 : ((w1.alloc (.cells #[.int .i64 d.kind, .string d.op, .int .i64 0, .int .i64 0, .string ⟨#[]⟩, .string ⟨#[]⟩, .string ⟨#[]⟩, .slice none 0 0, .int .i64 d.lv, .slice fa fn fn, .bool d.closes, .int .i64 d.least] 225)).drew).heap[w1.heap.size]? = some (.cells #[.int .i64 d.kind, .string d.op, .int .i64 0, .int .i64 0, .string ⟨#[]⟩, .string ⟨#[]⟩, .string ⟨#[]⟩, .slice none 0 0, .int .i64 d.lv, .slice fa fn fn, .bool d.closes, .int .i64 d.least] 225 (0, 0)) := Go.heap_alloc_new w1 _
  generalize ((w1.alloc (.cells #[.int .i64 d.kind, .string d.op, .int .i64 0, .int .i64 0, .string ⟨#[]⟩, .string ⟨#[]⟩, .string ⟨#[]⟩, .slice none 0 0, .int .i64 d.lv, .slice fa fn fn, .bool d.closes, .int .i64 d.least] 225)).drew) = w2 at *
  have HP2 := Lib.hid hp2
  have HS2 := Lib.hid (HS1.out.below hB12)
  have HT2 := Lib.hid (TTo.of_below (v := .slice (some ⟨g, 0, none⟩) n c) hB12 (Nat.le_of_lt HS1.out.low))
  clear HK hN1 hg1 hB12 hp2
  obtain ⟨-, -, -, c3, cz⟩ := HS2.out.cells
  have hN2 := HS2.out.low
  have f3 := Fut.cell c3
  have hbel := fun (s : Fut w2) => s.bel
  clear c3 cz
  go_upto_region 2 with (fail)
  refine wp_region_fut_tail 14 (by kernel_rfl) (by kernel_rfl) ?_
  simp only [List.take_succ_cons, List.take_zero, List.drop_succ_cons, List.drop_zero]
  repeat (go_big_quiet_step (fail))
  refine wpQuiet_nil ?_
  intro s3
  have hb3 := s3.bel
  generalize s3.to = w3 at *
  clear s3 f3 hbel
  have HS3 := Lib.hid (HS2.out.below hb3)
  have HT3 := Lib.hid (HT2.out.trans (.of_below hb3 (Nat.le_of_lt HS2.out.low)))
  have HP3 := Lib.hid ((hb3.block w1.heap.size (Array.getElem?_eq_some_iff.1 HP2.out).1).trans HP2.out)
  obtain ⟨-, -, -, c3, cz⟩ := HS3.out.cells
  have hN3 := HS3.out.low
  clear hb3 hN2
  go_upto_region 3 with (fail)
  have HPop := Lib.hid (HS3.out.popN HNk.out HKk.out.symm)
  have HS4 := Lib.hid HPop.out.1
  have HT4 := Lib.hid (HT3.out.trans HPop.out.2)
  have HP4 := Lib.hid (show (w3.setCell ⟨N, 3, none⟩ (.slice (some ⟨g, 0, none⟩) k c)).heap[w1.heap.size]? = some (.cells #[.int .i64 d.kind, .string d.op, .int .i64 0, .int .i64 0, .string ⟨#[]⟩, .string ⟨#[]⟩, .string ⟨#[]⟩, .slice none 0 0, .int .i64 d.lv, .slice fa fn fn, .bool d.closes, .int .i64 d.least] 225 (0, 0)) from (heap_setCell_other _ _ _ _ (by have := HLow.out; have := HSz.out; show w1.heap.size ≠ N; omega)).trans HP3.out)
  generalize (w3.setCell ⟨N, 3, none⟩ (.slice (some ⟨g, 0, none⟩) k c)) = w4 at *
  clear c3 cz hN3 HPop
  obtain ⟨p0, p1, p2, p3, p4, p5, p6, p7, p8, p9, p10, p11, -, pN⟩ := row12 HP4.out
  obtain ⟨-, -, c2, -, cz⟩ := HS4.out.cells
  have hN4 := HS4.out.low
  go_upto_region 4 with (fail)
  have HS5 := Lib.hid (HS4.out.setLeast d.least HLsd.out)
  have HT5 := Lib.hid (HT4.out.setN 2 (.int .i64 d.least))
  have HP5 := Lib.hid (show (w4.setCell ⟨N, 2, none⟩ (.int .i64 d.least)).heap[w1.heap.size]? = some (.cells #[.int .i64 d.kind, .string d.op, .int .i64 0, .int .i64 0, .string ⟨#[]⟩, .string ⟨#[]⟩, .string ⟨#[]⟩, .slice none 0 0, .int .i64 d.lv, .slice fa fn fn, .bool d.closes, .int .i64 d.least] 225 (0, 0)) from (heap_setCell_other _ _ _ _ (by have := HLow.out; have := HSz.out; show w1.heap.size ≠ N; omega)).trans HP4.out)
  generalize (w4.setCell ⟨N, 2, none⟩ (.int .i64 d.least)) = w5 at *
  clear p0 p1 p2 p3 p4 p5 p6 p7 p8 p9 p10 p11 pN c2 cz hN4 HP4
  obtain ⟨s0, hs0⟩ : ∃ s0 : Tk, s0 = ⟨s.pos, d.least, mr.map (·.1)⟩ := ⟨_, rfl⟩
  have HS5 := Lib.hid (show TSt (Bx A w.heap.size w1.heap.size) N w5 wa wn wc ws (.slice (some ⟨g, 0, none⟩) k c) s0 mr by rw [hs0]; exact HS5.out)
  have HPb := Lib.hid (show ∀ (W : World) (v' : Value), TTo N (.slice (some ⟨g, 0, none⟩) k c) v' w5 W → W.heap[w1.heap.size]? = some (.cells #[.int .i64 d.kind, .string d.op, .int .i64 0, .int .i64 0, .string ⟨#[]⟩, .string ⟨#[]⟩, .string ⟨#[]⟩, .slice none 0 0, .int .i64 d.lv, .slice fa fn fn, .bool d.closes, .int .i64 d.least] 225 (0, 0)) from fun W v' t => (t.block w1.heap.size (Array.getElem?_eq_some_iff.1 HP5.out).1 (by have := HLow.out; have := HSz.out; omega) (by intro e; have e2 : g = w1.heap.size := (by simpa [Value.ownBlock] using e); have := HGw.out; have := HSz.out; omega)).trans HP5.out)
  have HSg := Lib.hid (fun (W : World) (hs : TSt (Bx A w.heap.size w1.heap.size) N W wa wn wc ws (.slice (some ⟨g, 0, none⟩) k c) s0 mr) => sign_any [41] (Bx A w.heap.size w1.heap.size) N W wa wn wc ws (.slice (some ⟨g, 0, none⟩) k c) s0 mr hs)
  have HC := Lib.hid (show closeP ws l s d (mr.map (·.1)) = (if d.closes = true ∧ isW ws s.pos 4 [41] = false then (zPt, false, s0) else (if d.kind = 0 then ({ l with lv := 8 }, true, (if d.closes = true then adv s0 else s0)) else (buildP d.kind d.op 0 0 ⟨#[]⟩ ⟨#[]⟩ ⟨#[]⟩ d.lv (d.left ++ [l]), true, (if d.closes = true then adv s0 else s0)))) by rw [hs0]; rfl)
  have HPos := Lib.hid (show s0.pos = s.pos by rw [hs0])
  clear hs0
  obtain ⟨p0, p1, p2, p3, p4, p5, p6, p7, p8, p9, p10, p11, -, pN⟩ := row12 HP5.out
  obtain ⟨cl, hcl⟩ : ∃ cl, cl = d.closes := ⟨_, rfl⟩
  have HCl := Lib.hid hcl
  have p10' := p10
  rw [← hcl] at p10
  clear p10' hcl
  cases cl with
  | true =>
    go_wp2_with fail
    refine (HSg.out _ HS5.out).mono ?_
    rintro e w6 ⟨rfl, hs6, ht6⟩
    rw [HPos.out] at hs6
    rw [HPos.out]
    obtain ⟨b1, hb1⟩ : ∃ b, b = isW ws s.pos 4 [41] := ⟨_, rfl⟩
    rw [← hb1] at hs6 HC ⊢
    have HS6 := Lib.hid hs6
    have HT56 := Lib.hid ht6
    have HT6 := Lib.hid (HT5.out.trans ht6)
    clear hs6 ht6 hb1 p0 p1 p2 p3 p4 p5 p6 p7 p8 p9 p10 p11 pN
    rw [← HCl.out] at HC
    cases b1 with
    | false =>
      have HQ := Lib.hid (show closeP ws l s d (mr.map (·.1)) = (zPt, false, s0) by rw [HC.out]; simp)
      have HS6 := Lib.hid (show TSt (Bx A w.heap.size w1.heap.size) N w6 wa wn wc ws (.slice (some ⟨g, 0, none⟩) k c) s0 mr from HS6.out)
      have hR := HBX.out w6 _ HT6.out
      obtain ⟨r0, r1, r2, r3, r4, r5, r6, r7, r8, r9, rz, rN⟩ := row10 hR
      have HFin := Lib.hid (part_done HS6.out hR (by have := HLow.out; omega) HnB.out (HT1.out.trans HT6.out) (Nat.le_succ _) HSub.out zPt none 0 prg_zero (.nil none))
      clear hR
      go_wp2
      refine bodyPost_ret (results_pt2 rfl _ _ (w.heap.size + 1) _ _ _ _ _ _ _ _ _ _ rfl HFin.out.1) rfl ?_
      rw [HQ.out]
      exact ⟨_, _, mr, rfl, HFin.out.2.1, HFin.out.2.2.1, HFin.out.2.2.2⟩
    | true =>
      have HSx : Hid (TSt (Bx A w.heap.size w1.heap.size) N w6 wa wn wc ws (.slice (some ⟨g, 0, none⟩) k c) (adv s0) mr) := Lib.hid HS6.out
      have HC2 := Lib.hid (show closeP ws l s d (mr.map (·.1)) = (if d.kind = 0 then ({ l with lv := 8 }, true, adv s0) else (buildP d.kind d.op 0 0 ⟨#[]⟩ ⟨#[]⟩ ⟨#[]⟩ d.lv (d.left ++ [l]), true, adv s0)) by rw [HC.out]; simp)
      obtain ⟨s6, hs6⟩ : ∃ s6, s6 = adv s0 := ⟨_, rfl⟩
      rw [← hs6] at HSx HC2
      clear hs6
      obtain ⟨p0, p1, p2, p3, p4, p5, p6, p7, p8, p9, p10, p11, -, pN⟩ := row12 (HPb.out w6 _ HT56.out)
      obtain ⟨l0, l1, l2, l3, l4, l5, l6, l7, l8, l9, lz, lN⟩ := row10 (HLB.out w6 _ HT6.out)
      have HLb := Lib.hid (HLB.out w6 _ HT6.out)
      have HLe6 := Lib.hid (HLe1.out.toT HT6.out)
      by_cases hk0 : d.kind = 0
      · have HQ := Lib.hid (show closeP ws l s d (mr.map (·.1)) = ({ l with lv := 8 }, true, s6) by rw [HC2.out, if_pos hk0])
        have hkd : (d.kind == 0) = true := by simp [hk0]
        go_upto_region 8 with (fail)
        have hLb7 : (w6.setCell ⟨w.heap.size, 8, none⟩ (.int .i64 8)).heap[w.heap.size]? = some (.cells (ptX { l with lv := 8 } la lc).toArray 202 (0, 0)) := Go.heap_setCell_same w6 _ 8 _ _ _ HLb.out
        have hoth : ∀ i, i ≠ w.heap.size → (w6.setCell ⟨w.heap.size, 8, none⟩ (.int .i64 8)).heap[i]? = w6.heap[i]? := fun i hi => heap_setCell_other _ _ _ _ hi
        have hL7 : (w6.setCell ⟨w.heap.size, 8, none⟩ (.int .i64 8)).heap.size = w6.heap.size := by simp
        have HS7 := Lib.hid (HSx.out.far HLow.out HnL.out (by intro e; have e2 : g = w.heap.size := (by simpa [Value.ownBlock] using e); have := HGw.out; omega) hL7 ⟨rfl, rfl, rfl⟩ hoth)
        have T := HT1.out.trans HT6.out
        have HT7 := Lib.hid (show TTo N (.slice (some ⟨g, 0, none⟩) n c) (.slice (some ⟨g, 0, none⟩) k c) w (w6.setCell ⟨w.heap.size, 8, none⟩ (.int .i64 8)) from ⟨T.below.setCell (p := ⟨w.heap.size, 8, none⟩) (Nat.le_of_lt HLow.out) _, fun i hi hn hv => (hoth i (by omega)).trans (T.block i hi hn hv), T.own⟩)
        have HR7 := Lib.hid ((hoth (w.heap.size + 1) (by omega)).trans (HBX.out w6 _ HT6.out))
        have HLe7 := Lib.hid (HLe6.out.far (Nat.le_of_eq hL7.symm) (fun b hb _ => hoth b (fun e => HnL.out (by have h : Bx A w.heap.size w1.heap.size b := hb.1; rw [e] at h; exact h))))
        rw [ptX_arr] at hLb7
        generalize (w6.setCell ⟨w.heap.size, 8, none⟩ (.int .i64 8)) = w7 at *
        clear l0 l1 l2 l3 l4 l5 l6 l7 l8 l9 lz lN p0 p1 p2 p3 p4 p5 p6 p7 p8 p9 p10 p11 pN hoth T hL7
        obtain ⟨l0, l1, l2, l3, l4, l5, l6, l7, l8, l9, lz, lN⟩ := row10 hLb7
        obtain ⟨r0, r1, r2, r3, r4, r5, r6, r7, r8, r9, rz, rN⟩ := row10 HR7.out
        have HFin := Lib.hid (part_done HS7.out HR7.out (by have := HLow.out; omega) HnB.out HT7.out (Nat.le_succ _) HSub.out { l with lv := 8 } la lc ⟨HLr.out.e, by show InR 8; unfold InR; omega, HLr.out.dp⟩ HLe7.out)
        clear hLb7
        go_wp2
        refine bodyPost_ret (results_pt2 rfl _ _ (w.heap.size + 1) _ _ _ _ _ _ _ _ _ _ rfl HFin.out.1) rfl ?_
        rw [HQ.out]
        exact ⟨_, _, mr, rfl, HFin.out.2.1, HFin.out.2.2.1, HFin.out.2.2.2⟩
      · have HQ := Lib.hid (show closeP ws l s d (mr.map (·.1)) = (buildP d.kind d.op 0 0 ⟨#[]⟩ ⟨#[]⟩ ⟨#[]⟩ d.lv (d.left ++ [l]), true, s6) by rw [HC2.out, if_neg hk0])
        have hkd : (d.kind == 0) = false := by simp [hk0]
        have HLf := Lib.hid (show ∃ pl : List (Pt × Option Addr × Nat), pl.map (·.1) = d.left ∧ pl.length = fn ∧ (∀ W, Below w6.heap.size w6 W → ∀ b, fa = some b → ∀ j u, (ptsX pl)[j]? = some u → W.cell? (b.add j) = some u) ∧ ∀ x ∈ pl, PRg x.1 x.2.1 x.2.2 ∧ EL w6 (TQ (Bx A w.heap.size w1.heap.size) N (.slice (some ⟨g, 0, none⟩) k c)) x.2.1 x.1.e.parts from by
          have T := HT1.out.trans HT6.out
          have hlf := H0.out.lefts (d, dl) (by simp)
          have h1 := HF.out.1
          have h2 := HF.out.2.2
          have h3 : d.left.length ≤ 1 := H0.out.one (d, dl) (by simp)
          generalize d.left = dd at hlf h1 h3
          match dd, h1, h3 with
          | [], h1, _ => exact ⟨[], rfl, h1, fun W hW b hb j u hu => by simp [ptsX] at hu, fun x hx => by cases hx⟩
          | [q], h1, _ =>
            obtain ⟨g1, g2, qa, qc, g3, g4, g5⟩ := hlf q rfl
            have hdl : w6.heap[dl]? = some (.cells (ptX q qa qc).toArray 202 (0, 0)) := (T.block dl g1 g2.2.1 g2.2.2).trans g3
            refine ⟨[(q, qa, qc)], rfl, h1, fun W hW b hb j u hu => ?_, fun x hx => ?_⟩
            · obtain rfl := h2 b hb
              have hu' : (ptX q qa qc)[j]? = some u := by simpa [ptsX] using hu
              exact World.news_of_block ((hW.block dl (Array.getElem?_eq_some_iff.1 hdl).1).trans hdl) j u hu'
            · obtain rfl := List.mem_singleton.1 hx
              exact ⟨g4, (g5.mono (Q' := TQ (Bx A w.heap.size w1.heap.size) N (.slice (some ⟨g, 0, none⟩) n c)) (fun b hb hlt => ⟨.inl ⟨hb.1, hlt⟩, hb.2⟩)).toT T⟩
          | _ :: _ :: _, h1, h3 => simp at h3)
        obtain ⟨pl, hpl1, hpl2, hpl3, hpl4⟩ := HLf.out
        have HPl := Lib.hid (And.intro hpl1 hpl2)
        have HOld := Lib.hid hpl3
        have HPr := Lib.hid hpl4
        have hf3 := HF.out.2.1
        have HFn := Lib.hid (show fn ≤ 10 by have h1 := HF.out.1; have h2 := H0.out.one (d, dl) (by simp); have h3 : d.left.length ≤ 1 := h2; omega)
        have HDq := Lib.hid (show ∀ q ∈ d.left ++ [l], q.dp < 1000000 from fun q hq => by
          rcases List.mem_append.1 hq with hq | hq
          · have h3 : d.left.length ≤ 1 := H0.out.one (d, dl) (by simp)
            match hm : d.left, h3 with
            | [], _ => rw [hm] at hq; cases hq
            | [x], _ =>
              rw [hm] at hq
              obtain rfl := List.mem_singleton.1 hq
              exact HQd.out _ hm
            | _ :: _ :: _, h => simp at h
          · obtain rfl := List.mem_singleton.1 hq
            exact HD.out)
        have HEg := Lib.hid (show ERg (.mk d.kind d.op 0 0 ⟨#[]⟩ ⟨#[]⟩ ⟨#[]⟩ []) none 0 from erg_op HKd.out HOd.out)
        have HK9 := Lib.hid (show ∀ W : World, Below w6.heap.size w6 W → ((W.cell? ⟨w1.heap.size, 0, none⟩ = some (.int .i64 d.kind) ∧ W.cell? ⟨w1.heap.size, 1, none⟩ = some (.string d.op) ∧ W.cell? ⟨w1.heap.size, 2, none⟩ = some (.int .i64 0) ∧ W.cell? ⟨w1.heap.size, 3, none⟩ = some (.int .i64 0) ∧ W.cell? ⟨w1.heap.size, 4, none⟩ = some (.string ⟨#[]⟩) ∧ W.cell? ⟨w1.heap.size, 5, none⟩ = some (.string ⟨#[]⟩) ∧ W.cell? ⟨w1.heap.size, 6, none⟩ = some (.string ⟨#[]⟩) ∧ W.cell? ⟨w1.heap.size, 7, none⟩ = some (.slice none 0 0) ∧ W.cell? ⟨w1.heap.size, 8, none⟩ = some (.int .i64 d.lv) ∧ W.cell? ⟨w1.heap.size, 9, none⟩ = some (.slice fa fn fn)) ∧ (W.cell? ⟨w.heap.size, 0, none⟩ = some (.int .i64 l.e.kind) ∧ W.cell? ⟨w.heap.size, 1, none⟩ = some (.string l.e.op) ∧ W.cell? ⟨w.heap.size, 2, none⟩ = some (.int .i64 l.e.vk) ∧ W.cell? ⟨w.heap.size, 3, none⟩ = some (.int .i64 l.e.vn) ∧ W.cell? ⟨w.heap.size, 4, none⟩ = some (.string l.e.vs) ∧ W.cell? ⟨w.heap.size, 5, none⟩ = some (.string l.e.tab) ∧ W.cell? ⟨w.heap.size, 6, none⟩ = some (.string l.e.col) ∧ W.cell? ⟨w.heap.size, 7, none⟩ = some (.slice la l.e.parts.length lc) ∧ W.cell? ⟨w.heap.size, 8, none⟩ = some (.int .i64 l.lv) ∧ W.cell? ⟨w.heap.size, 9, none⟩ = some (.int .i64 l.dp))) from fun W hW => by
          have hp := (hW.block w1.heap.size pN).trans (HPb.out w6 _ HT56.out)
          have hL := (hW.block w.heap.size lN).trans HLb.out
          obtain ⟨p0, p1, p2, p3, p4, p5, p6, p7, p8, p9, p10, p11, -, pN⟩ := row12 hp
          obtain ⟨l0, l1, l2, l3, l4, l5, l6, l7, l8, l9, lz, lN⟩ := row10 hL
          exact ⟨⟨p0, p1, p2, p3, p4, p5, p6, p7, p8, p9⟩, l0, l1, l2, l3, l4, l5, l6, l7, l8, l9⟩)
        have HR6 := Lib.hid (HBX.out w6 _ HT6.out)
        have HK9s := Lib.hid (show ∀ (W : World) (vs : List Value), Below w6.heap.size w6 W → (((setLe W (w.heap.size + 1) 0 vs).cell? ⟨w1.heap.size, 0, none⟩ = some (.int .i64 d.kind) ∧ (setLe W (w.heap.size + 1) 0 vs).cell? ⟨w1.heap.size, 1, none⟩ = some (.string d.op) ∧ (setLe W (w.heap.size + 1) 0 vs).cell? ⟨w1.heap.size, 2, none⟩ = some (.int .i64 0) ∧ (setLe W (w.heap.size + 1) 0 vs).cell? ⟨w1.heap.size, 3, none⟩ = some (.int .i64 0) ∧ (setLe W (w.heap.size + 1) 0 vs).cell? ⟨w1.heap.size, 4, none⟩ = some (.string ⟨#[]⟩) ∧ (setLe W (w.heap.size + 1) 0 vs).cell? ⟨w1.heap.size, 5, none⟩ = some (.string ⟨#[]⟩) ∧ (setLe W (w.heap.size + 1) 0 vs).cell? ⟨w1.heap.size, 6, none⟩ = some (.string ⟨#[]⟩) ∧ (setLe W (w.heap.size + 1) 0 vs).cell? ⟨w1.heap.size, 7, none⟩ = some (.slice none 0 0) ∧ (setLe W (w.heap.size + 1) 0 vs).cell? ⟨w1.heap.size, 8, none⟩ = some (.int .i64 d.lv) ∧ (setLe W (w.heap.size + 1) 0 vs).cell? ⟨w1.heap.size, 9, none⟩ = some (.slice fa fn fn)) ∧ ((setLe W (w.heap.size + 1) 0 vs).cell? ⟨w.heap.size, 0, none⟩ = some (.int .i64 l.e.kind) ∧ (setLe W (w.heap.size + 1) 0 vs).cell? ⟨w.heap.size, 1, none⟩ = some (.string l.e.op) ∧ (setLe W (w.heap.size + 1) 0 vs).cell? ⟨w.heap.size, 2, none⟩ = some (.int .i64 l.e.vk) ∧ (setLe W (w.heap.size + 1) 0 vs).cell? ⟨w.heap.size, 3, none⟩ = some (.int .i64 l.e.vn) ∧ (setLe W (w.heap.size + 1) 0 vs).cell? ⟨w.heap.size, 4, none⟩ = some (.string l.e.vs) ∧ (setLe W (w.heap.size + 1) 0 vs).cell? ⟨w.heap.size, 5, none⟩ = some (.string l.e.tab) ∧ (setLe W (w.heap.size + 1) 0 vs).cell? ⟨w.heap.size, 6, none⟩ = some (.string l.e.col) ∧ (setLe W (w.heap.size + 1) 0 vs).cell? ⟨w.heap.size, 7, none⟩ = some (.slice la l.e.parts.length lc) ∧ (setLe W (w.heap.size + 1) 0 vs).cell? ⟨w.heap.size, 8, none⟩ = some (.int .i64 l.lv) ∧ (setLe W (w.heap.size + 1) 0 vs).cell? ⟨w.heap.size, 9, none⟩ = some (.int .i64 l.dp))) from fun W vs hW => by
          have hp := (setLe_other (B := w.heap.size + 1) (by have := HSz.out; omega) vs 0 W).trans ((hW.block w1.heap.size pN).trans (HPb.out w6 _ HT56.out))
          have hL := (setLe_other (B := w.heap.size + 1) (by omega) vs 0 W).trans ((hW.block w.heap.size lN).trans HLb.out)
          obtain ⟨p0, p1, p2, p3, p4, p5, p6, p7, p8, p9, p10, p11, -, pN⟩ := row12 hp
          obtain ⟨l0, l1, l2, l3, l4, l5, l6, l7, l8, l9, lz, lN⟩ := row10 hL
          exact ⟨⟨p0, p1, p2, p3, p4, p5, p6, p7, p8, p9⟩, l0, l1, l2, l3, l4, l5, l6, l7, l8, l9⟩)
        have HK9n := Lib.hid (show ∀ (W : World) (x0 x1 x2 x3 x4 x5 x6 x7 x8 x9 : Value), Below w6.heap.size w6 W → ((((((((((((W.setCell ⟨w.heap.size + 1, 0, none⟩ x0).setCell ⟨w.heap.size + 1, 1, none⟩ x1).setCell ⟨w.heap.size + 1, 2, none⟩ x2).setCell ⟨w.heap.size + 1, 3, none⟩ x3).setCell ⟨w.heap.size + 1, 4, none⟩ x4).setCell ⟨w.heap.size + 1, 5, none⟩ x5).setCell ⟨w.heap.size + 1, 6, none⟩ x6).setCell ⟨w.heap.size + 1, 7, none⟩ x7).setCell ⟨w.heap.size + 1, 8, none⟩ x8).setCell ⟨w.heap.size + 1, 9, none⟩ x9).cell? ⟨w1.heap.size, 0, none⟩ = some (.int .i64 d.kind) ∧ ((((((((((W.setCell ⟨w.heap.size + 1, 0, none⟩ x0).setCell ⟨w.heap.size + 1, 1, none⟩ x1).setCell ⟨w.heap.size + 1, 2, none⟩ x2).setCell ⟨w.heap.size + 1, 3, none⟩ x3).setCell ⟨w.heap.size + 1, 4, none⟩ x4).setCell ⟨w.heap.size + 1, 5, none⟩ x5).setCell ⟨w.heap.size + 1, 6, none⟩ x6).setCell ⟨w.heap.size + 1, 7, none⟩ x7).setCell ⟨w.heap.size + 1, 8, none⟩ x8).setCell ⟨w.heap.size + 1, 9, none⟩ x9).cell? ⟨w1.heap.size, 1, none⟩ = some (.string d.op) ∧ ((((((((((W.setCell ⟨w.heap.size + 1, 0, none⟩ x0).setCell ⟨w.heap.size + 1, 1, none⟩ x1).setCell ⟨w.heap.size + 1, 2, none⟩ x2).setCell ⟨w.heap.size + 1, 3, none⟩ x3).setCell ⟨w.heap.size + 1, 4, none⟩ x4).setCell ⟨w.heap.size + 1, 5, none⟩ x5).setCell ⟨w.heap.size + 1, 6, none⟩ x6).setCell ⟨w.heap.size + 1, 7, none⟩ x7).setCell ⟨w.heap.size + 1, 8, none⟩ x8).setCell ⟨w.heap.size + 1, 9, none⟩ x9).cell? ⟨w1.heap.size, 2, none⟩ = some (.int .i64 0) ∧ ((((((((((W.setCell ⟨w.heap.size + 1, 0, none⟩ x0).setCell ⟨w.heap.size + 1, 1, none⟩ x1).setCell ⟨w.heap.size + 1, 2, none⟩ x2).setCell ⟨w.heap.size + 1, 3, none⟩ x3).setCell ⟨w.heap.size + 1, 4, none⟩ x4).setCell ⟨w.heap.size + 1, 5, none⟩ x5).setCell ⟨w.heap.size + 1, 6, none⟩ x6).setCell ⟨w.heap.size + 1, 7, none⟩ x7).setCell ⟨w.heap.size + 1, 8, none⟩ x8).setCell ⟨w.heap.size + 1, 9, none⟩ x9).cell? ⟨w1.heap.size, 3, none⟩ = some (.int .i64 0) ∧ ((((((((((W.setCell ⟨w.heap.size + 1, 0, none⟩ x0).setCell ⟨w.heap.size + 1, 1, none⟩ x1).setCell ⟨w.heap.size + 1, 2, none⟩ x2).setCell ⟨w.heap.size + 1, 3, none⟩ x3).setCell ⟨w.heap.size + 1, 4, none⟩ x4).setCell ⟨w.heap.size + 1, 5, none⟩ x5).setCell ⟨w.heap.size + 1, 6, none⟩ x6).setCell ⟨w.heap.size + 1, 7, none⟩ x7).setCell ⟨w.heap.size + 1, 8, none⟩ x8).setCell ⟨w.heap.size + 1, 9, none⟩ x9).cell? ⟨w1.heap.size, 4, none⟩ = some (.string ⟨#[]⟩) ∧ ((((((((((W.setCell ⟨w.heap.size + 1, 0, none⟩ x0).setCell ⟨w.heap.size + 1, 1, none⟩ x1).setCell ⟨w.heap.size + 1, 2, none⟩ x2).setCell ⟨w.heap.size + 1, 3, none⟩ x3).setCell ⟨w.heap.size + 1, 4, none⟩ x4).setCell ⟨w.heap.size + 1, 5, none⟩ x5).setCell ⟨w.heap.size + 1, 6, none⟩ x6).setCell ⟨w.heap.size + 1, 7, none⟩ x7).setCell ⟨w.heap.size + 1, 8, none⟩ x8).setCell ⟨w.heap.size + 1, 9, none⟩ x9).cell? ⟨w1.heap.size, 5, none⟩ = some (.string ⟨#[]⟩) ∧ ((((((((((W.setCell ⟨w.heap.size + 1, 0, none⟩ x0).setCell ⟨w.heap.size + 1, 1, none⟩ x1).setCell ⟨w.heap.size + 1, 2, none⟩ x2).setCell ⟨w.heap.size + 1, 3, none⟩ x3).setCell ⟨w.heap.size + 1, 4, none⟩ x4).setCell ⟨w.heap.size + 1, 5, none⟩ x5).setCell ⟨w.heap.size + 1, 6, none⟩ x6).setCell ⟨w.heap.size + 1, 7, none⟩ x7).setCell ⟨w.heap.size + 1, 8, none⟩ x8).setCell ⟨w.heap.size + 1, 9, none⟩ x9).cell? ⟨w1.heap.size, 6, none⟩ = some (.string ⟨#[]⟩) ∧ ((((((((((W.setCell ⟨w.heap.size + 1, 0, none⟩ x0).setCell ⟨w.heap.size + 1, 1, none⟩ x1).setCell ⟨w.heap.size + 1, 2, none⟩ x2).setCell ⟨w.heap.size + 1, 3, none⟩ x3).setCell ⟨w.heap.size + 1, 4, none⟩ x4).setCell ⟨w.heap.size + 1, 5, none⟩ x5).setCell ⟨w.heap.size + 1, 6, none⟩ x6).setCell ⟨w.heap.size + 1, 7, none⟩ x7).setCell ⟨w.heap.size + 1, 8, none⟩ x8).setCell ⟨w.heap.size + 1, 9, none⟩ x9).cell? ⟨w1.heap.size, 7, none⟩ = some (.slice none 0 0) ∧ ((((((((((W.setCell ⟨w.heap.size + 1, 0, none⟩ x0).setCell ⟨w.heap.size + 1, 1, none⟩ x1).setCell ⟨w.heap.size + 1, 2, none⟩ x2).setCell ⟨w.heap.size + 1, 3, none⟩ x3).setCell ⟨w.heap.size + 1, 4, none⟩ x4).setCell ⟨w.heap.size + 1, 5, none⟩ x5).setCell ⟨w.heap.size + 1, 6, none⟩ x6).setCell ⟨w.heap.size + 1, 7, none⟩ x7).setCell ⟨w.heap.size + 1, 8, none⟩ x8).setCell ⟨w.heap.size + 1, 9, none⟩ x9).cell? ⟨w1.heap.size, 8, none⟩ = some (.int .i64 d.lv) ∧ ((((((((((W.setCell ⟨w.heap.size + 1, 0, none⟩ x0).setCell ⟨w.heap.size + 1, 1, none⟩ x1).setCell ⟨w.heap.size + 1, 2, none⟩ x2).setCell ⟨w.heap.size + 1, 3, none⟩ x3).setCell ⟨w.heap.size + 1, 4, none⟩ x4).setCell ⟨w.heap.size + 1, 5, none⟩ x5).setCell ⟨w.heap.size + 1, 6, none⟩ x6).setCell ⟨w.heap.size + 1, 7, none⟩ x7).setCell ⟨w.heap.size + 1, 8, none⟩ x8).setCell ⟨w.heap.size + 1, 9, none⟩ x9).cell? ⟨w1.heap.size, 9, none⟩ = some (.slice fa fn fn)) ∧ (((((((((((W.setCell ⟨w.heap.size + 1, 0, none⟩ x0).setCell ⟨w.heap.size + 1, 1, none⟩ x1).setCell ⟨w.heap.size + 1, 2, none⟩ x2).setCell ⟨w.heap.size + 1, 3, none⟩ x3).setCell ⟨w.heap.size + 1, 4, none⟩ x4).setCell ⟨w.heap.size + 1, 5, none⟩ x5).setCell ⟨w.heap.size + 1, 6, none⟩ x6).setCell ⟨w.heap.size + 1, 7, none⟩ x7).setCell ⟨w.heap.size + 1, 8, none⟩ x8).setCell ⟨w.heap.size + 1, 9, none⟩ x9).cell? ⟨w.heap.size, 0, none⟩ = some (.int .i64 l.e.kind) ∧ ((((((((((W.setCell ⟨w.heap.size + 1, 0, none⟩ x0).setCell ⟨w.heap.size + 1, 1, none⟩ x1).setCell ⟨w.heap.size + 1, 2, none⟩ x2).setCell ⟨w.heap.size + 1, 3, none⟩ x3).setCell ⟨w.heap.size + 1, 4, none⟩ x4).setCell ⟨w.heap.size + 1, 5, none⟩ x5).setCell ⟨w.heap.size + 1, 6, none⟩ x6).setCell ⟨w.heap.size + 1, 7, none⟩ x7).setCell ⟨w.heap.size + 1, 8, none⟩ x8).setCell ⟨w.heap.size + 1, 9, none⟩ x9).cell? ⟨w.heap.size, 1, none⟩ = some (.string l.e.op) ∧ ((((((((((W.setCell ⟨w.heap.size + 1, 0, none⟩ x0).setCell ⟨w.heap.size + 1, 1, none⟩ x1).setCell ⟨w.heap.size + 1, 2, none⟩ x2).setCell ⟨w.heap.size + 1, 3, none⟩ x3).setCell ⟨w.heap.size + 1, 4, none⟩ x4).setCell ⟨w.heap.size + 1, 5, none⟩ x5).setCell ⟨w.heap.size + 1, 6, none⟩ x6).setCell ⟨w.heap.size + 1, 7, none⟩ x7).setCell ⟨w.heap.size + 1, 8, none⟩ x8).setCell ⟨w.heap.size + 1, 9, none⟩ x9).cell? ⟨w.heap.size, 2, none⟩ = some (.int .i64 l.e.vk) ∧ ((((((((((W.setCell ⟨w.heap.size + 1, 0, none⟩ x0).setCell ⟨w.heap.size + 1, 1, none⟩ x1).setCell ⟨w.heap.size + 1, 2, none⟩ x2).setCell ⟨w.heap.size + 1, 3, none⟩ x3).setCell ⟨w.heap.size + 1, 4, none⟩ x4).setCell ⟨w.heap.size + 1, 5, none⟩ x5).setCell ⟨w.heap.size + 1, 6, none⟩ x6).setCell ⟨w.heap.size + 1, 7, none⟩ x7).setCell ⟨w.heap.size + 1, 8, none⟩ x8).setCell ⟨w.heap.size + 1, 9, none⟩ x9).cell? ⟨w.heap.size, 3, none⟩ = some (.int .i64 l.e.vn) ∧ ((((((((((W.setCell ⟨w.heap.size + 1, 0, none⟩ x0).setCell ⟨w.heap.size + 1, 1, none⟩ x1).setCell ⟨w.heap.size + 1, 2, none⟩ x2).setCell ⟨w.heap.size + 1, 3, none⟩ x3).setCell ⟨w.heap.size + 1, 4, none⟩ x4).setCell ⟨w.heap.size + 1, 5, none⟩ x5).setCell ⟨w.heap.size + 1, 6, none⟩ x6).setCell ⟨w.heap.size + 1, 7, none⟩ x7).setCell ⟨w.heap.size + 1, 8, none⟩ x8).setCell ⟨w.heap.size + 1, 9, none⟩ x9).cell? ⟨w.heap.size, 4, none⟩ = some (.string l.e.vs) ∧ ((((((((((W.setCell ⟨w.heap.size + 1, 0, none⟩ x0).setCell ⟨w.heap.size + 1, 1, none⟩ x1).setCell ⟨w.heap.size + 1, 2, none⟩ x2).setCell ⟨w.heap.size + 1, 3, none⟩ x3).setCell ⟨w.heap.size + 1, 4, none⟩ x4).setCell ⟨w.heap.size + 1, 5, none⟩ x5).setCell ⟨w.heap.size + 1, 6, none⟩ x6).setCell ⟨w.heap.size + 1, 7, none⟩ x7).setCell ⟨w.heap.size + 1, 8, none⟩ x8).setCell ⟨w.heap.size + 1, 9, none⟩ x9).cell? ⟨w.heap.size, 5, none⟩ = some (.string l.e.tab) ∧ ((((((((((W.setCell ⟨w.heap.size + 1, 0, none⟩ x0).setCell ⟨w.heap.size + 1, 1, none⟩ x1).setCell ⟨w.heap.size + 1, 2, none⟩ x2).setCell ⟨w.heap.size + 1, 3, none⟩ x3).setCell ⟨w.heap.size + 1, 4, none⟩ x4).setCell ⟨w.heap.size + 1, 5, none⟩ x5).setCell ⟨w.heap.size + 1, 6, none⟩ x6).setCell ⟨w.heap.size + 1, 7, none⟩ x7).setCell ⟨w.heap.size + 1, 8, none⟩ x8).setCell ⟨w.heap.size + 1, 9, none⟩ x9).cell? ⟨w.heap.size, 6, none⟩ = some (.string l.e.col) ∧ ((((((((((W.setCell ⟨w.heap.size + 1, 0, none⟩ x0).setCell ⟨w.heap.size + 1, 1, none⟩ x1).setCell ⟨w.heap.size + 1, 2, none⟩ x2).setCell ⟨w.heap.size + 1, 3, none⟩ x3).setCell ⟨w.heap.size + 1, 4, none⟩ x4).setCell ⟨w.heap.size + 1, 5, none⟩ x5).setCell ⟨w.heap.size + 1, 6, none⟩ x6).setCell ⟨w.heap.size + 1, 7, none⟩ x7).setCell ⟨w.heap.size + 1, 8, none⟩ x8).setCell ⟨w.heap.size + 1, 9, none⟩ x9).cell? ⟨w.heap.size, 7, none⟩ = some (.slice la l.e.parts.length lc) ∧ ((((((((((W.setCell ⟨w.heap.size + 1, 0, none⟩ x0).setCell ⟨w.heap.size + 1, 1, none⟩ x1).setCell ⟨w.heap.size + 1, 2, none⟩ x2).setCell ⟨w.heap.size + 1, 3, none⟩ x3).setCell ⟨w.heap.size + 1, 4, none⟩ x4).setCell ⟨w.heap.size + 1, 5, none⟩ x5).setCell ⟨w.heap.size + 1, 6, none⟩ x6).setCell ⟨w.heap.size + 1, 7, none⟩ x7).setCell ⟨w.heap.size + 1, 8, none⟩ x8).setCell ⟨w.heap.size + 1, 9, none⟩ x9).cell? ⟨w.heap.size, 8, none⟩ = some (.int .i64 l.lv) ∧ ((((((((((W.setCell ⟨w.heap.size + 1, 0, none⟩ x0).setCell ⟨w.heap.size + 1, 1, none⟩ x1).setCell ⟨w.heap.size + 1, 2, none⟩ x2).setCell ⟨w.heap.size + 1, 3, none⟩ x3).setCell ⟨w.heap.size + 1, 4, none⟩ x4).setCell ⟨w.heap.size + 1, 5, none⟩ x5).setCell ⟨w.heap.size + 1, 6, none⟩ x6).setCell ⟨w.heap.size + 1, 7, none⟩ x7).setCell ⟨w.heap.size + 1, 8, none⟩ x8).setCell ⟨w.heap.size + 1, 9, none⟩ x9).cell? ⟨w.heap.size, 9, none⟩ = some (.int .i64 l.dp))) from fun W x0 x1 x2 x3 x4 x5 x6 x7 x8 x9 hW => HK9s.out W [x0, x1, x2, x3, x4, x5, x6, x7, x8, x9] hW)
        have HPsF := Lib.hid (show ∀ (w8 : World) (B0 g2 cap2 : Nat), Below w6.heap.size w6 w8 → w8.ownsRow B0 202 10 (.slice (some ⟨g2, 0, none⟩) (fn + 1) cap2) (fn + 1) (ptsX (pl ++ [(l, la, lc)])) → ∀ W, Below w8.heap.size w8 W → PsAt W (TQ (Bx A w.heap.size w1.heap.size) N (.slice (some ⟨g, 0, none⟩) k c)) (some ⟨g2, 0, none⟩) (fn + 1) (d.left ++ [l]) from fun w8 B0 g2 cap2 h8 ho W hW => by
          have := psAt_own (Q := TQ (Bx A w.heap.size w1.heap.size) N (.slice (some ⟨g, 0, none⟩) k c)) ho (by simp [HPl.out.2]) (by have := HFn.out; omega) (fun x hx => by
            rcases List.mem_append.1 hx with hx | hx
            · exact ⟨(HPr.out x hx).1, (HPr.out x hx).2.keep h8⟩
            · obtain rfl := List.mem_singleton.1 hx
              exact ⟨HLr.out, HLe6.out.keep h8⟩)
          rw [List.map_append, HPl.out.1] at this
          exact this.keep hW)
        have HEl6 := Lib.hid HLe6.out
        obtain ⟨p, hp⟩ : ∃ p, p = buildP d.kind d.op 0 0 ⟨#[]⟩ ⟨#[]⟩ ⟨#[]⟩ d.lv (d.left ++ [l]) := ⟨_, rfl⟩
        have HP := Lib.hid hp
        rw [← hp] at HQ
        clear hpl1 hpl2 hpl3 hpl4 hp
        go_upto_region 9 with (fail)
        clear l0 l1 l2 l3 l4 l5 l6 l7 l8 l9 lz lN p0 p1 p2 p3 p4 p5 p6 p7 p8 p9 p10 p11 pN
        go_region_held_law (fun W => (W.cell? ⟨w1.heap.size, 0, none⟩ = some (.int .i64 d.kind) ∧ W.cell? ⟨w1.heap.size, 1, none⟩ = some (.string d.op) ∧ W.cell? ⟨w1.heap.size, 2, none⟩ = some (.int .i64 0) ∧ W.cell? ⟨w1.heap.size, 3, none⟩ = some (.int .i64 0) ∧ W.cell? ⟨w1.heap.size, 4, none⟩ = some (.string ⟨#[]⟩) ∧ W.cell? ⟨w1.heap.size, 5, none⟩ = some (.string ⟨#[]⟩) ∧ W.cell? ⟨w1.heap.size, 6, none⟩ = some (.string ⟨#[]⟩) ∧ W.cell? ⟨w1.heap.size, 7, none⟩ = some (.slice none 0 0) ∧ W.cell? ⟨w1.heap.size, 8, none⟩ = some (.int .i64 d.lv) ∧ W.cell? ⟨w1.heap.size, 9, none⟩ = some (.slice fa fn fn)) ∧ (W.cell? ⟨w.heap.size, 0, none⟩ = some (.int .i64 l.e.kind) ∧ W.cell? ⟨w.heap.size, 1, none⟩ = some (.string l.e.op) ∧ W.cell? ⟨w.heap.size, 2, none⟩ = some (.int .i64 l.e.vk) ∧ W.cell? ⟨w.heap.size, 3, none⟩ = some (.int .i64 l.e.vn) ∧ W.cell? ⟨w.heap.size, 4, none⟩ = some (.string l.e.vs) ∧ W.cell? ⟨w.heap.size, 5, none⟩ = some (.string l.e.tab) ∧ W.cell? ⟨w.heap.size, 6, none⟩ = some (.string l.e.col) ∧ W.cell? ⟨w.heap.size, 7, none⟩ = some (.slice la l.e.parts.length lc) ∧ W.cell? ⟨w.heap.size, 8, none⟩ = some (.int .i64 l.lv) ∧ W.cell? ⟨w.heap.size, 9, none⟩ = some (.int .i64 l.dp))) (first
            | (with_reducible refine HK9.out _ ?_
               repeat (first | with_reducible exact HN9.out | with_reducible exact HN8.out | with_reducible exact Below.refl _ _ | with_reducible refine bel0 _ ?_ | with_reducible refine Below.drew ?_)
               done)
            | (with_reducible refine HK9n.out _ _ _ _ _ _ _ _ _ _ _ ?_
               repeat (first | with_reducible exact HN9.out | with_reducible refine Below.drew ?_)
               done))
          (first
            | (refine step_pt rfl (.tmp 57) (.tmp 59) rfl fa fn pl rfl HPl.out.2 HFn.out HF.out.2.1 (HOld.out _ (by repeat (first | exact Below.refl _ _ | refine bel0 _ ?_ | refine Below.drew ?_))) w6.heap.size l la lc rfl (by exact Go.heap_alloc_new _ _) ?_; intro g2 cap2 w8 hown8 hb8; have HN8 := Lib.hid (show Below w6.heap.size w6 w8 from Below.trans (by repeat (first | exact Below.refl _ _ | refine bel0 _ ?_ | refine Below.drew ?_)) (hb8.mono (by simp))); have HPs8 := Lib.hid (HPsF.out w8 _ g2 cap2 HN8.out hown8); clear hb8 hown8)
            | (go_simp; go_at_call 194; refine (build_any d.kind d.op 0 0 ⟨#[]⟩ ⟨#[]⟩ ⟨#[]⟩ d.lv (d.left ++ [l]) HEg.out HLd.out _ _ _ (fn + 1) cap2 (HPs8.out _ (by repeat (first | exact Below.refl _ _ | refine Below.drew ?_))) HDq.out).mono ?_; rintro e' w9 ⟨pv, rfl, ⟨sa, sc, rfl, hrg, hel⟩, hb9⟩; rw [← HP.out] at hrg hel ⊢; rw [ptX_arr]; have HN9 := Lib.hid (show Below w6.heap.size w6 w9 from bt HN8.out hb9); have HEl9 := Lib.hid (el_fresh2 HSx.out hel (by exact HN8.out.size) HT6.out.below.size); have HRg9 := Lib.hid hrg; have hR := (HN9.out.block (w.heap.size + 1) (Array.getElem?_eq_some_iff.1 HR6.out).1).trans HR6.out; obtain ⟨r0, r1, r2, r3, r4, r5, r6, r7, r8, r9, rz, rN⟩ := row10 hR; have HR9 := Lib.hid hR; clear hrg hel hb9 hR))
        all_goals
          have HFin := Lib.hid (part_done (HSx.out.below HN9.out) HR9.out (by have := HLow.out; omega) HnB.out ((HT1.out.trans HT6.out).trans (.of_below HN9.out (Nat.le_of_lt HSx.out.low))) (Nat.le_succ _) HSub.out p sa sc HRg9.out HEl9.out)
          go_wp2
        all_goals
          refine bodyPost_ret (results_pt2 rfl _ _ (w.heap.size + 1) _ _ _ _ _ _ _ _ _ _ rfl HFin.out.1) rfl ?_
          rw [HQ.out]
          exact ⟨_, _, mr, rfl, HFin.out.2.1, HFin.out.2.2.1, HFin.out.2.2.2⟩
  | false =>
    obtain ⟨w6, rfl⟩ : ∃ x, x = w5 := ⟨_, rfl⟩
    have HT56 := Lib.hid (TTo.refl N (.slice (some ⟨g, 0, none⟩) k c) w6)
    have HT6 := HT5
    have HSx := HS5
    rw [← HCl.out] at HC
    have HC2 := Lib.hid (show closeP ws l s d (mr.map (·.1)) = (if d.kind = 0 then ({ l with lv := 8 }, true, s0) else (buildP d.kind d.op 0 0 ⟨#[]⟩ ⟨#[]⟩ ⟨#[]⟩ d.lv (d.left ++ [l]), true, s0)) by rw [HC.out]; simp)
    obtain ⟨s6, hs6⟩ : ∃ s6, s6 = s0 := ⟨_, rfl⟩
    rw [← hs6] at HSx HC2
    clear hs6
    obtain ⟨l0, l1, l2, l3, l4, l5, l6, l7, l8, l9, lz, lN⟩ := row10 (HLB.out w6 _ HT6.out)
    have HLb := Lib.hid (HLB.out w6 _ HT6.out)
    have HLe6 := Lib.hid (HLe1.out.toT HT6.out)
    by_cases hk0 : d.kind = 0
    · have HQ := Lib.hid (show closeP ws l s d (mr.map (·.1)) = ({ l with lv := 8 }, true, s6) by rw [HC2.out, if_pos hk0])
      have hkd : (d.kind == 0) = true := by simp [hk0]
      go_upto_region 8 with (fail)
      have hLb7 : (w6.setCell ⟨w.heap.size, 8, none⟩ (.int .i64 8)).heap[w.heap.size]? = some (.cells (ptX { l with lv := 8 } la lc).toArray 202 (0, 0)) := Go.heap_setCell_same w6 _ 8 _ _ _ HLb.out
      have hoth : ∀ i, i ≠ w.heap.size → (w6.setCell ⟨w.heap.size, 8, none⟩ (.int .i64 8)).heap[i]? = w6.heap[i]? := fun i hi => heap_setCell_other _ _ _ _ hi
      have hL7 : (w6.setCell ⟨w.heap.size, 8, none⟩ (.int .i64 8)).heap.size = w6.heap.size := by simp
      have HS7 := Lib.hid (HSx.out.far HLow.out HnL.out (by intro e; have e2 : g = w.heap.size := (by simpa [Value.ownBlock] using e); have := HGw.out; omega) hL7 ⟨rfl, rfl, rfl⟩ hoth)
      have T := HT1.out.trans HT6.out
      have HT7 := Lib.hid (show TTo N (.slice (some ⟨g, 0, none⟩) n c) (.slice (some ⟨g, 0, none⟩) k c) w (w6.setCell ⟨w.heap.size, 8, none⟩ (.int .i64 8)) from ⟨T.below.setCell (p := ⟨w.heap.size, 8, none⟩) (Nat.le_of_lt HLow.out) _, fun i hi hn hv => (hoth i (by omega)).trans (T.block i hi hn hv), T.own⟩)
      have HR7 := Lib.hid ((hoth (w.heap.size + 1) (by omega)).trans (HBX.out w6 _ HT6.out))
      have HLe7 := Lib.hid (HLe6.out.far (Nat.le_of_eq hL7.symm) (fun b hb _ => hoth b (fun e => HnL.out (by have h : Bx A w.heap.size w1.heap.size b := hb.1; rw [e] at h; exact h))))
      rw [ptX_arr] at hLb7
      generalize (w6.setCell ⟨w.heap.size, 8, none⟩ (.int .i64 8)) = w7 at *
      clear l0 l1 l2 l3 l4 l5 l6 l7 l8 l9 lz lN p0 p1 p2 p3 p4 p5 p6 p7 p8 p9 p10 p11 pN hoth T hL7
      obtain ⟨l0, l1, l2, l3, l4, l5, l6, l7, l8, l9, lz, lN⟩ := row10 hLb7
      obtain ⟨r0, r1, r2, r3, r4, r5, r6, r7, r8, r9, rz, rN⟩ := row10 HR7.out
      have HFin := Lib.hid (part_done HS7.out HR7.out (by have := HLow.out; omega) HnB.out HT7.out (Nat.le_succ _) HSub.out { l with lv := 8 } la lc ⟨HLr.out.e, by show InR 8; unfold InR; omega, HLr.out.dp⟩ HLe7.out)
      clear hLb7
      go_wp2
      refine bodyPost_ret (results_pt2 rfl _ _ (w.heap.size + 1) _ _ _ _ _ _ _ _ _ _ rfl HFin.out.1) rfl ?_
      rw [HQ.out]
      exact ⟨_, _, mr, rfl, HFin.out.2.1, HFin.out.2.2.1, HFin.out.2.2.2⟩
    · have HQ := Lib.hid (show closeP ws l s d (mr.map (·.1)) = (buildP d.kind d.op 0 0 ⟨#[]⟩ ⟨#[]⟩ ⟨#[]⟩ d.lv (d.left ++ [l]), true, s6) by rw [HC2.out, if_neg hk0])
      have hkd : (d.kind == 0) = false := by simp [hk0]
      have HLf := Lib.hid (show ∃ pl : List (Pt × Option Addr × Nat), pl.map (·.1) = d.left ∧ pl.length = fn ∧ (∀ W, Below w6.heap.size w6 W → ∀ b, fa = some b → ∀ j u, (ptsX pl)[j]? = some u → W.cell? (b.add j) = some u) ∧ ∀ x ∈ pl, PRg x.1 x.2.1 x.2.2 ∧ EL w6 (TQ (Bx A w.heap.size w1.heap.size) N (.slice (some ⟨g, 0, none⟩) k c)) x.2.1 x.1.e.parts from by
        have T := HT1.out.trans HT6.out
        have hlf := H0.out.lefts (d, dl) (by simp)
        have h1 := HF.out.1
        have h2 := HF.out.2.2
        have h3 : d.left.length ≤ 1 := H0.out.one (d, dl) (by simp)
        generalize d.left = dd at hlf h1 h3
        match dd, h1, h3 with
        | [], h1, _ => exact ⟨[], rfl, h1, fun W hW b hb j u hu => by simp [ptsX] at hu, fun x hx => by cases hx⟩
        | [q], h1, _ =>
          obtain ⟨g1, g2, qa, qc, g3, g4, g5⟩ := hlf q rfl
          have hdl : w6.heap[dl]? = some (.cells (ptX q qa qc).toArray 202 (0, 0)) := (T.block dl g1 g2.2.1 g2.2.2).trans g3
          refine ⟨[(q, qa, qc)], rfl, h1, fun W hW b hb j u hu => ?_, fun x hx => ?_⟩
          · obtain rfl := h2 b hb
            have hu' : (ptX q qa qc)[j]? = some u := by simpa [ptsX] using hu
            exact World.news_of_block ((hW.block dl (Array.getElem?_eq_some_iff.1 hdl).1).trans hdl) j u hu'
          · obtain rfl := List.mem_singleton.1 hx
            exact ⟨g4, (g5.mono (Q' := TQ (Bx A w.heap.size w1.heap.size) N (.slice (some ⟨g, 0, none⟩) n c)) (fun b hb hlt => ⟨.inl ⟨hb.1, hlt⟩, hb.2⟩)).toT T⟩
        | _ :: _ :: _, h1, h3 => simp at h3)
      obtain ⟨pl, hpl1, hpl2, hpl3, hpl4⟩ := HLf.out
      have HPl := Lib.hid (And.intro hpl1 hpl2)
      have HOld := Lib.hid hpl3
      have HPr := Lib.hid hpl4
      have hf3 := HF.out.2.1
      have HFn := Lib.hid (show fn ≤ 10 by have h1 := HF.out.1; have h2 := H0.out.one (d, dl) (by simp); have h3 : d.left.length ≤ 1 := h2; omega)
      have HDq := Lib.hid (show ∀ q ∈ d.left ++ [l], q.dp < 1000000 from fun q hq => by
        rcases List.mem_append.1 hq with hq | hq
        · have h3 : d.left.length ≤ 1 := H0.out.one (d, dl) (by simp)
          match hm : d.left, h3 with
          | [], _ => rw [hm] at hq; cases hq
          | [x], _ =>
            rw [hm] at hq
            obtain rfl := List.mem_singleton.1 hq
            exact HQd.out _ hm
          | _ :: _ :: _, h => simp at h
        · obtain rfl := List.mem_singleton.1 hq
          exact HD.out)
      have HEg := Lib.hid (show ERg (.mk d.kind d.op 0 0 ⟨#[]⟩ ⟨#[]⟩ ⟨#[]⟩ []) none 0 from erg_op HKd.out HOd.out)
      have HK9 := Lib.hid (show ∀ W : World, Below w6.heap.size w6 W → ((W.cell? ⟨w1.heap.size, 0, none⟩ = some (.int .i64 d.kind) ∧ W.cell? ⟨w1.heap.size, 1, none⟩ = some (.string d.op) ∧ W.cell? ⟨w1.heap.size, 2, none⟩ = some (.int .i64 0) ∧ W.cell? ⟨w1.heap.size, 3, none⟩ = some (.int .i64 0) ∧ W.cell? ⟨w1.heap.size, 4, none⟩ = some (.string ⟨#[]⟩) ∧ W.cell? ⟨w1.heap.size, 5, none⟩ = some (.string ⟨#[]⟩) ∧ W.cell? ⟨w1.heap.size, 6, none⟩ = some (.string ⟨#[]⟩) ∧ W.cell? ⟨w1.heap.size, 7, none⟩ = some (.slice none 0 0) ∧ W.cell? ⟨w1.heap.size, 8, none⟩ = some (.int .i64 d.lv) ∧ W.cell? ⟨w1.heap.size, 9, none⟩ = some (.slice fa fn fn)) ∧ (W.cell? ⟨w.heap.size, 0, none⟩ = some (.int .i64 l.e.kind) ∧ W.cell? ⟨w.heap.size, 1, none⟩ = some (.string l.e.op) ∧ W.cell? ⟨w.heap.size, 2, none⟩ = some (.int .i64 l.e.vk) ∧ W.cell? ⟨w.heap.size, 3, none⟩ = some (.int .i64 l.e.vn) ∧ W.cell? ⟨w.heap.size, 4, none⟩ = some (.string l.e.vs) ∧ W.cell? ⟨w.heap.size, 5, none⟩ = some (.string l.e.tab) ∧ W.cell? ⟨w.heap.size, 6, none⟩ = some (.string l.e.col) ∧ W.cell? ⟨w.heap.size, 7, none⟩ = some (.slice la l.e.parts.length lc) ∧ W.cell? ⟨w.heap.size, 8, none⟩ = some (.int .i64 l.lv) ∧ W.cell? ⟨w.heap.size, 9, none⟩ = some (.int .i64 l.dp))) from fun W hW => by
        have hp := (hW.block w1.heap.size pN).trans (HPb.out w6 _ HT56.out)
        have hL := (hW.block w.heap.size lN).trans HLb.out
        obtain ⟨p0, p1, p2, p3, p4, p5, p6, p7, p8, p9, p10, p11, -, pN⟩ := row12 hp
        obtain ⟨l0, l1, l2, l3, l4, l5, l6, l7, l8, l9, lz, lN⟩ := row10 hL
        exact ⟨⟨p0, p1, p2, p3, p4, p5, p6, p7, p8, p9⟩, l0, l1, l2, l3, l4, l5, l6, l7, l8, l9⟩)
      have HR6 := Lib.hid (HBX.out w6 _ HT6.out)
      have HK9s := Lib.hid (show ∀ (W : World) (vs : List Value), Below w6.heap.size w6 W → (((setLe W (w.heap.size + 1) 0 vs).cell? ⟨w1.heap.size, 0, none⟩ = some (.int .i64 d.kind) ∧ (setLe W (w.heap.size + 1) 0 vs).cell? ⟨w1.heap.size, 1, none⟩ = some (.string d.op) ∧ (setLe W (w.heap.size + 1) 0 vs).cell? ⟨w1.heap.size, 2, none⟩ = some (.int .i64 0) ∧ (setLe W (w.heap.size + 1) 0 vs).cell? ⟨w1.heap.size, 3, none⟩ = some (.int .i64 0) ∧ (setLe W (w.heap.size + 1) 0 vs).cell? ⟨w1.heap.size, 4, none⟩ = some (.string ⟨#[]⟩) ∧ (setLe W (w.heap.size + 1) 0 vs).cell? ⟨w1.heap.size, 5, none⟩ = some (.string ⟨#[]⟩) ∧ (setLe W (w.heap.size + 1) 0 vs).cell? ⟨w1.heap.size, 6, none⟩ = some (.string ⟨#[]⟩) ∧ (setLe W (w.heap.size + 1) 0 vs).cell? ⟨w1.heap.size, 7, none⟩ = some (.slice none 0 0) ∧ (setLe W (w.heap.size + 1) 0 vs).cell? ⟨w1.heap.size, 8, none⟩ = some (.int .i64 d.lv) ∧ (setLe W (w.heap.size + 1) 0 vs).cell? ⟨w1.heap.size, 9, none⟩ = some (.slice fa fn fn)) ∧ ((setLe W (w.heap.size + 1) 0 vs).cell? ⟨w.heap.size, 0, none⟩ = some (.int .i64 l.e.kind) ∧ (setLe W (w.heap.size + 1) 0 vs).cell? ⟨w.heap.size, 1, none⟩ = some (.string l.e.op) ∧ (setLe W (w.heap.size + 1) 0 vs).cell? ⟨w.heap.size, 2, none⟩ = some (.int .i64 l.e.vk) ∧ (setLe W (w.heap.size + 1) 0 vs).cell? ⟨w.heap.size, 3, none⟩ = some (.int .i64 l.e.vn) ∧ (setLe W (w.heap.size + 1) 0 vs).cell? ⟨w.heap.size, 4, none⟩ = some (.string l.e.vs) ∧ (setLe W (w.heap.size + 1) 0 vs).cell? ⟨w.heap.size, 5, none⟩ = some (.string l.e.tab) ∧ (setLe W (w.heap.size + 1) 0 vs).cell? ⟨w.heap.size, 6, none⟩ = some (.string l.e.col) ∧ (setLe W (w.heap.size + 1) 0 vs).cell? ⟨w.heap.size, 7, none⟩ = some (.slice la l.e.parts.length lc) ∧ (setLe W (w.heap.size + 1) 0 vs).cell? ⟨w.heap.size, 8, none⟩ = some (.int .i64 l.lv) ∧ (setLe W (w.heap.size + 1) 0 vs).cell? ⟨w.heap.size, 9, none⟩ = some (.int .i64 l.dp))) from fun W vs hW => by
        have hp := (setLe_other (B := w.heap.size + 1) (by have := HSz.out; omega) vs 0 W).trans ((hW.block w1.heap.size pN).trans (HPb.out w6 _ HT56.out))
        have hL := (setLe_other (B := w.heap.size + 1) (by omega) vs 0 W).trans ((hW.block w.heap.size lN).trans HLb.out)
        obtain ⟨p0, p1, p2, p3, p4, p5, p6, p7, p8, p9, p10, p11, -, pN⟩ := row12 hp
        obtain ⟨l0, l1, l2, l3, l4, l5, l6, l7, l8, l9, lz, lN⟩ := row10 hL
        exact ⟨⟨p0, p1, p2, p3, p4, p5, p6, p7, p8, p9⟩, l0, l1, l2, l3, l4, l5, l6, l7, l8, l9⟩)
      have HK9n := Lib.hid (show ∀ (W : World) (x0 x1 x2 x3 x4 x5 x6 x7 x8 x9 : Value), Below w6.heap.size w6 W → ((((((((((((W.setCell ⟨w.heap.size + 1, 0, none⟩ x0).setCell ⟨w.heap.size + 1, 1, none⟩ x1).setCell ⟨w.heap.size + 1, 2, none⟩ x2).setCell ⟨w.heap.size + 1, 3, none⟩ x3).setCell ⟨w.heap.size + 1, 4, none⟩ x4).setCell ⟨w.heap.size + 1, 5, none⟩ x5).setCell ⟨w.heap.size + 1, 6, none⟩ x6).setCell ⟨w.heap.size + 1, 7, none⟩ x7).setCell ⟨w.heap.size + 1, 8, none⟩ x8).setCell ⟨w.heap.size + 1, 9, none⟩ x9).cell? ⟨w1.heap.size, 0, none⟩ = some (.int .i64 d.kind) ∧ ((((((((((W.setCell ⟨w.heap.size + 1, 0, none⟩ x0).setCell ⟨w.heap.size + 1, 1, none⟩ x1).setCell ⟨w.heap.size + 1, 2, none⟩ x2).setCell ⟨w.heap.size + 1, 3, none⟩ x3).setCell ⟨w.heap.size + 1, 4, none⟩ x4).setCell ⟨w.heap.size + 1, 5, none⟩ x5).setCell ⟨w.heap.size + 1, 6, none⟩ x6).setCell ⟨w.heap.size + 1, 7, none⟩ x7).setCell ⟨w.heap.size + 1, 8, none⟩ x8).setCell ⟨w.heap.size + 1, 9, none⟩ x9).cell? ⟨w1.heap.size, 1, none⟩ = some (.string d.op) ∧ ((((((((((W.setCell ⟨w.heap.size + 1, 0, none⟩ x0).setCell ⟨w.heap.size + 1, 1, none⟩ x1).setCell ⟨w.heap.size + 1, 2, none⟩ x2).setCell ⟨w.heap.size + 1, 3, none⟩ x3).setCell ⟨w.heap.size + 1, 4, none⟩ x4).setCell ⟨w.heap.size + 1, 5, none⟩ x5).setCell ⟨w.heap.size + 1, 6, none⟩ x6).setCell ⟨w.heap.size + 1, 7, none⟩ x7).setCell ⟨w.heap.size + 1, 8, none⟩ x8).setCell ⟨w.heap.size + 1, 9, none⟩ x9).cell? ⟨w1.heap.size, 2, none⟩ = some (.int .i64 0) ∧ ((((((((((W.setCell ⟨w.heap.size + 1, 0, none⟩ x0).setCell ⟨w.heap.size + 1, 1, none⟩ x1).setCell ⟨w.heap.size + 1, 2, none⟩ x2).setCell ⟨w.heap.size + 1, 3, none⟩ x3).setCell ⟨w.heap.size + 1, 4, none⟩ x4).setCell ⟨w.heap.size + 1, 5, none⟩ x5).setCell ⟨w.heap.size + 1, 6, none⟩ x6).setCell ⟨w.heap.size + 1, 7, none⟩ x7).setCell ⟨w.heap.size + 1, 8, none⟩ x8).setCell ⟨w.heap.size + 1, 9, none⟩ x9).cell? ⟨w1.heap.size, 3, none⟩ = some (.int .i64 0) ∧ ((((((((((W.setCell ⟨w.heap.size + 1, 0, none⟩ x0).setCell ⟨w.heap.size + 1, 1, none⟩ x1).setCell ⟨w.heap.size + 1, 2, none⟩ x2).setCell ⟨w.heap.size + 1, 3, none⟩ x3).setCell ⟨w.heap.size + 1, 4, none⟩ x4).setCell ⟨w.heap.size + 1, 5, none⟩ x5).setCell ⟨w.heap.size + 1, 6, none⟩ x6).setCell ⟨w.heap.size + 1, 7, none⟩ x7).setCell ⟨w.heap.size + 1, 8, none⟩ x8).setCell ⟨w.heap.size + 1, 9, none⟩ x9).cell? ⟨w1.heap.size, 4, none⟩ = some (.string ⟨#[]⟩) ∧ ((((((((((W.setCell ⟨w.heap.size + 1, 0, none⟩ x0).setCell ⟨w.heap.size + 1, 1, none⟩ x1).setCell ⟨w.heap.size + 1, 2, none⟩ x2).setCell ⟨w.heap.size + 1, 3, none⟩ x3).setCell ⟨w.heap.size + 1, 4, none⟩ x4).setCell ⟨w.heap.size + 1, 5, none⟩ x5).setCell ⟨w.heap.size + 1, 6, none⟩ x6).setCell ⟨w.heap.size + 1, 7, none⟩ x7).setCell ⟨w.heap.size + 1, 8, none⟩ x8).setCell ⟨w.heap.size + 1, 9, none⟩ x9).cell? ⟨w1.heap.size, 5, none⟩ = some (.string ⟨#[]⟩) ∧ ((((((((((W.setCell ⟨w.heap.size + 1, 0, none⟩ x0).setCell ⟨w.heap.size + 1, 1, none⟩ x1).setCell ⟨w.heap.size + 1, 2, none⟩ x2).setCell ⟨w.heap.size + 1, 3, none⟩ x3).setCell ⟨w.heap.size + 1, 4, none⟩ x4).setCell ⟨w.heap.size + 1, 5, none⟩ x5).setCell ⟨w.heap.size + 1, 6, none⟩ x6).setCell ⟨w.heap.size + 1, 7, none⟩ x7).setCell ⟨w.heap.size + 1, 8, none⟩ x8).setCell ⟨w.heap.size + 1, 9, none⟩ x9).cell? ⟨w1.heap.size, 6, none⟩ = some (.string ⟨#[]⟩) ∧ ((((((((((W.setCell ⟨w.heap.size + 1, 0, none⟩ x0).setCell ⟨w.heap.size + 1, 1, none⟩ x1).setCell ⟨w.heap.size + 1, 2, none⟩ x2).setCell ⟨w.heap.size + 1, 3, none⟩ x3).setCell ⟨w.heap.size + 1, 4, none⟩ x4).setCell ⟨w.heap.size + 1, 5, none⟩ x5).setCell ⟨w.heap.size + 1, 6, none⟩ x6).setCell ⟨w.heap.size + 1, 7, none⟩ x7).setCell ⟨w.heap.size + 1, 8, none⟩ x8).setCell ⟨w.heap.size + 1, 9, none⟩ x9).cell? ⟨w1.heap.size, 7, none⟩ = some (.slice none 0 0) ∧ ((((((((((W.setCell ⟨w.heap.size + 1, 0, none⟩ x0).setCell ⟨w.heap.size + 1, 1, none⟩ x1).setCell ⟨w.heap.size + 1, 2, none⟩ x2).setCell ⟨w.heap.size + 1, 3, none⟩ x3).setCell ⟨w.heap.size + 1, 4, none⟩ x4).setCell ⟨w.heap.size + 1, 5, none⟩ x5).setCell ⟨w.heap.size + 1, 6, none⟩ x6).setCell ⟨w.heap.size + 1, 7, none⟩ x7).setCell ⟨w.heap.size + 1, 8, none⟩ x8).setCell ⟨w.heap.size + 1, 9, none⟩ x9).cell? ⟨w1.heap.size, 8, none⟩ = some (.int .i64 d.lv) ∧ ((((((((((W.setCell ⟨w.heap.size + 1, 0, none⟩ x0).setCell ⟨w.heap.size + 1, 1, none⟩ x1).setCell ⟨w.heap.size + 1, 2, none⟩ x2).setCell ⟨w.heap.size + 1, 3, none⟩ x3).setCell ⟨w.heap.size + 1, 4, none⟩ x4).setCell ⟨w.heap.size + 1, 5, none⟩ x5).setCell ⟨w.heap.size + 1, 6, none⟩ x6).setCell ⟨w.heap.size + 1, 7, none⟩ x7).setCell ⟨w.heap.size + 1, 8, none⟩ x8).setCell ⟨w.heap.size + 1, 9, none⟩ x9).cell? ⟨w1.heap.size, 9, none⟩ = some (.slice fa fn fn)) ∧ (((((((((((W.setCell ⟨w.heap.size + 1, 0, none⟩ x0).setCell ⟨w.heap.size + 1, 1, none⟩ x1).setCell ⟨w.heap.size + 1, 2, none⟩ x2).setCell ⟨w.heap.size + 1, 3, none⟩ x3).setCell ⟨w.heap.size + 1, 4, none⟩ x4).setCell ⟨w.heap.size + 1, 5, none⟩ x5).setCell ⟨w.heap.size + 1, 6, none⟩ x6).setCell ⟨w.heap.size + 1, 7, none⟩ x7).setCell ⟨w.heap.size + 1, 8, none⟩ x8).setCell ⟨w.heap.size + 1, 9, none⟩ x9).cell? ⟨w.heap.size, 0, none⟩ = some (.int .i64 l.e.kind) ∧ ((((((((((W.setCell ⟨w.heap.size + 1, 0, none⟩ x0).setCell ⟨w.heap.size + 1, 1, none⟩ x1).setCell ⟨w.heap.size + 1, 2, none⟩ x2).setCell ⟨w.heap.size + 1, 3, none⟩ x3).setCell ⟨w.heap.size + 1, 4, none⟩ x4).setCell ⟨w.heap.size + 1, 5, none⟩ x5).setCell ⟨w.heap.size + 1, 6, none⟩ x6).setCell ⟨w.heap.size + 1, 7, none⟩ x7).setCell ⟨w.heap.size + 1, 8, none⟩ x8).setCell ⟨w.heap.size + 1, 9, none⟩ x9).cell? ⟨w.heap.size, 1, none⟩ = some (.string l.e.op) ∧ ((((((((((W.setCell ⟨w.heap.size + 1, 0, none⟩ x0).setCell ⟨w.heap.size + 1, 1, none⟩ x1).setCell ⟨w.heap.size + 1, 2, none⟩ x2).setCell ⟨w.heap.size + 1, 3, none⟩ x3).setCell ⟨w.heap.size + 1, 4, none⟩ x4).setCell ⟨w.heap.size + 1, 5, none⟩ x5).setCell ⟨w.heap.size + 1, 6, none⟩ x6).setCell ⟨w.heap.size + 1, 7, none⟩ x7).setCell ⟨w.heap.size + 1, 8, none⟩ x8).setCell ⟨w.heap.size + 1, 9, none⟩ x9).cell? ⟨w.heap.size, 2, none⟩ = some (.int .i64 l.e.vk) ∧ ((((((((((W.setCell ⟨w.heap.size + 1, 0, none⟩ x0).setCell ⟨w.heap.size + 1, 1, none⟩ x1).setCell ⟨w.heap.size + 1, 2, none⟩ x2).setCell ⟨w.heap.size + 1, 3, none⟩ x3).setCell ⟨w.heap.size + 1, 4, none⟩ x4).setCell ⟨w.heap.size + 1, 5, none⟩ x5).setCell ⟨w.heap.size + 1, 6, none⟩ x6).setCell ⟨w.heap.size + 1, 7, none⟩ x7).setCell ⟨w.heap.size + 1, 8, none⟩ x8).setCell ⟨w.heap.size + 1, 9, none⟩ x9).cell? ⟨w.heap.size, 3, none⟩ = some (.int .i64 l.e.vn) ∧ ((((((((((W.setCell ⟨w.heap.size + 1, 0, none⟩ x0).setCell ⟨w.heap.size + 1, 1, none⟩ x1).setCell ⟨w.heap.size + 1, 2, none⟩ x2).setCell ⟨w.heap.size + 1, 3, none⟩ x3).setCell ⟨w.heap.size + 1, 4, none⟩ x4).setCell ⟨w.heap.size + 1, 5, none⟩ x5).setCell ⟨w.heap.size + 1, 6, none⟩ x6).setCell ⟨w.heap.size + 1, 7, none⟩ x7).setCell ⟨w.heap.size + 1, 8, none⟩ x8).setCell ⟨w.heap.size + 1, 9, none⟩ x9).cell? ⟨w.heap.size, 4, none⟩ = some (.string l.e.vs) ∧ ((((((((((W.setCell ⟨w.heap.size + 1, 0, none⟩ x0).setCell ⟨w.heap.size + 1, 1, none⟩ x1).setCell ⟨w.heap.size + 1, 2, none⟩ x2).setCell ⟨w.heap.size + 1, 3, none⟩ x3).setCell ⟨w.heap.size + 1, 4, none⟩ x4).setCell ⟨w.heap.size + 1, 5, none⟩ x5).setCell ⟨w.heap.size + 1, 6, none⟩ x6).setCell ⟨w.heap.size + 1, 7, none⟩ x7).setCell ⟨w.heap.size + 1, 8, none⟩ x8).setCell ⟨w.heap.size + 1, 9, none⟩ x9).cell? ⟨w.heap.size, 5, none⟩ = some (.string l.e.tab) ∧ ((((((((((W.setCell ⟨w.heap.size + 1, 0, none⟩ x0).setCell ⟨w.heap.size + 1, 1, none⟩ x1).setCell ⟨w.heap.size + 1, 2, none⟩ x2).setCell ⟨w.heap.size + 1, 3, none⟩ x3).setCell ⟨w.heap.size + 1, 4, none⟩ x4).setCell ⟨w.heap.size + 1, 5, none⟩ x5).setCell ⟨w.heap.size + 1, 6, none⟩ x6).setCell ⟨w.heap.size + 1, 7, none⟩ x7).setCell ⟨w.heap.size + 1, 8, none⟩ x8).setCell ⟨w.heap.size + 1, 9, none⟩ x9).cell? ⟨w.heap.size, 6, none⟩ = some (.string l.e.col) ∧ ((((((((((W.setCell ⟨w.heap.size + 1, 0, none⟩ x0).setCell ⟨w.heap.size + 1, 1, none⟩ x1).setCell ⟨w.heap.size + 1, 2, none⟩ x2).setCell ⟨w.heap.size + 1, 3, none⟩ x3).setCell ⟨w.heap.size + 1, 4, none⟩ x4).setCell ⟨w.heap.size + 1, 5, none⟩ x5).setCell ⟨w.heap.size + 1, 6, none⟩ x6).setCell ⟨w.heap.size + 1, 7, none⟩ x7).setCell ⟨w.heap.size + 1, 8, none⟩ x8).setCell ⟨w.heap.size + 1, 9, none⟩ x9).cell? ⟨w.heap.size, 7, none⟩ = some (.slice la l.e.parts.length lc) ∧ ((((((((((W.setCell ⟨w.heap.size + 1, 0, none⟩ x0).setCell ⟨w.heap.size + 1, 1, none⟩ x1).setCell ⟨w.heap.size + 1, 2, none⟩ x2).setCell ⟨w.heap.size + 1, 3, none⟩ x3).setCell ⟨w.heap.size + 1, 4, none⟩ x4).setCell ⟨w.heap.size + 1, 5, none⟩ x5).setCell ⟨w.heap.size + 1, 6, none⟩ x6).setCell ⟨w.heap.size + 1, 7, none⟩ x7).setCell ⟨w.heap.size + 1, 8, none⟩ x8).setCell ⟨w.heap.size + 1, 9, none⟩ x9).cell? ⟨w.heap.size, 8, none⟩ = some (.int .i64 l.lv) ∧ ((((((((((W.setCell ⟨w.heap.size + 1, 0, none⟩ x0).setCell ⟨w.heap.size + 1, 1, none⟩ x1).setCell ⟨w.heap.size + 1, 2, none⟩ x2).setCell ⟨w.heap.size + 1, 3, none⟩ x3).setCell ⟨w.heap.size + 1, 4, none⟩ x4).setCell ⟨w.heap.size + 1, 5, none⟩ x5).setCell ⟨w.heap.size + 1, 6, none⟩ x6).setCell ⟨w.heap.size + 1, 7, none⟩ x7).setCell ⟨w.heap.size + 1, 8, none⟩ x8).setCell ⟨w.heap.size + 1, 9, none⟩ x9).cell? ⟨w.heap.size, 9, none⟩ = some (.int .i64 l.dp))) from fun W x0 x1 x2 x3 x4 x5 x6 x7 x8 x9 hW => HK9s.out W [x0, x1, x2, x3, x4, x5, x6, x7, x8, x9] hW)
      have HPsF := Lib.hid (show ∀ (w8 : World) (B0 g2 cap2 : Nat), Below w6.heap.size w6 w8 → w8.ownsRow B0 202 10 (.slice (some ⟨g2, 0, none⟩) (fn + 1) cap2) (fn + 1) (ptsX (pl ++ [(l, la, lc)])) → ∀ W, Below w8.heap.size w8 W → PsAt W (TQ (Bx A w.heap.size w1.heap.size) N (.slice (some ⟨g, 0, none⟩) k c)) (some ⟨g2, 0, none⟩) (fn + 1) (d.left ++ [l]) from fun w8 B0 g2 cap2 h8 ho W hW => by
        have := psAt_own (Q := TQ (Bx A w.heap.size w1.heap.size) N (.slice (some ⟨g, 0, none⟩) k c)) ho (by simp [HPl.out.2]) (by have := HFn.out; omega) (fun x hx => by
          rcases List.mem_append.1 hx with hx | hx
          · exact ⟨(HPr.out x hx).1, (HPr.out x hx).2.keep h8⟩
          · obtain rfl := List.mem_singleton.1 hx
            exact ⟨HLr.out, HLe6.out.keep h8⟩)
        rw [List.map_append, HPl.out.1] at this
        exact this.keep hW)
      have HEl6 := Lib.hid HLe6.out
      obtain ⟨p, hp⟩ : ∃ p, p = buildP d.kind d.op 0 0 ⟨#[]⟩ ⟨#[]⟩ ⟨#[]⟩ d.lv (d.left ++ [l]) := ⟨_, rfl⟩
      have HP := Lib.hid hp
      rw [← hp] at HQ
      clear hpl1 hpl2 hpl3 hpl4 hp
      go_upto_region 9 with (fail)
      clear l0 l1 l2 l3 l4 l5 l6 l7 l8 l9 lz lN p0 p1 p2 p3 p4 p5 p6 p7 p8 p9 p10 p11 pN
      go_region_held_law (fun W => (W.cell? ⟨w1.heap.size, 0, none⟩ = some (.int .i64 d.kind) ∧ W.cell? ⟨w1.heap.size, 1, none⟩ = some (.string d.op) ∧ W.cell? ⟨w1.heap.size, 2, none⟩ = some (.int .i64 0) ∧ W.cell? ⟨w1.heap.size, 3, none⟩ = some (.int .i64 0) ∧ W.cell? ⟨w1.heap.size, 4, none⟩ = some (.string ⟨#[]⟩) ∧ W.cell? ⟨w1.heap.size, 5, none⟩ = some (.string ⟨#[]⟩) ∧ W.cell? ⟨w1.heap.size, 6, none⟩ = some (.string ⟨#[]⟩) ∧ W.cell? ⟨w1.heap.size, 7, none⟩ = some (.slice none 0 0) ∧ W.cell? ⟨w1.heap.size, 8, none⟩ = some (.int .i64 d.lv) ∧ W.cell? ⟨w1.heap.size, 9, none⟩ = some (.slice fa fn fn)) ∧ (W.cell? ⟨w.heap.size, 0, none⟩ = some (.int .i64 l.e.kind) ∧ W.cell? ⟨w.heap.size, 1, none⟩ = some (.string l.e.op) ∧ W.cell? ⟨w.heap.size, 2, none⟩ = some (.int .i64 l.e.vk) ∧ W.cell? ⟨w.heap.size, 3, none⟩ = some (.int .i64 l.e.vn) ∧ W.cell? ⟨w.heap.size, 4, none⟩ = some (.string l.e.vs) ∧ W.cell? ⟨w.heap.size, 5, none⟩ = some (.string l.e.tab) ∧ W.cell? ⟨w.heap.size, 6, none⟩ = some (.string l.e.col) ∧ W.cell? ⟨w.heap.size, 7, none⟩ = some (.slice la l.e.parts.length lc) ∧ W.cell? ⟨w.heap.size, 8, none⟩ = some (.int .i64 l.lv) ∧ W.cell? ⟨w.heap.size, 9, none⟩ = some (.int .i64 l.dp))) (first
          | (with_reducible refine HK9.out _ ?_
             repeat (first | with_reducible exact HN9.out | with_reducible exact HN8.out | with_reducible exact Below.refl _ _ | with_reducible refine bel0 _ ?_ | with_reducible refine Below.drew ?_)
             done)
          | (with_reducible refine HK9n.out _ _ _ _ _ _ _ _ _ _ _ ?_
             repeat (first | with_reducible exact HN9.out | with_reducible refine Below.drew ?_)
             done))
        (first
          | (refine step_pt rfl (.tmp 57) (.tmp 59) rfl fa fn pl rfl HPl.out.2 HFn.out HF.out.2.1 (HOld.out _ (by repeat (first | exact Below.refl _ _ | refine bel0 _ ?_ | refine Below.drew ?_))) w6.heap.size l la lc rfl (by exact Go.heap_alloc_new _ _) ?_; intro g2 cap2 w8 hown8 hb8; have HN8 := Lib.hid (show Below w6.heap.size w6 w8 from Below.trans (by repeat (first | exact Below.refl _ _ | refine bel0 _ ?_ | refine Below.drew ?_)) (hb8.mono (by simp))); have HPs8 := Lib.hid (HPsF.out w8 _ g2 cap2 HN8.out hown8); clear hb8 hown8)
          | (go_simp; go_at_call 194; refine (build_any d.kind d.op 0 0 ⟨#[]⟩ ⟨#[]⟩ ⟨#[]⟩ d.lv (d.left ++ [l]) HEg.out HLd.out _ _ _ (fn + 1) cap2 (HPs8.out _ (by repeat (first | exact Below.refl _ _ | refine Below.drew ?_))) HDq.out).mono ?_; rintro e' w9 ⟨pv, rfl, ⟨sa, sc, rfl, hrg, hel⟩, hb9⟩; rw [← HP.out] at hrg hel ⊢; rw [ptX_arr]; have HN9 := Lib.hid (show Below w6.heap.size w6 w9 from bt HN8.out hb9); have HEl9 := Lib.hid (el_fresh2 HSx.out hel (by exact HN8.out.size) HT6.out.below.size); have HRg9 := Lib.hid hrg; have hR := (HN9.out.block (w.heap.size + 1) (Array.getElem?_eq_some_iff.1 HR6.out).1).trans HR6.out; obtain ⟨r0, r1, r2, r3, r4, r5, r6, r7, r8, r9, rz, rN⟩ := row10 hR; have HR9 := Lib.hid hR; clear hrg hel hb9 hR))
      all_goals
        have HFin := Lib.hid (part_done (HSx.out.below HN9.out) HR9.out (by have := HLow.out; omega) HnB.out ((HT1.out.trans HT6.out).trans (.of_below HN9.out (Nat.le_of_lt HSx.out.low))) (Nat.le_succ _) HSub.out p sa sc HRg9.out HEl9.out)
        go_wp2
      all_goals
        refine bodyPost_ret (results_pt2 rfl _ _ (w.heap.size + 1) _ _ _ _ _ _ _ _ _ _ rfl HFin.out.1) rfl ?_
        rw [HQ.out]
        exact ⟨_, _, mr, rfl, HFin.out.2.1, HFin.out.2.2.1, HFin.out.2.2.2⟩
end Go.Proofs.YtknhphcfcpjhiaaGreatDoor
