/- The package's taker: word. Written by gentkw.py. -/
import Derived.Test.YtknhphcfcpjhiaaGreatDoorLxKey
import Derived.Deep.RegionHeld3
import Derived.Test.YtknhphcfcpjhiaaGreatDoorTkAgg
namespace Go.Proofs.YtknhphcfcpjhiaaGreatDoor
open Go.RowKit
set_option linter.unusedVariables false
set_option linter.unusedSimpArgs false
set_option maxRecDepth 100000
def OptrP (A : Nat → Prop) (N : Nat) (w : World) (wa : Option Addr) (wn wc : Nat) (ws : List Wd) (v : Value) (s : Tk) (ms : List PM) (o : Bs × Int) (e : Ending) (w' : World) : Prop :=
  e = .returned (.tuple #[.string (bs o.1), .int .i64 o.2]) ∧ TSt A N w' wa wn wc ws v s ms ∧ TTo N v v w w'
theorem word3 {w : World} {g : Nat} {k n : Int} {t : ByteArray} {T : TypeId} (h : w.heap[g]? = some (.cells #[.int .i64 k, .string t, .int .i64 n] T (0, 0))) : w.cell? ⟨g, 0, none⟩ = some (.int .i64 k) ∧ w.cell? ⟨g, 1, none⟩ = some (.string t) ∧ w.cell? ⟨g, 2, none⟩ = some (.int .i64 n) ∧ g < w.heap.size :=
  ⟨cell_of_row _ _ 0 _ _ _ h, cell_of_row _ _ 1 _ _ _ h, cell_of_row _ _ 2 _ _ _ h, (Array.getElem?_eq_some_iff.1 h).1⟩
set_option maxHeartbeats 12800000 in
theorem operator_any (A : Nat → Prop) (N : Nat) (w : World) (wa : Option Addr) (wn wc : Nat) (ws : List Wd) (v : Value) (s : Tk) (ms : List PM) (h : TSt A N w wa wn wc ws v s ms) :
    Calls Tryz.prog 165 #[.pointer (some ⟨N, 0, none⟩)] w (OptrP A N w wa wn wc ws v s ms (optrP ws s)) := by
  obtain ⟨c0, c1, -, -, fz⟩ := h.cells
  obtain ⟨hl, hn, hc⟩ := h.words
  have hN := h.low
  have HS := Lib.hid h
  have f0 := cellN c0
  have f1 := cellN c1
  clear fz
  by_cases hp : s.pos < wn
  rotate_left
  · have he : s.pos = wn := by have := h.pos; omega
    have HR := Lib.hid (show optrP ws s = ([], 0) by unfold optrP; rw [if_pos (by omega)])
    have ht1 : ((s.pos : Int) == (wn : Int)) = true := by simp [he]
    clear hl hc h c0 c1
    go_enter Tryz.func165, Tryz.ntmps165
    go_upto_region 1 with (fail)
    go_quiet (fail)
    go_wp2
    go_ret2
    rw [HR.out]
    exact ⟨rfl, HS.out.drewN nq, (TTo.refl _ _ _).drewN nq⟩
  obtain ⟨b, off, rfl, hbN, hb, hw⟩ := hc.resolve_left (by omega)
  obtain ⟨q0, q1, q2⟩ := hw s.pos hp
  have ht1 : ((s.pos : Int) == (wn : Int)) = false := by simp; omega
  have hp0 : (0 : Int) ≤ (s.pos : Int) := by omega
  have hp1 : (s.pos : Int) < (wn : Int) := by omega
  obtain ⟨k, hk⟩ : ∃ k, k = (wdAt ws s.pos).1 := ⟨_, rfl⟩
  obtain ⟨tl, htl⟩ : ∃ tl, tl = (wdAt ws s.pos).2.1 := ⟨_, rfl⟩
  obtain ⟨n, hn2⟩ : ∃ n, n = (wdAt ws s.pos).2.2 := ⟨_, rfl⟩
  have HO := Lib.hid (show optrP ws s = (if k = 1 then (if tl = [73, 83] then (tl, 4) else if tl = [79, 82] ∨ tl = [65, 78, 68] then (tl, levB tl) else ([], 0)) else if k = 4 then (tl, levB tl) else ([], 0)) by
    unfold optrP; rw [if_neg (by omega), hk, htl])
  rw [← hk] at q0
  rw [← htl] at q1
  rw [← hn2] at q2
  have HB := Lib.hid hb
  clear hk htl hn2 hw hc hl h c0 c1
  go_enter Tryz.func165, Tryz.ntmps165
  go_upto_region 1 with (fail)
  go_quiet (fail)
  have H2 := Lib.hid (HS.out.drewN nq)
  have HT := Lib.hid ((TTo.refl N v w).drewN nq)
  have q0 : (w.drewN nq).cell? ⟨b, off + s.pos * 3, none⟩ = some (.int .i64 k) := q0
  have q1 : (w.drewN nq).cell? ⟨b, off + s.pos * 3 + 1, none⟩ = some (.string (bs tl)) := q1
  have q2 : (w.drewN nq).cell? ⟨b, off + s.pos * 3 + 2, none⟩ = some (.int .i64 n) := q2
  have hb2 : b < (w.drewN nq).heap.size := HB.out
  generalize w.drewN nq = w2 at *
  clear f0 f1 hN hb
  obtain ⟨c0, c1, -, -, -⟩ := H2.out.cells
  have hN2 := H2.out.low
  go_upto_region 3 with (fail)
  have HK := Lib.hid (show ∀ W : World, Below w2.heap.size w2 W → (W.cell? ⟨N, 0, none⟩ = some (.slice (some ⟨b, off, none⟩) wn wc) ∧ W.cell? ⟨N, 1, none⟩ = some (.int .i64 (s.pos : Int)) ∧ W.cell? ⟨b, off + s.pos * 3, none⟩ = some (.int .i64 k) ∧ W.cell? ⟨b, off + s.pos * 3 + 1, none⟩ = some (.string (bs tl)) ∧ W.cell? ⟨b, off + s.pos * 3 + 2, none⟩ = some (.int .i64 n)) from fun W hW =>
    ⟨(hW.cell (p := ⟨N, 0, none⟩) hN2).trans c0, (hW.cell (p := ⟨N, 1, none⟩) hN2).trans c1, (hW.cell (p := ⟨b, off + s.pos * 3, none⟩) hb2).trans q0, (hW.cell (p := ⟨b, off + s.pos * 3 + 1, none⟩) hb2).trans q1, (hW.cell (p := ⟨b, off + s.pos * 3 + 2, none⟩) hb2).trans q2⟩)
  go_region_held3 (fun W => W.cell? ⟨N, 0, none⟩ = some (.slice (some ⟨b, off, none⟩) wn wc) ∧ W.cell? ⟨N, 1, none⟩ = some (.int .i64 (s.pos : Int)) ∧ W.cell? ⟨b, off + s.pos * 3, none⟩ = some (.int .i64 k) ∧ W.cell? ⟨b, off + s.pos * 3 + 1, none⟩ = some (.string (bs tl)) ∧ W.cell? ⟨b, off + s.pos * 3 + 2, none⟩ = some (.int .i64 n)) (exact HK.out _ (by repeat (first | exact Below.refl _ _ | refine bel0 _ ?_ | refine Below.drew ?_))) (fail)
  have HB23 := Lib.hid (show Below w2.heap.size w2 ((w2.alloc (.cells #[.int .i64 k, .string (bs tl), .int .i64 n] 157)).drew) from (bel0 _ (Below.refl _ _)).drew)
  have hx3 : ((w2.alloc (.cells #[.int .i64 k, .string (bs tl), .int .i64 n] 157)).drew).heap[w2.heap.size]? = some (.cells #[.int .i64 k, .string (bs tl), .int .i64 n] 157 (0, 0)) := Go.heap_alloc_new w2 _
  generalize ((w2.alloc (.cells #[.int .i64 k, .string (bs tl), .int .i64 n] 157)).drew) = w3 at *
  have H3 := Lib.hid (H2.out.below HB23.out)
  have HT3 := Lib.hid (HT.out.trans (.of_below HB23.out (Nat.le_of_lt hN2)))
  clear HK c0 c1 q0 q1 q2 hb2 hp0 hp1 ht1
  obtain ⟨x0, x1, x2, xN⟩ := word3 hx3
  clear hx3
  obtain ⟨x, hx⟩ : ∃ x, x = bs tl := ⟨_, rfl⟩
  have HX := Lib.hid hx
  have hxl : x.toList = tl := by rw [hx, bs_list]
  have HBL := Lib.hid (show ∀ W : World, Calls Tryz.prog 193 #[.string x] W fun e w' => e = .returned (.int .i64 (levB tl)) ∧ w' = W from fun W => by rw [hx]; exact binaryLevel_any tl W)
  rw [← hx] at x1
  clear hx
  have y1 := cellN x1
  have HFin := Lib.hid (show ∀ (o : Bs × Int) (e : Ending) (q : Nat), optrP ws s = o → e = .returned (.tuple #[.string (bs o.1), .int .i64 o.2]) → OptrP A N w (some ⟨b, off, none⟩) wn wc ws v s ms (optrP ws s) e (w3.drewN q) from fun o e q ho he => by rw [ho]; exact ⟨he, H3.out.drewN q, HT3.out.drewN q⟩)
  by_cases hk1 : k = 1
  · subst hk1
    by_cases ht : tl = [73, 83]
    · have e1 : (x.toList == [73, 83]) = true := by rw [hxl]; simp [ht]
      have HQ := Lib.hid (show optrP ws s = (tl, 4) by rw [HO.out, if_pos rfl, if_pos ht])
      go_wp2
      go_ret2
      exact HFin.out _ _ 0 HQ.out (by rw [HX.out]; rfl)
    · have e1 : (x.toList == [73, 83]) = false := by rw [hxl]; simp [ht]
      by_cases ho : tl = [79, 82] ∨ tl = [65, 78, 68]
      · have HQ := Lib.hid (show optrP ws s = (tl, levB tl) by rw [HO.out, if_pos rfl, if_neg ht, if_pos ho])
        have e2 : ((x.toList == [79, 82]) = true ∧ x = x) ∨ ((x.toList == [79, 82]) = false ∧ (x.toList == [65, 78, 68]) = true) := by rw [hxl]; rcases ho with h | h <;> simp [h]
        clear ho ht hxl
        rcases e2 with ⟨e2, -⟩ | ⟨e2, e3⟩
        all_goals
          go_upto_region 9 with (fail)
          go_quiet ((go_at_call 193; exact Calls.quiet_of_same (HBL.out _)))
          go_wp2
          go_ret2
          exact HFin.out _ _ _ HQ.out (by rw [HX.out]; rfl)
      · have HQ := Lib.hid (show optrP ws s = ([], 0) by rw [HO.out, if_pos rfl, if_neg ht, if_neg ho])
        have e2 : (x.toList == [79, 82]) = false := by rw [hxl]; exact beq_eq_false_iff_ne.2 (fun h => ho (.inl h))
        have e3 : (x.toList == [65, 78, 68]) = false := by rw [hxl]; exact beq_eq_false_iff_ne.2 (fun h => ho (.inr h))
        clear ho ht hxl
        go_wp2
        go_ret2
        exact HFin.out _ _ 0 HQ.out rfl
  · have k1 : (k == 1) = false := by simp [hk1]
    by_cases hk4 : k = 4
    · subst hk4
      have HQ := Lib.hid (show optrP ws s = (tl, levB tl) by rw [HO.out, if_neg (by decide), if_pos rfl])
      clear hxl hk1 k1
      go_upto_region 11 with (fail)
      go_quiet ((go_at_call 193; exact Calls.quiet_of_same (HBL.out _)))
      go_wp2
      go_ret2
      exact HFin.out _ _ _ HQ.out (by rw [HX.out]; rfl)
    · have k4 : (k == 4) = false := by simp [hk4]
      have HQ := Lib.hid (show optrP ws s = ([], 0) by rw [HO.out, if_neg hk1, if_neg hk4])
      go_wp2
      go_ret2
      exact HFin.out _ _ 0 HQ.out rfl
end Go.Proofs.YtknhphcfcpjhiaaGreatDoor
namespace Go.Proofs.YtknhphcfcpjhiaaGreatDoor
open Go.RowKit
set_option linter.unusedVariables false
set_option linter.unusedSimpArgs false
set_option maxRecDepth 100000
theorem erg_lit {vk vn : Int} {vs : ByteArray} (hk : (Lit.int .i64 vk).wf = true) (hn : InR vn) (hs : vs.size ≤ maxLen) : ERg (.mk 1 ⟨#[]⟩ vk vn vs ⟨#[]⟩ ⟨#[]⟩ []) none 0 :=
  ⟨rfl, hk, by unfold InR at hn; simp [Lit.wf, ET.vn]; exact ⟨decide_eq_true (show IntKind.i64.min ≤ vn from hn.1), hn.2⟩, Nat.zero_le _, hs, Nat.zero_le _, Nat.zero_le _, fun _ => ⟨rfl, rfl⟩, Nat.le_refl _, by unfold maxLen; omega⟩
/-- what is asked of words -/
def WsOk (ws : List Wd) : Prop := ∀ i, (wdAt ws i).2.1.length ≤ 140737488355328 ∧ InR (wdAt ws i).2.2
set_option maxHeartbeats 25600000 in
theorem word_any (A : Nat → Prop) (N : Nat) (w : World) (wa : Option Addr) (wn wc : Nat) (ws : List Wd) (v : Value) (s : Tk) (ms : List PM) (h : TSt A N w wa wn wc ws v s ms) (hz : WsOk ws) :
    Calls Tryz.prog 192 #[.pointer (some ⟨N, 0, none⟩)] w (WordP A N w wa wn wc ws v (wordP nmB ws s)) := by
  have HZ := Lib.hid hz
  have H0 := Lib.hid h
  have hlow := h.low
  have hl := h.words.1
  have hpw := h.pos
  have hn1 := h.words.2.1
  have hB1 := bel0 (.cells #[.int .i64 0, .string ⟨#[]⟩, .int .i64 0, .int .i64 0, .string ⟨#[]⟩, .string ⟨#[]⟩, .string ⟨#[]⟩, .slice none 0 0, .int .i64 0, .int .i64 0] 202) (Below.refl w.heap.size w)
  have HX := Lib.hid (Go.heap_alloc_new w (.cells #[.int .i64 0, .string ⟨#[]⟩, .int .i64 0, .int .i64 0, .string ⟨#[]⟩, .string ⟨#[]⟩, .string ⟨#[]⟩, .slice none 0 0, .int .i64 0, .int .i64 0] 202 (0, 0)))
  have HSz := Lib.hid (show (w.alloc (.cells #[.int .i64 0, .string ⟨#[]⟩, .int .i64 0, .int .i64 0, .string ⟨#[]⟩, .string ⟨#[]⟩, .string ⟨#[]⟩, .slice none 0 0, .int .i64 0, .int .i64 0] 202)).heap.size = w.heap.size + 1 by simp)
  clear h hz
  go_enter Tryz.func192, Tryz.ntmps192
  go_upto_region 1 with (fail)
  generalize (w.alloc (.cells #[.int .i64 0, .string ⟨#[]⟩, .int .i64 0, .int .i64 0, .string ⟨#[]⟩, .string ⟨#[]⟩, .string ⟨#[]⟩, .slice none 0 0, .int .i64 0, .int .i64 0] 202)) = w1 at *
  have HT1 := Lib.hid (TTo.of_below (v := v) hB1 (Nat.le_of_lt hlow))
  have HS1 := Lib.hid ((H0.out.enter w1.heap.size).below hB1)
  have HBX := Lib.hid (show ∀ (W : World) (v' : Value), TTo N v v' w1 W → W.heap[w.heap.size]? = some (.cells #[.int .i64 0, .string ⟨#[]⟩, .int .i64 0, .int .i64 0, .string ⟨#[]⟩, .string ⟨#[]⟩, .string ⟨#[]⟩, .slice none 0 0, .int .i64 0, .int .i64 0] 202 (0, 0)) from fun W v' t => (TTo.box H0.out t (Nat.le_refl _) (by have := HSz.out; omega)).trans HX.out)
  have HnB := Lib.hid (show ¬ Bx A w.heap.size w1.heap.size w.heap.size from fun hb => hb.elim (fun h => Nat.lt_irrefl _ h.2) (fun h => by have := HSz.out; omega))
  have HSub := Lib.hid (Bx.sub (A := A) (H := w.heap.size) (H1 := w1.heap.size) (by have := HSz.out; omega))
  have HLow := Lib.hid hlow
  clear hB1 hlow
  obtain ⟨c0, c1, -, -, -⟩ := HS1.out.cells
  have hN1 := HS1.out.low
  have f0 := cellN c0
  have f1 := cellN c1
  clear c0 c1
  by_cases hp : s.pos < wn
  rotate_left
  · have he : s.pos = wn := by omega
    have HQ := Lib.hid (show wordP nmB ws s = (zPt, false, false, s) by unfold wordP; rw [if_pos (by omega)])
    have ht1 : ((s.pos : Int) == (wn : Int)) = true := by simp [he]
    clear hl hpw hn1
    go_quiet (fail)
    have HS2 := Lib.hid (HS1.out.drewN nq)
    have HT2 := Lib.hid ((TTo.refl N v w1).drewN nq)
    generalize w1.drewN nq = w2 at *
    clear f0 f1
    have hR := HBX.out w2 v HT2.out
    obtain ⟨r0, r1, r2, r3, r4, r5, r6, r7, r8, r9, rz, rN⟩ := row10 hR
    have HFin := Lib.hid (part_done HS2.out hR HLow.out HnB.out (HT1.out.trans HT2.out) (Nat.le_refl _) HSub.out zPt none 0 prg_zero (.nil none))
    clear hR
    go_wp2
    refine bodyPost_ret (results_pt3 rfl _ _ w.heap.size _ _ _ _ _ _ _ _ _ _ rfl HFin.out.1) rfl ?_
    rw [HQ.out]
    exact ⟨_, v, ms, rfl, HFin.out.2.1, HFin.out.2.2.1, HFin.out.2.2.2⟩
  have ht1 : ((s.pos : Int) == (wn : Int)) = false := by simp; omega
  have hp0 : (0 : Int) ≤ (s.pos : Int) := by omega
  have hp1 : (s.pos : Int) < (wn : Int) := by omega
  go_quiet (fail)
  have HS2 := Lib.hid (HS1.out.drewN nq)
  have HT2 := Lib.hid ((TTo.refl N v w1).drewN nq)
  generalize w1.drewN nq = w2 at *
  clear f0 f1 hN1
  obtain ⟨b, off, hwa, hbN, hb, hw⟩ := (HS2.out.words.2.2).resolve_left (by omega)
  subst hwa
  obtain ⟨q0, q1, q2⟩ := hw s.pos hp
  obtain ⟨k, hk⟩ : ∃ k, k = (wdAt ws s.pos).1 := ⟨_, rfl⟩
  obtain ⟨tl, htl⟩ : ∃ tl, tl = (wdAt ws s.pos).2.1 := ⟨_, rfl⟩
  obtain ⟨n, hn2⟩ : ∃ n, n = (wdAt ws s.pos).2.2 := ⟨_, rfl⟩
  obtain ⟨x, hx⟩ : ∃ x, x = bs tl := ⟨_, rfl⟩
  have HO := Lib.hid (show wordP nmB ws s = (if k = 2 ∧ 0 ≤ n then (buildP 1 ⟨#[]⟩ 1 n ⟨#[]⟩ ⟨#[]⟩ ⟨#[]⟩ 8 [], true, true, adv s) else if k = 3 ∧ tl.length ≤ 100 then (buildP 1 ⟨#[]⟩ 2 0 (bs tl) ⟨#[]⟩ ⟨#[]⟩ 8 [], true, true, adv s) else if isW ws s.pos 1 [78, 85, 76, 76] = true then (buildP 1 ⟨#[]⟩ 0 0 ⟨#[]⟩ ⟨#[]⟩ ⟨#[]⟩ 8 [], true, true, adv s) else if k = 1 ∧ aggB tl = true then agP ws tl (adv s) else ((colP nmB ws s).1, true, (colP nmB ws s).2.1, (colP nmB ws s).2.2)) by
    unfold wordP; rw [if_neg (by omega), hk, htl, hn2])
  have HXx := Lib.hid hx
  have hxs : x.size = tl.length := by rw [hx]; simp [bs, ByteArray.size]
  have HTl := Lib.hid (show tl.length ≤ 140737488355328 by rw [htl]; exact (HZ.out s.pos).1)
  have HIn := Lib.hid (show InR n by rw [hn2]; exact (HZ.out s.pos).2)
  have HPn := Lib.hid hp
  have hN2 := HS2.out.low
  obtain ⟨c0, c1, -, -, -⟩ := HS2.out.cells
  rw [← hk] at q0
  rw [← htl, ← hx] at q1
  rw [← hn2] at q2
  clear hk htl hn2 hw hx hl hpw hn1 hp
  go_upto_region 3 with (fail)
  have HK := Lib.hid (show ∀ W : World, Below w2.heap.size w2 W → (W.cell? ⟨N, 0, none⟩ = some (.slice (some ⟨b, off, none⟩) wn wc) ∧ W.cell? ⟨N, 1, none⟩ = some (.int .i64 (s.pos : Int)) ∧ W.cell? ⟨b, off + s.pos * 3, none⟩ = some (.int .i64 k) ∧ W.cell? ⟨b, off + s.pos * 3 + 1, none⟩ = some (.string x) ∧ W.cell? ⟨b, off + s.pos * 3 + 2, none⟩ = some (.int .i64 n)) from fun W hW =>
    ⟨(hW.cell (p := ⟨N, 0, none⟩) hN2).trans c0, (hW.cell (p := ⟨N, 1, none⟩) hN2).trans c1, (hW.cell (p := ⟨b, off + s.pos * 3, none⟩) hb).trans q0, (hW.cell (p := ⟨b, off + s.pos * 3 + 1, none⟩) hb).trans q1, (hW.cell (p := ⟨b, off + s.pos * 3 + 2, none⟩) hb).trans q2⟩)
  go_region_held3 (fun W => W.cell? ⟨N, 0, none⟩ = some (.slice (some ⟨b, off, none⟩) wn wc) ∧ W.cell? ⟨N, 1, none⟩ = some (.int .i64 (s.pos : Int)) ∧ W.cell? ⟨b, off + s.pos * 3, none⟩ = some (.int .i64 k) ∧ W.cell? ⟨b, off + s.pos * 3 + 1, none⟩ = some (.string x) ∧ W.cell? ⟨b, off + s.pos * 3 + 2, none⟩ = some (.int .i64 n)) (exact HK.out _ (by repeat (first | exact Below.refl _ _ | refine bel0 _ ?_ | refine Below.drew ?_))) (fail)
  have hB23 : Below w2.heap.size w2 ((w2.alloc (.cells #[.int .i64 k, .string x, .int .i64 n] 157)).drew) := (bel0 _ (Below.refl _ _)).drew
  have hx3 : ((w2.alloc (.cells #[.int .i64 k, .string x, .int .i64 n] 157)).drew).heap[w2.heap.size]? = some (.cells #[.int .i64 k, .string x, .int .i64 n] 157 (0, 0)) := Go.heap_alloc_new w2 _
  generalize ((w2.alloc (.cells #[.int .i64 k, .string x, .int .i64 n] 157)).drew) = w3 at *
  have HX3 := Lib.hid hx3
  have HS3 := Lib.hid (HS2.out.below hB23)
  have HT3 := Lib.hid (HT2.out.trans (.of_below hB23 (Nat.le_of_lt hN2)))
  have HWb := Lib.hid (show ∀ (W : World) (v' : Value), TTo N v v' w3 W → W.heap[w2.heap.size]? = some (.cells #[.int .i64 k, .string x, .int .i64 n] 157 (0, 0)) from fun W v' t => (TTo.box HS2.out t (Nat.le_refl _) (Array.getElem?_eq_some_iff.1 hx3).1).trans hx3)
  clear HK c0 c1 q0 q1 q2 hp0 hp1 ht1 hB23 hN2 hb hbN
  obtain ⟨x0, x1, x2, xN⟩ := word3 hx3
  clear hx3
  have HAdv := Lib.hid (fun (W : World) (hs : TSt (Bx A w.heap.size w1.heap.size) N W (some ⟨b, off, none⟩) wn wc ws v s ms) => hs.adv HPn.out ((s.pos : Int) + 1) rfl)
  have hwn : wn ≤ 100000 := HS3.out.words.2.1
  have hps := HPn.out
  have hw1 : wrap64 ((s.pos : Int) + 1) = (s.pos : Int) + 1 := by unfold wrap64; omega
  have hw2 : IntKind.i64.wrap ((s.pos : Int) + 1) = (s.pos : Int) + 1 := by rw [IntKind.wrap_i64]; omega
  clear hps hwn
  by_cases hk2 : k = 2 ∧ 0 ≤ n
  · have HQ := Lib.hid (show wordP nmB ws s = (buildP 1 ⟨#[]⟩ 1 n ⟨#[]⟩ ⟨#[]⟩ ⟨#[]⟩ 8 [], true, true, adv s) by rw [HO.out, if_pos hk2])
    obtain ⟨rfl, hn0⟩ := hk2
    have hn0' : decide (n ≥ 0) = true := by simp [hn0]
    obtain ⟨c0, c1, -, -, fz⟩ := HS3.out.cells
    have hN3 := HS3.out.low
    go_upto_region 6 with (fail)
    have HS5 := Lib.hid (HAdv.out _ HS3.out)
    have HT35 := Lib.hid ((TTo.refl N v w3).setN 1 (.int .i64 ((s.pos : Int) + 1)))
    have HT5 := Lib.hid (HT3.out.trans HT35.out)
    generalize (w3.setCell ⟨N, 1, none⟩ (.int .i64 ((s.pos : Int) + 1))) = w4 at *
    clear x0 x1 x2 xN c0 c1 fz hN3
    obtain ⟨x0, x1, x2, xN⟩ := word3 (HWb.out w4 v HT35.out)
    go_wp2_with fail
    refine (literal_any 1 n ⟨#[]⟩ (erg_lit rfl HIn.out (Nat.zero_le _)) _).mono ?_
    rintro e w5 ⟨pv, rfl, ⟨sa, sc, rfl, hrg, hel⟩, hb5⟩
    obtain ⟨p, hp⟩ : ∃ p, p = buildP 1 ⟨#[]⟩ 1 n ⟨#[]⟩ ⟨#[]⟩ ⟨#[]⟩ 8 [] := ⟨_, rfl⟩
    rw [← hp] at hrg hel HQ ⊢
    rw [ptX_arr]
    have HT6 := Lib.hid (HT5.out.trans (.of_below hb5 (Nat.le_of_lt HS5.out.low)))
    have hR := HBX.out w5 v HT6.out
    obtain ⟨r0, r1, r2, r3, r4, r5, r6, r7, r8, r9, rz, rN⟩ := row10 hR
    have HFin := Lib.hid (part_done (HS5.out.below hb5) hR HLow.out HnB.out (HT1.out.trans HT6.out) (Nat.le_refl _) HSub.out p sa sc hrg (el_fresh HS5.out hel HT5.out.below.size))
    clear hR hrg hel hb5 hp
    (try clear x0 x1 x2 xN)
    go_wp2
    refine bodyPost_ret (results_pt3 rfl _ _ w.heap.size _ _ _ _ _ _ _ _ _ _ rfl HFin.out.1) rfl ?_
    rw [HQ.out]
    exact ⟨_, v, ms, rfl, HFin.out.2.1, HFin.out.2.2.1, HFin.out.2.2.2⟩
  have hd2 : ((k == 2) = true ∧ decide (n ≥ 0) = false) ∨ ((k == 2) = false ∧ n = n) := by
    by_cases h2 : k = 2
    · exact .inl ⟨by simp [h2], by simp; by_cases h0 : 0 ≤ n; exact absurd ⟨h2, h0⟩ hk2; omega⟩
    · exact .inr ⟨by simp [h2], rfl⟩
  have HO2 := Lib.hid (show wordP nmB ws s = _ from HO.out.trans (if_neg hk2))
  by_cases hk3 : k = 3 ∧ tl.length ≤ 100
  · have HQ := Lib.hid (show wordP nmB ws s = (buildP 1 ⟨#[]⟩ 2 0 (bs tl) ⟨#[]⟩ ⟨#[]⟩ 8 [], true, true, adv s) by rw [HO2.out, if_pos hk3])
    obtain ⟨rfl, hn0⟩ := hk3
    have hn0' : (x.size : Int) ≤ 100 := by omega
    rw [← HXx.out] at HQ
    have HXs := Lib.hid (show x.size ≤ maxLen by rw [hxs]; unfold maxLen; have := HTl.out; omega)
    clear hd2 hxs hn0
    obtain ⟨c0, c1, -, -, fz⟩ := HS3.out.cells
    have hN3 := HS3.out.low
    go_upto_region 9 with (fail)
    have HS5 := Lib.hid (HAdv.out _ HS3.out)
    have HT35 := Lib.hid ((TTo.refl N v w3).setN 1 (.int .i64 ((s.pos : Int) + 1)))
    have HT5 := Lib.hid (HT3.out.trans HT35.out)
    generalize (w3.setCell ⟨N, 1, none⟩ (.int .i64 ((s.pos : Int) + 1))) = w4 at *
    clear x0 x1 x2 xN c0 c1 fz hN3
    obtain ⟨x0, x1, x2, xN⟩ := word3 (HWb.out w4 v HT35.out)
    go_wp2_with fail
    refine (literal_any 2 0 x (erg_lit rfl (by unfold InR; omega) HXs.out) _).mono ?_
    rintro e w5 ⟨pv, rfl, ⟨sa, sc, rfl, hrg, hel⟩, hb5⟩
    obtain ⟨p, hp⟩ : ∃ p, p = buildP 1 ⟨#[]⟩ 2 0 x ⟨#[]⟩ ⟨#[]⟩ 8 [] := ⟨_, rfl⟩
    rw [← hp] at hrg hel HQ ⊢
    rw [ptX_arr]
    have HT6 := Lib.hid (HT5.out.trans (.of_below hb5 (Nat.le_of_lt HS5.out.low)))
    have hR := HBX.out w5 v HT6.out
    obtain ⟨r0, r1, r2, r3, r4, r5, r6, r7, r8, r9, rz, rN⟩ := row10 hR
    have HFin := Lib.hid (part_done (HS5.out.below hb5) hR HLow.out HnB.out (HT1.out.trans HT6.out) (Nat.le_refl _) HSub.out p sa sc hrg (el_fresh HS5.out hel HT5.out.below.size))
    clear hR hrg hel hb5 hp
    (try clear x0 x1 x2 xN)
    go_wp2
    refine bodyPost_ret (results_pt3 rfl _ _ w.heap.size _ _ _ _ _ _ _ _ _ _ rfl HFin.out.1) rfl ?_
    rw [HQ.out]
    exact ⟨_, v, ms, rfl, HFin.out.2.1, HFin.out.2.2.1, HFin.out.2.2.2⟩
  have hd3 : ((k == 3) = true ∧ ¬ ((x.size : Int) ≤ 100)) ∨ ((k == 3) = false ∧ n = n) := by
    by_cases h2 : k = 3
    · exact .inl ⟨by simp [h2], fun h0 => hk3 ⟨h2, by omega⟩⟩
    · exact .inr ⟨by simp [h2], rfl⟩
  have HO3 := Lib.hid (show wordP nmB ws s = _ from HO2.out.trans (if_neg hk3))
  clear hk2 hk3 HO HO2
  have HKw := Lib.hid (fun (t : Bs) (W : World) (hs : TSt (Bx A w.heap.size w1.heap.size) N W (some ⟨b, off, none⟩) wn wc ws v s ms) => kword_any t (Bx A w.heap.size w1.heap.size) N W (some ⟨b, off, none⟩) wn wc ws v s ms hs)
  have key : ∀ K : Act → World → Prop, True := fun _ => trivial
  clear key
  obtain ⟨b4, hb4⟩ : ∃ b, b = isW ws s.pos 1 [78, 85, 76, 76] := ⟨_, rfl⟩
  have HB4 := Lib.hid hb4
  rw [← hb4] at HO3
  clear hb4
  rcases hd2 with ⟨d2, d2'⟩ | ⟨d2, -⟩ <;> rcases hd3 with ⟨d3, d3'⟩ | ⟨d3, -⟩
  · exact absurd (by rw [beq_iff_eq] at d2 d3; omega : False) id
  all_goals
    go_wp2_with fail
    refine (HKw.out [78, 85, 76, 76] _ HS3.out).mono ?_
    rintro e w4 ⟨rfl, hs4, ht4⟩
    rw [← HB4.out] at hs4 ⊢
    have HS4 := Lib.hid hs4
    have HT34 := Lib.hid ht4
    have HT4 := Lib.hid (HT3.out.trans ht4)
    clear hs4 ht4 x0 x1 x2 xN d2 d3
    (try clear d2')
    (try clear d3')
    cases b4 with
    | true =>
      have HQ := Lib.hid (show wordP nmB ws s = (buildP 1 ⟨#[]⟩ 0 0 ⟨#[]⟩ ⟨#[]⟩ ⟨#[]⟩ 8 [], true, true, adv s) by rw [HO3.out]; simp)
      have HS5 := Lib.hid (show TSt (Bx A w.heap.size w1.heap.size) N w4 (some ⟨b, off, none⟩) wn wc ws v (adv s) ms from HS4.out)
      have HT5 := HT4
      go_wp2_with fail
      refine (literal_any 0 0 ⟨#[]⟩ (erg_lit rfl (by unfold InR; omega) (Nat.zero_le _)) _).mono ?_
      rintro e w5 ⟨pv, rfl, ⟨sa, sc, rfl, hrg, hel⟩, hb5⟩
      obtain ⟨p, hp⟩ : ∃ p, p = buildP 1 ⟨#[]⟩ 0 0 ⟨#[]⟩ ⟨#[]⟩ ⟨#[]⟩ 8 [] := ⟨_, rfl⟩
      rw [← hp] at hrg hel HQ ⊢
      rw [ptX_arr]
      have HT6 := Lib.hid (HT5.out.trans (.of_below hb5 (Nat.le_of_lt HS5.out.low)))
      have hR := HBX.out w5 v HT6.out
      obtain ⟨r0, r1, r2, r3, r4, r5, r6, r7, r8, r9, rz, rN⟩ := row10 hR
      have HFin := Lib.hid (part_done (HS5.out.below hb5) hR HLow.out HnB.out (HT1.out.trans HT6.out) (Nat.le_refl _) HSub.out p sa sc hrg (el_fresh HS5.out hel HT5.out.below.size))
      clear hR hrg hel hb5 hp
      (try clear x0 x1 x2 xN)
      go_wp2
      refine bodyPost_ret (results_pt3 rfl _ _ w.heap.size _ _ _ _ _ _ _ _ _ _ rfl HFin.out.1) rfl ?_
      rw [HQ.out]
      exact ⟨_, v, ms, rfl, HFin.out.2.1, HFin.out.2.2.1, HFin.out.2.2.2⟩
    | false =>
      have HS4 := Lib.hid (show TSt (Bx A w.heap.size w1.heap.size) N w4 (some ⟨b, off, none⟩) wn wc ws v s ms from HS4.out)
      have HO4 := Lib.hid (show wordP nmB ws s = (if k = 1 ∧ aggB tl = true then agP ws tl (adv s) else ((colP nmB ws s).1, true, (colP nmB ws s).2.1, (colP nmB ws s).2.2)) by rw [HO3.out]; simp)
      obtain ⟨x0, x1, x2, xN⟩ := word3 (HWb.out w4 v HT34.out)
      have HAw := Lib.hid (show ∀ W : World, Calls Tryz.prog 196 #[.string x] W fun e w' => e = .returned (.bool (aggB tl)) ∧ w' = W from fun W => by rw [HXx.out]; exact aggWord_any tl W)
      by_cases hk1 : k = 1
      · subst hk1
        by_cases hag : aggB tl = true
        · rw [hag] at HAw
          have HQ := Lib.hid (show wordP nmB ws s = agP ws tl (adv s) by rw [HO4.out, if_pos ⟨rfl, hag⟩])
          go_wp2_with fail
          refine (HAw.out _).mono ?_
          rintro e w5 ⟨rfl, hw5⟩
          subst hw5
          obtain ⟨c0, c1, -, -, fz⟩ := HS4.out.cells
          have hN4 := HS4.out.low
          go_upto_region 14 with (fail)
          have HS5 := Lib.hid (HAdv.out _ HS4.out)
          have HT45 := Lib.hid ((TTo.refl N v w5).setN 1 (.int .i64 ((s.pos : Int) + 1)))
          generalize (w5.setCell ⟨N, 1, none⟩ (.int .i64 ((s.pos : Int) + 1))) = w6 at *
          have HT5 := Lib.hid (HT4.out.trans HT45.out)
          have HT36 := Lib.hid (HT34.out.trans HT45.out)
          clear x0 x1 x2 xN c0 c1 fz hN4
          obtain ⟨x0, x1, x2, xN⟩ := word3 (HWb.out w6 v HT36.out)
          have HAg := Lib.hid (show Calls Tryz.prog 219 #[.pointer (some ⟨N, 0, none⟩), .string x] w6 (WordP (Bx A w.heap.size w1.heap.size) N w6 (some ⟨b, off, none⟩) wn wc ws v (agP ws tl (adv s))) by rw [HXx.out]; exact aggregate_any _ N w6 _ wn wc ws v (adv s) ms HS5.out tl HTl.out)
          go_wp2_with fail
          refine HAg.out.mono ?_
          rintro e w7 ⟨pv, v7, ms7, rfl, ⟨sa, sc, rfl, hrg, hel⟩, hs7, ht7⟩
          obtain ⟨r, hr⟩ : ∃ r, r = agP ws tl (adv s) := ⟨_, rfl⟩
          rw [← hr] at hrg hel hs7 HQ ⊢
          obtain ⟨p, wh, ok, s7⟩ := r
          dsimp only at hrg hel hs7 ⊢
          rw [ptX_arr]
          have hsz6 : w1.heap.size ≤ w6.heap.size := HT5.out.below.size
          have HS7 := Lib.hid (hs7.mono (fun b hb _ => Bx.aft hsz6 b hb))
          have HEl := Lib.hid (hel.mono (Q' := TQ (Bx A w.heap.size w1.heap.size) N v7) (fun b hb _ => ⟨Bx.aft hsz6 b hb.1, hb.2⟩))
          have HT7 := Lib.hid (HT5.out.trans ht7)
          have hR := HBX.out w7 v7 HT7.out
          obtain ⟨r0, r1, r2, r3, r4, r5, r6, r7, r8, r9, rz, rN⟩ := row10 hR
          have HFin := Lib.hid (part_done HS7.out hR HLow.out HnB.out (HT1.out.trans HT7.out) (Nat.le_refl _) HSub.out p sa sc hrg HEl.out)
          clear hR hrg hel hs7 ht7 hr x0 x1 x2 xN
          go_wp2
          refine bodyPost_ret (results_pt3 rfl _ _ w.heap.size _ _ _ _ _ _ _ _ _ _ rfl HFin.out.1) rfl ?_
          rw [HQ.out]
          exact ⟨_, v7, ms7, rfl, HFin.out.2.1, HFin.out.2.2.1, HFin.out.2.2.2⟩
        · have hag' : aggB tl = false := by simpa using hag
          rw [hag'] at HAw
          have HQ := Lib.hid (show wordP nmB ws s = ((colP nmB ws s).1, true, (colP nmB ws s).2.1, (colP nmB ws s).2.2) by rw [HO4.out, if_neg (fun h => hag h.2)])
          go_wp2_with fail
          refine (HAw.out _).mono ?_
          rintro e w5 ⟨rfl, hw5⟩
          subst hw5
          go_wp2_with fail
          refine (column_any _ N _ _ wn wc ws v s ms HS4.out (fun i => (HZ.out i).1)).mono ?_
          rintro e w7 ⟨pv, v7, ms7, rfl, ⟨sa, sc, rfl, hrg, hel⟩, hs7, ht7⟩
          obtain ⟨r, hr⟩ : ∃ r, r = colP nmB ws s := ⟨_, rfl⟩
          rw [← hr] at hrg hel hs7 HQ ⊢
          obtain ⟨p, ok, s7⟩ := r
          dsimp only at hrg hel hs7 HQ ⊢
          rw [ptX_arr]
          have hsz6 : w1.heap.size ≤ w5.heap.size := HT4.out.below.size
          have HS7 := Lib.hid (hs7.mono (fun b hb _ => Bx.aft hsz6 b hb))
          have HEl := Lib.hid (hel.mono (Q' := TQ (Bx A w.heap.size w1.heap.size) N v7) (fun b hb _ => ⟨Bx.aft hsz6 b hb.1, hb.2⟩))
          have HT7 := Lib.hid (HT4.out.trans ht7)
          have hR := HBX.out w7 v7 HT7.out
          have HRw := Lib.hid hR
          obtain ⟨r0, r1, r2, r3, r4, r5, r6, r7, r8, r9, rz, rN⟩ := row10 hR
          have HRg := Lib.hid hrg
          clear hR hrg hel hs7 ht7 hr x0 x1 x2 xN
          obtain ⟨w8, hw8⟩ : ∃ w8, w8 = setLe w7 w.heap.size 0 (ptX p sa sc) := ⟨_, rfl⟩
          have HR8 := Lib.hid (show w8.heap[w.heap.size]? = some (.cells (ptX p sa sc).toArray 202 (0, 0)) by rw [hw8]; exact vbox10 HRw.out _ _ _ _ _ _ _ _ _ _)
          have hnR : v7.ownBlock ≠ some w.heap.size := fun e => (HT7.out.own _ e).elim (own_blkT H0.out (Nat.le_refl _)) (fun h => by have := HSz.out; omega)
          have HS8 := Lib.hid (show TSt (Bx A w.heap.size w1.heap.size) N w8 (some ⟨b, off, none⟩) wn wc ws v7 s7 ms7 by rw [hw8]; exact HS7.out.far HLow.out HnB.out hnR (setLe_size _ _ _) (setLe_ext _ _ _) (fun i hi => setLe_other hi _ _ _))
          have HE8 := Lib.hid (show EL w8 (TQ (Bx A w.heap.size w1.heap.size) N v7) sa p.e.parts by rw [hw8]; exact el_store HEl.out (fun b hb e => HnB.out (by have h : Bx A w.heap.size w1.heap.size b := hb.1; rw [e] at h; exact h)) _ _)
          have HT8 := Lib.hid (show TTo N v v7 w w8 by
            rw [hw8]
            have T := HT1.out.trans HT7.out
            exact ⟨⟨(setLe_ext _ _ _).1.trans T.below.os, (setLe_ext _ _ _).2.1.trans T.below.tape, (setLe_ext _ _ _).2.2.trans T.below.output, by rw [setLe_size]; exact T.below.size, fun i hi => (setLe_other (by have := HLow.out; omega) _ _ _).trans (T.below.block i hi)⟩, fun i hi hn hv => (setLe_other (by omega) _ _ _).trans (T.block i hi hn hv), T.own⟩)
          simp only [setLe, ptX] at hw8
          have HW8 := Lib.hid hw8
          clear hw8 hnR
          go_upto_region 16 with (fail)
          rw [← HW8.out]
          clear r0 r1 r2 r3 r4 r5 r6 r7 r8 r9 rz rN HW8
          have hR := HR8.out
          rw [ptX_arr] at hR
          obtain ⟨r0, r1, r2, r3, r4, r5, r6, r7, r8, r9, rz, rN⟩ := row10 hR
          have HFin := Lib.hid (part_done HS8.out hR HLow.out HnB.out HT8.out (Nat.le_refl _) HSub.out p sa sc HRg.out HE8.out)
          clear hR
          go_wp2
          refine bodyPost_ret (results_pt3 rfl _ _ w.heap.size _ _ _ _ _ _ _ _ _ _ rfl HFin.out.1) rfl ?_
          rw [HQ.out]
          exact ⟨_, v7, ms7, rfl, HFin.out.2.1, HFin.out.2.2.1, HFin.out.2.2.2⟩
      · have hk1' : (k == 1) = false := by simp [hk1]
        have HQ := Lib.hid (show wordP nmB ws s = ((colP nmB ws s).1, true, (colP nmB ws s).2.1, (colP nmB ws s).2.2) by rw [HO4.out, if_neg (fun h => hk1 h.1)])
        go_wp2_with fail
        refine (column_any _ N _ _ wn wc ws v s ms HS4.out (fun i => (HZ.out i).1)).mono ?_
        rintro e w7 ⟨pv, v7, ms7, rfl, ⟨sa, sc, rfl, hrg, hel⟩, hs7, ht7⟩
        obtain ⟨r, hr⟩ : ∃ r, r = colP nmB ws s := ⟨_, rfl⟩
        rw [← hr] at hrg hel hs7 HQ ⊢
        obtain ⟨p, ok, s7⟩ := r
        dsimp only at hrg hel hs7 HQ ⊢
        rw [ptX_arr]
        have hsz6 : w1.heap.size ≤ w4.heap.size := HT4.out.below.size
        have HS7 := Lib.hid (hs7.mono (fun b hb _ => Bx.aft hsz6 b hb))
        have HEl := Lib.hid (hel.mono (Q' := TQ (Bx A w.heap.size w1.heap.size) N v7) (fun b hb _ => ⟨Bx.aft hsz6 b hb.1, hb.2⟩))
        have HT7 := Lib.hid (HT4.out.trans ht7)
        have hR := HBX.out w7 v7 HT7.out
        have HRw := Lib.hid hR
        obtain ⟨r0, r1, r2, r3, r4, r5, r6, r7, r8, r9, rz, rN⟩ := row10 hR
        have HRg := Lib.hid hrg
        clear hR hrg hel hs7 ht7 hr x0 x1 x2 xN
        obtain ⟨w8, hw8⟩ : ∃ w8, w8 = setLe w7 w.heap.size 0 (ptX p sa sc) := ⟨_, rfl⟩
        have HR8 := Lib.hid (show w8.heap[w.heap.size]? = some (.cells (ptX p sa sc).toArray 202 (0, 0)) by rw [hw8]; exact vbox10 HRw.out _ _ _ _ _ _ _ _ _ _)
        have hnR : v7.ownBlock ≠ some w.heap.size := fun e => (HT7.out.own _ e).elim (own_blkT H0.out (Nat.le_refl _)) (fun h => by have := HSz.out; omega)
        have HS8 := Lib.hid (show TSt (Bx A w.heap.size w1.heap.size) N w8 (some ⟨b, off, none⟩) wn wc ws v7 s7 ms7 by rw [hw8]; exact HS7.out.far HLow.out HnB.out hnR (setLe_size _ _ _) (setLe_ext _ _ _) (fun i hi => setLe_other hi _ _ _))
        have HE8 := Lib.hid (show EL w8 (TQ (Bx A w.heap.size w1.heap.size) N v7) sa p.e.parts by rw [hw8]; exact el_store HEl.out (fun b hb e => HnB.out (by have h : Bx A w.heap.size w1.heap.size b := hb.1; rw [e] at h; exact h)) _ _)
        have HT8 := Lib.hid (show TTo N v v7 w w8 by
          rw [hw8]
          have T := HT1.out.trans HT7.out
          exact ⟨⟨(setLe_ext _ _ _).1.trans T.below.os, (setLe_ext _ _ _).2.1.trans T.below.tape, (setLe_ext _ _ _).2.2.trans T.below.output, by rw [setLe_size]; exact T.below.size, fun i hi => (setLe_other (by have := HLow.out; omega) _ _ _).trans (T.below.block i hi)⟩, fun i hi hn hv => (setLe_other (by omega) _ _ _).trans (T.block i hi hn hv), T.own⟩)
        simp only [setLe, ptX] at hw8
        have HW8 := Lib.hid hw8
        clear hw8 hnR
        go_upto_region 16 with (fail)
        rw [← HW8.out]
        clear r0 r1 r2 r3 r4 r5 r6 r7 r8 r9 rz rN HW8
        have hR := HR8.out
        rw [ptX_arr] at hR
        obtain ⟨r0, r1, r2, r3, r4, r5, r6, r7, r8, r9, rz, rN⟩ := row10 hR
        have HFin := Lib.hid (part_done HS8.out hR HLow.out HnB.out HT8.out (Nat.le_refl _) HSub.out p sa sc HRg.out HE8.out)
        clear hR
        go_wp2
        refine bodyPost_ret (results_pt3 rfl _ _ w.heap.size _ _ _ _ _ _ _ _ _ _ rfl HFin.out.1) rfl ?_
        rw [HQ.out]
        exact ⟨_, v7, ms7, rfl, HFin.out.2.1, HFin.out.2.2.1, HFin.out.2.2.2⟩
end Go.Proofs.YtknhphcfcpjhiaaGreatDoor
