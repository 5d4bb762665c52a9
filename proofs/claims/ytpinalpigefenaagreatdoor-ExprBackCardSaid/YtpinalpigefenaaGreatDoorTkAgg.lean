/- The package's taker: aggregate. Written by gentka.py. -/
import Derived.Test.YtpinalpigefenaaGreatDoorTkTest
namespace Go.Proofs.YtpinalpigefenaaGreatDoor
open Go.RowKit
set_option linter.unusedVariables false
set_option linter.unusedSimpArgs false
set_option maxRecDepth 100000
theorem pm_nil (k : Int) (op : ByteArray) (lv : Int) (c : Bool) (l : Int) (la : Nat) : (pmX (⟨k, op, lv, [], c, l⟩, la)).toArray = #[.int .i64 k, .string op, .int .i64 0, .int .i64 0, .string ⟨#[]⟩, .string ⟨#[]⟩, .string ⟨#[]⟩, .slice none 0 0, .int .i64 lv, .slice none 0 0, .bool c, .int .i64 l] := by
  simp [pmX]
theorem wait_nil (k : Int) (op : ByteArray) (lv : Int) (c : Bool) (l : Int) (hl : InR l) (A : Nat → Prop) (N : Nat) (w : World) (wa : Option Addr) (wn wc : Nat) (ws : List Wd) (v : Value) (s : Tk) (ms : List PM) (h : TSt A N w wa wn wc ws v s ms) (hfew : s.op.length + 1 ≤ s.pos) :
    Calls Tryz.prog 179 #[.pointer (some ⟨N, 0, none⟩), .agg #[.int .i64 k, .string op, .int .i64 0, .int .i64 0, .string ⟨#[]⟩, .string ⟨#[]⟩, .string ⟨#[]⟩, .slice none 0 0, .int .i64 lv, .slice none 0 0, .bool c, .int .i64 0], .int .i64 l] w (WaitP A N w wa wn wc ws v (waitP s ⟨k, op, lv, [], c, 0⟩ l) (ms ++ [(⟨k, op, lv, [], c, s.least⟩, 0)])) := by
  have := wait_any ⟨k, op, lv, [], c, 0⟩ 0 l hl A N w wa wn wc ws v s ms h (by simp) (fun q hq => by cases hq) hfew
  rwa [pm_nil] at this
set_option maxHeartbeats 12800000 in
theorem aggregate_any (A : Nat → Prop) (N : Nat) (w : World) (wa : Option Addr) (wn wc : Nat) (ws : List Wd) (v : Value) (s : Tk) (ms : List PM) (h : TSt A N w wa wn wc ws v s ms) (t : Bs) (ht : t.length ≤ 140737488355328) :
    Calls Tryz.prog 335 #[.pointer (some ⟨N, 0, none⟩), .string (bs t)] w (WordP A N w wa wn wc ws v (agP ws t s)) := by
  have H0 := Lib.hid h
  have hlow := h.low
  have HFew := Lib.hid h.few
  obtain ⟨x, hx⟩ : ∃ x, x = bs t := ⟨_, rfl⟩
  have HXx := Lib.hid hx
  have HXs := Lib.hid (show x.size ≤ maxLen by rw [hx]; unfold maxLen; simp [bs, ByteArray.size]; omega)
  have hxl : x.toList = t := by rw [hx, bs_list]
  rw [← hx]
  have hB1 := bel0 (.cells #[.int .i64 0, .string ⟨#[]⟩, .int .i64 0, .int .i64 0, .string ⟨#[]⟩, .string ⟨#[]⟩, .string ⟨#[]⟩, .slice none 0 0, .int .i64 0, .int .i64 0] 183) (Below.refl w.heap.size w)
  have HX := Lib.hid (Go.heap_alloc_new w (.cells #[.int .i64 0, .string ⟨#[]⟩, .int .i64 0, .int .i64 0, .string ⟨#[]⟩, .string ⟨#[]⟩, .string ⟨#[]⟩, .slice none 0 0, .int .i64 0, .int .i64 0] 183 (0, 0)))
  have HSz := Lib.hid (show (w.alloc (.cells #[.int .i64 0, .string ⟨#[]⟩, .int .i64 0, .int .i64 0, .string ⟨#[]⟩, .string ⟨#[]⟩, .string ⟨#[]⟩, .slice none 0 0, .int .i64 0, .int .i64 0] 183)).heap.size = w.heap.size + 1 by simp)
  clear h hx ht
  go_enter Tryz.func335, Tryz.ntmps335
  go_upto_region 1 with (fail)
  generalize (w.alloc (.cells #[.int .i64 0, .string ⟨#[]⟩, .int .i64 0, .int .i64 0, .string ⟨#[]⟩, .string ⟨#[]⟩, .string ⟨#[]⟩, .slice none 0 0, .int .i64 0, .int .i64 0] 183)) = w1 at *
  have HT1 := Lib.hid (TTo.of_below (v := v) hB1 (Nat.le_of_lt hlow))
  have HS1 := Lib.hid ((H0.out.enter w1.heap.size).below hB1)
  have HBX := Lib.hid (show ∀ (W : World) (v' : Value), TTo N v v' w1 W → W.heap[w.heap.size]? = some (.cells #[.int .i64 0, .string ⟨#[]⟩, .int .i64 0, .int .i64 0, .string ⟨#[]⟩, .string ⟨#[]⟩, .string ⟨#[]⟩, .slice none 0 0, .int .i64 0, .int .i64 0] 183 (0, 0)) from fun W v' t => (TTo.box H0.out t (Nat.le_refl _) (by have := HSz.out; omega)).trans HX.out)
  have HnB := Lib.hid (show ¬ Bx A w.heap.size w1.heap.size w.heap.size from fun hb => hb.elim (fun h => Nat.lt_irrefl _ h.2) (fun h => by have := HSz.out; omega))
  have HSub := Lib.hid (Bx.sub (A := A) (H := w.heap.size) (H1 := w1.heap.size) (by have := HSz.out; omega))
  have HLow := Lib.hid hlow
  have HSg := Lib.hid (fun (t : Bs) (W : World) (s' : Tk) (hs : TSt (Bx A w.heap.size w1.heap.size) N W wa wn wc ws v s' ms) => sign_any t (Bx A w.heap.size w1.heap.size) N W wa wn wc ws v s' ms hs)
  clear hB1 hlow
  go_wp2_with fail
  refine (HSg.out [40] _ s HS1.out).mono ?_
  rintro e w2 ⟨rfl, hs2, ht2⟩
  obtain ⟨b1, hb1⟩ : ∃ b, b = isW ws s.pos 4 [40] := ⟨_, rfl⟩
  have HB1 := Lib.hid hb1
  rw [← hb1] at hs2 ⊢
  have HS2 := Lib.hid hs2
  have HT2 := Lib.hid ht2
  clear hs2 ht2 hb1
  cases b1 with
  | false =>
    have HQ := Lib.hid (show agP ws t s = (zPt, false, false, s) by unfold agP; rw [if_pos HB1.out.symm])
    have HS2 := Lib.hid (show TSt (Bx A w.heap.size w1.heap.size) N w2 wa wn wc ws v s ms from HS2.out)
    have hR := HBX.out w2 v HT2.out
    obtain ⟨r0, r1, r2, r3, r4, r5, r6, r7, r8, r9, rz, rN⟩ := row10 hR
    have HFin := Lib.hid (part_done HS2.out hR HLow.out HnB.out (HT1.out.trans HT2.out) (Nat.le_refl _) HSub.out zPt none 0 prg_zero (.nil none))
    clear hR
    go_wp2
    refine bodyPost_ret (results_pt3 rfl _ _ w.heap.size _ _ _ _ _ _ _ _ _ _ rfl HFin.out.1) rfl ?_
    rw [HQ.out]
    exact ⟨_, v, ms, rfl, HFin.out.2.1, HFin.out.2.2.1, HFin.out.2.2.2⟩
  | true =>
    have HS2 := Lib.hid (show TSt (Bx A w.heap.size w1.heap.size) N w2 wa wn wc ws v (adv s) ms from HS2.out)
    have HNf := Lib.hid (show ¬ isW ws s.pos 4 [40] = false by rw [← HB1.out]; decide)
    go_upto_region 4 with (fail)
    have hB23 := bel0 (.cells #[.int .i64 6, .string x, .int .i64 0, .int .i64 0, .string ⟨#[]⟩, .string ⟨#[]⟩, .string ⟨#[]⟩, .slice none 0 0] 34) (Below.refl w2.heap.size w2)
    have HE := Lib.hid (Go.heap_alloc_new w2 (.cells #[.int .i64 6, .string x, .int .i64 0, .int .i64 0, .string ⟨#[]⟩, .string ⟨#[]⟩, .string ⟨#[]⟩, .slice none 0 0] 34 (0, 0)))
    generalize (w2.alloc (.cells #[.int .i64 6, .string x, .int .i64 0, .int .i64 0, .string ⟨#[]⟩, .string ⟨#[]⟩, .string ⟨#[]⟩, .slice none 0 0] 34)) = w3 at *
    have HS3 := Lib.hid (HS2.out.below hB23)
    have HT23 := Lib.hid (TTo.of_below (v := v) hB23 (Nat.le_of_lt HS2.out.low))
    have HT3 := Lib.hid (HT2.out.trans HT23.out)
    have HSz3 := Lib.hid (show w2.heap.size < w3.heap.size from (Array.getElem?_eq_some_iff.1 HE.out).1)
    have HEb := Lib.hid (show ∀ (W : World) (v' : Value), TTo N v v' w3 W → W.heap[w2.heap.size]? = some (.cells #[.int .i64 6, .string x, .int .i64 0, .int .i64 0, .string ⟨#[]⟩, .string ⟨#[]⟩, .string ⟨#[]⟩, .slice none 0 0] 34 (0, 0)) from fun W v' t => (TTo.box HS2.out t (Nat.le_refl _) HSz3.out).trans HE.out)
    clear hB23
    by_cases htc : t = [67, 79, 85, 78, 84]
    · have e1 : (x.toList == [67, 79, 85, 78, 84]) = true := by rw [hxl]; simp [htc]
      have HTc := Lib.hid htc
      clear hxl htc
      go_wp2_with fail
      refine (HSg.out [42] _ (adv s) HS3.out).mono ?_
      rintro e w4 ⟨rfl, hs4, ht4⟩
      obtain ⟨b2, hb2⟩ : ∃ b, b = isW ws (adv s).pos 4 [42] := ⟨_, rfl⟩
      have HB2 := Lib.hid (show b2 = isW ws (s.pos + 1) 4 [42] from hb2)
      rw [← hb2] at hs4 ⊢
      have HS4 := Lib.hid hs4
      have HT34 := Lib.hid ht4
      have HT4 := Lib.hid (HT3.out.trans ht4)
      clear hs4 ht4 hb2
      cases b2 with
      | true =>
        have HS4 := Lib.hid (show TSt (Bx A w.heap.size w1.heap.size) N w4 wa wn wc ws v (adv (adv s)) ms from HS4.out)
        obtain ⟨g0, g1, g2, g3, g4, g5, g6, g7, gz, gN⟩ := row8 (HEb.out w4 v HT34.out)
        go_wp2_with fail
        refine (build_any 6 x 0 0 ⟨#[]⟩ ⟨#[]⟩ ⟨#[]⟩ 8 [] (erg_op rfl HXs.out) (by unfold InR; omega) _ (fun _ => False) none 0 0 (psAt_nil _ _) (by simp)).mono ?_
        rintro e w5 ⟨pv, rfl, ⟨sa, sc, rfl, hrg, hel⟩, hb5⟩
        obtain ⟨p, hp⟩ : ∃ p, p = buildP 6 x 0 0 ⟨#[]⟩ ⟨#[]⟩ ⟨#[]⟩ 8 [] := ⟨_, rfl⟩
        have HP := Lib.hid hp
        rw [← hp] at hrg hel ⊢
        rw [ptX_arr]
        have HS5 := Lib.hid (HS4.out.below hb5)
        have HT5 := Lib.hid (HT4.out.trans (.of_below hb5 (Nat.le_of_lt HS4.out.low)))
        have HRg := Lib.hid hrg
        have HEl := Lib.hid (show EL w5 (TQ (Bx A w.heap.size w1.heap.size) N v) sa p.e.parts from el_fresh HS4.out hel HT4.out.below.size)
        clear hb5 hel hrg hp g0 g1 g2 g3 g4 g5 g6 g7 gz gN
        go_wp2_with fail
        refine (HSg.out [41] _ (adv (adv s)) HS5.out).mono ?_
        rintro e w6 ⟨rfl, hs6, ht6⟩
        obtain ⟨b3, hb3⟩ : ∃ b, b = isW ws (adv (adv s)).pos 4 [41] := ⟨_, rfl⟩
        have HB3 := Lib.hid (show b3 = isW ws (s.pos + 2) 4 [41] from hb3)
        rw [← hb3] at hs6 ⊢
        have HS6 := Lib.hid hs6
        have HT6 := Lib.hid (HT5.out.trans ht6)
        have HEl6 := Lib.hid (HEl.out.toT ht6)
        clear hs6 ht6 hb3
        have HQ := Lib.hid (show agP ws t s = (p, true, b3, if b3 = true then adv (adv (adv s)) else adv (adv s)) by
          unfold agP
          rw [if_neg HNf.out, if_pos ⟨HTc.out, HB2.out.symm⟩, HP.out, HXx.out, ← HB3.out]
          cases b3 <;> rfl)
        have hR := HBX.out w6 v HT6.out
        obtain ⟨r0, r1, r2, r3, r4, r5, r6, r7, r8, r9, rz, rN⟩ := row10 hR
        have HFin := Lib.hid (part_done HS6.out hR HLow.out HnB.out (HT1.out.trans HT6.out) (Nat.le_refl _) HSub.out p sa sc HRg.out HEl6.out)
        clear hR
        go_wp2
        refine bodyPost_ret (results_pt3 rfl _ _ w.heap.size _ _ _ _ _ _ _ _ _ _ rfl HFin.out.1) rfl ?_
        rw [HQ.out]
        exact ⟨_, v, ms, rfl, HFin.out.2.1, HFin.out.2.2.1, HFin.out.2.2.2⟩
      | false =>
        have HS4 := Lib.hid (show TSt (Bx A w.heap.size w1.heap.size) N w4 wa wn wc ws v (adv s) ms from HS4.out)
        have HQ := Lib.hid (show agP ws t s = (zPt, false, true, waitP (adv s) ⟨6, bs t, 8, [], true, 0⟩ 1) by
          unfold agP
          rw [if_neg HNf.out, if_neg (fun hh => by have := hh.2; rw [← HB2.out] at this; cases this)])
        rw [← HXx.out] at HQ
        obtain ⟨g0, g1, g2, g3, g4, g5, g6, g7, gz, gN⟩ := row8 (HEb.out w4 v HT34.out)
        go_wp2_with fail
        refine (wait_nil 6 x 8 true 1 (by unfold InR; omega) _ N _ wa wn wc ws v (adv s) ms HS4.out (Nat.succ_le_succ HFew.out)).mono ?_
        rintro e w7 ⟨rfl, v7, hs7, ht7⟩
        have HS7 := Lib.hid hs7
        have HT7 := Lib.hid (HT4.out.trans ht7)
        clear hs7 ht7 g0 g1 g2 g3 g4 g5 g6 g7 gz gN
        have hR := HBX.out w7 v7 HT7.out
        obtain ⟨r0, r1, r2, r3, r4, r5, r6, r7, r8, r9, rz, rN⟩ := row10 hR
        have HFin := Lib.hid (part_done HS7.out hR HLow.out HnB.out (HT1.out.trans HT7.out) (Nat.le_refl _) HSub.out zPt none 0 prg_zero (.nil none))
        clear hR
        go_wp2
        refine bodyPost_ret (results_pt3 rfl _ _ w.heap.size _ _ _ _ _ _ _ _ _ _ rfl HFin.out.1) rfl ?_
        rw [HQ.out]
        exact ⟨_, v7, _, rfl, HFin.out.2.1, HFin.out.2.2.1, HFin.out.2.2.2⟩
    · have e1 : (x.toList == [67, 79, 85, 78, 84]) = false := by rw [hxl]; exact beq_eq_false_iff_ne.2 htc
      have HQ := Lib.hid (show agP ws t s = (zPt, false, true, waitP (adv s) ⟨6, bs t, 8, [], true, 0⟩ 1) by
        unfold agP
        rw [if_neg HNf.out, if_neg (fun hh => htc hh.1)])
      clear hxl htc
      have HS4 := HS3
      have HT4 := HT3
      have HT34 := Lib.hid (TTo.refl N v w3)
      rw [← HXx.out] at HQ
      obtain ⟨g0, g1, g2, g3, g4, g5, g6, g7, gz, gN⟩ := row8 (HEb.out w3 v HT34.out)
      go_wp2_with fail
      refine (wait_nil 6 x 8 true 1 (by unfold InR; omega) _ N _ wa wn wc ws v (adv s) ms HS4.out (Nat.succ_le_succ HFew.out)).mono ?_
      rintro e w7 ⟨rfl, v7, hs7, ht7⟩
      have HS7 := Lib.hid hs7
      have HT7 := Lib.hid (HT4.out.trans ht7)
      clear hs7 ht7 g0 g1 g2 g3 g4 g5 g6 g7 gz gN
      have hR := HBX.out w7 v7 HT7.out
      obtain ⟨r0, r1, r2, r3, r4, r5, r6, r7, r8, r9, rz, rN⟩ := row10 hR
      have HFin := Lib.hid (part_done HS7.out hR HLow.out HnB.out (HT1.out.trans HT7.out) (Nat.le_refl _) HSub.out zPt none 0 prg_zero (.nil none))
      clear hR
      go_wp2
      refine bodyPost_ret (results_pt3 rfl _ _ w.heap.size _ _ _ _ _ _ _ _ _ _ rfl HFin.out.1) rfl ?_
      rw [HQ.out]
      exact ⟨_, v7, _, rfl, HFin.out.2.1, HFin.out.2.2.1, HFin.out.2.2.2⟩
end Go.Proofs.YtpinalpigefenaaGreatDoor
