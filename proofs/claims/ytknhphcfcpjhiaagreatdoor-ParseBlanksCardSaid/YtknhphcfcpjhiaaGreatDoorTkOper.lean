/- The package's taker: operand. -/
import Derived.Test.YtknhphcfcpjhiaaGreatDoorTkWord
namespace Go.Proofs.YtknhphcfcpjhiaaGreatDoor
open Go.RowKit
set_option linter.unusedVariables false
set_option linter.unusedSimpArgs false
set_option maxRecDepth 100000
theorem wordP_adv {nm : ByteArray → Bool} {ws : List Wd} {s : Tk} (h1 : (wordP nm ws s).2.1 = false) (h2 : (wordP nm ws s).2.2.1 = true) : s.pos < (wordP nm ws s).2.2.2.pos := by
  unfold wordP at h1 h2 ⊢
  by_cases a1 : ws.length ≤ s.pos
  · rw [if_pos a1] at h2; cases h2
  rw [if_neg a1] at h1 h2 ⊢
  dsimp only at h1 h2 ⊢
  by_cases a2 : (wdAt ws s.pos).1 = 2 ∧ 0 ≤ (wdAt ws s.pos).2.2
  · rw [if_pos a2] at h1; cases h1
  rw [if_neg a2] at h1 h2 ⊢
  by_cases a3 : (wdAt ws s.pos).1 = 3 ∧ (wdAt ws s.pos).2.1.length ≤ 100
  · rw [if_pos a3] at h1; cases h1
  rw [if_neg a3] at h1 h2 ⊢
  by_cases a4 : isW ws s.pos 1 [78, 85, 76, 76] = true
  · rw [if_pos a4] at h1; cases h1
  rw [if_neg a4] at h1 h2 ⊢
  by_cases a5 : (wdAt ws s.pos).1 = 1 ∧ aggB (wdAt ws s.pos).2.1 = true
  · rw [if_pos a5] at h1 h2 ⊢
    unfold agP at h1 h2 ⊢
    by_cases a6 : isW ws (adv s).pos 4 [40] = false
    · rw [if_pos a6] at h2; cases h2
    rw [if_neg a6] at h1 h2 ⊢
    by_cases a7 : (wdAt ws s.pos).2.1 = [67, 79, 85, 78, 84] ∧ isW ws ((adv s).pos + 1) 4 [42] = true
    · rw [if_pos a7] at h1
      split at h1 <;> cases h1
    · rw [if_neg a7]
      show s.pos < s.pos + 1 + 1
      omega
  · rw [if_neg a5] at h1; cases h1
/-- where a taker in memory stands -/
def posOf (N : Nat) (w : World) : Nat := (intOf ((w.cell? ⟨N, 1, none⟩).getD undef)).toNat
theorem TSt.posOf {A : Nat → Prop} {N : Nat} {w : World} {wa : Option Addr} {wn wc : Nat} {ws : List Wd} {v : Value} {s : Tk} {ms : List PM} (h : TSt A N w wa wn wc ws v s ms) : posOf N w = s.pos := by
  unfold Go.Proofs.YtknhphcfcpjhiaaGreatDoor.posOf
  rw [h.cells.2.1]
  simp [intOf]
set_option maxHeartbeats 25600000 in
theorem operand_any (A : Nat → Prop) (N : Nat) (w : World) (wa : Option Addr) (wn wc : Nat) (ws : List Wd) (v : Value) (s : Tk) (ms : List PM) (h : TSt A N w wa wn wc ws v s ms) (hz : WsOk ws) :
    Calls Tryz.prog 164 #[.pointer (some ⟨N, 0, none⟩)] w (PartP A N w wa wn wc ws v (operP nmB ws (ws.length + 1) s)) := by
  have HZ := Lib.hid hz
  have H0 := Lib.hid h
  have hlow := h.low
  have HLn := Lib.hid h.words.1
  have hB1 := bel0 (.cells #[.int .i64 0, .string ⟨#[]⟩, .int .i64 0, .int .i64 0, .string ⟨#[]⟩, .string ⟨#[]⟩, .string ⟨#[]⟩, .slice none 0 0, .int .i64 0, .int .i64 0] 202) (Below.refl w.heap.size w)
  have HX := Lib.hid (Go.heap_alloc_new w (.cells #[.int .i64 0, .string ⟨#[]⟩, .int .i64 0, .int .i64 0, .string ⟨#[]⟩, .string ⟨#[]⟩, .string ⟨#[]⟩, .slice none 0 0, .int .i64 0, .int .i64 0] 202 (0, 0)))
  have HSz := Lib.hid (show (w.alloc (.cells #[.int .i64 0, .string ⟨#[]⟩, .int .i64 0, .int .i64 0, .string ⟨#[]⟩, .string ⟨#[]⟩, .string ⟨#[]⟩, .slice none 0 0, .int .i64 0, .int .i64 0] 202)).heap.size = w.heap.size + 1 by simp)
  clear h hz
  obtain ⟨w1, hw1⟩ : ∃ w1, w1 = w.alloc (.cells #[.int .i64 0, .string ⟨#[]⟩, .int .i64 0, .int .i64 0, .string ⟨#[]⟩, .string ⟨#[]⟩, .string ⟨#[]⟩, .slice none 0 0, .int .i64 0, .int .i64 0] 202) := ⟨_, rfl⟩
  rw [← hw1] at hB1 HX HSz
  have HW1 := Lib.hid hw1
  have HT1 := Lib.hid (TTo.of_below (v := v) hB1 (Nat.le_of_lt hlow))
  have HS1 := Lib.hid ((H0.out.enter w1.heap.size).below hB1)
  have HBX := Lib.hid (show ∀ (W : World) (v' : Value), TTo N v v' w1 W → W.heap[w.heap.size]? = some (.cells #[.int .i64 0, .string ⟨#[]⟩, .int .i64 0, .int .i64 0, .string ⟨#[]⟩, .string ⟨#[]⟩, .string ⟨#[]⟩, .slice none 0 0, .int .i64 0, .int .i64 0] 202 (0, 0)) from fun W v' t => (TTo.box H0.out t (Nat.le_refl _) (by have := HSz.out; omega)).trans HX.out)
  have HnB := Lib.hid (show ¬ Bx A w.heap.size w1.heap.size w.heap.size from fun hb => hb.elim (fun h => Nat.lt_irrefl _ h.2) (fun h => by have := HSz.out; omega))
  have HSub := Lib.hid (Bx.sub (A := A) (H := w.heap.size) (H1 := w1.heap.size) (by have := HSz.out; omega))
  have HLow := Lib.hid hlow
  obtain ⟨o0, ho0⟩ : ∃ o, o = operP nmB ws (ws.length + 1) s := ⟨_, rfl⟩
  have HO0 := Lib.hid ho0
  rw [← ho0]
  clear hB1 hlow hw1 ho0
  go_enter Tryz.func164, Tryz.ntmps164
  go_wp2_with fail
  rw [← HW1.out]
  go_loopw [] (fun wr => ∃ (v' : Value) (s' : Tk) (ms' : List PM) (n : Nat), Hid (TSt (Bx A w.heap.size w1.heap.size) N wr wa wn wc ws v' s' ms' ∧ TTo N v v' w1 wr ∧ o0 = operP nmB ws n s' ∧ ws.length < s'.pos + n)) (fun wr => wn - posOf N wr)
  case atStart => exact ⟨v, s, ms, _, Lib.hid ⟨HS1.out, TTo.refl _ _ _, HO0.out, by omega⟩⟩
  case round =>
    obtain ⟨v2, s2, ms2, n, HR⟩ := hrel
    obtain ⟨m, rfl⟩ : ∃ m, n = m + 1 := ⟨n - 1, by have h1 := HR.out.1.pos; have h2 := HLn.out; have h3 := HR.out.2.2.2; omega⟩
    have HOp := Lib.hid (show o0 = (if s2.least ≤ 3 ∧ isW ws s2.pos 1 [78, 79, 84] = true then operP nmB ws m (waitP (adv s2) ⟨3, bs [78, 79, 84], 3, [], false, 0⟩ 3) else if isW ws s2.pos 4 [45] = true then operP nmB ws m (waitP (adv s2) ⟨3, bs [45], 7, [], false, 0⟩ 7) else if isW ws s2.pos 4 [40] = true then operP nmB ws m (waitP (adv s2) ⟨0, ⟨#[]⟩, 0, [], true, 0⟩ 1) else if (wordP nmB ws s2).2.1 = true ∨ (wordP nmB ws s2).2.2.1 = false then ((wordP nmB ws s2).1, (wordP nmB ws s2).2.2.1, (wordP nmB ws s2).2.2.2) else operP nmB ws m (wordP nmB ws s2).2.2.2) from HR.out.2.2.1)
    have HS2 := Lib.hid HR.out.1
    have HT2 := Lib.hid HR.out.2.1
    have HFw := Lib.hid HR.out.1.few
    have HSg := Lib.hid (fun (t : Bs) (W : World) (hs : TSt (Bx A w.heap.size w1.heap.size) N W wa wn wc ws v2 s2 ms2) => sign_any t (Bx A w.heap.size w1.heap.size) N W wa wn wc ws v2 s2 ms2 hs)
    have HKw := Lib.hid (fun (t : Bs) (W : World) (hs : TSt (Bx A w.heap.size w1.heap.size) N W wa wn wc ws v2 s2 ms2) => kword_any t (Bx A w.heap.size w1.heap.size) N W wa wn wc ws v2 s2 ms2 hs)
    have HN2 := Lib.hid HS2.out.low
    by_cases hl3 : s2.least ≤ 3
    · obtain ⟨-, -, c2, -, -⟩ := HS2.out.cells
      have hN2 := HS2.out.low
      go_wp2_with fail
      refine (HKw.out [78, 79, 84] _ HS2.out).mono ?_
      rintro e w3 ⟨rfl, hs3, ht3⟩
      obtain ⟨b1, hb1⟩ : ∃ b, b = isW ws s2.pos 1 [78, 79, 84] := ⟨_, rfl⟩
      have HB1 := Lib.hid hb1
      rw [← hb1] at hs3 ⊢
      have HS3 := Lib.hid hs3
      have HT3 := Lib.hid (HT2.out.trans ht3)
      clear hs3 ht3 hb1 c2 hN2
      cases b1 with
      | true =>
        have HS3 := Lib.hid (show TSt (Bx A w.heap.size w1.heap.size) N w3 wa wn wc ws v2 (adv s2) ms2 from HS3.out)
        have HQ := Lib.hid (show o0 = operP nmB ws m (waitP (adv s2) ⟨3, bs [78, 79, 84], 3, [], false, 0⟩ 3) by rw [HOp.out, if_pos ⟨hl3, HB1.out.symm⟩])
        go_wp2_with fail
        refine (wait_nil 3 (bs [78, 79, 84]) 3 false 3 (by unfold InR; omega) _ N _ wa wn wc ws v2 (adv s2) ms2 HS3.out (Nat.succ_le_succ HFw.out)).mono ?_
        rintro e w7 ⟨rfl, v7, hs7, ht7⟩
        have HS7 := Lib.hid hs7
        have HT7 := Lib.hid (HT3.out.trans ht7)
        have HLt := Lib.hid (show ws.length < (s2.pos + 1) + m by have := HR.out.2.2.2; omega)
        clear hs7 ht7
        go_wp2
        go_roundw
        case rel =>
          first
            | exact ⟨_, _, _, m, Lib.hid ⟨HS7.out, HT7.out, HQ.out, HLt.out⟩⟩
            | (refine ⟨_, _, _, _, _, _, _, _, _, _, _, _, _, _, _, _, _, _, _, _, _, _, _, _, _, _, _, _, _, _, _, _, _, _, _, _, _, _, _, _, _, _, _, _, ?_, rfl⟩
               exact ⟨_, _, _, m, Lib.hid ⟨HS7.out, HT7.out, HQ.out, HLt.out⟩⟩)
        case measure =>
          have q1 := HS7.out.posOf
          have q2 := HR.out.1.posOf
          have q3 := HS7.out.pos
          simp only [waitP, adv] at q1 q3
          rw [q1, q2]
          omega
      | false =>
        have HS3 := Lib.hid (show TSt (Bx A w.heap.size w1.heap.size) N w3 wa wn wc ws v2 s2 ms2 from HS3.out)
        have HOp2 := Lib.hid (HOp.out.trans (if_neg (fun hh => by have := hh.2; rw [← HB1.out] at this; cases this)))
        go_wp2_with fail
        refine (HSg.out [45] _ HS3.out).mono ?_
        rintro e w4 ⟨rfl, hs4, ht4⟩
        obtain ⟨b2, hb2⟩ : ∃ b, b = isW ws s2.pos 4 [45] := ⟨_, rfl⟩
        have HB2 := Lib.hid hb2
        rw [← hb2] at hs4 ⊢
        have HS4 := Lib.hid hs4
        have HT4 := Lib.hid (HT3.out.trans ht4)
        clear hs4 ht4 hb2
        cases b2 with
        | true =>
          have HS4 := Lib.hid (show TSt (Bx A w.heap.size w1.heap.size) N w4 wa wn wc ws v2 (adv s2) ms2 from HS4.out)
          have HQ := Lib.hid (show o0 = operP nmB ws m (waitP (adv s2) ⟨3, bs [45], 7, [], false, 0⟩ 7) by rw [HOp2.out, if_pos HB2.out.symm])
          go_wp2_with fail
          refine (wait_nil 3 (bs [45]) 7 false 7 (by unfold InR; omega) _ N _ wa wn wc ws v2 (adv s2) ms2 HS4.out (Nat.succ_le_succ HFw.out)).mono ?_
          rintro e w7 ⟨rfl, v7, hs7, ht7⟩
          have HS7 := Lib.hid hs7
          have HT7 := Lib.hid (HT4.out.trans ht7)
          have HLt := Lib.hid (show ws.length < (s2.pos + 1) + m by have := HR.out.2.2.2; omega)
          clear hs7 ht7
          go_wp2
          go_roundw
          case rel =>
            first
              | exact ⟨_, _, _, m, Lib.hid ⟨HS7.out, HT7.out, HQ.out, HLt.out⟩⟩
              | (refine ⟨_, _, _, _, _, _, _, _, _, _, _, _, _, _, _, _, _, _, _, _, _, _, _, _, _, _, _, _, _, _, _, _, _, _, _, _, _, _, _, _, _, _, _, _, ?_, rfl⟩
                 exact ⟨_, _, _, m, Lib.hid ⟨HS7.out, HT7.out, HQ.out, HLt.out⟩⟩)
          case measure =>
            have q1 := HS7.out.posOf
            have q2 := HR.out.1.posOf
            have q3 := HS7.out.pos
            simp only [waitP, adv] at q1 q3
            rw [q1, q2]
            omega
        | false =>
          have HS4 := Lib.hid (show TSt (Bx A w.heap.size w1.heap.size) N w4 wa wn wc ws v2 s2 ms2 from HS4.out)
          have HOp3 := Lib.hid (HOp2.out.trans (if_neg (fun hh => by rw [← HB2.out] at hh; cases hh)))
          go_wp2_with fail
          refine (HSg.out [40] _ HS4.out).mono ?_
          rintro e w5 ⟨rfl, hs5, ht5⟩
          obtain ⟨b3, hb3⟩ : ∃ b, b = isW ws s2.pos 4 [40] := ⟨_, rfl⟩
          have HB3 := Lib.hid hb3
          rw [← hb3] at hs5 ⊢
          have HS5 := Lib.hid hs5
          have HT5 := Lib.hid (HT4.out.trans ht5)
          clear hs5 ht5 hb3
          cases b3 with
          | true =>
            have HS5 := Lib.hid (show TSt (Bx A w.heap.size w1.heap.size) N w5 wa wn wc ws v2 (adv s2) ms2 from HS5.out)
            have HQ := Lib.hid (show o0 = operP nmB ws m (waitP (adv s2) ⟨0, ⟨#[]⟩, 0, [], true, 0⟩ 1) by rw [HOp3.out, if_pos HB3.out.symm])
            go_wp2_with fail
            refine (wait_nil 0 ⟨#[]⟩ 0 true 1 (by unfold InR; omega) _ N _ wa wn wc ws v2 (adv s2) ms2 HS5.out (Nat.succ_le_succ HFw.out)).mono ?_
            rintro e w7 ⟨rfl, v7, hs7, ht7⟩
            have HS7 := Lib.hid hs7
            have HT7 := Lib.hid (HT5.out.trans ht7)
            have HLt := Lib.hid (show ws.length < (s2.pos + 1) + m by have := HR.out.2.2.2; omega)
            clear hs7 ht7
            go_wp2
            go_roundw
            case rel =>
              first
                | exact ⟨_, _, _, m, Lib.hid ⟨HS7.out, HT7.out, HQ.out, HLt.out⟩⟩
                | (refine ⟨_, _, _, _, _, _, _, _, _, _, _, _, _, _, _, _, _, _, _, _, _, _, _, _, _, _, _, _, _, _, _, _, _, _, _, _, _, _, _, _, _, _, _, _, ?_, rfl⟩
                   exact ⟨_, _, _, m, Lib.hid ⟨HS7.out, HT7.out, HQ.out, HLt.out⟩⟩)
            case measure =>
              have q1 := HS7.out.posOf
              have q2 := HR.out.1.posOf
              have q3 := HS7.out.pos
              simp only [waitP, adv] at q1 q3
              rw [q1, q2]
              omega
          | false =>
            have HS5 := Lib.hid (show TSt (Bx A w.heap.size w1.heap.size) N w5 wa wn wc ws v2 s2 ms2 from HS5.out)
            have HOp4 := Lib.hid (HOp3.out.trans (if_neg (fun hh => by rw [← HB3.out] at hh; cases hh)))
            go_wp2_with fail
            refine (word_any _ N _ wa wn wc ws v2 s2 ms2 HS5.out HZ.out).mono ?_
            rintro e w6 ⟨pv, v7, ms7, rfl, ⟨sa, sc, rfl, hrg, hel⟩, hs7, ht7⟩
            have HAdv := Lib.hid (wordP_adv (nm := nmB) (ws := ws) (s := s2))
            obtain ⟨r, hr⟩ : ∃ r, r = wordP nmB ws s2 := ⟨_, rfl⟩
            rw [← hr] at hrg hel hs7 HOp4 HAdv ⊢
            obtain ⟨p, wh, ok, s7⟩ := r
            dsimp only at hrg hel hs7 HOp4 HAdv ⊢
            rw [ptX_arr]
            have hsz6 : w1.heap.size ≤ w5.heap.size := HT5.out.below.size
            have HS7 := Lib.hid (hs7.mono (fun b hb _ => Bx.aft hsz6 b hb))
            have HEl := Lib.hid (hel.mono (Q' := TQ (Bx A w.heap.size w1.heap.size) N v7) (fun b hb _ => ⟨Bx.aft hsz6 b hb.1, hb.2⟩))
            have HT7 := Lib.hid (HT5.out.trans ht7)
            have HRg := Lib.hid hrg
            clear hrg hel hs7 ht7 hr hsz6
            go_upto_region 2 with (fail)
            have hB68 := bel0 (.cells (ptX p sa sc).toArray 202) (Below.refl w6.heap.size w6)
            have hx8 := Go.heap_alloc_new w6 (.cells (ptX p sa sc).toArray 202 (0, 0))
            rw [ptX_arr] at hB68 hx8
            generalize (w6.alloc (.cells #[.int .i64 p.e.kind, .string p.e.op, .int .i64 p.e.vk, .int .i64 p.e.vn, .string p.e.vs, .string p.e.tab, .string p.e.col, .slice sa p.e.parts.length sc, .int .i64 p.lv, .int .i64 p.dp] 202)) = w8 at *
            have HS8 := Lib.hid (HS7.out.below hB68)
            have HE8 := Lib.hid (HEl.out.keep hB68)
            have HT8 := Lib.hid (HT7.out.trans (.of_below hB68 (Nat.le_of_lt HS7.out.low)))
            by_cases hst : wh = true ∨ ok = false
            · have HQ := Lib.hid (show o0 = (p, ok, s7) by rw [HOp4.out, if_pos hst])
              have hR := HBX.out w8 v7 HT8.out
              obtain ⟨r0, r1, r2, r3, r4, r5, r6, r7, r8, r9, rz, rN⟩ := row10 hR
              obtain ⟨p0, p1, p2, p3, p4, p5, p6, p7, p8, p9, -, pN⟩ := row10 hx8
              have HFin := Lib.hid (part_done HS8.out hR HLow.out HnB.out (HT1.out.trans HT8.out) (Nat.le_refl _) HSub.out p sa sc HRg.out HE8.out)
              clear hR hx8 hB68
              have hst2 : (wh = true ∧ ok = ok) ∨ (wh = false ∧ ok = false) := by
                cases wh
                · exact .inr ⟨rfl, hst.elim (fun h => by cases h) id⟩
                · exact .inl ⟨rfl, rfl⟩
              clear hst
              rcases hst2 with ⟨rfl, -⟩ | ⟨rfl, rfl⟩
              all_goals
                go_wp2
                refine bodyPost_ret (results_pt2 rfl _ _ w.heap.size _ _ _ _ _ _ _ _ _ _ rfl HFin.out.1) rfl ?_
                rw [HQ.out]
                exact ⟨_, v7, ms7, rfl, HFin.out.2.1, HFin.out.2.2.1, HFin.out.2.2.2⟩
            · obtain ⟨rfl, rfl⟩ : wh = false ∧ ok = true := by
                cases wh <;> cases ok <;> simp at hst ⊢
              have HQ := Lib.hid (show o0 = operP nmB ws m s7 by rw [HOp4.out]; simp)
              have HA := Lib.hid (HAdv.out rfl rfl)
              have HLt := Lib.hid (show ws.length < s7.pos + m by have := HR.out.2.2.2; have := HA.out; omega)
              clear hx8 hB68 hst
              go_wp2
              go_roundw
              case rel =>
                first
                  | exact ⟨_, _, _, m, Lib.hid ⟨HS8.out, HT8.out, HQ.out, HLt.out⟩⟩
                  | (refine ⟨_, _, _, _, _, _, _, _, _, _, _, _, _, _, _, _, _, _, _, _, _, _, _, _, _, _, _, _, _, _, _, _, _, _, _, _, _, _, _, _, _, _, _, _, ?_, rfl⟩
                     exact ⟨_, _, _, m, Lib.hid ⟨HS8.out, HT8.out, HQ.out, HLt.out⟩⟩)
              case measure =>
                have q1 := HS8.out.posOf
                have q2 := HR.out.1.posOf
                have q3 := HS8.out.pos
                have q4 := HA.out
                rw [q1, q2]
                omega
    · have HOp2 := Lib.hid (HOp.out.trans (if_neg (fun hh => hl3 hh.1)))
      obtain ⟨w3, rfl⟩ : ∃ x, x = wr := ⟨_, rfl⟩
      have HS3 := HS2
      have HT3 := HT2
      obtain ⟨-, -, c2, -, -⟩ := HS2.out.cells
      have hN2 := HS2.out.low
      go_wp2_with fail
      refine (HSg.out [45] _ HS3.out).mono ?_
      rintro e w4 ⟨rfl, hs4, ht4⟩
      obtain ⟨b2, hb2⟩ : ∃ b, b = isW ws s2.pos 4 [45] := ⟨_, rfl⟩
      have HB2 := Lib.hid hb2
      rw [← hb2] at hs4 ⊢
      have HS4 := Lib.hid hs4
      have HT4 := Lib.hid (HT3.out.trans ht4)
      clear hs4 ht4 hb2
      clear c2 hN2
      cases b2 with
      | true =>
        have HS4 := Lib.hid (show TSt (Bx A w.heap.size w1.heap.size) N w4 wa wn wc ws v2 (adv s2) ms2 from HS4.out)
        have HQ := Lib.hid (show o0 = operP nmB ws m (waitP (adv s2) ⟨3, bs [45], 7, [], false, 0⟩ 7) by rw [HOp2.out, if_pos HB2.out.symm])
        go_wp2_with fail
        refine (wait_nil 3 (bs [45]) 7 false 7 (by unfold InR; omega) _ N _ wa wn wc ws v2 (adv s2) ms2 HS4.out (Nat.succ_le_succ HFw.out)).mono ?_
        rintro e w7 ⟨rfl, v7, hs7, ht7⟩
        have HS7 := Lib.hid hs7
        have HT7 := Lib.hid (HT4.out.trans ht7)
        have HLt := Lib.hid (show ws.length < (s2.pos + 1) + m by have := HR.out.2.2.2; omega)
        clear hs7 ht7
        go_wp2
        go_roundw
        case rel =>
          first
            | exact ⟨_, _, _, m, Lib.hid ⟨HS7.out, HT7.out, HQ.out, HLt.out⟩⟩
            | (refine ⟨_, _, _, _, _, _, _, _, _, _, _, _, _, _, _, _, _, _, _, _, _, _, _, _, _, _, _, _, _, _, _, _, _, _, _, _, _, _, _, _, _, _, _, _, ?_, rfl⟩
               exact ⟨_, _, _, m, Lib.hid ⟨HS7.out, HT7.out, HQ.out, HLt.out⟩⟩)
        case measure =>
          have q1 := HS7.out.posOf
          have q2 := HR.out.1.posOf
          have q3 := HS7.out.pos
          simp only [waitP, adv] at q1 q3
          rw [q1, q2]
          omega
      | false =>
        have HS4 := Lib.hid (show TSt (Bx A w.heap.size w1.heap.size) N w4 wa wn wc ws v2 s2 ms2 from HS4.out)
        have HOp3 := Lib.hid (HOp2.out.trans (if_neg (fun hh => by rw [← HB2.out] at hh; cases hh)))
        go_wp2_with fail
        refine (HSg.out [40] _ HS4.out).mono ?_
        rintro e w5 ⟨rfl, hs5, ht5⟩
        obtain ⟨b3, hb3⟩ : ∃ b, b = isW ws s2.pos 4 [40] := ⟨_, rfl⟩
        have HB3 := Lib.hid hb3
        rw [← hb3] at hs5 ⊢
        have HS5 := Lib.hid hs5
        have HT5 := Lib.hid (HT4.out.trans ht5)
        clear hs5 ht5 hb3
        cases b3 with
        | true =>
          have HS5 := Lib.hid (show TSt (Bx A w.heap.size w1.heap.size) N w5 wa wn wc ws v2 (adv s2) ms2 from HS5.out)
          have HQ := Lib.hid (show o0 = operP nmB ws m (waitP (adv s2) ⟨0, ⟨#[]⟩, 0, [], true, 0⟩ 1) by rw [HOp3.out, if_pos HB3.out.symm])
          go_wp2_with fail
          refine (wait_nil 0 ⟨#[]⟩ 0 true 1 (by unfold InR; omega) _ N _ wa wn wc ws v2 (adv s2) ms2 HS5.out (Nat.succ_le_succ HFw.out)).mono ?_
          rintro e w7 ⟨rfl, v7, hs7, ht7⟩
          have HS7 := Lib.hid hs7
          have HT7 := Lib.hid (HT5.out.trans ht7)
          have HLt := Lib.hid (show ws.length < (s2.pos + 1) + m by have := HR.out.2.2.2; omega)
          clear hs7 ht7
          go_wp2
          go_roundw
          case rel =>
            first
              | exact ⟨_, _, _, m, Lib.hid ⟨HS7.out, HT7.out, HQ.out, HLt.out⟩⟩
              | (refine ⟨_, _, _, _, _, _, _, _, _, _, _, _, _, _, _, _, _, _, _, _, _, _, _, _, _, _, _, _, _, _, _, _, _, _, _, _, _, _, _, _, _, _, _, _, ?_, rfl⟩
                 exact ⟨_, _, _, m, Lib.hid ⟨HS7.out, HT7.out, HQ.out, HLt.out⟩⟩)
          case measure =>
            have q1 := HS7.out.posOf
            have q2 := HR.out.1.posOf
            have q3 := HS7.out.pos
            simp only [waitP, adv] at q1 q3
            rw [q1, q2]
            omega
        | false =>
          have HS5 := Lib.hid (show TSt (Bx A w.heap.size w1.heap.size) N w5 wa wn wc ws v2 s2 ms2 from HS5.out)
          have HOp4 := Lib.hid (HOp3.out.trans (if_neg (fun hh => by rw [← HB3.out] at hh; cases hh)))
          go_wp2_with fail
          refine (word_any _ N _ wa wn wc ws v2 s2 ms2 HS5.out HZ.out).mono ?_
          rintro e w6 ⟨pv, v7, ms7, rfl, ⟨sa, sc, rfl, hrg, hel⟩, hs7, ht7⟩
          have HAdv := Lib.hid (wordP_adv (nm := nmB) (ws := ws) (s := s2))
          obtain ⟨r, hr⟩ : ∃ r, r = wordP nmB ws s2 := ⟨_, rfl⟩
          rw [← hr] at hrg hel hs7 HOp4 HAdv ⊢
          obtain ⟨p, wh, ok, s7⟩ := r
          dsimp only at hrg hel hs7 HOp4 HAdv ⊢
          rw [ptX_arr]
          have hsz6 : w1.heap.size ≤ w5.heap.size := HT5.out.below.size
          have HS7 := Lib.hid (hs7.mono (fun b hb _ => Bx.aft hsz6 b hb))
          have HEl := Lib.hid (hel.mono (Q' := TQ (Bx A w.heap.size w1.heap.size) N v7) (fun b hb _ => ⟨Bx.aft hsz6 b hb.1, hb.2⟩))
          have HT7 := Lib.hid (HT5.out.trans ht7)
          have HRg := Lib.hid hrg
          clear hrg hel hs7 ht7 hr hsz6
          go_upto_region 2 with (fail)
          have hB68 := bel0 (.cells (ptX p sa sc).toArray 202) (Below.refl w6.heap.size w6)
          have hx8 := Go.heap_alloc_new w6 (.cells (ptX p sa sc).toArray 202 (0, 0))
          rw [ptX_arr] at hB68 hx8
          generalize (w6.alloc (.cells #[.int .i64 p.e.kind, .string p.e.op, .int .i64 p.e.vk, .int .i64 p.e.vn, .string p.e.vs, .string p.e.tab, .string p.e.col, .slice sa p.e.parts.length sc, .int .i64 p.lv, .int .i64 p.dp] 202)) = w8 at *
          have HS8 := Lib.hid (HS7.out.below hB68)
          have HE8 := Lib.hid (HEl.out.keep hB68)
          have HT8 := Lib.hid (HT7.out.trans (.of_below hB68 (Nat.le_of_lt HS7.out.low)))
          by_cases hst : wh = true ∨ ok = false
          · have HQ := Lib.hid (show o0 = (p, ok, s7) by rw [HOp4.out, if_pos hst])
            have hR := HBX.out w8 v7 HT8.out
            obtain ⟨r0, r1, r2, r3, r4, r5, r6, r7, r8, r9, rz, rN⟩ := row10 hR
            obtain ⟨p0, p1, p2, p3, p4, p5, p6, p7, p8, p9, -, pN⟩ := row10 hx8
            have HFin := Lib.hid (part_done HS8.out hR HLow.out HnB.out (HT1.out.trans HT8.out) (Nat.le_refl _) HSub.out p sa sc HRg.out HE8.out)
            clear hR hx8 hB68
            have hst2 : (wh = true ∧ ok = ok) ∨ (wh = false ∧ ok = false) := by
              cases wh
              · exact .inr ⟨rfl, hst.elim (fun h => by cases h) id⟩
              · exact .inl ⟨rfl, rfl⟩
            clear hst
            rcases hst2 with ⟨rfl, -⟩ | ⟨rfl, rfl⟩
            all_goals
              go_wp2
              refine bodyPost_ret (results_pt2 rfl _ _ w.heap.size _ _ _ _ _ _ _ _ _ _ rfl HFin.out.1) rfl ?_
              rw [HQ.out]
              exact ⟨_, v7, ms7, rfl, HFin.out.2.1, HFin.out.2.2.1, HFin.out.2.2.2⟩
          · obtain ⟨rfl, rfl⟩ : wh = false ∧ ok = true := by
              cases wh <;> cases ok <;> simp at hst ⊢
            have HQ := Lib.hid (show o0 = operP nmB ws m s7 by rw [HOp4.out]; simp)
            have HA := Lib.hid (HAdv.out rfl rfl)
            have HLt := Lib.hid (show ws.length < s7.pos + m by have := HR.out.2.2.2; have := HA.out; omega)
            clear hx8 hB68 hst
            go_wp2
            go_roundw
            case rel =>
              first
                | exact ⟨_, _, _, m, Lib.hid ⟨HS8.out, HT8.out, HQ.out, HLt.out⟩⟩
                | (refine ⟨_, _, _, _, _, _, _, _, _, _, _, _, _, _, _, _, _, _, _, _, _, _, _, _, _, _, _, _, _, _, _, _, _, _, _, _, _, _, _, _, _, _, _, _, ?_, rfl⟩
                   exact ⟨_, _, _, m, Lib.hid ⟨HS8.out, HT8.out, HQ.out, HLt.out⟩⟩)
            case measure =>
              have q1 := HS8.out.posOf
              have q2 := HR.out.1.posOf
              have q3 := HS8.out.pos
              have q4 := HA.out
              rw [q1, q2]
              omega
end Go.Proofs.YtknhphcfcpjhiaaGreatDoor
