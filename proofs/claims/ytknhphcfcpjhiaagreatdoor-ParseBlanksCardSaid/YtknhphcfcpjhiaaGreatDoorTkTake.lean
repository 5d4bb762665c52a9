/- The package's taker: take. Written by gentkt.py. -/
import Derived.Test.YtknhphcfcpjhiaaGreatDoorTkRel
import Derived.Test.YtknhphcfcpjhiaaGreatDoorTkWord
namespace Go.Proofs.YtknhphcfcpjhiaaGreatDoor
open Go.RowKit
set_option linter.unusedVariables false
set_option linter.unusedSimpArgs false
set_option maxRecDepth 100000
/-- take: what it answers -/
def takeA (ws : List Wd) (s : Tk) : Pt × Bool × Tk := takeP nmB ws (2 * ws.length + 2) (operP nmB ws (ws.length + 1) s).1 (operP nmB ws (ws.length + 1) s).2.1 (operP nmB ws (ws.length + 1) s).2.2
set_option maxHeartbeats 51200000 in
theorem take_any (A : Nat → Prop) (N : Nat) (w : World) (wa : Option Addr) (wn wc : Nat) (ws : List Wd) (v : Value) (s : Tk) (ms : List PM) (h : TSt A N w wa wn wc ws v s ms) (hz : WsOk ws) (hi : PInv s) :
    Calls Tryz.prog 146 #[.pointer (some ⟨N, 0, none⟩)] w (PartP A N w wa wn wc ws v (takeA ws s)) := by
  have HZ := Lib.hid hz
  have HI := Lib.hid hi
  have H0 := Lib.hid h
  have hlow := h.low
  have HLn := Lib.hid h.words.1
  have hB1 := bel0 (.cells #[.int .i64 0, .string ⟨#[]⟩, .int .i64 0, .int .i64 0, .string ⟨#[]⟩, .string ⟨#[]⟩, .string ⟨#[]⟩, .slice none 0 0, .int .i64 0, .int .i64 0] 202) (Below.refl w.heap.size w)
  have HX := Lib.hid (Go.heap_alloc_new w (.cells #[.int .i64 0, .string ⟨#[]⟩, .int .i64 0, .int .i64 0, .string ⟨#[]⟩, .string ⟨#[]⟩, .string ⟨#[]⟩, .slice none 0 0, .int .i64 0, .int .i64 0] 202 (0, 0)))
  have HSz := Lib.hid (show (w.alloc (.cells #[.int .i64 0, .string ⟨#[]⟩, .int .i64 0, .int .i64 0, .string ⟨#[]⟩, .string ⟨#[]⟩, .string ⟨#[]⟩, .slice none 0 0, .int .i64 0, .int .i64 0] 202)).heap.size = w.heap.size + 1 by simp)
  clear h hz hi
  obtain ⟨o0, ho0⟩ : ∃ o, o = takeA ws s := ⟨_, rfl⟩
  have HO0 := Lib.hid ho0
  rw [← ho0]
  clear ho0
  go_enter Tryz.func146, Tryz.ntmps146
  go_upto_region 1 with (fail)
  generalize (w.alloc (.cells #[.int .i64 0, .string ⟨#[]⟩, .int .i64 0, .int .i64 0, .string ⟨#[]⟩, .string ⟨#[]⟩, .string ⟨#[]⟩, .slice none 0 0, .int .i64 0, .int .i64 0] 202)) = w1 at *
  have HT1 := Lib.hid (TTo.of_below (v := v) hB1 (Nat.le_of_lt hlow))
  have HS1 := Lib.hid ((H0.out.enter w1.heap.size).below hB1)
  have HnB := Lib.hid (show ¬ Bx A w.heap.size w1.heap.size w.heap.size from fun hb => hb.elim (fun h => Nat.lt_irrefl _ h.2) (fun h => by have := HSz.out; omega))
  have HSub := Lib.hid (Bx.sub (A := A) (H := w.heap.size) (H1 := w1.heap.size) (by have := HSz.out; omega))
  have HLow := Lib.hid hlow
  clear hB1 hlow
  go_wp2_with fail
  refine (operand_any _ N _ wa wn wc ws v s ms HS1.out HZ.out).mono ?_
  rintro e w2 ⟨pv, v2, ms2, rfl, ⟨sa, sc, rfl, hrg, hel⟩, hs2, ht2⟩
  have hres := operP_inv HZ.out nmB (ws.length + 1) HI.out
  have hOq : o0 = takeP nmB ws (2 * ws.length + 2) (operP nmB ws (ws.length + 1) s).1 (operP nmB ws (ws.length + 1) s).2.1 (operP nmB ws (ws.length + 1) s).2.2 := HO0.out
  obtain ⟨r, hr⟩ : ∃ r, r = operP nmB ws (ws.length + 1) s := ⟨_, rfl⟩
  rw [← hr] at hrg hel hs2 hres hOq ⊢
  obtain ⟨p, ok, s2⟩ := r
  dsimp only at hrg hel hs2 hres hOq ⊢
  rw [ptX_arr]
  have hsz1 : w1.heap.size ≤ w2.heap.size := ht2.below.size
  have hs2' := hs2.mono (fun b hb _ => Bx.aft (Nat.le_refl _) b hb)
  have hel' := hel.mono (Q' := TQ (Bx A w.heap.size w1.heap.size) N v2) (fun b hb _ => ⟨Bx.aft (Nat.le_refl _) b hb.1, hb.2⟩)
  obtain ⟨w3, hw3⟩ : ∃ w3, w3 = w2.alloc (.cells #[.int .i64 p.e.kind, .string p.e.op, .int .i64 p.e.vk, .int .i64 p.e.vn, .string p.e.vs, .string p.e.tab, .string p.e.col, .slice sa p.e.parts.length sc, .int .i64 p.lv, .int .i64 p.dp] 202) := ⟨_, rfl⟩
  have hB23 : Below w2.heap.size w2 w3 := by rw [hw3]; exact bel0 _ (Below.refl _ _)
  have hx3 : w3.heap[w2.heap.size]? = some (.cells #[.int .i64 p.e.kind, .string p.e.op, .int .i64 p.e.vk, .int .i64 p.e.vn, .string p.e.vs, .string p.e.tab, .string p.e.col, .slice sa p.e.parts.length sc, .int .i64 p.lv, .int .i64 p.dp] 202 (0, 0)) := by rw [hw3]; exact Go.heap_alloc_new w2 _
  have hz3 : w3.heap.size = w2.heap.size + 1 := by rw [hw3]; simp
  have HW3 := Lib.hid hw3
  have hRx := (TTo.box H0.out ht2 (R := w.heap.size) (Nat.le_refl _) (by have := HSz.out; omega)).trans HX.out
  have HPl := Lib.hid (show TkPl (Bx (Bx A w.heap.size w1.heap.size) w2.heap.size w3.heap.size) N w w.heap.size w2.heap.size w3.heap.size from
    ⟨HLow.out, by have := hs2'.low; omega, fun hb => hb.elim (fun h => HnB.out h.1) (fun h => by have := HSz.out; omega), fun hb => hb.elim (fun h => Nat.lt_irrefl _ h.2) (fun h => by omega), by have := HSz.out; omega, Nat.le_refl _, by have := HSz.out; omega, fun H2 hH b hb => Bx.aft hH b hb, fun b hb => .inr hb⟩)
  have HSubB := Lib.hid (show ∀ b, Bx (Bx A w.heap.size w1.heap.size) w2.heap.size w3.heap.size b → Aft A w.heap.size b from fun b hb => hb.elim (fun h => HSub.out b h.1) (fun h => .inr (by have := HSz.out; omega)))
  have T12 := HT1.out.trans ht2
  have hf0 : 2 * (wn : Int) < mu s2 + ((2 * ws.length + 2 : Nat) : Int) := by
    have h1 := hres.2.1
    have h2 := HI.out.few
    have h3 := HLn.out
    have h4 : 0 ≤ mu s := (by unfold mu; omega)
    omega
  have HR0 := Lib.hid (show TkRel (Bx (Bx A w.heap.size w1.heap.size) w2.heap.size w3.heap.size) N w wa wn wc ws v w.heap.size w2.heap.size w3.heap.size o0 ok w3 v2 s2 ms2 (2 * ws.length + 2) p sa sc from
    ⟨(hs2'.enter w3.heap.size).below hB23, T12.trans (.of_below hB23 (Nat.le_of_lt hs2'.low)), (hB23.block _ (by have := HSz.out; omega)).trans hRx, hx3, hrg, (hel'.mono (Q' := TQ (Bx (Bx A w.heap.size w1.heap.size) w2.heap.size w3.heap.size) N v2) (fun b hb hlt => ⟨.inl ⟨hb.1, hlt⟩, hb.2⟩)).keep hB23, hres.1, hres.2.2, hOq, hf0, Nat.le_refl _⟩)
  clear hf0 hrg hel hs2 hres hOq hr hs2' hel' hB23 hx3 hRx T12 ht2 hw3
  go_wp2_with fail
  rw [← HW3.out]
  obtain ⟨B, hB⟩ : ∃ B, B = Bx (Bx A w.heap.size w1.heap.size) w2.heap.size w3.heap.size := ⟨_, rfl⟩
  rw [← hB] at HPl HSubB HR0
  obtain ⟨L, hL⟩ : ∃ L, L = w2.heap.size := ⟨_, rfl⟩
  obtain ⟨H, hH⟩ : ∃ H, H = w3.heap.size := ⟨_, rfl⟩
  rw [← hL] at HPl HR0 ⊢
  rw [← hH] at HPl HR0
  clear hB hL hH HW3 hz3 hsz1
  go_loopw [5] (fun okv wr => ∃ (okb : Bool) (v1 : Value) (s1 : Tk) (ms1 : List PM) (n : Nat) (l : Pt) (la : Option Addr) (lc : Nat), okv = .bool okb ∧ Hid (TkRel B N w wa wn wc ws v w.heap.size L H o0 okb wr v1 s1 ms1 n l la lc)) (fun _ wr => tkM N wn wr)
  case atStart => exact ⟨ok, _, _, _, _, _, _, _, rfl, HR0⟩
  case round =>
    obtain ⟨okb, v1, s1, ms1, n, l, la, lc, rfl, HR⟩ := hrel
    cases okb with
    | false =>
      have HQ := Lib.hid (show o0 = (zPt, false, s1) by rw [HR.out.eq, takeP_false])
      obtain ⟨r0, r1, r2, r3, r4, r5, r6, r7, r8, r9, rz, rN⟩ := row10 HR.out.res
      have HFin := Lib.hid (part_done HR.out.st HR.out.res HLow.out HPl.out.bR HR.out.tt (Nat.le_refl _) HSubB.out zPt none 0 prg_zero (.nil none))
      go_wp2
      refine bodyPost_ret (results_pt2 rfl _ _ w.heap.size _ _ _ _ _ _ _ _ _ _ rfl HFin.out.1) rfl ?_
      rw [HQ.out]
      exact ⟨_, v1, ms1, rfl, HFin.out.2.1, HFin.out.2.2.1, HFin.out.2.2.2⟩
    | true =>
      obtain ⟨m, rfl⟩ : ∃ m, n = m + 1 := ⟨n - 1, by
        have h1 := HR.out.fuel
        have h2 := HR.out.st.pos
        have h3 : mu s1 ≤ 2 * (s1.pos : Int) := by unfold mu; omega
        omega⟩
      have HEq := Lib.hid (show o0 = (if s1.least ≤ (optrP ws s1).2 ∧ leftL (optrP ws s1).2 ≤ l.lv ∧ (optrP ws s1).1 = [73, 83] then takeP nmB ws m (testP ws l (adv s1)).1 (testP ws l (adv s1)).2.1 (testP ws l (adv s1)).2.2 else if s1.least ≤ (optrP ws s1).2 ∧ leftL (optrP ws s1).2 ≤ l.lv then takeP nmB ws m (operP nmB ws (ws.length + 1) (waitP (adv s1) ⟨4, bs (optrP ws s1).1, (optrP ws s1).2, [l], false, 0⟩ ((optrP ws s1).2 + 1))).1 (operP nmB ws (ws.length + 1) (waitP (adv s1) ⟨4, bs (optrP ws s1).1, (optrP ws s1).2, [l], false, 0⟩ ((optrP ws s1).2 + 1))).2.1 (operP nmB ws (ws.length + 1) (waitP (adv s1) ⟨4, bs (optrP ws s1).1, (optrP ws s1).2, [l], false, 0⟩ ((optrP ws s1).2 + 1))).2.2 else match s1.op.getLast? with | none => (l, true, s1) | some p => takeP nmB ws m (closeP ws l s1 p s1.op.dropLast).1 (closeP ws l s1 p s1.op.dropLast).2.1 (closeP ws l s1 p s1.op.dropLast).2.2) from HR.out.eq)
      go_wp2_with fail
      refine (operator_any _ N _ wa wn wc ws v1 s1 ms1 HR.out.st).mono ?_
      rintro e w5 ⟨rfl, hs5, ht5⟩
      have HR5 := Lib.hid (HR.out.same HPl.out hs5 ht5)
      have HMu := Lib.hid HR.out.st.tkM
      have HOl := Lib.hid (optrP_le ws s1)
      have HOp := Lib.hid (optrP_pos (ws := ws) (s := s1))
      have HOs := Lib.hid (show (optrP ws s1).1.length ≤ 140737488355328 by
        unfold optrP
        split
        · exact Nat.zero_le _
        · dsimp only
          split
          · split
            · exact (HZ.out _).1
            · split
              · exact (HZ.out _).1
              · exact Nat.zero_le _
          · split
            · exact (HZ.out _).1
            · exact Nat.zero_le _)
      obtain ⟨o, ho⟩ : ∃ o, o = optrP ws s1 := ⟨_, rfl⟩
      rw [← ho] at HEq HOl HOp HOs ⊢
      obtain ⟨t, lv⟩ := o
      dsimp only at HEq HOl HOp HOs ⊢
      obtain ⟨x, hx⟩ : ∃ x, x = bs t := ⟨_, rfl⟩
      have HXx := Lib.hid hx
      have hxl : x.toList = t := by rw [hx, bs_list]
      rw [← hx]
      clear hs5 ht5 ho hx
      obtain ⟨-, -, c2, c3, -⟩ := HR5.out.st.cells
      have hN5 := HR5.out.st.low
      obtain ⟨-, -, -, -, -, -, -, -, l8, -, -, lN⟩ := row10 HR5.out.box
      have f2 := Fut.cell c2
      have f8 := Fut.cell l8
      clear c2 c3 l8
      by_cases hA : s1.least ≤ lv
      · have hA2 : decide (lv ≥ s1.least) = true := decide_eq_true hA
        by_cases hB : leftL lv ≤ l.lv
        · have hB2 : decide (l.lv ≥ leftL lv) = true := decide_eq_true hB
          have HPos := Lib.hid (HOp.out (by have := HR.out.inv.least.2; omega))
          by_cases hC : t = [73, 83]
          · have hC2 : (x.toList == [73, 83]) = true := by rw [hxl]; simp [hC]
            have HQ := Lib.hid (show o0 = takeP nmB ws m (testP ws l (adv s1)).1 (testP ws l (adv s1)).2.1 (testP ws l (adv s1)).2.2 by rw [HEq.out, if_pos ⟨hA, hB, hC⟩])
            clear hC hxl
            go_upto_region 5 with (fail)
            refine wp_region_fut (by kernel_rfl) (by kernel_rfl) ?_
            repeat (go_big_quiet_step ((go_at_call 166; exact calls_fut ((leftLevel_any _ _).mono (fun _ _ ⟨h1, h2⟩ => ⟨h1, h2 ▸ Below.refl _ _⟩)))))
            refine wpQuiet_nil ?_
            rintro _ ⟨s9, rfl⟩
            have HR6 := Lib.hid (HR5.out.same HPl.out (HR5.out.st.below s9.bel) (.of_below s9.bel (Nat.le_of_lt HR5.out.st.low)))
            generalize s9.to = w6 at *
            clear s9 f2 f8
            obtain ⟨-, c1, c2, c3, cz⟩ := HR6.out.st.cells
            have hN6 := HR6.out.st.low
            obtain ⟨l0, l1, l2, l3, l4, l5, l6, l7, l8, l9, lz, lN⟩ := row10 HR6.out.box
            have hps := HPos.out
            have hln := HLn.out
            have hps2 : s1.pos < wn := by omega
            have HSa := Lib.hid (HR6.out.st.adv hps2 ((s1.pos : Int) + 1) rfl)
            have HTa := Lib.hid ((TTo.refl N v1 w6).setN 1 (.int .i64 ((s1.pos : Int) + 1)))
            have hwn : wn ≤ 100000 := HR6.out.st.words.2.1
            have hw0 : s1.pos ≤ 100000 := by omega
            clear hps hwn hln l0 l1 l2 l3 l4 l5 l6 l7 l8 l9 lz lN
            obtain ⟨hw1, hw2⟩ := wrp1 s1.pos hw0
            clear hw0
            go_upto_region 7 with (fail)
            generalize (w6.setCell ⟨N, 1, none⟩ (.int .i64 ((s1.pos : Int) + 1))) = w7 at *
            have HBxs := Lib.hid (HR6.out.boxes HPl.out HTa.out)
            obtain ⟨l0, l1, l2, l3, l4, l5, l6, l7, l8, l9, lz, lN⟩ := row10 HBxs.out.2.1
            clear c1 c2 c3 cz hN6 hw1 hw2 hps2
            have HInv := Lib.hid (testP_inv (ws := ws) (l := l) HR.out.inv (HR.out.dp rfl))
            go_wp2_with fail
            refine (test_any _ N _ wa wn wc ws v1 (adv s1) ms1 HSa.out l _ ⟨la, lc, rfl, HR.out.rg, HBxs.out.2.2⟩ (dp_few HR.out.st (HR.out.dp rfl))).mono ?_
            rintro e w8 ⟨pv, v8, ms8, rfl, ⟨sa, sc, rfl, hrg, hel⟩, hs8, ht8⟩
            obtain ⟨r, hr⟩ : ∃ r, r = testP ws l (adv s1) := ⟨_, rfl⟩
            rw [← hr] at hrg hel hs8 HInv HQ ⊢
            obtain ⟨p, ok2, s8⟩ := r
            dsimp only at hrg hel hs8 HInv HQ ⊢
            rw [ptX_arr]
            have HTt := Lib.hid (HTa.out.trans ht8)
            have HInc := Lib.hid (show mu s1 < mu s8 from HInv.out.2)
            clear ht8 hr l0 l1 l2 l3 l4 l5 l6 l7 l8 l9 lz lN
            have HNx := Lib.hid (HR6.out.next (n2 := m) HPl.out hs8 HTt.out HTa.out.below.size hrg hel HInv.out.1.1 HInv.out.1.2.2 HQ.out (by have h1 := HR.out.fuel; have h2 := HInc.out; omega))
            obtain ⟨l0, l1, l2, l3, l4, l5, l6, l7, l8, l9, lz, lN⟩ := row10 (HR6.out.boxes HPl.out HTt.out).2.1
            have HM2 := Lib.hid HNx.out.st.tkM
            clear hrg hel hs8
            go_wp2
            go_roundw
            case rel => first | exact ⟨_, _, _, _, m, _, _, _, rfl, HNx⟩ | (refine ⟨_, _, _, _, _, _, _, _, _, _, _, _, _, _, _, _, _, _, _, _, _, _, _, _, _, _, _, _, _, _, _, _, _, _, _, _, _, _, _, _, _, _, _, _, _, _, _, _, _, _, _, _, _, _, _, _, _, _, _, _, _, _, _, _, _, _, _, _, _, _, _, _, _, _, _, _, _, _, _, _, _, _, _, _, _, _, _, _, _, _, ?_, rfl⟩; exact ⟨_, _, _, _, m, _, _, _, rfl, HNx⟩)
            case measure =>
              have q1 := HMu.out
              have q2 := HM2.out
              have q3 := HInc.out
              have q4 : tkM N wn (setLe w8 L 0 (ptX p sa sc)) < tkM N wn wr := by omega
              exact q4
          · have hC2 : (x.toList == [73, 83]) = false := by rw [hxl]; exact beq_eq_false_iff_ne.2 hC
            have HQ := Lib.hid (HEq.out.trans ((if_neg (fun h => hC h.2.2)).trans (if_pos ⟨hA, hB⟩)))
            clear hC hxl
            go_upto_region 5 with (fail)
            refine wp_region_fut (by kernel_rfl) (by kernel_rfl) ?_
            repeat (go_big_quiet_step ((go_at_call 166; exact calls_fut ((leftLevel_any _ _).mono (fun _ _ ⟨h1, h2⟩ => ⟨h1, h2 ▸ Below.refl _ _⟩)))))
            refine wpQuiet_nil ?_
            rintro _ ⟨s9, rfl⟩
            have HR6 := Lib.hid (HR5.out.same HPl.out (HR5.out.st.below s9.bel) (.of_below s9.bel (Nat.le_of_lt HR5.out.st.low)))
            generalize s9.to = w6 at *
            clear s9 f2 f8
            obtain ⟨-, c1, c2, c3, cz⟩ := HR6.out.st.cells
            have hN6 := HR6.out.st.low
            obtain ⟨l0, l1, l2, l3, l4, l5, l6, l7, l8, l9, lz, lN⟩ := row10 HR6.out.box
            have f2 := Fut.cell c2
            have f8 := Fut.cell l8
            clear c1 c2 c3 cz l0 l1 l2 l3 l4 l5 l6 l7 l8 l9 lz
            go_upto_region 8 with (fail)
            refine wp_region_fut (by kernel_rfl) (by kernel_rfl) ?_
            repeat (go_big_quiet_step ((go_at_call 166; exact calls_fut ((leftLevel_any _ _).mono (fun _ _ ⟨h1, h2⟩ => ⟨h1, h2 ▸ Below.refl _ _⟩)))))
            refine wpQuiet_nil ?_
            rintro _ ⟨s9, rfl⟩
            have HR7 := Lib.hid (HR6.out.same HPl.out (HR6.out.st.below s9.bel) (.of_below s9.bel (Nat.le_of_lt HR6.out.st.low)))
            generalize s9.to = w6b at *
            clear s9 f2 f8
            obtain ⟨-, c1, c2, c3, cz⟩ := HR7.out.st.cells
            have hN6 := HR7.out.st.low
            obtain ⟨l0, l1, l2, l3, l4, l5, l6, l7, l8, l9, lz, lN⟩ := row10 HR7.out.box
            have hps := HPos.out
            have hln := HLn.out
            have hps2 : s1.pos < wn := by omega
            have HSa := Lib.hid (HR7.out.st.adv hps2 ((s1.pos : Int) + 1) rfl)
            have HTa := Lib.hid ((TTo.refl N v1 w6b).setN 1 (.int .i64 ((s1.pos : Int) + 1)))
            have hwn : wn ≤ 100000 := HR7.out.st.words.2.1
            have hw0 : s1.pos ≤ 100000 := by omega
            clear hps hwn hln l0 l1 l2 l3 l4 l5 l6 l7 l8 l9 lz lN
            obtain ⟨hw1, hw2⟩ := wrp1 s1.pos hw0
            clear hw0
            go_upto_region 10 with (fail)
            generalize (w6b.setCell ⟨N, 1, none⟩ (.int .i64 ((s1.pos : Int) + 1))) = w7 at *
            have HBxs := Lib.hid (HR7.out.boxes HPl.out HTa.out)
            obtain ⟨l0, l1, l2, l3, l4, l5, l6, l7, l8, l9, lz, lN⟩ := row10 HBxs.out.2.1
            clear c1 c2 c3 cz hN6 hw1 hw2 hps2
            have hlv := HOl.out
            have hlv2 : 0 ≤ lv ∧ lv ≤ 100000 := by omega
            have HInL := Lib.hid (show InR (lv + 1) ∧ 1 ≤ lv + 1 by unfold InR; omega)
            have HIw := Lib.hid (HR.out.inv.wait (p := ⟨4, bs t, lv, [l], false, 0⟩) (l := lv + 1) HInL.out ⟨fun q hq => by obtain rfl := List.mem_singleton.1 hq; exact HR.out.dp rfl, rfl, bs_size HOs.out, by show InR lv; unfold InR; omega⟩)
            have HInv := Lib.hid (operP_inv HZ.out nmB (ws.length + 1) HIw.out)
            rw [← HXx.out] at HQ HIw HInv
            obtain ⟨hw3, hw4⟩ := wrpI lv hlv2
            clear hlv hlv2
            go_wp2_with fail
            refine (wait_one 4 x lv l la lc (lv + 1) HInL.out.1 _ N w7 wa wn wc ws v1 (adv s1) ms1 HSa.out (HPl.out.mem _ (Nat.le_trans HR7.out.size HTa.out.below.size)) HR.out.rg HBxs.out.2.2 (Nat.succ_le_succ HR.out.inv.few)).mono ?_
            rintro e w7b ⟨rfl, v7, hs7, ht7⟩
            have HS7 := Lib.hid hs7
            have HT7 := Lib.hid ((HTa.out.trans (.of_below (bel0 (.cells (ptX l la lc).toArray 202) (Below.refl w7.heap.size w7)) (Nat.le_of_lt HSa.out.low))).trans ht7)
            clear hs7 ht7 l0 l1 l2 l3 l4 l5 l6 l7 l8 l9 lz lN hw3 hw4
            go_wp2_with fail
            refine (operand_any _ N _ wa wn wc ws v7 _ _ HS7.out HZ.out).mono ?_
            rintro e w8 ⟨pv, v8, ms8, rfl, ⟨sa, sc, rfl, hrg, hel⟩, hs8, ht8⟩
            have HMw := Lib.hid (mu_wait s1 ⟨4, x, lv, [l], false, 0⟩ (lv + 1))
            obtain ⟨r, hr⟩ : ∃ r, r = operP nmB ws (ws.length + 1) (waitP (adv s1) ⟨4, x, lv, [l], false, 0⟩ (lv + 1)) := ⟨_, rfl⟩
            rw [← hr] at hrg hel hs8 HInv HQ ⊢
            obtain ⟨p, ok2, s8⟩ := r
            dsimp only at hrg hel hs8 HInv HQ ⊢
            rw [ptX_arr]
            have HTt := Lib.hid (HT7.out.trans ht8)
            have HInc := Lib.hid (show mu s1 < mu s8 by have h1 := HInv.out.2.1; have h2 := HMw.out; omega)
            clear ht8 hr
            have HNx := Lib.hid (HR7.out.next (n2 := m) HPl.out hs8 HTt.out HT7.out.below.size hrg hel HInv.out.1 HInv.out.2.2 HQ.out (by have h1 := HR.out.fuel; have h2 := HInc.out; omega))
            obtain ⟨l0, l1, l2, l3, l4, l5, l6, l7, l8, l9, lz, lN⟩ := row10 (HR7.out.boxes HPl.out HTt.out).2.1
            have HM2 := Lib.hid HNx.out.st.tkM
            clear hrg hel hs8
            go_wp2
            go_roundw
            case rel => first | exact ⟨_, _, _, _, m, _, _, _, rfl, HNx⟩ | (refine ⟨_, _, _, _, _, _, _, _, _, _, _, _, _, _, _, _, _, _, _, _, _, _, _, _, _, _, _, _, _, _, _, _, _, _, _, _, _, _, _, _, _, _, _, _, _, _, _, _, _, _, _, _, _, _, _, _, _, _, _, _, _, _, _, _, _, _, _, _, _, _, _, _, _, _, _, _, _, _, _, _, _, _, _, _, _, _, _, _, _, _, ?_, rfl⟩; exact ⟨_, _, _, _, m, _, _, _, rfl, HNx⟩)
            case measure =>
              have q1 := HMu.out
              have q2 := HM2.out
              have q3 := HInc.out
              have q4 : tkM N wn (setLe w8 L 0 (ptX p sa sc)) < tkM N wn wr := by omega
              exact q4
        · have hB2 : decide (l.lv ≥ leftL lv) = false := decide_eq_false hB
          have HQ := Lib.hid (HEq.out.trans ((if_neg (fun h => hB h.2.1)).trans (if_neg (fun h => hB h.2))))
          clear hxl
          go_upto_region 5 with (fail)
          refine wp_region_fut (by kernel_rfl) (by kernel_rfl) ?_
          repeat (go_big_quiet_step ((go_at_call 166; exact calls_fut ((leftLevel_any _ _).mono (fun _ _ ⟨h1, h2⟩ => ⟨h1, h2 ▸ Below.refl _ _⟩)))))
          refine wpQuiet_nil ?_
          rintro _ ⟨s9, rfl⟩
          have HR6 := Lib.hid (HR5.out.same HPl.out (HR5.out.st.below s9.bel) (.of_below s9.bel (Nat.le_of_lt HR5.out.st.low)))
          generalize s9.to = w6 at *
          clear s9 f2 f8
          obtain ⟨-, c1, c2, c3, cz⟩ := HR6.out.st.cells
          have hN6 := HR6.out.st.low
          obtain ⟨l0, l1, l2, l3, l4, l5, l6, l7, l8, l9, lz, lN⟩ := row10 HR6.out.box
          have f2 := Fut.cell c2
          have f8 := Fut.cell l8
          clear c1 c2 c3 cz l0 l1 l2 l3 l4 l5 l6 l7 l8 l9 lz
          go_upto_region 8 with (fail)
          refine wp_region_fut (by kernel_rfl) (by kernel_rfl) ?_
          repeat (go_big_quiet_step ((go_at_call 166; exact calls_fut ((leftLevel_any _ _).mono (fun _ _ ⟨h1, h2⟩ => ⟨h1, h2 ▸ Below.refl _ _⟩)))))
          refine wpQuiet_nil ?_
          rintro _ ⟨s9, rfl⟩
          have HR7 := Lib.hid (HR6.out.same HPl.out (HR6.out.st.below s9.bel) (.of_below s9.bel (Nat.le_of_lt HR6.out.st.low)))
          generalize s9.to = w6b at *
          clear s9 f2 f8
          obtain ⟨-, c1, c2, c3, cz⟩ := HR7.out.st.cells
          have hN6 := HR7.out.st.low
          obtain ⟨l0, l1, l2, l3, l4, l5, l6, l7, l8, l9, lz, lN⟩ := row10 HR7.out.box
          obtain ⟨va, vc, hv⟩ := own_sliceT HR7.out.st.own
          have c3' : w6b.cell? ⟨N, 3, none⟩ = some (.slice va ms1.length vc) := by rw [← hv]; exact c3
          clear c3
          rcases List.eq_nil_or_concat ms1 with hms | ⟨mr, dd, hms⟩
          · have hml : ((ms1.length : Int) == 0) = true := by simp [hms]
            have hop : s1.op = [] := by rw [← HR.out.st.are, hms]; rfl
            have HQ2 := Lib.hid (show o0 = (l, true, s1) by rw [HQ.out, hop]; rfl)
            obtain ⟨r0, r1, r2, r3, r4, r5, r6, r7, r8, r9, rz, rN⟩ := row10 HR7.out.res
            have HFin := Lib.hid (part_done HR7.out.st HR7.out.res HLow.out HPl.out.bR HR7.out.tt (Nat.le_refl _) HSubB.out l la lc HR7.out.rg HR7.out.el)
            clear hop hms hv
            go_wp2
            refine bodyPost_ret (results_pt2 rfl _ _ w.heap.size _ _ _ _ _ _ _ _ _ _ rfl HFin.out.1) rfl ?_
            rw [HQ2.out]
            exact ⟨_, v1, ms1, rfl, HFin.out.2.1, HFin.out.2.2.1, HFin.out.2.2.2⟩
          · obtain ⟨d, dl⟩ := dd
            have hml : ((ms1.length : Int) == 0) = false := by rw [hms]; simp; omega
            have hop : s1.op = mr.map (·.1) ++ [d] := by rw [← HR.out.st.are, hms]; simp
            have HQ2 := Lib.hid (show o0 = takeP nmB ws m (closeP ws l s1 d (mr.map (·.1))).1 (closeP ws l s1 d (mr.map (·.1))).2.1 (closeP ws l s1 d (mr.map (·.1))).2.2 by
              rw [HQ.out, hop]; simp)
            have hst := HR7.out.st
            rw [hms, List.concat_eq_append] at hst
            have HSt := Lib.hid hst
            have hd := HR.out.inv.all d (by rw [hop]; simp)
            have hone : d.left.length ≤ 1 := hst.one (d, dl) (by simp)
            have HInv := Lib.hid (closeP_inv (ws := ws) (l := l) HR.out.inv hop hone (HR.out.dp rfl))
            have HD := Lib.hid hd
            have HDq := Lib.hid (show ∀ q, d.left = [q] → q.dp < 1000000 from fun q hq => dp_few HR.out.st (HD.out.1 q (by rw [hq]; simp)))
            clear hop hms hv hst hd hone
            go_wp2_with fail
            refine (close_any _ N _ wa wn wc ws v1 s1 mr d dl HSt.out l _ ⟨la, lc, rfl, HR7.out.rg, HR7.out.el⟩ (dp_few HR.out.st (HR.out.dp rfl)) HDq.out HD.out.2.1 HD.out.2.2.1 HD.out.2.2.2.1 HD.out.2.2.2.2.1).mono ?_
            rintro e w8 ⟨pv, v8, ms8, rfl, ⟨sa, sc, rfl, hrg, hel⟩, hs8, ht8⟩
            obtain ⟨r, hr⟩ : ∃ r, r = closeP ws l s1 d (mr.map (·.1)) := ⟨_, rfl⟩
            rw [← hr] at hrg hel hs8 HInv HQ2 ⊢
            obtain ⟨p, ok2, s8⟩ := r
            dsimp only at hrg hel hs8 HInv HQ2 ⊢
            rw [ptX_arr]
            have HTt := Lib.hid ht8
            have HInc := Lib.hid (show mu s1 < mu s8 from HInv.out.2)
            clear ht8 hr l0 l1 l2 l3 l4 l5 l6 l7 l8 l9 lz lN c1 c2 c3' cz hN6
            have HNx := Lib.hid (HR7.out.next (n2 := m) HPl.out hs8 HTt.out (Nat.le_refl _) hrg hel HInv.out.1.1 HInv.out.1.2.2 HQ2.out (by have h1 := HR.out.fuel; have h2 := HInc.out; omega))
            obtain ⟨l0, l1, l2, l3, l4, l5, l6, l7, l8, l9, lz, lN⟩ := row10 (HR7.out.boxes HPl.out HTt.out).2.1
            have HM2 := Lib.hid HNx.out.st.tkM
            clear hrg hel hs8
            go_wp2
            go_roundw
            case rel => first | exact ⟨_, _, _, _, m, _, _, _, rfl, HNx⟩ | (refine ⟨_, _, _, _, _, _, _, _, _, _, _, _, _, _, _, _, _, _, _, _, _, _, _, _, _, _, _, _, _, _, _, _, _, _, _, _, _, _, _, _, _, _, _, _, _, _, _, _, _, _, _, _, _, _, _, _, _, _, _, _, _, _, _, _, _, _, _, _, _, _, _, _, _, _, _, _, _, _, _, _, _, _, _, _, _, _, _, _, _, _, ?_, rfl⟩; exact ⟨_, _, _, _, m, _, _, _, rfl, HNx⟩)
            case measure =>
              have q1 := HMu.out
              have q2 := HM2.out
              have q3 := HInc.out
              have q4 : tkM N wn (setLe w8 L 0 (ptX p sa sc)) < tkM N wn wr := by omega
              exact q4
      · have hA2 : decide (lv ≥ s1.least) = false := decide_eq_false hA
        have HQ := Lib.hid (HEq.out.trans ((if_neg (fun h => hA h.1)).trans (if_neg (fun h => hA h.1))))
        clear hxl
        go_upto_region 5 with (fail)
        refine wp_region_fut (by kernel_rfl) (by kernel_rfl) ?_
        repeat (go_big_quiet_step ((go_at_call 166; exact calls_fut ((leftLevel_any _ _).mono (fun _ _ ⟨h1, h2⟩ => ⟨h1, h2 ▸ Below.refl _ _⟩)))))
        refine wpQuiet_nil ?_
        rintro _ ⟨s9, rfl⟩
        have HR6 := Lib.hid (HR5.out.same HPl.out (HR5.out.st.below s9.bel) (.of_below s9.bel (Nat.le_of_lt HR5.out.st.low)))
        generalize s9.to = w6 at *
        clear s9 f2 f8
        obtain ⟨-, c1, c2, c3, cz⟩ := HR6.out.st.cells
        have hN6 := HR6.out.st.low
        obtain ⟨l0, l1, l2, l3, l4, l5, l6, l7, l8, l9, lz, lN⟩ := row10 HR6.out.box
        have f2 := Fut.cell c2
        have f8 := Fut.cell l8
        clear c1 c2 c3 cz l0 l1 l2 l3 l4 l5 l6 l7 l8 l9 lz
        go_upto_region 8 with (fail)
        refine wp_region_fut (by kernel_rfl) (by kernel_rfl) ?_
        repeat (go_big_quiet_step ((go_at_call 166; exact calls_fut ((leftLevel_any _ _).mono (fun _ _ ⟨h1, h2⟩ => ⟨h1, h2 ▸ Below.refl _ _⟩)))))
        refine wpQuiet_nil ?_
        rintro _ ⟨s9, rfl⟩
        have HR7 := Lib.hid (HR6.out.same HPl.out (HR6.out.st.below s9.bel) (.of_below s9.bel (Nat.le_of_lt HR6.out.st.low)))
        generalize s9.to = w6b at *
        clear s9 f2 f8
        obtain ⟨-, c1, c2, c3, cz⟩ := HR7.out.st.cells
        have hN6 := HR7.out.st.low
        obtain ⟨l0, l1, l2, l3, l4, l5, l6, l7, l8, l9, lz, lN⟩ := row10 HR7.out.box
        obtain ⟨va, vc, hv⟩ := own_sliceT HR7.out.st.own
        have c3' : w6b.cell? ⟨N, 3, none⟩ = some (.slice va ms1.length vc) := by rw [← hv]; exact c3
        clear c3
        rcases List.eq_nil_or_concat ms1 with hms | ⟨mr, dd, hms⟩
        · have hml : ((ms1.length : Int) == 0) = true := by simp [hms]
          have hop : s1.op = [] := by rw [← HR.out.st.are, hms]; rfl
          have HQ2 := Lib.hid (show o0 = (l, true, s1) by rw [HQ.out, hop]; rfl)
          obtain ⟨r0, r1, r2, r3, r4, r5, r6, r7, r8, r9, rz, rN⟩ := row10 HR7.out.res
          have HFin := Lib.hid (part_done HR7.out.st HR7.out.res HLow.out HPl.out.bR HR7.out.tt (Nat.le_refl _) HSubB.out l la lc HR7.out.rg HR7.out.el)
          clear hop hms hv
          go_wp2
          refine bodyPost_ret (results_pt2 rfl _ _ w.heap.size _ _ _ _ _ _ _ _ _ _ rfl HFin.out.1) rfl ?_
          rw [HQ2.out]
          exact ⟨_, v1, ms1, rfl, HFin.out.2.1, HFin.out.2.2.1, HFin.out.2.2.2⟩
        · obtain ⟨d, dl⟩ := dd
          have hml : ((ms1.length : Int) == 0) = false := by rw [hms]; simp; omega
          have hop : s1.op = mr.map (·.1) ++ [d] := by rw [← HR.out.st.are, hms]; simp
          have HQ2 := Lib.hid (show o0 = takeP nmB ws m (closeP ws l s1 d (mr.map (·.1))).1 (closeP ws l s1 d (mr.map (·.1))).2.1 (closeP ws l s1 d (mr.map (·.1))).2.2 by
            rw [HQ.out, hop]; simp)
          have hst := HR7.out.st
          rw [hms, List.concat_eq_append] at hst
          have HSt := Lib.hid hst
          have hd := HR.out.inv.all d (by rw [hop]; simp)
          have hone : d.left.length ≤ 1 := hst.one (d, dl) (by simp)
          have HInv := Lib.hid (closeP_inv (ws := ws) (l := l) HR.out.inv hop hone (HR.out.dp rfl))
          have HD := Lib.hid hd
          have HDq := Lib.hid (show ∀ q, d.left = [q] → q.dp < 1000000 from fun q hq => dp_few HR.out.st (HD.out.1 q (by rw [hq]; simp)))
          clear hop hms hv hst hd hone
          go_wp2_with fail
          refine (close_any _ N _ wa wn wc ws v1 s1 mr d dl HSt.out l _ ⟨la, lc, rfl, HR7.out.rg, HR7.out.el⟩ (dp_few HR.out.st (HR.out.dp rfl)) HDq.out HD.out.2.1 HD.out.2.2.1 HD.out.2.2.2.1 HD.out.2.2.2.2.1).mono ?_
          rintro e w8 ⟨pv, v8, ms8, rfl, ⟨sa, sc, rfl, hrg, hel⟩, hs8, ht8⟩
          obtain ⟨r, hr⟩ : ∃ r, r = closeP ws l s1 d (mr.map (·.1)) := ⟨_, rfl⟩
          rw [← hr] at hrg hel hs8 HInv HQ2 ⊢
          obtain ⟨p, ok2, s8⟩ := r
          dsimp only at hrg hel hs8 HInv HQ2 ⊢
          rw [ptX_arr]
          have HTt := Lib.hid ht8
          have HInc := Lib.hid (show mu s1 < mu s8 from HInv.out.2)
          clear ht8 hr l0 l1 l2 l3 l4 l5 l6 l7 l8 l9 lz lN c1 c2 c3' cz hN6
          have HNx := Lib.hid (HR7.out.next (n2 := m) HPl.out hs8 HTt.out (Nat.le_refl _) hrg hel HInv.out.1.1 HInv.out.1.2.2 HQ2.out (by have h1 := HR.out.fuel; have h2 := HInc.out; omega))
          obtain ⟨l0, l1, l2, l3, l4, l5, l6, l7, l8, l9, lz, lN⟩ := row10 (HR7.out.boxes HPl.out HTt.out).2.1
          have HM2 := Lib.hid HNx.out.st.tkM
          clear hrg hel hs8
          go_wp2
          go_roundw
          case rel => first | exact ⟨_, _, _, _, m, _, _, _, rfl, HNx⟩ | (refine ⟨_, _, _, _, _, _, _, _, _, _, _, _, _, _, _, _, _, _, _, _, _, _, _, _, _, _, _, _, _, _, _, _, _, _, _, _, _, _, _, _, _, _, _, _, _, _, _, _, _, _, _, _, _, _, _, _, _, _, _, _, _, _, _, _, _, _, _, _, _, _, _, _, _, _, _, _, _, _, _, _, _, _, _, _, _, _, _, _, _, _, ?_, rfl⟩; exact ⟨_, _, _, _, m, _, _, _, rfl, HNx⟩)
          case measure =>
            have q1 := HMu.out
            have q2 := HM2.out
            have q3 := HInc.out
            have q4 : tkM N wn (setLe w8 L 0 (ptX p sa sc)) < tkM N wn wr := by omega
            exact q4
end Go.Proofs.YtknhphcfcpjhiaaGreatDoor
