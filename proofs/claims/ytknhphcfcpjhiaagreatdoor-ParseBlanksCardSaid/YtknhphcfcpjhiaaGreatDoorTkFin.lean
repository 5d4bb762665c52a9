/- expr.Take: the machine's answer. -/
import Derived.Test.YtknhphcfcpjhiaaGreatDoorTkTake
import Derived.Deep.RegionHeld3
namespace Go.Proofs.YtknhphcfcpjhiaaGreatDoor
open Go.RowKit
set_option linter.unusedVariables false
set_option linter.unusedSimpArgs false
set_option maxRecDepth 100000
theorem dcell (w : World) (a : Addr) : w.drew.cell? a = w.cell? a := rfl
theorem drw (w : World) (N : Nat) : w.drew.heap[N]? = w.heap[N]? := rfl
theorem results_e3 {fn : Func} {p u z : Tmp} (h : fn.results = #[.cell p 82, .tmp u, .tmp z]) (tmps : Array Value) (w : World) (g : Nat) (x0 x1 x2 x3 x4 x5 x6 x7 : Value)
    (hp : tmps.getD p undef = .pointer (some ⟨g, 0, none⟩)) (hg : w.heap[g]? = some (.cells #[x0, x1, x2, x3, x4, x5, x6, x7] 82 (0, 0))) :
    (results fn tmps).run Tryz.prog w = .ok (.tuple #[.agg #[x0, x1, x2, x3, x4, x5, x6, x7], tmps.getD u undef, tmps.getD z undef]) w := by
  have hp' : tmps[p]?.getD undef = .pointer (some ⟨g, 0, none⟩) := by simpa using hp
  have hl := run_loadVar_row (P := Tryz.prog) w g 82 82 #[x0, x1, x2, x3, x4, x5, x6, x7] (0, 0) _ hg Tryz.underlying82 rfl (by
    have : (Tryz.prog.info? 82).map (·.size) = some 8 := by kernel_rfl
    exact this)
  simp [results, h, hp', asAddr, hl]
theorem wbox8 {w : World} {N : Nat} {x0 x1 x2 x3 x4 x5 x6 x7 : Value} {T : TypeId} (h : w.heap[N]? = some (.cells #[x0, x1, x2, x3, x4, x5, x6, x7] T (0, 0))) (a0 a1 a2 a3 a4 a5 a6 a7 : Value) :
    (setLe w N 0 [a0, a1, a2, a3, a4, a5, a6, a7]).heap[N]? = some (.cells #[a0, a1, a2, a3, a4, a5, a6, a7] T (0, 0)) :=
  heap_setLe [a0, a1, a2, a3, a4, a5, a6, a7] [] [x0, x1, x2, x3, x4, x5, x6, x7] w (by simp) h
def TakeR (w : World) (r : ET × Nat × Int) (e : Ending) (w' : World) : Prop := (∃ ev, e = .returned (.tuple #[ev, .int .i64 (r.2.1 : Int), .int .i64 r.2.2]) ∧ EV w' (fun b => w.heap.size ≤ b) ev r.1) ∧ Below w.heap.size w w'
theorem ev_zero (w : World) (Q : Nat → Prop) : EV w Q (.agg #[.int .i64 0, .string ⟨#[]⟩, .int .i64 0, .int .i64 0, .string ⟨#[]⟩, .string ⟨#[]⟩, .string ⟨#[]⟩, .slice none 0 0]) zET := ⟨none, 0, rfl, prg_zero.e, .nil none⟩
set_option maxHeartbeats 12800000 in
theorem exprTake_any (wa : Option Addr) (wn wc : Nat) (ws : List Wd) (w : World) (h : WsAt w wa wn ws) (hz : WsOk ws) :
    Calls Tryz.prog 106 #[.slice wa wn wc] w (TakeR w (TakeP nmB ws)) := by
  have HWs := Lib.hid h
  have HZ := Lib.hid hz
  have HB := Lib.hid (bel0 (.cells #[.slice wa wn wc, .int .i64 0, .int .i64 1, .slice none 0 0] 200) (bel0 (.cells #[.int .i64 0, .string ⟨#[]⟩, .int .i64 0, .int .i64 0, .string ⟨#[]⟩, .string ⟨#[]⟩, .string ⟨#[]⟩, .slice none 0 0] 82) (Below.refl w.heap.size w)))
  have HX := Lib.hid (boxes_lit w (.cells #[.int .i64 0, .string ⟨#[]⟩, .int .i64 0, .int .i64 0, .string ⟨#[]⟩, .string ⟨#[]⟩, .string ⟨#[]⟩, .slice none 0 0] 82 (0, 0)) (.cells #[.slice wa wn wc, .int .i64 0, .int .i64 1, .slice none 0 0] 200 (0, 0)))
  clear h hz
  go_enter Tryz.func106, Tryz.ntmps106
  go_upto_region 2 with (fail)
  have hsz0 : (w.alloc (.cells #[.int .i64 0, .string ⟨#[]⟩, .int .i64 0, .int .i64 0, .string ⟨#[]⟩, .string ⟨#[]⟩, .string ⟨#[]⟩, .slice none 0 0] 82)).heap.size = w.heap.size + 1 := by simp
  obtain ⟨w1, hw1⟩ : ∃ w1, w1 = (w.alloc (.cells #[.int .i64 0, .string ⟨#[]⟩, .int .i64 0, .int .i64 0, .string ⟨#[]⟩, .string ⟨#[]⟩, .string ⟨#[]⟩, .slice none 0 0] 82)).alloc (.cells #[.slice wa wn wc, .int .i64 0, .int .i64 1, .slice none 0 0] 200) := ⟨_, rfl⟩
  rw [← hw1] at HB HX ⊢
  have HS1 := Lib.hid (show TSt (fun _ => False) (w.heap.size + 1) w1 wa wn wc ws (.slice none 0 0) tk0 [] from by
    obtain ⟨h1, h2, h3⟩ := HWs.out
    refine ⟨HX.out.1.2, World.ownsRow_nil _ _ _ _, ⟨h1, h2, h3.imp id ?_⟩, rfl, fun m hm => (by cases hm), fun m hm => (by cases hm), Nat.zero_le _, Nat.le_refl _, by show InR 1; unfold InR; omega⟩
    rintro ⟨b, off, ha, hlt, hc⟩
    exact ⟨b, off, ha, by omega, Nat.lt_of_lt_of_le hlt HB.out.size, fun i hi => ⟨(HB.out.cell (p := ⟨b, off + i * 3, none⟩) hlt).trans (hc i hi).1, (HB.out.cell (p := ⟨b, off + i * 3 + 1, none⟩) hlt).trans (hc i hi).2.1, (HB.out.cell (p := ⟨b, off + i * 3 + 2, none⟩) hlt).trans (hc i hi).2.2⟩⟩)
  have HI := Lib.hid (show PInv tk0 from ⟨Nat.le_refl _, ⟨by show InR 1; unfold InR; omega, by decide⟩, fun p hp => by cases hp⟩)
  clear hw1 hsz0
  go_wp2_with fail
  refine (take_any _ _ _ wa wn wc ws _ tk0 [] HS1.out HZ.out HI.out).mono ?_
  rintro e w2 ⟨pv, v2, ms2, rfl, ⟨sa, sc, rfl, hrg, hel⟩, hs2, ht2⟩
  have HT := Lib.hid (show TakeP nmB ws = (if (takeA ws tk0).2.1 = false then (zET, (takeA ws tk0).2.2.pos, 3) else if 8 < (takeA ws tk0).1.dp then (zET, 0, 4) else ((takeA ws tk0).1.e, (takeA ws tk0).2.2.pos, 0)) from rfl)
  obtain ⟨r, hr⟩ : ∃ r, r = takeA ws tk0 := ⟨_, rfl⟩
  rw [← hr] at hrg hel hs2 HT ⊢
  obtain ⟨p, ok, s2⟩ := r
  dsimp only at hrg hel hs2 HT ⊢
  rw [ptX_arr]
  have HRg := Lib.hid hrg
  have HEl := Lib.hid hel
  have HS2 := Lib.hid hs2
  have HRb := Lib.hid (show w2.heap[w.heap.size]? = some (.cells #[.int .i64 0, .string ⟨#[]⟩, .int .i64 0, .int .i64 0, .string ⟨#[]⟩, .string ⟨#[]⟩, .string ⟨#[]⟩, .slice none 0 0] 82 (0, 0)) from (ht2.below.block w.heap.size (Nat.lt_succ_self _)).trans HX.out.1.1)
  have HBw := Lib.hid (show Below w.heap.size w w2 from HB.out.trans (ht2.below.mono (Nat.le_succ _)))
  clear hrg hel hs2 ht2 hr
  go_upto_region 3 with (fail)
  have hB23 := bel0 (.cells (ptX p sa sc).toArray 202) (Below.refl w2.heap.size w2)
  have hx3 := Go.heap_alloc_new w2 (.cells (ptX p sa sc).toArray 202 (0, 0))
  rw [ptX_arr] at hB23 hx3
  generalize (w2.alloc (.cells #[.int .i64 p.e.kind, .string p.e.op, .int .i64 p.e.vk, .int .i64 p.e.vn, .string p.e.vs, .string p.e.tab, .string p.e.col, .slice sa p.e.parts.length sc, .int .i64 p.lv, .int .i64 p.dp] 202)) = w3 at *
  have HS3 := Lib.hid (HS2.out.below hB23)
  have HE3 := Lib.hid (HEl.out.keep hB23)
  have HX3 := Lib.hid hx3
  have hR3 := (hB23.block w.heap.size (Array.getElem?_eq_some_iff.1 HRb.out).1).trans HRb.out
  have HR3 := Lib.hid hR3
  have HBw3 := Lib.hid (bt HBw.out hB23)
  clear hB23 hx3 hR3
  cases ok with
  | false =>
    have HQ := Lib.hid (show TakeP nmB ws = (zET, s2.pos, 3) by rw [HT.out]; simp)
    go_upto_region 4 with (fail)
    have HK := Lib.hid (show ∀ W : World, Below w3.heap.size w3 W → (W.cell? ⟨w.heap.size + 1, 1, none⟩ = some (.int .i64 (s2.pos : Int))) from fun W hW => (HS3.out.below hW).cells.2.1)
    have HKn := Lib.hid (show ∀ (W : World) (x0 x1 x2 x3 x4 x5 x6 x7 : Value), Below w3.heap.size w3 W → (((((((((W.setCell ⟨w.heap.size, 0, none⟩ x0).setCell ⟨w.heap.size, 1, none⟩ x1).setCell ⟨w.heap.size, 2, none⟩ x2).setCell ⟨w.heap.size, 3, none⟩ x3).setCell ⟨w.heap.size, 4, none⟩ x4).setCell ⟨w.heap.size, 5, none⟩ x5).setCell ⟨w.heap.size, 6, none⟩ x6).setCell ⟨w.heap.size, 7, none⟩ x7).cell? ⟨w.heap.size + 1, 1, none⟩ = some (.int .i64 (s2.pos : Int))) from fun W x0 x1 x2 x3 x4 x5 x6 x7 hW => (World.cell?_of_block (a := ⟨w.heap.size + 1, 1, none⟩) (setLe_other (B := w.heap.size) (M := w.heap.size + 1) (by omega) [x0, x1, x2, x3, x4, x5, x6, x7] 0 W)).trans (HS3.out.below hW).cells.2.1)
    have HKd := Lib.hid (show ∀ (W : World) (x0 x1 x2 x3 x4 x5 x6 x7 : Value), Below w3.heap.size w3 W → (((((((((W.setCell ⟨w.heap.size, 0, none⟩ x0).setCell ⟨w.heap.size, 1, none⟩ x1).setCell ⟨w.heap.size, 2, none⟩ x2).setCell ⟨w.heap.size, 3, none⟩ x3).setCell ⟨w.heap.size, 4, none⟩ x4).setCell ⟨w.heap.size, 5, none⟩ x5).setCell ⟨w.heap.size, 6, none⟩ x6).setCell ⟨w.heap.size, 7, none⟩ x7).drew.cell? ⟨w.heap.size + 1, 1, none⟩ = some (.int .i64 (s2.pos : Int))) from fun W x0 x1 x2 x3 x4 x5 x6 x7 hW => by
      rw [dcell]; exact HKn.out W x0 x1 x2 x3 x4 x5 x6 x7 hW)
    obtain ⟨g0, g1, g2, g3, g4, g5, g6, g7, gz, gN⟩ := row8 HR3.out
    have HFin := Lib.hid (wbox8 HR3.out (.int .i64 0) (.string ⟨#[]⟩) (.int .i64 0) (.int .i64 0) (.string ⟨#[]⟩) (.string ⟨#[]⟩) (.string ⟨#[]⟩) (.slice none 0 0))
    have HBf := Lib.hid (setLe_below (Nat.le_refl w.heap.size) [.int .i64 0, .string ⟨#[]⟩, .int .i64 0, .int .i64 0, .string ⟨#[]⟩, .string ⟨#[]⟩, .string ⟨#[]⟩, .slice none 0 0] 0 w3 HBw3.out)
    have HFd := Lib.hid (show (setLe w3 w.heap.size 0 [.int .i64 0, .string ⟨#[]⟩, .int .i64 0, .int .i64 0, .string ⟨#[]⟩, .string ⟨#[]⟩, .string ⟨#[]⟩, .slice none 0 0]).drew.heap[w.heap.size]? = some (.cells #[.int .i64 0, .string ⟨#[]⟩, .int .i64 0, .int .i64 0, .string ⟨#[]⟩, .string ⟨#[]⟩, .string ⟨#[]⟩, .slice none 0 0] 82 (0, 0)) from (drw _ _).trans HFin.out)
    have HBd := Lib.hid (show Below w.heap.size w (setLe w3 w.heap.size 0 [.int .i64 0, .string ⟨#[]⟩, .int .i64 0, .int .i64 0, .string ⟨#[]⟩, .string ⟨#[]⟩, .string ⟨#[]⟩, .slice none 0 0]).drew from Below.drew HBf.out)
    go_region_held3 (fun W => W.cell? ⟨w.heap.size + 1, 1, none⟩ = some (.int .i64 (s2.pos : Int))) (first
          | (with_reducible refine HK.out _ ?_
             repeat (first | with_reducible exact Below.refl _ _ | with_reducible refine bel0 _ ?_ | with_reducible refine Below.drew ?_)
             done)
          | (with_reducible refine HKd.out _ _ _ _ _ _ _ _ _ ?_
             repeat (first | with_reducible exact Below.refl _ _ | with_reducible refine Below.drew ?_)
             done)
          | (with_reducible refine HKn.out _ _ _ _ _ _ _ _ _ ?_
             repeat (first | with_reducible exact Below.refl _ _ | with_reducible refine Below.drew ?_)
             done)) (fail)
    all_goals
      go_wp2
      refine bodyPost_ret (results_e3 rfl _ _ w.heap.size _ _ _ _ _ _ _ _ rfl HFd.out) rfl ?_
      rw [HQ.out]
      exact ⟨⟨_, rfl, ev_zero _ _⟩, HBd.out⟩
  | true =>
    obtain ⟨-, -, -, -, -, -, -, -, -, l9, -, lN⟩ := row10 HX3.out
    by_cases hd : 8 < p.dp
    · have HQ := Lib.hid (show TakeP nmB ws = (zET, 0, 4) by rw [HT.out]; simp [hd])
      have hd2 : decide (p.dp > 8) = true := decide_eq_true hd
      have HFin := Lib.hid (wbox8 HR3.out (.int .i64 0) (.string ⟨#[]⟩) (.int .i64 0) (.int .i64 0) (.string ⟨#[]⟩) (.string ⟨#[]⟩) (.string ⟨#[]⟩) (.slice none 0 0))
      have HBf := Lib.hid (setLe_below (Nat.le_refl w.heap.size) [.int .i64 0, .string ⟨#[]⟩, .int .i64 0, .int .i64 0, .string ⟨#[]⟩, .string ⟨#[]⟩, .string ⟨#[]⟩, .slice none 0 0] 0 w3 HBw3.out)
      obtain ⟨g0, g1, g2, g3, g4, g5, g6, g7, gz, gN⟩ := row8 HR3.out
      go_wp2
      refine bodyPost_ret (results_e3 rfl _ _ w.heap.size _ _ _ _ _ _ _ _ rfl HFin.out) rfl ?_
      rw [HQ.out]
      exact ⟨⟨_, rfl, ev_zero _ _⟩, HBf.out⟩
    · have HQ := Lib.hid (show TakeP nmB ws = (p.e, s2.pos, 0) by rw [HT.out]; simp [hd])
      have hd2 : decide (p.dp > 8) = false := decide_eq_false hd
      go_upto_region 7 with (fail)
      have HK := Lib.hid (show ∀ W : World, Below w3.heap.size w3 W → (W.cell? ⟨w.heap.size + 1, 1, none⟩ = some (.int .i64 (s2.pos : Int)) ∧ W.cell? ⟨w2.heap.size, 0, none⟩ = some (.int .i64 p.e.kind) ∧ W.cell? ⟨w2.heap.size, 1, none⟩ = some (.string p.e.op) ∧ W.cell? ⟨w2.heap.size, 2, none⟩ = some (.int .i64 p.e.vk) ∧ W.cell? ⟨w2.heap.size, 3, none⟩ = some (.int .i64 p.e.vn) ∧ W.cell? ⟨w2.heap.size, 4, none⟩ = some (.string p.e.vs) ∧ W.cell? ⟨w2.heap.size, 5, none⟩ = some (.string p.e.tab) ∧ W.cell? ⟨w2.heap.size, 6, none⟩ = some (.string p.e.col) ∧ W.cell? ⟨w2.heap.size, 7, none⟩ = some (.slice sa p.e.parts.length sc)) from fun W hW => by
        obtain ⟨l0, l1, l2, l3, l4, l5, l6, l7, -, -, -, -⟩ := row10 ((hW.block _ lN).trans HX3.out)
        exact ⟨(HS3.out.below hW).cells.2.1, l0, l1, l2, l3, l4, l5, l6, l7⟩)
      have HKn := Lib.hid (show ∀ (W : World) (x0 x1 x2 x3 x4 x5 x6 x7 : Value), Below w3.heap.size w3 W → (((((((((W.setCell ⟨w.heap.size, 0, none⟩ x0).setCell ⟨w.heap.size, 1, none⟩ x1).setCell ⟨w.heap.size, 2, none⟩ x2).setCell ⟨w.heap.size, 3, none⟩ x3).setCell ⟨w.heap.size, 4, none⟩ x4).setCell ⟨w.heap.size, 5, none⟩ x5).setCell ⟨w.heap.size, 6, none⟩ x6).setCell ⟨w.heap.size, 7, none⟩ x7).cell? ⟨w.heap.size + 1, 1, none⟩ = some (.int .i64 (s2.pos : Int)) ∧ ((((((((W.setCell ⟨w.heap.size, 0, none⟩ x0).setCell ⟨w.heap.size, 1, none⟩ x1).setCell ⟨w.heap.size, 2, none⟩ x2).setCell ⟨w.heap.size, 3, none⟩ x3).setCell ⟨w.heap.size, 4, none⟩ x4).setCell ⟨w.heap.size, 5, none⟩ x5).setCell ⟨w.heap.size, 6, none⟩ x6).setCell ⟨w.heap.size, 7, none⟩ x7).cell? ⟨w2.heap.size, 0, none⟩ = some (.int .i64 p.e.kind) ∧ ((((((((W.setCell ⟨w.heap.size, 0, none⟩ x0).setCell ⟨w.heap.size, 1, none⟩ x1).setCell ⟨w.heap.size, 2, none⟩ x2).setCell ⟨w.heap.size, 3, none⟩ x3).setCell ⟨w.heap.size, 4, none⟩ x4).setCell ⟨w.heap.size, 5, none⟩ x5).setCell ⟨w.heap.size, 6, none⟩ x6).setCell ⟨w.heap.size, 7, none⟩ x7).cell? ⟨w2.heap.size, 1, none⟩ = some (.string p.e.op) ∧ ((((((((W.setCell ⟨w.heap.size, 0, none⟩ x0).setCell ⟨w.heap.size, 1, none⟩ x1).setCell ⟨w.heap.size, 2, none⟩ x2).setCell ⟨w.heap.size, 3, none⟩ x3).setCell ⟨w.heap.size, 4, none⟩ x4).setCell ⟨w.heap.size, 5, none⟩ x5).setCell ⟨w.heap.size, 6, none⟩ x6).setCell ⟨w.heap.size, 7, none⟩ x7).cell? ⟨w2.heap.size, 2, none⟩ = some (.int .i64 p.e.vk) ∧ ((((((((W.setCell ⟨w.heap.size, 0, none⟩ x0).setCell ⟨w.heap.size, 1, none⟩ x1).setCell ⟨w.heap.size, 2, none⟩ x2).setCell ⟨w.heap.size, 3, none⟩ x3).setCell ⟨w.heap.size, 4, none⟩ x4).setCell ⟨w.heap.size, 5, none⟩ x5).setCell ⟨w.heap.size, 6, none⟩ x6).setCell ⟨w.heap.size, 7, none⟩ x7).cell? ⟨w2.heap.size, 3, none⟩ = some (.int .i64 p.e.vn) ∧ ((((((((W.setCell ⟨w.heap.size, 0, none⟩ x0).setCell ⟨w.heap.size, 1, none⟩ x1).setCell ⟨w.heap.size, 2, none⟩ x2).setCell ⟨w.heap.size, 3, none⟩ x3).setCell ⟨w.heap.size, 4, none⟩ x4).setCell ⟨w.heap.size, 5, none⟩ x5).setCell ⟨w.heap.size, 6, none⟩ x6).setCell ⟨w.heap.size, 7, none⟩ x7).cell? ⟨w2.heap.size, 4, none⟩ = some (.string p.e.vs) ∧ ((((((((W.setCell ⟨w.heap.size, 0, none⟩ x0).setCell ⟨w.heap.size, 1, none⟩ x1).setCell ⟨w.heap.size, 2, none⟩ x2).setCell ⟨w.heap.size, 3, none⟩ x3).setCell ⟨w.heap.size, 4, none⟩ x4).setCell ⟨w.heap.size, 5, none⟩ x5).setCell ⟨w.heap.size, 6, none⟩ x6).setCell ⟨w.heap.size, 7, none⟩ x7).cell? ⟨w2.heap.size, 5, none⟩ = some (.string p.e.tab) ∧ ((((((((W.setCell ⟨w.heap.size, 0, none⟩ x0).setCell ⟨w.heap.size, 1, none⟩ x1).setCell ⟨w.heap.size, 2, none⟩ x2).setCell ⟨w.heap.size, 3, none⟩ x3).setCell ⟨w.heap.size, 4, none⟩ x4).setCell ⟨w.heap.size, 5, none⟩ x5).setCell ⟨w.heap.size, 6, none⟩ x6).setCell ⟨w.heap.size, 7, none⟩ x7).cell? ⟨w2.heap.size, 6, none⟩ = some (.string p.e.col) ∧ ((((((((W.setCell ⟨w.heap.size, 0, none⟩ x0).setCell ⟨w.heap.size, 1, none⟩ x1).setCell ⟨w.heap.size, 2, none⟩ x2).setCell ⟨w.heap.size, 3, none⟩ x3).setCell ⟨w.heap.size, 4, none⟩ x4).setCell ⟨w.heap.size, 5, none⟩ x5).setCell ⟨w.heap.size, 6, none⟩ x6).setCell ⟨w.heap.size, 7, none⟩ x7).cell? ⟨w2.heap.size, 7, none⟩ = some (.slice sa p.e.parts.length sc)) from fun W x0 x1 x2 x3 x4 x5 x6 x7 hW => by
        have hb : ∀ i, i ≠ w.heap.size → (setLe W w.heap.size 0 [x0, x1, x2, x3, x4, x5, x6, x7]).heap[i]? = W.heap[i]? := fun i hi => setLe_other hi _ _ _
        obtain ⟨l0, l1, l2, l3, l4, l5, l6, l7, -, -, -, -⟩ := row10 ((hb w2.heap.size (by have := HRb.out; have := (Array.getElem?_eq_some_iff.1 this).1; omega)).trans ((hW.block _ lN).trans HX3.out))
        exact ⟨(World.cell?_of_block (a := ⟨w.heap.size + 1, 1, none⟩) (hb (w.heap.size + 1) (by omega))).trans (HS3.out.below hW).cells.2.1, l0, l1, l2, l3, l4, l5, l6, l7⟩)
      have HKd := Lib.hid (show ∀ (W : World) (x0 x1 x2 x3 x4 x5 x6 x7 : Value), Below w3.heap.size w3 W → (((((((((W.setCell ⟨w.heap.size, 0, none⟩ x0).setCell ⟨w.heap.size, 1, none⟩ x1).setCell ⟨w.heap.size, 2, none⟩ x2).setCell ⟨w.heap.size, 3, none⟩ x3).setCell ⟨w.heap.size, 4, none⟩ x4).setCell ⟨w.heap.size, 5, none⟩ x5).setCell ⟨w.heap.size, 6, none⟩ x6).setCell ⟨w.heap.size, 7, none⟩ x7).drew.cell? ⟨w.heap.size + 1, 1, none⟩ = some (.int .i64 (s2.pos : Int)) ∧ ((((((((W.setCell ⟨w.heap.size, 0, none⟩ x0).setCell ⟨w.heap.size, 1, none⟩ x1).setCell ⟨w.heap.size, 2, none⟩ x2).setCell ⟨w.heap.size, 3, none⟩ x3).setCell ⟨w.heap.size, 4, none⟩ x4).setCell ⟨w.heap.size, 5, none⟩ x5).setCell ⟨w.heap.size, 6, none⟩ x6).setCell ⟨w.heap.size, 7, none⟩ x7).drew.cell? ⟨w2.heap.size, 0, none⟩ = some (.int .i64 p.e.kind) ∧ ((((((((W.setCell ⟨w.heap.size, 0, none⟩ x0).setCell ⟨w.heap.size, 1, none⟩ x1).setCell ⟨w.heap.size, 2, none⟩ x2).setCell ⟨w.heap.size, 3, none⟩ x3).setCell ⟨w.heap.size, 4, none⟩ x4).setCell ⟨w.heap.size, 5, none⟩ x5).setCell ⟨w.heap.size, 6, none⟩ x6).setCell ⟨w.heap.size, 7, none⟩ x7).drew.cell? ⟨w2.heap.size, 1, none⟩ = some (.string p.e.op) ∧ ((((((((W.setCell ⟨w.heap.size, 0, none⟩ x0).setCell ⟨w.heap.size, 1, none⟩ x1).setCell ⟨w.heap.size, 2, none⟩ x2).setCell ⟨w.heap.size, 3, none⟩ x3).setCell ⟨w.heap.size, 4, none⟩ x4).setCell ⟨w.heap.size, 5, none⟩ x5).setCell ⟨w.heap.size, 6, none⟩ x6).setCell ⟨w.heap.size, 7, none⟩ x7).drew.cell? ⟨w2.heap.size, 2, none⟩ = some (.int .i64 p.e.vk) ∧ ((((((((W.setCell ⟨w.heap.size, 0, none⟩ x0).setCell ⟨w.heap.size, 1, none⟩ x1).setCell ⟨w.heap.size, 2, none⟩ x2).setCell ⟨w.heap.size, 3, none⟩ x3).setCell ⟨w.heap.size, 4, none⟩ x4).setCell ⟨w.heap.size, 5, none⟩ x5).setCell ⟨w.heap.size, 6, none⟩ x6).setCell ⟨w.heap.size, 7, none⟩ x7).drew.cell? ⟨w2.heap.size, 3, none⟩ = some (.int .i64 p.e.vn) ∧ ((((((((W.setCell ⟨w.heap.size, 0, none⟩ x0).setCell ⟨w.heap.size, 1, none⟩ x1).setCell ⟨w.heap.size, 2, none⟩ x2).setCell ⟨w.heap.size, 3, none⟩ x3).setCell ⟨w.heap.size, 4, none⟩ x4).setCell ⟨w.heap.size, 5, none⟩ x5).setCell ⟨w.heap.size, 6, none⟩ x6).setCell ⟨w.heap.size, 7, none⟩ x7).drew.cell? ⟨w2.heap.size, 4, none⟩ = some (.string p.e.vs) ∧ ((((((((W.setCell ⟨w.heap.size, 0, none⟩ x0).setCell ⟨w.heap.size, 1, none⟩ x1).setCell ⟨w.heap.size, 2, none⟩ x2).setCell ⟨w.heap.size, 3, none⟩ x3).setCell ⟨w.heap.size, 4, none⟩ x4).setCell ⟨w.heap.size, 5, none⟩ x5).setCell ⟨w.heap.size, 6, none⟩ x6).setCell ⟨w.heap.size, 7, none⟩ x7).drew.cell? ⟨w2.heap.size, 5, none⟩ = some (.string p.e.tab) ∧ ((((((((W.setCell ⟨w.heap.size, 0, none⟩ x0).setCell ⟨w.heap.size, 1, none⟩ x1).setCell ⟨w.heap.size, 2, none⟩ x2).setCell ⟨w.heap.size, 3, none⟩ x3).setCell ⟨w.heap.size, 4, none⟩ x4).setCell ⟨w.heap.size, 5, none⟩ x5).setCell ⟨w.heap.size, 6, none⟩ x6).setCell ⟨w.heap.size, 7, none⟩ x7).drew.cell? ⟨w2.heap.size, 6, none⟩ = some (.string p.e.col) ∧ ((((((((W.setCell ⟨w.heap.size, 0, none⟩ x0).setCell ⟨w.heap.size, 1, none⟩ x1).setCell ⟨w.heap.size, 2, none⟩ x2).setCell ⟨w.heap.size, 3, none⟩ x3).setCell ⟨w.heap.size, 4, none⟩ x4).setCell ⟨w.heap.size, 5, none⟩ x5).setCell ⟨w.heap.size, 6, none⟩ x6).setCell ⟨w.heap.size, 7, none⟩ x7).drew.cell? ⟨w2.heap.size, 7, none⟩ = some (.slice sa p.e.parts.length sc)) from fun W x0 x1 x2 x3 x4 x5 x6 x7 hW => by
        simp only [dcell]; exact HKn.out W x0 x1 x2 x3 x4 x5 x6 x7 hW)
      obtain ⟨g0, g1, g2, g3, g4, g5, g6, g7, gz, gN⟩ := row8 HR3.out
      have HFin := Lib.hid (wbox8 HR3.out (.int .i64 p.e.kind) (.string p.e.op) (.int .i64 p.e.vk) (.int .i64 p.e.vn) (.string p.e.vs) (.string p.e.tab) (.string p.e.col) (.slice sa p.e.parts.length sc))
      have HBf := Lib.hid (setLe_below (Nat.le_refl w.heap.size) [.int .i64 p.e.kind, .string p.e.op, .int .i64 p.e.vk, .int .i64 p.e.vn, .string p.e.vs, .string p.e.tab, .string p.e.col, .slice sa p.e.parts.length sc] 0 w3 HBw3.out)
      have HEf := Lib.hid (el_store HE3.out (R := w.heap.size) (fun b hb e => by
        have h1 : Aft (fun _ => False) w1.heap.size b := hb.1
        rcases h1 with h1 | h1
        · exact h1
        · have := HX.out.2
          omega) 0 [.int .i64 p.e.kind, .string p.e.op, .int .i64 p.e.vk, .int .i64 p.e.vn, .string p.e.vs, .string p.e.tab, .string p.e.col, .slice sa p.e.parts.length sc])
      clear l9
      have HFd := Lib.hid (show (setLe w3 w.heap.size 0 [.int .i64 p.e.kind, .string p.e.op, .int .i64 p.e.vk, .int .i64 p.e.vn, .string p.e.vs, .string p.e.tab, .string p.e.col, .slice sa p.e.parts.length sc]).drew.heap[w.heap.size]? = some (.cells #[.int .i64 p.e.kind, .string p.e.op, .int .i64 p.e.vk, .int .i64 p.e.vn, .string p.e.vs, .string p.e.tab, .string p.e.col, .slice sa p.e.parts.length sc] 82 (0, 0)) from (drw _ _).trans HFin.out)
      have HBd := Lib.hid (show Below w.heap.size w (setLe w3 w.heap.size 0 [.int .i64 p.e.kind, .string p.e.op, .int .i64 p.e.vk, .int .i64 p.e.vn, .string p.e.vs, .string p.e.tab, .string p.e.col, .slice sa p.e.parts.length sc]).drew from Below.drew HBf.out)
      go_region_held3 (fun W => W.cell? ⟨w.heap.size + 1, 1, none⟩ = some (.int .i64 (s2.pos : Int)) ∧ W.cell? ⟨w2.heap.size, 0, none⟩ = some (.int .i64 p.e.kind) ∧ W.cell? ⟨w2.heap.size, 1, none⟩ = some (.string p.e.op) ∧ W.cell? ⟨w2.heap.size, 2, none⟩ = some (.int .i64 p.e.vk) ∧ W.cell? ⟨w2.heap.size, 3, none⟩ = some (.int .i64 p.e.vn) ∧ W.cell? ⟨w2.heap.size, 4, none⟩ = some (.string p.e.vs) ∧ W.cell? ⟨w2.heap.size, 5, none⟩ = some (.string p.e.tab) ∧ W.cell? ⟨w2.heap.size, 6, none⟩ = some (.string p.e.col) ∧ W.cell? ⟨w2.heap.size, 7, none⟩ = some (.slice sa p.e.parts.length sc)) (first
            | (with_reducible refine HK.out _ ?_
               repeat (first | with_reducible exact Below.refl _ _ | with_reducible refine bel0 _ ?_ | with_reducible refine Below.drew ?_)
               done)
            | (with_reducible refine HKd.out _ _ _ _ _ _ _ _ _ ?_
               repeat (first | with_reducible exact Below.refl _ _ | with_reducible refine Below.drew ?_)
               done)
            | (with_reducible refine HKn.out _ _ _ _ _ _ _ _ _ ?_
               repeat (first | with_reducible exact Below.refl _ _ | with_reducible refine Below.drew ?_)
               done)) (fail)
      all_goals
        go_wp2
        refine bodyPost_ret (results_e3 rfl _ _ w.heap.size _ _ _ _ _ _ _ _ rfl HFd.out) rfl ?_
        rw [HQ.out]
        exact ⟨⟨_, rfl, sa, sc, rfl, HRg.out.e, (HEf.out.keep (Below.drew (Below.refl _ _))).mono (fun b hb _ => by
          have h1 : Aft (fun _ => False) w1.heap.size b := hb.1
          rcases h1 with h1 | h1
          · exact h1.elim
          · have := HX.out.2
            omega)⟩, HBd.out⟩
end Go.Proofs.YtknhphcfcpjhiaaGreatDoor
