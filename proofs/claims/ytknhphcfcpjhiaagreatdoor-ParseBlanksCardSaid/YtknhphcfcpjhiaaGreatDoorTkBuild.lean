/- expr.build: the walk. -/
import Derived.Test.YtknhphcfcpjhiaaGreatDoorTkBld
namespace Go.Proofs.YtknhphcfcpjhiaaGreatDoor
open Go.RowKit
set_option linter.unusedVariables false
set_option linter.unusedSimpArgs false
set_option maxRecDepth 100000
def BuildP (w : World) (Q : Nat → Prop) (p : Pt) (e : Ending) (w' : World) : Prop :=
  ∃ pv, e = .returned pv ∧ PV w' (fun b => Q b ∨ w.heap.size ≤ b) pv p ∧ Below w.heap.size w w'
set_option maxHeartbeats 12800000 in
theorem build_any (kd : Int) (op : ByteArray) (vk vn : Int) (vs tab col : ByteArray) (lv : Int) (ps : List Pt) (hr : ERg (.mk kd op vk vn vs tab col []) none 0) (hlv : InR lv) (w : World) (Q : Nat → Prop) (pa : Option Addr) (n pc : Nat) (hps : PsAt w Q pa n ps) (hd : ∀ p ∈ ps, p.dp < 1000000) :
    Calls Tryz.prog 194 #[.agg #[.int .i64 kd, .string op, .int .i64 vk, .int .i64 vn, .string vs, .string tab, .string col, .slice none 0 0], .int .i64 lv, .slice pa n pc] w (BuildP w Q (buildP kd op vk vn vs tab col lv ps)) := by
  have HPs := Lib.hid hps
  have hl := hps.1
  have hn := hps.2.1
  have HRg := Lib.hid hr
  have HLv := Lib.hid hlv
  have HD := Lib.hid (show maxD ps ≤ 999999 from maxD_le (by omega) (fun p hp => by have := hd p hp; omega))
  have HDt := Lib.hid (show ∀ k, 0 ≤ maxD (ps.take k) ∧ maxD (ps.take k) ≤ 999999 from fun k => ⟨maxD_ge _, maxD_le (by omega) (fun p hp => by have := hd p (List.mem_of_mem_take hp); omega)⟩)
  have HL := Lib.hid hl
  have HB := Lib.hid (bel0 (.cells #[.int .i64 0, .string ⟨#[]⟩, .int .i64 0, .int .i64 0, .string ⟨#[]⟩, .string ⟨#[]⟩, .string ⟨#[]⟩, .slice none 0 0, .int .i64 0, .int .i64 0] 202) (bel0 (.cells #[.int .i64 kd, .string op, .int .i64 vk, .int .i64 vn, .string vs, .string tab, .string col, .slice none 0 0] 82) (Below.refl w.heap.size w)))
  obtain ⟨w1, hw1⟩ : ∃ w1, w1 = (w.alloc (.cells #[.int .i64 kd, .string op, .int .i64 vk, .int .i64 vn, .string vs, .string tab, .string col, .slice none 0 0] 82)).alloc (.cells #[.int .i64 0, .string ⟨#[]⟩, .int .i64 0, .int .i64 0, .string ⟨#[]⟩, .string ⟨#[]⟩, .string ⟨#[]⟩, .slice none 0 0, .int .i64 0, .int .i64 0] 202) := ⟨_, rfl⟩
  have HE1 := Lib.hid (show w1.heap[w.heap.size]? = some (.cells #[.int .i64 kd, .string op, .int .i64 vk, .int .i64 vn, .string vs, .string tab, .string col, .slice none 0 0] 82 (0, 0)) by
    rw [hw1]; exact (alloc_old _ _ (by simp)).trans (Go.heap_alloc_new w _))
  have HR1 := Lib.hid (show w1.heap[w.heap.size + 1]? = some (.cells #[.int .i64 0, .string ⟨#[]⟩, .int .i64 0, .int .i64 0, .string ⟨#[]⟩, .string ⟨#[]⟩, .string ⟨#[]⟩, .slice none 0 0, .int .i64 0, .int .i64 0] 202 (0, 0)) by
    rw [hw1]
    have := Go.heap_alloc_new (w.alloc (.cells #[.int .i64 kd, .string op, .int .i64 vk, .int .i64 vn, .string vs, .string tab, .string col, .slice none 0 0] 82)) (.cells #[.int .i64 0, .string ⟨#[]⟩, .int .i64 0, .int .i64 0, .string ⟨#[]⟩, .string ⟨#[]⟩, .string ⟨#[]⟩, .slice none 0 0, .int .i64 0, .int .i64 0] 202)
    simpa using this)
  have HZ1 := Lib.hid (show w1.heap.size = w.heap.size + 2 by rw [hw1]; simp)
  rw [← hw1] at HB
  have HW1 := Lib.hid hw1
  clear hps hr hlv hd hl hw1
  go_enter Tryz.func194, Tryz.ntmps194
  go_upto_region 1 with (fail)
  rw [← HW1.out]
  go_wp2_with fail
  go_loopw [7, 15] (fun d i wr => ∃ (k : Nat), k ≤ n ∧ d = .int .i64 (maxD (ps.take k)) ∧ i = .int .i64 (k : Int) ∧ Hid (Below w1.heap.size w1 wr)) (fun d i _ => n - (intOf i).toNat)
  case atStart => exact ⟨0, by omega, rfl, rfl, Lib.hid (Below.refl _ _)⟩
  case round =>
    obtain ⟨k, hk, rfl, rfl, HBr⟩ := hrel
    have hk0 : (0 : Int) ≤ (k : Int) := by omega
    by_cases hlt : k < n
    · have hki : (k : Int) < (n : Int) := by omega
      have hkp : k < ps.length := by rw [HL.out]; exact hlt
      obtain ⟨b, off, rfl, hb, hc⟩ := ((HPs.out.keep (bt HB.out HBr.out)).2.2).resolve_left (by omega)
      obtain ⟨sa, sc, hx, hprg, -⟩ := hc k hkp
      have HM := Lib.hid (maxD_take hkp)
      obtain ⟨p, hp⟩ : ∃ p, p = ps[k] := ⟨_, rfl⟩
      rw [← hp] at hx hprg HM
      have q0 : wr.cell? ⟨b, off + k * 10, none⟩ = some (.int .i64 p.e.kind) := hx 0 (by omega)
      have q1 : wr.cell? ⟨b, off + k * 10 + 1, none⟩ = some (.string p.e.op) := hx 1 (by omega)
      have q2 : wr.cell? ⟨b, off + k * 10 + 2, none⟩ = some (.int .i64 p.e.vk) := hx 2 (by omega)
      have q3 : wr.cell? ⟨b, off + k * 10 + 3, none⟩ = some (.int .i64 p.e.vn) := hx 3 (by omega)
      have q4 : wr.cell? ⟨b, off + k * 10 + 4, none⟩ = some (.string p.e.vs) := hx 4 (by omega)
      have q5 : wr.cell? ⟨b, off + k * 10 + 5, none⟩ = some (.string p.e.tab) := hx 5 (by omega)
      have q6 : wr.cell? ⟨b, off + k * 10 + 6, none⟩ = some (.string p.e.col) := hx 6 (by omega)
      have q7 : wr.cell? ⟨b, off + k * 10 + 7, none⟩ = some (.slice sa p.e.parts.length sc) := hx 7 (by omega)
      have q8 : wr.cell? ⟨b, off + k * 10 + 8, none⟩ = some (.int .i64 p.lv) := hx 8 (by omega)
      have q9 : wr.cell? ⟨b, off + k * 10 + 9, none⟩ = some (.int .i64 p.dp) := hx 9 (by omega)
      have HLt := Lib.hid hlt
      obtain ⟨m, hm⟩ : ∃ m, m = maxD (ps.take k) := ⟨_, rfl⟩
      rw [← hm] at HM ⊢
      have HBx := Lib.hid (show ∀ o, Below w1.heap.size w1 (wr.alloc o) from fun o => bt HBr.out (bel0 o (Below.refl _ _)))
      clear hx hprg hc hp hkp hlt hk hm
      go_wp2
      all_goals
        go_roundw
      case rel => 
        first
          | exact ⟨k + 1, HLt.out, by rw [HM.out] <;> first | rfl | (congr 1; split <;> omega), by go_num, Lib.hid (HBx.out _)⟩
          | (repeat apply Exists.intro
             refine ⟨?_, rfl⟩
             exact ⟨k + 1, HLt.out, by rw [HM.out] <;> first | rfl | (congr 1; split <;> omega), by go_num, Lib.hid (HBx.out _)⟩)
      case measure => have := HLt.out; simp [intOf]; omega
    · obtain ⟨wq, rfl⟩ : ∃ x, x = wr := ⟨_, rfl⟩
      obtain rfl : k = n := by omega
      have HDn := Lib.hid (show maxD (ps.take k) = maxD ps by rw [List.take_of_length_le (by rw [HL.out]; exact Nat.le_refl _)])
      rw [HDn.out]
      obtain ⟨m, hm⟩ : ∃ m, m = maxD ps := ⟨_, rfl⟩
      have HM := Lib.hid hm
      have hm0 : 0 ≤ m ∧ m ≤ 999999 := by rw [hm]; exact ⟨maxD_ge _, HD.out⟩
      rw [← hm]
      have hkk : ¬ ((k : Int) < (k : Int)) := by omega
      have hw2 : wrap64 (m + 1) = m + 1 := by unfold wrap64; omega
      have hw3 : IntKind.i64.wrap (m + 1) = m + 1 := by rw [IntKind.wrap_i64]; omega
      clear hm hlt hk
      go_upto_region 8 with (fail)
      have hO2 := Go.heap_alloc_new wq (.cells #[.int .i64 0, .string ⟨#[]⟩, .int .i64 0, .int .i64 0, .string ⟨#[]⟩, .string ⟨#[]⟩, .string ⟨#[]⟩, .slice none 0 0, .int .i64 lv, .int .i64 (m + 1)] 202 (0, 0))
      have HBr2 := Lib.hid (show Below wq.heap.size wq (wq.alloc (.cells #[.int .i64 0, .string ⟨#[]⟩, .int .i64 0, .int .i64 0, .string ⟨#[]⟩, .string ⟨#[]⟩, .string ⟨#[]⟩, .slice none 0 0, .int .i64 lv, .int .i64 (m + 1)] 202)) from bel0 _ (Below.refl _ _))
      have HZ2 := Lib.hid (show (wq.alloc (.cells #[.int .i64 0, .string ⟨#[]⟩, .int .i64 0, .int .i64 0, .string ⟨#[]⟩, .string ⟨#[]⟩, .string ⟨#[]⟩, .slice none 0 0, .int .i64 lv, .int .i64 (m + 1)] 202)).heap.size = wq.heap.size + 1 by simp)
      generalize (wq.alloc (.cells #[.int .i64 0, .string ⟨#[]⟩, .int .i64 0, .int .i64 0, .string ⟨#[]⟩, .string ⟨#[]⟩, .string ⟨#[]⟩, .slice none 0 0, .int .i64 lv, .int .i64 (m + 1)] 202)) = w2 at *
      have HO2 := Lib.hid hO2
      have HB12 := Lib.hid (bt HBr.out HBr2.out)
      have HR2 := Lib.hid ((HB12.out.block (w.heap.size + 1) (by rw [HZ1.out]; omega)).trans HR1.out)
      have HE2 := Lib.hid ((HB12.out.block w.heap.size (by rw [HZ1.out]; omega)).trans HE1.out)
      have HBw := Lib.hid (bt HB.out HB12.out)
      have hle1 : w.heap.size + 2 ≤ wq.heap.size := by have := HBr.out.size; rw [HZ1.out] at this; exact this
      have HLe := Lib.hid hle1
      obtain ⟨o0, o1, o2, o3, o4, o5, o6, o7, o8, o9, oz, oN⟩ := row10 hO2
      obtain ⟨r0, r1, r2, r3, r4, r5, r6, r7, r8, r9, rz, rN⟩ := row10 HR2.out
      clear hO2 hle1
      by_cases hdeep : (8 : Int) < m + 1
      · have HFin := Lib.hid (vbox10 HR2.out (.int .i64 0) (.string ⟨#[]⟩) (.int .i64 0) (.int .i64 0) (.string ⟨#[]⟩) (.string ⟨#[]⟩) (.string ⟨#[]⟩) (.slice none 0 0) (.int .i64 lv) (.int .i64 (m + 1)))
        have HQ := Lib.hid (show buildP kd op vk vn vs tab col lv ps = ⟨zET, lv, m + 1⟩ by unfold buildP; rw [← HM.out, if_pos hdeep])
        have HBf := Lib.hid (setLe_below (Nat.le_succ w.heap.size) [.int .i64 0, .string ⟨#[]⟩, .int .i64 0, .int .i64 0, .string ⟨#[]⟩, .string ⟨#[]⟩, .string ⟨#[]⟩, .slice none 0 0, .int .i64 lv, .int .i64 (m + 1)] 0 w2 HBw.out)
        go_wp2
        refine bodyPost_ret (results_pt rfl _ _ (w.heap.size + 1) _ _ _ _ _ _ _ _ _ _ rfl HFin.out) rfl ?_
        rw [HQ.out]
        exact ⟨_, rfl, ⟨none, 0, rfl, ⟨prg_zero.e, HLv.out, by show 0 ≤ m + 1; omega, by show m + 1 ≤ 1000000; omega⟩, .nil none⟩, HBf.out⟩
      · have hdd : ¬ (8 : Int) < m + 1 := hdeep
        have HQ := Lib.hid (show buildP kd op vk vn vs tab col lv ps = ⟨.mk kd op vk vn vs tab col (ps.map (·.e)), lv, m + 1⟩ by unfold buildP; rw [← HM.out, if_neg hdeep])
        have hB0 : BdRel w Q (.mk kd op vk vn vs tab col []) (w.heap.size + 1) wq.heap.size w2.heap.size #[.int .i64 0, .string ⟨#[]⟩, .int .i64 0, .int .i64 0, .string ⟨#[]⟩, .string ⟨#[]⟩, .string ⟨#[]⟩, .slice none 0 0, .int .i64 lv, .int .i64 (m + 1)] [] (.slice none 0 0) w2 :=
          ⟨HBw.out, Nat.le_refl _, HR2.out, HO2.out, HE2.out, World.ownsRow_nil _ _ _ _, fun q hq => by cases hq⟩
        have HB0 := Lib.hid hB0
        clear hB0 hdeep r0 r1 r2 r3 r4 r5 r6 r7 r8 r9 rz
        go_wp2_with fail
        go_loopw [34] (fun i wx => ∃ (pl : List (ET × Option Addr × Nat)) (v : Value), pl.length ≤ k ∧ i = .int .i64 (pl.length : Int) ∧ Hid (pl.map (·.1) = (ps.take pl.length).map (·.e) ∧ BdRel w Q (.mk kd op vk vn vs tab col []) (w.heap.size + 1) wq.heap.size w2.heap.size #[.int .i64 0, .string ⟨#[]⟩, .int .i64 0, .int .i64 0, .string ⟨#[]⟩, .string ⟨#[]⟩, .string ⟨#[]⟩, .slice none 0 0, .int .i64 lv, .int .i64 (m + 1)] pl v wx)) (fun i _ => k - (intOf i).toNat)
        case atStart => exact ⟨[], _, Nat.zero_le _, rfl, Lib.hid ⟨rfl, HB0.out⟩⟩
        case round =>
          obtain ⟨wx, rfl⟩ : ∃ x, x = wr := ⟨_, rfl⟩
          obtain ⟨pl, v, hpk, rfl, HX⟩ := hrel
          obtain ⟨j, hj⟩ : ∃ j, j = pl.length := ⟨_, rfl⟩
          have HJ := Lib.hid hj
          rw [← hj]
          have hj0 : (0 : Int) ≤ (j : Int) := by omega
          have hjk : j ≤ k := by rw [hj]; exact hpk
          by_cases hlt : j < k
          · have hji : (j : Int) < (k : Int) := by omega
            have hjp : j < ps.length := by rw [HL.out]; exact hlt
            have HLt := Lib.hid hlt
            have HRel := Lib.hid HX.out.2
            obtain ⟨b, off, rfl, hb, hc⟩ := ((HPs.out.keep HRel.out.below).2.2).resolve_left (by omega)
            obtain ⟨b2, off2, he2, hb2, hc2⟩ := (HPs.out.2.2).resolve_left (by omega)
            cases he2
            obtain ⟨sa, sc, hx2, hprg, hel⟩ := hc2 j hjp
            have hx : ∀ i, i < 10 → wx.cell? ⟨b, off + j * 10 + i, none⟩ = (ptX (ps[j]) sa sc)[i]? := fun i hi => (HRel.out.below.cell (p := ⟨b, off + j * 10 + i, none⟩) hb2).trans (hx2 i hi)
            have HTk := Lib.hid (show (ps.take (j + 1)).map (·.e) = (ps.take j).map (·.e) ++ [(ps[j]).e] by rw [List.take_succ_eq_append_getElem hjp, List.map_append]; rfl)
            obtain ⟨p, hp⟩ : ∃ p, p = ps[j] := ⟨_, rfl⟩
            rw [← hp] at hx hprg hel HTk
            have HEl := Lib.hid (hel.mono (Q' := fun b => Q b ∧ b < w.heap.size) (fun b hb hlt => ⟨hb, hlt⟩))
            have HEr := Lib.hid hprg.e
            have q0 : wx.cell? ⟨b, off + j * 10, none⟩ = some (.int .i64 p.e.kind) := hx 0 (by omega)
            have q1 : wx.cell? ⟨b, off + j * 10 + 1, none⟩ = some (.string p.e.op) := hx 1 (by omega)
            have q2 : wx.cell? ⟨b, off + j * 10 + 2, none⟩ = some (.int .i64 p.e.vk) := hx 2 (by omega)
            have q3 : wx.cell? ⟨b, off + j * 10 + 3, none⟩ = some (.int .i64 p.e.vn) := hx 3 (by omega)
            have q4 : wx.cell? ⟨b, off + j * 10 + 4, none⟩ = some (.string p.e.vs) := hx 4 (by omega)
            have q5 : wx.cell? ⟨b, off + j * 10 + 5, none⟩ = some (.string p.e.tab) := hx 5 (by omega)
            have q6 : wx.cell? ⟨b, off + j * 10 + 6, none⟩ = some (.string p.e.col) := hx 6 (by omega)
            have q7 : wx.cell? ⟨b, off + j * 10 + 7, none⟩ = some (.slice sa p.e.parts.length sc) := hx 7 (by omega)
            have q8 : wx.cell? ⟨b, off + j * 10 + 8, none⟩ = some (.int .i64 p.lv) := hx 8 (by omega)
            have q9 : wx.cell? ⟨b, off + j * 10 + 9, none⟩ = some (.int .i64 p.dp) := hx 9 (by omega)
            have HMp := Lib.hid (show ∀ y : ET × Option Addr × Nat, y.1 = p.e → (pl ++ [y]).map (·.1) = (ps.take (pl ++ [y]).length).map (·.e) from fun y hy => by
              rw [List.length_append, ← HJ.out]
              show _ = (ps.take (j + 1)).map (·.e)
              rw [HTk.out, List.map_append, HX.out.1, ← HJ.out]
              simp [hy])
            have HPl := Lib.hid (show pl.length ≤ 100000 by rw [← HJ.out]; omega)
            have hB2 : w2.heap.size ≤ wx.heap.size := HRel.out.size
            have HB2 := Lib.hid hB2
            clear hx hx2 hprg hel hp hc hc2 hj hpk hlt hjk hjp hb2
            clear o0 o1 o2 o3 o4 o5 o6 o7 o8 o9 oz
            go_upto_region 13 with (fail)
            have hbx := Go.heap_alloc_new wx (.cells #[.int .i64 p.e.kind, .string p.e.op, .int .i64 p.e.vk, .int .i64 p.e.vn, .string p.e.vs, .string p.e.tab, .string p.e.col, .slice sa p.e.parts.length sc, .int .i64 p.lv, .int .i64 p.dp] 202 (0, 0))
            have HW5 := Lib.hid (show Below wx.heap.size wx (wx.alloc (.cells #[.int .i64 p.e.kind, .string p.e.op, .int .i64 p.e.vk, .int .i64 p.e.vn, .string p.e.vs, .string p.e.tab, .string p.e.col, .slice sa p.e.parts.length sc, .int .i64 p.lv, .int .i64 p.dp] 202)) from bel0 _ (Below.refl _ _))
            generalize (wx.alloc (.cells #[.int .i64 p.e.kind, .string p.e.op, .int .i64 p.e.vk, .int .i64 p.e.vn, .string p.e.vs, .string p.e.tab, .string p.e.col, .slice sa p.e.parts.length sc, .int .i64 p.lv, .int .i64 p.dp] 202)) = w5 at *
            obtain ⟨b0, b1, b2, b3, b4, b5, b6, b7, b8, b9, bz, bN⟩ := row10 hbx
            have HRow := Lib.hid (own_below HRel.out.row HW5.out)
            have hE5 := (HW5.out.block w.heap.size (by have := HBw.out.size; have := HLe.out; omega)).trans HRel.out.box
            have e7 : w5.cell? ⟨w.heap.size, 7, none⟩ = some v := cell_of_row _ _ 7 _ _ _ hE5
            have ez : w5.frozen? ⟨w.heap.size, 7, none⟩ = false := frozen_of_row _ _ 7 _ _ hE5
            have eN : w.heap.size < w5.heap.size := (Array.getElem?_eq_some_iff.1 hE5).1
            have HSz5 := Lib.hid (show w2.heap.size ≤ w5.heap.size from Nat.le_trans HB2.out HW5.out.size)
            have HEb := Lib.hid (show w.heap.size < w2.heap.size by rw [HZ2.out]; have := HLe.out; omega)
            have HSt := Lib.hid (show ∀ (W w4 : World), Below w5.heap.size w5 W → W.grownBy w4 v.ownBlock → w4.heap[w.heap.size]? = some (.cells (etC (.mk kd op vk vn vs tab col []) v) 82 (0, 0)) from fun W w4 hW hg => HRel.out.keepE HEb.out (bt HW5.out hW) hg)
            have HNx := Lib.hid (fun (W w4 : World) (g cap : Nat) (hW : Below w5.heap.size w5 W) (hg : W.grownBy w4 v.ownBlock) (hown : w4.ownsRow w2.heap.size 82 8 (.slice (some ⟨g, 0, none⟩) (pl.length + 1) cap) (pl ++ [(p.e, sa, sc)]).length (plOf (pl ++ [(p.e, sa, sc)]))) =>
              HRel.out.next (y := (p.e, sa, sc)) ⟨by rw [HZ2.out]; have := HLe.out; omega, by omega⟩ ⟨by rw [HZ2.out]; omega, by have := HLe.out; omega⟩ HEb.out (bt HW5.out hW) HEr.out HEl.out hown hg)
            clear hbx hE5
            go_wp2_with (at_builtin; refine wpl_et rfl (.tmp 39) (.tmp 42) rfl w2.heap.size v pl w5.heap.size (p.e, sa, sc) rfl rfl (by exact HRow.out.alloc _) (by exact Go.heap_alloc_new w5 _) HPl.out (by have := HSz5.out; simp; omega) ?_; intro g cap w4 hown hgrow; have hE4 := HSt.out _ w4 (by repeat (first | exact Below.refl _ _ | refine bel0 _ ?_ | refine Below.drew ?_)) hgrow; have d7 : w4.cell? ⟨w.heap.size, 7, none⟩ = some v := cell_of_row _ _ 7 _ _ _ hE4; have dz : w4.frozen? ⟨w.heap.size, 7, none⟩ = false := frozen_of_row _ _ 7 _ _ hE4; have dN : w.heap.size < w4.heap.size := (Array.getElem?_eq_some_iff.1 hE4).1; have HN4 := Lib.hid (HNx.out _ w4 g cap (by repeat (first | exact Below.refl _ _ | refine bel0 _ ?_ | refine Below.drew ?_)) hgrow hown); clear hown hgrow hE4)
            go_roundw
            case rel =>
              first
                | exact ⟨pl ++ [(p.e, sa, sc)], _, by rw [List.length_append, ← HJ.out]; exact HLt.out, by rw [List.length_append, ← HJ.out]; go_num, Lib.hid ⟨HMp.out _ rfl, HN4.out⟩⟩
                | (repeat apply Exists.intro
                   refine ⟨?_, rfl⟩
                   exact ⟨pl ++ [(p.e, sa, sc)], _, by rw [List.length_append, ← HJ.out]; exact HLt.out, by rw [List.length_append, ← HJ.out]; go_num, Lib.hid ⟨HMp.out _ rfl, HN4.out⟩⟩)
            case measure => have := HLt.out; simp [intOf]; omega
          · obtain rfl : j = k := by omega
            obtain ⟨a, cap, hv, hel, hnil, hle, hcap⟩ := HX.out.2.done (by have := HLe.out; rw [HZ2.out]; omega)
            subst hv
            rw [← hj] at hnil hle
            have HEl := Lib.hid hel
            have HNil := Lib.hid hnil
            have HCap := Lib.hid (And.intro hle hcap)
            have HMap := Lib.hid (show pl.map (·.1) = ps.map (·.e) by
              have := HX.out.1
              rwa [← HJ.out, List.take_of_length_le (by rw [HL.out]; exact Nat.le_refl _)] at this)
            have HBx := Lib.hid HX.out.2.below
            have hEb := HX.out.2.box
            have hOb := HX.out.2.out
            have hRb := HX.out.2.res
            simp only [etC, ET.kind, ET.op, ET.vk, ET.vn, ET.vs, ET.tab, ET.col] at hEb
            rw [← hj] at hEb
            obtain ⟨g0, g1, g2, g3, g4, g5, g6, g7, gz, gN⟩ := row8 hEb
            obtain ⟨p0, p1, p2, p3, p4, p5, p6, p7, p8, p9, pz, pN⟩ := row10 hOb
            have hOR : w.heap.size + 1 ≠ wq.heap.size := by have := HLe.out; omega
            have HO6 := Lib.hid (vbox8 hOb (.int .i64 kd) (.string op) (.int .i64 vk) (.int .i64 vn) (.string vs) (.string tab) (.string col) (.slice a j cap))
            have HR6 := Lib.hid ((setLe_other hOR [.int .i64 kd, .string op, .int .i64 vk, .int .i64 vn, .string vs, .string tab, .string col, .slice a j cap] 0 wx).trans hRb)
            have HB6 := Lib.hid (setLe_below (w0 := w) (K := w.heap.size) (B := wq.heap.size) (by have := HLe.out; omega) [.int .i64 kd, .string op, .int .i64 vk, .int .i64 vn, .string vs, .string tab, .string col, .slice a j cap] 0 wx HBx.out)
            have HE6 := Lib.hid (hel.far (w' := setLe wx wq.heap.size 0 [.int .i64 kd, .string op, .int .i64 vk, .int .i64 vn, .string vs, .string tab, .string col, .slice a j cap]) (Nat.le_of_eq (setLe_size _ _ _).symm) (fun b hb hlt => setLe_other (by
              rintro rfl
              have h1 := HLe.out
              have h2 := HZ2.out
              rcases hb with ⟨_, hb⟩ | hb
              · omega
              · omega) _ _ _))
            have hkk2 : ¬ ((j : Int) < (j : Int)) := by omega
            obtain ⟨w6, hw6⟩ : ∃ w6, w6 = setLe wx wq.heap.size 0 [.int .i64 kd, .string op, .int .i64 vk, .int .i64 vn, .string vs, .string tab, .string col, .slice a j cap] := ⟨_, rfl⟩
            rw [← hw6] at HO6 HR6 HB6 HE6
            simp only [setLe] at hw6
            have HW6 := Lib.hid hw6
            clear hw6 hEb hOb hRb hel hnil hle hcap hpk hj hlt hjk o0 o1 o2 o3 o4 o5 o6 o7 o8 o9 oz oN
            go_upto_region 16 with (fail)
            rw [← HW6.out]
            clear g0 g1 g2 g3 g4 g5 g6 g7 gz gN p0 p1 p2 p3 p4 p5 p6 p7 p8 p9 pz pN HW6
            obtain ⟨p0, p1, p2, p3, p4, p5, p6, p7, p8, p9, pz, pN⟩ := row10 HO6.out
            obtain ⟨r0, r1, r2, r3, r4, r5, r6, r7, r8, r9, rz, rN⟩ := row10 HR6.out
            have HFin := Lib.hid (vbox10 HR6.out (.int .i64 kd) (.string op) (.int .i64 vk) (.int .i64 vn) (.string vs) (.string tab) (.string col) (.slice a j cap) (.int .i64 lv) (.int .i64 (m + 1)))
            have HBf := Lib.hid (setLe_below (Nat.le_succ w.heap.size) [.int .i64 kd, .string op, .int .i64 vk, .int .i64 vn, .string vs, .string tab, .string col, .slice a j cap, .int .i64 lv, .int .i64 (m + 1)] 0 w6 HB6.out)
            have HEf := Lib.hid (HE6.out.far (w' := setLe w6 (w.heap.size + 1) 0 [.int .i64 kd, .string op, .int .i64 vk, .int .i64 vn, .string vs, .string tab, .string col, .slice a j cap, .int .i64 lv, .int .i64 (m + 1)]) (Nat.le_of_eq (setLe_size _ _ _).symm) (fun b hb hlt => setLe_other (by
              rintro rfl
              have h1 := HLe.out
              have h2 := HZ2.out
              rcases hb with ⟨_, hb⟩ | hb
              · omega
              · omega) _ _ _))
            go_wp2
            refine bodyPost_ret (results_pt rfl _ _ (w.heap.size + 1) _ _ _ _ _ _ _ _ _ _ rfl HFin.out) rfl ?_
            rw [HQ.out]
            refine ⟨_, rfl, ⟨a, cap, ?_, ⟨?_, HLv.out, by show 0 ≤ m + 1; omega, by show m + 1 ≤ 1000000; omega⟩, ?_⟩, HBf.out⟩
            · simp only [ptX, ET.kind, ET.op, ET.vk, ET.vn, ET.vs, ET.tab, ET.col, ET.parts, List.length_map, HL.out]
            · have r := HRg.out
              exact ⟨r.k, r.a, r.n, r.o, r.s, r.t, r.c, fun h => ⟨by show (ps.map (·.e)).length = 0; rw [List.length_map, HL.out]; exact (HNil.out h).1, (HNil.out h).2⟩, by show (ps.map (·.e)).length ≤ cap; rw [List.length_map, HL.out]; exact HCap.out.1, HCap.out.2⟩
            · show EL _ _ a (ps.map (·.e))
              rw [← HMap.out]
              exact HEf.out.mono (fun b hb _ => hb.elim (fun h => .inl h.1) (fun h => .inr (by have h1 := HLe.out; have h2 := HZ2.out; omega)))
end Go.Proofs.YtknhphcfcpjhiaaGreatDoor
