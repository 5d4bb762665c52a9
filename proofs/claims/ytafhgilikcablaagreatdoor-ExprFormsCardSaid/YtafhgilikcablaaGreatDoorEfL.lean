/- ExprForms: the law's walk. -/
import Derived.Test.YtafhgilikcablaaGreatDoorEfAw
import Derived.Test.YtafhgilikcablaaGreatDoorEfR
import Derived.Test.YtafhgilikcablaaGreatDoorEtSame
import Derived.Test.YtafhgilikcablaaGreatDoorEtFm
import Derived.Deep.RegionHeld3
import Derived.Test.YtafhgilikcablaaGreatDoorEtTh
namespace Go.Proofs.YtafhgilikcablaaGreatDoor
open Go.RowKit
set_option linter.unusedVariables false
set_option linter.unusedSimpArgs false
set_option maxRecDepth 100000
set_option maxHeartbeats 12800000 in
theorem exprForms_walk (e f : ET) (w : World) (hv : VOk w) (hN : gMax < w.heap.size ∧ gErr < w.heap.size) (Q Q' : Nat → Prop) (ve vf : Value) (hve : EV w Q ve e) (hvf : EV w Q' vf f) :
    Calls Tryz.prog 3 #[ve, vf] w fun e' w' => e' = .returned (.bool true) ∧ Below w.heap.size w w' := by
  obtain ⟨pa, pc, rfl, hrg, hel⟩ := hve
  obtain ⟨qa, qc, rfl, hrgf, helf⟩ := hvf
  have HEe := Lib.hid (show ∀ W, Below w.heap.size w W → EV W Q (.agg #[.int .i64 e.kind, .string e.op, .int .i64 e.vk, .int .i64 e.vn, .string e.vs, .string e.tab, .string e.col, .slice pa e.parts.length pc]) e from fun W hW => ⟨pa, pc, rfl, hrg, hel.keep hW⟩)
  have HEf := Lib.hid (show ∀ W, Below w.heap.size w W → EV W Q' (.agg #[.int .i64 f.kind, .string f.op, .int .i64 f.vk, .int .i64 f.vn, .string f.vs, .string f.tab, .string f.col, .slice qa f.parts.length qc]) f from fun W hW => ⟨qa, qc, rfl, hrgf, helf.keep hW⟩)
  have HA := Lib.hid (show ∀ W, Below w.heap.size w W → Calls Tryz.prog 5 #[] W fun e w' => e = .returned (.bool true) ∧ Below W.heap.size W w' from fun W hW => awake06 W (hv.below hW hN) ⟨by have := hW.size; omega, by have := hW.size; omega⟩)
  rw [etX_arr, etX_arr]
  clear hv hrg hel hrgf helf
  have HB := Lib.hid (bel0 (.cells #[.int .i64 f.kind, .string f.op, .int .i64 f.vk, .int .i64 f.vn, .string f.vs, .string f.tab, .string f.col, .slice qa f.parts.length qc] 26) (bel0 (.cells #[.int .i64 e.kind, .string e.op, .int .i64 e.vk, .int .i64 e.vn, .string e.vs, .string e.tab, .string e.col, .slice pa e.parts.length pc] 26) (Below.refl w.heap.size w)))
  have HBX := Lib.hid (boxes_lit w (.cells #[.int .i64 e.kind, .string e.op, .int .i64 e.vk, .int .i64 e.vn, .string e.vs, .string e.tab, .string e.col, .slice pa e.parts.length pc] 26 (0, 0)) (.cells #[.int .i64 f.kind, .string f.op, .int .i64 f.vk, .int .i64 f.vn, .string f.vs, .string f.tab, .string f.col, .slice qa f.parts.length qc] 26 (0, 0)))
  go_enter Tryz.func3, Tryz.ntmps3
  go_upto_region 1 with (fail)
  generalize ((w.alloc (.cells #[.int .i64 e.kind, .string e.op, .int .i64 e.vk, .int .i64 e.vn, .string e.vs, .string e.tab, .string e.col, .slice pa e.parts.length pc] 26)).alloc (.cells #[.int .i64 f.kind, .string f.op, .int .i64 f.vk, .int .i64 f.vn, .string f.vs, .string f.tab, .string f.col, .slice qa f.parts.length qc] 26)) = w1 at *
  have HC := Lib.hid (show ∀ W : World, Below w1.heap.size w1 W → W.heap[w.heap.size]? = some (.cells #[.int .i64 e.kind, .string e.op, .int .i64 e.vk, .int .i64 e.vn, .string e.vs, .string e.tab, .string e.col, .slice pa e.parts.length pc] 26 (0, 0)) ∧ W.heap[w.heap.size + 1]? = some (.cells #[.int .i64 f.kind, .string f.op, .int .i64 f.vk, .int .i64 f.vn, .string f.vs, .string f.tab, .string f.col, .slice qa f.parts.length qc] 26 (0, 0)) ∧ w.heap.size < W.heap.size ∧ w.heap.size + 1 < W.heap.size from fun W h => by
    obtain ⟨⟨h0, h1⟩, hz⟩ := HBX.out
    have k1 := (h.block (w.heap.size + 1) (by omega)).trans h1
    have k0 := (h.block w.heap.size (by omega)).trans h0
    exact ⟨k0, k1, (Array.getElem?_eq_some_iff.1 k0).1, (Array.getElem?_eq_some_iff.1 k1).1⟩)
  clear HBX
  go_wp2_with fail
  refine (HA.out _ HB.out).mono ?_
  rintro e' w2 ⟨rfl, hb2⟩
  have HB2 := Lib.hid (show Below w1.heap.size w1 w2 from hb2)
  have HBw2 := Lib.hid (bt HB.out hb2)
  clear hb2
  obtain ⟨k0, k1, k2, k3⟩ := HC.out _ HB2.out
  obtain ⟨e0, e1, e2, e3, e4, e5, e6, e7⟩ := cells8E k0
  clear k0 k1
  go_wp2_with fail
  refine (small_any _ Q _ e (HEe.out _ HBw2.out)).mono ?_
  rintro e' w4 ⟨rfl, hb4⟩
  have HB4 := Lib.hid (bt HB2.out hb4)
  have HBw4 := Lib.hid (bt HBw2.out hb4)
  clear hb4 e0 e1 e2 e3 e4 e5 e6 e7 k2 k3
  cases hse : smallB e with
  | false =>
    go_wp2_with fail
    refine (HA.out _ HBw4.out).mono ?_
    rintro e' w9 ⟨rfl, hb9⟩
    have HB9 := Lib.hid (bt HBw4.out hb9)
    clear hb9
    go_wp2_with fail
    go_ret
    exact ⟨rfl, HB9.out⟩
  | true =>
  have HSe := Lib.hid (small_sz hse)
  obtain ⟨k0, k1, k2, k3⟩ := HC.out _ HB4.out
  obtain ⟨e0, e1, e2, e3, e4, e5, e6, e7⟩ := cells8E k1
  clear k0 k1 hse
  go_wp2_with fail
  refine (small_any _ Q' _ f (HEf.out _ HBw4.out)).mono ?_
  rintro e' w5 ⟨rfl, hb5⟩
  have HB5 := Lib.hid (bt HB4.out hb5)
  have HBw5 := Lib.hid (bt HBw4.out hb5)
  clear hb5 e0 e1 e2 e3 e4 e5 e6 e7 k2 k3
  cases hsf : smallB f with
  | false =>
    go_wp2_with fail
    refine (HA.out _ HBw5.out).mono ?_
    rintro e' w9 ⟨rfl, hb9⟩
    have HB9 := Lib.hid (bt HBw5.out hb9)
    clear hb9
    go_wp2_with fail
    go_ret
    exact ⟨rfl, HB9.out⟩
  | true =>
  have HSf := Lib.hid (small_sz hsf)
  clear hsf
  go_upto_region 3 with (fail)
  refine wp_mono (ef_r3 e f pa qa pc qc w.heap.size (w.heap.size + 1) w5 _ _ _ _ _ _ _ _ _ _ _ _ _ _ _ _ _ _ _ _ _ _ _ _ _ _ _ _ _ _ _ _ _ _ _ ?hK ?hE ?hF) ?_
  case hK =>
    intro W h
    obtain ⟨k0, k1, -, -⟩ := HC.out W (bt HB5.out h)
    exact ⟨cells8E k0, cells8E k1⟩
  case hE => exact fun W h => etheirs_any (etSz e) e (Nat.le_refl _) (by have := HSe.out; omega) W Q _ (HEe.out _ (bt HBw5.out h))
  case hF => exact fun W h => etheirs_any (etSz f) f (Nat.le_refl _) (by have := HSf.out; omega) W Q' _ (HEf.out _ (bt HBw5.out h))
  rintro e0 a' w6 ⟨rfl, B5, B6, u20, u21, u22, u23, rfl, ra, rb, rc, rd, h5, h6, hr5, hr6, hl5, hl6, hb6⟩
  have HB6 := Lib.hid (bt HB5.out hb6)
  have HBw6 := Lib.hid (bt HBw5.out hb6)
  have HX := Lib.hid (show ∀ s : Fut w6, EV s.to (fun _ => True) (.agg #[.int .i64 e.kind, .string e.op, .int .i64 e.vk, .int .i64 e.vn, .string e.vs, .string e.tab, .string e.col, .slice ra e.parts.length rc]) e from fun s => ⟨ra, rc, rfl, hr5, hl5.keep s.bel⟩)
  have HY := Lib.hid (show ∀ s : Fut w6, EV s.to (fun _ => True) (.agg #[.int .i64 f.kind, .string f.op, .int .i64 f.vk, .int .i64 f.vn, .string f.vs, .string f.tab, .string f.col, .slice rb f.parts.length rd]) f from fun s => ⟨rb, rd, rfl, hr6, hl6.keep s.bel⟩)
  have HXd := Lib.hid (show ∀ s : Fut w6, EV s.to Q (.agg #[.int .i64 e.kind, .string e.op, .int .i64 e.vk, .int .i64 e.vn, .string e.vs, .string e.tab, .string e.col, .slice pa e.parts.length pc]) e from fun s => HEe.out _ (bt HBw6.out s.bel))
  have HYd := Lib.hid (show ∀ s : Fut w6, EV s.to Q' (.agg #[.int .i64 f.kind, .string f.op, .int .i64 f.vk, .int .i64 f.vn, .string f.vs, .string f.tab, .string f.col, .slice qa f.parts.length qc]) f from fun s => HEf.out _ (bt HBw6.out s.bel))
  obtain ⟨k0, k1, k2, k3⟩ := HC.out _ HB6.out
  obtain ⟨e0, e1, e2, e3, e4, e5, e6, e7⟩ := cells8E k0
  obtain ⟨f0, f1, f2, f3, f4, f5, f6, f7⟩ := cells8E k1
  obtain ⟨g0, g1, g2, g3, g4, g5, g6, g7⟩ := cells8E h5
  obtain ⟨i0, i1, i2, i3, i4, i5, i6, i7⟩ := cells8E h6
  obtain ⟨fb, hfb⟩ : ∃ fb, fb = fmdB e := ⟨_, rfl⟩
  obtain ⟨sb, hsb⟩ : ∃ sb, sb = sameE e f := ⟨_, rfl⟩
  have HFp := Lib.hid (show ∀ s : Fut w6, Calls Tryz.prog 8 #[.agg #[.int .i64 e.kind, .string e.op, .int .i64 e.vk, .int .i64 e.vn, .string e.vs, .string e.tab, .string e.col, .slice ra e.parts.length rc]] s.to fun e' w' => e' = .returned (.bool fb) ∧ Below s.to.heap.size s.to w' from fun s => by rw [hfb]; exact pFormed_any _ _ _ e (HX.out s))
  have HFr := Lib.hid (show ∀ s : Fut w6, Calls Tryz.prog 9 #[.agg #[.int .i64 e.kind, .string e.op, .int .i64 e.vk, .int .i64 e.vn, .string e.vs, .string e.tab, .string e.col, .slice pa e.parts.length pc]] s.to fun e' w' => e' = .returned (.bool fb) ∧ Below s.to.heap.size s.to w' from fun s => by rw [hfb]; exact rFormed_any _ _ _ e (HXd.out s))
  have HSp := Lib.hid (show ∀ s : Fut w6, Calls Tryz.prog 10 #[.agg #[.int .i64 e.kind, .string e.op, .int .i64 e.vk, .int .i64 e.vn, .string e.vs, .string e.tab, .string e.col, .slice ra e.parts.length rc], .agg #[.int .i64 f.kind, .string f.op, .int .i64 f.vk, .int .i64 f.vn, .string f.vs, .string f.tab, .string f.col, .slice rb f.parts.length rd]] s.to fun e' w' => e' = .returned (.bool sb) ∧ Below s.to.heap.size s.to w' from fun s => by rw [hsb]; exact sameE_any (etSz e) e (Nat.le_refl _) f _ _ _ _ _ (HX.out s) (HY.out s))
  have HSr := Lib.hid (show ∀ s : Fut w6, Calls Tryz.prog 11 #[.agg #[.int .i64 e.kind, .string e.op, .int .i64 e.vk, .int .i64 e.vn, .string e.vs, .string e.tab, .string e.col, .slice pa e.parts.length pc], .agg #[.int .i64 f.kind, .string f.op, .int .i64 f.vk, .int .i64 f.vn, .string f.vs, .string f.tab, .string f.col, .slice qa f.parts.length qc]] s.to fun e' w' => e' = .returned (.bool sb) ∧ Below s.to.heap.size s.to w' from fun s => by rw [hsb]; exact same05_any (etSz e) e (Nat.le_refl _) f _ _ _ _ _ (HXd.out s) (HYd.out s))
  have HSx := Lib.hid (show ∀ s : Fut w6, Calls Tryz.prog 10 #[.agg #[.int .i64 e.kind, .string e.op, .int .i64 e.vk, .int .i64 e.vn, .string e.vs, .string e.tab, .string e.col, .slice ra e.parts.length rc], .agg #[.int .i64 e.kind, .string e.op, .int .i64 e.vk, .int .i64 e.vn, .string e.vs, .string e.tab, .string e.col, .slice ra e.parts.length rc]] s.to fun e' w' => e' = .returned (.bool true) ∧ Below s.to.heap.size s.to w' from fun s => by
    have h := sameE_any (etSz e) e (Nat.le_refl _) e _ _ _ _ _ (HX.out s) (HX.out s)
    rw [sameE_refl (etSz e) e (Nat.le_refl _)] at h
    exact h)
  clear h5 h6 hr5 hr6 hl5 hl6 hb6 k0 k1 k2 k3 hfb hsb
  go_upto_region 4 with (fail)
  have je0 := Fut.cell e0
  have je1 := Fut.cell e1
  have je2 := Fut.cell e2
  have je3 := Fut.cell e3
  have je4 := Fut.cell e4
  have je5 := Fut.cell e5
  have je6 := Fut.cell e6
  have je7 := Fut.cell e7
  have jf0 := Fut.cell f0
  have jf1 := Fut.cell f1
  have jf2 := Fut.cell f2
  have jf3 := Fut.cell f3
  have jf4 := Fut.cell f4
  have jf5 := Fut.cell f5
  have jf6 := Fut.cell f6
  have jf7 := Fut.cell f7
  have jg0 := Fut.cell g0
  have jg1 := Fut.cell g1
  have jg2 := Fut.cell g2
  have jg3 := Fut.cell g3
  have jg4 := Fut.cell g4
  have jg5 := Fut.cell g5
  have jg6 := Fut.cell g6
  have jg7 := Fut.cell g7
  have ji0 := Fut.cell i0
  have ji1 := Fut.cell i1
  have ji2 := Fut.cell i2
  have ji3 := Fut.cell i3
  have ji4 := Fut.cell i4
  have ji5 := Fut.cell i5
  have ji6 := Fut.cell i6
  have ji7 := Fut.cell i7
  clear e0 e1 e2 e3 e4 e5 e6 e7 f0 f1 f2 f3 f4 f5 f6 f7 g0 g1 g2 g3 g4 g5 g6 g7 i0 i1 i2 i3 i4 i5 i6 i7
  refine wp_region_fut (by kernel_rfl) (by kernel_rfl) ?_
  repeat (go_big_quiet_step (first
    | (go_at_call 8; exact calls_fut (HFp.out _))
    | (go_at_call 9; exact calls_fut (HFr.out _))
    | (go_at_call 10; with_reducible exact calls_fut (HSp.out _))
    | (go_at_call 10; with_reducible exact calls_fut (HSx.out _))
    | (go_at_call 11; exact calls_fut (HSr.out _))))
  refine wpQuiet_nil ?_
  rintro _ ⟨s3, rfl⟩
  have hb7 := s3.bel
  generalize s3.to = w7 at *
  have HB7 := Lib.hid (bt HBw6.out hb7)
  clear hb7
  go_wp2
  go_ret
  exact ⟨rfl, HB7.out⟩
end Go.Proofs.YtafhgilikcablaaGreatDoor
