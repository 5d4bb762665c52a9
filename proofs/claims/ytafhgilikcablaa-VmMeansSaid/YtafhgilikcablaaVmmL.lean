/- VmMeans: the law's walk. Written by gencml.py. -/
import Derived.Test.YtafhgilikcablaaAwFw
import Derived.Test.YtafhgilikcablaaSvVc
import Derived.Test.YtafhgilikcablaaVmAw
namespace Go.Proofs.Ytafhgilikcablaa
open Go.RowKit
set_option linter.unusedVariables false
set_option linter.unusedSimpArgs false
set_option maxRecDepth 100000
set_option maxHeartbeats 12800000 in
theorem vmMeans_walk (tabs : List TB) (srcs : List Int) (e : ET) (R : List (List Val)) (w : World) (Q : Nat → Prop) (ta sa : Option Addr) (tn tc sn sc : Nat) (ve : Value) (a : Option Addr) (len cap : Nat) (ht : TabsAt w ta tabs) (hs : IntsAt w sa srcs) (htn : tn = tabs.length) (hsn : sn = srcs.length) (htl : tn ≤ 9223372036854775807) (hsl : sn ≤ 9223372036854775807) (hve : EV w Q ve e) (hR : IsRR w a len R) (hRR : RowsR R) :
    Calls Try.prog 7 #[.slice ta tn tc, .slice sa sn sc, ve, .slice a len cap] w fun e' w' => e' = .returned (.bool true) ∧ Below w.heap.size w w' := by
  have HRg := Lib.hid hve.rg
  obtain ⟨pa, pc, rfl, hrg, hel⟩ := hve
  have HEe := Lib.hid (show ∀ W, Below w.heap.size w W → EV W Q (.agg #[.int .i64 e.kind, .string e.op, .int .i64 e.vk, .int .i64 e.vn, .string e.vs, .string e.tab, .string e.col, .slice pa e.parts.length pc]) e from fun W hW => ⟨pa, pc, rfl, hrg, hel.keep hW⟩)
  have HTb := Lib.hid ht
  have HSr := Lib.hid hs
  have HTn := Lib.hid htn
  have HSn := Lib.hid hsn
  have HTl := Lib.hid htl
  have HR := Lib.hid hR
  have HRR := Lib.hid hRR
  have e0 : (etX e pa pc).toArray = #[.int .i64 e.kind, .string e.op, .int .i64 e.vk, .int .i64 e.vn, .string e.vs, .string e.tab, .string e.col, .slice pa e.parts.length pc] := rfl
  rw [e0]
  clear ht hs htn hsn hrg hel e0 hR hRR
  have HB := Lib.hid (bel0 (.cells #[.int .i64 e.kind, .string e.op, .int .i64 e.vk, .int .i64 e.vn, .string e.vs, .string e.tab, .string e.col, .slice pa e.parts.length pc] 41) (Below.refl w.heap.size w))
  have HBX := Lib.hid (show (w.alloc (.cells #[.int .i64 e.kind, .string e.op, .int .i64 e.vk, .int .i64 e.vn, .string e.vs, .string e.tab, .string e.col, .slice pa e.parts.length pc] 41)).heap[w.heap.size]? = some (.cells #[.int .i64 e.kind, .string e.op, .int .i64 e.vk, .int .i64 e.vn, .string e.vs, .string e.tab, .string e.col, .slice pa e.parts.length pc] 41 (0, 0)) ∧ (w.alloc (.cells #[.int .i64 e.kind, .string e.op, .int .i64 e.vk, .int .i64 e.vn, .string e.vs, .string e.tab, .string e.col, .slice pa e.parts.length pc] 41)).heap.size = w.heap.size + 1 from ⟨Go.heap_alloc_new w _, by simp⟩)
  go_enter Try.func7, Try.ntmps7
  go_upto_region 1 with (fail)
  generalize (w.alloc (.cells #[.int .i64 e.kind, .string e.op, .int .i64 e.vk, .int .i64 e.vn, .string e.vs, .string e.tab, .string e.col, .slice pa e.parts.length pc] 41)) = w1 at *
  have HC := Lib.hid (show ∀ W : World, Below w1.heap.size w1 W → W.heap[w.heap.size]? = some (.cells #[.int .i64 e.kind, .string e.op, .int .i64 e.vk, .int .i64 e.vn, .string e.vs, .string e.tab, .string e.col, .slice pa e.parts.length pc] 41 (0, 0)) ∧ w.heap.size < W.heap.size from fun W h => by
    obtain ⟨h0, hz⟩ := HBX.out
    have k0 := (h.block w.heap.size (by omega)).trans h0
    exact ⟨k0, (Array.getElem?_eq_some_iff.1 k0).1⟩)
  clear HBX
  go_wp2_with fail
  refine (vmawake_any _).mono ?_
  rintro e' w2 ⟨rfl, hb2⟩
  have HB1 := Lib.hid (show Below w1.heap.size w1 w2 from hb2)
  clear hb2
  go_wp2_with fail
  refine (few2_any _ ta tn tc tabs (HTb.out.keep (bt HB.out HB1.out)) HTn.out HTl.out).mono ?_
  rintro e' w3 ⟨⟨fb, rfl, hkd⟩, hw3⟩
  obtain rfl := hw3.symm
  have HKd := Lib.hid hkd
  have HBw := Lib.hid (bt HB.out HB1.out)
  clear hkd
  cases fb with
  | false =>
    go_wp2_with fail
    refine (vmawake_any _).mono ?_
    rintro e' w9 ⟨rfl, hb9⟩
    have HB9 := Lib.hid (bt HBw.out hb9)
    clear hb9
    go_wp2_with fail
    go_ret
    exact ⟨rfl, HB9.out⟩
  | true =>
  by_cases h20 : (20 : Int) < (sn : Int)
  · go_wp2_with fail
    refine (vmawake_any _).mono ?_
    rintro e' w9 ⟨rfl, hb9⟩
    have HB9 := Lib.hid (bt HBw.out hb9)
    clear hb9
    go_wp2_with fail
    go_ret
    exact ⟨rfl, HB9.out⟩
  by_cases hr20 : (20 : Int) < (len : Int)
  · go_wp2_with fail
    refine (vmawake_any _).mono ?_
    rintro e' w9 ⟨rfl, hb9⟩
    have HB9 := Lib.hid (bt HBw.out hb9)
    clear hb9
    go_wp2_with fail
    go_ret
    exact ⟨rfl, HB9.out⟩
  have hs20 : srcs.length ≤ 1000 := by have := HSn.out; omega
  have HS20 := Lib.hid hs20
  clear hs20
  obtain ⟨k0, k2⟩ := HC.out _ HB1.out
  obtain ⟨e0, e1, e2, e3, e4, e5, e6, e7⟩ := cellsE k0
  clear k0
  go_wp2_with fail
  refine (small_any _ Q _ e (HEe.out _ HBw.out)).mono ?_
  rintro e' w4 ⟨rfl, hb4⟩
  have HB4 := Lib.hid (bt HB1.out hb4)
  have HBw := Lib.hid (bt HBw.out hb4)
  clear hb4 e0 e1 e2 e3 e4 e5 e6 e7 k2
  cases hse : smallB e with
  | false =>
    go_wp2_with fail
    refine (vmawake_any _).mono ?_
    rintro e' w9 ⟨rfl, hb9⟩
    have HB9 := Lib.hid (bt HBw.out hb9)
    clear hb9
    go_wp2_with fail
    go_ret
    exact ⟨rfl, HB9.out⟩
  | true =>
  have HSe := Lib.hid (small_sz hse)
  clear hse
  obtain ⟨k0, k2⟩ := HC.out _ HB4.out
  obtain ⟨e0, e1, e2, e3, e4, e5, e6, e7⟩ := cellsE k0
  clear k0
  go_wp2_with fail
  refine (rvalue_any tabs srcs e (by have := HSe.out; omega) HS20.out (by have := HTn.out; have := HTl.out; omega) _ ta sa tn tc sn sc (HTb.out.keep HBw.out) (HSr.out.keep HBw.out) HTn.out HSn.out _ _ (HEe.out _ HBw.out)).mono ?_
  rintro e' w6 ⟨⟨v6, rfl, rb, rd, rfl, hcrg, hcl⟩, hb6⟩
  have HRgB := Lib.hid hcrg
  have HClB := Lib.hid hcl
  have HBw := Lib.hid (bt HBw.out hb6)
  clear hb6 hcrg hcl e0 e1 e2 e3 e4 e5 e6 e7 k2
  obtain ⟨c, hc⟩ : ∃ c, c = (scV tabs srcs e).1 := ⟨_, rfl⟩
  obtain ⟨kd, hkd⟩ : ∃ kd, kd = (scV tabs srcs e).2.1 := ⟨_, rfl⟩
  obtain ⟨er, her⟩ : ∃ er, er = (scV tabs srcs e).2.2 := ⟨_, rfl⟩
  have HWk := Lib.hid (show er = 0 → Wk c kd from fun h => by rw [hc, hkd]; exact scV_wk (HKd.out (by trivial)) HRg.out (by rw [← her]; exact h))
  have HDp0 := Lib.hid (show er = 0 → dpC 20 c from fun h => by rw [hc]; exact scV_dp (by rw [← her]; exact h))
  have HCz := Lib.hid (show ctSz c ≤ 300 by have := scV_sz tabs srcs e; rw [← hc] at this; have := HSe.out; omega)
  rw [← hc] at HRgB HClB
  rw [← hc, ← hkd, ← her]
  clear hc hkd her
  rw [ctX_arrO]
  go_upto_region 4 with (fail)
  have HX7 := Lib.hid (show (w6.alloc (.cells #[.int .i64 c.kind, .string c.op, .int .i64 c.vk, .int .i64 c.vn, .string c.vs, .int .i64 c.src, .int .i64 c.col, .slice rb c.parts.length rd] 56)).heap[w6.heap.size]? = some (.cells #[.int .i64 c.kind, .string c.op, .int .i64 c.vk, .int .i64 c.vn, .string c.vs, .int .i64 c.src, .int .i64 c.col, .slice rb c.parts.length rd] 56 (0, 0)) from Go.heap_alloc_new w6 _)
  have HB67 := Lib.hid (show Below w6.heap.size w6 (w6.alloc (.cells #[.int .i64 c.kind, .string c.op, .int .i64 c.vk, .int .i64 c.vn, .string c.vs, .int .i64 c.src, .int .i64 c.col, .slice rb c.parts.length rd] 56)) from bel0 _ (Below.refl _ _))
  generalize w6.alloc (.cells #[.int .i64 c.kind, .string c.op, .int .i64 c.vk, .int .i64 c.vn, .string c.vs, .int .i64 c.src, .int .i64 c.col, .slice rb c.parts.length rd] 56) = w7 at *
  have HBw := Lib.hid (bt HBw.out HB67.out)
  have HCb := Lib.hid (show ∀ W, Below w7.heap.size w7 W → CV W (fun _ => True) (.agg #[.int .i64 c.kind, .string c.op, .int .i64 c.vk, .int .i64 c.vn, .string c.vs, .int .i64 c.src, .int .i64 c.col, .slice rb c.parts.length rd]) c from fun W hW => ⟨rb, rd, rfl, HRgB.out, (HClB.out.mono (fun _ _ _ => trivial)).keep (bt HB67.out hW)⟩)
  by_cases hz : er = 0
  rotate_left
  · have hne : (er != 0) = true := by simp [hz]
    go_wp2_with fail
    go_ret
    exact ⟨rfl, HBw.out⟩
  have HW := Lib.hid (HWk.out hz)
  have hne : (er != 0) = false := by simp [hz]
  have HEr := Lib.hid hz
  obtain ⟨y, hy⟩ : ∃ y, y = askV R c := ⟨_, rfl⟩
  have HY := Lib.hid hy
  clear hy
  obtain ⟨e0, e1, e2, e3, e4, e5, e6, e7⟩ := cellsE HX7.out
  have hs7 : w6.heap.size < w7.heap.size := (Array.getElem?_eq_some_iff.1 HX7.out).1
  go_wp2_with fail
  refine (etheirs_anyT (ctSz c) c (Nat.le_refl _) (by have := HCz.out; omega) _ _ _ (HCb.out _ (Below.refl _ _))).mono ?_
  rintro e' w8 ⟨⟨r8, rfl, hcv8⟩, hb8⟩
  have HC8 := Lib.hid hcv8
  have HB78 := Lib.hid (show Below w7.heap.size w7 w8 from hb8)
  have HBw := Lib.hid (bt HBw.out hb8)
  clear hb8 hcv8 e0 e1 e2 e3 e4 e5 e6 e7 hs7
  go_wp2_with fail
  have HDp := Lib.hid (show dpC 20 c from HDp0.out hz)
  have HRc := Lib.hid (show RgC c from (HCb.out w7 (Below.refl _ _)).rgC)
  refine (compile_any HW.out HDp.out HCz.out _ _ r8 HC8.out).mono ?_
  rintro e' w9 ⟨ca, cc, rfl, hi9, hb9⟩
  obtain ⟨xs, hxs⟩ : ∃ xs, xs = cmpC c 0 0 := ⟨_, rfl⟩
  have HXs := Lib.hid hxs
  have HIR := Lib.hid (show ∀ x ∈ xs, InsR x by rw [hxs]; exact insR_cm HW.out HRc.out 0 0 (by have := HCz.out; omega) (by have := HCz.out; omega))
  have HNx := Lib.hid (show xs.length ≤ 1000 by rw [hxs]; have := (form_cm HW.out 0 0).1; have := HCz.out; omega)
  have HAl := Lib.hid (show AlikeP kd y (runP R (regsF 0 xs) xs) by rw [HY.out, hxs]; exact alike_cm R HW.out HCz.out)
  rw [← hxs] at hi9 ⊢
  obtain ⟨rg, hrg⟩ : ∃ rg, rg = regsF 0 xs := ⟨_, rfl⟩
  rw [← hrg] at HAl ⊢
  have HI9 := Lib.hid hi9
  have HB79 := Lib.hid (bt HB78.out hb9)
  have HBw := Lib.hid (bt HBw.out hb9)
  clear hi9 hb9 hxs hrg
  go_upto_region 7 with (fail)
  have HP10 := Lib.hid (show (w9.alloc (.cells #[.slice ca xs.length cc, .int .i64 rg] 76)).heap[w9.heap.size]? = some (.cells #[.slice ca xs.length cc, .int .i64 rg] 76 (0, 0)) from Go.heap_alloc_new w9 _)
  have HB910 := Lib.hid (show Below w9.heap.size w9 (w9.alloc (.cells #[.slice ca xs.length cc, .int .i64 rg] 76)) from bel0 _ (Below.refl _ _))
  generalize w9.alloc (.cells #[.slice ca xs.length cc, .int .i64 rg] 76) = w10 at *
  have HI10 := Lib.hid (HI9.out.below HB910.out)
  have HB710 := Lib.hid (bt HB79.out HB910.out)
  have HBw := Lib.hid (bt HBw.out HB910.out)
  obtain ⟨e0, e1, e2, e3, e4, e5, e6, e7⟩ := cellsE ((HB710.out.block _ (Array.getElem?_eq_some_iff.1 HX7.out).1).trans HX7.out)
  have hs7 : w6.heap.size < w10.heap.size := Nat.lt_of_lt_of_le (Array.getElem?_eq_some_iff.1 HX7.out).1 HB710.out.size
  go_wp2_with fail
  refine (rworth_any HRR.out HW.out _ a len cap _ _ (HR.out.below HBw.out) (HCb.out _ HB710.out)).mono ?_
  rintro e' w11 ⟨rfl, hb11⟩
  rw [← HY.out]
  have HB1011 := Lib.hid (show Below w10.heap.size w10 w11 from hb11)
  have HBw := Lib.hid (bt HBw.out hb11)
  clear hb11 e0 e1 e2 e3 e4 e5 e6 e7 hs7
  go_upto_region 10 with (fail)
  have HX15 := Lib.hid (show (w11.alloc (.cells #[.int .i64 y.1.1, .int .i64 y.1.2.1, .string y.1.2.2] 38)).heap[w11.heap.size]? = some (.cells #[.int .i64 y.1.1, .int .i64 y.1.2.1, .string y.1.2.2] 38 (0, 0)) from Go.heap_alloc_new w11 _)
  have HB1112 := Lib.hid (show Below w11.heap.size w11 (w11.alloc (.cells #[.int .i64 y.1.1, .int .i64 y.1.2.1, .string y.1.2.2] 38)) from bel0 _ (Below.refl _ _))
  generalize w11.alloc (.cells #[.int .i64 y.1.1, .int .i64 y.1.2.1, .string y.1.2.2] 38) = w12 at *
  have HB1012 := Lib.hid (bt HB1011.out HB1112.out)
  have HBw := Lib.hid (bt HBw.out HB1112.out)
  have hp := (HB1012.out.block _ (Array.getElem?_eq_some_iff.1 HP10.out).1).trans HP10.out
  have p0 := cell_of_row _ _ 0 _ _ _ hp
  have p1 := cell_of_row _ _ 1 _ _ _ hp
  have p2 : w9.heap.size < w12.heap.size := (Array.getElem?_eq_some_iff.1 hp).1
  simp only [List.getElem?_toArray, List.getElem?_cons_zero, List.getElem?_cons_succ] at p0 p1
  clear hp
  go_wp2_with fail
  refine (vmrun_any ca xs.length cc rg xs a len cap R _ (HI10.out.below HB1012.out) HIR.out (HR.out.below HBw.out) HRR.out).mono ?_
  rintro e' w13 ⟨rfl, hb13⟩
  obtain ⟨z, hz2⟩ : ∃ z, z = runP R rg xs := ⟨_, rfl⟩
  rw [← hz2] at HAl ⊢
  have HB1213 := Lib.hid (show Below w12.heap.size w12 w13 from hb13)
  have HBw := Lib.hid (bt HBw.out hb13)
  clear hz2 hb13 p0 p1 p2
  simp only [valV]
  go_upto_region 11 with (fail)
  have HX18 := Lib.hid (show (w13.alloc (.cells #[.int .i64 z.1.1, .int .i64 z.1.2.1, .string z.1.2.2] 38)).heap[w13.heap.size]? = some (.cells #[.int .i64 z.1.1, .int .i64 z.1.2.1, .string z.1.2.2] 38 (0, 0)) from Go.heap_alloc_new w13 _)
  have HB1314 := Lib.hid (show Below w13.heap.size w13 (w13.alloc (.cells #[.int .i64 z.1.1, .int .i64 z.1.2.1, .string z.1.2.2] 38)) from bel0 _ (Below.refl _ _))
  generalize w13.alloc (.cells #[.int .i64 z.1.1, .int .i64 z.1.2.1, .string z.1.2.2] 38) = w14 at *
  have HBw := Lib.hid (bt HBw.out HB1314.out)
  obtain ⟨m0, m1, m2, -, -, -, m6⟩ := v3 (((bt HB1213.out HB1314.out).block _ (Array.getElem?_eq_some_iff.1 HX15.out).1).trans HX15.out)
  obtain ⟨n0, n1, n2, -, -, -, n6⟩ := v3 HX18.out
  go_wp2_with fail
  refine (alike_yes HAl.out _).mono ?_
  rintro e' w15 ⟨rfl, hb15⟩
  have HBw := Lib.hid (bt HBw.out hb15)
  clear hb15 m0 m1 m2 m6 n0 n1 n2 n6
  go_wp2_with fail
  go_ret
  exact ⟨rfl, HBw.out⟩
end Go.Proofs.Ytafhgilikcablaa
