/- CodeMeans: the law's walk. Written by gencml.py. -/
import Derived.Test.YtafhgilikcablaaAwFw
import Derived.Test.YtafhgilikcablaaCOur
import Derived.Test.YtafhgilikcablaaVdRun
import Derived.Test.YtafhgilikcablaaSvVc
namespace Go.Proofs.Ytafhgilikcablaa
open Go.RowKit
set_option linter.unusedVariables false
set_option linter.unusedSimpArgs false
set_option maxRecDepth 100000
set_option maxHeartbeats 6400000 in
theorem meant_any {R : List (List Val)} (hRR : RowsR R) {c : CT} {k : Int} (hwk : Wk c k) (kd rg : Int) (xs : List Ins) (hal : AlikeP kd (askV R c) (runP R rg xs)) (hir : ∀ x ∈ xs, InsR x) (w : World) (a : Option Addr) (len cap : Nat) (rb : Option Addr) (rd : Nat) (oa : Option Addr) (oc : Nat) (hR : IsRR w a len R) (hv : CV w (fun _ => True) (.agg #[.int .i64 c.kind, .string c.op, .int .i64 c.vk, .int .i64 c.vn, .string c.vs, .int .i64 c.src, .int .i64 c.col, .slice rb c.parts.length rd]) c) (hI : IsI w oa xs.length xs) :
    Calls Try.prog 34 #[.agg #[.int .i64 c.kind, .string c.op, .int .i64 c.vk, .int .i64 c.vn, .string c.vs, .int .i64 c.src, .int .i64 c.col, .slice rb c.parts.length rd], .int .i64 kd, .slice a len cap, .agg #[.slice oa xs.length oc, .int .i64 rg]] w fun e w' => e = .returned (.bool true) ∧ Below w.heap.size w w' := by
  have HB := Lib.hid (bel0 (.cells #[.slice oa xs.length oc, .int .i64 rg] 82) (bel0 (.cells #[.int .i64 c.kind, .string c.op, .int .i64 c.vk, .int .i64 c.vn, .string c.vs, .int .i64 c.src, .int .i64 c.col, .slice rb c.parts.length rd] 56) (Below.refl w.heap.size w)))
  have HBX := Lib.hid (boxes2 w (.cells #[.int .i64 c.kind, .string c.op, .int .i64 c.vk, .int .i64 c.vn, .string c.vs, .int .i64 c.src, .int .i64 c.col, .slice rb c.parts.length rd] 56 (0, 0)) (.cells #[.slice oa xs.length oc, .int .i64 rg] 82 (0, 0)))
  have HR := Lib.hid hR
  have HCv := Lib.hid hv
  have HI := Lib.hid hI
  have HWk := Lib.hid hwk
  have HRR := Lib.hid hRR
  have HAl := Lib.hid hal
  have HIr := Lib.hid hir
  clear hR hv hI hwk hRR hal hir
  go_enter Try.func34, Try.ntmps34
  go_upto_region 1 with (fail)
  generalize ((w.alloc (.cells #[.int .i64 c.kind, .string c.op, .int .i64 c.vk, .int .i64 c.vn, .string c.vs, .int .i64 c.src, .int .i64 c.col, .slice rb c.parts.length rd] 56)).alloc (.cells #[.slice oa xs.length oc, .int .i64 rg] 82)) = w1 at *
  have HC := Lib.hid (show ∀ W : World, Below w1.heap.size w1 W → W.heap[w.heap.size]? = some (.cells #[.int .i64 c.kind, .string c.op, .int .i64 c.vk, .int .i64 c.vn, .string c.vs, .int .i64 c.src, .int .i64 c.col, .slice rb c.parts.length rd] 56 (0, 0)) ∧ W.heap[w.heap.size + 1]? = some (.cells #[.slice oa xs.length oc, .int .i64 rg] 82 (0, 0)) ∧ w.heap.size + 1 < W.heap.size from fun W h => by
    obtain ⟨⟨h0, h1⟩, hz⟩ := HBX.out
    have k0 := (h.block w.heap.size (by omega)).trans h0
    have k1 := (h.block (w.heap.size + 1) (by omega)).trans h1
    exact ⟨k0, k1, (Array.getElem?_eq_some_iff.1 k1).1⟩)
  clear HBX
  obtain ⟨hE, -, cN⟩ := HC.out w1 (Below.refl _ _)
  obtain ⟨e0, e1, e2, e3, e4, e5, e6, e7⟩ := cellsE hE
  have cE : w.heap.size < w1.heap.size := by omega
  clear hE
  go_wp2_with fail
  refine (rworth_any HRR.out HWk.out _ a len cap _ _ (HR.out.below HB.out) (HCv.out.keep HB.out)).mono ?_
  rintro e' w2 ⟨rfl, hb2⟩
  obtain ⟨y, hy⟩ : ∃ y, y = askV R c := ⟨_, rfl⟩
  rw [← hy] at HAl ⊢
  have HB2 := Lib.hid (show Below w1.heap.size w1 w2 from hb2)
  clear hb2 hy e0 e1 e2 e3 e4 e5 e6 e7 cN cE
  go_upto_region 2 with (fail)
  have HX9 := Lib.hid (show (w2.alloc (.cells #[.int .i64 y.1.1, .int .i64 y.1.2.1, .string y.1.2.2] 38)).heap[w2.heap.size]? = some (.cells #[.int .i64 y.1.1, .int .i64 y.1.2.1, .string y.1.2.2] 38 (0, 0)) from Go.heap_alloc_new w2 _)
  have HB23 := Lib.hid (show Below w2.heap.size w2 (w2.alloc (.cells #[.int .i64 y.1.1, .int .i64 y.1.2.1, .string y.1.2.2] 38)) from bel0 _ (Below.refl _ _))
  generalize w2.alloc (.cells #[.int .i64 y.1.1, .int .i64 y.1.2.1, .string y.1.2.2] 38) = w3 at *
  have HB3 := Lib.hid (bt HB2.out HB23.out)
  obtain ⟨-, hp, cN⟩ := HC.out w3 HB3.out
  have p0 := cell_of_row _ _ 0 _ _ _ hp
  have p1 := cell_of_row _ _ 1 _ _ _ hp
  simp only [List.getElem?_toArray, List.getElem?_cons_zero, List.getElem?_cons_succ] at p0 p1
  clear hp
  go_wp2_with fail
  refine (rrun_any oa xs.length oc rg xs a len cap R _ (HI.out.below (bt HB.out HB3.out)) HIr.out (HR.out.below (bt HB.out HB3.out)) HRR.out).mono ?_
  rintro e' w4 ⟨rfl, hb4⟩
  obtain ⟨z, hz2⟩ : ∃ z, z = runP R rg xs := ⟨_, rfl⟩
  rw [← hz2] at HAl ⊢
  have HB34 := Lib.hid (show Below w3.heap.size w3 w4 from hb4)
  have HB4 := Lib.hid (bt HB3.out hb4)
  clear hz2 hb4 p0 p1 cN
  simp only [valV]
  go_upto_region 3 with (fail)
  have HX12 := Lib.hid (show (w4.alloc (.cells #[.int .i64 z.1.1, .int .i64 z.1.2.1, .string z.1.2.2] 38)).heap[w4.heap.size]? = some (.cells #[.int .i64 z.1.1, .int .i64 z.1.2.1, .string z.1.2.2] 38 (0, 0)) from Go.heap_alloc_new w4 _)
  have HB45 := Lib.hid (show Below w4.heap.size w4 (w4.alloc (.cells #[.int .i64 z.1.1, .int .i64 z.1.2.1, .string z.1.2.2] 38)) from bel0 _ (Below.refl _ _))
  generalize w4.alloc (.cells #[.int .i64 z.1.1, .int .i64 z.1.2.1, .string z.1.2.2] 38) = w5 at *
  obtain ⟨m0, m1, m2, -, -, -, m6⟩ := v3 (((bt HB34.out HB45.out).block _ (Array.getElem?_eq_some_iff.1 HX9.out).1).trans HX9.out)
  obtain ⟨n0, n1, n2, -, -, -, n6⟩ := v3 HX12.out
  have HB5 := Lib.hid (bt HB.out (bt HB4.out HB45.out))
  go_wp2_with fail
  refine (alike_yes HAl.out _).mono ?_
  rintro e' w6 ⟨rfl, hb6⟩
  have HB6 := Lib.hid (bt HB5.out hb6)
  clear hb6 m0 m1 m2 m6 n0 n1 n2 n6
  go_wp2_with fail
  go_ret
  exact ⟨rfl, HB6.out⟩
end Go.Proofs.Ytafhgilikcablaa
namespace Go.Proofs.Ytafhgilikcablaa
open Go.RowKit
set_option linter.unusedVariables false
set_option linter.unusedSimpArgs false
set_option maxRecDepth 100000
set_option maxHeartbeats 12800000 in
theorem codeMeans_walk (tabs : List TB) (srcs : List Int) (e : ET) (R : List (List Val)) (w : World) (Q : Nat → Prop) (ta sa : Option Addr) (tn tc sn sc : Nat) (ve : Value) (a : Option Addr) (len cap : Nat) (ht : TabsAt w ta tabs) (hs : IntsAt w sa srcs) (htn : tn = tabs.length) (hsn : sn = srcs.length) (htl : tn ≤ 9223372036854775807) (hsl : sn ≤ 9223372036854775807) (hve : EV w Q ve e) (hR : IsRR w a len R) (hRR : RowsR R) :
    Calls Try.prog 6 #[.slice ta tn tc, .slice sa sn sc, ve, .slice a len cap] w fun e' w' => e' = .returned (.bool true) ∧ Below w.heap.size w w' := by
  have HRg := Lib.hid hve.rg
  obtain ⟨pa, pc, rfl, hrg, hel⟩ := hve
  have HEe := Lib.hid (show ∀ W, Below w.heap.size w W → EV W Q (.agg #[.int .i64 e.kind, .string e.op, .int .i64 e.vk, .int .i64 e.vn, .string e.vs, .string e.tab, .string e.col, .slice pa e.parts.length pc]) e from fun W hW => ⟨pa, pc, rfl, hrg, hel.keep hW⟩)
  have HTb := Lib.hid ht
  have HSr := Lib.hid hs
  have HTn := Lib.hid htn
  have HSn := Lib.hid hsn
  have HTl := Lib.hid htl
  have HR := Lib.hid hR
  have HRR := Lib.hid hRR
  have e0 : (etX e pa pc).toArray = #[.int .i64 e.kind, .string e.op, .int .i64 e.vk, .int .i64 e.vn, .string e.vs, .string e.tab, .string e.col, .slice pa e.parts.length pc] := rfl
  rw [e0]
  clear ht hs htn hsn hrg hel e0 hR hRR
  have HB := Lib.hid (bel0 (.cells #[.int .i64 e.kind, .string e.op, .int .i64 e.vk, .int .i64 e.vn, .string e.vs, .string e.tab, .string e.col, .slice pa e.parts.length pc] 41) (Below.refl w.heap.size w))
  have HBX := Lib.hid (show (w.alloc (.cells #[.int .i64 e.kind, .string e.op, .int .i64 e.vk, .int .i64 e.vn, .string e.vs, .string e.tab, .string e.col, .slice pa e.parts.length pc] 41)).heap[w.heap.size]? = some (.cells #[.int .i64 e.kind, .string e.op, .int .i64 e.vk, .int .i64 e.vn, .string e.vs, .string e.tab, .string e.col, .slice pa e.parts.length pc] 41 (0, 0)) ∧ (w.alloc (.cells #[.int .i64 e.kind, .string e.op, .int .i64 e.vk, .int .i64 e.vn, .string e.vs, .string e.tab, .string e.col, .slice pa e.parts.length pc] 41)).heap.size = w.heap.size + 1 from ⟨Go.heap_alloc_new w _, by simp⟩)
  go_enter Try.func6, Try.ntmps6
  go_upto_region 1 with (fail)
  generalize (w.alloc (.cells #[.int .i64 e.kind, .string e.op, .int .i64 e.vk, .int .i64 e.vn, .string e.vs, .string e.tab, .string e.col, .slice pa e.parts.length pc] 41)) = w1 at *
  have HC := Lib.hid (show ∀ W : World, Below w1.heap.size w1 W → W.heap[w.heap.size]? = some (.cells #[.int .i64 e.kind, .string e.op, .int .i64 e.vk, .int .i64 e.vn, .string e.vs, .string e.tab, .string e.col, .slice pa e.parts.length pc] 41 (0, 0)) ∧ w.heap.size < W.heap.size from fun W h => by
    obtain ⟨h0, hz⟩ := HBX.out
    have k0 := (h.block w.heap.size (by omega)).trans h0
    exact ⟨k0, (Array.getElem?_eq_some_iff.1 k0).1⟩)
  clear HBX
  go_wp2_with fail
  refine (awake17_any _).mono ?_
  rintro e' w2 ⟨rfl, hb2⟩
  have HB1 := Lib.hid (show Below w1.heap.size w1 w2 from hb2)
  clear hb2
  go_wp2_with fail
  refine (few2_any _ ta tn tc tabs (HTb.out.keep (bt HB.out HB1.out)) HTn.out HTl.out).mono ?_
  rintro e' w3 ⟨⟨fb, rfl, hkd⟩, hw3⟩
  obtain rfl := hw3.symm
  have HKd := Lib.hid hkd
  have HBw := Lib.hid (bt HB.out HB1.out)
  clear hkd
  cases fb with
  | false =>
    go_wp2_with fail
    refine (awake17_any _).mono ?_
    rintro e' w9 ⟨rfl, hb9⟩
    have HB9 := Lib.hid (bt HBw.out hb9)
    clear hb9
    go_wp2_with fail
    go_ret
    exact ⟨rfl, HB9.out⟩
  | true =>
  by_cases h20 : (20 : Int) < (sn : Int)
  · go_wp2_with fail
    refine (awake17_any _).mono ?_
    rintro e' w9 ⟨rfl, hb9⟩
    have HB9 := Lib.hid (bt HBw.out hb9)
    clear hb9
    go_wp2_with fail
    go_ret
    exact ⟨rfl, HB9.out⟩
  by_cases hr20 : (20 : Int) < (len : Int)
  · go_wp2_with fail
    refine (awake17_any _).mono ?_
    rintro e' w9 ⟨rfl, hb9⟩
    have HB9 := Lib.hid (bt HBw.out hb9)
    clear hb9
    go_wp2_with fail
    go_ret
    exact ⟨rfl, HB9.out⟩
  have hs20 : srcs.length ≤ 1000 := by have := HSn.out; omega
  have HS20 := Lib.hid hs20
  clear hs20
  obtain ⟨k0, k2⟩ := HC.out _ HB1.out
  obtain ⟨e0, e1, e2, e3, e4, e5, e6, e7⟩ := cellsE k0
  clear k0
  go_wp2_with fail
  refine (small_any _ Q _ e (HEe.out _ HBw.out)).mono ?_
  rintro e' w4 ⟨rfl, hb4⟩
  have HB4 := Lib.hid (bt HB1.out hb4)
  have HBw := Lib.hid (bt HBw.out hb4)
  clear hb4 e0 e1 e2 e3 e4 e5 e6 e7 k2
  cases hse : smallB e with
  | false =>
    go_wp2_with fail
    refine (awake17_any _).mono ?_
    rintro e' w9 ⟨rfl, hb9⟩
    have HB9 := Lib.hid (bt HBw.out hb9)
    clear hb9
    go_wp2_with fail
    go_ret
    exact ⟨rfl, HB9.out⟩
  | true =>
  have HSe := Lib.hid (small_sz hse)
  clear hse
  obtain ⟨k0, k2⟩ := HC.out _ HB4.out
  obtain ⟨e0, e1, e2, e3, e4, e5, e6, e7⟩ := cellsE k0
  clear k0
  go_wp2_with fail
  refine (rvalue_any tabs srcs e (by have := HSe.out; omega) HS20.out (by have := HTn.out; have := HTl.out; omega) _ ta sa tn tc sn sc (HTb.out.keep HBw.out) (HSr.out.keep HBw.out) HTn.out HSn.out _ _ (HEe.out _ HBw.out)).mono ?_
  rintro e' w6 ⟨⟨v6, rfl, rb, rd, rfl, hcrg, hcl⟩, hb6⟩
  have HRgB := Lib.hid hcrg
  have HClB := Lib.hid hcl
  have HBw := Lib.hid (bt HBw.out hb6)
  clear hb6 hcrg hcl e0 e1 e2 e3 e4 e5 e6 e7 k2
  obtain ⟨c, hc⟩ : ∃ c, c = (scV tabs srcs e).1 := ⟨_, rfl⟩
  obtain ⟨kd, hkd⟩ : ∃ kd, kd = (scV tabs srcs e).2.1 := ⟨_, rfl⟩
  obtain ⟨er, her⟩ : ∃ er, er = (scV tabs srcs e).2.2 := ⟨_, rfl⟩
  have HWk := Lib.hid (show er = 0 → Wk c kd from fun h => by rw [hc, hkd]; exact scV_wk (HKd.out (by trivial)) HRg.out (by rw [← her]; exact h))
  have HDp0 := Lib.hid (show er = 0 → dpC 20 c from fun h => by rw [hc]; exact scV_dp (by rw [← her]; exact h))
  have HCz := Lib.hid (show ctSz c ≤ 300 by have := scV_sz tabs srcs e; rw [← hc] at this; have := HSe.out; omega)
  rw [← hc] at HRgB HClB
  rw [← hc, ← hkd, ← her]
  clear hc hkd her
  rw [ctX_arrO]
  go_upto_region 4 with (fail)
  have HX7 := Lib.hid (show (w6.alloc (.cells #[.int .i64 c.kind, .string c.op, .int .i64 c.vk, .int .i64 c.vn, .string c.vs, .int .i64 c.src, .int .i64 c.col, .slice rb c.parts.length rd] 56)).heap[w6.heap.size]? = some (.cells #[.int .i64 c.kind, .string c.op, .int .i64 c.vk, .int .i64 c.vn, .string c.vs, .int .i64 c.src, .int .i64 c.col, .slice rb c.parts.length rd] 56 (0, 0)) from Go.heap_alloc_new w6 _)
  have HB67 := Lib.hid (show Below w6.heap.size w6 (w6.alloc (.cells #[.int .i64 c.kind, .string c.op, .int .i64 c.vk, .int .i64 c.vn, .string c.vs, .int .i64 c.src, .int .i64 c.col, .slice rb c.parts.length rd] 56)) from bel0 _ (Below.refl _ _))
  generalize w6.alloc (.cells #[.int .i64 c.kind, .string c.op, .int .i64 c.vk, .int .i64 c.vn, .string c.vs, .int .i64 c.src, .int .i64 c.col, .slice rb c.parts.length rd] 56) = w7 at *
  have HBw := Lib.hid (bt HBw.out HB67.out)
  have HCb := Lib.hid (show ∀ W, Below w7.heap.size w7 W → CV W (fun _ => True) (.agg #[.int .i64 c.kind, .string c.op, .int .i64 c.vk, .int .i64 c.vn, .string c.vs, .int .i64 c.src, .int .i64 c.col, .slice rb c.parts.length rd]) c from fun W hW => ⟨rb, rd, rfl, HRgB.out, (HClB.out.mono (fun _ _ _ => trivial)).keep (bt HB67.out hW)⟩)
  by_cases hz : er = 0
  rotate_left
  · have hne : (er != 0) = true := by simp [hz]
    go_wp2_with fail
    go_ret
    exact ⟨rfl, HBw.out⟩
  have HW := Lib.hid (HWk.out hz)
  have hne : (er != 0) = false := by simp [hz]
  have HEr := Lib.hid hz
  obtain ⟨y, hy⟩ : ∃ y, y = askV R c := ⟨_, rfl⟩
  have HY := Lib.hid hy
  clear hy
  obtain ⟨e0, e1, e2, e3, e4, e5, e6, e7⟩ := cellsE HX7.out
  have hs7 : w6.heap.size < w7.heap.size := (Array.getElem?_eq_some_iff.1 HX7.out).1
  go_wp2_with fail
  refine (etheirs_anyT (ctSz c) c (Nat.le_refl _) (by have := HCz.out; omega) _ _ _ (HCb.out _ (Below.refl _ _))).mono ?_
  rintro e' w8 ⟨⟨r8, rfl, hcv8⟩, hb8⟩
  have HC8 := Lib.hid hcv8
  have HB78 := Lib.hid (show Below w7.heap.size w7 w8 from hb8)
  have HBw := Lib.hid (bt HBw.out hb8)
  clear hb8 hcv8 e0 e1 e2 e3 e4 e5 e6 e7 hs7
  go_wp2_with fail
  have HDp := Lib.hid (show dpC 20 c from HDp0.out hz)
  have HRc := Lib.hid (show RgC c from (HCb.out w7 (Below.refl _ _)).rgC)
  refine (compile_any HW.out HDp.out HCz.out _ _ r8 HC8.out).mono ?_
  rintro e' w9 ⟨ca, cc, rfl, hi9, hb9⟩
  obtain ⟨xs, hxs⟩ : ∃ xs, xs = cmpC c 0 0 := ⟨_, rfl⟩
  have HXs := Lib.hid hxs
  have HIR := Lib.hid (show ∀ x ∈ xs, InsR x by rw [hxs]; exact insR_cm HW.out HRc.out 0 0 (by have := HCz.out; omega) (by have := HCz.out; omega))
  have HNx := Lib.hid (show xs.length ≤ 1000 by rw [hxs]; have := (form_cm HW.out 0 0).1; have := HCz.out; omega)
  have HAl := Lib.hid (show AlikeP kd y (runP R (regsF 0 xs) xs) by rw [HY.out, hxs]; exact alike_cm R HW.out HCz.out)
  rw [← hxs] at hi9 ⊢
  obtain ⟨rg, hrg⟩ : ∃ rg, rg = regsF 0 xs := ⟨_, rfl⟩
  rw [← hrg] at HAl ⊢
  have HI9 := Lib.hid hi9
  have HB79 := Lib.hid (bt HB78.out hb9)
  have HBw := Lib.hid (bt HBw.out hb9)
  clear hi9 hb9 hxs hrg
  go_upto_region 9 with (fail)
  have HP10 := Lib.hid (show (w9.alloc (.cells #[.slice ca xs.length cc, .int .i64 rg] 76)).heap[w9.heap.size]? = some (.cells #[.slice ca xs.length cc, .int .i64 rg] 76 (0, 0)) from Go.heap_alloc_new w9 _)
  have HB910 := Lib.hid (show Below w9.heap.size w9 (w9.alloc (.cells #[.slice ca xs.length cc, .int .i64 rg] 76)) from bel0 _ (Below.refl _ _))
  generalize w9.alloc (.cells #[.slice ca xs.length cc, .int .i64 rg] 76) = w10 at *
  have HI10 := Lib.hid (HI9.out.below HB910.out)
  have HB710 := Lib.hid (bt HB79.out HB910.out)
  have HBw := Lib.hid (bt HBw.out HB910.out)
  have HKp := Lib.hid (show ∀ W, Below w10.heap.size w10 W → (W.cell? ⟨w6.heap.size, 0, none⟩ = some (.int .i64 c.kind) ∧ W.cell? ⟨w6.heap.size, 1, none⟩ = some (.string c.op) ∧ W.cell? ⟨w6.heap.size, 2, none⟩ = some (.int .i64 c.vk) ∧ W.cell? ⟨w6.heap.size, 3, none⟩ = some (.int .i64 c.vn) ∧ W.cell? ⟨w6.heap.size, 4, none⟩ = some (.string c.vs) ∧ W.cell? ⟨w6.heap.size, 5, none⟩ = some (.int .i64 c.src) ∧ W.cell? ⟨w6.heap.size, 6, none⟩ = some (.int .i64 c.col) ∧ W.cell? ⟨w6.heap.size, 7, none⟩ = some (.slice rb c.parts.length rd)) ∧ W.cell? ⟨w9.heap.size, 0, none⟩ = some (.slice ca xs.length cc) ∧ W.cell? ⟨w9.heap.size, 1, none⟩ = some (.int .i64 rg) from fun W hW => by
    have hx := (((bt HB710.out hW).block _ (Array.getElem?_eq_some_iff.1 HX7.out).1).trans HX7.out)
    have hp := (hW.block _ (Array.getElem?_eq_some_iff.1 HP10.out).1).trans HP10.out
    have p0 := cell_of_row _ _ 0 _ _ _ hp
    have p1 := cell_of_row _ _ 1 _ _ _ hp
    simp only [List.getElem?_toArray, List.getElem?_cons_zero, List.getElem?_cons_succ] at p0 p1
    obtain ⟨e0, e1, e2, e3, e4, e5, e6, e7⟩ := cellsE hx
    exact ⟨⟨e0, e1, e2, e3, e4, e5, e6, e7⟩, p0, p1⟩)
  have HOu := Lib.hid (show ∀ W, Below w10.heap.size w10 W → Calls Try.prog 35 #[.agg #[.slice ca xs.length cc, .int .i64 rg]] W fun e w' => (∃ a c, e = .returned (.agg #[.slice a xs.length c, .int .i64 rg]) ∧ IsI w' a xs.length xs) ∧ Below W.heap.size W w' from fun W hW => ours_any ca xs.length cc rg xs W (HI10.out.below hW) (by have := HNx.out; omega))
  have HMt := Lib.hid (show ∀ (W : World) (oa : Option Addr) (oc : Nat), Below w10.heap.size w10 W → IsI W oa xs.length xs → Calls Try.prog 34 #[.agg #[.int .i64 c.kind, .string c.op, .int .i64 c.vk, .int .i64 c.vn, .string c.vs, .int .i64 c.src, .int .i64 c.col, .slice rb c.parts.length rd], .int .i64 kd, .slice a len cap, .agg #[.slice oa xs.length oc, .int .i64 rg]] W fun e w' => e = .returned (.bool true) ∧ Below W.heap.size W w' from fun W oa oc hW hI => meant_any HRR.out HW.out kd rg xs (by rw [← HY.out]; exact HAl.out) HIR.out W a len cap rb rd oa oc (HR.out.below (bt HBw.out hW)) (HCb.out _ (bt HB710.out hW)) hI)
  have HN := Lib.hid (show Below w10.heap.size w10 w10.drew from (Below.refl _ _).drew)
  clear HRg HC HB HB1 HTb HSr HTn HSn HTl HEe HKd HSe HS20 HB4 HRgB HClB HWk HDp0 HCz HEr HY HC8 HB78 HDp HRc HXs HIR HNx HI9 HB79 HI10
  go_region_held3 (fun W => (W.cell? ⟨w6.heap.size, 0, none⟩ = some (.int .i64 c.kind) ∧ W.cell? ⟨w6.heap.size, 1, none⟩ = some (.string c.op) ∧ W.cell? ⟨w6.heap.size, 2, none⟩ = some (.int .i64 c.vk) ∧ W.cell? ⟨w6.heap.size, 3, none⟩ = some (.int .i64 c.vn) ∧ W.cell? ⟨w6.heap.size, 4, none⟩ = some (.string c.vs) ∧ W.cell? ⟨w6.heap.size, 5, none⟩ = some (.int .i64 c.src) ∧ W.cell? ⟨w6.heap.size, 6, none⟩ = some (.int .i64 c.col) ∧ W.cell? ⟨w6.heap.size, 7, none⟩ = some (.slice rb c.parts.length rd)) ∧ W.cell? ⟨w9.heap.size, 0, none⟩ = some (.slice ca xs.length cc) ∧ W.cell? ⟨w9.heap.size, 1, none⟩ = some (.int .i64 rg))
    (first | exact HKp.out _ HN.out | exact HKp.out _ HN.out.drew)
    (first
      | (go_simp; go_at_call 35; refine (HOu.out _ HN.out).mono ?_; rintro e' w4 ⟨⟨oa, oc, rfl, hio⟩, hb4⟩; have HIo := Lib.hid hio; have HN := Lib.hid (bt HN.out hb4); clear hb4 hio)
      | (go_simp; go_at_call 34; refine (HMt.out _ _ _ HN.out HIo.out).mono ?_; rintro e' w4 ⟨rfl, hb4⟩; have HN := Lib.hid (bt HN.out hb4); clear hb4))
  all_goals
    go_wp2
  all_goals
    go_ret
    exact ⟨rfl, bt HBw.out HN.out⟩
end Go.Proofs.Ytafhgilikcablaa
