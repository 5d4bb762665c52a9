/- ScopeValues: the law's walk. Written by gensvl.py. -/
import Derived.Test.YtafhgilikcablaaSvFw
import Derived.Test.YtafhgilikcablaaSvVb
import Derived.Test.YtafhgilikcablaaSvVc
import Derived.Test.YtafhgilikcablaaSvH8
import Derived.Test.YtafhgilikcablaaSvH8
namespace Go.Proofs.Ytafhgilikcablaa
open Go.RowKit
set_option linter.unusedVariables false
set_option linter.unusedSimpArgs false
set_option maxRecDepth 100000
set_option maxHeartbeats 12800000 in
theorem scopeValues_walk (tabs : List TB) (srcs : List Int) (e f : ET) (name : ByteArray) (w : World) (Q Q' : Nat → Prop) (ta sa : Option Addr) (tn tc sn sc : Nat) (ve vf : Value) (ht : TabsAt w ta tabs) (hs : IntsAt w sa srcs) (htn : tn = tabs.length) (hsn : sn = srcs.length) (htl : tn ≤ 9223372036854775807) (hsl : sn ≤ 9223372036854775807) (hve : EV w Q ve e) (hvf : EV w Q' vf f) :
    Calls Try.prog 4 #[.slice ta tn tc, .slice sa sn sc, ve, vf, .string name] w fun e' w' => e' = .returned (.bool true) ∧ Below w.heap.size w w' := by
  obtain ⟨pa, pc, rfl, hrg, hel⟩ := hve
  obtain ⟨qa, qc, rfl, hrgf, helf⟩ := hvf
  have HEe := Lib.hid (show ∀ W, Below w.heap.size w W → EV W Q (.agg #[.int .i64 e.kind, .string e.op, .int .i64 e.vk, .int .i64 e.vn, .string e.vs, .string e.tab, .string e.col, .slice pa e.parts.length pc]) e from fun W hW => ⟨pa, pc, rfl, hrg, hel.keep hW⟩)
  have HEf := Lib.hid (show ∀ W, Below w.heap.size w W → EV W Q' (.agg #[.int .i64 f.kind, .string f.op, .int .i64 f.vk, .int .i64 f.vn, .string f.vs, .string f.tab, .string f.col, .slice qa f.parts.length qc]) f from fun W hW => ⟨qa, qc, rfl, hrgf, helf.keep hW⟩)
  have HTb := Lib.hid ht
  have HSr := Lib.hid hs
  have HTn := Lib.hid htn
  have HSn := Lib.hid hsn
  have HTl := Lib.hid htl
  have e0 : (etX e pa pc).toArray = #[.int .i64 e.kind, .string e.op, .int .i64 e.vk, .int .i64 e.vn, .string e.vs, .string e.tab, .string e.col, .slice pa e.parts.length pc] := rfl
  have e1 : (etX f qa qc).toArray = #[.int .i64 f.kind, .string f.op, .int .i64 f.vk, .int .i64 f.vn, .string f.vs, .string f.tab, .string f.col, .slice qa f.parts.length qc] := rfl
  rw [e0, e1]
  clear ht hs htn hsn hrg hel hrgf helf e0 e1
  have HB := Lib.hid (bel0 (.cells #[.int .i64 f.kind, .string f.op, .int .i64 f.vk, .int .i64 f.vn, .string f.vs, .string f.tab, .string f.col, .slice qa f.parts.length qc] 41) (bel0 (.cells #[.int .i64 e.kind, .string e.op, .int .i64 e.vk, .int .i64 e.vn, .string e.vs, .string e.tab, .string e.col, .slice pa e.parts.length pc] 41) (Below.refl w.heap.size w)))
  have HBX := Lib.hid (boxes2 w (.cells #[.int .i64 e.kind, .string e.op, .int .i64 e.vk, .int .i64 e.vn, .string e.vs, .string e.tab, .string e.col, .slice pa e.parts.length pc] 41 (0, 0)) (.cells #[.int .i64 f.kind, .string f.op, .int .i64 f.vk, .int .i64 f.vn, .string f.vs, .string f.tab, .string f.col, .slice qa f.parts.length qc] 41 (0, 0)))
  go_enter Try.func4, Try.ntmps4
  go_upto_region 1 with (fail)
  generalize ((w.alloc (.cells #[.int .i64 e.kind, .string e.op, .int .i64 e.vk, .int .i64 e.vn, .string e.vs, .string e.tab, .string e.col, .slice pa e.parts.length pc] 41)).alloc (.cells #[.int .i64 f.kind, .string f.op, .int .i64 f.vk, .int .i64 f.vn, .string f.vs, .string f.tab, .string f.col, .slice qa f.parts.length qc] 41)) = w1 at *
  have HC := Lib.hid (show ∀ W : World, Below w1.heap.size w1 W → W.heap[w.heap.size]? = some (.cells #[.int .i64 e.kind, .string e.op, .int .i64 e.vk, .int .i64 e.vn, .string e.vs, .string e.tab, .string e.col, .slice pa e.parts.length pc] 41 (0, 0)) ∧ W.heap[w.heap.size + 1]? = some (.cells #[.int .i64 f.kind, .string f.op, .int .i64 f.vk, .int .i64 f.vn, .string f.vs, .string f.tab, .string f.col, .slice qa f.parts.length qc] 41 (0, 0)) ∧ w.heap.size < W.heap.size ∧ w.heap.size + 1 < W.heap.size from fun W h => by
    obtain ⟨⟨h0, h1⟩, hz⟩ := HBX.out
    have k1 := (h.block (w.heap.size + 1) (by omega)).trans h1
    have k0 := (h.block w.heap.size (by omega)).trans h0
    exact ⟨k0, k1, (Array.getElem?_eq_some_iff.1 k0).1, (Array.getElem?_eq_some_iff.1 k1).1⟩)
  clear HBX
  go_wp2_with fail
  refine (awake15 _).mono ?_
  rintro e' w2 ⟨rfl, hb2⟩
  have HB1 := Lib.hid (show Below w1.heap.size w1 w2 from hb2)
  clear hb2
  go_wp2_with fail
  refine (few_any _ ta tn tc tabs (HTb.out.keep (bt HB.out HB1.out)) HTn.out HTl.out).mono ?_
  rintro e' w3 ⟨⟨fb, rfl⟩, hw3⟩
  obtain rfl := hw3.symm
  have HBw := Lib.hid (bt HB.out HB1.out)
  cases fb with
  | false =>
    go_wp2_with fail
    refine (awake15 _).mono ?_
    rintro e' w9 ⟨rfl, hb9⟩
    have HB9 := Lib.hid (bt HBw.out hb9)
    clear hb9
    go_wp2_with fail
    go_ret
    exact ⟨rfl, HB9.out⟩
  | true =>
  by_cases h20 : (20 : Int) < (sn : Int)
  · go_wp2_with fail
    refine (awake15 _).mono ?_
    rintro e' w9 ⟨rfl, hb9⟩
    have HB9 := Lib.hid (bt HBw.out hb9)
    clear hb9
    go_wp2_with fail
    go_ret
    exact ⟨rfl, HB9.out⟩
  have hs20 : srcs.length ≤ 1000 := by have := HSn.out; omega
  have HS20 := Lib.hid hs20
  clear hs20
  obtain ⟨k0, k1, k2, k3⟩ := HC.out _ HB1.out
  obtain ⟨e0, e1, e2, e3, e4, e5, e6, e7⟩ := cellsE k0
  clear k0 k1
  go_wp2_with fail
  refine (small_any _ Q _ e (HEe.out _ HBw.out)).mono ?_
  rintro e' w4 ⟨rfl, hb4⟩
  have HB4 := Lib.hid (bt HB1.out hb4)
  have HBw := Lib.hid (bt HBw.out hb4)
  clear hb4 e0 e1 e2 e3 e4 e5 e6 e7 k2 k3
  cases hse : smallB e with
  | false =>
    go_wp2_with fail
    refine (awake15 _).mono ?_
    rintro e' w9 ⟨rfl, hb9⟩
    have HB9 := Lib.hid (bt HBw.out hb9)
    clear hb9
    go_wp2_with fail
    go_ret
    exact ⟨rfl, HB9.out⟩
  | true =>
  have HSe := Lib.hid (small_sz hse)
  obtain ⟨k0, k1, k2, k3⟩ := HC.out _ HB4.out
  obtain ⟨e0, e1, e2, e3, e4, e5, e6, e7⟩ := cellsE k1
  clear k0 k1 hse
  go_wp2_with fail
  refine (small_any _ Q' _ f (HEf.out _ HBw.out)).mono ?_
  rintro e' w5 ⟨rfl, hb5⟩
  have HB5 := Lib.hid (bt HB4.out hb5)
  have HBw := Lib.hid (bt HBw.out hb5)
  clear hb5 e0 e1 e2 e3 e4 e5 e6 e7 k2 k3
  cases hsf : smallB f with
  | false =>
    go_wp2_with fail
    refine (awake15 _).mono ?_
    rintro e' w9 ⟨rfl, hb9⟩
    have HB9 := Lib.hid (bt HBw.out hb9)
    clear hb9
    go_wp2_with fail
    go_ret
    exact ⟨rfl, HB9.out⟩
  | true =>
  have HSf := Lib.hid (small_sz hsf)
  obtain ⟨k0, k1, k2, k3⟩ := HC.out _ HB5.out
  obtain ⟨e0, e1, e2, e3, e4, e5, e6, e7⟩ := cellsE k0
  clear k0 k1 hsf
  go_wp2_with fail
  refine (etheirs_any (etSz e) e (Nat.le_refl _) (by have := HSe.out; omega) _ Q _ (HEe.out _ HBw.out)).mono ?_
  rintro e' w6 ⟨⟨r6, rfl, hev6⟩, hb6⟩
  have HEv6 := Lib.hid hev6
  have HB6 := Lib.hid (bt HB5.out hb6)
  have HBw := Lib.hid (bt HBw.out hb6)
  clear hb6 hev6 e0 e1 e2 e3 e4 e5 e6 e7 k2 k3
  go_wp2_with fail
  refine (pvalue_any tabs srcs e (by have := HSe.out; omega) HS20.out (by have := HTn.out; have := HTl.out; omega) _ ta sa tn tc sn sc (HTb.out.keep HBw.out) (HSr.out.keep HBw.out) HTn.out HSn.out _ _ HEv6.out).mono ?_
  rintro e' w7 ⟨⟨v7, rfl, ra, rc, rfl, hcrg, hcl⟩, hb7⟩
  have HRgA := Lib.hid hcrg
  have HClA := Lib.hid hcl
  have HB7 := Lib.hid (bt HB6.out hb7)
  have HBw := Lib.hid (bt HBw.out hb7)
  clear hb7 hcrg hcl HEv6
  obtain ⟨c, hc⟩ : ∃ c, c = (scV tabs srcs e).1 := ⟨_, rfl⟩
  obtain ⟨kd, hkd⟩ : ∃ kd, kd = (scV tabs srcs e).2.1 := ⟨_, rfl⟩
  obtain ⟨er, her⟩ : ∃ er, er = (scV tabs srcs e).2.2 := ⟨_, rfl⟩
  have HV := Lib.hid (show scV tabs srcs e = (c, kd, er) by rw [hc, hkd, her])
  have HCz := Lib.hid (show ctSz c ≤ 300 by have := scV_sz tabs srcs e; rw [← hc] at this; have := HSe.out; omega)
  have HCs := Lib.hid (show sumsR sumHD c = sumsR reckP c by have := scV_sums tabs srcs e; rw [← hc] at this; exact this)
  rw [← hc] at HRgA HClA
  rw [← hc, ← hkd, ← her]
  clear hc hkd her
  rw [ctX_arrT]
  go_upto_region 4 with (fail)
  have HX8 := Lib.hid (show (w7.alloc (.cells #[.int .i64 c.kind, .string c.op, .int .i64 c.vk, .int .i64 c.vn, .string c.vs, .int .i64 c.src, .int .i64 c.col, .slice ra c.parts.length rc] 46)).heap[w7.heap.size]? = some (.cells #[.int .i64 c.kind, .string c.op, .int .i64 c.vk, .int .i64 c.vn, .string c.vs, .int .i64 c.src, .int .i64 c.col, .slice ra c.parts.length rc] 46 (0, 0)) from Go.heap_alloc_new w7 _)
  have HB78 := Lib.hid (show Below w7.heap.size w7 (w7.alloc (.cells #[.int .i64 c.kind, .string c.op, .int .i64 c.vk, .int .i64 c.vn, .string c.vs, .int .i64 c.src, .int .i64 c.col, .slice ra c.parts.length rc] 46)) from bel0 _ (Below.refl _ _))
  generalize w7.alloc (.cells #[.int .i64 c.kind, .string c.op, .int .i64 c.vk, .int .i64 c.vn, .string c.vs, .int .i64 c.src, .int .i64 c.col, .slice ra c.parts.length rc] 46) = w8 at *
  have HB8 := Lib.hid (bt HB7.out HB78.out)
  have HBw := Lib.hid (bt HBw.out HB78.out)
  obtain ⟨k0, k1, k2, k3⟩ := HC.out _ HB8.out
  obtain ⟨e0, e1, e2, e3, e4, e5, e6, e7⟩ := cellsE k0
  clear k0 k1
  go_wp2_with fail
  refine (rvalue_any tabs srcs e (by have := HSe.out; omega) HS20.out (by have := HTn.out; have := HTl.out; omega) _ ta sa tn tc sn sc (HTb.out.keep HBw.out) (HSr.out.keep HBw.out) HTn.out HSn.out _ _ (HEe.out _ HBw.out)).mono ?_
  rintro e' w9 ⟨⟨v9, rfl, rb, rd, rfl, hcrg, hcl⟩, hb9⟩
  have HRgB := Lib.hid hcrg
  have HClB := Lib.hid hcl
  have HB89 := Lib.hid (show Below w8.heap.size w8 w9 from hb9)
  have HB9 := Lib.hid (bt HB8.out hb9)
  have HBw := Lib.hid (bt HBw.out hb9)
  clear hb9 hcrg hcl e0 e1 e2 e3 e4 e5 e6 e7 k2 k3
  rw [HV.out] at HRgB HClB ⊢
  rw [ctX_arrO]
  go_upto_region 5 with (fail)
  have HX10 := Lib.hid (show (w9.alloc (.cells #[.int .i64 c.kind, .string c.op, .int .i64 c.vk, .int .i64 c.vn, .string c.vs, .int .i64 c.src, .int .i64 c.col, .slice rb c.parts.length rd] 56)).heap[w9.heap.size]? = some (.cells #[.int .i64 c.kind, .string c.op, .int .i64 c.vk, .int .i64 c.vn, .string c.vs, .int .i64 c.src, .int .i64 c.col, .slice rb c.parts.length rd] 56 (0, 0)) from Go.heap_alloc_new w9 _)
  have HB910 := Lib.hid (show Below w9.heap.size w9 (w9.alloc (.cells #[.int .i64 c.kind, .string c.op, .int .i64 c.vk, .int .i64 c.vn, .string c.vs, .int .i64 c.src, .int .i64 c.col, .slice rb c.parts.length rd] 56)) from bel0 _ (Below.refl _ _))
  generalize w9.alloc (.cells #[.int .i64 c.kind, .string c.op, .int .i64 c.vk, .int .i64 c.vn, .string c.vs, .int .i64 c.src, .int .i64 c.col, .slice rb c.parts.length rd] 56) = w10 at *
  have HB10 := Lib.hid (bt HB9.out HB910.out)
  have HBw := Lib.hid (bt HBw.out HB910.out)
  have HXa := Lib.hid (show w10.heap[w7.heap.size]? = some (.cells #[.int .i64 c.kind, .string c.op, .int .i64 c.vk, .int .i64 c.vn, .string c.vs, .int .i64 c.src, .int .i64 c.col, .slice ra c.parts.length rc] 46 (0, 0)) from ((bt HB89.out HB910.out).block _ (Array.getElem?_eq_some_iff.1 HX8.out).1).trans HX8.out)
  have HCa := Lib.hid (show ∀ W, Below w10.heap.size w10 W → CV W (fun _ => True) (.agg #[.int .i64 c.kind, .string c.op, .int .i64 c.vk, .int .i64 c.vn, .string c.vs, .int .i64 c.src, .int .i64 c.col, .slice ra c.parts.length rc]) c from fun W hW => ⟨ra, rc, rfl, HRgA.out, (HClA.out.mono (fun _ _ _ => trivial)).keep (bt HB78.out (bt HB89.out (bt HB910.out hW)))⟩)
  have HCb := Lib.hid (show ∀ W, Below w10.heap.size w10 W → CV W (fun _ => True) (.agg #[.int .i64 c.kind, .string c.op, .int .i64 c.vk, .int .i64 c.vn, .string c.vs, .int .i64 c.src, .int .i64 c.col, .slice rb c.parts.length rd]) c from fun W hW => ⟨rb, rd, rfl, HRgB.out, (HClB.out.mono (fun _ _ _ => trivial)).keep (bt HB910.out hW)⟩)
  have HK5 := Lib.hid (show ∀ W, Below w10.heap.size w10 W → W.heap[w7.heap.size]? = some (.cells #[.int .i64 c.kind, .string c.op, .int .i64 c.vk, .int .i64 c.vn, .string c.vs, .int .i64 c.src, .int .i64 c.col, .slice ra c.parts.length rc] 46 (0, 0)) ∧ W.heap[w9.heap.size]? = some (.cells #[.int .i64 c.kind, .string c.op, .int .i64 c.vk, .int .i64 c.vn, .string c.vs, .int .i64 c.src, .int .i64 c.col, .slice rb c.parts.length rd] 56 (0, 0)) from fun W hW => ⟨(hW.block _ (Array.getElem?_eq_some_iff.1 HXa.out).1).trans HXa.out, (hW.block _ (Array.getElem?_eq_some_iff.1 HX10.out).1).trans HX10.out⟩)
  refine wp_mono (sv_r5 c ra rb rc rd w7.heap.size w9.heap.size kd er ta tn tc name (posI (tbP name) tabs) w10 _ _ _ _ _ _ _ _ _ _ _ _ _ _ _ _ _ _ _ _ _ _ _ _ _ _ _ _ _ _ _ _ _ _ _ _ _ _ _ _ _ _ _ _ _ _ _ _ _ _ _ _ _ _ _ _ _ _ _ _ _ _ _ _ _ _ _ _ _ _ _ _ _ _ _ _ _ _ _ _ _ _ _ _ _ _ _ _ _ _ _ _ _ _ _ _ _ _ _ _ _ ?hK ?hO ?hC ?hR ?hP ?hF) ?_
  case hK =>
    intro W hW
    obtain ⟨h1, h2⟩ := HK5.out W hW
    obtain ⟨a0, a1, a2, a3, a4, a5, a6, a7⟩ := cellsE h1
    obtain ⟨b0, b1, b2, b3, b4, b5, b6, b7⟩ := cellsE h2
    exact ⟨a0, a1, a2, a3, a4, a5, a6, a7, b0, b1, b2, b3, b4, b5, b6, b7⟩
  case hO => exact fun W hW => (etheirs_anyO (ctSz c) c (Nat.le_refl _) (by have := HCz.out; omega) W _ _ (HCa.out W hW)).mono (fun _ _ ⟨⟨r, h1, ra, rc, h2, h3, h4⟩, h5⟩ => ⟨⟨r, h1, ra, rc, h2, h3, h4.mono (fun _ _ _ => trivial)⟩, h5⟩)
  case hC => exact HCb.out
  case hR =>
    intro W r s h1 h2
    have h := same14_any (ctSz c) c (Nat.le_refl _) c W _ _ _ _ h1 h2
    rw [sameT_refl (ctSz c) c (Nat.le_refl _)] at h
    exact h
  case hP => exact fun W hW => find_any W ta tabs tc tn HTn.out name (HTb.out.keep (bt HBw.out hW)) (by have := HTn.out; have := HTl.out; omega)
  case hF => exact fun W hW => rfind_any W ta tabs tc tn HTn.out name (HTb.out.keep (bt HBw.out hW)) (by have := HTn.out; have := HTl.out; omega)
  rintro e' a' w11 ⟨rfl, ⟨u60', u61', u62', u63', u64', u65', u66', u67', u68', u69', u70', u71', u72', u73', u74', u75', u76', u77', u78', u79', u80', u81', u82', rfl⟩, hb11⟩
  have HB1011 := Lib.hid hb11
  have HB11 := Lib.hid (bt HB10.out hb11)
  have HBw := Lib.hid (bt HBw.out hb11)
  clear hb11
  obtain ⟨k0, k1, k2, k3⟩ := HC.out _ HB11.out
  obtain ⟨e0, e1, e2, e3, e4, e5, e6, e7⟩ := cellsE k1
  clear k0 k1
  dsimp only
  go_wp2_with fail
  refine (rvalue_any tabs srcs f (by have := HSf.out; omega) HS20.out (by have := HTn.out; have := HTl.out; omega) _ ta sa tn tc sn sc (HTb.out.keep HBw.out) (HSr.out.keep HBw.out) HTn.out HSn.out _ _ (HEf.out _ HBw.out)).mono ?_
  rintro e' w12 ⟨⟨v12, rfl, rg, rh, rfl, hcrg, hcl⟩, hb12⟩
  have HRgC := Lib.hid hcrg
  have HClC := Lib.hid hcl
  have HB1112 := Lib.hid (show Below w11.heap.size w11 w12 from hb12)
  have HB12 := Lib.hid (bt HB11.out hb12)
  have HBw := Lib.hid (bt HBw.out hb12)
  clear hb12 hcrg hcl e0 e1 e2 e3 e4 e5 e6 e7 k2 k3
  obtain ⟨d, hd⟩ : ∃ d, d = (scV tabs srcs f).1 := ⟨_, rfl⟩
  have HDz := Lib.hid (show ctSz d ≤ 300 by have := scV_sz tabs srcs f; rw [← hd] at this; have := HSf.out; omega)
  rw [← hd] at HRgC HClC ⊢
  obtain ⟨kf, hkf⟩ : ∃ kf, kf = (scV tabs srcs f).2.1 := ⟨_, rfl⟩
  obtain ⟨ef, hef⟩ : ∃ ef, ef = (scV tabs srcs f).2.2 := ⟨_, rfl⟩
  rw [← hkf, ← hef]
  clear hd hkf hef
  rw [ctX_arrO]
  go_upto_region 8 with (fail)
  have HX13 := Lib.hid (show (w12.alloc (.cells #[.int .i64 d.kind, .string d.op, .int .i64 d.vk, .int .i64 d.vn, .string d.vs, .int .i64 d.src, .int .i64 d.col, .slice rg d.parts.length rh] 56)).heap[w12.heap.size]? = some (.cells #[.int .i64 d.kind, .string d.op, .int .i64 d.vk, .int .i64 d.vn, .string d.vs, .int .i64 d.src, .int .i64 d.col, .slice rg d.parts.length rh] 56 (0, 0)) from Go.heap_alloc_new w12 _)
  have HB1213 := Lib.hid (show Below w12.heap.size w12 (w12.alloc (.cells #[.int .i64 d.kind, .string d.op, .int .i64 d.vk, .int .i64 d.vn, .string d.vs, .int .i64 d.src, .int .i64 d.col, .slice rg d.parts.length rh] 56)) from bel0 _ (Below.refl _ _))
  generalize w12.alloc (.cells #[.int .i64 d.kind, .string d.op, .int .i64 d.vk, .int .i64 d.vn, .string d.vs, .int .i64 d.src, .int .i64 d.col, .slice rg d.parts.length rh] 56) = w13 at *
  have HB1013 := Lib.hid (bt HB1011.out (bt HB1112.out HB1213.out))
  have HBw := Lib.hid (bt HBw.out HB1213.out)
  have HCd := Lib.hid (show ∀ W, Below w13.heap.size w13 W → CV W (fun _ => True) (.agg #[.int .i64 d.kind, .string d.op, .int .i64 d.vk, .int .i64 d.vn, .string d.vs, .int .i64 d.src, .int .i64 d.col, .slice rg d.parts.length rh]) d from fun W hW => ⟨rg, rh, rfl, HRgC.out, (HClC.out.mono (fun _ _ _ => trivial)).keep (bt HB1213.out hW)⟩)
  refine wp_mono (sv_r8 c d rb rg rd rh w9.heap.size w12.heap.size (sumsR sumHD c) w13 _ _ _ _ _ _ _ _ _ _ _ _ _ _ _ _ _ _ _ _ _ _ _ _ _ _ _ _ _ _ _ _ _ _ _ _ _ _ _ _ _ _ _ _ _ _ _ _ _ _ _ _ _ _ _ _ _ _ _ _ _ _ _ _ _ _ _ _ _ _ _ _ _ _ _ _ _ _ _ _ _ _ _ _ _ _ _ _ _ _ _ _ _ _ _ _ _ _ _ _ _ _ _ _ _ _ _ ?hK ?hTb ?hTc ?hRs ?hRu ?hPs ?hPu) ?_
  case hK =>
    intro W hW
    obtain ⟨-, h1⟩ := HK5.out W (bt HB1013.out hW)
    have h2 := (hW.block _ (Array.getElem?_eq_some_iff.1 HX13.out).1).trans HX13.out
    obtain ⟨a0, a1, a2, a3, a4, a5, a6, a7⟩ := cellsE h1
    obtain ⟨b0, b1, b2, b3, b4, b5, b6, b7⟩ := cellsE h2
    exact ⟨a0, a1, a2, a3, a4, a5, a6, a7, b0, b1, b2, b3, b4, b5, b6, b7⟩
  case hTb => exact fun W hW => (etheirs_anyT (ctSz c) c (Nat.le_refl _) (by have := HCz.out; omega) W _ _ (HCb.out W (bt HB1013.out hW))).mono (fun _ _ ⟨⟨r, h1, ra, rc, h2, h3, h4⟩, h5⟩ => ⟨⟨r, h1, ra, rc, h2, h3, h4.mono (fun _ _ _ => trivial)⟩, h5⟩)
  case hTc => exact fun W hW => (etheirs_anyT (ctSz d) d (Nat.le_refl _) (by have := HDz.out; omega) W _ _ (HCd.out W hW)).mono (fun _ _ ⟨⟨r, h1, ra, rc, h2, h3, h4⟩, h5⟩ => ⟨⟨r, h1, ra, rc, h2, h3, h4.mono (fun _ _ _ => trivial)⟩, h5⟩)
  case hRs => exact fun W hW => same14_any (ctSz c) c (Nat.le_refl _) d W _ _ _ _ (HCb.out W (bt HB1013.out hW)) (HCd.out W hW)
  case hRu => exact fun W hW => sums14_any (ctSz c) c (Nat.le_refl _) W _ _ (HCb.out W (bt HB1013.out hW))
  case hPs => exact fun W r s h1 h2 => same_any (ctSz c) c (Nat.le_refl _) d W _ _ _ _ h1 h2
  case hPu =>
    intro W r h1
    rw [HCs.out]
    exact sums_any (ctSz c) c (Nat.le_refl _) W _ _ h1
  rintro e' a' w14 ⟨rfl, ⟨u92', u93', u94', u95', u96', u97', u98', u99', u100', u101', u102', u103', u104', u105', u106', u107', u108', rfl⟩, hb14⟩
  have HB14 := Lib.hid (bt HBw.out hb14)
  clear hb14
  dsimp only
  go_wp2_with fail
  go_ret
  exact ⟨rfl, HB14.out⟩
end Go.Proofs.Ytafhgilikcablaa
