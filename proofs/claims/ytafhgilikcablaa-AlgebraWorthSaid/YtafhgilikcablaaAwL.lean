/- AlgebraWorth: the law's walk. Written by genawl.py. -/
import Derived.Test.YtafhgilikcablaaAwGA
import Derived.Test.YtafhgilikcablaaSvFw
import Derived.Test.YtafhgilikcablaaSvVc
namespace Go.Proofs.Ytafhgilikcablaa
open Go.RowKit
set_option linter.unusedVariables false
set_option linter.unusedSimpArgs false
set_option maxRecDepth 100000
theorem scV_wk {tabs : List TB} {srcs : List Int} {e : ET} (hK : KindsOk tabs) (hr : RgE e) (h0 : (scV tabs srcs e).2.2 = 0) : Wk (scV tabs srcs e).1 (scV tabs srcs e).2.1 := by
  cases ho : srcs.any (outB tabs) with
  | true => rw [scV_out ho] at h0; exact absurd h0 (by decide)
  | false =>
    cases hf : fmdB e with
    | false => rw [scV_bad hf] at h0; exact absurd h0 (by decide)
    | true =>
      rw [scV_ok ho hf] at h0 ⊢
      refine resV_wk (FnOf tabs srcs) hK ?_ ?_ nmB (etSz e) e 8 (Nat.le_refl _) hr hf h0
      · intro s hs
        obtain ⟨x, hx, rfl⟩ := List.mem_map.1 hs
        have := out_ok (List.any_eq_false.1 ho x hx |> fun h => by simpa using h)
        show x.toNat < tabs.length
        omega
      · show (srcs.map (nmOf tabs)).length = (srcs.map Int.toNat).length
        simp
def FewA (tabs : List TB) (e : Ending) : Prop := ∃ b : Bool, e = .returned (.bool b) ∧ (b = true → KindsOk tabs)
theorem kinds_all {tabs : List TB} (h : ∀ t ∈ tabs.take tabs.length, ∀ c ∈ t.cols, 0 ≤ c.kind ∧ c.kind ≤ 2) : KindsOk tabs := by
  rw [List.take_length] at h
  exact h
set_option maxHeartbeats 3200000 in
theorem few2_any (w : World) (ta : Option Addr) (tn tc : Nat) (tabs : List TB) (ht : TabsAt w ta tabs) (htn : tn = tabs.length) (hle : tn ≤ 9223372036854775807) :
    Calls Try.prog 15 #[.slice ta tn tc] w fun e w' => FewA tabs e ∧ w' = w := by
  have HT := Lib.hid ht
  have HN := Lib.hid htn
  clear ht htn
  go_enter Try.func15, Try.ntmps15
  go_wp2
  go_loop [7] (fun i => ∃ k : Nat, k ≤ tn ∧ i = .int .i64 (k : Int) ∧ Hid (∀ t ∈ tabs.take k, ∀ c ∈ t.cols, 0 ≤ c.kind ∧ c.kind ≤ 2)) (fun i => tn - (intOf i).toNat)
  case atStart => exact ⟨0, by omega, rfl, Lib.hid (fun t h => by cases h)⟩
  case round =>
    obtain ⟨k, hk, rfl, HL⟩ := hrel
    have hk0 : (0 : Int) ≤ (k : Int) := by omega
    by_cases hlt : k < tn
    · have hki : (k : Int) < (tn : Int) := by omega
      have hkt : k < tabs.length := by rw [← HN.out]; exact hlt
      obtain ⟨b, off, ca, cc, rfl, hb, hat⟩ := HT.out.at hkt
      have HCo := Lib.hid hat.cols
      have hcl : (tabs[k]).cols.length ≤ 9223372036854775807 := hat.le
      have q2 := hat.c2
      obtain ⟨cs, hcs⟩ : ∃ cs, cs = (tabs[k]).cols := ⟨_, rfl⟩
      rw [← hcs] at q2 hcl HCo
      have HTk := Lib.hid (show (∀ c ∈ cs, 0 ≤ c.kind ∧ c.kind ≤ 2) → ∀ t ∈ tabs.take (k + 1), ∀ c ∈ t.cols, 0 ≤ c.kind ∧ c.kind ≤ 2 from fun h t ht => by
        rw [List.take_succ_eq_append_getElem hkt] at ht
        rcases List.mem_append.1 ht with ht | ht
        · exact HL.out t ht
        · rw [List.mem_singleton.1 ht, ← hcs]; exact h)
      obtain ⟨n, hn⟩ : ∃ n, n = cs.length := ⟨_, rfl⟩
      have HNc := Lib.hid hn
      rw [← hn] at q2 hcl
      clear hat hcs hkt hn
      have HLt := Lib.hid hlt
      by_cases h50 : (50 : Int) ≤ (k : Int)
      · go_wp2
        go_ret
        exact ⟨⟨false, rfl, fun h => by cases h⟩, rfl⟩
      · by_cases h30 : (30 : Int) < (n : Int)
        · go_wp2
          go_ret
          exact ⟨⟨false, rfl, fun h => by cases h⟩, rfl⟩
        · go_wp2_with fail
          go_loop [27] (fun i => ∃ j : Nat, j ≤ n ∧ i = .int .i64 (j : Int) ∧ Hid (∀ c ∈ cs.take j, 0 ≤ c.kind ∧ c.kind ≤ 2)) (fun i => n - (intOf i).toNat)
          case atStart => exact ⟨0, by omega, rfl, Lib.hid (fun c h => by cases h)⟩
          case round =>
            obtain ⟨j, hj, rfl, HJl⟩ := hrel
            have hj0 : (0 : Int) ≤ (j : Int) := by omega
            by_cases hjl : j < n
            · have hji : (j : Int) < (n : Int) := by omega
              have hjc : j < cs.length := by rw [← HNc.out]; exact hjl
              obtain ⟨cb, co, rfl, hcb, hcat⟩ := HCo.out.at hjc
              have p1 := hcat.c1
              have HJt := Lib.hid (show (0 ≤ (cs[j]).kind ∧ (cs[j]).kind ≤ 2) → ∀ c ∈ cs.take (j + 1), 0 ≤ c.kind ∧ c.kind ≤ 2 from fun h c hc => by
                rw [List.take_succ_eq_append_getElem hjc] at hc
                rcases List.mem_append.1 hc with hc | hc
                · exact HJl.out c hc
                · rw [List.mem_singleton.1 hc]; exact h)
              obtain ⟨kd, hkd⟩ : ∃ kd, kd = (cs[j]).kind := ⟨_, rfl⟩
              rw [← hkd] at p1 HJt
              have HJ := Lib.hid hjl
              clear hcat hkd hjc hjl hj
              by_cases h0 : kd < 0
              · go_wp2
                go_ret
                exact ⟨⟨false, rfl, fun h => by cases h⟩, rfl⟩
              · by_cases h2 : (2 : Int) < kd
                · go_wp2
                  go_ret
                  exact ⟨⟨false, rfl, fun h => by cases h⟩, rfl⟩
                · have HK := Lib.hid (HJt.out ⟨by omega, by omega⟩)
                  go_wp2
                  refine ⟨⟨j + 1, HJ.out, by go_num, HK⟩, by have := HJ.out; simp [intOf]; omega⟩
            · have hjj : ¬ ((j : Int) < (n : Int)) := by omega
              have HK := Lib.hid (HTk.out (by
                have h1 := HJl.out
                rw [List.take_of_length_le (by rw [← HNc.out]; omega)] at h1
                exact h1))
              go_wp2
              refine ⟨⟨k + 1, HLt.out, by go_num, HK⟩, by have := HLt.out; simp [intOf]; omega⟩
    · have hkk : ¬ ((k : Int) < (tn : Int)) := by omega
      have HK := Lib.hid (show KindsOk tabs by
        have h1 := HL.out
        rw [List.take_of_length_le (by rw [← HN.out]; omega)] at h1
        exact h1)
      go_wp2
      go_ret
      exact ⟨⟨true, rfl, fun _ => HK.out⟩, rfl⟩
set_option maxHeartbeats 3200000 in
theorem fewRows_any (w : World) (g : Nat) (a : Option Addr) (len cap : Nat) (R : List (List Val)) (hg : w.cell? ⟨g, 0, none⟩ = some (.slice a len cap)) (hR : IsRR w a len R) :
    Calls Try.prog 29 #[.slice (some ⟨g, 0, none⟩) 1 1, .int .i64 30] w fun e w' => AnsB e ∧ w' = w := by
  have hgl : g < w.heap.size := World.block_lt_of_cell? w _ hg
  have hlen := hR.2.1
  have HR := Lib.hid hR.2.2
  have HG := Lib.hid hg
  clear hR hg
  go_enter Try.func29, Try.ntmps29
  go_wp2
  go_loop [9] (fun i => ∃ k : Nat, k ≤ 1 ∧ i = .int .i64 (k : Int)) (fun i => 1 - (intOf i).toNat)
  case atStart => exact ⟨0, by omega, rfl⟩
  case round =>
    obtain ⟨k, hk, rfl⟩ := hrel
    have hk0 : (0 : Int) ≤ (k : Int) := by omega
    by_cases hlt : k < 1
    · obtain rfl : k = 0 := by omega
      have g0 := HG.out
      by_cases h30 : (30 : Int) < (len : Int)
      · go_wp2
        go_ret
        exact ⟨⟨_, rfl⟩, rfl⟩
      · go_wp2_with fail
        go_loop [28] (fun i => ∃ j : Nat, j ≤ len ∧ i = .int .i64 (j : Int)) (fun i => len - (intOf i).toNat)
        case atStart => exact ⟨0, by omega, rfl⟩
        case round =>
          obtain ⟨j, hj, rfl⟩ := hrel
          have hj0 : (0 : Int) ≤ (j : Int) := by omega
          by_cases hjl : j < len
          · have hji : (j : Int) < (len : Int) := by omega
            rcases HR.out with h0 | ⟨b, off, rfl, hbl, hc⟩
            · omega
            obtain ⟨ra, rl, rc, q0, hv⟩ := hc j hjl
            have hrl := hv.2.1
            have HJ := Lib.hid hjl
            clear hc hv hjl hj
            by_cases h20 : (20 : Int) < (rl : Int)
            · go_wp2
              go_ret
              exact ⟨⟨_, rfl⟩, rfl⟩
            · go_wp2
              refine ⟨⟨j + 1, HJ.out, by go_num⟩, by have := HJ.out; simp [intOf]; omega⟩
          · have hjj : ¬ ((j : Int) < (len : Int)) := by omega
            go_wp2
            refine ⟨⟨1, by omega, rfl⟩, by simp [intOf]⟩
    · obtain rfl : k = 1 := by omega
      go_wp2
      go_ret
      exact ⟨⟨_, rfl⟩, rfl⟩
set_option maxHeartbeats 3200000 in
theorem awake16 (w : World) : Calls Try.prog 28 #[] w fun e w' => e = .returned (.bool true) ∧ Below w.heap.size w w' := by
  have HW := Lib.hid (show ∀ w1 : World, Calls Try.prog 30 #[.agg #[.int .i64 1, .string ⟨#[]⟩, .int .i64 1, .int .i64 5, .string ⟨#[]⟩, .int .i64 0, .int .i64 0, .slice none 0 0], .slice none 0 0] w1 (AskP w1 ((1, 5, ⟨#[]⟩), 0, 0)) from fun w1 =>
    pworth_any (R := []) (by intro l h; cases h) (Wk.lit 1 5 ⟨#[]⟩ (by decide +kernel) ⟨by decide, by decide⟩) w1 none 0 0 (fun _ => True) _ ⟨rfl, by decide, .inl rfl⟩ ⟨none, 0, rfl, ⟨by decide, by decide, by decide, by decide, by decide, by decide, by decide, fun _ => ⟨rfl, rfl⟩, Nat.le_refl _, by decide⟩, .nil _⟩)
  go_enter Try.func28, Try.ntmps28
  go_wp2_with fail
  refine (HW.out _).mono ?_
  rintro e w2 ⟨rfl, hb2⟩
  have HB2 := Lib.hid (show Below w.heap.size w w2 from hb2)
  clear hb2
  go_wp2_with fail
  go_ret
  exact ⟨rfl, bel0 _ HB2.out⟩
end Go.Proofs.Ytafhgilikcablaa
namespace Go.Proofs.Ytafhgilikcablaa
open Go.RowKit
set_option linter.unusedVariables false
set_option linter.unusedSimpArgs false
set_option maxRecDepth 100000
set_option maxHeartbeats 12800000 in
theorem algebraWorth_walk (tabs : List TB) (srcs : List Int) (e : ET) (R : List (List Val)) (w : World) (Q : Nat → Prop) (ta sa : Option Addr) (tn tc sn sc : Nat) (ve : Value) (a : Option Addr) (len cap : Nat) (ht : TabsAt w ta tabs) (hs : IntsAt w sa srcs) (htn : tn = tabs.length) (hsn : sn = srcs.length) (htl : tn ≤ 9223372036854775807) (hsl : sn ≤ 9223372036854775807) (hve : EV w Q ve e) (hR : IsRR w a len R) (hRR : RowsR R) :
    Calls Try.prog 5 #[.slice ta tn tc, .slice sa sn sc, ve, .slice a len cap] w fun e' w' => e' = .returned (.bool true) ∧ Below w.heap.size w w' := by
  have HRg := Lib.hid hve.rg
  obtain ⟨pa, pc, rfl, hrg, hel⟩ := hve
  have HEe := Lib.hid (show ∀ W, Below w.heap.size w W → EV W Q (.agg #[.int .i64 e.kind, .string e.op, .int .i64 e.vk, .int .i64 e.vn, .string e.vs, .string e.tab, .string e.col, .slice pa e.parts.length pc]) e from fun W hW => ⟨pa, pc, rfl, hrg, hel.keep hW⟩)
  have HTb := Lib.hid ht
  have HSr := Lib.hid hs
  have HTn := Lib.hid htn
  have HSn := Lib.hid hsn
  have HTl := Lib.hid htl
  have HR := Lib.hid hR
  have HRR := Lib.hid hRR
  have e0 : (etX e pa pc).toArray = #[.int .i64 e.kind, .string e.op, .int .i64 e.vk, .int .i64 e.vn, .string e.vs, .string e.tab, .string e.col, .slice pa e.parts.length pc] := rfl
  rw [e0]
  clear ht hs htn hsn hrg hel e0 hR hRR
  have HB := Lib.hid (bel0 (.cells #[.int .i64 e.kind, .string e.op, .int .i64 e.vk, .int .i64 e.vn, .string e.vs, .string e.tab, .string e.col, .slice pa e.parts.length pc] 41) (Below.refl w.heap.size w))
  have HBX := Lib.hid (show (w.alloc (.cells #[.int .i64 e.kind, .string e.op, .int .i64 e.vk, .int .i64 e.vn, .string e.vs, .string e.tab, .string e.col, .slice pa e.parts.length pc] 41)).heap[w.heap.size]? = some (.cells #[.int .i64 e.kind, .string e.op, .int .i64 e.vk, .int .i64 e.vn, .string e.vs, .string e.tab, .string e.col, .slice pa e.parts.length pc] 41 (0, 0)) ∧ (w.alloc (.cells #[.int .i64 e.kind, .string e.op, .int .i64 e.vk, .int .i64 e.vn, .string e.vs, .string e.tab, .string e.col, .slice pa e.parts.length pc] 41)).heap.size = w.heap.size + 1 from ⟨Go.heap_alloc_new w _, by simp⟩)
  go_enter Try.func5, Try.ntmps5
  go_upto_region 1 with (fail)
  generalize (w.alloc (.cells #[.int .i64 e.kind, .string e.op, .int .i64 e.vk, .int .i64 e.vn, .string e.vs, .string e.tab, .string e.col, .slice pa e.parts.length pc] 41)) = w1 at *
  have HC := Lib.hid (show ∀ W : World, Below w1.heap.size w1 W → W.heap[w.heap.size]? = some (.cells #[.int .i64 e.kind, .string e.op, .int .i64 e.vk, .int .i64 e.vn, .string e.vs, .string e.tab, .string e.col, .slice pa e.parts.length pc] 41 (0, 0)) ∧ w.heap.size < W.heap.size from fun W h => by
    obtain ⟨h0, hz⟩ := HBX.out
    have k0 := (h.block w.heap.size (by omega)).trans h0
    exact ⟨k0, (Array.getElem?_eq_some_iff.1 k0).1⟩)
  clear HBX
  go_wp2_with fail
  refine (awake16 _).mono ?_
  rintro e' w2 ⟨rfl, hb2⟩
  have HB1 := Lib.hid (show Below w1.heap.size w1 w2 from hb2)
  clear hb2
  go_wp2_with fail
  refine (few2_any _ ta tn tc tabs (HTb.out.keep (bt HB.out HB1.out)) HTn.out HTl.out).mono ?_
  rintro e' w3 ⟨⟨fb, rfl, hkd⟩, hw3⟩
  obtain rfl := hw3.symm
  have HKd := Lib.hid hkd
  have HBw := Lib.hid (bt HB.out HB1.out)
  clear hkd
  cases fb with
  | false =>
    go_wp2_with fail
    refine (awake16 _).mono ?_
    rintro e' w9 ⟨rfl, hb9⟩
    have HB9 := Lib.hid (bt HBw.out hb9)
    clear hb9
    go_wp2_with fail
    go_ret
    exact ⟨rfl, HB9.out⟩
  | true =>
  by_cases h20 : (20 : Int) < (sn : Int)
  · go_wp2_with fail
    refine (awake16 _).mono ?_
    rintro e' w9 ⟨rfl, hb9⟩
    have HB9 := Lib.hid (bt HBw.out hb9)
    clear hb9
    go_wp2_with fail
    go_ret
    exact ⟨rfl, HB9.out⟩
  have hs20 : srcs.length ≤ 1000 := by have := HSn.out; omega
  have HS20 := Lib.hid hs20
  clear hs20
  obtain ⟨k0, k2⟩ := HC.out _ HB1.out
  obtain ⟨e0, e1, e2, e3, e4, e5, e6, e7⟩ := cellsE k0
  clear k0
  go_wp2_with fail
  refine (small_any _ Q _ e (HEe.out _ HBw.out)).mono ?_
  rintro e' w4 ⟨rfl, hb4⟩
  have HB4 := Lib.hid (bt HB1.out hb4)
  have HBw := Lib.hid (bt HBw.out hb4)
  clear hb4 e0 e1 e2 e3 e4 e5 e6 e7 k2
  cases hse : smallB e with
  | false =>
    go_wp2_with fail
    refine (awake16 _).mono ?_
    rintro e' w9 ⟨rfl, hb9⟩
    have HB9 := Lib.hid (bt HBw.out hb9)
    clear hb9
    go_wp2_with fail
    go_ret
    exact ⟨rfl, HB9.out⟩
  | true =>
  have HSe := Lib.hid (small_sz hse)
  clear hse
  have HFr := Lib.hid (show ∀ o : Obj, Below w4.heap.size w4 (w4.alloc o) from fun o => bel0 o (Below.refl _ _))
  go_wp2_with fail
  refine (fewRows_any _ w4.heap.size a len cap R (box_cell w4 (.slice a len cap) _ rfl) (HR.out.below (bt HBw.out (HFr.out _)))).mono ?_
  rintro e' w5 ⟨⟨fr, rfl⟩, hw5⟩
  have HB5 := Lib.hid (show Below w4.heap.size w4 w5 by rw [hw5]; exact HFr.out _)
  clear hw5
  have HBw := Lib.hid (bt HBw.out HB5.out)
  cases fr with
  | false =>
    go_wp2_with fail
    refine (awake16 _).mono ?_
    rintro e' w9 ⟨rfl, hb9⟩
    have HB9 := Lib.hid (bt HBw.out hb9)
    clear hb9
    go_wp2_with fail
    go_ret
    exact ⟨rfl, HB9.out⟩
  | true =>
  have HB15 := Lib.hid (bt HB4.out HB5.out)
  obtain ⟨k0, k2⟩ := HC.out _ HB15.out
  obtain ⟨e0, e1, e2, e3, e4, e5, e6, e7⟩ := cellsE k0
  clear k0
  go_wp2_with fail
  refine (rvalue_any tabs srcs e (by have := HSe.out; omega) HS20.out (by have := HTn.out; have := HTl.out; omega) _ ta sa tn tc sn sc (HTb.out.keep HBw.out) (HSr.out.keep HBw.out) HTn.out HSn.out _ _ (HEe.out _ HBw.out)).mono ?_
  rintro e' w6 ⟨⟨v6, rfl, rb, rd, rfl, hcrg, hcl⟩, hb6⟩
  have HRgB := Lib.hid hcrg
  have HClB := Lib.hid hcl
  have HBw := Lib.hid (bt HBw.out hb6)
  clear hb6 hcrg hcl e0 e1 e2 e3 e4 e5 e6 e7 k2
  obtain ⟨c, hc⟩ : ∃ c, c = (scV tabs srcs e).1 := ⟨_, rfl⟩
  obtain ⟨kd, hkd⟩ : ∃ kd, kd = (scV tabs srcs e).2.1 := ⟨_, rfl⟩
  obtain ⟨er, her⟩ : ∃ er, er = (scV tabs srcs e).2.2 := ⟨_, rfl⟩
  have HWk := Lib.hid (show er = 0 → Wk c kd from fun h => by rw [hc, hkd]; exact scV_wk (HKd.out (by trivial)) HRg.out (by rw [← her]; exact h))
  have HCz := Lib.hid (show ctSz c ≤ 300 by have := scV_sz tabs srcs e; rw [← hc] at this; have := HSe.out; omega)
  rw [← hc] at HRgB HClB
  rw [← hc, ← hkd, ← her]
  clear hc hkd her
  rw [ctX_arrO]
  go_upto_region 4 with (fail)
  have HX7 := Lib.hid (show (w6.alloc (.cells #[.int .i64 c.kind, .string c.op, .int .i64 c.vk, .int .i64 c.vn, .string c.vs, .int .i64 c.src, .int .i64 c.col, .slice rb c.parts.length rd] 56)).heap[w6.heap.size]? = some (.cells #[.int .i64 c.kind, .string c.op, .int .i64 c.vk, .int .i64 c.vn, .string c.vs, .int .i64 c.src, .int .i64 c.col, .slice rb c.parts.length rd] 56 (0, 0)) from Go.heap_alloc_new w6 _)
  have HB67 := Lib.hid (show Below w6.heap.size w6 (w6.alloc (.cells #[.int .i64 c.kind, .string c.op, .int .i64 c.vk, .int .i64 c.vn, .string c.vs, .int .i64 c.src, .int .i64 c.col, .slice rb c.parts.length rd] 56)) from bel0 _ (Below.refl _ _))
  generalize w6.alloc (.cells #[.int .i64 c.kind, .string c.op, .int .i64 c.vk, .int .i64 c.vn, .string c.vs, .int .i64 c.src, .int .i64 c.col, .slice rb c.parts.length rd] 56) = w7 at *
  have HBw := Lib.hid (bt HBw.out HB67.out)
  have HCb := Lib.hid (show ∀ W, Below w7.heap.size w7 W → CV W (fun _ => True) (.agg #[.int .i64 c.kind, .string c.op, .int .i64 c.vk, .int .i64 c.vn, .string c.vs, .int .i64 c.src, .int .i64 c.col, .slice rb c.parts.length rd]) c from fun W hW => ⟨rb, rd, rfl, HRgB.out, (HClB.out.mono (fun _ _ _ => trivial)).keep (bt HB67.out hW)⟩)
  by_cases hz : er = 0
  rotate_left
  · have hne : (er != 0) = true := by simp [hz]
    go_wp2_with fail
    go_ret
    exact ⟨rfl, HBw.out⟩
  have HW := Lib.hid (HWk.out hz)
  have hne : (er != 0) = false := by simp [hz]
  have HEr := Lib.hid hz
  obtain ⟨y, hy⟩ : ∃ y, y = askV R c := ⟨_, rfl⟩
  have HY := Lib.hid hy
  clear hy
  obtain ⟨e0, e1, e2, e3, e4, e5, e6, e7⟩ := cellsE HX7.out
  have hs7 : w6.heap.size < w7.heap.size := (Array.getElem?_eq_some_iff.1 HX7.out).1
  go_wp2_with fail
  refine (etheirs_anyT (ctSz c) c (Nat.le_refl _) (by have := HCz.out; omega) _ _ _ (HCb.out _ (Below.refl _ _))).mono ?_
  rintro e' w8 ⟨⟨r8, rfl, hcv8⟩, hb8⟩
  have HC8 := Lib.hid hcv8
  have HB78 := Lib.hid (show Below w7.heap.size w7 w8 from hb8)
  have HBw := Lib.hid (bt HBw.out hb8)
  clear hb8 hcv8 e0 e1 e2 e3 e4 e5 e6 e7 hs7
  go_wp2_with fail
  refine (pworth_any HRR.out HW.out _ a len cap _ _ (HR.out.below HBw.out) HC8.out).mono ?_
  rintro e' w9 ⟨rfl, hb9⟩
  rw [← HY.out]
  have HB79 := Lib.hid (bt HB78.out hb9)
  have HBw := Lib.hid (bt HBw.out hb9)
  clear hb9
  go_upto_region 7 with (fail)
  have HX12 := Lib.hid (show (w9.alloc (.cells #[.int .i64 y.1.1, .int .i64 y.1.2.1, .string y.1.2.2] 38)).heap[w9.heap.size]? = some (.cells #[.int .i64 y.1.1, .int .i64 y.1.2.1, .string y.1.2.2] 38 (0, 0)) from Go.heap_alloc_new w9 _)
  have HB910 := Lib.hid (show Below w9.heap.size w9 (w9.alloc (.cells #[.int .i64 y.1.1, .int .i64 y.1.2.1, .string y.1.2.2] 38)) from bel0 _ (Below.refl _ _))
  generalize w9.alloc (.cells #[.int .i64 y.1.1, .int .i64 y.1.2.1, .string y.1.2.2] 38) = w10 at *
  have HB710 := Lib.hid (bt HB79.out HB910.out)
  have HBw := Lib.hid (bt HBw.out HB910.out)
  obtain ⟨e0, e1, e2, e3, e4, e5, e6, e7⟩ := cellsE ((HB710.out.block _ (Array.getElem?_eq_some_iff.1 HX7.out).1).trans HX7.out)
  have hs7 : w6.heap.size < w10.heap.size := Nat.lt_of_lt_of_le (Array.getElem?_eq_some_iff.1 HX7.out).1 HB710.out.size
  go_wp2_with fail
  refine (rworth_any HRR.out HW.out _ a len cap _ _ (HR.out.below HBw.out) (HCb.out _ HB710.out)).mono ?_
  rintro e' w11 ⟨rfl, hb11⟩
  rw [← HY.out]
  have HB1011 := Lib.hid (show Below w10.heap.size w10 w11 from hb11)
  have HBw := Lib.hid (bt HBw.out hb11)
  clear hb11 e0 e1 e2 e3 e4 e5 e6 e7 hs7
  go_upto_region 8 with (fail)
  have HX15 := Lib.hid (show (w11.alloc (.cells #[.int .i64 y.1.1, .int .i64 y.1.2.1, .string y.1.2.2] 38)).heap[w11.heap.size]? = some (.cells #[.int .i64 y.1.1, .int .i64 y.1.2.1, .string y.1.2.2] 38 (0, 0)) from Go.heap_alloc_new w11 _)
  have HB1112 := Lib.hid (show Below w11.heap.size w11 (w11.alloc (.cells #[.int .i64 y.1.1, .int .i64 y.1.2.1, .string y.1.2.2] 38)) from bel0 _ (Below.refl _ _))
  generalize w11.alloc (.cells #[.int .i64 y.1.1, .int .i64 y.1.2.1, .string y.1.2.2] 38) = w12 at *
  have HBw := Lib.hid (bt HBw.out HB1112.out)
  obtain ⟨m0, m1, m2, -, -, -, m6⟩ := v3 (((bt HB1011.out HB1112.out).block _ (Array.getElem?_eq_some_iff.1 HX12.out).1).trans HX12.out)
  obtain ⟨n0, n1, n2, -, -, -, n6⟩ := v3 HX15.out
  go_wp2_with fail
  go_ret
  exact ⟨rfl, HBw.out⟩
end Go.Proofs.Ytafhgilikcablaa
