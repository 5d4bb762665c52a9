/- The document's finder.column where no table is named. -/
import Derived.Test.YtafhgilikcablaaSvBx
namespace Go.Proofs.Ytafhgilikcablaa
open Go.RowKit
set_option linter.unusedVariables false
set_option linter.unusedSimpArgs false
set_option maxRecDepth 100000

end Go.Proofs.Ytafhgilikcablaa
namespace Go.Proofs.Ytafhgilikcablaa
open Go.RowKit
set_option linter.unusedVariables false
set_option linter.unusedSimpArgs false
set_option maxRecDepth 100000
set_option maxHeartbeats 6400000 in
theorem rcolumn_t (w : World) (D : Nat) (F : FnD) (ta sa na : Option Addr) (tn tc sn sc nn nc : Nat) (hF : FnAt w F ta sa na) (htn : tn = F.tabs.length) (hsn : sn = F.srcs.length) (hnn : nn = F.names.length)
    (hD : w.heap[D]? = some (.cells #[.slice ta tn tc, .slice sa sn sc, .slice na nn nc] 119 (0, 0)))
    (kd : Int) (op : ByteArray) (vk vn : Int) (vs t col : ByteArray) (pa : Option Addr) (pn pc : Nat) (ht : t.toList ≠ []) :
    Calls Try.prog 97 #[.pointer (some ⟨D, 0, none⟩), .agg #[.int .i64 kd, .string op, .int .i64 vk, .int .i64 vn, .string vs, .string t, .string col, .slice pa pn pc]] w (CellAns w (colV F t col)) := by
  have HF := Lib.hid hF
  have HTn := Lib.hid htn
  have HSn := Lib.hid hsn
  have HNn := Lib.hid hnn
  have HT := Lib.hid ht
  have HDf := Lib.hid hD
  have hDl : D < w.heap.size := (Array.getElem?_eq_some_iff.1 hD).1
  have ht1 : t.toList.isEmpty = false := by cases h : t.toList with | nil => exact absurd h ht | cons => rfl
  have hsl : sn ≤ 9223372036854775807 := by rw [hsn]; exact hF.sl
  have hnl : nn = sn := by rw [hnn, hsn, hF.nl]
  have htl : tn ≤ 9223372036854775807 := by rw [htn]; exact hF.tl
  subst hnl
  have HB := Lib.hid (bel0 (.cells #[.int .i64 0, .string ⟨#[]⟩, .int .i64 0, .int .i64 0, .string ⟨#[]⟩, .int .i64 0, .int .i64 0, .slice none 0 0] 56) (bel0 (.cells #[.int .i64 kd, .string op, .int .i64 vk, .int .i64 vn, .string vs, .string t, .string col, .slice pa pn pc] 41) (Below.refl w.heap.size w)))
  clear hF htn hsn hnn ht hD
  have HBX := Lib.hid (boxes2 w (.cells #[.int .i64 kd, .string op, .int .i64 vk, .int .i64 vn, .string vs, .string t, .string col, .slice pa pn pc] 41 (0, 0)) (.cells #[.int .i64 0, .string ⟨#[]⟩, .int .i64 0, .int .i64 0, .string ⟨#[]⟩, .int .i64 0, .int .i64 0, .slice none 0 0] 56 (0, 0)))
  go_enter Try.func97, Try.ntmps97
  go_upto_region 1 with (fail)
  generalize ((w.alloc (.cells #[.int .i64 kd, .string op, .int .i64 vk, .int .i64 vn, .string vs, .string t, .string col, .slice pa pn pc] 41)).alloc (.cells #[.int .i64 0, .string ⟨#[]⟩, .int .i64 0, .int .i64 0, .string ⟨#[]⟩, .int .i64 0, .int .i64 0, .slice none 0 0] 56)) = w1 at *
  have HC := Lib.hid (show ∀ W : World, Below w1.heap.size w1 W → (W.cell? ⟨D, 0, none⟩ = some (.slice ta tn tc) ∧ W.cell? ⟨D, 1, none⟩ = some (.slice sa nn sc) ∧ W.cell? ⟨D, 2, none⟩ = some (.slice na nn nc) ∧ W.cell? ⟨w.heap.size, 5, none⟩ = some (.string t) ∧ W.cell? ⟨w.heap.size, 6, none⟩ = some (.string col) ∧ W.heap[w.heap.size + 1]? = some (.cells #[.int .i64 0, .string ⟨#[]⟩, .int .i64 0, .int .i64 0, .string ⟨#[]⟩, .int .i64 0, .int .i64 0, .slice none 0 0] 56 (0, 0)) ∧ w.heap.size + 1 < W.heap.size) from fun W h => by
    obtain ⟨⟨h1, h2⟩, hz⟩ := HBX.out
    have k0 := ((bt HB.out h).block D hDl).trans HDf.out
    have k1 := (h.block (w.heap.size) (by omega)).trans h1
    have k2 := (h.block (w.heap.size + 1) (by omega)).trans h2
    exact ⟨cell_of_row W _ 0 _ _ _ k0, cell_of_row W _ 1 _ _ _ k0, cell_of_row W _ 2 _ _ _ k0, cell_of_row W _ 5 _ _ _ k1, cell_of_row W _ 6 _ _ _ k1, k2, (Array.getElem?_eq_some_iff.1 k2).1⟩)
  obtain ⟨c0, c1, c2, c3, c4, c5, c6⟩ := HC.out w1 (Below.refl _ _)
  have HC5 := Lib.hid c5
  clear c5
  go_wp2_with fail
  clear c0 c1 c2 c3 c4 c6 HC5
  go_loopw [7, 8, 16] (fun f g i wr => ∃ (k : Nat), k ≤ nn ∧ i = .int .i64 (k : Int) ∧ f = .int .i64 (-1) ∧ g = .int .i64 (-1) ∧ Hid ((F.names.take k).any (nmP t) = false ∧ Below w1.heap.size w1 wr)) (fun _ _ i _ => nn - (intOf i).toNat)
  case atStart => exact ⟨0, by omega, rfl, rfl, rfl, Lib.hid ⟨rfl, Below.refl _ _⟩⟩
  case round =>
    obtain ⟨k, hk, rfl, rfl, rfl, HR⟩ := hrel
    have hk0 : (0 : Int) ≤ (k : Int) := by omega
    have HBw := Lib.hid (bt HB.out (show Below w1.heap.size w1 wr from HR.out.2))
    obtain ⟨c0, c1, c2, c3, c4, c5, c6⟩ := HC.out wr HR.out.2
    have HC5 := Lib.hid c5
    clear c5
    by_cases hlt : k < nn
    · have hki : (k : Int) < (nn : Int) := by omega
      have HLt := Lib.hid hlt
      have hks : k < F.srcs.length := by rw [← HSn.out]; exact hlt
      obtain ⟨tb, tf, sb, sf, nb, nf, ca, cc, s, m, rfl, rfl, rfl, htb, hsb, hnb, hsl2, hsc, hmc, hmm, htab⟩ := HF.out.at hks
      have hkn : k < F.names.length := by rw [HF.out.nl]; exact hks
      have HD := Lib.hid (show ∀ W : World, Below w.heap.size w W → (W.cell? ⟨sb, sf + k, none⟩ = some (.int .i64 (s : Int)) ∧ W.cell? ⟨tb, tf + s * 3, none⟩ = some (.string (F.tab k).name) ∧ W.cell? ⟨tb, tf + s * 3 + 1, none⟩ = some (.bool (F.tab k).view) ∧ W.cell? ⟨tb, tf + s * 3 + 2, none⟩ = some (.slice ca (F.tab k).cols.length cc) ∧ W.cell? ⟨nb, nf + k, none⟩ = some (.string m) ∧ tb < W.heap.size ∧ sb < W.heap.size ∧ nb < W.heap.size) from fun W h =>
        ⟨(h.cell (p := ⟨sb, sf + k, none⟩) hsb).trans hsc, (htab.below htb h).c0, (htab.below htb h).c1, (htab.below htb h).c2, (h.cell (p := ⟨nb, nf + k, none⟩) hnb).trans hmc, Nat.lt_of_lt_of_le htb h.size, Nat.lt_of_lt_of_le hsb h.size, Nat.lt_of_lt_of_le hnb h.size⟩)
      have HCo := Lib.hid htab.cols
      have HCl := Lib.hid htab.le
      have HLow := Lib.hid (And.intro htb hsb)
      have hmm' : F.names[k] = m := by rw [List.getElem?_eq_getElem hkn] at hmm; exact Option.some.inj hmm
      cases hr : nmP t m with
      | true =>
        have HCI := Lib.hid (colV_hit (colI_t (col := col) HT.out hkn HR.out.1 (by rw [hmm']; exact hr)))
        have hr' : (m.toList == t.toList) = true := hr
        have HS2 := Lib.hid hsl2
        clear hr hmm hmm' hkn hks htab hsl2 hsc hmc htb hsb hnb
        have hst : (s : Int) < (tn : Int) := by rw [HTn.out]; have := HS2.out; omega
        have hs0 : (0 : Int) ≤ (s : Int) := by omega
        obtain ⟨hsc, e0, e1, e2, hmc, htb, hsb, hnb⟩ := HD.out wr HBw.out
        go_upto_region 5 with (fail)
        go_quiet (fail)
        obtain ⟨w2, hw2⟩ : ∃ w2, w2 = wr.drewN nq := ⟨_, rfl⟩
        rw [← hw2]
        have hb2 : Below wr.heap.size wr w2 := by rw [hw2]; exact drewB
        have HBw2 := Lib.hid (bt HBw.out hb2)
        have HB12 := Lib.hid (show Below w1.heap.size w1 w2 from bt HR.out.2 hb2)
        clear hw2 hb2 c0 c1 c2 c3 c4 c6 HC5 e0 e1 e2 hsc hmc htb hsb hnb
        obtain ⟨c0, c1, c2, c3, c4, c5, c6⟩ := HC.out w2 HB12.out
        clear c5 c2 c6
        go_upto_region 6 with (fail)
        obtain ⟨d0, d1, d2, d3, -, d5, d6, -⟩ := HD.out w2 HBw2.out
        have j0 := Fut.cell c0
        have j1 := Fut.cell c1
        have j2 := Fut.cell c4
        have j3 := Fut.cell d0
        have j4 := Fut.cell d3
        have j5 := Fut.cell c3
        have HK := Lib.hid (show ∀ s : Fut w2, Calls Try.prog 137 #[.slice ca (F.tab k).cols.length cc, .string col] s.to fun e w' => e = .returned (.int .i64 (posI (coP col) (F.tab k).cols)) ∧ Below s.to.heap.size s.to w' from fun s => position_any _ ca (F.tab k).cols cc _ rfl col (HCo.out.keep (bt HBw2.out s.bel)) HCl.out)
        have HPl := Lib.hid (posI_lt (p := coP col) (l := (F.tab k).cols))
        have HRn := Lib.hid (colR_neg (F := F) (col := col) (i := k))
        have HRp := Lib.hid (fun n => colR_pos (F := F) (col := col) (i := k) (n := n))
        obtain ⟨y, hy⟩ : ∃ y, y = posI (coP col) (F.tab k).cols := ⟨_, rfl⟩
        rw [← hy] at HK HPl HRn HRp
        clear c0 c1 c3 c4 d0 d1 d2 d3 d5 d6 hy
        refine wp_region_fut (by kernel_rfl) (by kernel_rfl) ?_
        repeat (go_big_quiet_step ((go_at_call 137; exact calls_fut (HK.out _))))
        refine wpQuiet_nil ?_
        rintro _ ⟨s3, rfl⟩
        have hb3 := s3.bel
        generalize s3.to = w4 at *
        clear s3 j0 j1 j2 j3 j4 j5
        have HBw4 := Lib.hid (bt HBw2.out hb3)
        have HB14 := Lib.hid (show Below w1.heap.size w1 w4 from bt HB12.out hb3)
        clear hb3
        obtain ⟨-, -, -, c3, -, HX4, c6⟩ := HC.out w4 HB14.out
        by_cases hy0 : y < 0
        · have HQ := Lib.hid (show colV F t col = (ctZ, 0, 6) from HCI.out.trans (HRn.out hy0))
          have HX9 := Lib.hid (box8 HX4 (.int .i64 0) (.string ⟨#[]⟩) (.int .i64 0) (.int .i64 0) (.string ⟨#[]⟩) (.int .i64 0) (.int .i64 0) (.slice none 0 0))
          have HB9 := Lib.hid (box8_below (K := w.heap.size) (N := w.heap.size + 1) (by omega) HBw4.out (.int .i64 0) (.string ⟨#[]⟩) (.int .i64 0) (.int .i64 0) (.string ⟨#[]⟩) (.int .i64 0) (.int .i64 0) (.slice none 0 0))
          obtain ⟨y0, y1, y2, y3, y4, y5, y6, y7, z0, z1, z2, z3, z4, z5, z6, z7, c6⟩ := z8 HX4
          clear HX4
          go_wp2
          refine bodyPost_ret (results_cellR rfl _ _ (w.heap.size + 1) _ rfl rfl HX9.out) rfl ?_
          rw [HQ.out]
          exact ⟨⟨_, rfl, none, 0, rfl, rgZ, .nil _⟩, HB9.out⟩
        · obtain ⟨n, rfl⟩ : ∃ n : Nat, y = (n : Int) := ⟨y.toNat, by omega⟩
          have hn0 : (0 : Int) ≤ (n : Int) := by omega
          clear HX4
          go_upto_region 15 with (fail)
          have hnl : n < (F.tab k).cols.length := by have := HPl.out.2; omega
          obtain ⟨cb, cf, rfl, hcb, hco⟩ := HCo.out.at hnl
          obtain ⟨g0, g1, -, -, -, HX4, c6⟩ := HC.out w4 HB14.out
          obtain ⟨g2, -, -, g3, -⟩ := HD.out w4 HBw4.out
          have g4 := (hco.below hcb HBw4.out).c1
          have HQ := Lib.hid (HCI.out.trans (HRp.out n rfl))
          have hgd : (F.tab k).cols.getD n default = (F.tab k).cols[n] := by rw [List.getD_eq_getElem?_getD, List.getElem?_eq_getElem hnl]; rfl
          rw [hgd] at HQ
          obtain ⟨kk, hkk⟩ : ∃ kk, kk = ((F.tab k).cols[n]).kind := ⟨_, rfl⟩
          rw [← hkk] at HQ g4
          have HRc := Lib.hid (rgC (k := k) (n := n) (by have := HLt.out; omega) (by have := HCl.out; omega))
          have HX9 := Lib.hid (box8d HX4 (.int .i64 2) (.string ⟨#[]⟩) (.int .i64 0) (.int .i64 0) (.string ⟨#[]⟩) (.int .i64 (k : Int)) (.int .i64 (n : Int)) (.slice none 0 0))
          have HB9 := Lib.hid (box8_below (K := w.heap.size) (N := w.heap.size + 1) (by omega) HBw4.out (.int .i64 2) (.string ⟨#[]⟩) (.int .i64 0) (.int .i64 0) (.string ⟨#[]⟩) (.int .i64 (k : Int)) (.int .i64 (n : Int)) (.slice none 0 0))
          have HN0 := Lib.hid (show D ≠ w.heap.size + 1 by omega)
          have HN1 := Lib.hid (show sb ≠ w.heap.size + 1 by have := HLow.out.2; omega)
          have HN2 := Lib.hid (show tb ≠ w.heap.size + 1 by have := HLow.out.1; omega)
          have HN3 := Lib.hid (show cb ≠ w.heap.size + 1 by omega)
          obtain ⟨y0, y1, y2, y3, y4, y5, y6, y7, z0, z1, z2, z3, z4, z5, z6, z7, c7⟩ := z8 HX4
          obtain ⟨cl, hcl⟩ : ∃ cl, cl = (F.tab k).cols.length := ⟨_, rfl⟩
          rw [← hcl] at g3 hnl
          have hnI : (n : Int) < (cl : Int) := by omega
          have h0d : w4.drew.cell? ⟨D, 0, none⟩ = some (.slice (some ⟨tb, tf, none⟩) tn tc) := g0
          have h1d : w4.drew.cell? ⟨D, 1, none⟩ = some (.slice (some ⟨sb, sf, none⟩) nn sc) := g1
          have h2d : w4.drew.cell? ⟨sb, sf + k, none⟩ = some (.int .i64 (s : Int)) := g2
          have h3d : w4.drew.cell? ⟨tb, tf + s * 3 + 2, none⟩ = some (.slice (some ⟨cb, cf, none⟩) cl cc) := g3
          have h4d : w4.drew.cell? ⟨cb, cf + n * 4 + 1, none⟩ = some (.int .i64 kk) := g4
          clear HX4 hco hkk hgd hcl hcb hnl
          go_region_held3 (fun W => W.cell? ⟨D, 0, none⟩ = some (.slice (some ⟨tb, tf, none⟩) tn tc) ∧ W.cell? ⟨D, 1, none⟩ = some (.slice (some ⟨sb, sf, none⟩) nn sc) ∧ W.cell? ⟨sb, sf + k, none⟩ = some (.int .i64 (s : Int)) ∧ W.cell? ⟨tb, tf + s * 3 + 2, none⟩ = some (.slice (some ⟨cb, cf, none⟩) cl cc) ∧ W.cell? ⟨cb, cf + n * 4 + 1, none⟩ = some (.int .i64 kk))
            (first | (with_reducible exact ⟨g0, g1, g2, g3, g4⟩) | (with_reducible exact ⟨h0d, h1d, h2d, h3d, h4d⟩) | (with_reducible exact ⟨(cell8d HN0.out).trans g0, (cell8d HN0.out).trans g1, (cell8d HN1.out).trans g2, (cell8d HN2.out).trans g3, (cell8d HN3.out).trans g4⟩))
            (fail)
          go_wp2
          refine bodyPost_ret (results_cellR rfl _ _ (w.heap.size + 1) _ rfl rfl HX9.out) rfl ?_
          rw [HQ.out]
          exact ⟨⟨_, rfl, none, 0, rfl, HRc.out, .nil _⟩, HB9.out.drew⟩
      | false =>
        have HM := Lib.hid (any_more (p := nmP t) hkn HR.out.1 (by rw [hmm']; exact hr))
        have hr' : (m.toList == t.toList) = false := hr
        clear hr hmm hmm' hkn hks htab hsl2 hsc hmc htb hsb hnb
        obtain ⟨hsc, e0, e1, e2, hmc, htb, hsb, hnb⟩ := HD.out wr HBw.out
        clear e0 e1 e2
        go_upto_region 5 with (fail)
        go_quiet (fail)
        obtain ⟨w2, hw2⟩ : ∃ w2, w2 = wr.drewN nq := ⟨_, rfl⟩
        rw [← hw2]
        have hb2 : Below wr.heap.size wr w2 := by rw [hw2]; exact drewB
        have HB12 := Lib.hid (show Below w1.heap.size w1 w2 from bt HR.out.2 hb2)
        clear hw2 hb2 c0 c1 c2 c3 c4 c6 HC5 hsc hmc htb hsb hnb
        go_wp2
        go_roundw
        case rel => exact ⟨k + 1, HLt.out, by go_num, rfl, rfl, Lib.hid ⟨HM.out, HB12.out⟩⟩
        case measure => have := HLt.out; simp [intOf]; omega
    · have hkk : ¬ ((k : Int) < (nn : Int)) := by omega
      have HQ := Lib.hid (show colV F t col = (ctZ, 0, 6) from colV_none (colI_t0 HT.out (by
        have h1 := HR.out.1
        rw [List.take_of_length_le (by rw [HF.out.nl, ← HSn.out]; omega)] at h1
        exact h1)))
      have HX5 := HC5.out
      clear c0 c1 c2 c3 c4 HC5
      have HX9 := Lib.hid (box8 HX5 (.int .i64 0) (.string ⟨#[]⟩) (.int .i64 0) (.int .i64 0) (.string ⟨#[]⟩) (.int .i64 0) (.int .i64 0) (.slice none 0 0))
      have HB9 := Lib.hid (box8_below (K := w.heap.size) (N := w.heap.size + 1) (by omega) HBw.out (.int .i64 0) (.string ⟨#[]⟩) (.int .i64 0) (.int .i64 0) (.string ⟨#[]⟩) (.int .i64 0) (.int .i64 0) (.slice none 0 0))
      obtain ⟨y0, y1, y2, y3, y4, y5, y6, y7, z0, z1, z2, z3, z4, z5, z6, z7, c6⟩ := z8 HX5
      clear HX5
      go_wp2
      refine bodyPost_ret (results_cellR rfl _ _ (w.heap.size + 1) _ rfl rfl HX9.out) rfl ?_
      rw [HQ.out]
      exact ⟨⟨_, rfl, none, 0, rfl, rgZ, .nil _⟩, HB9.out⟩
end Go.Proofs.Ytafhgilikcablaa
namespace Go.Proofs.Ytafhgilikcablaa
open Go.RowKit
set_option linter.unusedVariables false
set_option linter.unusedSimpArgs false
set_option maxRecDepth 100000

set_option maxHeartbeats 6400000 in
theorem rcolumn_e (w : World) (D : Nat) (F : FnD) (ta sa na : Option Addr) (tn tc sn sc nn nc : Nat) (hF : FnAt w F ta sa na) (htn : tn = F.tabs.length) (hsn : sn = F.srcs.length) (hnn : nn = F.names.length)
    (hD : w.heap[D]? = some (.cells #[.slice ta tn tc, .slice sa sn sc, .slice na nn nc] 119 (0, 0)))
    (kd : Int) (op : ByteArray) (vk vn : Int) (vs t col : ByteArray) (pa : Option Addr) (pn pc : Nat) (ht : t.toList = []) :
    Calls Try.prog 97 #[.pointer (some ⟨D, 0, none⟩), .agg #[.int .i64 kd, .string op, .int .i64 vk, .int .i64 vn, .string vs, .string t, .string col, .slice pa pn pc]] w (CellAns w (colV F t col)) := by
  have HF := Lib.hid hF
  have HTn := Lib.hid htn
  have HSn := Lib.hid hsn
  have HNn := Lib.hid hnn
  have HT := Lib.hid ht
  have HDf := Lib.hid hD
  have hDl : D < w.heap.size := (Array.getElem?_eq_some_iff.1 hD).1
  have ht1 : t.toList.isEmpty = true := by rw [ht]; rfl
  have hsl : sn ≤ 9223372036854775807 := by rw [hsn]; exact hF.sl
  have hnl : nn = sn := by rw [hnn, hsn, hF.nl]
  have htl : tn ≤ 9223372036854775807 := by rw [htn]; exact hF.tl
  subst hnl
  have HB := Lib.hid (bel0 (.cells #[.int .i64 0, .string ⟨#[]⟩, .int .i64 0, .int .i64 0, .string ⟨#[]⟩, .int .i64 0, .int .i64 0, .slice none 0 0] 56) (bel0 (.cells #[.int .i64 kd, .string op, .int .i64 vk, .int .i64 vn, .string vs, .string t, .string col, .slice pa pn pc] 41) (Below.refl w.heap.size w)))
  clear hF htn hsn hnn ht hD
  have HBX := Lib.hid (boxes2 w (.cells #[.int .i64 kd, .string op, .int .i64 vk, .int .i64 vn, .string vs, .string t, .string col, .slice pa pn pc] 41 (0, 0)) (.cells #[.int .i64 0, .string ⟨#[]⟩, .int .i64 0, .int .i64 0, .string ⟨#[]⟩, .int .i64 0, .int .i64 0, .slice none 0 0] 56 (0, 0)))
  go_enter Try.func97, Try.ntmps97
  go_upto_region 1 with (fail)
  generalize ((w.alloc (.cells #[.int .i64 kd, .string op, .int .i64 vk, .int .i64 vn, .string vs, .string t, .string col, .slice pa pn pc] 41)).alloc (.cells #[.int .i64 0, .string ⟨#[]⟩, .int .i64 0, .int .i64 0, .string ⟨#[]⟩, .int .i64 0, .int .i64 0, .slice none 0 0] 56)) = w1 at *
  have HC := Lib.hid (show ∀ W : World, Below w1.heap.size w1 W → (W.cell? ⟨D, 0, none⟩ = some (.slice ta tn tc) ∧ W.cell? ⟨D, 1, none⟩ = some (.slice sa nn sc) ∧ W.cell? ⟨D, 2, none⟩ = some (.slice na nn nc) ∧ W.cell? ⟨w.heap.size, 5, none⟩ = some (.string t) ∧ W.cell? ⟨w.heap.size, 6, none⟩ = some (.string col) ∧ W.heap[w.heap.size + 1]? = some (.cells #[.int .i64 0, .string ⟨#[]⟩, .int .i64 0, .int .i64 0, .string ⟨#[]⟩, .int .i64 0, .int .i64 0, .slice none 0 0] 56 (0, 0)) ∧ w.heap.size + 1 < W.heap.size) from fun W h => by
    obtain ⟨⟨h1, h2⟩, hz⟩ := HBX.out
    have k0 := ((bt HB.out h).block D hDl).trans HDf.out
    have k1 := (h.block (w.heap.size) (by omega)).trans h1
    have k2 := (h.block (w.heap.size + 1) (by omega)).trans h2
    exact ⟨cell_of_row W _ 0 _ _ _ k0, cell_of_row W _ 1 _ _ _ k0, cell_of_row W _ 2 _ _ _ k0, cell_of_row W _ 5 _ _ _ k1, cell_of_row W _ 6 _ _ _ k1, k2, (Array.getElem?_eq_some_iff.1 k2).1⟩)
  obtain ⟨c0, c1, c2, c3, c4, c5, c6⟩ := HC.out w1 (Below.refl _ _)
  have HC5 := Lib.hid c5
  clear c5
  go_wp2_with fail
  clear c0 c1 c2 c3 c4 c6 HC5
  go_loopw [7, 8, 16] (fun f g i wr => ∃ (k : Nat) (fd gd : Int), k ≤ nn ∧ i = .int .i64 (k : Int) ∧ f = .int .i64 fd ∧ g = .int .i64 gd ∧ -1 ≤ fd ∧ fd ≤ (k : Int) ∧ -1 ≤ gd ∧ (fd < 0 → gd < 0) ∧ Hid (FndE F col k fd ∧ (∀ i : Nat, fd = (i : Int) → gd = posI (coP col) (F.tab i).cols ∧ 0 ≤ gd) ∧ Below w1.heap.size w1 wr)) (fun _ _ i _ => nn - (intOf i).toNat)
  case atStart => exact ⟨0, -1, -1, by omega, rfl, rfl, rfl, by omega, by omega, by omega, fun _ => by omega, Lib.hid ⟨fndE_0 F col, fun i h => by omega, Below.refl _ _⟩⟩
  case round =>
    obtain ⟨k, fd, gd, hk, rfl, rfl, rfl, hf1, hf2, hg1, hg2, HR⟩ := hrel
    have hk0 : (0 : Int) ≤ (k : Int) := by omega
    have HBw := Lib.hid (bt HB.out (show Below w1.heap.size w1 wr from HR.out.2.2))
    have HG2 := Lib.hid hg2
    clear hg2
    by_cases hlt : k < nn
    · have hki : (k : Int) < (nn : Int) := by omega
      have HLt := Lib.hid hlt
      have hks : k < F.srcs.length := by rw [← HSn.out]; exact hlt
      obtain ⟨tb, tf, sb, sf, nb, nf, ca, cc, s, m, rfl, rfl, rfl, htb, hsb, hnb, hsl2, hsc, hmc, hmm, htab⟩ := HF.out.at hks
      have HD := Lib.hid (show ∀ W : World, Below w.heap.size w W → (W.cell? ⟨sb, sf + k, none⟩ = some (.int .i64 (s : Int)) ∧ W.cell? ⟨tb, tf + s * 3, none⟩ = some (.string (F.tab k).name) ∧ W.cell? ⟨tb, tf + s * 3 + 1, none⟩ = some (.bool (F.tab k).view) ∧ W.cell? ⟨tb, tf + s * 3 + 2, none⟩ = some (.slice ca (F.tab k).cols.length cc) ∧ tb < W.heap.size ∧ sb < W.heap.size) from fun W h =>
        ⟨(h.cell (p := ⟨sb, sf + k, none⟩) hsb).trans hsc, (htab.below htb h).c0, (htab.below htb h).c1, (htab.below htb h).c2, Nat.lt_of_lt_of_le htb h.size, Nat.lt_of_lt_of_le hsb h.size⟩)
      have HCo := Lib.hid htab.cols
      have HCl := Lib.hid htab.le
      have hst : (s : Int) < (tn : Int) := by rw [HTn.out]; omega
      have hs0 : (0 : Int) ≤ (s : Int) := by omega
      have HKs := Lib.hid hks
      clear hmm hks htab hsl2 hsc hmc htb hsb hnb
      obtain ⟨c0, c1, c2, c3, c4, c5, c6⟩ := HC.out wr HR.out.2.2
      clear c5
      go_upto_region 5 with (fail)
      go_quiet (fail)
      obtain ⟨w2, hw2⟩ : ∃ w2, w2 = wr.drewN nq := ⟨_, rfl⟩
      rw [← hw2]
      have hb2 : Below wr.heap.size wr w2 := by rw [hw2]; exact drewB
      have HBw2 := Lib.hid (bt HBw.out hb2)
      have HB12 := Lib.hid (show Below w1.heap.size w1 w2 from bt HR.out.2.2 hb2)
      clear hw2 hb2 c0 c1 c2 c3 c4 c6
      go_upto_region 6 with (fail)
      obtain ⟨c0, c1, c2, c3, c4, c5, c6⟩ := HC.out w2 HB12.out
      obtain ⟨d0, d1, d2, d3, d5, d6⟩ := HD.out w2 HBw2.out
      have j0 := Fut.cell c0
      have j1 := Fut.cell c1
      have j2 := Fut.cell c4
      have j3 := Fut.cell d0
      have j4 := Fut.cell d3
      have j5 := Fut.cell c3
      have HK := Lib.hid (show ∀ s : Fut w2, Calls Try.prog 137 #[.slice ca (F.tab k).cols.length cc, .string col] s.to fun e w' => e = .returned (.int .i64 (posI (coP col) (F.tab k).cols)) ∧ Below s.to.heap.size s.to w' from fun s => position_any _ ca (F.tab k).cols cc _ rfl col (HCo.out.keep (bt HBw2.out s.bel)) HCl.out)
      have HPl := Lib.hid (posI_lt (p := coP col) (l := (F.tab k).cols))
      have HHit := Lib.hid (show hitC F col k = decide (0 ≤ posI (coP col) (F.tab k).cols) from rfl)
      obtain ⟨y, hy⟩ : ∃ y, y = posI (coP col) (F.tab k).cols := ⟨_, rfl⟩
      have HY0 := Lib.hid hy
      rw [← hy] at HK HHit HPl
      clear c0 c1 c2 c3 c4 c5 c6 d0 d1 d2 d3 d5 d6 hy
      refine wp_region_fut (by kernel_rfl) (by kernel_rfl) ?_
      repeat (go_big_quiet_step ((go_at_call 137; exact calls_fut (HK.out _))))
      refine wpQuiet_nil ?_
      rintro _ ⟨s3, rfl⟩
      have hb3 := s3.bel
      generalize s3.to = w3 at *
      clear s3 j0 j1 j2 j3 j4 j5
      have HBw3 := Lib.hid (bt HBw2.out hb3)
      have HB13 := Lib.hid (show Below w1.heap.size w1 w3 from bt HB12.out hb3)
      clear hb3
      obtain ⟨-, -, -, c3, -, HX5, c6⟩ := HC.out w3 HB13.out
      by_cases hy0 : 0 ≤ y
      · have HY := Lib.hid (show hitC F col k = true by rw [HHit.out]; exact decide_eq_true hy0)
        have hy1 : ¬ y < 0 := by omega
        by_cases hfd : 0 ≤ fd
        · have HQ := Lib.hid (show colV F t col = (ctZ, 0, 6) from colV_none (fndE_two HT.out HR.out.1 HY.out hfd HKs.out))
          have HX9 := Lib.hid (box8 HX5 (.int .i64 0) (.string ⟨#[]⟩) (.int .i64 0) (.int .i64 0) (.string ⟨#[]⟩) (.int .i64 0) (.int .i64 0) (.slice none 0 0))
          have HB9 := Lib.hid (box8_below (K := w.heap.size) (N := w.heap.size + 1) (by omega) HBw3.out (.int .i64 0) (.string ⟨#[]⟩) (.int .i64 0) (.int .i64 0) (.string ⟨#[]⟩) (.int .i64 0) (.int .i64 0) (.slice none 0 0))
          obtain ⟨y0, y1, y2, y3, y4, y5, y6, y7, z0, z1, z2, z3, z4, z5, z6, z7, c6⟩ := z8 HX5
          clear HX5
          go_wp2
          refine bodyPost_ret (results_cellR rfl _ _ (w.heap.size + 1) _ rfl rfl HX9.out) rfl ?_
          rw [HQ.out]
          exact ⟨⟨_, rfl, none, 0, rfl, rgZ, .nil _⟩, HB9.out⟩
        · have HN := Lib.hid (fndE_yes HR.out.1 HY.out (by omega))
          have hkm : (-1 : Int) ≤ (k : Int) := by omega
          have HG := Lib.hid (show ∀ i : Nat, (k : Int) = (i : Int) → y = posI (coP col) (F.tab i).cols ∧ 0 ≤ y from fun i h => by
            obtain rfl : k = i := by omega
            exact ⟨HY0.out, hy0⟩)
          clear HX5
          go_wp2
          go_roundw
          case rel => exact ⟨k + 1, k, y, HLt.out, by go_num, rfl, rfl, by omega, by omega, by omega, fun h => by omega, Lib.hid ⟨HN.out, HG.out, HB13.out⟩⟩
          case measure => have := HLt.out; simp [intOf]; omega
      · have HY := Lib.hid (show hitC F col k = false by rw [HHit.out]; exact decide_eq_false hy0)
        have hy1 : y < 0 := by omega
        have HN := Lib.hid (fndE_no HR.out.1 HY.out)
        clear HX5
        go_wp2
        go_roundw
        case rel => exact ⟨k + 1, fd, gd, HLt.out, by go_num, rfl, rfl, hf1, by omega, hg1, HG2.out, Lib.hid ⟨HN.out, HR.out.2.1, HB13.out⟩⟩
        case measure => have := HLt.out; simp [intOf]; omega
    · have hkk : ¬ ((k : Int) < (nn : Int)) := by omega
      have hkn : nn = k := by omega
      subst hkn
      have HE := Lib.hid (show _ ∨ _ from fndE_end (F := F) (col := col) HT.out (by rw [← HSn.out]; exact HR.out.1))
      rcases HE.out with ⟨hneg, hci⟩ | ⟨i, rfl, hi, hci⟩
      · have HQ := Lib.hid (show colV F t col = (ctZ, 0, 6) from colV_none hci)
        have hgn : gd < 0 := HG2.out hneg
        clear hci
        obtain ⟨-, -, -, -, -, HX5, c6⟩ := HC.out wr HR.out.2.2
        have HX9 := Lib.hid (box8 HX5 (.int .i64 0) (.string ⟨#[]⟩) (.int .i64 0) (.int .i64 0) (.string ⟨#[]⟩) (.int .i64 0) (.int .i64 0) (.slice none 0 0))
        have HB9 := Lib.hid (box8_below (K := w.heap.size) (N := w.heap.size + 1) (by omega) HBw.out (.int .i64 0) (.string ⟨#[]⟩) (.int .i64 0) (.int .i64 0) (.string ⟨#[]⟩) (.int .i64 0) (.int .i64 0) (.slice none 0 0))
        obtain ⟨y0, y1, y2, y3, y4, y5, y6, y7, z0, z1, z2, z3, z4, z5, z6, z7, c6⟩ := z8 HX5
        clear HX5
        go_wp2
        refine bodyPost_ret (results_cellR rfl _ _ (w.heap.size + 1) _ rfl rfl HX9.out) rfl ?_
        rw [HQ.out]
        exact ⟨⟨_, rfl, none, 0, rfl, rgZ, .nil _⟩, HB9.out⟩
      · have HCI := Lib.hid (colV_hit hci)
        obtain ⟨hgp, hgn⟩ := HR.out.2.1 i rfl
        obtain ⟨n, rfl⟩ : ∃ n : Nat, gd = (n : Int) := ⟨gd.toNat, by omega⟩
        have HPl := Lib.hid (posI_lt (p := coP col) (l := (F.tab i).cols))
        have HRp := Lib.hid (fun n => colR_pos (F := F) (col := col) (i := i) (n := n))
        rw [← hgp] at HPl HRp
        have hlt0 : i < nn := by rw [HSn.out]; exact hi
        have HLt := Lib.hid hlt0
        obtain ⟨tb, tf, sb, sf, nb, nf, ca, cc, s, m, rfl, rfl, rfl, htb, hsb, hnb, hsl2, hsc, hmc, hmm, htab⟩ := HF.out.at hi
        have HD := Lib.hid (show ∀ W : World, Below w.heap.size w W → (W.cell? ⟨sb, sf + i, none⟩ = some (.int .i64 (s : Int)) ∧ W.cell? ⟨tb, tf + s * 3, none⟩ = some (.string (F.tab i).name) ∧ W.cell? ⟨tb, tf + s * 3 + 1, none⟩ = some (.bool (F.tab i).view) ∧ W.cell? ⟨tb, tf + s * 3 + 2, none⟩ = some (.slice ca (F.tab i).cols.length cc) ∧ tb < W.heap.size ∧ sb < W.heap.size) from fun W h =>
          ⟨(h.cell (p := ⟨sb, sf + i, none⟩) hsb).trans hsc, (htab.below htb h).c0, (htab.below htb h).c1, (htab.below htb h).c2, Nat.lt_of_lt_of_le htb h.size, Nat.lt_of_lt_of_le hsb h.size⟩)
        have HCo := Lib.hid htab.cols
        have HCl := Lib.hid htab.le
        have HLow := Lib.hid (And.intro htb hsb)
        have hst : (s : Int) < (tn : Int) := by rw [HTn.out]; omega
        have hs0 : (0 : Int) ≤ (s : Int) := by omega
        have hi0 : (0 : Int) ≤ (i : Int) := by omega
        have hik : (i : Int) < (nn : Int) := by omega
        have hn0 : (0 : Int) ≤ (n : Int) := by omega
        have hn1 : ¬ (n : Int) < 0 := by omega
        have HB12 := Lib.hid (show Below w1.heap.size w1 wr from HR.out.2.2)
        clear hmm htab hsl2 hsc hmc htb hsb hnb hci hi hgp hgn
        go_upto_region 15 with (fail)
        have hnl : n < (F.tab i).cols.length := by have := HPl.out.2; omega
        obtain ⟨cb, cf, rfl, hcb, hco⟩ := HCo.out.at hnl
        obtain ⟨g0, g1, -, -, -, HX4, c6⟩ := HC.out wr HB12.out
        obtain ⟨g2, -, -, g3, -⟩ := HD.out wr HBw.out
        have g4 := (hco.below hcb HBw.out).c1
        have HQ := Lib.hid (HCI.out.trans (HRp.out n rfl))
        have hgd : (F.tab i).cols.getD n default = (F.tab i).cols[n] := by rw [List.getD_eq_getElem?_getD, List.getElem?_eq_getElem hnl]; rfl
        rw [hgd] at HQ
        obtain ⟨kk, hkk⟩ : ∃ kk, kk = ((F.tab i).cols[n]).kind := ⟨_, rfl⟩
        rw [← hkk] at HQ g4
        have HRc := Lib.hid (rgC (k := i) (n := n) (by have := HLt.out; omega) (by have := HCl.out; omega))
        have HX9 := Lib.hid (box8d HX4 (.int .i64 2) (.string ⟨#[]⟩) (.int .i64 0) (.int .i64 0) (.string ⟨#[]⟩) (.int .i64 (i : Int)) (.int .i64 (n : Int)) (.slice none 0 0))
        have HB9 := Lib.hid (box8_below (K := w.heap.size) (N := w.heap.size + 1) (by omega) HBw.out (.int .i64 2) (.string ⟨#[]⟩) (.int .i64 0) (.int .i64 0) (.string ⟨#[]⟩) (.int .i64 (i : Int)) (.int .i64 (n : Int)) (.slice none 0 0))
        have HN0 := Lib.hid (show D ≠ w.heap.size + 1 by omega)
        have HN1 := Lib.hid (show sb ≠ w.heap.size + 1 by have := HLow.out.2; omega)
        have HN2 := Lib.hid (show tb ≠ w.heap.size + 1 by have := HLow.out.1; omega)
        have HN3 := Lib.hid (show cb ≠ w.heap.size + 1 by omega)
        obtain ⟨y0, y1, y2, y3, y4, y5, y6, y7, z0, z1, z2, z3, z4, z5, z6, z7, c7⟩ := z8 HX4
        obtain ⟨cl, hcl⟩ : ∃ cl, cl = (F.tab i).cols.length := ⟨_, rfl⟩
        rw [← hcl] at g3 hnl
        have hnI : (n : Int) < (cl : Int) := by omega
        have h0d : wr.drew.cell? ⟨D, 0, none⟩ = some (.slice (some ⟨tb, tf, none⟩) tn tc) := g0
        have h1d : wr.drew.cell? ⟨D, 1, none⟩ = some (.slice (some ⟨sb, sf, none⟩) nn sc) := g1
        have h2d : wr.drew.cell? ⟨sb, sf + i, none⟩ = some (.int .i64 (s : Int)) := g2
        have h3d : wr.drew.cell? ⟨tb, tf + s * 3 + 2, none⟩ = some (.slice (some ⟨cb, cf, none⟩) cl cc) := g3
        have h4d : wr.drew.cell? ⟨cb, cf + n * 4 + 1, none⟩ = some (.int .i64 kk) := g4
        clear HX4 hco hkk hgd hcl hcb hnl
        go_region_held3 (fun W => W.cell? ⟨D, 0, none⟩ = some (.slice (some ⟨tb, tf, none⟩) tn tc) ∧ W.cell? ⟨D, 1, none⟩ = some (.slice (some ⟨sb, sf, none⟩) nn sc) ∧ W.cell? ⟨sb, sf + i, none⟩ = some (.int .i64 (s : Int)) ∧ W.cell? ⟨tb, tf + s * 3 + 2, none⟩ = some (.slice (some ⟨cb, cf, none⟩) cl cc) ∧ W.cell? ⟨cb, cf + n * 4 + 1, none⟩ = some (.int .i64 kk))
          (first | (with_reducible exact ⟨g0, g1, g2, g3, g4⟩) | (with_reducible exact ⟨h0d, h1d, h2d, h3d, h4d⟩) | (with_reducible exact ⟨(cell8d HN0.out).trans g0, (cell8d HN0.out).trans g1, (cell8d HN1.out).trans g2, (cell8d HN2.out).trans g3, (cell8d HN3.out).trans g4⟩))
          (fail)
        go_wp2
        refine bodyPost_ret (results_cellR rfl _ _ (w.heap.size + 1) _ rfl rfl HX9.out) rfl ?_
        rw [HQ.out]
        exact ⟨⟨_, rfl, none, 0, rfl, HRc.out, .nil _⟩, HB9.out.drew⟩
end Go.Proofs.Ytafhgilikcablaa
