/- The document's Value of any tables, sources and expression. Written by genvr.py. -/
import Derived.Test.YtafhgilikcablaaSvVa
import Derived.Test.YtafhgilikcablaaSvR4
import Derived.Deep.RegionHeldLaw
import Derived.Deep.RegionLawGrows
namespace Go.Proofs.Ytafhgilikcablaa
open Go.RowKit
set_option linter.unusedVariables false
set_option linter.unusedSimpArgs false
set_option maxRecDepth 100000
set_option maxHeartbeats 6400000 in
theorem rvalue_any (tabs : List TB) (srcs : List Int) (e : ET) (hsz : etSz e ≤ 1000) (hlen : srcs.length ≤ 1000) (htl : tabs.length ≤ 9223372036854775807) (w : World) (ta sa : Option Addr) (tn tc sn sc : Nat) (ht : TabsAt w ta tabs) (hs : IntsAt w sa srcs) (htn : tn = tabs.length) (hsn : sn = srcs.length) (Q : Nat → Prop) (v : Value) (hv : EV w Q v e) :
    Calls Try.prog 19 #[.slice ta tn tc, .slice sa sn sc, v] w (CellAns w (scV tabs srcs e)) := by
  obtain ⟨pa, pc, rfl, hrg, hel⟩ := hv
  have HEv := Lib.hid (show ∀ W, Below w.heap.size w W → EV W Q (.agg #[.int .i64 e.kind, .string e.op, .int .i64 e.vk, .int .i64 e.vn, .string e.vs, .string e.tab, .string e.col, .slice pa e.parts.length pc]) e from fun W hW => ⟨pa, pc, rfl, hrg, hel.keep hW⟩)
  have HTb := Lib.hid ht
  have HSr := Lib.hid hs
  have HTn := Lib.hid htn
  have HSn := Lib.hid hsn
  have HTl := Lib.hid htl
  have HSz := Lib.hid hsz
  have hn1 : sn ≤ 1000 := by omega
  have htn1 : tn ≤ 9223372036854775807 := by omega
  have HSl := Lib.hid hlen
  clear ht hs htn hsn hrg hel hsz hlen htl
  have HB := Lib.hid (bel0 (.cells #[.slice ta tn tc, .slice sa sn sc, .slice none 0 0] 119) (bel0 (.cells #[.int .i64 0, .string ⟨#[]⟩, .int .i64 0, .int .i64 0, .string ⟨#[]⟩, .int .i64 0, .int .i64 0, .slice none 0 0] 56) (bel0 (.cells #[.int .i64 e.kind, .string e.op, .int .i64 e.vk, .int .i64 e.vn, .string e.vs, .string e.tab, .string e.col, .slice pa e.parts.length pc] 41) (Below.refl w.heap.size w))))
  have HBX := Lib.hid (boxes3 w (.cells #[.int .i64 e.kind, .string e.op, .int .i64 e.vk, .int .i64 e.vn, .string e.vs, .string e.tab, .string e.col, .slice pa e.parts.length pc] 41 (0, 0)) (.cells #[.int .i64 0, .string ⟨#[]⟩, .int .i64 0, .int .i64 0, .string ⟨#[]⟩, .int .i64 0, .int .i64 0, .slice none 0 0] 56 (0, 0)) (.cells #[.slice ta tn tc, .slice sa sn sc, .slice none 0 0] 119 (0, 0)))
  have e0 : (etX e pa pc).toArray = #[.int .i64 e.kind, .string e.op, .int .i64 e.vk, .int .i64 e.vn, .string e.vs, .string e.tab, .string e.col, .slice pa e.parts.length pc] := rfl
  rw [e0]
  clear e0
  go_enter Try.func19, Try.ntmps19
  go_upto_region 2 with (fail)
  generalize (((w.alloc (.cells #[.int .i64 e.kind, .string e.op, .int .i64 e.vk, .int .i64 e.vn, .string e.vs, .string e.tab, .string e.col, .slice pa e.parts.length pc] 41)).alloc (.cells #[.int .i64 0, .string ⟨#[]⟩, .int .i64 0, .int .i64 0, .string ⟨#[]⟩, .int .i64 0, .int .i64 0, .slice none 0 0] 56)).alloc (.cells #[.slice ta tn tc, .slice sa sn sc, .slice none 0 0] 119)) = w1 at *
  have HCw := Lib.hid (show ∀ W : World, Below w1.heap.size w1 W → (W.heap[w.heap.size]? = some (.cells #[.int .i64 e.kind, .string e.op, .int .i64 e.vk, .int .i64 e.vn, .string e.vs, .string e.tab, .string e.col, .slice pa e.parts.length pc] 41 (0, 0)) ∧ W.heap[w.heap.size + 1]? = some (.cells #[.int .i64 0, .string ⟨#[]⟩, .int .i64 0, .int .i64 0, .string ⟨#[]⟩, .int .i64 0, .int .i64 0, .slice none 0 0] 56 (0, 0)) ∧ W.heap[w.heap.size + 1 + 1]? = some (.cells #[.slice ta tn tc, .slice sa sn sc, .slice none 0 0] 119 (0, 0)) ∧ w.heap.size + 1 + 1 < W.heap.size) from fun W h => by
    obtain ⟨⟨h0, h1, h2⟩, hz⟩ := HBX.out
    have k2 := (h.block (w.heap.size + 1 + 1) (by omega)).trans h2
    exact ⟨(h.block w.heap.size (by omega)).trans h0, (h.block (w.heap.size + 1) (by omega)).trans h1, k2, (Array.getElem?_eq_some_iff.1 k2).1⟩)
  obtain ⟨hE, -, -, c6⟩ := HCw.out w1 (Below.refl _ _)
  obtain ⟨e0, e1, e2, e3, e4, e5, e6, e7⟩ := cellsE hE
  clear hE
  go_wp2_with fail
  refine (rFormed_any _ Q _ e (HEv.out _ HB.out)).mono ?_
  rintro e' w2 ⟨rfl, hb2⟩
  have HB2 := Lib.hid (show Below w1.heap.size w1 w2 from hb2)
  have HBw := Lib.hid (bt HB.out hb2)
  clear hb2 c6 e0 e1 e2 e3 e4 e5 e6 e7
  cases hf : fmdB e with
  | false =>
    have HQ := Lib.hid (show scV tabs srcs e = (ctZ, 0, 1) from scV_bad hf)
    obtain ⟨-, hX, -, c6⟩ := HCw.out w2 HB2.out
    have HX9 := Lib.hid (box8 hX (.int .i64 0) (.string ⟨#[]⟩) (.int .i64 0) (.int .i64 0) (.string ⟨#[]⟩) (.int .i64 0) (.int .i64 0) (.slice none 0 0))
    have HB9 := Lib.hid (box8_below (K := w.heap.size) (N := w.heap.size + 1) (by omega) HBw.out (.int .i64 0) (.string ⟨#[]⟩) (.int .i64 0) (.int .i64 0) (.string ⟨#[]⟩) (.int .i64 0) (.int .i64 0) (.slice none 0 0))
    obtain ⟨y0, y1, y2, y3, y4, y5, y6, y7, z0, z1, z2, z3, z4, z5, z6, z7, c7⟩ := z8 hX
    clear hX
    go_wp2
    refine bodyPost_ret (results_cellR rfl _ _ (w.heap.size + 1) _ rfl rfl HX9.out) rfl ?_
    rw [HQ.out]
    exact ⟨⟨_, rfl, none, 0, rfl, rgZ, .nil _⟩, HB9.out⟩
  | true =>
  have HFm := Lib.hid hf
  have H0 := Lib.hid (show VaRel w w2 (w.heap.size + 1 + 1) 119 (.slice ta tn tc) (.slice sa sn sc) [] (.slice none 0 0) w2 from
    ⟨HBw.out, Nat.le_refl _, fun _ _ _ => rfl, ⟨by omega, (HCw.out w2 HB2.out).2.2.2⟩, (HCw.out w2 HB2.out).2.2.1, World.ownsRow_nil _ _ _ _⟩)
  have HBX2 := Lib.hid (HCw.out w2 HB2.out)
  clear hf
  go_wp2_with fail
  go_loopw [21] (fun i wr => ∃ (k : Nat) (nv : Value), k ≤ sn ∧ i = .int .i64 (k : Int) ∧ Hid ((srcs.take k).any (outB tabs) = false ∧ VaRel w w2 (w.heap.size + 1 + 1) 119 (.slice ta tn tc) (.slice sa sn sc) ((srcs.take k).map (nmOf tabs)) nv wr)) (fun i _ => sn - (intOf i).toNat)
  case atStart => exact ⟨0, .slice none 0 0, by omega, rfl, Lib.hid ⟨rfl, H0.out⟩⟩
  case round =>
    obtain ⟨k, nv, hk, rfl, HL⟩ := hrel
    have hk0 : (0 : Int) ≤ (k : Int) := by omega
    have HT := Lib.hid HL.out.2
    have HBw := Lib.hid HT.out.below
    have HCr := Lib.hid (show (wr.heap[w.heap.size]? = some (.cells #[.int .i64 e.kind, .string e.op, .int .i64 e.vk, .int .i64 e.vn, .string e.vs, .string e.tab, .string e.col, .slice pa e.parts.length pc] 41 (0, 0)) ∧ wr.heap[w.heap.size + 1]? = some (.cells #[.int .i64 0, .string ⟨#[]⟩, .int .i64 0, .int .i64 0, .string ⟨#[]⟩, .int .i64 0, .int .i64 0, .slice none 0 0] 56 (0, 0)) ∧ wr.heap[w.heap.size + 1 + 1]? = some (.cells #[.slice ta tn tc, .slice sa sn sc, nv] 119 (0, 0))) ∧ w.heap.size + 1 + 1 < wr.heap.size from
      ⟨⟨(HT.out.low _ (by have := HBX2.out.2.2.2; omega) (by omega)).trans HBX2.out.1, (HT.out.low _ (by have := HBX2.out.2.2.2; omega) (by omega)).trans HBX2.out.2.1, HT.out.box⟩, by have := HT.out.size; have := HBX2.out.2.2.2; omega⟩)
    by_cases hlt : k < sn
    · have hki : (k : Int) < (sn : Int) := by omega
      have hks : k < srcs.length := by rw [← HSn.out]; exact hlt
      have HLt := Lib.hid hlt
      obtain ⟨sb, sf, rfl, hsb, hsc⟩ := (HSr.out.keep HBw.out).at hks
      have HAny := Lib.hid (show outB tabs (srcs[k]) = true → srcs.any (outB tabs) = true from fun h => List.any_eq_true.2 ⟨_, List.getElem_mem hks, h⟩)
      have HMore := Lib.hid (show outB tabs (srcs[k]) = false → (srcs.take (k + 1)).any (outB tabs) = false from fun h => any_more hks HL.out.1 h)
      have HTk := Lib.hid (show (srcs.take (k + 1)).map (nmOf tabs) = (srcs.take k).map (nmOf tabs) ++ [nmOf tabs (srcs[k])] by rw [List.take_succ_eq_append_getElem hks, List.map_append]; rfl)
      obtain ⟨s, hs⟩ : ∃ s, s = srcs[k] := ⟨_, rfl⟩
      rw [← hs] at hsc HAny HMore HTk
      clear hs hks hk hlt
      by_cases h1 : s < 0
      · have HQ := Lib.hid (show scV tabs srcs e = (ctZ, 0, 1) from scV_out (HAny.out (by unfold outB; simp [h1])))
        have hX := HCr.out.1.2.1
        have HX9 := Lib.hid (box8 hX (.int .i64 0) (.string ⟨#[]⟩) (.int .i64 0) (.int .i64 0) (.string ⟨#[]⟩) (.int .i64 0) (.int .i64 0) (.slice none 0 0))
        have HB9 := Lib.hid (box8_below (K := w.heap.size) (N := w.heap.size + 1) (by omega) HBw.out (.int .i64 0) (.string ⟨#[]⟩) (.int .i64 0) (.int .i64 0) (.string ⟨#[]⟩) (.int .i64 0) (.int .i64 0) (.slice none 0 0))
        obtain ⟨y0, y1, y2, y3, y4, y5, y6, y7, z0, z1, z2, z3, z4, z5, z6, z7, c7⟩ := z8 hX
        clear hX
        go_wp2
        refine bodyPost_ret (results_cellR rfl _ _ (w.heap.size + 1) _ rfl rfl HX9.out) rfl ?_
        rw [HQ.out]
        exact ⟨⟨_, rfl, none, 0, rfl, rgZ, .nil _⟩, HB9.out⟩
      · by_cases h2 : (tn : Int) ≤ s
        · have HQ := Lib.hid (show scV tabs srcs e = (ctZ, 0, 1) from scV_out (HAny.out (by have := HTn.out; unfold outB; simp; right; omega)))
          have h1' : ¬ s < 0 := h1
          have hX := HCr.out.1.2.1
          have HX9 := Lib.hid (box8 hX (.int .i64 0) (.string ⟨#[]⟩) (.int .i64 0) (.int .i64 0) (.string ⟨#[]⟩) (.int .i64 0) (.int .i64 0) (.slice none 0 0))
          have HB9 := Lib.hid (box8_below (K := w.heap.size) (N := w.heap.size + 1) (by omega) HBw.out (.int .i64 0) (.string ⟨#[]⟩) (.int .i64 0) (.int .i64 0) (.string ⟨#[]⟩) (.int .i64 0) (.int .i64 0) (.slice none 0 0))
          obtain ⟨y0, y1, y2, y3, y4, y5, y6, y7, z0, z1, z2, z3, z4, z5, z6, z7, c7⟩ := z8 hX
          clear hX
          go_wp2
          refine bodyPost_ret (results_cellR rfl _ _ (w.heap.size + 1) _ rfl rfl HX9.out) rfl ?_
          rw [HQ.out]
          exact ⟨⟨_, rfl, none, 0, rfl, rgZ, .nil _⟩, HB9.out⟩
        · have HMr := Lib.hid (HMore.out (by have := HTn.out; unfold outB; simp; omega))
          obtain ⟨m, rfl⟩ : ∃ m : Nat, s = (m : Int) := ⟨s.toNat, by omega⟩
          have hm0 : (0 : Int) ≤ (m : Int) := by omega
          have hm1 : (m : Int) < (tn : Int) := by omega
          have hmt : m < tabs.length := by have := HTn.out; omega
          obtain ⟨tb, tf, ca, cc, rfl, htb, hat⟩ := (HTb.out.keep HBw.out).at hmt
          have t0 := hat.c0
          have HNm := Lib.hid (show nmOf tabs (m : Int) = (tabs[m]).name by unfold nmOf; rw [List.getD_eq_getElem?_getD, show ((m : Nat) : Int).toNat = m from rfl, List.getElem?_eq_getElem hmt]; rfl)
          obtain ⟨nm, hnm⟩ : ∃ nm, nm = (tabs[m]).name := ⟨_, rfl⟩
          rw [← hnm] at t0 HNm
          have hb := HCr.out.1.2.2
          obtain ⟨f0, f1, f2⟩ := cells3 hb
          have f3 := frozen_of_row wr _ 2 _ _ hb
          have hsF : w.heap.size + 1 + 1 < wr.heap.size := HCr.out.2
          have HG := Lib.hid (show ∀ W, (wr.drew.alloc (.cells #[.string nm] 9)).grownBy W nv.ownBlock → W.cell? ⟨w.heap.size + 1 + 1, 2, none⟩ = some nv ∧ W.frozen? ⟨w.heap.size + 1 + 1, 2, none⟩ = false ∧ w.heap.size + 1 + 1 < W.heap.size from fun W hW => by
            have hsz : (wr.drew.alloc (.cells #[.string nm] 9)).heap.size = wr.heap.size + 1 := (show (wr.drew.alloc (.cells #[.string nm] 9)).heap.size = wr.drew.heap.size + 1 by simp)
            have hx : W.heap[w.heap.size + 1 + 1]? = some (.cells #[.slice (some ⟨tb, tf, none⟩) tn tc, .slice (some ⟨sb, sf, none⟩) sn sc, nv] 119 (0, 0)) :=
              (hW.block _ (by have := HCr.out.2; omega) (fun e => by have := (HT.out.row.lt _ e.symm).1; have := HBX2.out.2.2.2; omega)).trans ((alloc_old3 wr.drew _ HCr.out.2).trans HCr.out.1.2.2)
            exact ⟨(cells3 hx).2.2, frozen_of_row W _ 2 _ _ hx, (Array.getElem?_eq_some_iff.1 hx).1⟩)
          have hN : w2.heap.size ≤ wr.heap.size := HT.out.size
          have HNs := Lib.hid hN
          have HLk := Lib.hid (show ((srcs.take k).map (nmOf tabs)).length = k by rw [List.length_map, List.length_take]; have := HSn.out; have := HLt.out; omega)
          have hl8 : k ≤ 8796093022000 := by have := HLt.out; omega
          have HL8 := Lib.hid hl8
          clear hat hnm hb hl8 hN f0 f1 hmt h1 h2
          have hsb2 : sb < wr.heap.size := World.block_lt_of_cell? wr _ hsc
          go_upto_region 9 with (fail)
          go_region_law ((refine step_str1 rfl (.tmp 43) (.tmp 52) rfl w2.heap.size nv k (((srcs.take k).map (nmOf tabs)).map Value.string) wr.heap.size nm rfl rfl (by have h := row_keep HT.out.row (bel0 (.cells #[.string nm] 9) (Below.refl wr.heap.size wr).drew); rw [HLk.out] at h; exact h) (by exact box_cell wr.drew (.string nm) 9 rfl) HL8.out (by exact Nat.le_trans HNs.out (bel0 _ (Below.refl wr.heap.size wr).drew).size) ?_); intro g cap w4 hown hgrow hat hlt4; have HOwn := Lib.hid hown; have HGr := Lib.hid hgrow; have HAt := Lib.hid hat; obtain ⟨k0, k1, k2⟩ := HG.out w4 hgrow; clear hown hgrow hat hlt4)
          all_goals
            have HNx := Lib.hid (VaRel.next (s := nm) HLk.out.symm HT.out (bel0 _ (Below.refl _ _).drew) HOwn.out HGr.out HAt.out)
            go_wp2_with fail
            go_roundw
            case rel =>
              refine ⟨k + 1, .slice (some ⟨g, 0, none⟩) (k + 1) cap, HLt.out, by go_num, Lib.hid ⟨HMr.out, ?_⟩⟩
              rw [HTk.out, HNm.out]
              exact HNx.out
            case measure => have := HLt.out; simp [intOf]; omega
    · have hki : ¬ ((k : Int) < (sn : Int)) := by omega
      have hkn : k = sn := by omega
      subst hkn
      have hall : srcs.take k = srcs := List.take_of_length_le (by rw [← HSn.out]; exact Nat.le_refl _)
      have HOk := Lib.hid (show srcs.any (outB tabs) = false by have h := HL.out.1; rw [hall] at h; exact h)
      obtain ⟨na, nc, hna⟩ := own_slice HT.out.row
      have hna' : nv = .slice na k nc := by rw [hna, List.length_map, hall, ← HSn.out]
      have HSt := Lib.hid (show StrsAt wr na (srcs.map (nmOf tabs)) by
        have h := HT.out.row
        rw [hna] at h
        have h := own_strs h
        rw [hall] at h
        exact h)
      subst hna'
      clear hna hall
      have HFn := Lib.hid (show ∀ W, Below wr.heap.size wr W → FnAt W (FnOf tabs srcs) ta sa na from fun W hW => fnOf_at HOk.out (HTb.out.keep (bt HBw.out hW)) (HSr.out.keep (bt HBw.out hW)) (HSt.out.keep hW) HTl.out (by have := HSl.out; omega))
      obtain ⟨hE, hR, hF⟩ := HCr.out.1
      obtain ⟨e0, e1, e2, e3, e4, e5, e6, e7⟩ := cellsE hE
      obtain ⟨f0, f1, f2⟩ := cells3 hF
      have hsF : w.heap.size + 1 + 1 < wr.heap.size := HCr.out.2
      clear hE hR hF
      have HCs := Lib.hid (show ∀ W, Below wr.heap.size wr W → Calls Try.prog 61 #[.pointer (some ⟨w.heap.size + 1 + 1, 0, none⟩), .agg #[.int .i64 e.kind, .string e.op, .int .i64 e.vk, .int .i64 e.vn, .string e.vs, .string e.tab, .string e.col, .slice pa e.parts.length pc], .bool false] W (CellAns W (resV (FnOf tabs srcs) false e)) from fun W hW => rcell_any (FnOf tabs srcs) nmB formedB (etSz e) e (Nat.le_refl _) HSz.out W (w.heap.size + 1 + 1) ta sa na tn tc k sc k nc (HFn.out W hW) HTn.out (by show k = (srcs.map Int.toNat).length; rw [List.length_map]; exact HSn.out) (by show k = (srcs.map (nmOf tabs)).length; rw [List.length_map]; exact HSn.out) ((hW.block _ HCr.out.2).trans HCr.out.1.2.2) Q _ false 8 (HEv.out W (bt HBw.out hW)) HFm.out)
      go_wp2_with fail
      refine (HCs.out _ (Below.refl _ _)).mono ?_
      rintro e' w3 ⟨⟨v, rfl, ra, rc, rfl, hrg, hcl⟩, hb3⟩
      have HB3 := Lib.hid (show Below wr.heap.size wr w3 from hb3)
      have HBw3 := Lib.hid (bt HBw.out hb3)
      have HRg := Lib.hid hrg
      have HCl := Lib.hid hcl
      clear hb3 hrg hcl e0 e1 e2 e3 e4 e5 e6 e7 f0 f1 f2
      have HV0 := Lib.hid (show scV tabs srcs e = resV (FnOf tabs srcs) false e from scV_ok HOk.out HFm.out)
      obtain ⟨c, hc⟩ : ∃ c, c = (resV (FnOf tabs srcs) false e).1 := ⟨_, rfl⟩
      obtain ⟨kd, hkd⟩ : ∃ kd, kd = (resV (FnOf tabs srcs) false e).2.1 := ⟨_, rfl⟩
      obtain ⟨er, her⟩ : ∃ er, er = (resV (FnOf tabs srcs) false e).2.2 := ⟨_, rfl⟩
      have HV := Lib.hid (show scV tabs srcs e = (c, kd, er) by rw [HV0.out, hc, hkd, her])
      rw [← hc] at HRg HCl
      rw [← hc, ← hkd, ← her]
      clear hc hkd her
      have hR := (HB3.out.block (w.heap.size + 1) (by have := HCr.out.2; omega)).trans HCr.out.1.2.1
      have HX9 := Lib.hid (box8 hR (.int .i64 c.kind) (.string c.op) (.int .i64 c.vk) (.int .i64 c.vn) (.string c.vs) (.int .i64 c.src) (.int .i64 c.col) (.slice ra c.parts.length rc))
      have HB9 := Lib.hid (box8_below (K := w.heap.size) (N := w.heap.size + 1) (by omega) HBw3.out (.int .i64 c.kind) (.string c.op) (.int .i64 c.vk) (.int .i64 c.vn) (.string c.vs) (.int .i64 c.src) (.int .i64 c.col) (.slice ra c.parts.length rc))
      have HCL := Lib.hid (cl_set8 (N := w.heap.size + 1) (K := wr.heap.size) (by have := HCr.out.2; omega) HCl.out (.int .i64 c.kind) (.string c.op) (.int .i64 c.vk) (.int .i64 c.vn) (.string c.vs) (.int .i64 c.src) (.int .i64 c.col) (.slice ra c.parts.length rc))
      obtain ⟨y0, y1, y2, y3, y4, y5, y6, y7, z0, z1, z2, z3, z4, z5, z6, z7, c7⟩ := z8 hR
      clear hR
      rw [ctX_arrO]
      go_wp2
      refine bodyPost_ret (results_cellR rfl _ _ (w.heap.size + 1) _ rfl rfl HX9.out) rfl ?_
      rw [HV.out]
      exact ⟨⟨_, rfl, ra, rc, rfl, HRg.out, HCL.out.mono (fun b hb _ => Nat.le_trans HBw.out.size hb)⟩, HB9.out⟩
end Go.Proofs.Ytafhgilikcablaa
