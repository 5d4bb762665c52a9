/- Contract of the document's FormedNode: every node. -/
import Derived.Test.YtbcjhngpcodaoaaDoorNdEnc
import Derived.Deep.QuietTactic
import Derived.BigQuiet
namespace Go.Proofs.YtbcjhngpcodaoaaDoor
open Go.RowKit
set_option linter.unusedVariables false
set_option maxRecDepth 100000

theorem ndDrew {B : Nat} {a w : World} (h : Below B a w) (n : Nat) : Below B a (w.drewN n) := ⟨h.os, h.tape, h.output, h.size, h.block⟩

set_option maxHeartbeats 6400000 in
theorem rformed_any (lf : Bool) (ka va ia : Option Addr) (kl kc vl vc il ic : Nat) (ks vs : List (List Int)) (is : List Int) (w : World) (hN : Nd w ka kl va vl ia il ks vs is) (hF : FewN kl vl ks vs) :
    Calls Tryd.prog 11 #[.agg #[.bool lf, .slice ka kl kc, .slice va vl vc, .slice ia il ic]] w fun e w' => e = .returned (.bool (nFormB lf ks vs is)) ∧ Below w.heap.size w w' := by
  obtain ⟨b, hb⟩ : ∃ b, b = nFormB lf ks vs is := ⟨_, rfl⟩
  rw [← hb]
  have HB := Lib.hid hb
  obtain ⟨W0, hW0⟩ : ∃ W0, W0 = w.alloc (.cells #[.bool lf, .slice ka kl kc, .slice va vl vc, .slice ia il ic] 25) := ⟨_, rfl⟩
  obtain ⟨q0, q1, q2, q3⟩ := box_four w (.bool lf) (.slice ka kl kc) (.slice va vl vc) (.slice ia il ic) 25
  rw [← hW0] at q0 q1 q2 q3
  have hb0 : Below w.heap.size w W0 := by rw [hW0]; exact bel0 _ (Below.refl _ _)
  have hs0 : w.heap.size < W0.heap.size := by rw [hW0]; simp
  have HB0 := Lib.hid hb0
  have HX := Lib.hid (fun (W : World) (hW : Below W0.heap.size W0 W) => (show (W.cell? ⟨w.heap.size, 0, none⟩ = some (.bool lf) ∧ W.cell? ⟨w.heap.size, 1, none⟩ = some (.slice ka kl kc) ∧ W.cell? ⟨w.heap.size, 2, none⟩ = some (.slice va vl vc) ∧ W.cell? ⟨w.heap.size, 3, none⟩ = some (.slice ia il ic)) ∧ Nd W ka kl va vl ia il ks vs is from
    ⟨⟨(hW.cell (p := ⟨w.heap.size, 0, none⟩) hs0).trans q0, (hW.cell (p := ⟨w.heap.size, 1, none⟩) hs0).trans q1, (hW.cell (p := ⟨w.heap.size, 2, none⟩) hs0).trans q2, (hW.cell (p := ⟨w.heap.size, 3, none⟩) hs0).trans q3⟩, (hN.below hb0).below hW⟩))
  have hkl := hN.keys.2.1
  have hvl := hN.vals.2.1
  have hil := hN.kids.2.1
  have HL := Lib.hid (show ks.length = kl ∧ vs.length = vl ∧ is.length = il from ⟨hN.keys.1, hN.vals.1, hN.kids.1⟩)
  have HFw := Lib.hid hF
  have HW := Lib.hid hW0
  have hkl3 : (kl : Int) ≤ 300 := by have := hF.1; omega
  clear hb hN hb0 hF hs0
  go_enter Tryd.func11, Tryd.ntmps11
  go_wp2
  clear hW0
  rw [← HW.out]
  clear q0 q1 q2 q3
  go_loopw [9] (fun i wr => ∃ (k : Nat), k ≤ kl ∧ i = .int .i64 (k : Int) ∧ Hid (Below W0.heap.size W0 wr) ∧ Hid (∀ j, j < k → keyOk ks j = true)) (fun i _ => kl - (intOf i).toNat)
  case atStart => exact ⟨0, by omega, rfl, Lib.hid (Below.refl _ _), Lib.hid fun j hj => absurd hj (Nat.not_lt_zero _)⟩
  case round =>
    obtain ⟨k, hk, rfl, HBr, HC⟩ := hrel
    obtain ⟨⟨p0, p1, p2, p3⟩, hNr⟩ := HX.out wr HBr.out
    by_cases hlt : k < kl
    · obtain ⟨_, _, hc⟩ := hNr.keys
      rcases hc with hc | ⟨b1, off1, rfl, _, hc⟩
      · omega
      obtain ⟨ai, li, ci, c1, c2, c3, c4⟩ := hc k hlt
      have hki : (k : Int) < (kl : Int) := by omega
      have hk0 : (0 : Int) ≤ (k : Int) := by omega
      have hli : (li : Int) ≤ 1000 := by have := HFw.out.2.2.1 k hlt; rw [c2.1] at this; omega
      have HLt := Lib.hid hlt
      have HF := Lib.hid (fun (h : keyOk ks k = false) => (show nFormB lf ks vs is = false by
        unfold nFormB keysOk
        rw [all_not (k := k) (by rw [HL.out.1]; exact HLt.out) h]; rfl))
      have HT := Lib.hid (fun (h : keyOk ks k = true) => (show ∀ j, j < k + 1 → keyOk ks j = true from fun j hj => by
        rcases Nat.lt_succ_iff_lt_or_eq.1 hj with h1 | rfl
        · exact HC.out j h1
        · exact h))
      have HCo := Lib.hid hc
      have HI := Lib.hid (show IsB wr ai li (ks.getD k []) ∧ (ai = none → li = 0 ∧ ci = 0) from ⟨c2, c3⟩)
      have p1n : ∀ n, (wr.drewN n).cell? ⟨w.heap.size, 1, none⟩ = some (.slice (some ⟨b1, off1, none⟩) kl kc) := fun n => p1
      clear hc c2 c3 c4 hlt hk hNr p0 p2 p3
      by_cases h3 : k = 0
      · subst h3
        simp only [Nat.add_zero] at c1
        have c1n : ∀ n, (wr.drewN n).cell? ⟨b1, off1, none⟩ = some (.slice ai li ci) := fun n => c1
        clear p1 c1
        by_cases h1 : li = 0
        · have HXx := Lib.hid (HF.out (by unfold keyOk; rw [HI.out.1.1, decide_eq_false (show ¬ 1 ≤ li by omega)]; rfl))
          subst h1
          go_wp2
          go_quiet (fail)
          go_wp2
          go_ret
          exact ⟨by rw [HB.out, HXx.out]; rfl, bt HB0.out (ndDrew HBr.out _)⟩
        · have h1b : ((li : Int) == 0) = false := by rw [beq_eq_false_iff_ne]; omega
          by_cases h2 : 120 < (li : Int)
          · have hd2 : decide (120 < (li : Int)) = true := decide_eq_true h2
            have HXx := Lib.hid (HF.out (by unfold keyOk; rw [HI.out.1.1, decide_eq_false (show ¬ li ≤ 120 by omega)]; simp))
            clear h1
            go_wp2
            go_quiet (fail)
            go_wp2
            go_ret
            exact ⟨by rw [HB.out, HXx.out]; rfl, bt HB0.out (ndDrew HBr.out _)⟩
          · have h2' : (li : Int) ≤ 120 := by omega
            have hd2 : decide (120 < (li : Int)) = false := decide_eq_false h2
            have HXx := Lib.hid (HT.out (by unfold keyOk; rw [HI.out.1.1, decide_eq_true (show 1 ≤ li by omega), decide_eq_true (show li ≤ 120 by omega)]; rfl))
            clear h1 h2
            go_wp2
            go_quiet (fail)
            go_wp2
            go_roundw
            case rel => exact ⟨1, HLt.out, by go_num, Lib.hid (ndDrew HBr.out _), HXx⟩
            case measure => have := HLt.out; simp [intOf]; omega
      · obtain ⟨m, rfl⟩ : ∃ m, k = m + 1 := ⟨k - 1, by omega⟩
        obtain ⟨aj, lj, cj, d1, d2, d3, d4⟩ := HCo.out m (by have := HLt.out; omega)
        have hkg : (0 : Int) < ((m + 1 : Nat) : Int) := by omega
        have hm1 : ((m + 1 : Nat) : Int) - 1 = (m : Int) := by omega
        have hm0 : (0 : Int) ≤ (m : Int) := by omega
        have hmk : (m : Int) < (kl : Int) := by omega
        have hwm : IntKind.i64.wrap (((m + 1 : Nat) : Int) - 1) = (m : Int) := by rw [IntKind.wrap_i64]; omega
        have HKo := Lib.hid (fun (h : 1 ≤ li ∧ li ≤ 120) => (show keyOk ks (m + 1) = lessI (ks.getD m []) (ks.getD (m + 1) []) by
          unfold keyOk; rw [HI.out.1.1, decide_eq_true h.1, decide_eq_true h.2, decide_eq_false h3]; rfl))
        have hl := less_str (ks.getD m []) (ks.getD (m + 1) []) d2.mem HI.out.1.mem
        have t1 : ∀ n, (convert 29 9 (.slice aj lj cj)).run Tryd.prog (wr.drewN n) = .ok (.string (strOfNums (ks.getD m []))) (wr.drewN n) := fun n => str_any (w := wr.drewN n) (show IsB (wr.drewN n) aj lj _ from d2) d3
        have t2 : ∀ n, (convert 29 9 (.slice ai li ci)).run Tryd.prog (wr.drewN n) = .ok (.string (strOfNums (ks.getD (m + 1) []))) (wr.drewN n) := fun n => str_any (w := wr.drewN n) (show IsB (wr.drewN n) ai li _ from HI.out.1) HI.out.2
        generalize strOfNums (ks.getD m []) = S at *
        generalize strOfNums (ks.getD (m + 1) []) = T at *
        obtain ⟨K, hK⟩ : ∃ K : Nat, K = m + 1 := ⟨_, rfl⟩
        rw [← hK] at hkg hm1 hwm hk0 hki c1 HLt HF HT HI HKo HC hl ⊢
        have c1n : ∀ n, (wr.drewN n).cell? ⟨b1, off1 + K, none⟩ = some (.slice ai li ci) := fun n => c1
        have d1n : ∀ n, (wr.drewN n).cell? ⟨b1, off1 + m, none⟩ = some (.slice aj lj cj) := fun n => d1
        have hkn : 0 < K := by omega
        clear hK d2 d3 d4 h3 p1 c1 d1
        by_cases h1 : li = 0
        · have HXx := Lib.hid (HF.out (by unfold keyOk; rw [HI.out.1.1, decide_eq_false (show ¬ 1 ≤ li by omega)]; rfl))
          subst h1
          go_wp2
          go_quiet (fail)
          go_wp2
          go_ret
          exact ⟨by rw [HB.out, HXx.out]; rfl, bt HB0.out (ndDrew HBr.out _)⟩
        · have h1b : ((li : Int) == 0) = false := by rw [beq_eq_false_iff_ne]; omega
          by_cases h2 : 120 < (li : Int)
          · have hd2 : decide (120 < (li : Int)) = true := decide_eq_true h2
            have HXx := Lib.hid (HF.out (by unfold keyOk; rw [HI.out.1.1, decide_eq_false (show ¬ li ≤ 120 by omega)]; simp))
            clear h1
            go_wp2
            go_quiet (fail)
            go_wp2
            go_ret
            exact ⟨by rw [HB.out, HXx.out]; rfl, bt HB0.out (ndDrew HBr.out _)⟩
          · have h2' : (li : Int) ≤ 120 := by omega
            have hd2 : decide (120 < (li : Int)) = false := decide_eq_false h2
            have HKe := Lib.hid (HKo.out ⟨by omega, by omega⟩)
            clear h1 h2
            cases hq : lessI (ks.getD m []) (ks.getD K []) with
            | false =>
              have HXx := Lib.hid (HF.out (by rw [HKe.out]; exact hq))
              rw [hq] at hl
              clear hq
              go_wp2
              go_quiet (fail)
              go_wp2
              go_ret
              exact ⟨by rw [HB.out, HXx.out]; rfl, bt HB0.out (ndDrew HBr.out _)⟩
            | true =>
              have HXx := Lib.hid (HT.out (by rw [HKe.out]; exact hq))
              rw [hq] at hl
              clear hq
              go_wp2
              go_quiet (fail)
              go_wp2
              go_roundw
              case rel => exact ⟨K + 1, HLt.out, by go_num, Lib.hid (ndDrew HBr.out _), HXx⟩
              case measure => have := HLt.out; simp [intOf]; omega
    · obtain rfl : k = kl := by omega
      have HKs := Lib.hid (show keysOk ks = true from all_range (by rw [HL.out.1]; exact HC.out))
      have HLr := Lib.hid (show ks.length = k from HL.out.1)
      have HNr := Lib.hid hNr
      have HBw := Lib.hid (bt HB0.out HBr.out)
      clear hlt hk hNr
      cases lf with
      | true =>
        by_cases h0 : il = 0
        · by_cases h1 : vl = k
          · have h1b : ((vl : Int) != (k : Int)) = false := by rw [bne_eq_false_iff_eq]; omega
            have HX1 := Lib.hid (show nFormB true ks vs is = (List.range vs.length).all (cellOk ks vs) by
              unfold nFormB cellsOk; rw [HKs.out, HL.out.2.2, HL.out.2.1, HL.out.1, decide_eq_true h0, decide_eq_true h1]; rfl)
            have HV1 := Lib.hid h1
            subst h0
            clear h1
            go_wp2
            go_loopw [67] (fun i wr => ∃ (m : Nat), m ≤ vl ∧ i = .int .i64 (m : Int) ∧ Hid (Below W0.heap.size W0 wr) ∧ Hid (∀ j, j < m → cellOk ks vs j = true)) (fun i _ => vl - (intOf i).toNat)
            case atStart => exact ⟨0, by omega, rfl, HBr, Lib.hid fun j hj => absurd hj (Nat.not_lt_zero _)⟩
            case round =>
              obtain ⟨m, hm, rfl, HBx, HM⟩ := hrel
              clear p0 p1 p2 p3
              obtain ⟨⟨p0, p1, p2, p3⟩, hNx⟩ := HX.out wr HBx.out
              by_cases hlt : m < vl
              · obtain ⟨_, _, hc⟩ := hNx.vals
                rcases hc with hc | ⟨b1, off1, rfl, _, hc⟩
                · omega
                obtain ⟨_, _, hd⟩ := hNx.keys
                rcases hd with hd | ⟨b2, off2, rfl, _, hd⟩
                · have := HV1.out; omega
                obtain ⟨ai, li, ci, c1, c2, c3, c4⟩ := hc m hlt
                obtain ⟨aj, lj, cj, d1, d2, d3, d4⟩ := hd m (by have := HV1.out; omega)
                have hki : (m : Int) < (vl : Int) := by omega
                have hkj : (m : Int) < (k : Int) := by have := HV1.out; omega
                have hk0 : (0 : Int) ≤ (m : Int) := by omega
                have hli : (li : Int) ≤ 1000 := by have := HFw.out.2.2.2 m hlt; rw [c2.1] at this; omega
                have hlj : (lj : Int) ≤ 1000 := by have := HFw.out.2.2.1 m (by have := HV1.out; omega); rw [d2.1] at this; omega
                have hwr : IntKind.i64.wrap ((lj : Int) + (li : Int)) = (lj : Int) + (li : Int) := by rw [IntKind.wrap_i64]; omega
                have HF := Lib.hid (show cellOk ks vs m = decide (lj + li ≤ 160) by unfold cellOk; rw [c2.1, d2.1])
                have HLt := Lib.hid hlt
                have p1n : ∀ n, (wr.drewN n).cell? ⟨w.heap.size, 1, none⟩ = some (.slice (some ⟨b2, off2, none⟩) k kc) := fun n => p1
                have p2n : ∀ n, (wr.drewN n).cell? ⟨w.heap.size, 2, none⟩ = some (.slice (some ⟨b1, off1, none⟩) vl vc) := fun n => p2
                have c1n : ∀ n, (wr.drewN n).cell? ⟨b1, off1 + m, none⟩ = some (.slice ai li ci) := fun n => c1
                have d1n : ∀ n, (wr.drewN n).cell? ⟨b2, off2 + m, none⟩ = some (.slice aj lj cj) := fun n => d1
                clear hc hd c1 c2 c3 c4 d1 d2 d3 d4 hlt hm hNx p0 p1 p2 p3
                by_cases hg : 160 < (lj : Int) + (li : Int)
                · have hgd : decide (160 < (lj : Int) + (li : Int)) = true := decide_eq_true hg
                  have HY := Lib.hid (show nFormB true ks vs is = false by
                    rw [HX1.out]; exact all_not (k := m) (by rw [HL.out.2.1]; exact HLt.out) (by rw [HF.out]; exact decide_eq_false (by omega)))
                  go_wp2
                  go_quiet (fail)
                  go_wp2
                  go_ret
                  exact ⟨by rw [HB.out, HY.out]; rfl, bt HB0.out (ndDrew HBx.out _)⟩
                · have hgd : decide (160 < (lj : Int) + (li : Int)) = false := decide_eq_false hg
                  have hg' : (lj : Int) + (li : Int) ≤ 160 := by omega
                  have HY := Lib.hid (show ∀ j, j < m + 1 → cellOk ks vs j = true from fun j hj => by
                    rcases Nat.lt_succ_iff_lt_or_eq.1 hj with h1 | rfl
                    · exact HM.out j h1
                    · rw [HF.out]; exact decide_eq_true (by omega))
                  clear hg
                  go_wp2
                  go_quiet (fail)
                  go_wp2
                  go_roundw
                  case rel => exact ⟨m + 1, HLt.out, by go_num, Lib.hid (ndDrew HBx.out _), HY⟩
                  case measure => have := HLt.out; simp [intOf]; omega
              · obtain rfl : m = vl := by omega
                have HY := Lib.hid (show nFormB true ks vs is = true by rw [HX1.out]; exact all_range (by rw [HL.out.2.1]; exact HM.out))
                clear hlt hm hNx
                go_wp2
                go_ret
                exact ⟨by rw [HB.out, HY.out]; rfl, bt HB0.out HBx.out⟩
          · have h1b : ((vl : Int) != (k : Int)) = true := by rw [bne_iff_ne]; omega
            have HY := Lib.hid (show nFormB true ks vs is = false by unfold nFormB cellsOk; rw [HL.out.2.1, HL.out.1, decide_eq_false h1]; simp)
            subst h0
            clear h1
            go_wp2
            go_ret
            exact ⟨by rw [HB.out, HY.out]; rfl, HBw.out⟩
        · have h0i : (0 : Int) < (il : Int) := by omega
          have HY := Lib.hid (show nFormB true ks vs is = false by unfold nFormB; rw [HL.out.2.2, decide_eq_false h0]; simp)
          clear h0
          go_wp2
          go_ret
          exact ⟨by rw [HB.out, HY.out]; rfl, HBw.out⟩
      | false =>
        go_wp2
        go_loop [88] (fun i => ∃ (m : Nat), m ≤ il ∧ i = .int .i64 (m : Int) ∧ Hid (∀ j, j < m → kidOk (is.getD j 0) = true)) (fun i => il - (intOf i).toNat)
        case atStart => exact ⟨0, by omega, rfl, Lib.hid fun j hj => absurd hj (Nat.not_lt_zero _)⟩
        case round =>
          obtain ⟨m, hm, rfl, HM⟩ := hrel
          by_cases hlt : m < il
          · obtain ⟨_, _, hc, hr⟩ := HNr.out.kids
            rcases hc with hc | ⟨b1, off1, rfl, _, hc⟩
            · omega
            have c1 := hc m hlt
            have hki : (m : Int) < (il : Int) := by omega
            have hk0 : (0 : Int) ≤ (m : Int) := by omega
            have HF := Lib.hid (fun (h : kidOk (is.getD m 0) = false) => (show nFormB false ks vs is = false by
              unfold nFormB kidsOk
              rw [all_not (k := m) (by rw [HL.out.2.2]; exact hlt) h]; simp))
            have HT := Lib.hid (fun (h : kidOk (is.getD m 0) = true) => (show ∀ j, j < m + 1 → kidOk (is.getD j 0) = true from fun j hj => by
              rcases Nat.lt_succ_iff_lt_or_eq.1 hj with h1 | rfl
              · exact HM.out j h1
              · exact h))
            have HLt := Lib.hid hlt
            clear hc hr hlt hm
            generalize is.getD m 0 = z at *
            by_cases h1 : z < 1
            · have HY := Lib.hid (HF.out (by unfold kidOk; rw [decide_eq_false (show ¬ 1 ≤ z by omega)]; rfl))
              go_wp2
              go_ret
              exact ⟨by rw [HB.out, HY.out]; rfl, HBw.out⟩
            · by_cases h2 : 9999 < z
              · have HY := Lib.hid (HF.out (by unfold kidOk; rw [decide_eq_false (show ¬ z ≤ 9999 by omega)]; simp))
                go_wp2
                go_ret
                exact ⟨by rw [HB.out, HY.out]; rfl, HBw.out⟩
              · have HY := Lib.hid (HT.out (by unfold kidOk; rw [decide_eq_true (show 1 ≤ z by omega), decide_eq_true (show z ≤ 9999 by omega)]; rfl))
                have h1' : 1 ≤ z := by omega
                have h2' : z ≤ 9999 := by omega
                clear h1 h2
                go_wp2
                go_round
                case rel => exact ⟨m + 1, HLt.out, by go_num, HY⟩
                case measure => have := HLt.out; simp [intOf]; omega
          · obtain rfl : m = il := by omega
            have HKd := Lib.hid (show kidsOk is = true from all_range (by rw [HL.out.2.2]; exact HM.out))
            clear hlt hm
            by_cases h1 : vl = 0
            · have h1b : ((vl : Int) == 0) = true := by rw [beq_iff_eq]; omega
              by_cases h0 : 0 < k
              · have h0i : (0 : Int) < (k : Int) := by omega
                have hwk : IntKind.i64.wrap ((k : Int) + 1) = (k : Int) + 1 := by rw [IntKind.wrap_i64]; omega
                by_cases h2 : m = k + 1
                · have h2b : ((m : Int) == (k : Int) + 1) = true := by rw [beq_iff_eq]; omega
                  have HY := Lib.hid (show nFormB false ks vs is = true by
                    unfold nFormB; rw [HKs.out, HL.out.1, HL.out.2.1, HL.out.2.2, decide_eq_true h0, decide_eq_true h1, decide_eq_true h2, HKd.out]; rfl)
                  clear h0 h1 h2
                  go_wp2
                  go_ret
                  exact ⟨by rw [HB.out, HY.out]; rfl, HBw.out⟩
                · have h2b : ((m : Int) == (k : Int) + 1) = false := by rw [beq_eq_false_iff_ne]; omega
                  have HY := Lib.hid (show nFormB false ks vs is = false by unfold nFormB; rw [HL.out.1, HL.out.2.2, decide_eq_false h2]; simp)
                  clear h0 h1 h2
                  go_wp2
                  go_ret
                  exact ⟨by rw [HB.out, HY.out]; rfl, HBw.out⟩
              · obtain rfl : k = 0 := by omega
                have HY := Lib.hid (show nFormB false ks vs is = false by unfold nFormB; rw [HL.out.1]; simp)
                clear h0 h1
                go_wp2
                go_ret
                exact ⟨by rw [HB.out, HY.out]; rfl, HBw.out⟩
            · have h1b : ((vl : Int) == 0) = false := by rw [beq_eq_false_iff_ne]; omega
              have HY := Lib.hid (show nFormB false ks vs is = false by unfold nFormB; rw [HL.out.2.1, decide_eq_false h1]; simp)
              clear h1
              go_wp2
              go_ret
              exact ⟨by rw [HB.out, HY.out]; rfl, HBw.out⟩
end Go.Proofs.YtbcjhngpcodaoaaDoor
