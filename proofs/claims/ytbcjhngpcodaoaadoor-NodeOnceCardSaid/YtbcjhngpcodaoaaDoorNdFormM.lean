/- Contract of node's Formed for nodes that are read: more keys. -/
import Derived.Test.YtbcjhngpcodaoaaDoorNdFormed
namespace Go.Proofs.YtbcjhngpcodaoaaDoor
open Go.RowKit
set_option linter.unusedVariables false
set_option maxRecDepth 100000

def FewM (kl vl : Nat) (ks vs : List (List Int)) : Prop := kl ≤ 1000000 ∧ vl ≤ 1000000 ∧ (∀ i, i < kl → (ks.getD i []).length ≤ 1000) ∧ ∀ i, i < vl → (vs.getD i []).length ≤ 1000

set_option maxHeartbeats 3200000 in
theorem formedM_any (lf : Bool) (ka va ia : Option Addr) (kl kc vl vc il ic : Nat) (ks vs : List (List Int)) (is : List Int) (w : World) (hN : Nd w ka kl va vl ia il ks vs is) (hF : FewM kl vl ks vs) :
    Calls Tryd.prog 10 #[.agg #[.bool lf, .slice ka kl kc, .slice va vl vc, .slice ia il ic]] w fun e w' => e = .returned (.bool (nFormB lf ks vs is)) ∧ Below w.heap.size w w' := by
  obtain ⟨b, hb⟩ : ∃ b, b = nFormB lf ks vs is := ⟨_, rfl⟩
  rw [← hb]
  have HB := Lib.hid hb
  obtain ⟨W0, hW0⟩ : ∃ W0, W0 = w.alloc (.cells #[.bool lf, .slice ka kl kc, .slice va vl vc, .slice ia il ic] 28) := ⟨_, rfl⟩
  obtain ⟨q0, q1, q2, q3⟩ := box_four w (.bool lf) (.slice ka kl kc) (.slice va vl vc) (.slice ia il ic) 28
  rw [← hW0] at q0 q1 q2 q3
  have hb0 : Below w.heap.size w W0 := by rw [hW0]; exact bel0 _ (Below.refl _ _)
  have HB0 := Lib.hid hb0
  have HN := Lib.hid (hN.below hb0)
  have hkl := hN.keys.2.1
  have hvl := hN.vals.2.1
  have hil := hN.kids.2.1
  have HL := Lib.hid (show ks.length = kl ∧ vs.length = vl ∧ is.length = il from ⟨hN.keys.1, hN.vals.1, hN.kids.1⟩)
  have HFw := Lib.hid hF
  have HW := Lib.hid hW0
  have hkl3 : (kl : Int) ≤ 1000000 := by have := hF.1; omega
  clear hb hN hb0 hF
  go_enter Tryd.func10, Tryd.ntmps10
  go_wp2
  clear hW0
  rw [← HW.out]
  go_loop [8] (fun i => ∃ (k : Nat), k ≤ kl ∧ i = .int .i64 (k : Int) ∧ Hid (∀ j, j < k → keyOk ks j = true)) (fun i => kl - (intOf i).toNat)
  case atStart => exact ⟨0, by omega, rfl, Lib.hid fun j hj => absurd hj (Nat.not_lt_zero _)⟩
  case round =>
    obtain ⟨k, hk, rfl, HC⟩ := hrel
    by_cases hlt : k < kl
    · obtain ⟨_, _, hc⟩ := HN.out.keys
      rcases hc with hc | ⟨b1, off1, rfl, _, hc⟩
      · omega
      obtain ⟨ai, li, ci, c1, c2, c3, c4⟩ := hc k hlt
      have hki : (k : Int) < (kl : Int) := by omega
      have hk0 : (0 : Int) ≤ (k : Int) := by omega
      have hli : (li : Int) ≤ 1000 := by have := HFw.out.2.2.1 k hlt; rw [c2.1] at this; omega
      have HLt := Lib.hid hlt
      have HF := Lib.hid (fun (h : keyOk ks k = false) => (show nFormB lf ks vs is = false by
        unfold nFormB keysOk
        rw [all_not (k := k) (by rw [HL.out.1]; exact HLt.out) h]; rfl))
      have HT := Lib.hid (fun (h : keyOk ks k = true) => (show ∀ j, j < k + 1 → keyOk ks j = true from fun j hj => by
        rcases Nat.lt_succ_iff_lt_or_eq.1 hj with h1 | rfl
        · exact HC.out j h1
        · exact h))
      have HCo := Lib.hid hc
      have HI := Lib.hid (show IsB W0 ai li (ks.getD k []) ∧ (ai = none → li = 0 ∧ ci = 0) from ⟨c2, c3⟩)
      clear hc c2 c3 c4 hlt hk
      by_cases h1 : li = 0
      · have HX := Lib.hid (HF.out (by unfold keyOk; rw [HI.out.1.1, decide_eq_false (show ¬ 1 ≤ li by omega)]; rfl))
        subst h1
        go_wp2
        go_ret
        exact ⟨by rw [HB.out, HX.out]; rfl, HB0.out⟩
      · have h1b : ((li : Int) == 0) = false := by rw [beq_eq_false_iff_ne]; omega
        by_cases h2 : 120 < (li : Int)
        · have HX := Lib.hid (HF.out (by unfold keyOk; rw [HI.out.1.1, decide_eq_false (show ¬ li ≤ 120 by omega)]; simp))
          clear h1
          go_wp2
          go_ret
          exact ⟨by rw [HB.out, HX.out]; rfl, HB0.out⟩
        · have h2' : (li : Int) ≤ 120 := by omega
          have HLi := Lib.hid (show 1 ≤ li ∧ li ≤ 120 by omega)
          clear h1 h2
          by_cases h3 : k = 0
          · have HX := Lib.hid (HT.out (by unfold keyOk; rw [HI.out.1.1, decide_eq_true HLi.out.1, decide_eq_true HLi.out.2, decide_eq_true h3]; rfl))
            subst h3
            simp only [Nat.add_zero] at c1
            go_wp2
            go_round
            case rel => exact ⟨1, HLt.out, by go_num, HX⟩
            case measure => have := HLt.out; simp [intOf]; omega
          · obtain ⟨m, rfl⟩ : ∃ m, k = m + 1 := ⟨k - 1, by omega⟩
            obtain ⟨aj, lj, cj, d1, d2, d3, d4⟩ := HCo.out m (by have := HLt.out; omega)
            have HJ := Lib.hid (show IsB W0 aj lj (ks.getD m []) ∧ (aj = none → lj = 0 ∧ cj = 0) from ⟨d2, d3⟩)
            have hkg : (0 : Int) < ((m + 1 : Nat) : Int) := by omega
            have hm1 : ((m + 1 : Nat) : Int) - 1 = (m : Int) := by omega
            have hm0 : (0 : Int) ≤ (m : Int) := by omega
            have hmk : (m : Int) < (kl : Int) := by omega
            have hwm : IntKind.i64.wrap (((m + 1 : Nat) : Int) - 1) = (m : Int) := by rw [IntKind.wrap_i64]; omega
            have HKo := Lib.hid (show keyOk ks (m + 1) = lessI (ks.getD m []) (ks.getD (m + 1) []) by
              unfold keyOk; rw [HI.out.1.1, decide_eq_true HLi.out.1, decide_eq_true HLi.out.2, decide_eq_false h3]; rfl)
            obtain ⟨K, hK⟩ : ∃ K : Nat, K = m + 1 := ⟨_, rfl⟩
            rw [← hK] at hkg hm1 hwm hk0 hki c1 HLt HF HT HI HKo HC ⊢
            have HKe := Lib.hid hK
            clear hK d2 d3 d4 h3
            go_wp2_with fail
            refine (compare_any aj ai lj cj li ci (ks.getD m []) (ks.getD K []) _ HJ.out.1 HJ.out.2 HI.out.1 HI.out.2).mono ?_
            rintro e w1 ⟨⟨r, rfl, hr⟩, hw1⟩
            subst hw1
            have hr' := lessI_flip_not r hr
            by_cases hr0 : 0 ≤ r
            · have HX := Lib.hid (HF.out (by rw [HKo.out]; exact hr'.1 hr0))
              clear hr hr'
              go_wp2
              go_ret
              exact ⟨by rw [HB.out, HX.out]; rfl, HB0.out⟩
            · have HX := Lib.hid (HT.out (by
                rw [HKo.out]
                cases hq : lessI (ks.getD m []) (ks.getD K []) with
                | true => rfl
                | false => exact absurd (hr'.2 hq) hr0))
              have hr1 : r < 0 := by omega
              clear hr hr' hr0
              go_wp2
              go_round
              case rel => exact ⟨K + 1, HLt.out, by go_num, HX⟩
              case measure => have := HLt.out; simp [intOf]; omega
    · obtain rfl : k = kl := by omega
      have HKs := Lib.hid (show keysOk ks = true from all_range (by rw [HL.out.1]; exact HC.out))
      have HLr := Lib.hid (show ks.length = k from HL.out.1)
      clear hlt hk
      cases lf with
      | true =>
        by_cases h0 : il = 0
        · have HX := Lib.hid (show nFormB true ks vs is = cellsOk ks vs by unfold nFormB; rw [HKs.out, HL.out.2.2, decide_eq_true h0]; rfl)
          subst h0
          go_wp2_with fail
          refine (cells_any true ka va ia k kc vl vc 0 ic ks vs _ HN.out.keys HN.out.vals ⟨HFw.out.2.2.1, HFw.out.2.2.2⟩).mono ?_
          rintro e w1 ⟨rfl, hb1⟩
          have HB1 := Lib.hid (bt HB0.out hb1)
          clear hb1
          go_wp2
          go_ret
          exact ⟨by rw [HB.out, HX.out]; rfl, HB1.out⟩
        · have h0b : ((il : Int) == 0) = false := by rw [beq_eq_false_iff_ne]; omega
          have HX := Lib.hid (show nFormB true ks vs is = false by unfold nFormB; rw [HL.out.2.2, decide_eq_false h0]; simp)
          clear h0
          go_wp2
          go_ret
          exact ⟨by rw [HB.out, HX.out]; rfl, HB0.out⟩
      | false =>
        by_cases h0 : 0 < k
        · have h0i : (0 : Int) < (k : Int) := by omega
          by_cases h1 : vl = 0
          · have h1b : ((vl : Int) == 0) = true := by rw [beq_iff_eq]; omega
            have hwk : IntKind.i64.wrap ((k : Int) + 1) = (k : Int) + 1 := by rw [IntKind.wrap_i64]; omega
            by_cases h2 : il = k + 1
            · have h2b : ((il : Int) == (k : Int) + 1) = true := by rw [beq_iff_eq]; omega
              have HX := Lib.hid (show nFormB false ks vs is = kidsOk is by
                unfold nFormB; rw [HKs.out, HL.out.1, HL.out.2.1, HL.out.2.2, decide_eq_true h0, decide_eq_true h1, decide_eq_true h2]; rfl)
              clear h0 h1 h2
              go_wp2_with fail
              refine (kids_any ia il ic is _ HN.out.kids).mono ?_
              rintro e w1 ⟨rfl, hw⟩
              subst hw
              go_wp2
              go_ret
              exact ⟨by rw [HB.out, HX.out]; rfl, HB0.out⟩
            · have h2b : ((il : Int) == (k : Int) + 1) = false := by rw [beq_eq_false_iff_ne]; omega
              have HX := Lib.hid (show nFormB false ks vs is = false by unfold nFormB; rw [HL.out.1, HL.out.2.2, decide_eq_false h2]; simp)
              clear h0 h1 h2
              go_wp2
              go_ret
              exact ⟨by rw [HB.out, HX.out]; rfl, HB0.out⟩
          · have h1b : ((vl : Int) == 0) = false := by rw [beq_eq_false_iff_ne]; omega
            have HX := Lib.hid (show nFormB false ks vs is = false by unfold nFormB; rw [HL.out.2.1, decide_eq_false h1]; simp)
            clear h0 h1
            go_wp2
            go_ret
            exact ⟨by rw [HB.out, HX.out]; rfl, HB0.out⟩
        · obtain rfl : k = 0 := by omega
          have HX := Lib.hid (show nFormB false ks vs is = false by unfold nFormB; rw [HL.out.1]; simp)
          clear h0
          go_wp2
          go_ret
          exact ⟨by rw [HB.out, HX.out]; rfl, HB0.out⟩
end Go.Proofs.YtbcjhngpcodaoaaDoor
