/- Contracts of the document's Few and SameNode, and of layer 12's awake. -/
import Derived.Test.YtbcjhngpcodaoaaDoorNdSame
import Derived.Test.YtbcjhngpcodaoaaDoorNdEnc
import Derived.Test.YtbcjhngpcodaoaaDoorNdREnc
namespace Go.Proofs.YtbcjhngpcodaoaaDoor
open Go.RowKit
set_option linter.unusedVariables false
set_option maxRecDepth 100000

/-- what Few answers -/
def FewPost (w : World) (kl vl : Nat) (ks vs : List (List Int)) (e : Ending) (w' : World) : Prop := ∃ b : Bool, e = .returned (.bool b) ∧ (b = true → FewN kl vl ks vs) ∧ Below w.heap.size w w'
theorem FewPost.no {w w' : World} {kl vl : Nat} {ks vs : List (List Int)} (h : Below w.heap.size w w') : FewPost w kl vl ks vs (.returned (.bool false)) w' := ⟨false, rfl, fun h => by (cases h), h⟩

set_option maxHeartbeats 1600000 in
theorem fewn_any (lf : Bool) (ka va ia : Option Addr) (kl kc vl vc il ic : Nat) (ks vs : List (List Int)) (is : List Int) (w : World) (hN : Nd w ka kl va vl ia il ks vs is) :
    Calls Tryd.prog 7 #[.agg #[.bool lf, .slice ka kl kc, .slice va vl vc, .slice ia il ic]] w (FewPost w kl vl ks vs) := by
  have hkl := hN.keys.2.1
  have hvl := hN.vals.2.1
  have hil := hN.kids.2.1
  obtain ⟨W0, hW0⟩ : ∃ W0, W0 = w.alloc (.cells #[.bool lf, .slice ka kl kc, .slice va vl vc, .slice ia il ic] 25) := ⟨_, rfl⟩
  have q1 : W0.cell? ⟨w.heap.size, 1, none⟩ = some (.slice ka kl kc) := by rw [hW0]; simp [go_sem]
  have q2 : W0.cell? ⟨w.heap.size, 2, none⟩ = some (.slice va vl vc) := by rw [hW0]; simp [go_sem]
  have q3 : W0.cell? ⟨w.heap.size, 3, none⟩ = some (.slice ia il ic) := by rw [hW0]; simp [go_sem]
  have hb0 : Below w.heap.size w W0 := by rw [hW0]; exact bel0 _ (Below.refl _ _)
  have HB0 := Lib.hid hb0
  have HK0 := Lib.hid (hN.keys.below hb0)
  have HV0 := Lib.hid (hN.vals.below hb0)
  have HW := Lib.hid hW0
  clear hN hb0
  by_cases a1 : 300 < (kl : Int)
  · go_enter Tryd.func7, Tryd.ntmps7
    go_wp2
    go_ret
    exact FewPost.no (by rw [← HW.out]; exact HB0.out)
  by_cases a2 : 300 < (vl : Int)
  · go_enter Tryd.func7, Tryd.ntmps7
    go_wp2
    go_ret
    exact FewPost.no (by rw [← HW.out]; exact HB0.out)
  by_cases a3 : 300 < (il : Int)
  · go_enter Tryd.func7, Tryd.ntmps7
    go_wp2
    go_ret
    exact FewPost.no (by rw [← HW.out]; exact HB0.out)
  have a1' : (kl : Int) ≤ 300 := by omega
  have a2' : (vl : Int) ≤ 300 := by omega
  have a3' : (il : Int) ≤ 300 := by omega
  clear a1 a2 a3
  go_enter Tryd.func7, Tryd.ntmps7
  go_wp2
  clear hW0
  rw [← HW.out]
  go_loop [24] (fun i => ∃ (k : Nat), k ≤ kl ∧ i = .int .i64 (k : Int) ∧ Hid (∀ j, j < k → (ks.getD j []).length ≤ 1000)) (fun i => kl - (intOf i).toNat)
  case atStart => exact ⟨0, by omega, rfl, Lib.hid fun j hj => absurd hj (Nat.not_lt_zero _)⟩
  case round =>
    obtain ⟨k, hk, rfl, HC⟩ := hrel
    by_cases hlt : k < kl
    · obtain ⟨_, _, hc⟩ := HK0.out
      rcases hc with hc | ⟨b, off, rfl, _, hc⟩
      · omega
      obtain ⟨ai, li, ci, c1, c2, c3, c4⟩ := hc k hlt
      have hki : (k : Int) < (kl : Int) := by omega
      have hk0 : (0 : Int) ≤ (k : Int) := by omega
      have HLn := Lib.hid c2.1
      clear hc c2 c3 c4
      by_cases hbig : 1000 < (li : Int)
      · go_wp2
        go_ret
        exact FewPost.no HB0.out
      · have hbig' : (li : Int) ≤ 1000 := by omega
        have HC2 := Lib.hid (show ∀ j, j < k + 1 → (ks.getD j []).length ≤ 1000 from fun j hj => by
          rcases Nat.lt_succ_iff_lt_or_eq.1 hj with h1 | rfl
          · exact HC.out j h1
          · rw [HLn.out]; omega)
        go_wp2
        go_round
        case rel => exact ⟨k + 1, by omega, by go_num, HC2⟩
        case measure => simp [intOf]; omega
    · have hkk : (kl : Int) ≤ (k : Int) := by omega
      have HCk := Lib.hid (show ∀ j, j < kl → (ks.getD j []).length ≤ 1000 from fun j hj => HC.out j (by omega))
      go_wp2
      go_loop [38] (fun i => ∃ (k : Nat), k ≤ vl ∧ i = .int .i64 (k : Int) ∧ Hid (∀ j, j < k → (vs.getD j []).length ≤ 1000)) (fun i => vl - (intOf i).toNat)
      case atStart => exact ⟨0, by omega, rfl, Lib.hid fun j hj => absurd hj (Nat.not_lt_zero _)⟩
      case round =>
        obtain ⟨m, hm, rfl, HD⟩ := hrel
        by_cases hlt2 : m < vl
        · obtain ⟨_, _, hc⟩ := HV0.out
          rcases hc with hc | ⟨b, off, rfl, _, hc⟩
          · omega
          obtain ⟨ai, li, ci, c1, c2, c3, c4⟩ := hc m hlt2
          have hki : (m : Int) < (vl : Int) := by omega
          have hk0 : (0 : Int) ≤ (m : Int) := by omega
          have HLn := Lib.hid c2.1
          clear hc c2 c3 c4
          by_cases hbig : 1000 < (li : Int)
          · go_wp2
            go_ret
            exact FewPost.no HB0.out
          · have hbig' : (li : Int) ≤ 1000 := by omega
            have HD2 := Lib.hid (show ∀ j, j < m + 1 → (vs.getD j []).length ≤ 1000 from fun j hj => by
              rcases Nat.lt_succ_iff_lt_or_eq.1 hj with h1 | rfl
              · exact HD.out j h1
              · rw [HLn.out]; omega)
            go_wp2
            go_round
            case rel => exact ⟨m + 1, by omega, by go_num, HD2⟩
            case measure => simp [intOf]; omega
        · have hmm : (vl : Int) ≤ (m : Int) := by omega
          have HF := Lib.hid (show FewN kl vl ks vs from ⟨by omega, by omega, HCk.out, fun j hj => HD.out j (by omega)⟩)
          go_wp2
          go_ret
          exact ⟨true, rfl, fun _ => HF.out, HB0.out⟩

set_option maxHeartbeats 3200000 in
theorem same_node (lf : Bool) (ka va ia kb vb ib : Option Addr) (kl kc vl vc il ic kl' kc' vl' vc' il' ic' : Nat) (ks vs : List (List Int)) (is : List Int) (w : World) (h1 : Nd w ka kl va vl ia il ks vs is) (h2 : Nd w kb kl' vb vl' ib il' ks vs is) :
    Calls Tryd.prog 15 #[.agg #[.bool lf, .slice ka kl kc, .slice va vl vc, .slice ia il ic], .agg #[.bool lf, .slice kb kl' kc', .slice vb vl' vc', .slice ib il' ic']] w fun e w' => e = .returned (.bool true) ∧ Below w.heap.size w w' := by
  obtain ⟨W0, hW0⟩ : ∃ W0, W0 = (w.alloc (.cells #[.bool lf, .slice ka kl kc, .slice va vl vc, .slice ia il ic] 25)).alloc (.cells #[.bool lf, .slice kb kl' kc', .slice vb vl' vc', .slice ib il' ic'] 25) := ⟨_, rfl⟩
  have hb0 : Below w.heap.size w W0 := by rw [hW0]; exact bel0 _ (bel0 _ (Below.refl _ _))
  have hs0 : W0.heap.size = w.heap.size + 2 := by rw [hW0]; simp
  have n1 : W0.heap[w.heap.size]? = some (.cells #[.bool lf, .slice ka kl kc, .slice va vl vc, .slice ia il ic] 25 (0, 0)) := by
    rw [hW0]; exact (Below.heap_alloc (w.alloc _) _ _ (by simp)).trans (Go.heap_alloc_new w _)
  have n2 : W0.heap[w.heap.size + 1]? = some (.cells #[.bool lf, .slice kb kl' kc', .slice vb vl' vc', .slice ib il' ic'] 25 (0, 0)) := by
    rw [hW0]
    have := Go.heap_alloc_new (w.alloc (.cells #[.bool lf, .slice ka kl kc, .slice va vl vc, .slice ia il ic] 25)) (.cells #[.bool lf, .slice kb kl' kc', .slice vb vl' vc', .slice ib il' ic'] 25)
    rwa [show (w.alloc (.cells #[.bool lf, .slice ka kl kc, .slice va vl vc, .slice ia il ic] 25)).heap.size = w.heap.size + 1 by simp] at this
  have HB0 := Lib.hid hb0
  have HX := Lib.hid (fun (W : World) (hW : Below W0.heap.size W0 W) => (show ((W.cell? ⟨w.heap.size, 0, none⟩ = some (.bool lf) ∧ W.cell? ⟨w.heap.size, 1, none⟩ = some (.slice ka kl kc) ∧ W.cell? ⟨w.heap.size, 2, none⟩ = some (.slice va vl vc) ∧ W.cell? ⟨w.heap.size, 3, none⟩ = some (.slice ia il ic)) ∧ W.cell? ⟨w.heap.size + 1, 0, none⟩ = some (.bool lf) ∧ W.cell? ⟨w.heap.size + 1, 1, none⟩ = some (.slice kb kl' kc') ∧ W.cell? ⟨w.heap.size + 1, 2, none⟩ = some (.slice vb vl' vc') ∧ W.cell? ⟨w.heap.size + 1, 3, none⟩ = some (.slice ib il' ic')) ∧ Nd W ka kl va vl ia il ks vs is ∧ Nd W kb kl' vb vl' ib il' ks vs is from
    ⟨⟨⟨cell_of_row _ _ 0 _ _ _ ((hW.block _ (by omega)).trans n1), cell_of_row _ _ 1 _ _ _ ((hW.block _ (by omega)).trans n1), cell_of_row _ _ 2 _ _ _ ((hW.block _ (by omega)).trans n1), cell_of_row _ _ 3 _ _ _ ((hW.block _ (by omega)).trans n1)⟩, cell_of_row _ _ 0 _ _ _ ((hW.block _ (by omega)).trans n2), cell_of_row _ _ 1 _ _ _ ((hW.block _ (by omega)).trans n2), cell_of_row _ _ 2 _ _ _ ((hW.block _ (by omega)).trans n2), cell_of_row _ _ 3 _ _ _ ((hW.block _ (by omega)).trans n2)⟩, (h1.below hb0).below hW, (h2.below hb0).below hW⟩))
  have HW := Lib.hid hW0
  clear h1 h2 hb0 hs0 n1 n2
  have hC0 := HX.out W0 (Below.refl _ _)
  obtain ⟨⟨⟨p0, p1, p2, p3⟩, q0, q1, q2, q3⟩, _⟩ := hC0
  go_enter Tryd.func15, Tryd.ntmps15
  go_upto_region 1 with (fail)
  clear hW0
  rw [← HW.out]
  go_wp2_with fail
  refine (lists_same ka kb kl kl' kc kc' ks W0 (HX.out W0 (Below.refl _ _)).2.1.keys (HX.out W0 (Below.refl _ _)).2.2.keys).mono ?_
  rintro e w1 ⟨rfl, hb1⟩
  have HB1 := Lib.hid hb1
  clear p0 p1 p2 p3 q0 q1 q2 q3 hb1
  obtain ⟨⟨⟨p0, p1, p2, p3⟩, q0, q1, q2, q3⟩, _⟩ := HX.out w1 HB1.out
  go_wp2_with fail
  refine (lists_same va vb vl vl' vc vc' vs w1 (HX.out w1 HB1.out).2.1.vals (HX.out w1 HB1.out).2.2.vals).mono ?_
  rintro e w2 ⟨rfl, hb2⟩
  have HB2 := Lib.hid (bt HB1.out hb2)
  clear p0 p1 p2 p3 q0 q1 q2 q3 hb2
  obtain ⟨⟨⟨p0, p1, p2, p3⟩, q0, q1, q2, q3⟩, _⟩ := HX.out w2 HB2.out
  go_wp2_with fail
  refine (ints_same ia ib il il' ic ic' is w2 (HX.out w2 HB2.out).2.1.kids (HX.out w2 HB2.out).2.2.kids).mono ?_
  rintro e w3 ⟨rfl, hb3⟩
  have HB3 := Lib.hid (bt HB0.out (bt HB2.out hb3))
  go_wp2
  go_ret
  exact ⟨rfl, HB3.out⟩

theorem nd_nil (w : World) : Nd w none 0 none 0 none 0 [] [] [] := ⟨⟨rfl, by omega, .inl rfl⟩, ⟨rfl, by omega, .inl rfl⟩, ⟨rfl, by omega, .inl rfl, fun i hi => absurd hi (Nat.not_lt_zero _)⟩⟩
theorem encA_nil : encA true [] [] [] = ([1, 0], 0) := by decide +kernel

set_option maxHeartbeats 1600000 in
theorem nawake_any (w : World) : Calls Tryd.prog 6 #[] w fun e w' => e = .returned (.bool true) ∧ Below w.heap.size w w' := by
  go_enter Tryd.func6, Tryd.ntmps6
  go_wp2_with fail
  refine (encode_any true none none none 0 0 0 0 0 0 [] [] [] _ (nd_nil _) ⟨by omega, by omega, fun i hi => absurd hi (Nat.not_lt_zero _), fun i hi => absurd hi (Nat.not_lt_zero _)⟩).mono ?_
  rintro e w1 ⟨v, rfl, ho⟩
  rw [encA_nil] at ho
  rw [encA_nil]
  obtain ⟨h1, h2, h3⟩ := ho
  obtain ⟨a, L, cap, rfl, hL, hI, hm, hn, hq, hr⟩ := own_any h1 h2
  have HI := Lib.hid hI
  have HN := Lib.hid hn
  have HB := Lib.hid (bt (by repeat (first | exact Below.refl _ _ | refine bel0 _ ?_)) h3)
  have t0 : (convert 29 9 (.slice a L cap)).run Tryd.prog w1 = .ok (.string ⟨#[1, 0]⟩) w1 := str_any hI hn
  clear h1 h2 h3 hI hm hn hq hr hL
  go_wp2
  go_ret
  exact ⟨rfl, HB.out⟩
end Go.Proofs.YtbcjhngpcodaoaaDoor
