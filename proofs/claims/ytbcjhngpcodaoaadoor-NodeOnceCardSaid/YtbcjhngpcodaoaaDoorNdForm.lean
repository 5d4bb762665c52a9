/- Contracts of node's Formed: every node. -/
import Derived.Test.YtbcjhngpcodaoaaDoorNdPure
import Derived.Test.YtbcjhngpcodaoaaDoorCmp
import Derived.Outline
namespace Go.Proofs.YtbcjhngpcodaoaaDoor
open Go.RowKit
set_option linter.unusedVariables false
set_option maxRecDepth 100000

set_option maxHeartbeats 1600000 in
theorem kids_any (ia : Option Addr) (il ic : Nat) (is : List Int) (w : World) (h : IsN w ia il is) : Calls Tryd.prog 27 #[.slice ia il ic] w fun e w' => e = .returned (.bool (kidsOk is)) ∧ w' = w := by
  obtain ⟨b, hb⟩ : ∃ b, b = kidsOk is := ⟨_, rfl⟩
  rw [← hb]
  have HB := Lib.hid hb
  have HI := Lib.hid h
  have hil := h.2.1
  clear hb h
  go_enter Tryd.func27, Tryd.ntmps27
  go_wp2
  go_loop [7] (fun i => ∃ (k : Nat), k ≤ il ∧ i = .int .i64 (k : Int) ∧ Hid (∀ j, j < k → kidOk (is.getD j 0) = true)) (fun i => il - (intOf i).toNat)
  case atStart => exact ⟨0, by omega, rfl, Lib.hid fun j hj => absurd hj (Nat.not_lt_zero _)⟩
  case round =>
    obtain ⟨k, hk, rfl, HK⟩ := hrel
    by_cases hlt : k < il
    · obtain ⟨hl, _, hc, hr⟩ := HI.out
      rcases hc with hc | ⟨b1, off, rfl, hbl, hc⟩
      · omega
      have c1 := hc k hlt
      have hki : (k : Int) < (il : Int) := by omega
      have hk0 : (0 : Int) ≤ (k : Int) := by omega
      have HF := Lib.hid (fun (h : kidOk (is.getD k 0) = false) => (show kidsOk is = false from all_not (by rw [hl]; exact hlt) h))
      have HT := Lib.hid (fun (h : kidOk (is.getD k 0) = true) => (show ∀ j, j < k + 1 → kidOk (is.getD j 0) = true from fun j hj => by
        rcases Nat.lt_succ_iff_lt_or_eq.1 hj with h1 | rfl
        · exact HK.out j h1
        · exact h))
      have HLt := Lib.hid hlt
      clear hc hr hl hbl
      generalize is.getD k 0 = z at *
      by_cases h1 : z < 1
      · have HX := Lib.hid (HF.out (by unfold kidOk; rw [decide_eq_false (show ¬ 1 ≤ z by omega)]; rfl))
        clear hlt hk
        go_wp2
        go_ret
        exact ⟨by rw [HB.out, HX.out]; rfl, rfl⟩
      · by_cases h2 : 10000 ≤ z
        · have HX := Lib.hid (HF.out (by unfold kidOk; rw [decide_eq_false (show ¬ z ≤ 9999 by omega)]; simp))
          clear hlt hk
          go_wp2
          go_ret
          exact ⟨by rw [HB.out, HX.out]; rfl, rfl⟩
        · have HX := Lib.hid (HT.out (by unfold kidOk; rw [decide_eq_true (show 1 ≤ z by omega), decide_eq_true (show z ≤ 9999 by omega)]; rfl))
          have h1' : 1 ≤ z := by omega
          have h2' : z < 10000 := by omega
          clear hlt hk h1 h2
          go_wp2
          go_round
          case rel => exact ⟨k + 1, HLt.out, by go_num, HX⟩
          case measure => have := HLt.out; simp [intOf]; omega
    · obtain rfl : k = il := by omega
      have HX := Lib.hid (show kidsOk is = true from all_range (by rw [HI.out.1]; exact HK.out))
      clear hlt hk
      go_wp2
      go_ret
      exact ⟨by rw [HB.out, HX.out]; rfl, rfl⟩

/-- a box's four cells -/
theorem box_four (w : World) (a b c d : Value) (T : TypeId) : (w.alloc (.cells #[a, b, c, d] T)).cell? ⟨w.heap.size, 0, none⟩ = some a ∧ (w.alloc (.cells #[a, b, c, d] T)).cell? ⟨w.heap.size, 1, none⟩ = some b ∧ (w.alloc (.cells #[a, b, c, d] T)).cell? ⟨w.heap.size, 2, none⟩ = some c ∧ (w.alloc (.cells #[a, b, c, d] T)).cell? ⟨w.heap.size, 3, none⟩ = some d := by
  have h := Go.heap_alloc_new w (.cells #[a, b, c, d] T)
  exact ⟨cell_of_row _ _ 0 _ _ _ h, cell_of_row _ _ 1 _ _ _ h, cell_of_row _ _ 2 _ _ _ h, cell_of_row _ _ 3 _ _ _ h⟩

set_option maxHeartbeats 1600000 in
theorem cells_any (lf : Bool) (ka va ia : Option Addr) (kl kc vl vc il ic : Nat) (ks vs : List (List Int)) (w : World) (hK : IsBs w ka kl ks) (hV : IsBs w va vl vs) (hsh : (∀ i, i < kl → (ks.getD i []).length ≤ 1000) ∧ ∀ i, i < vl → (vs.getD i []).length ≤ 1000) :
    Calls Tryd.prog 26 #[.agg #[.bool lf, .slice ka kl kc, .slice va vl vc, .slice ia il ic]] w fun e w' => e = .returned (.bool (cellsOk ks vs)) ∧ Below w.heap.size w w' := by
  obtain ⟨b, hb⟩ : ∃ b, b = cellsOk ks vs := ⟨_, rfl⟩
  rw [← hb]
  have HB := Lib.hid hb
  obtain ⟨W0, hW0⟩ : ∃ W0, W0 = w.alloc (.cells #[.bool lf, .slice ka kl kc, .slice va vl vc, .slice ia il ic] 28) := ⟨_, rfl⟩
  obtain ⟨q0, q1, q2, q3⟩ := box_four w (.bool lf) (.slice ka kl kc) (.slice va vl vc) (.slice ia il ic) 28
  rw [← hW0] at q0 q1 q2 q3
  have hb0 : Below w.heap.size w W0 := by rw [hW0]; exact bel0 _ (Below.refl _ _)
  have HB0 := Lib.hid hb0
  have HK := Lib.hid (hK.below hb0)
  have HV := Lib.hid (hV.below hb0)
  have HS := Lib.hid hsh
  have hkl := hK.2.1
  have hvl := hV.2.1
  have HW := Lib.hid hW0
  clear hb hK hV hb0 hsh
  by_cases hne : vl = kl
  · have HE := Lib.hid hne
    have hne' : ((vl : Int) != (kl : Int)) = false := by rw [bne_eq_false_iff_eq]; omega
    clear hne
    go_enter Tryd.func26, Tryd.ntmps26
    go_wp2
    clear hW0
    rw [← HW.out]
    go_loop [15] (fun i => ∃ (k : Nat), k ≤ vl ∧ i = .int .i64 (k : Int) ∧ Hid (∀ j, j < k → cellOk ks vs j = true)) (fun i => vl - (intOf i).toNat)
    case atStart => exact ⟨0, by omega, rfl, Lib.hid fun j hj => absurd hj (Nat.not_lt_zero _)⟩
    case round =>
      obtain ⟨k, hk, rfl, HC⟩ := hrel
      by_cases hlt : k < vl
      · obtain ⟨_, _, hc⟩ := HV.out
        rcases hc with hc | ⟨b1, off1, rfl, _, hc⟩
        · omega
        obtain ⟨_, _, hd⟩ := HK.out
        rcases hd with hd | ⟨b2, off2, rfl, _, hd⟩
        · have := HE.out; omega
        obtain ⟨ai, li, ci, c1, c2, c3, c4⟩ := hc k hlt
        obtain ⟨aj, lj, cj, d1, d2, d3, d4⟩ := hd k (by have := HE.out; omega)
        have hki : (k : Int) < (vl : Int) := by omega
        have hkj : (k : Int) < (kl : Int) := by have := HE.out; omega
        have hk0 : (0 : Int) ≤ (k : Int) := by omega
        have hli : (li : Int) ≤ 1000 := by have := HS.out.2 k hlt; rw [c2.1] at this; omega
        have hlj : (lj : Int) ≤ 1000 := by have := HS.out.1 k (by have := HE.out; omega); rw [d2.1] at this; omega
        have hlt0 := hlt
        have HF := Lib.hid (show cellOk ks vs k = decide (lj + li ≤ 160) by unfold cellOk; rw [c2.1, d2.1])
        have HLt := Lib.hid hlt
        have HVl := Lib.hid (show vs.length = vl from HV.out.1)
        clear hc hd c2 c3 c4 d2 d3 d4 hlt hk
        have hwr : IntKind.i64.wrap ((lj : Int) + (li : Int)) = (lj : Int) + (li : Int) := by rw [IntKind.wrap_i64]; omega
        by_cases hg : 160 < (lj : Int) + (li : Int)
        · have HX := Lib.hid (show cellsOk ks vs = false by
            unfold cellsOk
            rw [all_not (k := k) (by rw [HVl.out]; exact HLt.out) (by rw [HF.out]; exact decide_eq_false (by omega))]; simp)
          go_wp2
          go_ret
          exact ⟨by rw [HB.out, HX.out]; rfl, HB0.out⟩
        · have hg' : (lj : Int) + (li : Int) ≤ 160 := by omega
          have HX := Lib.hid (show ∀ j, j < k + 1 → cellOk ks vs j = true from fun j hj => by
            rcases Nat.lt_succ_iff_lt_or_eq.1 hj with h1 | rfl
            · exact HC.out j h1
            · rw [HF.out]; exact decide_eq_true (by omega))
          clear hg
          go_wp2
          go_round
          case rel => exact ⟨k + 1, HLt.out, by go_num, HX⟩
          case measure => have := HLt.out; simp [intOf]; omega
      · obtain rfl : k = vl := by omega
        have HX := Lib.hid (show cellsOk ks vs = true by
          unfold cellsOk
          rw [all_range (by rw [HV.out.1]; exact HC.out), HV.out.1, HK.out.1, decide_eq_true HE.out]; rfl)
        clear hlt hk
        go_wp2
        go_ret
        exact ⟨by rw [HB.out, HX.out]; rfl, HB0.out⟩
  · have hne' : ((vl : Int) != (kl : Int)) = true := by rw [bne_iff_ne]; omega
    have HX := Lib.hid (show cellsOk ks vs = false by unfold cellsOk; rw [HV.out.1, HK.out.1, decide_eq_false hne]; rfl)
    clear hne
    go_enter Tryd.func26, Tryd.ntmps26
    go_wp2
    go_ret
    exact ⟨by rw [HB.out, HX.out]; rfl, by rw [← HW.out]; exact HB0.out⟩
end Go.Proofs.YtbcjhngpcodaoaaDoor
