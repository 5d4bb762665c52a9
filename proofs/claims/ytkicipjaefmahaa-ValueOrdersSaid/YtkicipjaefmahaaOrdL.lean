/- ValueOrders: the law's walk; every two values and slices of values. -/
import Derived.Test.YtkicipjaefmahaaRowW
import Derived.Test.YtkicipjaefmahaaOrdPure
namespace Go.Proofs.Ytkicipjaefmahaa
open Go.RowKit
set_option linter.unusedVariables false

theorem keep6' {w w' : World} {a1 a2 a3 a4 a5 a6 : Addr} {x1 x2 x3 x4 x5 x6 : Value} {W : World}
    (h : w.cell? a1 = some x1 ∧ w.cell? a2 = some x2 ∧ w.cell? a3 = some x3 ∧ w.cell? a4 = some x4 ∧ w.cell? a5 = some x5 ∧ w.cell? a6 = some x6 ∧ Below W.heap.size W w) (hb : Below w.heap.size w w') :
    w'.cell? a1 = some x1 ∧ w'.cell? a2 = some x2 ∧ w'.cell? a3 = some x3 ∧ w'.cell? a4 = some x4 ∧ w'.cell? a5 = some x5 ∧ w'.cell? a6 = some x6 ∧ Below W.heap.size W w' :=
  ⟨cell_later hb h.1, cell_later hb h.2.1, cell_later hb h.2.2.1, cell_later hb h.2.2.2.1, cell_later hb h.2.2.2.2.1, cell_later hb h.2.2.2.2.2.1, bt h.2.2.2.2.2.2 hb (Nat.le_refl _)⟩

theorem undrew (w : World) : Below w.drew.heap.size w.drew w := ⟨rfl, rfl, rfl, Nat.le_refl _, fun _ _ => rfl⟩
theorem undrew2 (w : World) : Below w.drew.drew.heap.size w.drew.drew w := ⟨rfl, rfl, rfl, Nat.le_refl _, fun _ _ => rfl⟩
theorem lastB {A B C D E F : Prop} {W w : World} (h : A ∧ B ∧ C ∧ D ∧ E ∧ F ∧ Below W.heap.size W w) : Below W.heap.size W w := h.2.2.2.2.2.2

set_option maxHeartbeats 4000000 in
theorem valueOrders_walk (ka na : Int) (sa : ByteArray) (kb nb : Int) (sb : ByteArray) (a1 : Option Addr) (len1 cap1 : Nat) (v1 : List Val) (a2 : Option Addr) (len2 cap2 : Nat) (v2 : List Val) (w : World) (h1 : IsV w a1 len1 v1) (h2 : IsV w a2 len2 v2) :
    Calls Try.prog 3 #[.agg #[.int .i64 ka, .int .i64 na, .string sa], .agg #[.int .i64 kb, .int .i64 nb, .string sb], .slice a1 len1 cap1, .slice a2 len2 cap2] w
      fun x w' => x = .returned (.bool true) ∧ Below w.heap.size w w' := by
  have H1 := Lib.hid h1
  have H2 := Lib.hid h2
  have hm1 := h1.2.1
  have hm2 := h2.2.1
  clear h1 h2
  have g0 := ordV_bd ka na sa kb nb sb
  have g1 : -1 ≤ ordV ka na sa kb nb sb := by omega
  have g2 : ordV ka na sa kb nb sb ≤ 1 := by omega
  have g3 := rowsF_bd v1 v2
  have g4 : -1 ≤ rowsF v1 v2 := by omega
  have g5 : rowsF v1 v2 ≤ 1 := by omega
  have f1 : (ordV kb nb sb ka na sa == -ordV ka na sa kb nb sb) = true := by rw [ordV_neg]; simp
  have f2 : (rowsF v2 v1 == -rowsF v1 v2) = true := by rw [rowsF_neg]; simp
  have f3 : (ordV ka na sa ka na sa == 0) = true := by rw [ordV_self]; rfl
  clear g0 g3
  by_cases hg : (1000 : Int) < (len1 : Int) ∨ (1000 : Int) < (len2 : Int)
  · clear f1 f2 f3 g1 g2 g4 g5 H1 H2
    rcases Int.lt_or_le 1000 (len1 : Int) with hx | hx
    · clear hg
      go_enter Try.func3, Try.ntmps3
      go_wp2_with fail
      refine (awake_any _).mono ?_
      rintro e w1 ⟨rfl, hb1⟩
      have HB1 := Lib.hid hb1
      clear hb1
      go_wp2_with fail
      refine (awake_any _).mono ?_
      rintro e w2 ⟨rfl, hb2⟩
      have HB2 := Lib.hid hb2
      clear hb2
      go_wp2
      go_ret
      have e1 := (bel (.cells #[.int .i64 kb, .int .i64 nb, .string sb] 23) (bel (.cells #[.int .i64 ka, .int .i64 na, .string sa] 23) (Below.refl w.heap.size w)))
      exact ⟨rfl, bt (bt e1 HB1.out (Nat.le_refl _)) HB2.out (Nat.le_refl _)⟩
    · have hy : (1000 : Int) < (len2 : Int) := by omega
      clear hg
      go_enter Try.func3, Try.ntmps3
      go_wp2_with fail
      refine (awake_any _).mono ?_
      rintro e w1 ⟨rfl, hb1⟩
      have HB1 := Lib.hid hb1
      clear hb1
      go_wp2_with fail
      refine (awake_any _).mono ?_
      rintro e w2 ⟨rfl, hb2⟩
      have HB2 := Lib.hid hb2
      clear hb2
      go_wp2
      go_ret
      have e1 := (bel (.cells #[.int .i64 kb, .int .i64 nb, .string sb] 23) (bel (.cells #[.int .i64 ka, .int .i64 na, .string sa] 23) (Below.refl w.heap.size w)))
      exact ⟨rfl, bt (bt e1 HB1.out (Nat.le_refl _)) HB2.out (Nat.le_refl _)⟩
  have hx : (len1 : Int) ≤ 1000 := by omega
  have hy : (len2 : Int) ≤ 1000 := by omega
  clear hg
  go_enter Try.func3, Try.ntmps3
  go_wp2_with fail
  refine (awake_any _).mono ?_
  rintro e w1 ⟨rfl, hb1⟩
  have e1 := (bel (.cells #[.int .i64 kb, .int .i64 nb, .string sb] 23) (bel (.cells #[.int .i64 ka, .int .i64 na, .string sa] 23) (Below.refl w.heap.size w)))
  have E1 := Lib.hid (bt e1 hb1 (Nat.le_refl _))
  clear e1
  obtain ⟨hc1, hf1⟩ := bcell hb1
  have hz0 : w.heap.size < w1.heap.size := by have := hb1.size; simp at this; omega
  have hz1 : w.heap.size + 1 < w1.heap.size := by have := hb1.size; simp at this; omega
  have p1 : w1.cell? ⟨w.heap.size, 0, none⟩ = some (.int .i64 ka) := by rw [hc1 _ _ (by simp; omega)]; simp
  have p2 : w1.cell? ⟨w.heap.size, 1, none⟩ = some (.int .i64 na) := by rw [hc1 _ _ (by simp; omega)]; simp
  have p3 : w1.cell? ⟨w.heap.size, 2, none⟩ = some (.string sa) := by rw [hc1 _ _ (by simp; omega)]; simp
  have p4 : w1.cell? ⟨w.heap.size + 1, 0, none⟩ = some (.int .i64 kb) := by rw [hc1 _ _ (by simp)]; simp
  have p5 : w1.cell? ⟨w.heap.size + 1, 1, none⟩ = some (.int .i64 nb) := by rw [hc1 _ _ (by simp)]; simp
  have p6 : w1.cell? ⟨w.heap.size + 1, 2, none⟩ = some (.string sb) := by rw [hc1 _ _ (by simp)]; simp
  clear hb1 hc1 hf1
  have V1 := Lib.hid (H1.out.below E1.out)
  have V2 := Lib.hid (H2.out.below E1.out)
  clear H1 H2
  go_wp2_with fail
  refine (order_any _ _ _ _ _ _ _).mono ?_
  rintro e w2 ⟨rfl, hw2⟩
  have hb2 : Below w1.heap.size w1 w2 := by subst hw2; repeat (first | exact Below.refl _ _ | refine Below.drew ?_ | refine bel _ ?_)
  clear hw2
  have P := Lib.hid (keep6' ⟨p1, p2, p3, p4, p5, p6, Below.refl w1.heap.size w1⟩ hb2)
  clear p1 p2 p3 p4 p5 p6 hb2
  go_wp2_with fail
  refine (vrows_any _ _ _ _ _ _ _ _ _ (V1.out.below P.out.2.2.2.2.2.2) (V2.out.below P.out.2.2.2.2.2.2)).mono ?_
  rintro e w3 ⟨rfl, hb3⟩
  have P3 := Lib.hid (keep6' P.out hb3)
  clear P hb3
  obtain ⟨p1, p2, p3, p4, p5, p6, p7⟩ := P3.out
  clear P3
  have P7 := Lib.hid p7
  clear p7
  go_wp2_with fail
  have i1 : IntKind.i64.wrap (-ordV ka na sa kb nb sb) = -ordV ka na sa kb nb sb := IntWalk.i64_in _ (by omega)
  have i2 : IntKind.i64.wrap (-rowsF v1 v2) = -rowsF v1 v2 := IntWalk.i64_in _ (by omega)
  go_region_held3 (fun w' => w'.cell? ⟨w.heap.size, 0, none⟩ = some (.int .i64 ka) ∧ w'.cell? ⟨w.heap.size, 1, none⟩ = some (.int .i64 na) ∧ w'.cell? ⟨w.heap.size, 2, none⟩ = some (.string sa) ∧ w'.cell? ⟨w.heap.size + 1, 0, none⟩ = some (.int .i64 kb) ∧ w'.cell? ⟨w.heap.size + 1, 1, none⟩ = some (.int .i64 nb) ∧ w'.cell? ⟨w.heap.size + 1, 2, none⟩ = some (.string sb) ∧ Below w1.heap.size w1 w')
    (first | exact ⟨p1, p2, p3, p4, p5, p6, P7.out.drew⟩ | (apply keep6'; assumption; repeat (first | assumption | exact Below.refl _ _ | exact undrew _ | exact undrew2 _ | refine Below.drew ?_ | refine bel _ ?_)))
    (first
      | (go_at_call 12; refine (formed_any _ _ _ _).mono ?_; rintro e w' ⟨rfl, rfl⟩)
      | (go_at_call 13; refine (rformed_any _ _ _ _).mono ?_; rintro e w' ⟨rfl, rfl⟩)
      | (go_at_call 14; refine (rorder_any _ _ _ _ _ _ _).mono ?_; rintro e w' ⟨rfl, rfl⟩)
      | (go_at_call 10; refine (order_any _ _ _ _ _ _ _).mono ?_; rintro e w' ⟨rfl, rfl⟩)
      | (go_at_call 15; refine (rrows_any _ _ _ v1 _ _ _ v2 _ (V1.out.below (lastB (by assumption))) (V2.out.below (lastB (by assumption)))).mono ?_; rintro e w' ⟨rfl, hbx⟩)
      | (go_at_call 11; refine (vrows_any _ _ _ v2 _ _ _ v1 _ (V2.out.below (lastB (by assumption))) (V1.out.below (lastB (by assumption)))).mono ?_; rintro e w' ⟨rfl, hbx⟩))
  go_wp2
  go_ret
  exact ⟨rfl, bt E1.out (lastB (by assumption)) (Nat.le_refl _)⟩
end Go.Proofs.Ytkicipjaefmahaa
