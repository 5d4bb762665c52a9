/- PagerNil: Take, and layer 11's awake. -/
import Derived.Test.YtbcjhngpcodaoaaGreatDoorPg6
namespace Go.Proofs.YtbcjhngpcodaoaaGreatDoor
open Go.RowKit
set_option linter.unusedVariables false
set_option maxRecDepth 100000

theorem pg_two (D : Nat) (fr f q : Value) : (pgC D 1 fr f 0 q 1).setIfInBounds 3 (.int .i64 2) = pgC D 2 fr f 0 q 1 := by
  simp [pgC]
set_option maxHeartbeats 1600000 in
theorem ptake {w : World} {P D F Q : Nat} {fr : Value} (h : PgS w P D F Q 1 fr 0) : Calls Tryz.prog 9 #[.pointer (some ⟨P, 0, none⟩)] w fun e w' => e = .returned (.tuple #[.int .i64 1, .int .i64 0]) ∧ TwoC w' P D 2 ∧ Below F w w' := by
  obtain ⟨c0, c1, c2, c3, c12, c28, c29, c30, c33, cz⟩ := h.cells
  have H := Lib.hid h
  clear h c0 c1 c2 c28 c29 c30 c33
  go_enter Tryz.func9, Tryz.ntmps9
  go_wp2_with fail
  refine (pready H.out).mono ?_
  rintro e w1 ⟨rfl, hw⟩
  subst hw
  go_wp2_with fail
  refine (pmakeRoom H.out).mono ?_
  rintro e w2 ⟨rfl, m, hw⟩
  have H2 := Lib.hid (show PgS w2 P D F Q 1 fr 0 by rw [hw]; exact H.out.draw m)
  have HB2 := Lib.hid (show Below F w1 w2 by rw [hw]; exact ⟨rfl, rfl, rfl, Nat.le_refl _, fun _ _ => rfl⟩)
  clear hw c3 c12 cz
  obtain ⟨c0, c1, c2, c3, c12, c28, c29, c30, c33, cz⟩ := H2.out.cells
  clear c0 c1 c2 c28 c29 c30 c33
  have hlt := H2.out.r.lt
  obtain ⟨W3, hW3⟩ : ∃ W3, W3 = w2.setCell ⟨P, 3, none⟩ (.int .i64 2) := ⟨_, rfl⟩
  have H3 := Lib.hid (show PgS W3 P D F Q 2 fr 0 from by
    have hr := H2.out.r.set 3 (.int .i64 2)
    rw [pg_two] at hr
    have h2 := H2.out
    rw [hW3]
    exact ⟨hr, (heap_setCell_other _ _ _ _ (by show F ≠ P; have := h2.fp; omega)).trans h2.f, (heap_setCell_other _ _ _ _ (by show Q ≠ P; have := h2.pq; omega)).trans h2.q, h2.fp, h2.pq⟩)
  have HB3 := Lib.hid (show Below F w1 W3 by rw [hW3]; exact HB2.out.setCell (p := ⟨P, 3, none⟩) (Nat.le_of_lt H2.out.fp) _)
  have HW3 := Lib.hid hW3
  clear hW3
  go_wp2_with fail
  rw [← HW3.out]
  refine (pleave H3.out 1).mono ?_
  rintro e w4 ⟨rfl, hw⟩
  subst hw
  go_wp2_with fail
  refine (ppadded _).mono ?_
  rintro e w5 ⟨g, rfl, hb5⟩
  have hle : F ≤ w4.heap.size := by have := H3.out.r.lt; have := H3.out.fp; omega
  have H5 := Lib.hid (show PgS w5 P D F Q 2 fr 0 from ⟨H3.out.r.below hb5, (hb5.block F (Array.getElem?_eq_some_iff.1 H3.out.f).1).trans H3.out.f, (hb5.block Q (Array.getElem?_eq_some_iff.1 H3.out.q).1).trans H3.out.q, H3.out.fp, H3.out.pq⟩)
  have HB5 := Lib.hid (HB3.out.trans (hb5.mono hle))
  clear hb5 hle
  go_wp2_with fail
  refine (pkeep H5.out g).mono ?_
  rintro e w6 ⟨rfl, ht, hb6⟩
  have HE := Lib.hid (And.intro ht (HB5.out.trans hb6))
  clear ht hb6
  go_wp2
  go_ret2
  exact ⟨rfl, HE.out⟩
set_option maxHeartbeats 1600000 in
theorem pawake_any (w : World) : Calls Tryz.prog 4 #[] w fun e w' => e = .returned (.bool true) ∧ Below w.heap.size w w' := by
  go_enter Tryz.func4, Tryz.ntmps4
  go_wp2_with fail
  refine (pdnew 10000 (.inl rfl) w).mono ?_
  rintro e w1 ⟨rfl, hd, hb⟩
  have HD := Lib.hid hd
  have HB := Lib.hid hb
  clear hd hb
  go_wp2_with fail
  refine (popen w1 w.heap.size HD.out).mono ?_
  rintro e w2 ⟨F, P, Q, fr, rfl, hr, hf, hq, h1, h2, h3, hb2⟩
  have H := Lib.hid (show PgS w2 P w.heap.size F Q 1 fr 0 from ⟨hr, hf, hq, h2, h3⟩)
  have HB2 := Lib.hid (bt HB.out hb2)
  have HF := Lib.hid (show w.heap.size ≤ F by have := HB.out.size; omega)
  clear hr hf hq h1 h2 h3 hb2
  go_wp2_with fail
  refine (ptake H.out).mono ?_
  rintro e w3 ⟨rfl, ht, hb3⟩
  have HT := Lib.hid ht
  have HB3 := Lib.hid (HB2.out.trans (hb3.mono HF.out))
  clear ht hb3
  go_wp2_with fail
  refine (ppages w3 P w.heap.size 2 HT.out.1 HT.out.2).mono ?_
  rintro e w4 ⟨rfl, hw⟩
  subst hw
  go_wp2
  go_ret
  exact ⟨rfl, HB3.out⟩
end Go.Proofs.YtbcjhngpcodaoaaGreatDoor
