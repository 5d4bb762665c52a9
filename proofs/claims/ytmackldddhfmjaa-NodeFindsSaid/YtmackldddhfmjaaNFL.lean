/- NodeFinds: the law's walk. -/
import Derived.Test.YtmackldddhfmjaaNAwk
import Derived.Test.YtmackldddhfmjaaNRFind
namespace Go.Proofs.Ytmackldddhfmjaa
open Go.RowKit
set_option linter.unusedVariables false
set_option maxRecDepth 100000

set_option maxHeartbeats 1600000 in
theorem nodeFinds_walk (lf : Bool) (ka va ia : Option Addr) (kl kc vl vc il ic : Nat) (ks vs : List (List Int)) (a : Option Addr) (len cap : Nat) (key : List Int) (w : World)
    (HK : Hid (IsBs w ka kl ks)) (HV : Hid (IsBs w va vl vs)) (hil : il ≤ 9223372036854775807) (HI : Hid (IsB w a len key)) (HN : Hid (a = none → len = 0 ∧ cap = 0)) (HA : Hid (∀ x, len ≠ 0 → a = some x → x.block < w.heap.size)) :
    Calls Try.prog 3 #[.agg #[.bool lf, .slice ka kl kc, .slice va vl vc, .slice ia il ic], .slice a len cap] w fun e w' => e = .returned (.bool true) ∧ Below w.heap.size w w' := by
  obtain ⟨W0, hW0⟩ : ∃ W0, W0 = w.alloc (.cells #[.bool lf, .slice ka kl kc, .slice va vl vc, .slice ia il ic] 25) := ⟨_, rfl⟩
  have q0 : W0.cell? ⟨w.heap.size, 0, none⟩ = some (.bool lf) := by rw [hW0]; simp [go_sem]
  have q1 : W0.cell? ⟨w.heap.size, 1, none⟩ = some (.slice ka kl kc) := by rw [hW0]; simp [go_sem]
  have q2 : W0.cell? ⟨w.heap.size, 2, none⟩ = some (.slice va vl vc) := by rw [hW0]; simp [go_sem]
  have q3 : W0.cell? ⟨w.heap.size, 3, none⟩ = some (.slice ia il ic) := by rw [hW0]; simp [go_sem]
  have hs0 : W0.heap.size = w.heap.size + 1 := by rw [hW0]; simp
  have hb0 : Below w.heap.size w W0 := by rw [hW0]; exact bel0 _ (Below.refl _ _)
  have Q := Lib.hid (show ∀ W, Below W0.heap.size W0 W → W.cell? ⟨w.heap.size, 0, none⟩ = some (.bool lf) ∧ W.cell? ⟨w.heap.size, 1, none⟩ = some (.slice ka kl kc) ∧ W.cell? ⟨w.heap.size, 2, none⟩ = some (.slice va vl vc) ∧ W.cell? ⟨w.heap.size, 3, none⟩ = some (.slice ia il ic) from fun W hW =>
    ⟨(hW.cell (p := ⟨w.heap.size, 0, none⟩) (by show w.heap.size < _; omega)).trans q0, (hW.cell (p := ⟨w.heap.size, 1, none⟩) (by show w.heap.size < _; omega)).trans q1, (hW.cell (p := ⟨w.heap.size, 2, none⟩) (by show w.heap.size < _; omega)).trans q2, (hW.cell (p := ⟨w.heap.size, 3, none⟩) (by show w.heap.size < _; omega)).trans q3⟩)
  have HB0 := Lib.hid hb0
  have HW := Lib.hid hW0
  clear q0 q1 q2 q3 hs0 hb0 hW0
  go_enter Try.func3, Try.ntmps3
  go_wp2_with fail
  rw [← HW.out]
  refine (nawake_any _).mono ?_
  rintro e w1 ⟨rfl, hb1⟩
  obtain ⟨q0, q1, q2, q3⟩ := Q.out w1 hb1
  have HB1 := Lib.hid hb1
  have HB1' := Lib.hid (bt HB0.out hb1)
  clear hb1
  go_wp2_with fail
  refine (few_any lf ka va ia kl kc vl vc il ic ks vs _ (HK.out.below HB1'.out) (HV.out.below HB1'.out) hil).mono ?_
  rintro e w2 ⟨b, rfl, hb2⟩
  have HB2 := Lib.hid (bt HB1.out hb2)
  have HB2' := Lib.hid (bt HB1'.out hb2)
  clear hb2 q0 q1 q2 q3
  cases b with
  | false =>
    go_wp2_with fail
    refine (nawake_any _).mono ?_
    rintro e w3 ⟨rfl, hb3⟩
    have HB3' := Lib.hid (bt HB2'.out hb3)
    clear hb3
    go_wp2
    go_ret
    exact ⟨rfl, HB3'.out⟩
  | true =>
    obtain ⟨q0, q1, q2, q3⟩ := Q.out w2 HB2.out
    go_wp2_with fail
    refine (find_any lf ka kl kc va ia vl vc il ic ks a len cap key _ (HK.out.below HB2'.out) (HI.out.below HB2'.out HA.out) HN.out (fun x hx hy => Nat.lt_of_lt_of_le (HA.out x hx hy) HB2'.out.size)).mono ?_
    rintro e w3 ⟨rfl, hb3⟩
    have HB3 := Lib.hid (bt HB2.out hb3)
    have HB3' := Lib.hid (bt HB2'.out hb3)
    clear hb3 q0 q1 q2 q3
    obtain ⟨q0, q1, q2, q3⟩ := Q.out w3 HB3.out
    go_wp2_with fail
    refine (rfind_any lf ka kl kc va ia vl vc il ic ks a len cap key _ (HK.out.below HB3'.out) (HI.out.below HB3'.out HA.out) HN.out (fun x hx hy => Nat.lt_of_lt_of_le (HA.out x hx hy) HB3'.out.size)).mono ?_
    rintro e w4 ⟨rfl, hb4⟩
    have HB4' := Lib.hid (bt HB3'.out hb4)
    clear hb4 q0 q1 q2 q3
    generalize belowK ks key = m
    generalize hitK ks key = h
    go_wp2
    go_ret
    exact ⟨rfl, HB4'.out⟩
end Go.Proofs.Ytmackldddhfmjaa
