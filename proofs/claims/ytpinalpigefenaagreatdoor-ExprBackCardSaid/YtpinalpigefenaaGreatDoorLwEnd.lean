/- The lexer's end, step: any. -/
import Derived.Test.YtpinalpigefenaaGreatDoorLwNum
namespace Go.Proofs.YtpinalpigefenaaGreatDoor
open Go.RowKit Go.Lib
set_option linter.unusedVariables false
set_option linter.unusedSimpArgs false
set_option maxRecDepth 100000

theorem RSt.low {s : ByteArray} {w : World} {N : Nat} {ws : List Wd} {md start : Int} (h : RSt s w N ws md start) : N < w.heap.size := by
  obtain ⟨v, h⟩ := h; exact h.low
theorem RSt.below {s : ByteArray} {w w' : World} {N : Nat} {ws : List Wd} {md start : Int} (h : RSt s w N ws md start) (hb : Below w.heap.size w w') : RSt s w' N ws md start := by
  obtain ⟨v, h⟩ := h; exact ⟨v, h.below hb⟩
theorem AddP.stay {s : ByteArray} {w w' : World} {N : Nat} {start : Int} {ws : List Wd} (h : RSt s w' N ws 0 start) (hk : Kp N w w') : AddP s w N start (.ok ws) (.returned (.int .i64 0)) w' := ⟨rfl, h, hk⟩
set_option maxHeartbeats 6400000 in
theorem end_any (s : ByteArray) (w : World) (N : Nat) (ws : List Wd) (md start pos : Nat) (h : RSt s w N ws md start) (hmd : md ≤ 6) (h1 : start ≤ pos) (h2 : pos ≤ s.size) (hs : s.size ≤ 4000) (hl : ws.length ≤ 600) (hD : md = 2 → allD (curOf s start pos) = true ∧ curOf s start pos ≠ []) (hQ : md = 4 → 2 ≤ (curOf s start pos).length) (hv : VOk w) (hN : gMax < N ∧ gErr < N) :
    Calls Tryz.prog 93 #[.pointer (some ⟨N, 0, none⟩), .int .i64 (pos : Int)] w (AddP s w N start (endM md (curOf s start pos) ws)) := by
  obtain ⟨v, h⟩ := h
  have HH := Lib.hid h
  have HV := Lib.hid hv
  have HD := Lib.hid hD
  have HQ := Lib.hid hQ
  have f0 := fun k => (h.drew k).facts.1.1
  have f2 := fun k => (h.drew k).facts.1.2.2.1
  have f3 := fun k => (h.drew k).facts.1.2.2.2
  obtain ⟨⟨g0, _, g2, g3⟩, fz⟩ := h.facts
  have hsl := run_slice_text s start pos h1 h2
  obtain ⟨S, hS⟩ : ∃ S, S = s.extract start pos := ⟨_, rfl⟩
  have HSe := Lib.hid (show curOf s start pos = S.data.toList by rw [hS]; exact (curOf_extract s start pos).symm)
  have hS4 : S.size ≤ 4000 := by
    have e : S.size = S.data.toList.length := by rw [Array.length_toList]; rfl
    rw [e, ← HSe.out]
    unfold curOf
    rw [List.length_drop, List.length_take, Array.length_toList]
    show min pos s.size - start ≤ 4000
    omega
  rw [HSe.out] at HD HQ ⊢
  rw [← hS] at hsl
  clear hS h hv hD hQ
  rcases (show md = 0 ∨ md = 1 ∨ md = 2 ∨ md = 3 ∨ md = 4 ∨ md = 5 ∨ md = 6 by omega) with rfl | rfl | rfl | rfl | rfl | rfl | rfl
  all_goals
    go_enter Tryz.func93, Tryz.ntmps93
    go_upto_region 1 with (fail)
    go_quiet (fail)
    obtain ⟨w1, hw1⟩ : ∃ w1, w1 = w.drewN nq := ⟨_, rfl⟩
    rw [← hw1]
    have HB1 := Lib.hid (show Below w.heap.size w w1 by rw [hw1]; exact drewB w nq)
    have hst1 : RSt s w1 N ws _ start := ⟨v, by rw [hw1]; exact HH.out.drew nq⟩
    obtain ⟨v1, hst1⟩ := hst1
    have HS1 := Lib.hid hst1
    clear hw1 f0 f2 f3 g0 g2 g3 fz hsl hst1
    obtain ⟨⟨g0, _, g2, g3⟩, fz⟩ := HS1.out.facts
    have hst2 := HS1.out.stateN 0
    obtain ⟨W, hW⟩ : ∃ W, W = w1.setCell ⟨N, 2, none⟩ (.int .i64 0) := ⟨_, rfl⟩
    rw [← hW] at hst2
    have H2 := Lib.hid (show RSt s W N ws 0 start from ⟨v1, hst2.1⟩)
    have HK := Lib.hid (show Kp N w W from (Kp.below (Nat.le_of_lt HH.out.low) HB1.out).trans hst2.2)
    have HW := Lib.hid hW
    have HV2 := Lib.hid (HV.out.below HK.out.1 hN)
    clear hst2 hW
    go_upto_region 3 with (fail)
    rw [← HW.out]
    clear g0 g2 g3 fz HW
  · go_wp2
    go_ret
    exact AddP.stay H2.out HK.out
  · have HR := Lib.hid (fun (W' : World) => runes_any S W' (by omega))
    have hrl := Lib.runeCount_le S
    obtain ⟨q, hq⟩ : ∃ q, q = Lib.runeCount S := ⟨_, rfl⟩
    rw [← hq] at HR hrl
    have HE := Lib.hid (show endM 1 S.data.toList ws = if 16 < q then .no eS else addM ws (1, S.data.toList, 0) by
      simp only [endM]
      rw [Lib.runeCountL_eq, ← hq])
    have HAd := Lib.hid (fun (W : World) (hS : RSt s W N ws 0 start) => add_full s W N ws start 1 S 0 hS hl)
    clear hq
    by_cases h16 : 16 < q
    · have h16i : (16 : Int) < (q : Int) := by omega
      have HG := Lib.hid (HE.out.trans (if_pos h16))
      clear h16
      go_wp2_with fail
      refine (HR.out _).mono ?_
      rintro e w3 ⟨rfl, p, hw⟩
      have HB3 := Lib.hid (show Below W.heap.size W w3 by rw [hw]; exact bel0 _ (Below.refl _ _))
      clear hw
      go_wp2
      go_ret
      rw [HG.out]
      exact ⟨rfl, HK.out.trans (Kp.below (Nat.le_of_lt H2.out.low) HB3.out)⟩
    · have h16i : (q : Int) ≤ 16 := by omega
      have HG := Lib.hid (HE.out.trans (if_neg h16))
      clear h16
      go_wp2_with fail
      refine (HR.out _).mono ?_
      rintro e w3 ⟨rfl, p, hw⟩
      have HB3 := Lib.hid (show Below W.heap.size W w3 by rw [hw]; exact bel0 _ (Below.refl _ _))
      clear hw
      go_wp2_with fail
      refine (HAd.out _ (H2.out.below HB3.out)).mono ?_
      rintro e w4 hp
      have HP := Lib.hid ((hp.later (Kp.below (Nat.le_of_lt H2.out.low) HB3.out)).later HK.out)
      obtain ⟨c, rfl⟩ := hp.code
      clear hp
      go_wp2
      go_ret
      rw [HG.out]
      exact HP.out
  · go_wp2_with fail
    refine (addnum_any s _ N ws start S H2.out hl (HD.out (by first | rfl | trivial)).1 (HD.out (by first | rfl | trivial)).2 hS4 HV2.out).mono ?_
    rintro e w4 hp
    have HP := Lib.hid (hp.later HK.out)
    obtain ⟨c, rfl⟩ := hp.code
    clear hp
    go_wp2
    go_ret
    exact HP.out
  · go_wp2
    go_ret
    exact ⟨rfl, HK.out⟩
  · have hS2 := HQ.out (by first | rfl | trivial)
    have hlen : S.data.toList.length = S.size := by rw [Array.length_toList]; rfl
    have hS2' : (2 : Int) ≤ (S.size : Int) := by omega
    have hS4i : (S.size : Int) ≤ 4000 := by omega
    have hsl2 : ∀ W, (Instr.slice 9 (.string S) (some (.int .i64 1)) (some (.int .i64 ((S.size : Int) - 1))) none).run Tryz.prog W = .ok (.string (S.extract 1 (S.size - 1))) W := fun W => by
      have := run_slice_text S 1 (S.size - 1) (by omega) (by omega) W
      rw [show ((S.size - 1 : Nat) : Int) = (S.size : Int) - 1 by omega] at this
      exact this
    obtain ⟨T, hT⟩ : ∃ T, T = S.extract 1 (S.size - 1) := ⟨_, rfl⟩
    have hTl : T.data.toList = (S.data.toList.drop 1).dropLast := by
      rw [hT, Lib.extract_data, List.dropLast_eq_take, List.length_drop, hlen]
    have hT4 : T.size ≤ 4000 := by
      have e : T.size = T.data.toList.length := by rw [Array.length_toList]; rfl
      rw [e, hTl, List.length_dropLast, List.length_drop]
      omega
    rw [← hT] at hsl2
    have HAt := Lib.hid (addtext_any s _ N ws start T H2.out hl hT4 HV2.out)
    rw [hTl] at HAt
    clear hT hTl hS2 hlen
    go_wp2_with fail
    refine HAt.out.mono ?_
    rintro e w4 hp
    have HP := Lib.hid (hp.later HK.out)
    obtain ⟨c, rfl⟩ := hp.code
    clear hp hsl2
    go_wp2
    go_ret
    exact HP.out
  · go_wp2_with fail
    refine (add_full s _ N ws start 4 S 0 H2.out hl).mono ?_
    rintro e w4 hp
    have HP := Lib.hid (hp.later HK.out)
    obtain ⟨c, rfl⟩ := hp.code
    clear hp
    go_wp2
    go_ret
    exact HP.out
  · go_wp2
    go_ret
    exact AddP.stay H2.out HK.out
end Go.Proofs.YtpinalpigefenaaGreatDoor
