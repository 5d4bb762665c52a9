/- The words of a text, in memory, as the taker wants them. -/
import Derived.Test.YtknhphcfcpjhiaaGreatDoorLwNum
import Derived.Test.YtknhphcfcpjhiaaGreatDoorTkFin
import Derived.Test.YtknhphcfcpjhiaaGreatDoorLwAgain
namespace Go.Proofs.YtknhphcfcpjhiaaGreatDoor
open Go.RowKit Go.Lib
set_option linter.unusedVariables false
set_option linter.unusedSimpArgs false
set_option maxRecDepth 100000

theorem RSt.low {s : ByteArray} {w : World} {N : Nat} {ws : List Wd} {md start : Int} (h : RSt s w N ws md start) : N < w.heap.size := by
  obtain ⟨v, h⟩ := h; exact h.low
theorem RSt.below {s : ByteArray} {w w' : World} {N : Nat} {ws : List Wd} {md start : Int} (h : RSt s w N ws md start) (hb : Below w.heap.size w w') : RSt s w' N ws md start := by
  obtain ⟨v, h⟩ := h; exact ⟨v, h.below hb⟩
theorem AddP.stay {s : ByteArray} {w w' : World} {N : Nat} {start : Int} {ws : List Wd} (h : RSt s w' N ws 0 start) (hk : Kp N w w') : AddP s w N start (.ok ws) (.returned (.int .i64 0)) w' := ⟨rfl, h, hk⟩
set_option maxHeartbeats 6400000 in
theorem end_any (s : ByteArray) (w : World) (N : Nat) (ws : List Wd) (md start pos : Nat) (h : RSt s w N ws md start) (hmd : md ≤ 6) (h1 : start ≤ pos) (h2 : pos ≤ s.size) (hs : s.size ≤ 4000) (hl : ws.length ≤ 600) (hD : md = 2 → allD (curOf s start pos) = true ∧ curOf s start pos ≠ []) (hQ : md = 4 → 2 ≤ (curOf s start pos).length) (hv : VOk w) (hN : gMax < N ∧ gErr < N) :
    Calls Tryz.prog 47 #[.pointer (some ⟨N, 0, none⟩), .int .i64 (pos : Int)] w (AddP s w N start (endM md (curOf s start pos) ws)) := by
  obtain ⟨v, h⟩ := h
  have HH := Lib.hid h
  have HV := Lib.hid hv
  have HD := Lib.hid hD
  have HQ := Lib.hid hQ
  have f0 := fun k => (h.drew k).facts.1.1
  have f2 := fun k => (h.drew k).facts.1.2.2.1
  have f3 := fun k => (h.drew k).facts.1.2.2.2
  obtain ⟨⟨g0, _, g2, g3⟩, fz⟩ := h.facts
  have hsl := run_slice_text s start pos h1 h2
  obtain ⟨S, hS⟩ : ∃ S, S = s.extract start pos := ⟨_, rfl⟩
  have HSe := Lib.hid (show curOf s start pos = S.data.toList by rw [hS]; exact (curOf_extract s start pos).symm)
  have hS4 : S.size ≤ 4000 := by
    have e : S.size = S.data.toList.length := by rw [Array.length_toList]; rfl
    rw [e, ← HSe.out]
    unfold curOf
    rw [List.length_drop, List.length_take, Array.length_toList]
    show min pos s.size - start ≤ 4000
    omega
  rw [HSe.out] at HD HQ ⊢
  rw [← hS] at hsl
  clear hS h hv hD hQ
  rcases (show md = 0 ∨ md = 1 ∨ md = 2 ∨ md = 3 ∨ md = 4 ∨ md = 5 ∨ md = 6 by omega) with rfl | rfl | rfl | rfl | rfl | rfl | rfl
  all_goals
    go_enter Tryz.func47, Tryz.ntmps47
    go_upto_region 1 with (fail)
    go_quiet (fail)
    obtain ⟨w1, hw1⟩ : ∃ w1, w1 = w.drewN nq := ⟨_, rfl⟩
    rw [← hw1]
    have HB1 := Lib.hid (show Below w.heap.size w w1 by rw [hw1]; exact drewB w nq)
    have hst1 : RSt s w1 N ws _ start := ⟨v, by rw [hw1]; exact HH.out.drew nq⟩
    obtain ⟨v1, hst1⟩ := hst1
    have HS1 := Lib.hid hst1
    clear hw1 f0 f2 f3 g0 g2 g3 fz hsl hst1
    obtain ⟨⟨g0, _, g2, g3⟩, fz⟩ := HS1.out.facts
    have hst2 := HS1.out.stateN 0
    obtain ⟨W, hW⟩ : ∃ W, W = w1.setCell ⟨N, 2, none⟩ (.int .i64 0) := ⟨_, rfl⟩
    rw [← hW] at hst2
    have H2 := Lib.hid (show RSt s W N ws 0 start from ⟨v1, hst2.1⟩)
    have HK := Lib.hid (show Kp N w W from (Kp.below (Nat.le_of_lt HH.out.low) HB1.out).trans hst2.2)
    have HW := Lib.hid hW
    have HV2 := Lib.hid (HV.out.below HK.out.1 hN)
    clear hst2 hW
    go_upto_region 3 with (fail)
    rw [← HW.out]
    clear g0 g2 g3 fz HW
  · go_wp2
    go_ret
    exact AddP.stay H2.out HK.out
  · have HR := Lib.hid (fun (W' : World) => runes_any S W' (by omega))
    have hrl := Lib.runeCount_le S
    obtain ⟨q, hq⟩ : ∃ q, q = Lib.runeCount S := ⟨_, rfl⟩
    rw [← hq] at HR hrl
    have HE := Lib.hid (show endM 1 S.data.toList ws = if 16 < q then .no eS else addM ws (1, S.data.toList, 0) by
      simp only [endM]
      rw [Lib.runeCountL_eq, ← hq])
    have HAd := Lib.hid (fun (W : World) (hS : RSt s W N ws 0 start) => add_full s W N ws start 1 S 0 hS hl)
    clear hq
    by_cases h16 : 16 < q
    · have h16i : (16 : Int) < (q : Int) := by omega
      have HG := Lib.hid (HE.out.trans (if_pos h16))
      clear h16
      go_wp2_with fail
      refine (HR.out _).mono ?_
      rintro e w3 ⟨rfl, p, hw⟩
      have HB3 := Lib.hid (show Below W.heap.size W w3 by rw [hw]; exact bel0 _ (Below.refl _ _))
      clear hw
      go_wp2
      go_ret
      rw [HG.out]
      exact ⟨rfl, HK.out.trans (Kp.below (Nat.le_of_lt H2.out.low) HB3.out)⟩
    · have h16i : (q : Int) ≤ 16 := by omega
      have HG := Lib.hid (HE.out.trans (if_neg h16))
      clear h16
      go_wp2_with fail
      refine (HR.out _).mono ?_
      rintro e w3 ⟨rfl, p, hw⟩
      have HB3 := Lib.hid (show Below W.heap.size W w3 by rw [hw]; exact bel0 _ (Below.refl _ _))
      clear hw
      go_wp2_with fail
      refine (HAd.out _ (H2.out.below HB3.out)).mono ?_
      rintro e w4 hp
      have HP := Lib.hid ((hp.later (Kp.below (Nat.le_of_lt H2.out.low) HB3.out)).later HK.out)
      obtain ⟨c, rfl⟩ := hp.code
      clear hp
      go_wp2
      go_ret
      rw [HG.out]
      exact HP.out
  · go_wp2_with fail
    refine (addnum_any s _ N ws start S H2.out hl (HD.out (by first | rfl | trivial)).1 (HD.out (by first | rfl | trivial)).2 hS4 HV2.out).mono ?_
    rintro e w4 hp
    have HP := Lib.hid (hp.later HK.out)
    obtain ⟨c, rfl⟩ := hp.code
    clear hp
    go_wp2
    go_ret
    exact HP.out
  · go_wp2
    go_ret
    exact ⟨rfl, HK.out⟩
  · have hS2 := HQ.out (by first | rfl | trivial)
    have hlen : S.data.toList.length = S.size := by rw [Array.length_toList]; rfl
    have hS2' : (2 : Int) ≤ (S.size : Int) := by omega
    have hS4i : (S.size : Int) ≤ 4000 := by omega
    have hsl2 : ∀ W, (Instr.slice 9 (.string S) (some (.int .i64 1)) (some (.int .i64 ((S.size : Int) - 1))) none).run Tryz.prog W = .ok (.string (S.extract 1 (S.size - 1))) W := fun W => by
      have := run_slice_text S 1 (S.size - 1) (by omega) (by omega) W
      rw [show ((S.size - 1 : Nat) : Int) = (S.size : Int) - 1 by omega] at this
      exact this
    obtain ⟨T, hT⟩ : ∃ T, T = S.extract 1 (S.size - 1) := ⟨_, rfl⟩
    have hTl : T.data.toList = (S.data.toList.drop 1).dropLast := by
      rw [hT, Lib.extract_data, List.dropLast_eq_take, List.length_drop, hlen]
    have hT4 : T.size ≤ 4000 := by
      have e : T.size = T.data.toList.length := by rw [Array.length_toList]; rfl
      rw [e, hTl, List.length_dropLast, List.length_drop]
      omega
    rw [← hT] at hsl2
    have HAt := Lib.hid (addtext_any s _ N ws start T H2.out hl hT4 HV2.out)
    rw [hTl] at HAt
    clear hT hTl hS2 hlen
    go_wp2_with fail
    refine HAt.out.mono ?_
    rintro e w4 hp
    have HP := Lib.hid (hp.later HK.out)
    obtain ⟨c, rfl⟩ := hp.code
    clear hp hsl2
    go_wp2
    go_ret
    exact HP.out
  · go_wp2_with fail
    refine (add_full s _ N ws start 4 S 0 H2.out hl).mono ?_
    rintro e w4 hp
    have HP := Lib.hid (hp.later HK.out)
    obtain ⟨c, rfl⟩ := hp.code
    clear hp
    go_wp2
    go_ret
    exact HP.out
  · go_wp2
    go_ret
    exact AddP.stay H2.out HK.out
end Go.Proofs.YtknhphcfcpjhiaaGreatDoor
namespace Go.Proofs.YtknhphcfcpjhiaaGreatDoor
open Go.RowKit Go.Lib
set_option linter.unusedVariables false
set_option linter.unusedSimpArgs false
set_option maxRecDepth 100000

/-- what is always so of a reader -/
structure Inv (x : Rd) : Prop where
  md : x.1 ≤ 6
  ws : x.2.2.length ≤ 600
  num : x.1 = 2 → allD x.2.1 = true ∧ x.2.1 ≠ []
  quo : x.1 = 4 → 2 ≤ x.2.1.length
  txt : x.1 = 3 → 1 ≤ x.2.1.length
theorem Inv.zero : Inv (0, [], []) := ⟨by simp, by simp, fun h => absurd (show (0 : Nat) = 2 from h) (by decide), fun h => absurd (show (0 : Nat) = 4 from h) (by decide), fun h => absurd (show (0 : Nat) = 3 from h) (by decide)⟩
theorem end_most {md : Nat} {cur : Bs} {ws Y : List Wd} (h : endM md cur ws = .ok Y) (hl : ws.length ≤ 600) : Y.length ≤ 600 := by
  have := run_most 0 md cur ws [] Y (by simp) (by rw [run_nil]; exact h) hl
  exact this
theorem goes_mode {md : Nat} {cur : Bs} {r m : Nat} (h : goes md cur r = some m) (hmd : md ≤ 6) : m ≤ 6 ∧ (m = 2 → md = 2 ∧ digL r = true) ∧ (m = 4 → md = 3) ∧ (m = 3 → md = 3 ∨ md = 4) := by
  unfold goes at h
  split at h
  · split at h <;> cases h; simp
  · split at h
    · rename_i hd
      cases h
      exact ⟨by decide, fun _ => ⟨rfl, hd⟩, fun h => absurd h (by decide), fun h => absurd h (by decide)⟩
    · cases h
  · simp only [Option.some.injEq] at h
    subst h
    split
    · exact ⟨by decide, fun h => absurd h (by decide), fun _ => rfl, fun h => absurd h (by decide)⟩
    · exact ⟨by decide, fun h => absurd h (by decide), fun h => absurd h (by decide), fun _ => .inl rfl⟩
  · split at h
    · cases h
      exact ⟨by decide, fun h => absurd h (by decide), fun h => absurd h (by decide), fun _ => .inr rfl⟩
    · cases h
  · split at h
    · cases h; simp
    · split at h
      · cases h; simp
      · cases h
  · split at h
    · cases h
    · cases h; simp
  · cases h
theorem begin_mode {r m : Nat} (h : beginM r = .ok m) : m ≤ 6 ∧ (m = 2 → digL r = true) ∧ m ≠ 4 := by
  unfold beginM at h
  split at h
  · cases h; exact ⟨by decide, fun h => absurd h (by decide), by decide⟩
  · split at h
    · cases h; exact ⟨by decide, fun h => absurd h (by decide), by decide⟩
    · split at h
      · rename_i hd
        cases h; exact ⟨by decide, fun _ => hd, by decide⟩
      · split at h
        · cases h; exact ⟨by decide, fun h => absurd h (by decide), by decide⟩
        · split at h
          · cases h; exact ⟨by decide, fun h => absurd h (by decide), by decide⟩
          · cases h
theorem dig_chunk {l : Bs} (hl : l ≠ []) (h : digL (decodeL l).1 = true) : allD (l.take (decodeL l).2) = true := by
  cases l with
  | nil => exact absurd rfl hl
  | cons b t =>
    have hb := dig_byte h
    rw [dec_low b t hb] at h ⊢
    unfold allD
    simpa using h
theorem Inv.step {x y : Rd} {l : Bs} (h : Inv x) (hl : l ≠ []) (hs : stepM x (decodeL l).1 (l.take (decodeL l).2) = .ok y) : Inv y := by
  have hw := dec_wd l hl
  have hcl : 1 ≤ (l.take (decodeL l).2).length := by rw [List.length_take]; omega
  obtain ⟨md, cur, ws⟩ := x
  unfold stepM at hs
  simp only at hs
  split at hs
  · cases hs
  · cases hg : goes md cur (decodeL l).1 with
    | some m =>
      simp only [hg] at hs
      cases hs
      have hm := goes_mode hg h.md
      refine ⟨hm.1, h.ws, fun e => ?_, fun e => ?_, fun e => ?_⟩
      · obtain ⟨e2, hd⟩ := hm.2.1 e
        have hn := h.num e2
        refine ⟨?_, fun e3 => ?_⟩
        · show allD (cur ++ _) = true
          have h1 := dig_chunk hl hd
          have h2 : allD cur = true := hn.1
          unfold allD at h1 h2 ⊢
          rw [List.all_append, h1, h2]; rfl
        · have := congrArg List.length (show cur ++ l.take (decodeL l).2 = [] from e3)
          rw [List.length_append] at this
          simp only [List.length_nil] at this
          omega
      · have := h.txt (hm.2.2.1 e)
        show 2 ≤ (cur ++ _).length
        rw [List.length_append]
        have : 1 ≤ cur.length := this
        omega
      · show 1 ≤ (cur ++ _).length
        rw [List.length_append]
        omega
    | none =>
      cases he : endM md cur ws with
      | no e => simp only [hg, he, An.bind] at hs; cases hs
      | ok W =>
        cases hb : beginM (decodeL l).1 with
        | no e => simp only [hg, he, hb, An.bind] at hs; cases hs
        | ok m =>
          simp only [hg, he, hb, An.bind] at hs
          cases hs
          have hm := begin_mode hb
          refine ⟨hm.1, end_most he h.ws, fun e => ⟨dig_chunk hl (hm.2.1 e), fun e3 => ?_⟩, fun e => absurd e hm.2.2, fun e => hcl⟩
          have := congrArg List.length (show l.take (decodeL l).2 = [] from e3)
          simp only [List.length_nil] at this
          omega
theorem cur_more (s : ByteArray) {start pos n : Nat} (h : start ≤ pos) (h2 : pos ≤ s.size) : curOf s start (pos + n) = curOf s start pos ++ (s.data.toList.drop pos).take n := by
  unfold curOf
  rw [List.take_add, List.drop_append_of_le_length]
  rw [List.length_take, Array.length_toList]
  show start ≤ min pos s.size
  omega
theorem cur_new (s : ByteArray) {pos n : Nat} : curOf s pos (pos + n) = (s.data.toList.drop pos).take n := by
  unfold curOf
  rw [List.drop_take]
  congr 1
  omega
/-- where a reader is, as the machine has it -/
def RAt (s : ByteArray) (w : World) (N pos : Nat) (x : Rd) : Prop := ∃ start : Nat, RSt s w N x.2.2 x.1 start ∧ start ≤ pos ∧ x.2.1 = curOf s start pos
/-- what step answers -/
def StepP (s : ByteArray) (w : World) (N pos : Nat) (o : An Rd) (e : Ending) (w' : World) : Prop :=
  match o with
  | .ok y => e = .returned (.int .i64 0) ∧ RAt s w' N pos y ∧ Kp N w w'
  | .no x => e = .returned (.int .i64 x) ∧ x ≠ 0 ∧ Kp N w w'
theorem add_no {ws : List Wd} {x : Wd} {e : Int} (h : addM ws x = .no e) : e ≠ 0 := by
  unfold addM at h
  split at h
  · cases h; decide
  · cases h
theorem end_no {md : Nat} {cur : Bs} {ws : List Wd} {e : Int} (h : endM md cur ws = .no e) : e ≠ 0 := by
  unfold endM at h
  split at h
  · split at h
    · cases h; decide
    · exact add_no h
  · unfold numM at h
    split at h
    · exact add_no h
    · cases h; decide
  · cases h; decide
  · unfold textM at h
    split at h
    · cases h; decide
    · exact add_no h
  · exact add_no h
  · cases h
theorem begin_no {r : Nat} {e : Int} (h : beginM r = .no e) : e = 3 := by
  unfold beginM at h
  split at h
  · cases h
  · split at h
    · cases h
    · split at h
      · cases h
      · split at h
        · cases h
        · split at h
          · cases h
          · cases h; rfl
set_option maxHeartbeats 6400000 in
theorem step_any (s : ByteArray) (w : World) (N pos : Nat) (x : Rd) (h : RAt s w N pos x) (hi : Inv x) (h2 : pos < s.size) (hs : s.size ≤ 4000) (hv : VOk w) (hN : gMax < N ∧ gErr < N) :
    Calls Tryz.prog 46 #[.pointer (some ⟨N, 0, none⟩), .int .i64 (pos : Int), .int .i32 ((decodeL (s.data.toList.drop pos)).1 : Int)] w (StepP s w N (pos + (decodeL (s.data.toList.drop pos)).2) (stepM x (decodeL (s.data.toList.drop pos)).1 ((s.data.toList.drop pos).take (decodeL (s.data.toList.drop pos)).2))) := by
  obtain ⟨md, cur, ws⟩ := x
  obtain ⟨start, hst, hsp, hcur⟩ := h
  simp only at hst hcur
  subst hcur
  have hcl : (decodeL (s.data.toList.drop pos)).1 ≤ 1114111 := Lib.decodeL_rune _
  have HM := Lib.hid (cur_more s (n := (decodeL (s.data.toList.drop pos)).2) hsp (Nat.le_of_lt h2))
  have HNw := Lib.hid (cur_new s (pos := pos) (n := (decodeL (s.data.toList.drop pos)).2))
  generalize (s.data.toList.drop pos).take (decodeL (s.data.toList.drop pos)).2 = ch at *
  generalize (decodeL (s.data.toList.drop pos)).1 = c at *
  generalize (decodeL (s.data.toList.drop pos)).2 = n at *
  obtain ⟨v, hst⟩ := hst
  have HH := Lib.hid hst
  have HI := Lib.hid hi
  have HV := Lib.hid hv
  have hmd : md ≤ 6 := hi.md
  have hwl : ws.length ≤ 600 := hi.ws
  obtain ⟨⟨f0, f1, f2, f3⟩, fz⟩ := hst.facts
  clear hst hi hv
  go_enter Tryz.func46, Tryz.ntmps46
  go_upto_region 1 with (fail)
  go_cut [16] (fun t wx => t = .bool (decide (md = 2) && letL c) ∧ wx = w)
  case first =>
    by_cases h2d : md = 2
    · subst h2d
      go_wp2_with fail
      refine (letter_any _ _).mono ?_
      rintro e w1 ⟨rfl, hw⟩
      subst hw
      go_wp2
      go_meet
      exact ⟨rfl, rfl⟩
    · have hmb : ((md : Int) == 2) = false := beq_eq_false_iff_ne.2 (by omega)
      have hdf : decide (md = 2) = false := decide_eq_false h2d
      clear h2d
      go_wp2
      go_meet
      exact ⟨by rw [hdf]; rfl, rfl⟩
  case rest =>
    obtain ⟨rfl, rfl⟩ := hcut
    cases hb : (decide (md = 2) && letL c) with
    | true =>
      have HG := Lib.hid (show stepM (md, curOf s start pos, ws) c ch = .no eS by
        unfold stepM
        rw [Bool.and_eq_true, decide_eq_true_eq] at hb
        rw [if_pos hb])
      clear hb f0 f1 f2 f3 fz
      go_wp2
      go_ret
      rw [HG.out]
      exact ⟨rfl, by decide, Kp.refl _ _⟩
    | false =>
      have HG := Lib.hid (show stepM (md, curOf s start pos, ws) c ch = match goes md (curOf s start pos) c with
          | some m => .ok (m, curOf s start pos ++ ch, ws)
          | none => (endM md (curOf s start pos) ws).bind fun ws => (beginM c).bind fun m => .ok (m, ch, ws) by
        unfold stepM
        rw [if_neg (by simpa [Bool.and_eq_false_iff] using hb)]
        simp only
        cases goes md (curOf s start pos) c <;> rfl)
      clear hb f0 f1 f2 f3 fz
      go_wp2_with fail
      refine (goes_any s _ N v ws.length (wsX ws) md start pos c HH.out hmd hsp (by omega)).mono ?_
      rintro e w1 ⟨rfl, hs1, hk1⟩
      cases hg : goes md (curOf s start pos) c with
      | some m =>
        have HE := Lib.hid (show stepM (md, curOf s start pos, ws) c ch = .ok (m, curOf s start pos ++ ch, ws) by rw [HG.out, hg])
        have HS1 := Lib.hid (show LSt s w1 N v ws.length (wsX ws) (m : Nat) start by rw [hg] at hs1; exact hs1)
        have HK1 := Lib.hid hk1
        clear hg hs1 hk1 HG
        go_wp2
        go_ret
        rw [HE.out]
        exact ⟨rfl, ⟨start, ⟨v, HS1.out⟩, by omega, HM.out.symm⟩, HK1.out⟩
      | none =>
        have HE := Lib.hid (show stepM (md, curOf s start pos, ws) c ch = (endM md (curOf s start pos) ws).bind fun ws => (beginM c).bind fun m => .ok (m, ch, ws) by rw [HG.out, hg])
        have HS1 := Lib.hid (show LSt s w1 N v ws.length (wsX ws) (md : Nat) start by rw [hg] at hs1; exact hs1)
        have HK1 := Lib.hid hk1
        clear hg hs1 hk1 HG
        go_wp2_with fail
        refine (end_any s w1 N ws md start pos ⟨v, HS1.out⟩ hmd hsp (by omega) hs hwl HI.out.num HI.out.quo (HV.out.below HK1.out.1 hN) hN).mono ?_
        rintro e w2 hp
        cases he : endM md (curOf s start pos) ws with
        | no y =>
          rw [he] at hp
          obtain ⟨rfl, hk2⟩ := hp
          have HK2 := Lib.hid (HK1.out.trans hk2)
          have hy := end_no he
          have hyb : (y != 0) = true := bne_iff_ne.2 hy
          have HY := Lib.hid hy
          have HF := Lib.hid (show stepM (md, curOf s start pos, ws) c ch = .no y by rw [HE.out, he]; rfl)
          clear he hk2 hy
          go_wp2
          go_ret
          rw [HF.out]
          exact ⟨rfl, HY.out, HK2.out⟩
        | ok ws2 =>
          rw [he] at hp
          obtain ⟨rfl, ⟨v2, hs2⟩, hk2⟩ := hp
          have HS2 := Lib.hid hs2
          have HK2 := Lib.hid (HK1.out.trans hk2)
          have HF := Lib.hid (show stepM (md, curOf s start pos, ws) c ch = (beginM c).bind fun m => .ok (m, ch, ws2) by rw [HE.out, he]; rfl)
          clear he hk2 hs2 HE
          go_wp2_with fail
          refine (begin_any s w2 N v2 ws2.length (wsX ws2) 0 start pos c HS2.out hcl).mono ?_
          rintro e w3 hp
          cases hb : beginM c with
          | no y =>
            rw [hb] at hp
            obtain ⟨rfl, hk3⟩ := hp
            have HK3 := Lib.hid (HK2.out.trans hk3)
            have HY := Lib.hid (begin_no hb)
            have HL := Lib.hid (show stepM (md, curOf s start pos, ws) c ch = .no y by rw [HF.out, hb]; rfl)
            clear hb hk3
            go_wp2
            go_ret
            rw [HL.out]
            exact ⟨rfl, by rw [HY.out]; decide, HK3.out⟩
          | ok m =>
            rw [hb] at hp
            obtain ⟨rfl, hs3, hk3⟩ := hp
            have HK3 := Lib.hid (HK2.out.trans hk3)
            have HS3 := Lib.hid hs3
            have HL := Lib.hid (show stepM (md, curOf s start pos, ws) c ch = .ok (m, ch, ws2) by rw [HF.out, hb]; rfl)
            clear hb hk3 hs3
            go_wp2
            go_ret
            rw [HL.out]
            exact ⟨rfl, ⟨pos, ⟨v2, HS3.out⟩, by omega, HNw.out.symm⟩, HK3.out⟩
end Go.Proofs.YtknhphcfcpjhiaaGreatDoor
namespace Go.Proofs.YtknhphcfcpjhiaaGreatDoor
open Go.RowKit Go.Lib
set_option linter.unusedVariables false
set_option linter.unusedSimpArgs false
set_option maxRecDepth 100000

/-- what Words answers: words in a row of the call's own, or an error -/
def WordsP (w : World) (o : An (List Wd)) (e : Ending) (w' : World) : Prop :=
  match o with
  | .ok ws => ∃ v, e = .returned (.tuple #[v, .int .i64 0]) ∧ w'.ownsRow w.heap.size 157 3 v ws.length (wsX ws) ∧ Below w.heap.size w w'
  | .no x => e = .returned (.tuple #[.slice none 0 0, .int .i64 x]) ∧ x ≠ 0 ∧ Below w.heap.size w w'
/-- the words of a text -/
def wordsA (l : Bs) : An (List Wd) := if 4000 < l.length then .no eL else run (0, [], []) l
/-- where the loop is -/
def WAt (s : ByteArray) (w wr : World) (pos : Nat) : Prop :=
  ∃ x, RAt s wr w.heap.size pos x ∧ Inv x ∧ pos ≤ s.size ∧ run x (s.data.toList.drop pos) = run (0, [], []) s.data.toList ∧ wr.heap[w.heap.size + 1]? = some (Obj.stringIter s pos) ∧ Below w.heap.size w wr
theorem LSt.iter {s : ByteArray} {w : World} {N : Nat} {v : Value} {n : Nat} {xs : List Value} {st start : Int} (h : LSt s w N v n xs st start) {k : Nat} {p : Nat} (hk : w.heap[k]? = some (Obj.stringIter s p)) (p' : Nat) : LSt s (w.iterAt k s p') N v n xs st start := by
  refine ⟨?_, h.own.1, ?_⟩
  · rw [Lib.iterAt_other _ _ _ _ _ (fun e => by have := h.rd; rw [e, hk] at this; cases this)]
    exact h.rd
  · rcases h.own.2 with h0 | ⟨g, cap, cur, hv, hb, hg, rest⟩
    · exact .inl h0
    · refine .inr ⟨g, cap, cur, hv, hb, ?_, rest⟩
      rw [Lib.iterAt_other _ _ _ _ _ (fun e => by subst e; rw [hk] at hg; cases hg)]
      exact hg
theorem al_two (w : World) (a b : Obj) : ((w.alloc a).alloc b).heap[w.heap.size]? = some a ∧ ((w.alloc a).alloc b).heap[w.heap.size + 1]? = some b := by
  have e : (w.alloc a).heap.size = w.heap.size + 1 := by simp
  have h1 : (w.alloc a).heap[w.heap.size]? = some a := by
    show (w.heap.push a)[w.heap.size]? = _
    exact Array.getElem?_push_size
  refine ⟨(Below.heap_alloc (w.alloc a) b w.heap.size (by omega)).trans h1, ?_⟩
  show ((w.alloc a).heap.push b)[w.heap.size + 1]? = _
  rw [← e]
  exact Array.getElem?_push_size
theorem len_list (s : ByteArray) : s.data.toList.length = s.size := by rw [Array.length_toList]; rfl
theorem own_lower1 {w : World} {B C n size : Nat} {e : TypeId} {v : Value} {xs : List Value} (h : w.ownsRow B e size v n xs) (hC : C ≤ B) : w.ownsRow C e size v n xs := by
  refine ⟨h.1, ?_⟩
  rcases h.2 with h0 | ⟨g, cap, cur, a, b, r⟩
  · exact .inl h0
  · exact .inr ⟨g, cap, cur, a, Nat.le_trans hC b, r⟩
set_option maxHeartbeats 6400000 in
theorem words_any (s : ByteArray) (w : World) (hv : VOk w) (hN : gMax < w.heap.size ∧ gErr < w.heap.size) (hsz : s.size ≤ 9223372036854775806) :
    Calls Tryz.prog 18 #[.string s] w (WordsP w (wordsA s.data.toList)) := by
  have HV := Lib.hid hv
  have HB0 := Lib.hid (Below.refl w.heap.size w)
  clear hv
  by_cases h4 : 4000 < s.size
  · have h4i : (4000 : Int) < (s.size : Int) := by omega
    have HA := Lib.hid (show wordsA s.data.toList = .no eL by unfold wordsA; rw [if_pos (by rw [len_list]; exact h4)])
    clear h4
    go_enter Tryz.func18, Tryz.ntmps18
    go_wp2
    go_ret2
    rw [HA.out]
    exact ⟨rfl, by decide, HB0.out⟩
  · have h4i : (s.size : Int) ≤ 4000 := by omega
    have hs4 : s.size ≤ 4000 := by omega
    have HA := Lib.hid (show wordsA s.data.toList = run (0, [], []) s.data.toList by unfold wordsA; rw [if_neg (by rw [len_list]; exact h4)])
    have H0 := Lib.hid (show WAt s w ((w.alloc (.cells #[.string s, .slice none 0 0, .int .i64 0, .int .i64 0] 104)).iter s 0) 0 from by
      have h2 := al_two w (.cells #[.string s, .slice none 0 0, .int .i64 0, .int .i64 0] 104) (Obj.stringIter s 0)
      exact ⟨(0, [], []), ⟨0, ⟨_, h2.1, World.ownsRow_nil _ _ _ _⟩, Nat.le_refl _, by simp [curOf]⟩, Inv.zero, Nat.zero_le _, by simp, h2.2, bel0 _ (bel0 _ (Below.refl _ _))⟩)
    clear h4
    go_enter Tryz.func18, Tryz.ntmps18
    go_wp2_with fail
    go_loopw [5] (fun _ wr => ∃ pos : Nat, Hid (WAt s w wr pos)) (fun _ wr => s.size - wr.iterPos (w.heap.size + 1))
    case atStart => exact ⟨0, H0⟩
    case round =>
      obtain ⟨pos, HI⟩ := hrel
      clear H0
      obtain ⟨x, hx, hinv, hps, hrun, hit, hbel⟩ := HI.out
      have HX := Lib.hid hx
      have HInv := Lib.hid hinv
      have HRun := Lib.hid hrun
      have HIt := Lib.hid hit
      have HBel := Lib.hid hbel
      have HIp := Lib.hid (show wr.iterPos (w.heap.size + 1) = pos by unfold World.iterPos; rw [hit])
      clear hx hinv hrun hit hbel
      by_cases hp : pos < s.size
      · have hne : s.data.toList.drop pos ≠ [] := fun e => by
          have := congrArg List.length e
          rw [List.length_drop, len_list] at this
          simp at this
          omega
        have hwd := dec_wd _ hne
        have HNe := Lib.hid hne
        have hdl := dec_list s pos
        have hstep := step_any s
        obtain ⟨W2, hW2⟩ : ∃ W2, W2 = wr.iterAt (w.heap.size + 1) s (pos + (decodeL (s.data.toList.drop pos)).2) := ⟨_, rfl⟩
        have hnx : ∀ ty, (Instr.next (.pointer (some ⟨w.heap.size + 1, 0, none⟩)) true ty).run Tryz.prog wr = .ok (.tuple #[.bool true, .int .i64 (pos : Int), .int .i32 ((decodeL (s.data.toList.drop pos)).1 : Int)]) W2 := fun ty => by
          rw [hW2, ← hdl]
          exact Lib.run_next_any_at wr (w.heap.size + 1) s pos ty HIt.out hp
        have hx2 : RAt s W2 w.heap.size pos x := by
          obtain ⟨start, ⟨v, h1⟩, h2, h3⟩ := HX.out
          rw [hW2]
          exact ⟨start, ⟨v, h1.iter HIt.out _⟩, h2, h3⟩
        have hi2 : W2.heap[w.heap.size + 1]? = some (Obj.stringIter s (pos + (decodeL (s.data.toList.drop pos)).2)) := by rw [hW2]; exact Lib.iterAt_heap _ _ _ _ _ HIt.out
        have hb2 : Below w.heap.size w W2 := by rw [hW2]; exact Lib.below_iterAt HBel.out (Nat.le_succ _) _ _
        have HSt := Lib.hid (step_any s W2 w.heap.size pos x hx2 HInv.out hp hs4 (HV.out.below hb2 hN) hN)
        have HI2 := Lib.hid hi2
        have HB2 := Lib.hid hb2
        have hlen : (s.data.toList.drop pos).length = s.size - pos := by rw [List.length_drop, len_list]
        have HRs := Lib.hid ((run_step x (s.data.toList.drop pos) hne).symm.trans HRun.out)
        have HIs := Lib.hid (fun y (hy : stepM x (decodeL (s.data.toList.drop pos)).1 ((s.data.toList.drop pos).take (decodeL (s.data.toList.drop pos)).2) = .ok y) => HInv.out.step hne hy)
        rw [List.drop_drop] at HRs
        generalize hch : (s.data.toList.drop pos).take (decodeL (s.data.toList.drop pos)).2 = ch at *
        generalize hcc : (decodeL (s.data.toList.drop pos)).1 = c at *
        generalize hnn : (decodeL (s.data.toList.drop pos)).2 = n at *
        have hpn : pos + n ≤ s.size := by omega
        have hn1 : 1 ≤ n := hwd.1
        clear hch hcc hnn hne hdl hx2 hi2 hb2 hstep hW2 hwd hlen
        go_wp2_with fail
        refine HSt.out.mono ?_
        rintro e w3 hst
        cases hs : stepM x c ch with
        | no y =>
          rw [hs] at hst
          obtain ⟨rfl, hy, hk⟩ := hst
          have hyb : (y != 0) = true := bne_iff_ne.2 hy
          have HY := Lib.hid hy
          have HF := Lib.hid (show run (0, [], []) s.data.toList = .no y by rw [← HRs.out, hs]; rfl)
          have HB3 := Lib.hid (HB2.out.trans hk.1)
          clear hs hy hk
          go_wp2
          go_ret2
          rw [HA.out, HF.out]
          exact ⟨rfl, HY.out, HB3.out⟩
        | ok y =>
          rw [hs] at hst
          obtain ⟨rfl, hr, hk⟩ := hst
          have HN := Lib.hid (show WAt s w w3 (pos + n) from ⟨y, hr, HIs.out y hs, hpn, by rw [hs] at HRs; exact HRs.out, hk.2 _ _ _ HI2.out, HB2.out.trans hk.1⟩)
          have HIp3 := Lib.hid (show w3.iterPos (w.heap.size + 1) = pos + n by unfold World.iterPos; rw [hk.2 _ _ _ HI2.out])
          clear hs hr hk
          go_wp2
          go_roundw
          case rel => exact ⟨pos + n, HN⟩
          case measure =>
            rw [HIp3.out, HIp.out]
            omega
      · have hnx : ∀ ty, (Instr.next (.pointer (some ⟨w.heap.size + 1, 0, none⟩)) true ty).run Tryz.prog wr = .ok (.tuple #[.bool false]) wr := fun ty => Lib.run_next_end_at wr (w.heap.size + 1) s pos ty HIt.out hp
        have hpe : pos = s.size := by omega
        obtain ⟨start, hst, hsp, hcur⟩ := HX.out
        have HSt := Lib.hid hst
        have HCur := Lib.hid hcur
        have hdr : s.data.toList.drop pos = [] := by rw [hpe]; exact List.drop_of_length_le (by rw [len_list]; exact Nat.le_refl _)
        have HE := Lib.hid (show endM x.1 x.2.1 x.2.2 = run (0, [], []) s.data.toList by rw [← HRun.out, hdr, run_nil])
        have hsz2 : s.size = pos := hpe.symm
        have HEnd := Lib.hid (show Calls Tryz.prog 47 #[.pointer (some ⟨w.heap.size, 0, none⟩), .int .i64 (s.size : Int)] wr (AddP s wr w.heap.size start (endM x.1 x.2.1 x.2.2)) from by
          rw [hcur, hsz2]
          exact end_any s wr w.heap.size x.2.2 x.1 start pos hst HInv.out.md hsp (by omega) hs4 HInv.out.ws (by rw [← hcur]; exact HInv.out.num) (by rw [← hcur]; exact HInv.out.quo) (HV.out.below HBel.out hN) hN)
        clear hst hcur hdr hpe hsz2 hp
        go_wp2_with fail
        refine HEnd.out.mono ?_
        rintro e w3 hp
        cases he : endM x.1 x.2.1 x.2.2 with
        | no y =>
          rw [he] at hp
          obtain ⟨rfl, hk⟩ := hp
          have hy := end_no he
          have hyb : (y != 0) = true := bne_iff_ne.2 hy
          have HY := Lib.hid hy
          have HF := Lib.hid (HE.out.symm.trans he)
          have HB3 := Lib.hid (HBel.out.trans hk.1)
          clear he hy hk
          go_wp2
          go_ret2
          rw [HA.out, HF.out]
          exact ⟨rfl, HY.out, HB3.out⟩
        | ok ws =>
          rw [he] at hp
          obtain ⟨rfl, ⟨v, hs3⟩, hk⟩ := hp
          have HS3 := Lib.hid hs3
          have HF := Lib.hid (HE.out.symm.trans he)
          have HB3 := Lib.hid (HBel.out.trans hk.1)
          obtain ⟨⟨g0, g1, g2, g3⟩, fz⟩ := hs3.facts
          clear he hk hs3
          go_wp2
          go_ret2
          rw [HA.out, HF.out]
          exact ⟨v, rfl, own_lower1 HS3.out.own (Nat.le_succ _), HB3.out⟩
end Go.Proofs.YtknhphcfcpjhiaaGreatDoor
namespace Go.Proofs.YtknhphcfcpjhiaaGreatDoor
open Go.RowKit
set_option linter.unusedVariables false
set_option linter.unusedSimpArgs false
set_option maxRecDepth 100000
theorem wsX_len3 (ws : List Wd) : (wsX ws).length = ws.length * 3 := by
  induction ws with
  | nil => rfl
  | cons x t ih =>
    show (wordX _ _ _ ++ wsX t).length = _
    rw [List.length_append, ih, List.length_cons]
    simp [wordX]
    omega
theorem wsX_at3 : ∀ (ws : List Wd) (i : Nat), i < ws.length → ∀ j, j < 3 → (wsX ws)[i * 3 + j]? = (wordX (wdAt ws i).1 (bs (wdAt ws i).2.1) (wdAt ws i).2.2)[j]?
  | [], i, h, _, _ => by simp at h
  | x :: t, 0, h, j, hj => by
    show (wordX _ _ _ ++ wsX t)[0 * 3 + j]? = _
    rw [List.getElem?_append_left (by simp [wordX]; omega)]
    simp [wdAt, bs]
  | x :: t, i + 1, h, j, hj => by
    show (wordX _ _ _ ++ wsX t)[(i + 1) * 3 + j]? = _
    rw [List.getElem?_append_right (by simp [wordX]; omega)]
    have e : (i + 1) * 3 + j - (wordX x.1 ⟨x.2.1.toArray⟩ x.2.2).length = i * 3 + j := by simp [wordX]; omega
    rw [e, wsX_at3 t i (by simp at h; omega) j hj]
    simp [wdAt]
/-- a row of words of one's own: words in memory -/
theorem wsAt_own {w : World} {B n : Nat} {T : TypeId} {v : Value} {ws : List Wd} (h : w.ownsRow B T 3 v n (wsX ws)) (h4 : n ≤ 100000) : ∃ wa wc, v = .slice wa n wc ∧ WsAt w wa n ws := by
  have hl := h.1
  rw [wsX_len3] at hl
  have hl : ws.length = n := by omega
  by_cases h0 : n = 0
  · rcases h.2 with ⟨e, -⟩ | ⟨g, cap, cur, e, -⟩
    · subst h0
      exact ⟨none, 0, e, hl, by omega, .inl rfl⟩
    · exact ⟨_, _, e, hl, h4, .inl h0⟩
  · obtain ⟨g, cap, hv, hb, hlt⟩ := h.form (by omega)
    subst hv
    refine ⟨_, cap, rfl, hl, h4, .inr ⟨g, 0, rfl, hlt, fun i hi => ?_⟩⟩
    have hc : ∀ j, j < 3 → w.cell? ⟨g, 0 + i * 3 + j, none⟩ = (wordX (wdAt ws i).1 (bs (wdAt ws i).2.1) (wdAt ws i).2.2)[j]? := fun j hj => by
      rw [Nat.zero_add, h.cellAt (i * 3 + j) (by omega), wsX_at3 ws i (by omega) j hj]
    exact ⟨hc 0 (by omega), hc 1 (by omega), hc 2 (by omega)⟩
theorem words_most {l : Bs} {ws : List Wd} (h : wordsA l = .ok ws) : ws.length ≤ 600 := by
  unfold wordsA at h
  split at h
  · cases h
  · exact run_most l.length 0 [] [] l ws (Nat.le_refl _) h (by simp)
end Go.Proofs.YtknhphcfcpjhiaaGreatDoor
