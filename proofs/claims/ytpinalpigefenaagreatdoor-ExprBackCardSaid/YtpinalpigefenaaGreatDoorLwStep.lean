/- The lexer's step, Words: any text. -/
import Derived.Test.YtpinalpigefenaaGreatDoorLwEnd
namespace Go.Proofs.YtpinalpigefenaaGreatDoor
open Go.RowKit Go.Lib
set_option linter.unusedVariables false
set_option linter.unusedSimpArgs false
set_option maxRecDepth 100000

/-- what is always so of a reader -/
structure Inv (x : Rd) : Prop where
  md : x.1 ≤ 6
  ws : x.2.2.length ≤ 600
  num : x.1 = 2 → allD x.2.1 = true ∧ x.2.1 ≠ []
  quo : x.1 = 4 → 2 ≤ x.2.1.length
  txt : x.1 = 3 → 1 ≤ x.2.1.length
theorem Inv.zero : Inv (0, [], []) := ⟨by simp, by simp, fun h => absurd (show (0 : Nat) = 2 from h) (by decide), fun h => absurd (show (0 : Nat) = 4 from h) (by decide), fun h => absurd (show (0 : Nat) = 3 from h) (by decide)⟩
theorem end_most {md : Nat} {cur : Bs} {ws Y : List Wd} (h : endM md cur ws = .ok Y) (hl : ws.length ≤ 600) : Y.length ≤ 600 := by
  have := run_most 0 md cur ws [] Y (by simp) (by rw [run_nil]; exact h) hl
  exact this
theorem goes_mode {md : Nat} {cur : Bs} {r m : Nat} (h : goes md cur r = some m) (hmd : md ≤ 6) : m ≤ 6 ∧ (m = 2 → md = 2 ∧ digL r = true) ∧ (m = 4 → md = 3) ∧ (m = 3 → md = 3 ∨ md = 4) := by
  unfold goes at h
  split at h
  · split at h <;> cases h; simp
  · split at h
    · rename_i hd
      cases h
      exact ⟨by decide, fun _ => ⟨rfl, hd⟩, fun h => absurd h (by decide), fun h => absurd h (by decide)⟩
    · cases h
  · simp only [Option.some.injEq] at h
    subst h
    split
    · exact ⟨by decide, fun h => absurd h (by decide), fun _ => rfl, fun h => absurd h (by decide)⟩
    · exact ⟨by decide, fun h => absurd h (by decide), fun h => absurd h (by decide), fun _ => .inl rfl⟩
  · split at h
    · cases h
      exact ⟨by decide, fun h => absurd h (by decide), fun h => absurd h (by decide), fun _ => .inr rfl⟩
    · cases h
  · split at h
    · cases h; simp
    · split at h
      · cases h; simp
      · cases h
  · split at h
    · cases h
    · cases h; simp
  · cases h
theorem begin_mode {r m : Nat} (h : beginM r = .ok m) : m ≤ 6 ∧ (m = 2 → digL r = true) ∧ m ≠ 4 := by
  unfold beginM at h
  split at h
  · cases h; exact ⟨by decide, fun h => absurd h (by decide), by decide⟩
  · split at h
    · cases h; exact ⟨by decide, fun h => absurd h (by decide), by decide⟩
    · split at h
      · rename_i hd
        cases h; exact ⟨by decide, fun _ => hd, by decide⟩
      · split at h
        · cases h; exact ⟨by decide, fun h => absurd h (by decide), by decide⟩
        · split at h
          · cases h; exact ⟨by decide, fun h => absurd h (by decide), by decide⟩
          · cases h
theorem dig_chunk {l : Bs} (hl : l ≠ []) (h : digL (decodeL l).1 = true) : allD (l.take (decodeL l).2) = true := by
  cases l with
  | nil => exact absurd rfl hl
  | cons b t =>
    have hb := dig_byte h
    rw [dec_low b t hb] at h ⊢
    unfold allD
    simpa using h
theorem Inv.step {x y : Rd} {l : Bs} (h : Inv x) (hl : l ≠ []) (hs : stepM x (decodeL l).1 (l.take (decodeL l).2) = .ok y) : Inv y := by
  have hw := dec_wd l hl
  have hcl : 1 ≤ (l.take (decodeL l).2).length := by rw [List.length_take]; omega
  obtain ⟨md, cur, ws⟩ := x
  unfold stepM at hs
  simp only at hs
  split at hs
  · cases hs
  · cases hg : goes md cur (decodeL l).1 with
    | some m =>
      simp only [hg] at hs
      cases hs
      have hm := goes_mode hg h.md
      refine ⟨hm.1, h.ws, fun e => ?_, fun e => ?_, fun e => ?_⟩
      · obtain ⟨e2, hd⟩ := hm.2.1 e
        have hn := h.num e2
        refine ⟨?_, fun e3 => ?_⟩
        · show allD (cur ++ _) = true
          have h1 := dig_chunk hl hd
          have h2 : allD cur = true := hn.1
          unfold allD at h1 h2 ⊢
          rw [List.all_append, h1, h2]; rfl
        · have := congrArg List.length (show cur ++ l.take (decodeL l).2 = [] from e3)
          rw [List.length_append] at this
          simp only [List.length_nil] at this
          omega
      · have := h.txt (hm.2.2.1 e)
        show 2 ≤ (cur ++ _).length
        rw [List.length_append]
        have : 1 ≤ cur.length := this
        omega
      · show 1 ≤ (cur ++ _).length
        rw [List.length_append]
        omega
    | none =>
      cases he : endM md cur ws with
      | no e => simp only [hg, he, An.bind] at hs; cases hs
      | ok W =>
        cases hb : beginM (decodeL l).1 with
        | no e => simp only [hg, he, hb, An.bind] at hs; cases hs
        | ok m =>
          simp only [hg, he, hb, An.bind] at hs
          cases hs
          have hm := begin_mode hb
          refine ⟨hm.1, end_most he h.ws, fun e => ⟨dig_chunk hl (hm.2.1 e), fun e3 => ?_⟩, fun e => absurd e hm.2.2, fun e => hcl⟩
          have := congrArg List.length (show l.take (decodeL l).2 = [] from e3)
          simp only [List.length_nil] at this
          omega
theorem cur_more (s : ByteArray) {start pos n : Nat} (h : start ≤ pos) (h2 : pos ≤ s.size) : curOf s start (pos + n) = curOf s start pos ++ (s.data.toList.drop pos).take n := by
  unfold curOf
  rw [List.take_add, List.drop_append_of_le_length]
  rw [List.length_take, Array.length_toList]
  show start ≤ min pos s.size
  omega
theorem cur_new (s : ByteArray) {pos n : Nat} : curOf s pos (pos + n) = (s.data.toList.drop pos).take n := by
  unfold curOf
  rw [List.drop_take]
  congr 1
  omega
/-- where a reader is, as the machine has it -/
def RAt (s : ByteArray) (w : World) (N pos : Nat) (x : Rd) : Prop := ∃ start : Nat, RSt s w N x.2.2 x.1 start ∧ start ≤ pos ∧ x.2.1 = curOf s start pos
/-- what step answers -/
def StepP (s : ByteArray) (w : World) (N pos : Nat) (o : An Rd) (e : Ending) (w' : World) : Prop :=
  match o with
  | .ok y => e = .returned (.int .i64 0) ∧ RAt s w' N pos y ∧ Kp N w w'
  | .no x => e = .returned (.int .i64 x) ∧ x ≠ 0 ∧ Kp N w w'
theorem add_no {ws : List Wd} {x : Wd} {e : Int} (h : addM ws x = .no e) : e ≠ 0 := by
  unfold addM at h
  split at h
  · cases h; decide
  · cases h
theorem end_no {md : Nat} {cur : Bs} {ws : List Wd} {e : Int} (h : endM md cur ws = .no e) : e ≠ 0 := by
  unfold endM at h
  split at h
  · split at h
    · cases h; decide
    · exact add_no h
  · unfold numM at h
    split at h
    · exact add_no h
    · cases h; decide
  · cases h; decide
  · unfold textM at h
    split at h
    · cases h; decide
    · exact add_no h
  · exact add_no h
  · cases h
theorem begin_no {r : Nat} {e : Int} (h : beginM r = .no e) : e = 3 := by
  unfold beginM at h
  split at h
  · cases h
  · split at h
    · cases h
    · split at h
      · cases h
      · split at h
        · cases h
        · split at h
          · cases h
          · cases h; rfl
set_option maxHeartbeats 6400000 in
theorem step_any (s : ByteArray) (w : World) (N pos : Nat) (x : Rd) (h : RAt s w N pos x) (hi : Inv x) (h2 : pos < s.size) (hs : s.size ≤ 4000) (hv : VOk w) (hN : gMax < N ∧ gErr < N) :
    Calls Tryz.prog 92 #[.pointer (some ⟨N, 0, none⟩), .int .i64 (pos : Int), .int .i32 ((decodeL (s.data.toList.drop pos)).1 : Int)] w (StepP s w N (pos + (decodeL (s.data.toList.drop pos)).2) (stepM x (decodeL (s.data.toList.drop pos)).1 ((s.data.toList.drop pos).take (decodeL (s.data.toList.drop pos)).2))) := by
  obtain ⟨md, cur, ws⟩ := x
  obtain ⟨start, hst, hsp, hcur⟩ := h
  simp only at hst hcur
  subst hcur
  have hcl : (decodeL (s.data.toList.drop pos)).1 ≤ 1114111 := Lib.decodeL_rune _
  have HM := Lib.hid (cur_more s (n := (decodeL (s.data.toList.drop pos)).2) hsp (Nat.le_of_lt h2))
  have HNw := Lib.hid (cur_new s (pos := pos) (n := (decodeL (s.data.toList.drop pos)).2))
  generalize (s.data.toList.drop pos).take (decodeL (s.data.toList.drop pos)).2 = ch at *
  generalize (decodeL (s.data.toList.drop pos)).1 = c at *
  generalize (decodeL (s.data.toList.drop pos)).2 = n at *
  obtain ⟨v, hst⟩ := hst
  have HH := Lib.hid hst
  have HI := Lib.hid hi
  have HV := Lib.hid hv
  have hmd : md ≤ 6 := hi.md
  have hwl : ws.length ≤ 600 := hi.ws
  obtain ⟨⟨f0, f1, f2, f3⟩, fz⟩ := hst.facts
  clear hst hi hv
  go_enter Tryz.func92, Tryz.ntmps92
  go_upto_region 1 with (fail)
  go_cut [16] (fun t wx => t = .bool (decide (md = 2) && letL c) ∧ wx = w)
  case first =>
    by_cases h2d : md = 2
    · subst h2d
      go_wp2_with fail
      refine (letter_any _ _).mono ?_
      rintro e w1 ⟨rfl, hw⟩
      subst hw
      go_wp2
      go_meet
      exact ⟨rfl, rfl⟩
    · have hmb : ((md : Int) == 2) = false := beq_eq_false_iff_ne.2 (by omega)
      have hdf : decide (md = 2) = false := decide_eq_false h2d
      clear h2d
      go_wp2
      go_meet
      exact ⟨by rw [hdf]; rfl, rfl⟩
  case rest =>
    obtain ⟨rfl, rfl⟩ := hcut
    cases hb : (decide (md = 2) && letL c) with
    | true =>
      have HG := Lib.hid (show stepM (md, curOf s start pos, ws) c ch = .no eS by
        unfold stepM
        rw [Bool.and_eq_true, decide_eq_true_eq] at hb
        rw [if_pos hb])
      clear hb f0 f1 f2 f3 fz
      go_wp2
      go_ret
      rw [HG.out]
      exact ⟨rfl, by decide, Kp.refl _ _⟩
    | false =>
      have HG := Lib.hid (show stepM (md, curOf s start pos, ws) c ch = match goes md (curOf s start pos) c with
          | some m => .ok (m, curOf s start pos ++ ch, ws)
          | none => (endM md (curOf s start pos) ws).bind fun ws => (beginM c).bind fun m => .ok (m, ch, ws) by
        unfold stepM
        rw [if_neg (by simpa [Bool.and_eq_false_iff] using hb)]
        simp only
        cases goes md (curOf s start pos) c <;> rfl)
      clear hb f0 f1 f2 f3 fz
      go_wp2_with fail
      refine (goes_any s _ N v ws.length (wsX ws) md start pos c HH.out hmd hsp (by omega)).mono ?_
      rintro e w1 ⟨rfl, hs1, hk1⟩
      cases hg : goes md (curOf s start pos) c with
      | some m =>
        have HE := Lib.hid (show stepM (md, curOf s start pos, ws) c ch = .ok (m, curOf s start pos ++ ch, ws) by rw [HG.out, hg])
        have HS1 := Lib.hid (show LSt s w1 N v ws.length (wsX ws) (m : Nat) start by rw [hg] at hs1; exact hs1)
        have HK1 := Lib.hid hk1
        clear hg hs1 hk1 HG
        go_wp2
        go_ret
        rw [HE.out]
        exact ⟨rfl, ⟨start, ⟨v, HS1.out⟩, by omega, HM.out.symm⟩, HK1.out⟩
      | none =>
        have HE := Lib.hid (show stepM (md, curOf s start pos, ws) c ch = (endM md (curOf s start pos) ws).bind fun ws => (beginM c).bind fun m => .ok (m, ch, ws) by rw [HG.out, hg])
        have HS1 := Lib.hid (show LSt s w1 N v ws.length (wsX ws) (md : Nat) start by rw [hg] at hs1; exact hs1)
        have HK1 := Lib.hid hk1
        clear hg hs1 hk1 HG
        go_wp2_with fail
        refine (end_any s w1 N ws md start pos ⟨v, HS1.out⟩ hmd hsp (by omega) hs hwl HI.out.num HI.out.quo (HV.out.below HK1.out.1 hN) hN).mono ?_
        rintro e w2 hp
        cases he : endM md (curOf s start pos) ws with
        | no y =>
          rw [he] at hp
          obtain ⟨rfl, hk2⟩ := hp
          have HK2 := Lib.hid (HK1.out.trans hk2)
          have hy := end_no he
          have hyb : (y != 0) = true := bne_iff_ne.2 hy
          have HY := Lib.hid hy
          have HF := Lib.hid (show stepM (md, curOf s start pos, ws) c ch = .no y by rw [HE.out, he]; rfl)
          clear he hk2 hy
          go_wp2
          go_ret
          rw [HF.out]
          exact ⟨rfl, HY.out, HK2.out⟩
        | ok ws2 =>
          rw [he] at hp
          obtain ⟨rfl, ⟨v2, hs2⟩, hk2⟩ := hp
          have HS2 := Lib.hid hs2
          have HK2 := Lib.hid (HK1.out.trans hk2)
          have HF := Lib.hid (show stepM (md, curOf s start pos, ws) c ch = (beginM c).bind fun m => .ok (m, ch, ws2) by rw [HE.out, he]; rfl)
          clear he hk2 hs2 HE
          go_wp2_with fail
          refine (begin_any s w2 N v2 ws2.length (wsX ws2) 0 start pos c HS2.out hcl).mono ?_
          rintro e w3 hp
          cases hb : beginM c with
          | no y =>
            rw [hb] at hp
            obtain ⟨rfl, hk3⟩ := hp
            have HK3 := Lib.hid (HK2.out.trans hk3)
            have HY := Lib.hid (begin_no hb)
            have HL := Lib.hid (show stepM (md, curOf s start pos, ws) c ch = .no y by rw [HF.out, hb]; rfl)
            clear hb hk3
            go_wp2
            go_ret
            rw [HL.out]
            exact ⟨rfl, by rw [HY.out]; decide, HK3.out⟩
          | ok m =>
            rw [hb] at hp
            obtain ⟨rfl, hs3, hk3⟩ := hp
            have HK3 := Lib.hid (HK2.out.trans hk3)
            have HS3 := Lib.hid hs3
            have HL := Lib.hid (show stepM (md, curOf s start pos, ws) c ch = .ok (m, ch, ws2) by rw [HF.out, hb]; rfl)
            clear hb hk3 hs3
            go_wp2
            go_ret
            rw [HL.out]
            exact ⟨rfl, ⟨pos, ⟨v2, HS3.out⟩, by omega, HNw.out.symm⟩, HK3.out⟩
end Go.Proofs.YtpinalpigefenaaGreatDoor
