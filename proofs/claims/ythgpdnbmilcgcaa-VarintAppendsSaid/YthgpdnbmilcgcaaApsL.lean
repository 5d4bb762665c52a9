/- VarintAppends' walk: appended numbers are what the document says, and are taken as they were. -/
import Derived.Test.YthgpdnbmilcgcaaZigW
import Derived.Deep.Upon
import Derived.Deep.RegionWith
import Derived.Deep.RegionHeld3
import Derived.Deep.DeepCutAuto
namespace Go.Proofs.Ythgpdnbmilcgcaa
open Go.RowKit
set_option linter.unusedVariables false

theorem app_str {w' : World} {C B lb : Nat} {zb : List Int} (n : Int) (h0 : 0 ≤ n) (hz : zb.length = lb) (hzr : ∀ z ∈ zb, 0 ≤ z ∧ z ≤ 255) (hlb : lb ≤ 140737488351232)
    (h : w'.ownsRow C 5 1 (.slice (some ⟨B, 0, none⟩) (lb + groups n) (lb + groups n)) (lb + groups n) ((zb ++ encG n (groups n)).map (Value.int .u8))) :
    (convert 22 9 (.slice (some ⟨B, 0, none⟩) (lb + groups n) (lb + groups n))).run Try.prog w' = .ok (.string (strOfNums zb ++ strOfNums (enc n))) w' := by
  have hg := groups_bd n
  have hl := enc_length n
  have hi := isB_own (zs := zb ++ encG n (groups n)) (by rw [List.length_append, hz]; exact congrArg (lb + ·) hl) (by unfold maxLen; omega) (Nat.le_refl _) h (fun z hz' => by
    rcases List.mem_append.1 hz' with h | h
    · exact hzr z h
    · exact enc_range n h0 z h) _ (Nat.le_refl _)
  rw [List.take_of_length_le (by rw [List.length_append, hz]; exact Nat.le_of_eq (congrArg (lb + ·) hl))] at hi
  rw [← strOfNums_append]
  exact str_of hi (by omega)

theorem lastS {A B : Prop} (h : A ∧ B) : B := h.2

set_option maxRecDepth 100000 in
set_option maxHeartbeats 2500000 in
theorem aps0 (b : Option Addr) (lb cb : Nat) (zb : List Int) (n s : Int) (d : Option Addr) (ld cd : Nat) (zd : List Int) (h0 : 0 ≤ n) (h1 : n ≤ 18446744073709551615) (s0 : -9223372036854775808 ≤ s) (s1 : s ≤ 9223372036854775807) (w : World)
    (HB : Hid (IsB w b lb zb ∧ (∀ x, lb ≠ 0 → b = some x → x.block < w.heap.size) ∧ (b = none → lb = 0 ∧ cb = 0) ∧ lb ≤ 140737488351232))
    (HD : Hid (IsB w d ld zd ∧ (∀ x, ld ≠ 0 → d = some x → x.block < w.heap.size) ∧ (d = none → ld = 0 ∧ cd = 0) ∧ ld ≤ 140737488351232)) :
    Calls Try.prog 3 #[.slice b lb cb, .int .u64 n, .int .i64 s, .slice d ld cd] w fun e w' => e = .returned (.bool true) ∧ Below w.heap.size w w' := by
  obtain ⟨z0, z1⟩ := zz_bd s s0 s1
  obtain ⟨i0, hi, hz0, hz1, hz2⟩ := info_parts info5
  go_enter Try.func3, Try.ntmps3
  go_wp2_with fail
  refine (awake_any _).mono ?_
  rintro e w1 ⟨rfl, hb1⟩
  have HB1 := Lib.hid hb1
  clear hb1
  go_upto_region 3 with (fail)
  go_cut [9, 10] (fun x y wx => x = .string (strOfNums (enc n)) ∧ y = .string (strOfNums (enc (zz s))) ∧ Below w1.heap.size w1 wx)
  case first =>
    go_region_with (first
      | (go_at_call 10; refine (number_any n h0 h1 _).mono ?_; rintro e w2 ⟨g, cap, rfl, hown, hb⟩; have hs2 := str_later (enc_length n) (by have := groups_bd n; omega) (cap_le hown).2 (cap_le hown).1 hown (enc_range n h0); have hr2 := Below.refl w2.heap.size w2; have HO2 := Lib.hid hown; clear hown)
      | (go_at_call 11; refine (rsigned_any s s0 s1 _).mono ?_; rintro e w3 ⟨g', cap', rfl, hown', hb'⟩; have hs3 := str_later (enc_length (zz s)) (by have := groups_bd (zz s); omega) (cap_le hown').2 (cap_le hown').1 hown' (enc_range (zz s) z0); have hr3 := Below.refl w3.heap.size w3; have HO3 := Lib.hid hown'; clear hown'))
    all_goals (go_wp2_with fail; go_meet)
    all_goals exact ⟨rfl, rfl, bt (((Below.refl _ w1).drew).trans hb) hb'⟩
  case rest =>
    obtain ⟨rfl, rfl, hbc⟩ := hcut
    have hb0 := bt HB1.out hbc
    have hgn := groups_bd n
    have hln := enc_length n
    obtain ⟨g, cap, w4, hrun, hjoin, hg4, hb4⟩ := put_append wc (enc n) (enc_range n h0) (by omega) d ld cd zd (HD.out.1.below hb0 HD.out.2.1) (fun x hx hy => Nat.lt_of_lt_of_le (HD.out.2.1 x hx hy) hb0.size) HD.out.2.2.2 HD.out.2.2.1
    rw [hln] at hjoin hrun
    have HJ := Lib.hid hjoin
    have HR := Lib.hid hrun
    have HG4 := Lib.hid hg4
    have HB4 := Lib.hid hb4
    have HB0 := Lib.hid hb0
    clear hjoin hrun hg4 hb4 hbc hb0
    go_wp2_with fail
    rw [put_run]
    go_wp2_with (at_builtin; refine wpList_append_at (putW wc (enc n)) rfl (.tmp 27) (.tmp 28) 22 22 rfl (v := putV wc (enc n)) (xv := .slice d ld cd) rfl rfl HR.out ?_)
    go_wp2_with fail
    refine (take_any (some ⟨g, 0, none⟩) (groups n + ld) cap (enc n ++ zd) w4 HJ.out).mono ?_
    rintro e w5 ⟨rfl, rfl⟩
    rw [enc_take n h0 h1]
    unfold endT
    have hb04 := bt HB0.out HB4.out
    have hgs := groups_bd (zz s)
    have hls := enc_length (zz s)
    obtain ⟨g2, cap2, w6, hrun2, hjoin2, hg6, hb6⟩ := put_append w4 (enc (zz s)) (enc_range (zz s) z0) (by omega) d ld cd zd (HD.out.1.below hb04 HD.out.2.1) (fun x hx hy => Nat.lt_of_lt_of_le (HD.out.2.1 x hx hy) hb04.size) HD.out.2.2.2 HD.out.2.2.1
    rw [hls] at hjoin2 hrun2
    have HJ2 := Lib.hid hjoin2
    have HR2 := Lib.hid hrun2
    have HB6 := Lib.hid (bt hb04 hb6)
    clear hjoin2 hrun2 hg6 hb6 hb04 HR HJ HG4 HB4 HB0
    go_wp2_with fail
    rw [put_run]
    go_wp2_with (at_builtin; refine wpList_append_at (putW w4 (enc (zz s))) rfl (.tmp 36) (.tmp 37) 22 22 rfl (v := putV w4 (enc (zz s))) (xv := .slice d ld cd) rfl rfl HR2.out ?_)
    go_wp2_with fail
    refine (takes_any (some ⟨g2, 0, none⟩) (groups (zz s) + ld) cap2 (enc (zz s) ++ zd) w6 HJ2.out).mono ?_
    rintro e w7 ⟨rfl, rfl⟩
    rw [endS_yes (enc_take (zz s) z0 z1 zd), sgF_zz]
    clear HR2 HJ2 HD
    have HBall := Lib.hid (show ∀ W, Below w.heap.size w W → IsB W b lb zb ∧ (∀ x, lb ≠ 0 → b = some x → x.block < W.heap.size) ∧ (convert 22 9 (.slice b lb cb)).run Try.prog W = .ok (.string (strOfNums zb)) W from fun W hW =>
      have h := HB.out.1.below hW HB.out.2.1
      ⟨h, fun x hx hy => Nat.lt_of_lt_of_le (HB.out.2.1 x hx hy) hW.size, str_any h HB.out.2.2.1⟩)
    have HZ := Lib.hid (show zb.length = lb ∧ ∀ z ∈ zb, 0 ≤ z ∧ z ≤ 255 from ⟨HB.out.1.1, HB.out.1.mem⟩)
    have HL := Lib.hid (show lb ≤ 140737488351232 ∧ lb ≤ 140737488355328 from ⟨HB.out.2.2.2, by have := HB.out.2.2.2; omega⟩)
    have HN := Lib.hid HB.out.2.2.1
    have hz1' : (strOfNums (enc n)).size = groups n := by rw [numBytes_size, hln]
    have hz2' : (strOfNums (enc (zz s))).size = groups (zz s) := by rw [numBytes_size, hls]
    have hzb' : (strOfNums zb).size = lb := by rw [numBytes_size, HZ.out.1]
    have hsum1 : lb + groups n ≤ 9223372036854775807 := by have := HL.out.1; omega
    have hsum2 : lb + groups (zz s) ≤ 9223372036854775807 := by have := HL.out.1; omega
    have hno1 : ¬ (9223372036854775807 < lb + groups n) := by have := HL.out.1; omega
    have hno2 : ¬ (9223372036854775807 < lb + groups (zz s)) := by have := HL.out.1; omega
    clear HB hgn hln hgs hls
    go_upto_region 6 with (fail)
    have B6 := HB6.out.drew
    have e6 := (HBall.out w6.drew B6).2.2
    clear HB6 HB1 hz0 hz1 hz2 hi i0
    refine wp_region_noPanic ?_
    go_region_held (fun w' => (convert 22 9 (.slice b lb cb)).run Try.prog w' = .ok (.string (strOfNums zb)) w' ∧ Below w.heap.size w w')
      (first | exact ⟨e6, B6⟩ | exact ⟨by assumption, by assumption⟩)
      (first
        | (go_at_call 14; refine (append_any b lb cb zb n h0 h1 _ (HBall.out _ (lastS (by assumption))).1 (HBall.out _ (lastS (by assumption))).2.1 HL.out.2 HN.out).mono ?_; rintro e w8 ⟨rfl, hown, hb8⟩; have hs8 : (convert 22 9 (.slice (some ⟨w6.heap.size, 0, none⟩) (lb + groups n) (lb + groups n))).run Try.prog w8 = .ok (.string (strOfNums zb ++ strOfNums (enc n))) w8 := app_str n h0 HZ.out.1 HZ.out.2 HL.out.1 hown; have B8 := bt (lastS (by assumption)) hb8; have e8 := (HBall.out w8 B8).2.2; clear hown hb8)
        | (go_at_call 15; refine (vsigned_any b lb cb zb s s0 s1 _ (HBall.out _ (lastS (by assumption))).1 (HBall.out _ (lastS (by assumption))).2.1 HL.out.2 HN.out).mono ?_; rintro e w9 ⟨rfl, hown, hb9⟩; have hs9 := app_str (zz s) z0 HZ.out.1 HZ.out.2 HL.out.1 hown; have B9 := bt (lastS (by assumption)) hb9; have e9 := (HBall.out w9 B9).2.2; clear hown hb9))
    all_goals refine NoPanic.normal ?_
    all_goals (go_wp2; go_ret)
    all_goals exact ⟨rfl, by assumption⟩
end Go.Proofs.Ythgpdnbmilcgcaa
