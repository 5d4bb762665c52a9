/- Contract of the document's Head. -/
import Derived.Test.YtbcjhngpcodaoaaRefJ
namespace Go.Proofs.Ytbcjhngpcodaoaa
open Go.RowKit
set_option linter.unusedVariables false
set_option maxRecDepth 100000

set_option maxHeartbeats 4000000 in
theorem rhead_good (salt p r : Int) (w : World) (s0 : 0 ≤ salt) (s1 : salt ≤ 18446744073709551615) (hp : 0 ≤ p ∧ p ≤ 10000) (hr : 0 ≤ r ∧ r ≤ 10000) :
    Calls Try.prog 66 #[.int .u64 salt, .int .i64 p, .int .i64 r] w (RowKPost w (headK salt p r)) := by
  have hwp := (wrap_small hp).2
  have hwr := (wrap_small hr).2
  have hp0 := hp.1
  have hp1 := hp.2
  have hr0 := hr.1
  have hr1 := hr.2
  have hcv := mark_run w
  have HMB := Lib.hid (markW_below w)
  have HMI := Lib.hid (markW_isB w)
  have hms := markW_size w
  have H1 := Lib.hid (show (markK ++ beN salt 8).length = 16 by rw [List.length_append, beN_length]; rfl)
  have H2 := Lib.hid (show ((markK ++ beN salt 8) ++ beN p 4).length = 20 by rw [List.length_append, H1.out, beN_length])
  have H3 := Lib.hid (headB_length salt p r)
  obtain ⟨i0, hi, hz0, hz1, hz2⟩ := info_parts info5
  generalize markW w = W0 at *
  go_enter Try.func66, Try.ntmps66
  go_wp2_with fail
  refine (eight_any salt _ s0 s1).mono ?_
  rintro e w2 ⟨v2, rfl, hown2, hgrow2⟩
  rw [beN_length] at hown2
  obtain ⟨g2, c2, rfl⟩ := own_addr hown2 (by omega)
  have hb2 := grown_belowB hgrow2 (B := W0.heap.size) (by omega) (fun k hk => by cases hk)
  have HI0 := Lib.hid (HMI.out.below hb2 (fun x _ hx => by cases hx; rw [hms]; exact Nat.lt_succ_self _))
  have HB2 := Lib.hid (HMB.out.trans (hb2.mono (by omega)))
  have HI2 := Lib.hid (own_isB hown2 (beN_length _ _) (beN_range _ _))
  have hs2 := hgrow2.size
  clear hown2 hgrow2 hb2
  go_wp2_with (at_builtin; refine wpList_append_grows _ rfl (.tmp 24) (.tmp 26) 26 rfl 5 i0 (.int .u8 0) 1 1 Try.underlying26 hi hz0 hz1 hz2 rfl (by decide) (some ⟨w.heap.size, 0, none⟩) 8 8 (markK.map (Value.int .u8)) rfl ?c1 ?c2 ?c3 ⟨g2, 0, none⟩ 8 c2 ((beN salt 8).map (Value.int .u8)) rfl ?c4 ?c5 ?c6 ?c7 ?c8 ?c9 ?_)
  case c1 => intro h; cases h
  case c2 => rfl
  case c3 => intro b hb j x hx; cases hb; exact HI0.out.cells _ rfl j x hx
  case c4 => rw [List.length_map, beN_length]
  case c5 => exact fun j x hx => HI2.out.cells _ rfl j x hx
  case c6 => intro u hu; obtain ⟨_, _, rfl⟩ := List.mem_map.1 hu; rfl
  case c7 => omega
  case c8 => unfold maxLen; omega
  case c9 => omega
  intro v3 w3 hown3 hgrow3
  have hown3' : w3.ownsRow w.heap.size 5 1 v3 16 ((markK ++ beN salt 8).map (Value.int .u8)) := by
    rw [List.map_append]
    exact ownsRow_base hown3 (by omega)
  obtain ⟨g3, c3, rfl⟩ := own_addr hown3' (by omega)
  have HO3 := Lib.hid hown3'
  have HB3 := Lib.hid (HB2.out.trans (grown_belowB hgrow3 (B := w.heap.size) (by omega) (fun k hk => by cases hk)))
  have hs3 := hgrow3.size
  clear hown3 hown3' hgrow3
  go_wp2_with fail
  refine (four_own p _ hp0 (by omega)).mono ?_
  rintro e w4 ⟨g4, rfl, hown4, hgrow4⟩
  have hb4 := grown_belowB hgrow4 (B := w3.heap.size) (by omega) (fun k hk => by cases hk)
  have HO4 := Lib.hid (own_below HO3.out hb4)
  have HB4 := Lib.hid (HB3.out.trans (hb4.mono (by omega)))
  have HI4 := Lib.hid (own_isB hown4 (beN_length _ _) (beN_range _ _))
  have hs4 := hgrow4.size
  clear hown4 hgrow4 hb4
  go_wp2_with (at_builtin; refine wpList_slice rfl (.tmp 28) (.tmp 31) rfl w.heap.size (.slice (some ⟨g3, 0, none⟩) 16 c3) (markK ++ beN salt 8) (some ⟨g4, 0, none⟩) 4 4 (beN p 4) rfl rfl ?d1 HI4.out ?d2 ?d3 ?d4 ?_)
  case d1 => rw [H1.out]; exact HO4.out
  case d2 => intro h; cases h
  case d3 => rw [H1.out]; omega
  case d4 => omega
  intro v5 w5 hown5 hgrow5
  have hown5' : w5.ownsRow w.heap.size 5 1 v5 20 (((markK ++ beN salt 8) ++ beN p 4).map (Value.int .u8)) := by rw [← H2.out]; simpa using hown5
  obtain ⟨g5, c5, rfl⟩ := own_addr hown5' (by omega)
  have HO5 := Lib.hid hown5'
  have HB5 := Lib.hid (HB4.out.trans (grown_belowB hgrow5 (B := w.heap.size) (by omega) (fun k hk => by cases hk; exact own_lo HO4.out)))
  have hs5 := hgrow5.size
  clear hown5 hown5' hgrow5
  go_wp2_with fail
  refine (four_own r _ hr0 (by omega)).mono ?_
  rintro e w6 ⟨g6, rfl, hown6, hgrow6⟩
  have hb6 := grown_belowB hgrow6 (B := w5.heap.size) (by omega) (fun k hk => by cases hk)
  have HO6 := Lib.hid (own_below HO5.out hb6)
  have HB6 := Lib.hid (HB5.out.trans (hb6.mono (by omega)))
  have HI6 := Lib.hid (own_isB hown6 (beN_length _ _) (beN_range _ _))
  have hs6 := hgrow6.size
  clear hown6 hgrow6 hb6
  go_wp2_with (at_builtin; refine wpList_slice rfl (.tmp 32) (.tmp 35) rfl w.heap.size (.slice (some ⟨g5, 0, none⟩) 20 c5) ((markK ++ beN salt 8) ++ beN p 4) (some ⟨g6, 0, none⟩) 4 4 (beN r 4) rfl rfl ?e1 HI6.out ?e2 ?e3 ?e4 ?_)
  case e1 => rw [H2.out]; exact HO6.out
  case e2 => intro h; cases h
  case e3 => rw [H2.out]; omega
  case e4 => omega
  intro v7 w7 hown7 hgrow7
  have hown7' : w7.ownsRow w.heap.size 5 1 v7 24 ((headB salt p r).map (Value.int .u8)) := by rw [← H3.out]; simpa [headB] using hown7
  obtain ⟨g7, c7, rfl⟩ := own_addr hown7' (by omega)
  have HO7 := Lib.hid hown7'
  have HB7 := Lib.hid (HB6.out.trans (grown_belowB hgrow7 (B := w.heap.size) (by omega) (fun k hk => by cases hk; exact own_lo HO6.out)))
  have HI7 := Lib.hid (own_isB hown7' H3.out (headB_range salt p r))
  have HR7 := Lib.hid (sum_range (headB salt p r))
  have hs7 := hgrow7.size
  have HX := Lib.hid (show headK salt p r = (headB salt p r ++ beN (sm 2166136261 (headB salt p r)) 4) ++ noughts (64 - 28) from rfl)
  clear hown7 hown7' hgrow7
  generalize headB salt p r = bs at *
  go_wp2_with fail
  refine (rsum_any _ _ _ bs _ HI7.out).mono ?_
  rintro e w8 ⟨rfl, hw8⟩
  subst hw8
  go_wp2_with fail
  refine (four_own _ _ HR7.out.1 HR7.out.2).mono ?_
  rintro e w9 ⟨g9, rfl, hown9, hgrow9⟩
  have hb9 := grown_belowB hgrow9 (B := w8.heap.size) (by omega) (fun k hk => by cases hk)
  have HO9 := Lib.hid (own_below HO7.out hb9)
  have HB9 := Lib.hid (HB7.out.trans (hb9.mono (by omega)))
  have HI9 := Lib.hid (own_isB hown9 (beN_length _ _) (beN_range _ _))
  have hs9 := hgrow9.size
  clear hown9 hgrow9 hb9
  have H4 := Lib.hid (show (bs ++ beN (sm 2166136261 bs) 4).length = 28 by rw [List.length_append, H3.out, beN_length])
  go_wp2_with (at_builtin; refine wpList_slice rfl (.tmp 37) (.tmp 40) rfl w.heap.size (.slice (some ⟨g7, 0, none⟩) 24 c7) bs (some ⟨g9, 0, none⟩) 4 4 (beN (sm 2166136261 bs) 4) rfl rfl ?f1 HI9.out ?f2 ?f3 ?f4 ?_)
  case f1 => rw [H3.out]; exact HO9.out
  case f2 => intro h; cases h
  case f3 => rw [H3.out]; omega
  case f4 => omega
  intro v10 w10 hown10 hgrow10
  have hown10' : w10.ownsRow w.heap.size 5 1 v10 28 ((bs ++ beN (sm 2166136261 bs) 4).map (Value.int .u8)) := by rw [← H4.out]; simpa using hown10
  obtain ⟨g10, c10, rfl⟩ := own_addr hown10' (by omega)
  have HO10 := Lib.hid hown10'
  have HB10 := Lib.hid (HB9.out.trans (grown_belowB hgrow10 (B := w.heap.size) (by omega) (fun k hk => by cases hk; exact own_lo HO9.out)))
  have hs10 := hgrow10.size
  have HLo10 := Lib.hid (own_lo hown10')
  clear hown10 hown10' hgrow10
  go_wp2_with fail
  refine (padded_any w.heap.size g10 28 c10 _ 64 H4.out (by omega) (by omega) (by omega) _ (by omega) HO10.out).mono ?_
  rintro e w11 ⟨v11, rfl, hown11, hgrow11⟩
  rw [← HX.out] at hown11
  have HO11 := Lib.hid hown11
  have HB11 := Lib.hid (HB10.out.trans (grown_belowB hgrow11 (B := w.heap.size) (by omega) (fun k hk => by cases hk; exact HLo10.out)))
  clear hown11 hgrow11
  go_wp2
  go_ret2
  exact ⟨_, rfl, HO11.out, HB11.out⟩

theorem rhead_bad (salt p r : Int) (w : World) (hb : ¬ ((0 ≤ p ∧ p ≤ 10000) ∧ (0 ≤ r ∧ r ≤ 10000))) :
    Calls Try.prog 66 #[.int .u64 salt, .int .i64 p, .int .i64 r] w (NonePost w) := by
  by_cases h1 : p < 0
  · go_enter Try.func66, Try.ntmps66
    go_wp2
    go_ret2
    exact ⟨rfl, Below.refl _ _⟩
  have h1' : 0 ≤ p := by omega
  by_cases h2 : 10000 < p
  · go_enter Try.func66, Try.ntmps66
    go_wp2
    go_ret2
    exact ⟨rfl, Below.refl _ _⟩
  have h2' : p ≤ 10000 := by omega
  by_cases h3 : r < 0
  · go_enter Try.func66, Try.ntmps66
    go_wp2
    go_ret2
    exact ⟨rfl, Below.refl _ _⟩
  have h3' : 0 ≤ r := by omega
  have h4 : 10000 < r := by omega
  go_enter Try.func66, Try.ntmps66
  go_wp2
  go_ret2
  exact ⟨rfl, Below.refl _ _⟩
end Go.Proofs.Ytbcjhngpcodaoaa
