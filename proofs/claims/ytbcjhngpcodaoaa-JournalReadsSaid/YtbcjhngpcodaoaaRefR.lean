/- Contract of the document's Record. -/
import Derived.Test.YtbcjhngpcodaoaaRefH
namespace Go.Proofs.Ytbcjhngpcodaoaa
open Go.RowKit
set_option linter.unusedVariables false
set_option maxRecDepth 100000

set_option maxHeartbeats 4000000 in
theorem rrecord_good (salt n : Int) (a : Option Addr) (cap : Nat) (data : List Int) (w : World) (s0 : 0 ≤ salt) (s1 : salt ≤ 18446744073709551615) (hn : 0 ≤ n ∧ n ≤ 10000)
    (hI : IsB w a 512 data) (ha : ∀ x, (512 : Nat) ≠ 0 → a = some x → x.block < w.heap.size) (hnil : a = none → (512 : Nat) = 0 ∧ cap = 0) :
    Calls Try.prog 67 #[.int .u64 salt, .int .i64 n, .slice a 512 cap] w (RowKPost w (recK salt n data)) := by
  have hwn := (wrap_small hn).2
  have hn0 := hn.1
  have hn1 := hn.2
  have HI := Lib.hid hI
  have HA := Lib.hid ha
  have HB := Lib.hid (recB_length n hI.1)
  have HRS := Lib.hid (recS_range salt n data)
  have HRB := Lib.hid (recB_range n hI.mem)
  have HX := Lib.hid (show recK salt n data = (recB n data ++ beN (recS salt n data) 4) ++ noughts (576 - 520) from rfl)
  have HSm := Lib.hid (show sm 2166136261 (beN salt 8 ++ recB n data) = recS salt n data from sm_append _ _ _)
  clear hI ha
  go_enter Try.func67, Try.ntmps67
  go_wp2_with fail
  refine (four_own n _ hn0 (by omega)).mono ?_
  rintro e w2 ⟨g2, rfl, hown2, hgrow2⟩
  have hb2 := grown_belowB hgrow2 (B := w.heap.size) (by omega) (fun k hk => by cases hk)
  have HO2 := Lib.hid hown2
  have HB2 := Lib.hid hb2
  have HI2 := Lib.hid (HI.out.below hb2 HA.out)
  have hs2 := hgrow2.size
  clear hown2 hgrow2 hb2
  go_wp2_with (at_builtin; refine wpList_slice rfl (.tmp 23) (.tmp 24) rfl w.heap.size (.slice (some ⟨g2, 0, none⟩) 4 4) (beN n 4) a 512 cap data rfl rfl ?c1 HI2.out hnil ?c2 ?c3 ?_)
  case c1 => rw [beN_length]; exact HO2.out
  case c2 => rw [beN_length]; omega
  case c3 => omega
  intro v3 w3 hown3 hgrow3
  have hown3' : w3.ownsRow w.heap.size 5 1 v3 516 ((recB n data).map (Value.int .u8)) := by rw [← HB.out]; simpa [recB] using hown3
  obtain ⟨g3, c3, rfl⟩ := own_addr hown3' (by omega)
  have HO3 := Lib.hid hown3'
  have HB3 := Lib.hid (HB2.out.trans (grown_belowB hgrow3 (B := w.heap.size) (by omega) (fun k hk => by cases hk; exact own_lo HO2.out)))
  have hs3 := hgrow3.size
  clear hown3 hown3' hgrow3
  go_wp2_with fail
  refine (eight_any salt _ s0 s1).mono ?_
  rintro e w4 ⟨v4, rfl, hown4, hgrow4⟩
  rw [beN_length] at hown4
  obtain ⟨g4, c4, rfl⟩ := own_addr hown4 (by omega)
  have hb4 := grown_belowB hgrow4 (B := w3.heap.size) (by omega) (fun k hk => by cases hk)
  have HO4 := Lib.hid hown4
  have HO3b := Lib.hid (own_below HO3.out hb4)
  have HB34 := Lib.hid hb4
  have HB4 := Lib.hid (HB3.out.trans (hb4.mono (by omega)))
  have HI3b := Lib.hid (own_isB HO3b.out HB.out HRB.out)
  have hs4 := hgrow4.size
  clear hown4 hgrow4 hb4
  have H5 := Lib.hid (show (beN salt 8 ++ recB n data).length = 524 by rw [List.length_append, beN_length, HB.out])
  go_wp2_with (at_builtin; refine wpList_slice rfl (.tmp 27) (.tmp 28) rfl w3.heap.size (.slice (some ⟨g4, 0, none⟩) 8 c4) (beN salt 8) (some ⟨g3, 0, none⟩) 516 c3 (recB n data) rfl rfl ?d1 HI3b.out ?d2 ?d3 ?d4 ?_)
  case d1 => rw [beN_length]; exact HO4.out
  case d2 => intro h; cases h
  case d3 => rw [beN_length]; omega
  case d4 => omega
  intro v5 w5 hown5 hgrow5
  have hown5' : w5.ownsRow w3.heap.size 5 1 v5 524 ((beN salt 8 ++ recB n data).map (Value.int .u8)) := by rw [← H5.out]; simpa using hown5
  obtain ⟨g5, c5, rfl⟩ := own_addr hown5' (by omega)
  have hb5 : Below w3.heap.size w4 w5 := grown_belowB hgrow5 (by omega) (fun k hk => by cases hk; exact own_lo HO4.out)
  have HO5 := Lib.hid (own_below HO3.out (HB34.out.trans hb5))
  have HB5 := Lib.hid (HB4.out.trans (hb5.mono (by omega)))
  have HI5 := Lib.hid (own_isB hown5' H5.out (fun z hz => by
    rcases List.mem_append.1 hz with h | h
    · exact beN_range _ _ z h
    · exact HRB.out z h))
  have hs5 := hgrow5.size
  clear hown5 hown5' hgrow5 hb5
  go_wp2_with fail
  refine (rsum_any _ _ _ (beN salt 8 ++ recB n data) _ HI5.out).mono ?_
  rintro e w6 ⟨rfl, hw6⟩
  subst hw6
  rw [HSm.out]
  have H6 := Lib.hid (show (recB n data ++ beN (recS salt n data) 4).length = 520 by rw [List.length_append, HB.out, beN_length])
  generalize recS salt n data = s at *
  generalize recB n data = bs at *
  go_wp2_with fail
  refine (four_own s _ HRS.out.1 HRS.out.2).mono ?_
  rintro e w9 ⟨g9, rfl, hown9, hgrow9⟩
  have hb9 := grown_belowB hgrow9 (B := w6.heap.size) (by omega) (fun k hk => by cases hk)
  have HO9 := Lib.hid (own_below HO5.out hb9)
  have HB9 := Lib.hid (HB5.out.trans (hb9.mono (by omega)))
  have HI9 := Lib.hid (own_isB hown9 (beN_length _ _) (beN_range _ _))
  have hs9 := hgrow9.size
  clear hown9 hgrow9 hb9
  go_wp2_with (at_builtin; refine wpList_slice rfl (.tmp 31) (.tmp 33) rfl w.heap.size (.slice (some ⟨g3, 0, none⟩) 516 c3) bs (some ⟨g9, 0, none⟩) 4 4 (beN s 4) rfl rfl ?f1 HI9.out ?f2 ?f3 ?f4 ?_)
  case f1 => rw [HB.out]; exact HO9.out
  case f2 => intro h; cases h
  case f3 => rw [HB.out]; omega
  case f4 => omega
  intro v10 w10 hown10 hgrow10
  have hown10' : w10.ownsRow w.heap.size 5 1 v10 520 ((bs ++ beN s 4).map (Value.int .u8)) := by rw [← H6.out]; simpa using hown10
  obtain ⟨g10, c10, rfl⟩ := own_addr hown10' (by omega)
  have HO10 := Lib.hid hown10'
  have HB10 := Lib.hid (HB9.out.trans (grown_belowB hgrow10 (B := w.heap.size) (by omega) (fun k hk => by cases hk; exact own_lo HO9.out)))
  have hs10 := hgrow10.size
  have HLo10 := Lib.hid (own_lo hown10')
  clear hown10 hown10' hgrow10
  go_wp2_with fail
  refine (padded_any w.heap.size g10 520 c10 _ 576 H6.out (by omega) (by omega) (by omega) _ (by omega) HO10.out).mono ?_
  rintro e w11 ⟨v11, rfl, hown11, hgrow11⟩
  rw [← HX.out] at hown11
  have HO11 := Lib.hid hown11
  have HB11 := Lib.hid (HB10.out.trans (grown_belowB hgrow11 (B := w.heap.size) (by omega) (fun k hk => by cases hk; exact HLo10.out)))
  clear hown11 hgrow11
  go_wp2
  go_ret2
  exact ⟨_, rfl, HO11.out, HB11.out⟩

theorem rrecord_bad (salt n : Int) (a : Option Addr) (len cap : Nat) (w : World) (hb : ¬ ((0 ≤ n ∧ n ≤ 10000) ∧ len = 512)) :
    Calls Try.prog 67 #[.int .u64 salt, .int .i64 n, .slice a len cap] w (NonePost w) := by
  by_cases h1 : n < 0
  · go_enter Try.func67, Try.ntmps67
    go_wp2
    go_ret2
    exact ⟨rfl, Below.refl _ _⟩
  have h1' : 0 ≤ n := by omega
  by_cases h2 : 10000 < n
  · go_enter Try.func67, Try.ntmps67
    go_wp2
    go_ret2
    exact ⟨rfl, Below.refl _ _⟩
  have h2' : n ≤ 10000 := by omega
  have h3 : ((len : Int) != 512) = true := by rw [bne_iff_ne]; omega
  go_enter Try.func67, Try.ntmps67
  go_wp2
  go_ret2
  exact ⟨rfl, Below.refl _ _⟩
end Go.Proofs.Ytbcjhngpcodaoaa
