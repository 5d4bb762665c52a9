/- Contract of journal's Record. -/
import Derived.Test.YtbcjhngpcodaoaaHeadW
namespace Go.Proofs.Ytbcjhngpcodaoaa
open Go.RowKit
set_option linter.unusedVariables false
set_option maxRecDepth 100000

/-- what of a record stands before its sum -/
def recB (n : Int) (data : List Int) : List Int := beN n 4 ++ data
/-- a record's sum -/
def recS (salt n : Int) (data : List Int) : Int := sm (sm 2166136261 (beN salt 8)) (recB n data)
/-- a record's bytes -/
def recK (salt n : Int) (data : List Int) : List Int := (recB n data ++ beN (recS salt n data) 4) ++ noughts 56
theorem recB_length (n : Int) {data : List Int} (h : data.length = 512) : (recB n data).length = 516 := by simp [recB, beN_length, h]
theorem recB_range (n : Int) {data : List Int} (h : ∀ z ∈ data, 0 ≤ z ∧ z ≤ 255) : ∀ z ∈ recB n data, 0 ≤ z ∧ z ≤ 255 := by
  intro z hz
  rcases List.mem_append.1 hz with h' | h'
  · exact beN_range _ _ z h'
  · exact h z h'
theorem recS_range (salt n : Int) (data : List Int) : 0 ≤ recS salt n data ∧ recS salt n data ≤ 4294967295 := sm_range _ _ (sum_range _).1 (sum_range _).2
theorem recK_length (salt n : Int) {data : List Int} (h : data.length = 512) : (recK salt n data).length = 576 := by simp [recK, recB_length n h, beN_length, noughts_length]
theorem recK_range (salt n : Int) {data : List Int} (h : ∀ z ∈ data, 0 ≤ z ∧ z ≤ 255) : ∀ z ∈ recK salt n data, 0 ≤ z ∧ z ≤ 255 := by
  intro z hz
  rcases List.mem_append.1 hz with h' | h'
  · rcases List.mem_append.1 h' with h' | h'
    · exact recB_range n h z h'
    · exact beN_range _ _ z h'
  · exact noughts_range _ z h'

set_option maxHeartbeats 4000000 in
theorem record_good (salt n : Int) (a : Option Addr) (cap : Nat) (data : List Int) (w : World) (s0 : 0 ≤ salt) (s1 : salt ≤ 18446744073709551615) (hn : 0 ≤ n ∧ n ≤ 10000)
    (hI : IsB w a 512 data) (ha : ∀ x, (512 : Nat) ≠ 0 → a = some x → x.block < w.heap.size) (hnil : a = none → (512 : Nat) = 0 ∧ cap = 0) :
    Calls Try.prog 17 #[.int .u64 salt, .int .i64 n, .slice a 512 cap] w (RowKPost w (recK salt n data)) := by
  have hwn := (wrap_small hn).1
  have hn0 := hn.1
  have hn1 := hn.2
  have HI := Lib.hid hI
  have HA := Lib.hid ha
  have HL := Lib.hid hI.1
  have HRg := Lib.hid hI.mem
  have HB := Lib.hid (recB_length n hI.1)
  have HX := Lib.hid (show recK salt n data = (recB n data ++ beN (recS salt n data) 4) ++ noughts (576 - ((recB n data).length + 4)) by rw [HB.out]; rfl)
  have HRS := Lib.hid (recS_range salt n data)
  have HRB := Lib.hid (recB_range n hI.mem)
  have HS8 := Lib.hid (sum_range (beN salt 8))
  clear hI ha
  go_enter Try.func17, Try.ntmps17
  go_wp2_with fail
  refine (fits_any n _ (by omega) (by omega)).mono ?_
  rintro e w1 ⟨rfl, hw1⟩
  subst hw1
  rw [decide_eq_true hn]
  go_wp2_with fail
  refine (beAppend_any w1.heap.size (.slice none 0 0) [] n hn0 (by omega) 4 (by omega) _ (by simp) (by omega) (World.ownsRow_nil _ _ _ _)).mono ?_
  rintro e w2 ⟨v2, rfl, hown2, hgrow2⟩
  rw [List.nil_append] at hown2
  have HO2 := Lib.hid hown2
  have HB2 := Lib.hid (grown_belowB hgrow2 (B := w1.heap.size) (by omega) (fun k hk => by cases hk))
  have hs2 := hgrow2.size
  have HI2 := Lib.hid (HI.out.below HB2.out HA.out)
  have HV2 := Lib.hid hown2.lt
  clear hown2 hgrow2
  go_wp2_with (at_builtin; refine wpList_slice rfl (.tmp 19) (.tmp 20) rfl w1.heap.size v2 (beN n 4) a 512 cap data rfl rfl HO2.out HI2.out hnil ?c1 ?c2 ?_)
  case c1 => rw [beN_length]; omega
  case c2 => omega
  intro v3 w3 hown3 hgrow3
  have hown3' : w3.ownsRow w1.heap.size 5 1 v3 516 ((recB n data).map (Value.int .u8)) := by rw [← HB.out]; simpa [recB] using hown3
  obtain ⟨g3, c3, rfl⟩ := own_addr hown3' (by omega)
  have HO3 := Lib.hid hown3'
  have HB3 := Lib.hid (HB2.out.trans (grown_belowB hgrow3 (B := w1.heap.size) (by omega) (fun k hk => (HV2.out k hk).1)))
  have hs3 := hgrow3.size
  clear hown3 hown3' hgrow3
  go_wp2_with fail
  refine (beAppend_any w3.heap.size (.slice none 0 0) [] salt s0 s1 8 (by omega) _ (by simp) (by omega) (World.ownsRow_nil _ _ _ _)).mono ?_
  rintro e w4 ⟨v4, rfl, hown4, hgrow4⟩
  rw [List.nil_append, beN_length] at hown4
  obtain ⟨g4, c4, rfl⟩ := own_addr hown4 (by omega)
  have HI4 := Lib.hid (own_isB hown4 (beN_length _ _) (beN_range _ _))
  have hb4 := grown_belowB hgrow4 (B := w3.heap.size) (by omega) (fun k hk => by cases hk)
  have HO4 := Lib.hid (own_below HO3.out hb4)
  have HB4 := Lib.hid (HB3.out.trans (hb4.mono (by omega)))
  have HI4b := Lib.hid (own_isB HO4.out HB.out HRB.out)
  have hs4 := hgrow4.size
  clear hown4 hgrow4 hb4
  go_wp2_with fail
  refine (sum_any _ _ _ (beN salt 8) _ HI4.out).mono ?_
  rintro e w5 ⟨rfl, hw5⟩
  subst hw5
  go_wp2_with fail
  refine (more_any _ _ _ _ (recB n data) _ HI4b.out HS8.out.1 HS8.out.2).mono ?_
  rintro e w5 ⟨rfl, hw5⟩
  subst hw5
  rw [show sm (sm 2166136261 (beN salt 8)) (recB n data) = recS salt n data from rfl]
  go_wp2_with fail
  refine (filled_any w1.heap.size _ (recB n data) _ HRS.out.1 HRS.out.2 576 HRB.out (by rw [HB.out]; omega) (by omega) _ (by omega) (by rw [HB.out]; exact HO4.out)).mono ?_
  rintro e w6 ⟨g6, rfl, hown6, hb6⟩
  rw [← HX.out] at hown6 ⊢
  have HO6 := Lib.hid hown6
  have HB6 := Lib.hid (HB4.out.trans hb6)
  clear hown6 hb6
  go_wp2
  go_ret2
  exact ⟨_, rfl, HO6.out, HB6.out⟩

theorem record_bad (salt n : Int) (a : Option Addr) (len cap : Nat) (w : World) (hn : -9223372036854775808 ≤ n ∧ n ≤ 9223372036854775807) (hl : len ≤ 9223372036854775807) (hb : ¬ ((0 ≤ n ∧ n ≤ 10000) ∧ len = 512)) :
    Calls Try.prog 17 #[.int .u64 salt, .int .i64 n, .slice a len cap] w (NonePost w) := by
  go_enter Try.func17, Try.ntmps17
  go_wp2_with fail
  refine (fits_any n _ hn.1 hn.2).mono ?_
  rintro e w1 ⟨rfl, hw1⟩
  subst hw1
  by_cases h : 0 ≤ n ∧ n ≤ 10000
  · rw [decide_eq_true h]
    have h2 : len ≠ 512 := fun h2 => hb ⟨h, h2⟩
    have h3 : ((len : Int) != 512) = true := by rw [bne_iff_ne]; omega
    clear h2
    go_wp2
    go_ret2
    exact ⟨rfl, Below.refl _ _⟩
  · rw [decide_eq_false h]
    go_wp2
    go_ret2
    exact ⟨rfl, Below.refl _ _⟩
end Go.Proofs.Ytbcjhngpcodaoaa
