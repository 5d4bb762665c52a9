/- JournalWrites: the law's walk. -/
import Derived.Test.YthgpdnbmilcgcabRefR
namespace Go.Proofs.Ythgpdnbmilcgcab
open Go.RowKit
set_option linter.unusedVariables false

/-- what a writing function answers, right or wrong -/
def AnsPost (w : World) (zs : List Int) (c : Int) (e : Ending) (w' : World) : Prop :=
  ∃ v : Value, e = .returned (.tuple #[v, .int .i64 c]) ∧ w'.ownsRow w.heap.size 5 1 v zs.length (zs.map (Value.int .u8)) ∧ Below w.heap.size w w'
theorem ans_good {w : World} {zs : List Int} {e : Ending} {w' : World} (h : RowKPost w zs e w') : AnsPost w zs 0 e w' := h
theorem ans_none {w : World} {e : Ending} {w' : World} (h : NonePost w e w') : AnsPost w [] 1 e w' := ⟨_, h.1, World.ownsRow_nil _ _ _ _, h.2⟩

/-- Head of both: the same bytes, the same number -/
theorem heads (salt p r : Int) (s0 : 0 ≤ salt) (s1 : salt ≤ 18446744073709551615) (hp : -9223372036854775808 ≤ p ∧ p ≤ 9223372036854775807) (hr : -9223372036854775808 ≤ r ∧ r ≤ 9223372036854775807) :
    ∃ (zs : List Int) (c : Int), (∀ z ∈ zs, 0 ≤ z ∧ z ≤ 255) ∧ (∀ w, Calls Try.prog 19 #[.int .u64 salt, .int .i64 p, .int .i64 r] w (AnsPost w zs c)) ∧ (∀ w, Calls Try.prog 20 #[.int .u64 salt, .int .i64 p, .int .i64 r] w (AnsPost w zs c)) := by
  by_cases h : (0 ≤ p ∧ p ≤ 10000) ∧ (0 ≤ r ∧ r ≤ 10000)
  · exact ⟨headK salt p r, 0, headK_range _ _ _, fun w => (head_good salt p r w s0 s1 h.1 h.2).mono fun e w' h => ans_good h, fun w => (rhead_good salt p r w s0 s1 h.1 h.2).mono fun e w' h => ans_good h⟩
  · exact ⟨[], 1, by simp, fun w => (head_bad salt p r w hp hr h).mono fun e w' h => ans_none h, fun w => (rhead_bad salt p r w h).mono fun e w' h => ans_none h⟩

/-- Record of both: the same bytes, the same number -/
theorem records (salt n : Int) (a : Option Addr) (len cap : Nat) (data : List Int) (w0 : World) (s0 : 0 ≤ salt) (s1 : salt ≤ 18446744073709551615) (hn : -9223372036854775808 ≤ n ∧ n ≤ 9223372036854775807)
    (hI : IsB w0 a len data) (ha : ∀ x, len ≠ 0 → a = some x → x.block < w0.heap.size) (hnil : a = none → len = 0 ∧ cap = 0) :
    ∃ (zs : List Int) (c : Int), (∀ z ∈ zs, 0 ≤ z ∧ z ≤ 255) ∧ (∀ w, Below w0.heap.size w0 w → Calls Try.prog 21 #[.int .u64 salt, .int .i64 n, .slice a len cap] w (AnsPost w zs c)) ∧ (∀ w, Below w0.heap.size w0 w → Calls Try.prog 22 #[.int .u64 salt, .int .i64 n, .slice a len cap] w (AnsPost w zs c)) := by
  by_cases h : (0 ≤ n ∧ n ≤ 10000) ∧ len = 512
  · obtain ⟨h, rfl⟩ := h
    exact ⟨recK salt n data, 0, recK_range _ _ hI.mem,
      fun w hb => (record_good salt n a cap data w s0 s1 h (hI.below hb ha) (fun x hx hy => Nat.lt_of_lt_of_le (ha x hx hy) hb.size) hnil).mono fun e w' h => ans_good h,
      fun w hb => (rrecord_good salt n a cap data w s0 s1 h (hI.below hb ha) (fun x hx hy => Nat.lt_of_lt_of_le (ha x hx hy) hb.size) hnil).mono fun e w' h => ans_good h⟩
  · exact ⟨[], 1, by simp, fun w _ => (record_bad salt n a len cap w hn hI.2.1 h).mono fun e w' h => ans_none h, fun w _ => (rrecord_bad salt n a len cap w h).mono fun e w' h => ans_none h⟩

set_option maxHeartbeats 1600000 in
theorem jawake_any (w : World) : Calls Try.prog 18 #[] w fun e w' => e = .returned (.bool true) ∧ Below w.heap.size w w' := by
  go_enter Try.func18, Try.ntmps18
  go_wp2_with fail
  refine (head_good 1 2 0 _ (by omega) (by omega) (by omega) (by omega)).mono ?_
  rintro e w1 ⟨v1, rfl, hown1, hb1⟩
  rw [headK_length] at hown1
  obtain ⟨g1, c1, rfl⟩ := own_addr hown1 (by omega)
  have HB1 := Lib.hid hb1
  clear hown1 hb1
  go_wp2_with fail
  refine (sum_any none 0 0 [] _ (isB_nil _)).mono ?_
  rintro e w2 ⟨rfl, hw2⟩
  subst hw2
  rw [show sm 2166136261 [] = 2166136261 from rfl]
  go_wp2
  go_ret
  exact ⟨rfl, HB1.out⟩

/-- what an argument of bytes is -/
def BArg (w : World) (a : Option Addr) (len cap : Nat) (zs : List Int) : Prop :=
  IsB w a len zs ∧ (∀ x, len ≠ 0 → a = some x → x.block < w.heap.size) ∧ (a = none → len = 0 ∧ cap = 0)

set_option maxHeartbeats 1600000 in
theorem journalWrites_walk (a : Option Addr) (len cap : Nat) (zs : List Int) (salt p r n : Int) (d : Option Addr) (ld cd : Nat) (zd : List Int) (w : World) (HA : Hid (BArg w a len cap zs)) (HD : Hid (BArg w d ld cd zd))
    (s0 : 0 ≤ salt) (s1 : salt ≤ 18446744073709551615) (hp : -9223372036854775808 ≤ p ∧ p ≤ 9223372036854775807) (hr : -9223372036854775808 ≤ r ∧ r ≤ 9223372036854775807) (hn : -9223372036854775808 ≤ n ∧ n ≤ 9223372036854775807) :
    Calls Try.prog 7 #[.slice a len cap, .int .u64 salt, .int .i64 p, .int .i64 r, .int .i64 n, .slice d ld cd] w fun e w' => e = .returned (.bool true) ∧ Below w.heap.size w w' := by
  obtain ⟨hz, hc, hrg, hh1, hh2⟩ := heads salt p r s0 s1 hp hr
  obtain ⟨rz, rc, rrg, hr1, hr2⟩ := records salt n d ld cd zd w s0 s1 hn HD.out.1 HD.out.2.1 HD.out.2.2
  have HH1 := Lib.hid hh1
  have HH2 := Lib.hid hh2
  have HR1 := Lib.hid hr1
  have HR2 := Lib.hid hr2
  have HRG := Lib.hid hrg
  have RRG := Lib.hid rrg
  clear hh1 hh2 hr1 hr2 hrg rrg
  go_enter Try.func7, Try.ntmps7
  go_wp2_with fail
  refine (jawake_any _).mono ?_
  rintro e w1 ⟨rfl, hb1⟩
  have HB1 := Lib.hid hb1
  clear hb1
  go_wp2_with fail
  refine (HH1.out _).mono ?_
  rintro e w2 ⟨v2, rfl, hown2, hb2⟩
  have HO2 := Lib.hid hown2
  have HB2 := Lib.hid (bt HB1.out hb2)
  clear hown2 hb2
  go_wp2_with fail
  refine (HH2.out _).mono ?_
  rintro e w3 ⟨v3, rfl, hown3, hb3⟩
  have HO2b := Lib.hid (own_below HO2.out hb3)
  have HO3 := Lib.hid hown3
  have HB3 := Lib.hid (bt HB2.out hb3)
  clear hown3 hb3
  go_wp2_with fail
  refine (HR1.out _ HB3.out).mono ?_
  rintro e w4 ⟨v4, rfl, hown4, hb4⟩
  have HO2c := Lib.hid (own_below HO2b.out hb4)
  have HO3b := Lib.hid (own_below HO3.out hb4)
  have HO4 := Lib.hid hown4
  have HB4 := Lib.hid (bt HB3.out hb4)
  clear hown4 hb4
  go_wp2_with fail
  refine (HR2.out _ HB4.out).mono ?_
  rintro e w5 ⟨v5, rfl, hown5, hb5⟩
  have HB5 := Lib.hid (bt HB4.out hb5)
  obtain ⟨a2, L2, c2, rfl, hl2, i2, _, n2, _, _⟩ := own_any (own_below HO2c.out hb5) HRG.out
  obtain ⟨a3, L3, c3, rfl, hl3, i3, _, n3, _, _⟩ := own_any (own_below HO3b.out hb5) HRG.out
  obtain ⟨a4, L4, c4, rfl, hl4, i4, _, n4, _, _⟩ := own_any (own_below HO4.out hb5) RRG.out
  obtain ⟨a5, L5, c5, rfl, hl5, i5, _, n5, _, _⟩ := own_any hown5 RRG.out
  have t2 := str_any (cb := c2) i2 n2
  have t3 := str_any (cb := c3) i3 n3
  have t4 := str_any (cb := c4) i4 n4
  have t5 := str_any (cb := c5) i5 n5
  clear hown5 hb5 HO2 HO2b HO2c HO3 HO3b HO4 i2 i3 i4 i5 n2 n3 n4 n5 hl2 hl3 hl4 hl5
  generalize strOfNums hz = S at t2 t3
  generalize strOfNums rz = T at t4 t5
  go_wp2_with fail
  refine (sum_any a len cap zs _ (HA.out.1.below HB5.out HA.out.2.1)).mono ?_
  rintro e w6 ⟨rfl, hw6⟩
  subst hw6
  go_wp2_with fail
  refine (rsum_any a len cap zs _ (HA.out.1.below HB5.out HA.out.2.1)).mono ?_
  rintro e w6' ⟨rfl, hw6⟩
  subst hw6
  generalize sm 2166136261 zs = q
  go_wp2
  go_ret
  exact ⟨rfl, HB5.out⟩
end Go.Proofs.Ythgpdnbmilcgcab
