/- LexerNames: the law's walk: every text, every rune. -/
import Derived.Test.YtbcjhngpcodaoaaDoorLxKey
import Derived.Test.YtbcjhngpcodaoaaDoorLxStep
namespace Go.Proofs.YtbcjhngpcodaoaaDoor
open Go.RowKit
set_option linter.unusedVariables false
set_option maxRecDepth 100000

set_option maxHeartbeats 1600000 in
theorem rname_any (s : ByteArray) (w : World) (hs : s.size ≤ 140737488355328) : Calls Tryd.prog 18 #[.string s] w fun e w' => e = .returned (.bool (nmB s)) ∧ Below w.heap.size w w' := by
  have HE := Lib.hid (nmB_eq s)
  have HS := Lib.hid hs
  obtain ⟨b, hb⟩ : ∃ b, b = nmB s := ⟨_, rfl⟩
  rw [← hb]
  have HB := Lib.hid hb
  clear hb hs
  go_enter Tryd.func18, Tryd.ntmps18
  go_wp2_with fail
  refine (rnamed_any s _ (by have := HS.out; omega)).mono ?_
  rintro e w1 ⟨rfl, hb1⟩
  have HB1 := Lib.hid hb1
  clear hb1
  cases hn : nmdB s with
  | false =>
    have HN := Lib.hid hn
    clear hn
    go_wp2
    go_ret
    exact ⟨by rw [HB.out, HE.out, HN.out]; rfl, HB1.out⟩
  | true =>
    have HN := Lib.hid hn
    clear hn
    go_wp2_with fail
    refine (rkeyword_any s _ HS.out).mono ?_
    rintro e w2 ⟨rfl, hw⟩
    subst hw
    go_wp2
    go_ret
    exact ⟨by rw [HB.out, HE.out, HN.out]; rfl, HB1.out⟩

set_option maxHeartbeats 1600000 in
theorem lexerNames_walk (s : ByteArray) (r : Int) (w : World) (hs : s.size ≤ 140737488355328) : Calls Tryd.prog 5 #[.string s, .int .i32 r] w fun e w' => e = .returned (.bool true) ∧ Below w.heap.size w w' := by
  have HS := Lib.hid hs
  clear hs
  go_enter Tryd.func5, Tryd.ntmps5
  go_wp2_with fail
  refine (lawake_any _).mono ?_
  rintro e w1 ⟨rfl, hb1⟩
  have HB1 := Lib.hid hb1
  clear hb1
  go_wp2_with fail
  refine (name_any s _ (by have := HS.out; omega)).mono ?_
  rintro e w2 ⟨rfl, hb2⟩
  have HB2 := Lib.hid (bt HB1.out hb2)
  clear hb2
  generalize hx : nmB s = x
  have HX := Lib.hid hx
  clear hx
  go_wp2_with fail
  refine (rname_any s _ HS.out).mono ?_
  rintro e w3 ⟨rfl, hb3⟩
  have HB3 := Lib.hid (bt HB2.out hb3)
  clear hb3
  rw [HX.out]
  go_wp2_with fail
  refine (keyword_any s _).mono ?_
  rintro e w4 ⟨rfl, hw⟩
  subst hw
  generalize hy : kwB s = y
  have HY := Lib.hid hy
  clear hy
  go_wp2_with fail
  refine (rkeyword_any s _ HS.out).mono ?_
  rintro e w4 ⟨rfl, hw⟩
  subst hw
  rw [HY.out]
  go_wp2_with fail
  refine (letter_any r _).mono ?_
  rintro e w4 ⟨rfl, hw⟩
  subst hw
  generalize hz : letZ r = z
  have HZ := Lib.hid hz
  clear hz
  go_wp2_with fail
  refine (rletter_any r _).mono ?_
  rintro e w4 ⟨rfl, hw⟩
  subst hw
  rw [HZ.out]
  go_wp2
  go_ret
  exact ⟨by simp, HB3.out⟩
end Go.Proofs.YtbcjhngpcodaoaaDoor
