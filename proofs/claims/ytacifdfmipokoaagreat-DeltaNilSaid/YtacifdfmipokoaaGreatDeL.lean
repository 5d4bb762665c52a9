/- DeltaNil: the law's walk. -/
import Derived.Test.YtacifdfmipokoaaGreatDeA
namespace Go.Proofs.YtacifdfmipokoaaGreat
open Go.RowKit
set_option linter.unusedVariables false
set_option maxRecDepth 100000

set_option maxHeartbeats 3200000 in
theorem deltaNil_walk (n : Int) (a : Option Addr) (len cap : Nat) (w : World) (h : IsL3 w a len) :
    Calls Tryz.prog 3 #[.int .i64 n, .slice a len cap] w fun e w' => e = .returned (.bool true) ∧ Below w.heap.size w w' := by
  have H := Lib.hid h
  clear h
  go_enter Tryz.func3, Tryz.ntmps3
  go_wp2_with fail
  refine (deawake_any _).mono ?_
  rintro e w1 ⟨rfl, hb1⟩
  have HB1 := Lib.hid hb1
  clear hb1
  go_wp2_with fail
  refine (fewrows_any a len cap 15 (by omega) (by omega) _ (H.out.below HB1.out)).mono ?_
  rintro e w2 ⟨b, rfl, hw⟩
  subst hw
  cases b with
  | false =>
    go_wp2_with fail
    refine (deawake_any _).mono ?_
    rintro e w3 ⟨rfl, hb3⟩
    have HB3 := Lib.hid (bt HB1.out hb3)
    clear hb3
    go_wp2
    go_ret
    exact ⟨rfl, HB3.out⟩
  | true =>
    go_wp2_with fail
    refine (vrows_nil _).mono ?_
    rintro e w3 ⟨rfl, hw⟩
    subst hw
    go_wp2_with fail
    refine (vfill_nil a len cap _).mono ?_
    rintro e w4 ⟨rfl, hw⟩
    subst hw
    go_wp2_with fail
    refine (dbnew _).mono ?_
    rintro e w5 ⟨rfl, hb5⟩
    have HB5 := Lib.hid (bt HB1.out hb5)
    clear hb5
    go_wp2_with fail
    refine (vchange_nil n _ _).mono ?_
    rintro e w6 ⟨rfl, hw⟩
    subst hw
    go_wp2_with fail
    refine (ventries_nil _).mono ?_
    rintro e w7 ⟨rfl, hw⟩
    subst hw
    go_wp2_with fail
    refine (vload_nil _).mono ?_
    rintro e w8 ⟨rfl, hw⟩
    subst hw
    go_wp2
    go_ret
    exact ⟨rfl, HB5.out⟩
end Go.Proofs.YtacifdfmipokoaaGreat
