/- Contract of bytes.Equal: every two slices of bytes. -/
import Derived.Test.YtbcjhngpcodaoaaBytes
import Derived.Test.YtbcjhngpcodaoaaAftPure
namespace Go.Proofs.Ytbcjhngpcodaoaa
open Go.RowKit
set_option linter.unusedVariables false
set_option maxRecDepth 100000

theorem equal_any (a b : Option Addr) (la ca lb cb : Nat) (za zb : List Int) (w : World) (h1 : IsB w a la za) (n1 : a = none → la = 0 ∧ ca = 0) (h2 : IsB w b lb zb) (n2 : b = none → lb = 0 ∧ cb = 0) :
    Calls Try.prog 126 #[.slice a la ca, .slice b lb cb] w fun e w' => e = .returned (.bool (decide (za = zb))) ∧ w' = w := by
  have t1 := str_any h1 n1
  have t2 := str_any h2 n2
  have HE := Lib.hid (eq_str za zb h1.mem h2.mem)
  clear h1 n1 h2 n2
  generalize strOfNums za = S at *
  generalize strOfNums zb = T at *
  go_enter Try.func126, Try.ntmps126
  go_wp2
  go_ret
  exact ⟨by rw [← HE.out]; rfl, rfl⟩
end Go.Proofs.Ytbcjhngpcodaoaa
