/- A row's key; a new bag. -/
import Derived.Test.YtplgkblahmndoaaKeyA0
import Derived.Test.YtplgkblahmndoaaVal1
import Derived.Maps.OwnSet
namespace Go.Proofs.Ytplgkblahmndoaa
open Go.RowKit
set_option linter.unusedVariables false
set_option maxRecDepth 100000

theorem allF_ok {vs : List Val} (h : allF vs = true) (hr : ∀ v ∈ vs, -9223372036854775808 ≤ v.2.1 ∧ v.2.1 ≤ 9223372036854775807) : ∀ v ∈ vs, okV v := fun v hv => ⟨List.all_eq_true.1 h v hv, hr v hv⟩
/-- Key answers something, and makes memory alone -/
def KeySome (w : World) (e : Ending) (w' : World) : Prop := ∃ (v : Value) (c : Int), e = .returned (.tuple #[v, .int .i64 c]) ∧ Below w.heap.size w w'
theorem key_some (a : Option Addr) (len cap : Nat) (vs : List Val) (w : World) (hv : IsV w a len vs) (hr : ∀ v ∈ vs, -9223372036854775808 ≤ v.2.1 ∧ v.2.1 ≤ 9223372036854775807) (hlen : len ≤ 1000) :
    Calls Try.prog 55 #[.slice a len cap] w (KeySome w) := by
  cases h : allF vs with
  | false => exact (key_bad a len cap vs w hv h).mono fun e w' h => ⟨_, _, h.1, h.2⟩
  | true => exact (key_good a len cap vs w hv (allF_ok h hr) hlen).mono fun e w' ⟨v, h1, h2, h3⟩ => ⟨_, _, h1, h3⟩

set_option maxHeartbeats 800000 in
theorem bnew (w : World) : Calls Try.prog 50 #[] w fun e w' => e = .returned (.pointer (some ⟨w.heap.size, 0, none⟩)) ∧ w' = w.alloc (.cells #[.map none] 111) := by
  go_enter Try.func50, Try.ntmps50
  go_wp2
  go_ret
  exact ⟨rfl, rfl⟩
end Go.Proofs.Ytplgkblahmndoaa
