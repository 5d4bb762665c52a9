/- A nil bag: what each method answers. -/
import Derived.Test.YtmackldddhfmjaaKeyA0
import Derived.Test.YtmackldddhfmjaaVal1
import Derived.Maps.OwnSet
namespace Go.Proofs.Ytmackldddhfmjaa
open Go.RowKit
set_option linter.unusedVariables false
set_option maxRecDepth 100000

theorem allF_ok {vs : List Val} (h : allF vs = true) (hr : ∀ v ∈ vs, -9223372036854775808 ≤ v.2.1 ∧ v.2.1 ≤ 9223372036854775807) : ∀ v ∈ vs, okV v := fun v hv => ⟨List.all_eq_true.1 h v hv, hr v hv⟩
/-- Key answers something, and makes memory alone -/
def KeySome (w : World) (e : Ending) (w' : World) : Prop := ∃ (v : Value) (c : Int), e = .returned (.tuple #[v, .int .i64 c]) ∧ Below w.heap.size w w'
theorem key_some (a : Option Addr) (len cap : Nat) (vs : List Val) (w : World) (hv : IsV w a len vs) (hr : ∀ v ∈ vs, -9223372036854775808 ≤ v.2.1 ∧ v.2.1 ≤ 9223372036854775807) (hlen : len ≤ 1000) :
    Calls Try.prog 86 #[.slice a len cap] w (KeySome w) := by
  cases h : allF vs with
  | false => exact (key_bad a len cap vs w hv h).mono fun e w' h => ⟨_, _, h.1, h.2⟩
  | true => exact (key_good a len cap vs w hv (allF_ok h hr) hlen).mono fun e w' ⟨v, h1, h2, h3⟩ => ⟨_, _, h1, h3⟩

set_option maxHeartbeats 800000 in
theorem bnew (w : World) : Calls Try.prog 46 #[] w fun e w' => e = .returned (.pointer (some ⟨w.heap.size, 0, none⟩)) ∧ w' = w.alloc (.cells #[.map none] 152) := by
  go_enter Try.func46, Try.ntmps46
  go_wp2
  go_ret
  exact ⟨rfl, rfl⟩
set_option maxHeartbeats 800000 in
theorem brows_nil (w : World) : Calls Try.prog 40 #[.pointer none] w fun e w' => e = .returned (.tuple #[.slice none 0 0, .int .i64 1]) ∧ w' = w := by
  go_enter Try.func40, Try.ntmps40
  go_wp2
  go_ret2
  exact ⟨rfl, rfl⟩
set_option maxHeartbeats 800000 in
theorem badd_nil (a : Option Addr) (len cap : Nat) (n : Int) (w : World) : Calls Try.prog 41 #[.pointer none, .slice a len cap, .int .i64 n] w fun e w' => e = .returned (.int .i64 1) ∧ w' = w := by
  go_enter Try.func41, Try.ntmps41
  go_wp2
  go_ret
  exact ⟨rfl, rfl⟩
set_option maxHeartbeats 800000 in
theorem bcount_nil (a : Option Addr) (len cap : Nat) (vs : List Val) (w : World) (HV : Hid (IsV w a len vs)) (HR : Hid (∀ v ∈ vs, -9223372036854775808 ≤ v.2.1 ∧ v.2.1 ≤ 9223372036854775807)) (hlen : len ≤ 1000) :
    Calls Try.prog 42 #[.pointer none, .slice a len cap] w fun e w' => e = .returned (.int .i64 0) ∧ Below w.heap.size w w' := by
  go_enter Try.func42, Try.ntmps42
  go_wp2_with fail
  refine (key_some a len cap vs _ HV.out HR.out hlen).mono ?_
  rintro e w1 ⟨v, c, rfl, hb⟩
  have HB := Lib.hid hb
  clear hb
  go_wp2
  go_ret
  exact ⟨rfl, HB.out⟩
set_option maxHeartbeats 800000 in
theorem blen_nil (w : World) : Calls Try.prog 43 #[.pointer none] w fun e w' => e = .returned (.int .i64 0) ∧ w' = w := by
  go_enter Try.func43, Try.ntmps43
  go_wp2
  go_ret
  exact ⟨rfl, rfl⟩
set_option maxHeartbeats 800000 in
theorem blen_empty (D : Nat) (w : World) (h : w.cell? ⟨D, 0, none⟩ = some (.map none)) : Calls Try.prog 43 #[.pointer (some ⟨D, 0, none⟩)] w fun e w' => e = .returned (.int .i64 0) ∧ w' = w := by
  have hl := fun (W : World) (ty : TypeId) => Maps.len_nil (P := Try.prog) (w := W) Try.underlying150 ty
  go_enter Try.func43, Try.ntmps43
  go_wp2
  go_ret
  exact ⟨rfl, rfl⟩
set_option maxHeartbeats 800000 in
theorem bentries_nil (w : World) : Calls Try.prog 44 #[.pointer none] w fun e w' => e = .returned (.slice none 0 0) ∧ w' = w := by
  go_enter Try.func44, Try.ntmps44
  go_wp2
  go_ret
  exact ⟨rfl, rfl⟩
set_option maxHeartbeats 800000 in
theorem bjoin_nil1 (p : Option Addr) (w : World) : Calls Try.prog 45 #[.pointer none, .pointer p, .int .i64 1] w fun e w' => e = .returned (.int .i64 1) ∧ w' = w := by
  go_enter Try.func45, Try.ntmps45
  go_wp2
  go_ret
  exact ⟨rfl, rfl⟩
set_option maxHeartbeats 800000 in
theorem bjoin_nil2 (a : Addr) (w : World) : Calls Try.prog 45 #[.pointer (some a), .pointer none, .int .i64 1] w fun e w' => e = .returned (.int .i64 1) ∧ w' = w := by
  go_enter Try.func45, Try.ntmps45
  go_wp2
  go_ret
  exact ⟨rfl, rfl⟩
set_option maxHeartbeats 800000 in
theorem bsame_nil1 (D : Nat) (w : World) (h : w.cell? ⟨D, 0, none⟩ = some (.map none)) : Calls Try.prog 47 #[.pointer none, .pointer (some ⟨D, 0, none⟩)] w fun e w' => e = .returned (.bool true) ∧ w' = w := by
  go_enter Try.func47, Try.ntmps47
  go_wp2_with fail
  refine (blen_nil _).mono ?_
  rintro e w1 ⟨rfl, hw⟩
  subst hw
  go_wp2_with fail
  refine (blen_empty D _ h).mono ?_
  rintro e w2 ⟨rfl, hw⟩
  subst hw
  go_wp2_with fail
  refine (blen_nil _).mono ?_
  rintro e w3 ⟨rfl, hw⟩
  subst hw
  go_wp2
  go_ret
  exact ⟨rfl, rfl⟩
set_option maxHeartbeats 800000 in
theorem bsame_nil2 (D : Nat) (w : World) (h : w.cell? ⟨D, 0, none⟩ = some (.map none)) : Calls Try.prog 47 #[.pointer (some ⟨D, 0, none⟩), .pointer none] w fun e w' => e = .returned (.bool true) ∧ w' = w := by
  go_enter Try.func47, Try.ntmps47
  go_wp2_with fail
  refine (blen_empty D _ h).mono ?_
  rintro e w2 ⟨rfl, hw⟩
  subst hw
  go_wp2_with fail
  refine (blen_nil _).mono ?_
  rintro e w1 ⟨rfl, hw⟩
  subst hw
  go_wp2_with fail
  refine (blen_empty D _ h).mono ?_
  rintro e w3 ⟨rfl, hw⟩
  subst hw
  go_wp2
  go_ret
  exact ⟨rfl, rfl⟩
end Go.Proofs.Ytmackldddhfmjaa
