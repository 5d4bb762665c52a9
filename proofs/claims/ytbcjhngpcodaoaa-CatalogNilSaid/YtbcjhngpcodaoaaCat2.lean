/- CatalogNil: the methods of a nil catalog, and of an empty one. -/
import Derived.Test.YtbcjhngpcodaoaaCat1
namespace Go.Proofs.Ytbcjhngpcodaoaa
open Go.RowKit
set_option linter.unusedVariables false
set_option maxRecDepth 100000

def obj0 : Value := .agg #[.int .i64 0, .string ⟨#[]⟩, .string ⟨#[]⟩, .slice none 0 0, .slice none 0 0, .bool false, .string ⟨#[]⟩, .slice none 0 0, .int .i64 0]

set_option maxHeartbeats 800000 in
theorem those_nil (f : Value) (w : World) : Calls Try.prog 96 #[.pointer none, f] w fun e w' => e = .returned (.slice none 0 0) ∧ w' = w := by
  go_enter Try.func96, Try.ntmps96
  go_wp2
  go_ret
  exact ⟨rfl, rfl⟩
set_option maxHeartbeats 800000 in
theorem those_empty (D : Nat) (f : Value) (w : World) (h : w.cell? ⟨D, 0, none⟩ = some (.slice none 0 0)) : Calls Try.prog 96 #[.pointer (some ⟨D, 0, none⟩), f] w fun e w' => e = .returned (.slice none 0 0) ∧ w' = w := by
  go_enter Try.func96, Try.ntmps96
  go_wp2
  go_loop [5, 15] (fun b i => b = .slice none 0 0 ∧ i = .int .i64 0) (fun _ _ => 0)
  case atStart => exact ⟨rfl, rfl⟩
  case round =>
    obtain ⟨rfl, rfl⟩ := hrel
    go_wp2
    go_ret
    exact ⟨rfl, rfl⟩

set_option maxHeartbeats 1600000 in
theorem find_of (p : Option Addr) (s : ByteArray) (w : World) (h : ∀ (f : Value) (W : World), Below w.heap.size w W → Calls Try.prog 96 #[.pointer p, f] W fun e w' => e = .returned (.slice none 0 0) ∧ w' = W) :
    Calls Try.prog 44 #[.pointer p, .string s] w fun e w' => e = .returned (.tuple #[obj0, .bool false]) ∧ Below w.heap.size w w' := by
  have HU : Hid (obj0 = .agg #[.int .i64 0, .string ⟨#[]⟩, .string ⟨#[]⟩, .slice none 0 0, .slice none 0 0, .bool false, .string ⟨#[]⟩, .slice none 0 0, .int .i64 0]) := Lib.hid rfl
  have H := Lib.hid h
  clear h
  go_enter Try.func44, Try.ntmps44
  go_wp2_with fail
  refine (H.out _ _ (bel0 _ (bel0 _ (Below.refl _ _)))).mono ?_
  rintro e w1 ⟨rfl, hw⟩
  subst hw
  go_wp2
  exact bodyPost_ret (v := .tuple #[obj0, .bool false]) (by rw [HU.out]; simp [results, Try.results44, go_sem]) rfl ⟨rfl, by
    repeat (first | exact bel0 _ (bel0 _ (Below.refl _ _)) | refine Below.setCell ?_ (by simp) _)⟩
theorem find_nil (s : ByteArray) (w : World) : Calls Try.prog 44 #[.pointer none, .string s] w fun e w' => e = .returned (.tuple #[obj0, .bool false]) ∧ Below w.heap.size w w' := find_of none s w fun f W _ => those_nil f W
theorem find_empty (D : Nat) (s : ByteArray) (w : World) (hD : D < w.heap.size) (h : w.cell? ⟨D, 0, none⟩ = some (.slice none 0 0)) : Calls Try.prog 44 #[.pointer (some ⟨D, 0, none⟩), .string s] w fun e w' => e = .returned (.tuple #[obj0, .bool false]) ∧ Below w.heap.size w w' :=
  find_of _ s w fun f W hb => those_empty D f W ((hb.cell (p := ⟨D, 0, none⟩) hD).trans h)

set_option maxHeartbeats 800000 in
theorem drop_nil (k : Int) (s : ByteArray) (w : World) : Calls Try.prog 45 #[.pointer none, .int .i64 k, .string s] w fun e w' => e = .returned (.tuple #[.slice none 0 0, .int .i64 1]) ∧ Below w.heap.size w w' := by
  go_enter Try.func45, Try.ntmps45
  go_wp2
  go_ret2
  exact ⟨rfl, bel0 _ (bel0 _ (Below.refl _ _))⟩
set_option maxHeartbeats 800000 in
theorem all_nil (w : World) : Calls Try.prog 47 #[.pointer none] w fun e w' => e = .returned (.slice none 0 0) ∧ w' = w := by
  go_enter Try.func47, Try.ntmps47
  go_wp2_with fail
  refine (those_nil _ _).mono ?_
  rintro e w1 ⟨rfl, hw⟩
  subst hw
  go_wp2
  go_ret
  exact ⟨rfl, rfl⟩
set_option maxHeartbeats 800000 in
theorem indexes_nil (s : ByteArray) (w : World) : Calls Try.prog 49 #[.pointer none, .string s] w fun e w' => e = .returned (.slice none 0 0) ∧ Below w.heap.size w w' := by
  go_enter Try.func49, Try.ntmps49
  go_wp2_with fail
  refine (those_nil _ _).mono ?_
  rintro e w1 ⟨rfl, hw⟩
  subst hw
  go_wp2
  go_ret
  exact ⟨rfl, bel0 _ (Below.refl _ _)⟩
set_option maxHeartbeats 800000 in
theorem views_nil (s : ByteArray) (w : World) : Calls Try.prog 50 #[.pointer none, .string s] w fun e w' => e = .returned (.slice none 0 0) ∧ Below w.heap.size w w' := by
  go_enter Try.func50, Try.ntmps50
  go_wp2_with fail
  refine (those_nil _ _).mono ?_
  rintro e w1 ⟨rfl, hw⟩
  subst hw
  go_wp2
  go_ret
  exact ⟨rfl, bel0 _ (Below.refl _ _)⟩
set_option maxHeartbeats 800000 in
theorem tables_nil (w : World) : Calls Try.prog 48 #[.pointer none] w fun e w' => e = .returned (.slice none 0 0) ∧ w' = w := by
  go_enter Try.func48, Try.ntmps48
  go_wp2_with fail
  refine (those_nil _ _).mono ?_
  rintro e w1 ⟨rfl, hw⟩
  subst hw
  go_wp2
  go_loop [3, 9] (fun b i => b = .slice none 0 0 ∧ i = .int .i64 0) (fun _ _ => 0)
  case atStart => exact ⟨rfl, rfl⟩
  case round =>
    obtain ⟨rfl, rfl⟩ := hrel
    go_wp2
    go_ret
    exact ⟨rfl, rfl⟩
end Go.Proofs.Ytbcjhngpcodaoaa
