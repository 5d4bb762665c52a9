/- Contract of a disk's Write. -/
import Derived.Test.YtafhgilikcablaaDkFile
import Derived.Deep.QuietTactic
import Derived.BigQuiet
namespace Go.Proofs.Ytafhgilikcablaa
open Go.RowKit
set_option linter.unusedVariables false
set_option maxRecDepth 100000

set_option maxHeartbeats 800000 in
theorem has_some (D : Nat) (f : Int) (hf : f = 0 ∨ f = 1) (w : World) : Calls Try.prog 87 #[.pointer (some ⟨D, 0, none⟩), .int .i64 f] w fun e w' => e = .returned (.bool true) ∧ w' = w := by
  rcases hf with rfl | rfl
  · go_enter Try.func87, Try.ntmps87
    go_wp2
    go_ret
    exact ⟨rfl, rfl⟩
  · go_enter Try.func87, Try.ntmps87
    go_wp2
    go_ret
    exact ⟨rfl, rfl⟩
set_option maxHeartbeats 800000 in
theorem ready_ok (D : Nat) (f : Int) (hf : f = 0 ∨ f = 1) (w : World) (hd : w.cell? ⟨D, 9, none⟩ = some (.bool false)) : Calls Try.prog 84 #[.pointer (some ⟨D, 0, none⟩), .int .i64 f] w fun e w' => e = .returned (.int .i64 0) ∧ w' = w := by
  have HF := Lib.hid hf
  clear hf
  go_enter Try.func84, Try.ntmps84
  go_wp2_with fail
  refine (has_some D f HF.out _).mono ?_
  rintro e w1 ⟨rfl, hw⟩
  subst hw
  go_wp2
  go_ret
  exact ⟨rfl, rfl⟩
set_option maxHeartbeats 800000 in
theorem size0 (D : Nat) (a : Option Addr) (L c : Nat) (w : World) (hd : w.cell? ⟨D, 0, none⟩ = some (.slice a L c)) : Calls Try.prog 40 #[.pointer (some ⟨D, 0, none⟩), .int .i64 0] w fun e w' => e = .returned (.int .i64 L) ∧ w' = w := by
  go_enter Try.func40, Try.ntmps40
  go_wp2_with fail
  refine (has_some D 0 (.inl rfl) _).mono ?_
  rintro e w1 ⟨rfl, hw⟩
  subst hw
  go_wp2
  go_ret
  exact ⟨rfl, rfl⟩
set_option maxHeartbeats 800000 in
theorem size1 (D : Nat) (a : Option Addr) (L c : Nat) (w : World) (hd : w.cell? ⟨D, 3, none⟩ = some (.slice a L c)) : Calls Try.prog 40 #[.pointer (some ⟨D, 0, none⟩), .int .i64 1] w fun e w' => e = .returned (.int .i64 L) ∧ w' = w := by
  go_enter Try.func40, Try.ntmps40
  go_wp2_with fail
  refine (has_some D 1 (.inr rfl) _).mono ?_
  rintro e w1 ⟨rfl, hw⟩
  subst hw
  go_wp2
  go_ret
  exact ⟨rfl, rfl⟩
set_option maxHeartbeats 800000 in
theorem change_ok (D : Nat) (w : World) (hd : w.cell? ⟨D, 7, none⟩ = some (.bool false)) : Calls Try.prog 85 #[.pointer (some ⟨D, 0, none⟩)] w fun e w' => e = .returned (.int .i64 0) ∧ w' = w := by
  go_enter Try.func85, Try.ntmps85
  go_wp2
  go_ret
  exact ⟨rfl, rfl⟩


/-- a disk that is neither armed nor down -/
structure DSt (w : World) (D B : Nat) (v0 s0 m0 v1 s1 m1 : Value) (R : Int) (z0 : List Int) (L0 : List Lit) (z1 : List Int) (L1 : List Lit) : Prop where
  box : w.heap[D]? = some (.cells #[v0, s0, m0, v1, s1, m1, .int .i64 R, .bool false, .int .i64 0, .bool false] 94 (0, 0))
  lt : D < B
  le : B ≤ w.heap.size
  f0 : FSt w B z0 L0 v0 m0
  f1 : FSt w B z1 L1 v1 m1

set_option maxHeartbeats 3200000 in
theorem dwrite0_any (w : World) (D B : Nat) (v0 s0 m0 v1 s1 m1 : Value) (R : Int) (z0 : List Int) (L0 : List Lit) (z1 : List Int) (L1 : List Lit) (p : Nat) (ba : Option Addr) (bl bc : Nat) (b : List Int)
    (h : DSt w D B v0 s0 m0 v1 s1 m1 R z0 L0 z1 L1) (hp : p ≤ z0.length) (hzl : z0.length ≤ 1000000) (hzl1 : z1.length ≤ 1000000) (hll : L0.length ≤ 1000000) (hR : 3000000 ≤ R) (hR2 : R ≤ 9223372036854775807)
    (hb : IsB w ba bl b) (hbn : ba = none → bl = 0 ∧ bc = 0) (hble : bl ≤ bc) (hb5 : bl ≤ 25000) (hbo : ∀ x, bl ≠ 0 → ba = some x → ¬ ofFile D v0 m0 x.block) :
    Calls Try.prog 39 #[.pointer (some ⟨D, 0, none⟩), .int .i64 0, .int .i64 (p : Int), .slice ba bl bc] w fun e w' => e = .returned (.int .i64 0) ∧ FPost w D 0 B #[v0, s0, m0, v1, s1, m1, .int .i64 R, .bool false, .int .i64 0, .bool false] 94 v0 m0 (wrB z0 b p) (L0 ++ secs p bl) w' := by
  have H := Lib.hid h
  have HP := Lib.hid hp
  have HB := Lib.hid hb
  have HBo := Lib.hid hbo
  have HBn := Lib.hid hbn
  obtain ⟨a0, l0, c0, rfl⟩ := own_slice h.f0.own
  obtain ⟨a1, l1, c1, rfl⟩ := own_slice h.f1.own
  have hl0 : l0 = z0.length := by
    obtain ⟨_, _, _, e, e2, _⟩ := own_any h.f0.own h.f0.rg
    cases e; exact e2
  have hl1 : l1 = z1.length := by
    obtain ⟨_, _, _, e, e2, _⟩ := own_any h.f1.own h.f1.rg
    cases e; exact e2
  subst hl0 hl1
  have d0 := cell_of_row w D 0 _ _ _ h.box
  have d3 := cell_of_row w D 3 _ _ _ h.box
  have d6 := cell_of_row w D 6 _ _ _ h.box
  have d7 := cell_of_row w D 7 _ _ _ h.box
  have d9 := cell_of_row w D 9 _ _ _ h.box
  simp only [List.getElem?_toArray, List.getElem?_cons_zero, List.getElem?_cons_succ] at d0 d3 d6 d7 d9
  have hpi : (p : Int) ≤ (z0.length : Int) := by omega
  have hp0 : (0 : Int) ≤ (p : Int) := by omega
  clear h hp hb hbo hbn
  go_enter Try.func39, Try.ntmps39
  go_wp2_with fail
  refine (ready_ok D 0 (.inl rfl) _ d9).mono ?_
  rintro e w1 ⟨rfl, hw⟩
  subst hw
  go_wp2_with fail
  refine (size0 D _ _ _ _ d0).mono ?_
  rintro e w2 ⟨rfl, hw⟩
  subst hw
  have hwa : wrap64 ((p : Int) + (bl : Int)) = (p : Int) + (bl : Int) := by unfold wrap64; omega
  have hwb : wrap64 ((p : Int) + (bl : Int) + (z1.length : Int)) = (p : Int) + (bl : Int) + (z1.length : Int) := by unfold wrap64; omega
  go_upto_region 8 with (fail)
  have hrd : decide (R < (p : Int) + (bl : Int) + (z1.length : Int)) = false := decide_eq_false (by omega)
  have hrl : (p : Int) + (bl : Int) + (z1.length : Int) ≤ R := by omega
  have d3n : ∀ n, (w2.drewN n).cell? ⟨D, 3, none⟩ = some (.slice a1 z1.length c1) := fun n => d3
  have d6n : ∀ n, (w2.drewN n).cell? ⟨D, 6, none⟩ = some (.int .i64 R) := fun n => d6
  go_cut [48] (fun x wx => x = .bool false ∧ ∃ n, wx = w2.drewN n)
  case first =>
    by_cases he : (z0.length : Int) < (p : Int) + (bl : Int)
    · have hed : decide ((z0.length : Int) < (p : Int) + (bl : Int)) = true := decide_eq_true he
      go_quiet ((go_at_call 40; exact Calls.quiet_of_same (size1 D a1 z1.length c1 _ d3)))
      go_wp2_with fail
      go_meet
      exact ⟨rfl, _, rfl⟩
    · have hed : decide ((z0.length : Int) < (p : Int) + (bl : Int)) = false := decide_eq_false he
      have he' : (p : Int) + (bl : Int) ≤ (z0.length : Int) := by omega
      go_quiet (fail)
      go_wp2_with fail
      go_meet
      exact ⟨rfl, _, rfl⟩
  case rest =>
    obtain ⟨rfl, n, rfl⟩ := hcut
    have d7n : (w2.drewN n).cell? ⟨D, 7, none⟩ = some (.bool false) := d7
    go_wp2_with fail
    refine (change_ok D _ d7n).mono ?_
    rintro e w3 ⟨rfl, hw⟩
    subst hw
    go_wp2_with fail
    refine (fwrite_any (w2.drewN n) D 0 B _ _ z0 b L0 _ m0 p ba bl bc H.out.box rfl rfl H.out.lt H.out.le ⟨H.out.f0.own, H.out.f0.rg, H.out.f0.mp⟩ HP.out hzl hll HB.out HBn.out hble hb5 HBo.out).mono ?_
    rintro e w4 ⟨rfl, hf⟩
    have HFp := Lib.hid hf
    go_wp2
    go_ret
    obtain ⟨v', m', k1, k2, k3, k4, k5⟩ := HFp.out
    exact ⟨rfl, v', m', k1, k2, ⟨k3.os, k3.tape, k3.output, k3.size, k3.block⟩, k4, k5⟩
end Go.Proofs.Ytafhgilikcablaa
