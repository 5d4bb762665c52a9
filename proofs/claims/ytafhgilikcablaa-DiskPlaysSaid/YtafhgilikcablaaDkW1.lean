/- Contract of a disk's Write: the other file, and errors; Read, Unsynced, Left. -/
import Derived.Test.YtafhgilikcablaaDkW
namespace Go.Proofs.Ytafhgilikcablaa
open Go.RowKit
set_option linter.unusedVariables false
set_option maxRecDepth 100000

set_option maxHeartbeats 3200000 in
theorem dwrite1_any (w : World) (D B : Nat) (v0 s0 m0 v1 s1 m1 : Value) (R : Int) (z0 : List Int) (L0 : List Lit) (z1 : List Int) (L1 : List Lit) (p : Nat) (ba : Option Addr) (bl bc : Nat) (b : List Int)
    (h : DSt w D B v0 s0 m0 v1 s1 m1 R z0 L0 z1 L1) (hp : p ≤ z1.length) (hzl : z0.length ≤ 1000000) (hzl1 : z1.length ≤ 1000000) (hll : L1.length ≤ 1000000) (hR : 3000000 ≤ R) (hR2 : R ≤ 9223372036854775807)
    (hb : IsB w ba bl b) (hbn : ba = none → bl = 0 ∧ bc = 0) (hble : bl ≤ bc) (hb5 : bl ≤ 25000) (hbo : ∀ x, bl ≠ 0 → ba = some x → ¬ ofFile D v1 m1 x.block) :
    Calls Try.prog 39 #[.pointer (some ⟨D, 0, none⟩), .int .i64 1, .int .i64 (p : Int), .slice ba bl bc] w fun e w' => e = .returned (.int .i64 0) ∧ FPost w D 3 B #[v0, s0, m0, v1, s1, m1, .int .i64 R, .bool false, .int .i64 0, .bool false] 94 v1 m1 (wrB z1 b p) (L1 ++ secs p bl) w' := by
  have H := Lib.hid h
  have HP := Lib.hid hp
  have HB := Lib.hid hb
  have HBo := Lib.hid hbo
  have HBn := Lib.hid hbn
  obtain ⟨a0, l0, c0, rfl⟩ := own_slice h.f0.own
  obtain ⟨a1, l1, c1, rfl⟩ := own_slice h.f1.own
  have hl0 : l0 = z0.length := by
    obtain ⟨_, _, _, e, e2, _⟩ := own_any h.f0.own h.f0.rg
    cases e; exact e2
  have hl1 : l1 = z1.length := by
    obtain ⟨_, _, _, e, e2, _⟩ := own_any h.f1.own h.f1.rg
    cases e; exact e2
  subst hl0 hl1
  have d0 := cell_of_row w D 0 _ _ _ h.box
  have d3 := cell_of_row w D 3 _ _ _ h.box
  have d6 := cell_of_row w D 6 _ _ _ h.box
  have d7 := cell_of_row w D 7 _ _ _ h.box
  have d9 := cell_of_row w D 9 _ _ _ h.box
  simp only [List.getElem?_toArray, List.getElem?_cons_zero, List.getElem?_cons_succ] at d0 d3 d6 d7 d9
  have hpi : (p : Int) ≤ (z1.length : Int) := by omega
  have hp0 : (0 : Int) ≤ (p : Int) := by omega
  clear h hp hb hbo hbn
  go_enter Try.func39, Try.ntmps39
  go_wp2_with fail
  refine (ready_ok D 1 (.inr rfl) _ d9).mono ?_
  rintro e w1 ⟨rfl, hw⟩
  subst hw
  go_wp2_with fail
  refine (size1 D _ _ _ _ d3).mono ?_
  rintro e w2 ⟨rfl, hw⟩
  subst hw
  have hwa : wrap64 ((p : Int) + (bl : Int)) = (p : Int) + (bl : Int) := by unfold wrap64; omega
  have hwb : wrap64 ((p : Int) + (bl : Int) + (z0.length : Int)) = (p : Int) + (bl : Int) + (z0.length : Int) := by unfold wrap64; omega
  go_upto_region 8 with (fail)
  have hrd : decide (R < (p : Int) + (bl : Int) + (z0.length : Int)) = false := decide_eq_false (by omega)
  have hrl : (p : Int) + (bl : Int) + (z0.length : Int) ≤ R := by omega
  have d0n : ∀ n, (w2.drewN n).cell? ⟨D, 0, none⟩ = some (.slice a0 z0.length c0) := fun n => d0
  have d6n : ∀ n, (w2.drewN n).cell? ⟨D, 6, none⟩ = some (.int .i64 R) := fun n => d6
  go_cut [48] (fun x wx => x = .bool false ∧ ∃ n, wx = w2.drewN n)
  case first =>
    by_cases he : (z1.length : Int) < (p : Int) + (bl : Int)
    · have hed : decide ((z1.length : Int) < (p : Int) + (bl : Int)) = true := decide_eq_true he
      go_quiet ((go_at_call 40; exact Calls.quiet_of_same (size0 D a0 z0.length c0 _ d0)))
      go_wp2_with fail
      go_meet
      exact ⟨rfl, _, rfl⟩
    · have hed : decide ((z1.length : Int) < (p : Int) + (bl : Int)) = false := decide_eq_false he
      have he' : (p : Int) + (bl : Int) ≤ (z1.length : Int) := by omega
      go_quiet (fail)
      go_wp2_with fail
      go_meet
      exact ⟨rfl, _, rfl⟩
  case rest =>
    obtain ⟨rfl, n, rfl⟩ := hcut
    have d7n : (w2.drewN n).cell? ⟨D, 7, none⟩ = some (.bool false) := d7
    go_wp2_with fail
    refine (change_ok D _ d7n).mono ?_
    rintro e w3 ⟨rfl, hw⟩
    subst hw
    go_wp2_with fail
    refine (fwrite_any (w2.drewN n) D 3 B _ _ z1 b L1 _ m1 p ba bl bc H.out.box rfl rfl H.out.lt H.out.le ⟨H.out.f1.own, H.out.f1.rg, H.out.f1.mp⟩ HP.out hzl1 hll HB.out HBn.out hble hb5 HBo.out).mono ?_
    rintro e w4 ⟨rfl, hf⟩
    have HFp := Lib.hid hf
    go_wp2
    go_ret
    obtain ⟨v', m', k1, k2, k3, k4, k5⟩ := HFp.out
    exact ⟨rfl, v', m', k1, k2, ⟨k3.os, k3.tape, k3.output, k3.size, k3.block⟩, k4, k5⟩

set_option maxHeartbeats 1600000 in
theorem has_none (D : Nat) (f : Int) (hf : f ≠ 0 ∧ f ≠ 1) (w : World) : Calls Try.prog 87 #[.pointer (some ⟨D, 0, none⟩), .int .i64 f] w fun e w' => e = .returned (.bool false) ∧ w' = w := by
  obtain ⟨h0, h1⟩ := hf
  have h0b : (f == 0) = false := by rw [beq_eq_false_iff_ne]; exact h0
  have h1b : (f == 1) = false := by rw [beq_eq_false_iff_ne]; exact h1
  go_enter Try.func87, Try.ntmps87
  go_wp2
  go_ret
  exact ⟨rfl, rfl⟩
set_option maxHeartbeats 1600000 in
theorem ready_no (D : Nat) (f : Int) (hf : f ≠ 0 ∧ f ≠ 1) (w : World) : Calls Try.prog 84 #[.pointer (some ⟨D, 0, none⟩), .int .i64 f] w fun e w' => e = .returned (.int .i64 1) ∧ w' = w := by
  have HF := Lib.hid hf
  clear hf
  go_enter Try.func84, Try.ntmps84
  go_wp2_with fail
  refine (has_none D f HF.out _).mono ?_
  rintro e w1 ⟨rfl, hw⟩
  subst hw
  go_wp2
  go_ret
  exact ⟨rfl, rfl⟩
set_option maxHeartbeats 1600000 in
theorem dwrite_nofile (w : World) (D : Nat) (f p : Int) (ba : Option Addr) (bl bc : Nat) (hf : f ≠ 0 ∧ f ≠ 1) :
    Calls Try.prog 39 #[.pointer (some ⟨D, 0, none⟩), .int .i64 f, .int .i64 p, .slice ba bl bc] w fun e w' => e = .returned (.int .i64 1) ∧ w' = w := by
  have HF := Lib.hid hf
  clear hf
  go_enter Try.func39, Try.ntmps39
  go_wp2_with fail
  refine (ready_no D f HF.out _).mono ?_
  rintro e w1 ⟨rfl, hw⟩
  subst hw
  go_wp2
  go_ret
  exact ⟨rfl, rfl⟩
set_option maxHeartbeats 1600000 in
theorem dwrite_out (w : World) (D : Nat) (f p : Int) (a0 : Option Addr) (l0 c0 : Nat) (ba : Option Addr) (bl bc : Nat) (hf : f = 0 ∧ w.cell? ⟨D, 0, none⟩ = some (.slice a0 l0 c0) ∨ f = 1 ∧ w.cell? ⟨D, 3, none⟩ = some (.slice a0 l0 c0)) (hd : w.cell? ⟨D, 9, none⟩ = some (.bool false)) (hp : p < 0 ∨ (l0 : Int) < p) :
    Calls Try.prog 39 #[.pointer (some ⟨D, 0, none⟩), .int .i64 f, .int .i64 p, .slice ba bl bc] w fun e w' => e = .returned (.int .i64 1) ∧ w' = w := by
  have HF := Lib.hid hf
  have HP := Lib.hid hp
  go_enter Try.func39, Try.ntmps39
  go_wp2_with fail
  refine (ready_ok D f (by rcases HF.out with h | h; exact .inl h.1; exact .inr h.1) _ hd).mono ?_
  rintro e w1 ⟨rfl, hw⟩
  subst hw
  go_wp2_with fail
  have hsz : Calls Try.prog 40 #[.pointer (some ⟨D, 0, none⟩), .int .i64 f] w1 fun e w' => e = .returned (.int .i64 l0) ∧ w' = w1 := by
    rcases HF.out with ⟨rfl, h⟩ | ⟨rfl, h⟩
    · exact size0 D a0 l0 c0 _ h
    · exact size1 D a0 l0 c0 _ h
  refine hsz.mono ?_
  rintro e w2 ⟨rfl, hw⟩
  subst hw
  clear hsz hf
  by_cases hn : p < 0
  · clear hp
    go_wp2
    go_ret
    exact ⟨rfl, rfl⟩
  · have hn0 : 0 ≤ p := by omega
    have hl : (l0 : Int) < p := by omega
    clear hp
    go_wp2
    go_ret
    exact ⟨rfl, rfl⟩
end Go.Proofs.Ytafhgilikcablaa
