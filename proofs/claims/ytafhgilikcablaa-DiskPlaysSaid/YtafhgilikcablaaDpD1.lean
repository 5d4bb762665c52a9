/- The document's disk: Size, Left, Unsynced, change, settle. -/
import Derived.Test.YtafhgilikcablaaDpR
import Derived.Deep.QuietTactic
import Derived.BigQuiet
import Derived.Lib.MinMaxS
import Derived.StillTailTactics
namespace Go.Proofs.Ytafhgilikcablaa
open Go.RowKit Go.Maps
set_option linter.unusedVariables false
set_option maxRecDepth 100000

set_option maxHeartbeats 800000 in
theorem rthere (f : Int) (w : World) : Calls Try.prog 88 #[.int .i64 f] w fun e w' => e = .returned (.bool (decide (f = 0 ∨ f = 1))) ∧ w' = w := by
  by_cases h0 : f = 0
  · subst h0
    go_enter Try.func88, Try.ntmps88
    go_wp2
    go_ret
    exact ⟨rfl, rfl⟩
  · have e0 : decide (f = 0 ∨ f = 1) = decide (f = 1) := by simp [h0]
    rw [e0]
    by_cases h1 : f = 1
    · subst h1
      go_enter Try.func88, Try.ntmps88
      go_wp2
      go_ret
      exact ⟨rfl, rfl⟩
    · have hb0 : (f == 0) = false := by simp [h0]
      have hb1 : (f == 1) = false := by simp [h1]
      rw [decide_eq_false h1]
      clear e0
      go_enter Try.func88, Try.ntmps88
      go_wp2
      go_ret
      exact ⟨rfl, rfl⟩
theorem rthere_yes (f : Int) (hf : f = 0 ∨ f = 1) (w : World) : Calls Try.prog 88 #[.int .i64 f] w fun e w' => e = .returned (.bool true) ∧ w' = w := by
  have := rthere f w
  rwa [decide_eq_true hf] at this
theorem rthere_no (f : Int) (hf : f ≠ 0 ∧ f ≠ 1) (w : World) : Calls Try.prog 88 #[.int .i64 f] w fun e w' => e = .returned (.bool false) ∧ w' = w := by
  have := rthere f w
  rwa [decide_eq_false (by omega)] at this
set_option maxHeartbeats 800000 in
theorem rsize0 (E : Nat) (a : Option Addr) (L c : Nat) (w : World) (hd : w.cell? ⟨E, 0, none⟩ = some (.slice a L c)) : Calls Try.prog 53 #[.pointer (some ⟨E, 0, none⟩), .int .i64 0] w fun e w' => e = .returned (.int .i64 L) ∧ w' = w := by
  go_enter Try.func53, Try.ntmps53
  go_wp2_with fail
  refine (rthere_yes 0 (.inl rfl) _).mono ?_
  rintro e w1 ⟨rfl, hw⟩
  subst hw
  go_wp2
  go_ret
  exact ⟨rfl, rfl⟩
set_option maxHeartbeats 800000 in
theorem rsize1 (E : Nat) (a : Option Addr) (L c : Nat) (w : World) (hd : w.cell? ⟨E, 3, none⟩ = some (.slice a L c)) : Calls Try.prog 53 #[.pointer (some ⟨E, 0, none⟩), .int .i64 1] w fun e w' => e = .returned (.int .i64 L) ∧ w' = w := by
  go_enter Try.func53, Try.ntmps53
  go_wp2_with fail
  refine (rthere_yes 1 (.inr rfl) _).mono ?_
  rintro e w1 ⟨rfl, hw⟩
  subst hw
  go_wp2
  go_ret
  exact ⟨rfl, rfl⟩
set_option maxHeartbeats 800000 in
theorem rsize_no (E : Nat) (f : Int) (hf : f ≠ 0 ∧ f ≠ 1) (w : World) : Calls Try.prog 53 #[.pointer (some ⟨E, 0, none⟩), .int .i64 f] w fun e w' => e = .returned (.int .i64 0) ∧ w' = w := by
  have HF := Lib.hid hf
  clear hf
  go_enter Try.func53, Try.ntmps53
  go_wp2_with fail
  refine (rthere_no f HF.out _).mono ?_
  rintro e w1 ⟨rfl, hw⟩
  subst hw
  go_wp2
  go_ret
  exact ⟨rfl, rfl⟩
theorem own_sl {w : World} {B : Nat} {v : Value} {zs : List Int} (h : w.ownsRow B 5 1 v zs.length (zs.map (Value.int .u8))) (hr : ∀ z ∈ zs, 0 ≤ z ∧ z ≤ 255) : ∃ a c, v = .slice a zs.length c := by
  obtain ⟨a, l, c, e, e2, _⟩ := own_any h hr
  exact ⟨a, c, by rw [e, e2]⟩
theorem RC.d0 {w : World} {E B : Nat} {i0 k0 : Value} {M0 : Nat} {i1 k1 : Value} {M1 : Nat} {a : DA} (h : RC w E B i0 k0 M0 i1 k1 M1 a) : w.cell? ⟨E, 0, none⟩ = some i0 := cell_of_row w E 0 _ _ _ h.box
theorem RC.d3 {w : World} {E B : Nat} {i0 k0 : Value} {M0 : Nat} {i1 k1 : Value} {M1 : Nat} {a : DA} (h : RC w E B i0 k0 M0 i1 k1 M1 a) : w.cell? ⟨E, 3, none⟩ = some i1 := cell_of_row w E 3 _ _ _ h.box
theorem RC.d6 {w : World} {E B : Nat} {i0 k0 : Value} {M0 : Nat} {i1 k1 : Value} {M1 : Nat} {a : DA} (h : RC w E B i0 k0 M0 i1 k1 M1 a) : w.cell? ⟨E, 6, none⟩ = some (.int .i64 a.R) := cell_of_row w E 6 _ _ _ h.box
theorem RC.d7 {w : World} {E B : Nat} {i0 k0 : Value} {M0 : Nat} {i1 k1 : Value} {M1 : Nat} {a : DA} (h : RC w E B i0 k0 M0 i1 k1 M1 a) : w.cell? ⟨E, 7, none⟩ = some (.int .i64 a.fuse) := cell_of_row w E 7 _ _ _ h.box
theorem RC.d8 {w : World} {E B : Nat} {i0 k0 : Value} {M0 : Nat} {i1 k1 : Value} {M1 : Nat} {a : DA} (h : RC w E B i0 k0 M0 i1 k1 M1 a) : w.cell? ⟨E, 8, none⟩ = some (.bool a.down) := cell_of_row w E 8 _ _ _ h.box
theorem rsize_any (w : World) (E B : Nat) (i0 k0 : Value) (M0 : Nat) (i1 k1 : Value) (M1 : Nat) (a : DA) (f : Int) (h : RC w E B i0 k0 M0 i1 k1 M1 a) (hW : a.Wf) : Calls Try.prog 53 #[.pointer (some ⟨E, 0, none⟩), .int .i64 f] w fun e w' => e = .returned (.int .i64 (a.size f)) ∧ w' = w := by
  obtain ⟨x0, c0, e0⟩ := own_sl h.is0 hW.w0.rz
  obtain ⟨x1, c1, e1⟩ := own_sl h.is1 hW.w1.rz
  by_cases h0 : f = 0
  · subst h0
    exact rsize0 E x0 a.f0.zs.length c0 w (by rw [h.d0, e0])
  · by_cases h1 : f = 1
    · subst h1
      exact rsize1 E x1 a.f1.zs.length c1 w (by rw [h.d3, e1])
    · have : a.size f = 0 := by unfold DA.size; rw [if_neg h0, if_neg h1]
      rw [this]
      exact rsize_no E f ⟨h0, h1⟩ w
/-- how many bytes are left -/
def DA.leftN (a : DA) : Int := max 0 (a.R - (a.f0.zs.length : Int) - (a.f1.zs.length : Int))
set_option maxHeartbeats 1600000 in
theorem rleft_any (w : World) (E B : Nat) (i0 k0 : Value) (M0 : Nat) (i1 k1 : Value) (M1 : Nat) (a : DA) (h : RC w E B i0 k0 M0 i1 k1 M1 a) (hW : a.Wf) (hf : a.few 1000000) : Calls Try.prog 54 #[.pointer (some ⟨E, 0, none⟩)] w fun e w' => e = .returned (.int .i64 a.leftN) ∧ w' = w := by
  obtain ⟨hf0, _, hf1, _⟩ := hf
  have s0 := fun w' (hw : w' = w) => rsize_any w' E B i0 k0 M0 i1 k1 M1 a 0 (by rw [hw]; exact h) hW
  have s1 := fun w' (hw : w' = w) => rsize_any w' E B i0 k0 M0 i1 k1 M1 a 1 (by rw [hw]; exact h) hW
  have d6 := h.d6
  have hR0 := hW.r0
  have hR1 := hW.r1
  unfold DA.leftN
  have e0 : a.size 0 = a.f0.zs.length := rfl
  have e1 : a.size 1 = a.f1.zs.length := rfl
  obtain ⟨p, hp⟩ : ∃ p, p = a.f0.zs.length := ⟨_, rfl⟩
  obtain ⟨q, hq⟩ : ∃ q, q = a.f1.zs.length := ⟨_, rfl⟩
  obtain ⟨R, hR⟩ : ∃ R, R = a.R := ⟨_, rfl⟩
  rw [e0, ← hp] at s0
  rw [e1, ← hq] at s1
  rw [← hR] at d6 hR0 hR1 ⊢
  rw [← hp] at hf0 ⊢
  rw [← hq] at hf1 ⊢
  have S0 := Lib.hid s0
  have S1 := Lib.hid s1
  clear s0 s1 e0 e1 hp hq hR h hW
  have hw1 : wrap64 ((p : Int) + (q : Int)) = (p : Int) + (q : Int) := by unfold wrap64; omega
  have hw2 : wrap64 (R - ((p : Int) + (q : Int))) = R - ((p : Int) + (q : Int)) := by unfold wrap64; omega
  have hpq : (0 : Int) ≤ (p : Int) + (q : Int) := by omega
  have hpq2 : (p : Int) + (q : Int) ≤ 2000000 := by omega
  by_cases hlt : (p : Int) + (q : Int) < R
  · have ef : max (0 : Int) (R - (p : Int) - (q : Int)) = R - ((p : Int) + (q : Int)) := by omega
    rw [ef]
    clear ef
    go_enter Try.func54, Try.ntmps54
    go_wp2_with fail
    refine (S0.out _ rfl).mono ?_
    rintro e w1 ⟨rfl, hw⟩
    subst hw
    go_wp2_with fail
    refine (S1.out _ rfl).mono ?_
    rintro e w1 ⟨rfl, hw⟩
    subst hw
    go_wp2
    go_ret
    exact ⟨rfl, rfl⟩
  · have ef : max (0 : Int) (R - (p : Int) - (q : Int)) = 0 := by omega
    rw [ef]
    have hle : R ≤ (p : Int) + (q : Int) := by omega
    clear ef
    go_enter Try.func54, Try.ntmps54
    go_wp2_with fail
    refine (S0.out _ rfl).mono ?_
    rintro e w1 ⟨rfl, hw⟩
    subst hw
    go_wp2_with fail
    refine (S1.out _ rfl).mono ?_
    rintro e w1 ⟨rfl, hw⟩
    subst hw
    go_wp2
    go_ret
    exact ⟨rfl, rfl⟩
set_option maxHeartbeats 1600000 in
theorem runs_any (w : World) (E B : Nat) (i0 k0 : Value) (M0 : Nat) (i1 k1 : Value) (M1 : Nat) (a : DA) (h : RC w E B i0 k0 M0 i1 k1 M1 a) (h0 : SecK a.f0.L) (h1 : SecK a.f1.L) (hf : a.few 1000000) : Calls Try.prog 57 #[.pointer (some ⟨E, 0, none⟩)] w fun e w' => e = .returned (.int .i64 ((nKeys a.f0.L : Int) + (nKeys a.f1.L : Int))) ∧ ∃ n, w' = w.drewN n := by
  have d2 : w.cell? ⟨E, 2, none⟩ = some (.map (some M0)) := cell_of_row w E 2 _ _ _ h.box
  have d5 : w.cell? ⟨E, 5, none⟩ = some (.map (some M1)) := cell_of_row w E 5 _ _ _ h.box
  have d2n : ∀ n, (w.drewN n).cell? ⟨E, 2, none⟩ = some (.map (some M0)) := fun n => d2
  have d5n : ∀ n, (w.drewN n).cell? ⟨E, 5, none⟩ = some (.map (some M1)) := fun n => d5
  have l0 : ∀ n ty, (Builtin.len_ #[95] ty #[.map (some M0)]).run Try.prog (w.drewN n) = .ok (.int .i64 (nKeys a.f0.L : Int)) (w.drewN n) := fun n ty => (h.drew n).t0.len h0.key ty
  have l1 : ∀ n ty, (Builtin.len_ #[95] ty #[.map (some M1)]).run Try.prog (w.drewN n) = .ok (.int .i64 (nKeys a.f1.L : Int)) (w.drewN n) := fun n ty => (h.drew n).t1.len h1.key ty
  have b0 : nKeys a.f0.L ≤ 1000000 := Nat.le_trans (addKeys_len _ []) (by simpa using hf.2.1)
  have b1 : nKeys a.f1.L ≤ 1000000 := Nat.le_trans (addKeys_len _ []) (by simpa using hf.2.2.2)
  obtain ⟨p, hp⟩ : ∃ p, p = nKeys a.f0.L := ⟨_, rfl⟩
  obtain ⟨q, hq⟩ : ∃ q, q = nKeys a.f1.L := ⟨_, rfl⟩
  rw [← hp] at b0 l0 ⊢
  rw [← hq] at b1 l1 ⊢
  have e1 : IntKind.i64.wrap ((p : Int) + (q : Int)) = (p : Int) + (q : Int) := by rw [IntKind.wrap_i64]; omega
  clear hp hq h h0 h1 hf
  go_enter Try.func57, Try.ntmps57
  go_wp2_with fail
  go_quiet (fail)
  go_wp2
  go_ret
  exact ⟨rfl, _, rfl⟩
/-- the power goes -/
theorem RC.gone {w : World} {E B : Nat} {i0 k0 : Value} {M0 : Nat} {i1 k1 : Value} {M1 : Nat} {a : DA} (h : RC w E B i0 k0 M0 i1 k1 M1 a) : RC (w.setCell ⟨E, 8, none⟩ (.bool true)) E B i0 k0 M0 i1 k1 M1 a.gone ∧ Only (fun i => i = E) w (w.setCell ⟨E, 8, none⟩ (.bool true)) := by
  have hx := Go.heap_setCell_same w E 8 _ _ (.bool true) h.box
  have k : Only (fun i => i = E) w (w.setCell ⟨E, 8, none⟩ (.bool true)) := Only.set (S := fun i => i = E) (Only.refl _ w) rfl _
  exact ⟨h.scal (a' := a.gone) rfl rfl hx k, k⟩
theorem DA.fuse_gone {a : DA} (hp : a.pow = false) : a.fuse = 0 := by
  unfold DA.pow at hp
  unfold DA.fuse
  cases ha : a.armed with
  | false => rw [ha] at hp; simp at hp
  | true => rw [ha] at hp; simp at hp; simpa using hp
theorem DA.fuse_pow {a : DA} (h : a.Wf) (hp : a.pow = true) : a.fuse ≠ 0 ∧ -1 ≤ a.fuse ∧ a.fuse ≤ 9223372036854775807 ∧ max (a.fuse - 1) (-1) = a.tick.fuse := by
  unfold DA.pow at hp
  unfold DA.fuse DA.tick
  cases ha : a.armed with
  | false =>
    simp [ha]
    decide
  | true =>
    have := h.arm ha
    rw [ha] at hp
    simp at hp
    simp only [ha, if_true]
    omega
set_option maxHeartbeats 1600000 in
theorem rchange_gone (w : World) (E B : Nat) (i0 k0 : Value) (M0 : Nat) (i1 k1 : Value) (M1 : Nat) (a : DA) (h : RC w E B i0 k0 M0 i1 k1 M1 a) (hp : a.pow = false) :
    Calls Try.prog 89 #[.pointer (some ⟨E, 0, none⟩)] w fun e w' => e = .returned (.bool false) ∧ RC w' E B i0 k0 M0 i1 k1 M1 a.gone ∧ Only (fun i => i = E) w w' := by
  have d7 := h.d7
  rw [DA.fuse_gone hp] at d7
  have d8 := h.d8
  have f8 := frozen_of_row w E 8 _ _ h.box
  have hE : E < w.heap.size := (Array.getElem?_eq_some_iff.1 h.box).1
  have HG := Lib.hid h.gone
  clear h
  go_enter Try.func89, Try.ntmps89
  go_wp2
  go_ret
  exact ⟨rfl, HG.out⟩
theorem RC.ticked {w : World} {E B : Nat} {i0 k0 : Value} {M0 : Nat} {i1 k1 : Value} {M1 : Nat} {a : DA} (h : RC w E B i0 k0 M0 i1 k1 M1 a) : RC (w.setCell ⟨E, 7, none⟩ (.int .i64 a.tick.fuse)) E B i0 k0 M0 i1 k1 M1 a.tick ∧ Only (fun i => i = E) w (w.setCell ⟨E, 7, none⟩ (.int .i64 a.tick.fuse)) := by
  have hx := Go.heap_setCell_same w E 7 _ _ (.int .i64 a.tick.fuse) h.box
  have k : Only (fun i => i = E) w (w.setCell ⟨E, 7, none⟩ (.int .i64 a.tick.fuse)) := Only.set (S := fun i => i = E) (Only.refl _ w) rfl _
  exact ⟨h.scal (a' := a.tick) rfl rfl hx k, k⟩
set_option maxHeartbeats 1600000 in
theorem rchange_pass (w : World) (E B : Nat) (i0 k0 : Value) (M0 : Nat) (i1 k1 : Value) (M1 : Nat) (a : DA) (h : RC w E B i0 k0 M0 i1 k1 M1 a) (hW : a.Wf) (hp : a.pow = true) :
    Calls Try.prog 89 #[.pointer (some ⟨E, 0, none⟩)] w fun e w' => e = .returned (.bool true) ∧ RC w' E B i0 k0 M0 i1 k1 M1 a.tick ∧ Only (fun i => i = E) w w' := by
  have d7 := h.d7
  obtain ⟨g0, g1, g2, g3⟩ := DA.fuse_pow hW hp
  have f7 := frozen_of_row w E 7 _ _ h.box
  have hE : E < w.heap.size := (Array.getElem?_eq_some_iff.1 h.box).1
  have HG := Lib.hid h.ticked
  obtain ⟨z, hz⟩ : ∃ z, z = a.fuse := ⟨_, rfl⟩
  obtain ⟨y, hy⟩ : ∃ y, y = a.tick.fuse := ⟨_, rfl⟩
  rw [← hz] at d7 g0 g1 g2 g3
  rw [← hy] at g3 HG
  have hz0 : (z == 0) = false := by simp [g0]
  have hw : wrap64 (z - 1) = z - 1 := by unfold wrap64; omega
  have G3 := Lib.hid g3
  clear h hz hy hW hp g3
  go_enter Try.func89, Try.ntmps89
  go_wp2
  rw [G3.out]
  go_ret
  exact ⟨rfl, HG.out⟩
end Go.Proofs.Ytafhgilikcablaa
