/- The program's disk in any state: what only looks, and the sets; New of both; both disks side by side. (Written by gendpq.py.) -/
import Derived.Test.YtafhgilikcablaaDpSo
import Derived.Test.YtafhgilikcablaaDpRd
import Derived.Test.YtafhgilikcablaaDpD5
import Derived.Test.YtafhgilikcablaaDpD6
import Derived.Lib.MinMaxS
namespace Go.Proofs.Ytafhgilikcablaa
open Go.RowKit Go.Maps
set_option linter.unusedVariables false
set_option maxRecDepth 100000

set_option maxHeartbeats 800000 in
theorem pread_nofile (w : World) (D : Nat) (f p n : Int) (hf : f ≠ 0 ∧ f ≠ 1) :
    Calls Try.prog 51 #[.pointer (some ⟨D, 0, none⟩), .int .i64 f, .int .i64 p, .int .i64 n] w fun e w' => e = .returned (.tuple #[.slice none 0 0, .int .i64 1]) ∧ w' = w := by
  have HF := Lib.hid hf
  clear hf
  go_enter Try.func51, Try.ntmps51
  go_wp2_with fail
  refine (ready_no D f HF.out _).mono ?_
  rintro e w1 ⟨rfl, hw⟩
  subst hw
  go_wp2
  go_ret2
  exact ⟨rfl, rfl⟩
set_option maxHeartbeats 800000 in
theorem pread_down (w : World) (D : Nat) (f p n : Int) (hf : f = 0 ∨ f = 1) (hd : w.cell? ⟨D, 9, none⟩ = some (.bool true)) :
    Calls Try.prog 51 #[.pointer (some ⟨D, 0, none⟩), .int .i64 f, .int .i64 p, .int .i64 n] w fun e w' => e = .returned (.tuple #[.slice none 0 0, .int .i64 16]) ∧ w' = w := by
  have HF := Lib.hid hf
  clear hf
  go_enter Try.func51, Try.ntmps51
  go_wp2_with fail
  refine (ready_down D f HF.out _ hd).mono ?_
  rintro e w1 ⟨rfl, hw⟩
  subst hw
  go_wp2
  go_ret2
  exact ⟨rfl, rfl⟩

set_option maxHeartbeats 1600000 in
theorem pread_out0 (w : World) (D : Nat) (va : Option Addr) (l vc : Nat) (p n : Int) (hl : l ≤ 1000000) (ho : p < 0 ∨ n < 0 ∨ (l : Int) < p ∨ (l : Int) - p < n) (d0 : w.cell? ⟨D, 0, none⟩ = some (.slice va l vc)) (d9 : w.cell? ⟨D, 9, none⟩ = some (.bool false)) :
    Calls Try.prog 51 #[.pointer (some ⟨D, 0, none⟩), .int .i64 0, .int .i64 p, .int .i64 n] w fun e w' => e = .returned (.tuple #[.slice none 0 0, .int .i64 1]) ∧ w' = w := by
  by_cases hn : p < 0
  · have hnd : decide (p < 0) = true := decide_eq_true hn
    clear ho
    go_enter Try.func51, Try.ntmps51
    go_wp2_with fail
    refine (ready_ok D 0 (.inl rfl) _ d9).mono ?_
    rintro e w1 ⟨rfl, hw⟩
    subst hw
    go_wp2
    go_ret2
    exact ⟨rfl, rfl⟩
  have hp0 : 0 ≤ p := by omega
  by_cases hm : n < 0
  · have hnd : decide (n < 0) = true := decide_eq_true hm
    clear ho hn
    go_enter Try.func51, Try.ntmps51
    go_wp2_with fail
    refine (ready_ok D 0 (.inl rfl) _ d9).mono ?_
    rintro e w1 ⟨rfl, hw⟩
    subst hw
    go_wp2
    go_ret2
    exact ⟨rfl, rfl⟩
  have hn0 : 0 ≤ n := by omega
  by_cases hlp : (l : Int) < p
  · clear ho hn hm
    go_enter Try.func51, Try.ntmps51
    go_wp2_with fail
    refine (ready_ok D 0 (.inl rfl) _ d9).mono ?_
    rintro e w1 ⟨rfl, hw⟩
    subst hw
    go_wp2
    go_ret2
    exact ⟨rfl, rfl⟩
  have hl' : p ≤ (l : Int) := by omega
  have hr : (l : Int) - p < n := by omega
  have hwr : wrap64 ((l : Int) - p) = (l : Int) - p := wrap64_in (by omega) (by omega)
  clear ho hn hm hlp
  go_enter Try.func51, Try.ntmps51
  go_wp2_with fail
  refine (ready_ok D 0 (.inl rfl) _ d9).mono ?_
  rintro e w1 ⟨rfl, hw⟩
  subst hw
  go_wp2
  go_ret2
  exact ⟨rfl, rfl⟩

set_option maxHeartbeats 1600000 in
theorem pread_out1 (w : World) (D : Nat) (va : Option Addr) (l vc : Nat) (p n : Int) (hl : l ≤ 1000000) (ho : p < 0 ∨ n < 0 ∨ (l : Int) < p ∨ (l : Int) - p < n) (d0 : w.cell? ⟨D, 3, none⟩ = some (.slice va l vc)) (d9 : w.cell? ⟨D, 9, none⟩ = some (.bool false)) :
    Calls Try.prog 51 #[.pointer (some ⟨D, 0, none⟩), .int .i64 1, .int .i64 p, .int .i64 n] w fun e w' => e = .returned (.tuple #[.slice none 0 0, .int .i64 1]) ∧ w' = w := by
  by_cases hn : p < 0
  · have hnd : decide (p < 0) = true := decide_eq_true hn
    clear ho
    go_enter Try.func51, Try.ntmps51
    go_wp2_with fail
    refine (ready_ok D 1 (.inr rfl) _ d9).mono ?_
    rintro e w1 ⟨rfl, hw⟩
    subst hw
    go_wp2
    go_ret2
    exact ⟨rfl, rfl⟩
  have hp0 : 0 ≤ p := by omega
  by_cases hm : n < 0
  · have hnd : decide (n < 0) = true := decide_eq_true hm
    clear ho hn
    go_enter Try.func51, Try.ntmps51
    go_wp2_with fail
    refine (ready_ok D 1 (.inr rfl) _ d9).mono ?_
    rintro e w1 ⟨rfl, hw⟩
    subst hw
    go_wp2
    go_ret2
    exact ⟨rfl, rfl⟩
  have hn0 : 0 ≤ n := by omega
  by_cases hlp : (l : Int) < p
  · clear ho hn hm
    go_enter Try.func51, Try.ntmps51
    go_wp2_with fail
    refine (ready_ok D 1 (.inr rfl) _ d9).mono ?_
    rintro e w1 ⟨rfl, hw⟩
    subst hw
    go_wp2
    go_ret2
    exact ⟨rfl, rfl⟩
  have hl' : p ≤ (l : Int) := by omega
  have hr : (l : Int) - p < n := by omega
  have hwr : wrap64 ((l : Int) - p) = (l : Int) - p := wrap64_in (by omega) (by omega)
  clear ho hn hm hlp
  go_enter Try.func51, Try.ntmps51
  go_wp2_with fail
  refine (ready_ok D 1 (.inr rfl) _ d9).mono ?_
  rintro e w1 ⟨rfl, hw⟩
  subst hw
  go_wp2
  go_ret2
  exact ⟨rfl, rfl⟩

theorem pread_any (w : World) (D B : Nat) (v0 s0 m0 v1 s1 m1 : Value) (a : DA) (f p n : Int) (h : PC w D B v0 s0 m0 v1 s1 m1 a) (hW : a.Wf) (hf : a.few 1000000) :
    Calls Try.prog 51 #[.pointer (some ⟨D, 0, none⟩), .int .i64 f, .int .i64 p, .int .i64 n] w (RdPost w (a.read f p n)) := by
  obtain ⟨hf0, hl0, hf1, hl1⟩ := hf
  obtain ⟨va0, vc0, hv0⟩ := size_of h.f0
  obtain ⟨va1, vc1, hv1⟩ := size_of h.f1
  by_cases hff : f ≠ 0 ∧ f ≠ 1
  · have e1 : a.read f p n = (1, []) := by unfold DA.read; rw [if_pos hff]
    refine (pread_nofile w D f p n hff).mono ?_
    rintro e w' ⟨rfl, rfl⟩
    rw [e1]; exact rdPost_err _ _
  have hff' : f = 0 ∨ f = 1 := by omega
  by_cases hd : a.down = true
  · have e1 : a.read f p n = (16, []) := by unfold DA.read; rw [if_neg hff, if_pos hd]
    refine (pread_down w D f p n hff' (by rw [h.d9, hd])).mono ?_
    rintro e w' ⟨rfl, rfl⟩
    rw [e1]; exact rdPost_err _ _
  have hd' : a.down = false := by simpa using hd
  have d9 : w.cell? ⟨D, 9, none⟩ = some (.bool false) := by rw [h.d9, hd']
  by_cases ho : p < 0 ∨ n < 0 ∨ (a.size f : Int) < p ∨ (a.size f : Int) - p < n
  · have e1 : a.read f p n = (1, []) := by unfold DA.read; rw [if_neg hff, if_neg hd, if_pos ho]
    rcases hff' with rfl | rfl
    · refine (pread_out0 w D va0 a.f0.zs.length vc0 p n hf0 ho (by rw [h.d0, hv0]) d9).mono ?_
      rintro e w' ⟨rfl, rfl⟩
      rw [e1]; exact rdPost_err _ _
    · refine (pread_out1 w D va1 a.f1.zs.length vc1 p n hf1 ho (by rw [h.d3, hv1]) d9).mono ?_
      rintro e w' ⟨rfl, rfl⟩
      rw [e1]; exact rdPost_err _ _
  obtain ⟨k, rfl⟩ : ∃ k : Nat, p = (k : Int) := ⟨p.toNat, by omega⟩
  obtain ⟨m, rfl⟩ : ∃ m : Nat, n = (m : Int) := ⟨n.toNat, by omega⟩
  have e1 : a.read f (k : Int) (m : Int) = (0, ((a.on f).zs.drop k).take m) := by unfold DA.read; rw [if_neg hff, if_neg hd, if_neg ho, Int.toNat_natCast, Int.toNat_natCast]
  have hkm : k + m ≤ a.size f := by omega
  rw [e1]
  rcases hff' with rfl | rfl
  · refine (preadat0 w D B va0 vc0 k m a.f0.zs (by rw [h.d0, hv0]) d9 (by rw [← hv0]; exact h.f0.own) hW.w0.rz hf0 hkm).mono ?_
    rintro e w' ⟨v, rfl, ho, hb⟩
    have hl : ((a.f0.zs.drop k).take m).length = m := by rw [List.length_take, List.length_drop]; have hkm' : k + m ≤ a.f0.zs.length := hkm; omega
    exact rdPost_row (zs := (a.f0.zs.drop k).take m) (by rw [hl]; exact ho) (fun z hz => hW.w0.rz z (List.mem_of_mem_drop (List.mem_of_mem_take hz))) hb
  · refine (preadat1 w D B va1 vc1 k m a.f1.zs (by rw [h.d3, hv1]) d9 (by rw [← hv1]; exact h.f1.own) hW.w1.rz hf1 hkm).mono ?_
    rintro e w' ⟨v, rfl, ho, hb⟩
    have hl : ((a.f1.zs.drop k).take m).length = m := by rw [List.length_take, List.length_drop]; have hkm' : k + m ≤ a.f1.zs.length := hkm; omega
    exact rdPost_row (zs := (a.f1.zs.drop k).take m) (by rw [hl]; exact ho) (fun z hz => hW.w1.rz z (List.mem_of_mem_drop (List.mem_of_mem_take hz))) hb
set_option maxHeartbeats 800000 in
theorem psize_no (D : Nat) (f : Int) (hf : f ≠ 0 ∧ f ≠ 1) (w : World) : Calls Try.prog 40 #[.pointer (some ⟨D, 0, none⟩), .int .i64 f] w fun e w' => e = .returned (.int .i64 0) ∧ w' = w := by
  have HF := Lib.hid hf
  clear hf
  go_enter Try.func40, Try.ntmps40
  go_wp2_with fail
  refine (has_none D f HF.out _).mono ?_
  rintro e w1 ⟨rfl, hw⟩
  subst hw
  go_wp2
  go_ret
  exact ⟨rfl, rfl⟩
theorem psize_any (w : World) (D B : Nat) (v0 s0 m0 v1 s1 m1 : Value) (a : DA) (f : Int) (h : PC w D B v0 s0 m0 v1 s1 m1 a) : Calls Try.prog 40 #[.pointer (some ⟨D, 0, none⟩), .int .i64 f] w fun e w' => e = .returned (.int .i64 (a.size f)) ∧ w' = w := by
  obtain ⟨va0, vc0, hv0⟩ := size_of h.f0
  obtain ⟨va1, vc1, hv1⟩ := size_of h.f1
  by_cases h0 : f = 0
  · subst h0
    exact size0 D va0 a.f0.zs.length vc0 w (by rw [h.d0, hv0])
  · by_cases h1 : f = 1
    · subst h1
      exact size1 D va1 a.f1.zs.length vc1 w (by rw [h.d3, hv1])
    · have : a.size f = 0 := by unfold DA.size; rw [if_neg h0, if_neg h1]
      rw [this]
      exact psize_no D f ⟨h0, h1⟩ w
set_option maxHeartbeats 1600000 in
theorem pleft_any (w : World) (D B : Nat) (v0 s0 m0 v1 s1 m1 : Value) (a : DA) (h : PC w D B v0 s0 m0 v1 s1 m1 a) (hW : a.Wf) (hf : a.few 1000000) : Calls Try.prog 41 #[.pointer (some ⟨D, 0, none⟩)] w fun e w' => e = .returned (.int .i64 a.leftN) ∧ ∃ n, w' = w.drewN n := by
  obtain ⟨hf0, _, hf1, _⟩ := hf
  obtain ⟨va0, vc0, hv0⟩ := size_of h.f0
  obtain ⟨va1, vc1, hv1⟩ := size_of h.f1
  have d0 : w.cell? ⟨D, 0, none⟩ = some (.slice va0 a.f0.zs.length vc0) := by rw [h.d0, hv0]
  have d3 : w.cell? ⟨D, 3, none⟩ = some (.slice va1 a.f1.zs.length vc1) := by rw [h.d3, hv1]
  have d6 : w.cell? ⟨D, 6, none⟩ = some (.int .i64 a.R) := cell_of_row w D 6 _ _ _ h.box
  have hR0 := hW.r0
  have hR1 := hW.r1
  unfold DA.leftN
  obtain ⟨p, hp⟩ : ∃ p, p = a.f0.zs.length := ⟨_, rfl⟩
  obtain ⟨q, hq⟩ : ∃ q, q = a.f1.zs.length := ⟨_, rfl⟩
  obtain ⟨R, hR⟩ : ∃ R, R = a.R := ⟨_, rfl⟩
  rw [← hp] at d0 hf0 ⊢
  rw [← hq] at d3 hf1 ⊢
  rw [← hR] at d6 hR0 hR1 ⊢
  clear hp hq hR hv0 hv1 h hW
  have k0 := fun n => Calls.quiet_of_same (size0 D va0 p vc0 (w.drewN n) d0)
  have k1 := fun n => Calls.quiet_of_same (size1 D va1 q vc1 (w.drewN n) d3)
  have d6n : ∀ n, (w.drewN n).cell? ⟨D, 6, none⟩ = some (.int .i64 R) := fun n => d6
  have e1 : IntKind.i64.wrap (R - (p : Int)) = R - (p : Int) := wrapI_in (by omega) (by omega)
  have e2 : IntKind.i64.wrap (R - (p : Int) - (q : Int)) = R - (p : Int) - (q : Int) := wrapI_in (by omega) (by omega)
  by_cases hs : 0 < R - (p : Int) - (q : Int)
  · have e3 : decide ((0 : Int) < R - (p : Int) - (q : Int)) = true := decide_eq_true hs
    have e4 : decide (R - (p : Int) - (q : Int) < 0) = false := decide_eq_false (by omega)
    have e5 := Lib.hid (show max (0 : Int) (R - (p : Int) - (q : Int)) = R - (p : Int) - (q : Int) by omega)
    rw [e5.out]
    go_enter Try.func41, Try.ntmps41
    go_wp2_with fail
    go_quiet ((go_at_call 40; with_reducible first | exact k0 _ | exact k1 _))
    rw [e5.out]
    clear e1 e2 e3 e4
    go_wp2
    go_ret
    exact ⟨rfl, _, rfl⟩
  · have e3 : decide ((0 : Int) < R - (p : Int) - (q : Int)) = false := decide_eq_false hs
    have e5 := Lib.hid (show max (0 : Int) (R - (p : Int) - (q : Int)) = 0 by omega)
    rw [e5.out]
    go_enter Try.func41, Try.ntmps41
    go_wp2_with fail
    go_quiet ((go_at_call 40; with_reducible first | exact k0 _ | exact k1 _))
    rw [e5.out]
    clear e1 e2 e3
    go_wp2
    go_ret
    exact ⟨rfl, _, rfl⟩
set_option maxHeartbeats 1600000 in
theorem puns_any (w : World) (D B : Nat) (v0 s0 m0 v1 s1 m1 : Value) (a : DA) (h : PC w D B v0 s0 m0 v1 s1 m1 a) (h0 : SecK a.f0.L) (h1 : SecK a.f1.L) (hf : a.few 1000000) : Calls Try.prog 56 #[.pointer (some ⟨D, 0, none⟩)] w fun e w' => e = .returned (.int .i64 ((nKeys a.f0.L : Int) + (nKeys a.f1.L : Int))) ∧ ∃ n, w' = w.drewN n := by
  have d2 : w.cell? ⟨D, 2, none⟩ = some m0 := cell_of_row w D 2 _ _ _ h.box
  have d5 : w.cell? ⟨D, 5, none⟩ = some m1 := cell_of_row w D 5 _ _ _ h.box
  have d2n : ∀ n, (w.drewN n).cell? ⟨D, 2, none⟩ = some m0 := fun n => d2
  have d5n : ∀ n, (w.drewN n).cell? ⟨D, 5, none⟩ = some m1 := fun n => d5
  have l0 : ∀ n ty, (Builtin.len_ #[89] ty #[m0]).run Try.prog (w.drewN n) = .ok (.int .i64 (nKeys a.f0.L : Int)) (w.drewN n) := fun n ty => map_len (w := w.drewN n) ⟨h.f0.own, h.f0.rg, h.f0.mp⟩ h0.key ty
  have l1 : ∀ n ty, (Builtin.len_ #[89] ty #[m1]).run Try.prog (w.drewN n) = .ok (.int .i64 (nKeys a.f1.L : Int)) (w.drewN n) := fun n ty => map_len (w := w.drewN n) ⟨h.f1.own, h.f1.rg, h.f1.mp⟩ h1.key ty
  have b0 : nKeys a.f0.L ≤ 1000000 := Nat.le_trans (addKeys_len _ []) (by simpa using hf.2.1)
  have b1 : nKeys a.f1.L ≤ 1000000 := Nat.le_trans (addKeys_len _ []) (by simpa using hf.2.2.2)
  obtain ⟨p, hp⟩ : ∃ p, p = nKeys a.f0.L := ⟨_, rfl⟩
  obtain ⟨q, hq⟩ : ∃ q, q = nKeys a.f1.L := ⟨_, rfl⟩
  rw [← hp] at b0 l0 ⊢
  rw [← hq] at b1 l1 ⊢
  have e1 : IntKind.i64.wrap ((p : Int) + (q : Int)) = (p : Int) + (q : Int) := wrapI_in (by omega) (by omega)
  clear hp hq h h0 h1 hf
  go_enter Try.func56, Try.ntmps56
  go_wp2_with fail
  go_quiet (fail)
  go_wp2
  go_ret
  exact ⟨rfl, _, rfl⟩
set_option maxHeartbeats 800000 in
theorem pdown_any (w : World) (D B : Nat) (v0 s0 m0 v1 s1 m1 : Value) (a : DA) (h : PC w D B v0 s0 m0 v1 s1 m1 a) : Calls Try.prog 55 #[.pointer (some ⟨D, 0, none⟩)] w fun e w' => e = .returned (.bool a.down) ∧ w' = w := by
  have d9 := h.d9
  clear h
  go_enter Try.func55, Try.ntmps55
  go_wp2
  go_ret
  exact ⟨rfl, rfl⟩
set_option maxHeartbeats 1600000 in
theorem pfuse_any (w : World) (D B : Nat) (v0 s0 m0 v1 s1 m1 : Value) (a : DA) (n : Int) (h : PC w D B v0 s0 m0 v1 s1 m1 a) : Calls Try.prog 47 #[.pointer (some ⟨D, 0, none⟩), .int .i64 n] w fun e w' => e = .returned (.tuple #[]) ∧ PPost w D B v0 s0 m0 v1 s1 m1 (a.setFuse n) w' := by
  have c7 := cell_of_row w D 7 _ _ _ h.box
  have c8 := cell_of_row w D 8 _ _ _ h.box
  simp only [pCs, List.getElem?_toArray, List.getElem?_cons_zero, List.getElem?_cons_succ] at c7 c8
  have f7 := frozen_of_row w D 7 _ _ h.box
  have f8 := frozen_of_row w D 8 _ _ h.box
  have hD : D < w.heap.size := (Array.getElem?_eq_some_iff.1 h.box).1
  have x1 := Go.heap_setCell_same w D 7 _ _ (.bool (decide (0 ≤ n))) h.box
  have x2 := Go.heap_setCell_same _ D 8 _ _ (.int .i64 n) x1
  have k2 : Only (fun i => i = D) w ((w.setCell ⟨D, 7, none⟩ (.bool (decide (0 ≤ n)))).setCell ⟨D, 8, none⟩ (.int .i64 n)) := ((Only.refl _ w).set (S := fun i => i = D) rfl _).set rfl _
  have HP := Lib.hid ((h.scal (a' := a.setFuse n) rfl rfl x2 k2).same (a := a) k2)
  clear h x1 x2 k2
  by_cases hn : 0 ≤ n
  · have hd : decide (0 ≤ n) = true := decide_eq_true hn
    rw [hd] at HP
    go_enter Try.func47, Try.ntmps47
    go_wp2
    go_end0
    exact ⟨rfl, HP.out⟩
  · have hd : decide (0 ≤ n) = false := decide_eq_false hn
    have hn' : n < 0 := by omega
    rw [hd] at HP
    go_enter Try.func47, Try.ntmps47
    go_wp2
    go_end0
    exact ⟨rfl, HP.out⟩
set_option maxHeartbeats 1600000 in
theorem proom_any (w : World) (D B : Nat) (v0 s0 m0 v1 s1 m1 : Value) (a : DA) (n : Int) (h : PC w D B v0 s0 m0 v1 s1 m1 a) : Calls Try.prog 48 #[.pointer (some ⟨D, 0, none⟩), .int .i64 n] w fun e w' => e = .returned (.tuple #[]) ∧ PPost w D B v0 s0 m0 v1 s1 m1 (a.setRoom n) w' := by
  have c6 : w.cell? ⟨D, 6, none⟩ = some (.int .i64 a.R) := cell_of_row w D 6 _ _ _ h.box
  have f6 := frozen_of_row w D 6 _ _ h.box
  have hD : D < w.heap.size := (Array.getElem?_eq_some_iff.1 h.box).1
  have x1 := Go.heap_setCell_same w D 6 _ _ (.int .i64 (max n 0)) h.box
  have k2 : Only (fun i => i = D) w (w.setCell ⟨D, 6, none⟩ (.int .i64 (max n 0))) := (Only.refl _ w).set (S := fun i => i = D) rfl _
  have HP := Lib.hid ((h.scal (a' := a.setRoom n) rfl rfl x1 k2).same (a := a) k2)
  clear h x1 k2
  have hmx := Lib.hid (show max (0 : Int) n = max n 0 by omega)
  rw [← hmx.out] at HP
  go_enter Try.func48, Try.ntmps48
  go_wp2
  go_end0
  exact ⟨rfl, HP.out⟩
end Go.Proofs.Ytafhgilikcablaa
