/- The document's disk: Write, every way. (Written by gendpd5.py.) -/
import Derived.Test.YtafhgilikcablaaDpD4
namespace Go.Proofs.Ytafhgilikcablaa
open Go.RowKit Go.Maps
set_option linter.unusedVariables false
set_option maxRecDepth 100000

theorem wr_facts3 {n p bl : Nat} (hn : p ≤ n) (hz : n ≤ 1000000) (hb : bl ≤ 25000) : (0 : Int) ≤ (p : Int) ∧ (p : Int) ≤ (n : Int) ∧ decide ((p : Int) < 0) = false ∧ decide (n < p) = false ∧ decide ((n : Int) < (p : Int)) = false ∧
    wrap64 ((p : Int) + (bl : Int)) = (p : Int) + (bl : Int) ∧ wrap64 ((p : Int) + (bl : Int) - (n : Int)) = (p : Int) + (bl : Int) - (n : Int) :=
  ⟨by omega, by omega, decide_eq_false (by omega), decide_eq_false (by omega), decide_eq_false (by omega), wrap64_in (by omega) (by omega), wrap64_in (by omega) (by omega)⟩
theorem fa_write_none (x : FA) (p : Nat) : x.write [] p = x := by
  unfold FA.write wrB secs
  simp
theorem DA.put_on (a : DA) (f : Int) : a.put f (a.on f) = a := by
  unfold DA.put DA.on
  split <;> rfl
set_option maxHeartbeats 3200000 in
theorem rwrite_full0 (w : World) (E B : Nat) (i0 k0 : Value) (M0 : Nat) (i1 k1 : Value) (M1 : Nat) (a : DA) (p : Nat) (ba : Option Addr) (bl bc : Nat) (h : RC w E B i0 k0 M0 i1 k1 M1 a) (hW : a.Wf) (hf : a.few 1000000) (hd : a.down = false) (hn : p ≤ a.f0.zs.length) (hb5 : bl ≤ 25000) (hfu : a.f0.zs.length < p + bl ∧ a.R < (p : Int) + (bl : Int) + (a.f1.zs.length : Int)) :
    Calls Try.prog 42 #[.pointer (some ⟨E, 0, none⟩), .int .i64 0, .int .i64 (p : Int), .slice ba bl bc] w fun e w' => e = .returned (.int .i64 15) ∧ DPost w E B i0 k0 M0 i1 k1 M1 a w' := by
  have hzl : a.f0.zs.length ≤ 1000000 := by obtain ⟨x0, _, x1, _⟩ := hf; exact x0
  have d8 := h.d8
  rw [hd] at d8
  obtain ⟨va, vL, vc, hve, hvL, hvI, hvlo, hvn, hvle, hvB⟩ := own_any h.is0 hW.w0.rz
  subst hvL
  have c0 : w.cell? ⟨E, 0, none⟩ = some (.slice va a.f0.zs.length vc) := by rw [cell_of_row w E 0 _ _ _ h.box, ← hve]; rfl
  have S0 := Lib.hid (fun (w' : World) (hw : w' = w) => rsize_any w' E B i0 k0 M0 i1 k1 M1 a 0 (by rw [hw]; exact h) hW)
  have SL := Lib.hid (fun (w' : World) (hw : w' = w) => rleft_any w' E B i0 k0 M0 i1 k1 M1 a (by rw [hw]; exact h) hW hf)
  have HSz := Lib.hid (show a.size 0 = a.f0.zs.length from rfl)
  have HLr := Lib.hid (show 0 ≤ a.leftN ∧ a.leftN ≤ 9223372036854775807 by
    unfold DA.leftN
    have := hW.r1
    omega)
  have HLf := Lib.hid (show (0 : Int) < (p : Int) + (bl : Int) - (a.f0.zs.length : Int) ∧ a.leftN < (p : Int) + (bl : Int) - (a.f0.zs.length : Int) by
    unfold DA.leftN
    omega)
  have H := Lib.hid h
  have HW := Lib.hid hW
  have hEw : E < w.heap.size := (Array.getElem?_eq_some_iff.1 h.box).1
  obtain ⟨n, hnz⟩ : ∃ n, n = a.f0.zs.length := ⟨_, rfl⟩
  have HNz := Lib.hid hnz
  rw [← hnz] at hn c0 HSz hzl
  obtain ⟨hn0, hn1, hd1, hd2, hd3, hw1, hw2⟩ := wr_facts3 (bl := bl) hn hzl hb5
  clear h hW hd hvI hvlo hvn hvle hvB hve hf hnz hfu
  go_enter Try.func42, Try.ntmps42
  go_wp2_with fail
  refine (rthere_yes 0 (by decide) _).mono ?_
  rintro e w1 ⟨rfl, hw⟩
  subst hw
  go_wp2_with fail
  refine (S0.out _ rfl).mono ?_
  rintro e w1 ⟨rfl, hw⟩
  subst hw
  rw [HSz.out]
  have hg : (0 : Int) < (p : Int) + (bl : Int) - (n : Int) := by have := HLf.out.1; have := HNz.out; omega
  have hg2 : a.leftN < (p : Int) + (bl : Int) - (n : Int) := by have := HLf.out.2; have := HNz.out; omega
  go_wp2_with fail
  refine (SL.out _ rfl).mono ?_
  rintro e w2 ⟨rfl, hw⟩
  subst hw
  go_wp2
  go_ret
  exact ⟨rfl, H.out.stay⟩
set_option maxHeartbeats 3200000 in
theorem rwrite_gone0 (w : World) (E B : Nat) (i0 k0 : Value) (M0 : Nat) (i1 k1 : Value) (M1 : Nat) (a : DA) (p : Nat) (ba : Option Addr) (bl bc : Nat) (h : RC w E B i0 k0 M0 i1 k1 M1 a) (hW : a.Wf) (hf : a.few 1000000) (hd : a.down = false) (hn : p ≤ a.f0.zs.length) (hb5 : bl ≤ 25000) (hnf : p + bl ≤ a.f0.zs.length ∨ (p : Int) + (bl : Int) + (a.f1.zs.length : Int) ≤ a.R) (hp : a.pow = false) :
    Calls Try.prog 42 #[.pointer (some ⟨E, 0, none⟩), .int .i64 0, .int .i64 (p : Int), .slice ba bl bc] w fun e w' => e = .returned (.int .i64 16) ∧ DPost w E B i0 k0 M0 i1 k1 M1 a.gone w' := by
  have hzl : a.f0.zs.length ≤ 1000000 := by obtain ⟨x0, _, x1, _⟩ := hf; exact x0
  have d8 := h.d8
  rw [hd] at d8
  obtain ⟨va, vL, vc, hve, hvL, hvI, hvlo, hvn, hvle, hvB⟩ := own_any h.is0 hW.w0.rz
  subst hvL
  have c0 : w.cell? ⟨E, 0, none⟩ = some (.slice va a.f0.zs.length vc) := by rw [cell_of_row w E 0 _ _ _ h.box, ← hve]; rfl
  have S0 := Lib.hid (fun (w' : World) (hw : w' = w) => rsize_any w' E B i0 k0 M0 i1 k1 M1 a 0 (by rw [hw]; exact h) hW)
  have SL := Lib.hid (fun (w' : World) (hw : w' = w) => rleft_any w' E B i0 k0 M0 i1 k1 M1 a (by rw [hw]; exact h) hW hf)
  have HSz := Lib.hid (show a.size 0 = a.f0.zs.length from rfl)
  have HLr := Lib.hid (show 0 ≤ a.leftN ∧ a.leftN ≤ 9223372036854775807 by
    unfold DA.leftN
    have := hW.r1
    omega)
  have HLf := Lib.hid (show a.f0.zs.length < p + bl → (p : Int) + (bl : Int) - (a.f0.zs.length : Int) ≤ a.leftN by
    unfold DA.leftN
    intro hh
    have := hW.r0
    omega)
  have HP := Lib.hid hp
  have H := Lib.hid h
  have HW := Lib.hid hW
  have hEw : E < w.heap.size := (Array.getElem?_eq_some_iff.1 h.box).1
  obtain ⟨n, hnz⟩ : ∃ n, n = a.f0.zs.length := ⟨_, rfl⟩
  have HNz := Lib.hid hnz
  rw [← hnz] at hn c0 HSz hzl
  obtain ⟨hn0, hn1, hd1, hd2, hd3, hw1, hw2⟩ := wr_facts3 (bl := bl) hn hzl hb5
  clear h hW hd hvI hvlo hvn hvle hvB hve hf hnz hnf hp
  go_enter Try.func42, Try.ntmps42
  go_wp2_with fail
  refine (rthere_yes 0 (by decide) _).mono ?_
  rintro e w1 ⟨rfl, hw⟩
  subst hw
  go_wp2_with fail
  refine (S0.out _ rfl).mono ?_
  rintro e w1 ⟨rfl, hw⟩
  subst hw
  rw [HSz.out]
  go_upto_region 9 with (fail)
  go_cut [54] (fun x wx => x = .bool false ∧ wx = w1)
  case first =>
    by_cases hg : (0 : Int) < (p : Int) + (bl : Int) - (n : Int)
    · have HL2 := HLf.out (by have := HNz.out; omega)
      go_wp2_with fail
      refine (SL.out _ rfl).mono ?_
      rintro e w2 ⟨rfl, hw⟩
      subst hw
      go_wp2_with fail
      go_meet
      exact ⟨by rw [decide_eq_false (show ¬ (a.leftN < (p : Int) + (bl : Int) - (n : Int)) by have := HNz.out; omega)], rfl⟩
    · have hg' : (p : Int) + (bl : Int) - (n : Int) ≤ 0 := by omega
      go_wp2_with fail
      go_meet
      exact ⟨rfl, rfl⟩
  case rest =>
    obtain ⟨rfl, hwc⟩ := hcut
    subst hwc
    go_wp2_with fail
    refine (rchange_gone _ E B i0 k0 M0 i1 k1 M1 a H.out HP.out).mono ?_
    rintro e w2 ⟨rfl, hg, hk⟩
    have HG := Lib.hid (hg.same (a := a) hk)
    clear hg hk
    go_wp2
    go_ret
    exact ⟨rfl, HG.out⟩
set_option maxHeartbeats 3200000 in
theorem rwrite_none0 (w : World) (E B : Nat) (i0 k0 : Value) (M0 : Nat) (i1 k1 : Value) (M1 : Nat) (a : DA) (p : Nat) (ba : Option Addr) (bl bc : Nat) (h : RC w E B i0 k0 M0 i1 k1 M1 a) (hW : a.Wf) (hf : a.few 1000000) (hd : a.down = false) (hn : p ≤ a.f0.zs.length) (hb5 : bl ≤ 25000) (hnf : p + bl ≤ a.f0.zs.length ∨ (p : Int) + (bl : Int) + (a.f1.zs.length : Int) ≤ a.R) (hp : a.pow = true) (hbl : bl = 0) :
    Calls Try.prog 42 #[.pointer (some ⟨E, 0, none⟩), .int .i64 0, .int .i64 (p : Int), .slice ba bl bc] w fun e w' => e = .returned (.int .i64 0) ∧ DPost w E B i0 k0 M0 i1 k1 M1 a.tick w' := by
  have hzl : a.f0.zs.length ≤ 1000000 := by obtain ⟨x0, _, x1, _⟩ := hf; exact x0
  have d8 := h.d8
  rw [hd] at d8
  obtain ⟨va, vL, vc, hve, hvL, hvI, hvlo, hvn, hvle, hvB⟩ := own_any h.is0 hW.w0.rz
  subst hvL
  have c0 : w.cell? ⟨E, 0, none⟩ = some (.slice va a.f0.zs.length vc) := by rw [cell_of_row w E 0 _ _ _ h.box, ← hve]; rfl
  have S0 := Lib.hid (fun (w' : World) (hw : w' = w) => rsize_any w' E B i0 k0 M0 i1 k1 M1 a 0 (by rw [hw]; exact h) hW)
  have SL := Lib.hid (fun (w' : World) (hw : w' = w) => rleft_any w' E B i0 k0 M0 i1 k1 M1 a (by rw [hw]; exact h) hW hf)
  have HSz := Lib.hid (show a.size 0 = a.f0.zs.length from rfl)
  have HLr := Lib.hid (show 0 ≤ a.leftN ∧ a.leftN ≤ 9223372036854775807 by
    unfold DA.leftN
    have := hW.r1
    omega)
  have HLf := Lib.hid (show a.f0.zs.length < p + bl → (p : Int) + (bl : Int) - (a.f0.zs.length : Int) ≤ a.leftN by
    unfold DA.leftN
    intro hh
    have := hW.r0
    omega)
  have HP := Lib.hid hp
  have HBl := Lib.hid hbl
  have H := Lib.hid h
  have HW := Lib.hid hW
  have hEw : E < w.heap.size := (Array.getElem?_eq_some_iff.1 h.box).1
  obtain ⟨n, hnz⟩ : ∃ n, n = a.f0.zs.length := ⟨_, rfl⟩
  have HNz := Lib.hid hnz
  rw [← hnz] at hn c0 HSz hzl
  obtain ⟨hn0, hn1, hd1, hd2, hd3, hw1, hw2⟩ := wr_facts3 (bl := bl) hn hzl hb5
  clear h hW hd hvI hvlo hvn hvle hvB hve hf hnz hnf hp hbl
  go_enter Try.func42, Try.ntmps42
  go_wp2_with fail
  refine (rthere_yes 0 (by decide) _).mono ?_
  rintro e w1 ⟨rfl, hw⟩
  subst hw
  go_wp2_with fail
  refine (S0.out _ rfl).mono ?_
  rintro e w1 ⟨rfl, hw⟩
  subst hw
  rw [HSz.out]
  go_upto_region 9 with (fail)
  go_cut [54] (fun x wx => x = .bool false ∧ wx = w1)
  case first =>
    by_cases hg : (0 : Int) < (p : Int) + (bl : Int) - (n : Int)
    · have HL2 := HLf.out (by have := HNz.out; omega)
      go_wp2_with fail
      refine (SL.out _ rfl).mono ?_
      rintro e w2 ⟨rfl, hw⟩
      subst hw
      go_wp2_with fail
      go_meet
      exact ⟨by rw [decide_eq_false (show ¬ (a.leftN < (p : Int) + (bl : Int) - (n : Int)) by have := HNz.out; omega)], rfl⟩
    · have hg' : (p : Int) + (bl : Int) - (n : Int) ≤ 0 := by omega
      go_wp2_with fail
      go_meet
      exact ⟨rfl, rfl⟩
  case rest =>
    obtain ⟨rfl, hwc⟩ := hcut
    subst hwc
    go_wp2_with fail
    refine (rchange_pass _ E B i0 k0 M0 i1 k1 M1 a H.out HW.out HP.out).mono ?_
    rintro e w2 ⟨rfl, hg, hk⟩
    have HG := Lib.hid (hg.same (a := a) hk)
    clear hg hk
    have hbl := HBl.out
    subst hbl
    go_wp2
    go_ret
    exact ⟨rfl, HG.out⟩
set_option maxHeartbeats 3200000 in
theorem rwrite_full1 (w : World) (E B : Nat) (i0 k0 : Value) (M0 : Nat) (i1 k1 : Value) (M1 : Nat) (a : DA) (p : Nat) (ba : Option Addr) (bl bc : Nat) (h : RC w E B i0 k0 M0 i1 k1 M1 a) (hW : a.Wf) (hf : a.few 1000000) (hd : a.down = false) (hn : p ≤ a.f1.zs.length) (hb5 : bl ≤ 25000) (hfu : a.f1.zs.length < p + bl ∧ a.R < (p : Int) + (bl : Int) + (a.f0.zs.length : Int)) :
    Calls Try.prog 42 #[.pointer (some ⟨E, 0, none⟩), .int .i64 1, .int .i64 (p : Int), .slice ba bl bc] w fun e w' => e = .returned (.int .i64 15) ∧ DPost w E B i0 k0 M0 i1 k1 M1 a w' := by
  have hzl : a.f1.zs.length ≤ 1000000 := by obtain ⟨x0, _, x1, _⟩ := hf; exact x1
  have d8 := h.d8
  rw [hd] at d8
  obtain ⟨va, vL, vc, hve, hvL, hvI, hvlo, hvn, hvle, hvB⟩ := own_any h.is1 hW.w1.rz
  subst hvL
  have c0 : w.cell? ⟨E, 3, none⟩ = some (.slice va a.f1.zs.length vc) := by rw [cell_of_row w E 3 _ _ _ h.box, ← hve]; rfl
  have S0 := Lib.hid (fun (w' : World) (hw : w' = w) => rsize_any w' E B i0 k0 M0 i1 k1 M1 a 1 (by rw [hw]; exact h) hW)
  have SL := Lib.hid (fun (w' : World) (hw : w' = w) => rleft_any w' E B i0 k0 M0 i1 k1 M1 a (by rw [hw]; exact h) hW hf)
  have HSz := Lib.hid (show a.size 1 = a.f1.zs.length from rfl)
  have HLr := Lib.hid (show 0 ≤ a.leftN ∧ a.leftN ≤ 9223372036854775807 by
    unfold DA.leftN
    have := hW.r1
    omega)
  have HLf := Lib.hid (show (0 : Int) < (p : Int) + (bl : Int) - (a.f1.zs.length : Int) ∧ a.leftN < (p : Int) + (bl : Int) - (a.f1.zs.length : Int) by
    unfold DA.leftN
    omega)
  have H := Lib.hid h
  have HW := Lib.hid hW
  have hEw : E < w.heap.size := (Array.getElem?_eq_some_iff.1 h.box).1
  obtain ⟨n, hnz⟩ : ∃ n, n = a.f1.zs.length := ⟨_, rfl⟩
  have HNz := Lib.hid hnz
  rw [← hnz] at hn c0 HSz hzl
  obtain ⟨hn0, hn1, hd1, hd2, hd3, hw1, hw2⟩ := wr_facts3 (bl := bl) hn hzl hb5
  clear h hW hd hvI hvlo hvn hvle hvB hve hf hnz hfu
  go_enter Try.func42, Try.ntmps42
  go_wp2_with fail
  refine (rthere_yes 1 (by decide) _).mono ?_
  rintro e w1 ⟨rfl, hw⟩
  subst hw
  go_wp2_with fail
  refine (S0.out _ rfl).mono ?_
  rintro e w1 ⟨rfl, hw⟩
  subst hw
  rw [HSz.out]
  have hg : (0 : Int) < (p : Int) + (bl : Int) - (n : Int) := by have := HLf.out.1; have := HNz.out; omega
  have hg2 : a.leftN < (p : Int) + (bl : Int) - (n : Int) := by have := HLf.out.2; have := HNz.out; omega
  go_wp2_with fail
  refine (SL.out _ rfl).mono ?_
  rintro e w2 ⟨rfl, hw⟩
  subst hw
  go_wp2
  go_ret
  exact ⟨rfl, H.out.stay⟩
set_option maxHeartbeats 3200000 in
theorem rwrite_gone1 (w : World) (E B : Nat) (i0 k0 : Value) (M0 : Nat) (i1 k1 : Value) (M1 : Nat) (a : DA) (p : Nat) (ba : Option Addr) (bl bc : Nat) (h : RC w E B i0 k0 M0 i1 k1 M1 a) (hW : a.Wf) (hf : a.few 1000000) (hd : a.down = false) (hn : p ≤ a.f1.zs.length) (hb5 : bl ≤ 25000) (hnf : p + bl ≤ a.f1.zs.length ∨ (p : Int) + (bl : Int) + (a.f0.zs.length : Int) ≤ a.R) (hp : a.pow = false) :
    Calls Try.prog 42 #[.pointer (some ⟨E, 0, none⟩), .int .i64 1, .int .i64 (p : Int), .slice ba bl bc] w fun e w' => e = .returned (.int .i64 16) ∧ DPost w E B i0 k0 M0 i1 k1 M1 a.gone w' := by
  have hzl : a.f1.zs.length ≤ 1000000 := by obtain ⟨x0, _, x1, _⟩ := hf; exact x1
  have d8 := h.d8
  rw [hd] at d8
  obtain ⟨va, vL, vc, hve, hvL, hvI, hvlo, hvn, hvle, hvB⟩ := own_any h.is1 hW.w1.rz
  subst hvL
  have c0 : w.cell? ⟨E, 3, none⟩ = some (.slice va a.f1.zs.length vc) := by rw [cell_of_row w E 3 _ _ _ h.box, ← hve]; rfl
  have S0 := Lib.hid (fun (w' : World) (hw : w' = w) => rsize_any w' E B i0 k0 M0 i1 k1 M1 a 1 (by rw [hw]; exact h) hW)
  have SL := Lib.hid (fun (w' : World) (hw : w' = w) => rleft_any w' E B i0 k0 M0 i1 k1 M1 a (by rw [hw]; exact h) hW hf)
  have HSz := Lib.hid (show a.size 1 = a.f1.zs.length from rfl)
  have HLr := Lib.hid (show 0 ≤ a.leftN ∧ a.leftN ≤ 9223372036854775807 by
    unfold DA.leftN
    have := hW.r1
    omega)
  have HLf := Lib.hid (show a.f1.zs.length < p + bl → (p : Int) + (bl : Int) - (a.f1.zs.length : Int) ≤ a.leftN by
    unfold DA.leftN
    intro hh
    have := hW.r0
    omega)
  have HP := Lib.hid hp
  have H := Lib.hid h
  have HW := Lib.hid hW
  have hEw : E < w.heap.size := (Array.getElem?_eq_some_iff.1 h.box).1
  obtain ⟨n, hnz⟩ : ∃ n, n = a.f1.zs.length := ⟨_, rfl⟩
  have HNz := Lib.hid hnz
  rw [← hnz] at hn c0 HSz hzl
  obtain ⟨hn0, hn1, hd1, hd2, hd3, hw1, hw2⟩ := wr_facts3 (bl := bl) hn hzl hb5
  clear h hW hd hvI hvlo hvn hvle hvB hve hf hnz hnf hp
  go_enter Try.func42, Try.ntmps42
  go_wp2_with fail
  refine (rthere_yes 1 (by decide) _).mono ?_
  rintro e w1 ⟨rfl, hw⟩
  subst hw
  go_wp2_with fail
  refine (S0.out _ rfl).mono ?_
  rintro e w1 ⟨rfl, hw⟩
  subst hw
  rw [HSz.out]
  go_upto_region 9 with (fail)
  go_cut [54] (fun x wx => x = .bool false ∧ wx = w1)
  case first =>
    by_cases hg : (0 : Int) < (p : Int) + (bl : Int) - (n : Int)
    · have HL2 := HLf.out (by have := HNz.out; omega)
      go_wp2_with fail
      refine (SL.out _ rfl).mono ?_
      rintro e w2 ⟨rfl, hw⟩
      subst hw
      go_wp2_with fail
      go_meet
      exact ⟨by rw [decide_eq_false (show ¬ (a.leftN < (p : Int) + (bl : Int) - (n : Int)) by have := HNz.out; omega)], rfl⟩
    · have hg' : (p : Int) + (bl : Int) - (n : Int) ≤ 0 := by omega
      go_wp2_with fail
      go_meet
      exact ⟨rfl, rfl⟩
  case rest =>
    obtain ⟨rfl, hwc⟩ := hcut
    subst hwc
    go_wp2_with fail
    refine (rchange_gone _ E B i0 k0 M0 i1 k1 M1 a H.out HP.out).mono ?_
    rintro e w2 ⟨rfl, hg, hk⟩
    have HG := Lib.hid (hg.same (a := a) hk)
    clear hg hk
    go_wp2
    go_ret
    exact ⟨rfl, HG.out⟩
set_option maxHeartbeats 3200000 in
theorem rwrite_none1 (w : World) (E B : Nat) (i0 k0 : Value) (M0 : Nat) (i1 k1 : Value) (M1 : Nat) (a : DA) (p : Nat) (ba : Option Addr) (bl bc : Nat) (h : RC w E B i0 k0 M0 i1 k1 M1 a) (hW : a.Wf) (hf : a.few 1000000) (hd : a.down = false) (hn : p ≤ a.f1.zs.length) (hb5 : bl ≤ 25000) (hnf : p + bl ≤ a.f1.zs.length ∨ (p : Int) + (bl : Int) + (a.f0.zs.length : Int) ≤ a.R) (hp : a.pow = true) (hbl : bl = 0) :
    Calls Try.prog 42 #[.pointer (some ⟨E, 0, none⟩), .int .i64 1, .int .i64 (p : Int), .slice ba bl bc] w fun e w' => e = .returned (.int .i64 0) ∧ DPost w E B i0 k0 M0 i1 k1 M1 a.tick w' := by
  have hzl : a.f1.zs.length ≤ 1000000 := by obtain ⟨x0, _, x1, _⟩ := hf; exact x1
  have d8 := h.d8
  rw [hd] at d8
  obtain ⟨va, vL, vc, hve, hvL, hvI, hvlo, hvn, hvle, hvB⟩ := own_any h.is1 hW.w1.rz
  subst hvL
  have c0 : w.cell? ⟨E, 3, none⟩ = some (.slice va a.f1.zs.length vc) := by rw [cell_of_row w E 3 _ _ _ h.box, ← hve]; rfl
  have S0 := Lib.hid (fun (w' : World) (hw : w' = w) => rsize_any w' E B i0 k0 M0 i1 k1 M1 a 1 (by rw [hw]; exact h) hW)
  have SL := Lib.hid (fun (w' : World) (hw : w' = w) => rleft_any w' E B i0 k0 M0 i1 k1 M1 a (by rw [hw]; exact h) hW hf)
  have HSz := Lib.hid (show a.size 1 = a.f1.zs.length from rfl)
  have HLr := Lib.hid (show 0 ≤ a.leftN ∧ a.leftN ≤ 9223372036854775807 by
    unfold DA.leftN
    have := hW.r1
    omega)
  have HLf := Lib.hid (show a.f1.zs.length < p + bl → (p : Int) + (bl : Int) - (a.f1.zs.length : Int) ≤ a.leftN by
    unfold DA.leftN
    intro hh
    have := hW.r0
    omega)
  have HP := Lib.hid hp
  have HBl := Lib.hid hbl
  have H := Lib.hid h
  have HW := Lib.hid hW
  have hEw : E < w.heap.size := (Array.getElem?_eq_some_iff.1 h.box).1
  obtain ⟨n, hnz⟩ : ∃ n, n = a.f1.zs.length := ⟨_, rfl⟩
  have HNz := Lib.hid hnz
  rw [← hnz] at hn c0 HSz hzl
  obtain ⟨hn0, hn1, hd1, hd2, hd3, hw1, hw2⟩ := wr_facts3 (bl := bl) hn hzl hb5
  clear h hW hd hvI hvlo hvn hvle hvB hve hf hnz hnf hp hbl
  go_enter Try.func42, Try.ntmps42
  go_wp2_with fail
  refine (rthere_yes 1 (by decide) _).mono ?_
  rintro e w1 ⟨rfl, hw⟩
  subst hw
  go_wp2_with fail
  refine (S0.out _ rfl).mono ?_
  rintro e w1 ⟨rfl, hw⟩
  subst hw
  rw [HSz.out]
  go_upto_region 9 with (fail)
  go_cut [54] (fun x wx => x = .bool false ∧ wx = w1)
  case first =>
    by_cases hg : (0 : Int) < (p : Int) + (bl : Int) - (n : Int)
    · have HL2 := HLf.out (by have := HNz.out; omega)
      go_wp2_with fail
      refine (SL.out _ rfl).mono ?_
      rintro e w2 ⟨rfl, hw⟩
      subst hw
      go_wp2_with fail
      go_meet
      exact ⟨by rw [decide_eq_false (show ¬ (a.leftN < (p : Int) + (bl : Int) - (n : Int)) by have := HNz.out; omega)], rfl⟩
    · have hg' : (p : Int) + (bl : Int) - (n : Int) ≤ 0 := by omega
      go_wp2_with fail
      go_meet
      exact ⟨rfl, rfl⟩
  case rest =>
    obtain ⟨rfl, hwc⟩ := hcut
    subst hwc
    go_wp2_with fail
    refine (rchange_pass _ E B i0 k0 M0 i1 k1 M1 a H.out HW.out HP.out).mono ?_
    rintro e w2 ⟨rfl, hg, hk⟩
    have HG := Lib.hid (hg.same (a := a) hk)
    clear hg hk
    have hbl := HBl.out
    subst hbl
    go_wp2
    go_ret
    exact ⟨rfl, HG.out⟩

set_option maxHeartbeats 3200000 in
theorem rwrite_any (w : World) (E B : Nat) (i0 k0 : Value) (M0 : Nat) (i1 k1 : Value) (M1 : Nat) (a : DA) (f p : Int) (ba : Option Addr) (bl bc : Nat) (b : List Int) (h : RC w E B i0 k0 M0 i1 k1 M1 a) (hW : a.Wf) (hf : a.few 1000000)
    (hb : IsB w ba bl b) (hbn : ba = none → bl = 0 ∧ bc = 0) (hble : bl ≤ bc) (hb5 : bl ≤ 25000) (hbo : ∀ x, bl ≠ 0 → ba = some x → ¬ rS E i0 k0 M0 i1 k1 M1 x.block) :
    Calls Try.prog 42 #[.pointer (some ⟨E, 0, none⟩), .int .i64 f, .int .i64 p, .slice ba bl bc] w fun e w' => e = .returned (.int .i64 (a.write f p b).1) ∧ DPost w E B i0 k0 M0 i1 k1 M1 (a.write f p b).2 w' := by
  have hl : b.length = bl := hb.1
  have d8 := h.d8
  have H := Lib.hid h
  have S0 := Lib.hid (fun (w' : World) (hw : w' = w) => rsize_any w' E B i0 k0 M0 i1 k1 M1 a f (by rw [hw]; exact h) hW)
  by_cases hff : f ≠ 0 ∧ f ≠ 1
  · have e1 : a.write f p b = (1, a) := by unfold DA.write; rw [if_pos hff]
    rw [e1]
    have HFF := Lib.hid hff
    clear hff h hW e1 hb hbn hble hb5 hbo hf hl
    go_enter Try.func42, Try.ntmps42
    go_wp2_with fail
    refine (rthere_no f HFF.out _).mono ?_
    rintro e w1 ⟨rfl, hw⟩
    subst hw
    go_wp2
    go_ret
    exact ⟨rfl, H.out.stay⟩
  have hff' : f = 0 ∨ f = 1 := by omega
  have HFF := Lib.hid hff'
  by_cases hd : a.down = true
  · have e1 : a.write f p b = (16, a) := by unfold DA.write; rw [if_neg hff, if_pos hd]
    rw [e1]
    rw [hd] at d8
    clear hff hff' h hW hd e1 hb hbn hble hb5 hbo hf hl
    go_enter Try.func42, Try.ntmps42
    go_wp2_with fail
    refine (rthere_yes f HFF.out _).mono ?_
    rintro e w1 ⟨rfl, hw⟩
    subst hw
    go_wp2
    go_ret
    exact ⟨rfl, H.out.stay⟩
  have hd' : a.down = false := by simpa using hd
  rw [hd'] at d8
  by_cases ho : p < 0 ∨ (a.size f : Int) < p
  · have e1 : a.write f p b = (1, a) := by unfold DA.write; rw [if_neg hff, if_neg hd, if_pos ho]
    rw [e1]
    by_cases hn : p < 0
    · have hnd : decide (p < 0) = true := decide_eq_true hn
      clear hff hff' h hW hd hd' ho e1 hb hbn hble hb5 hbo hf hl
      go_enter Try.func42, Try.ntmps42
      go_wp2_with fail
      refine (rthere_yes f HFF.out _).mono ?_
      rintro e w1 ⟨rfl, hw⟩
      subst hw
      go_wp2
      go_ret
      exact ⟨rfl, H.out.stay⟩
    · have hn0 : 0 ≤ p := by omega
      have hll : (a.size f : Int) < p := by omega
      clear hff hff' h hW hd hd' ho e1 hn hb hbn hble hb5 hbo hf hl
      go_enter Try.func42, Try.ntmps42
      go_wp2_with fail
      refine (rthere_yes f HFF.out _).mono ?_
      rintro e w1 ⟨rfl, hw⟩
      subst hw
      go_wp2_with fail
      refine (S0.out _ rfl).mono ?_
      rintro e w1 ⟨rfl, hw⟩
      subst hw
      go_wp2
      go_ret
      exact ⟨rfl, H.out.stay⟩
  obtain ⟨k, rfl⟩ : ∃ k : Nat, p = (k : Int) := ⟨p.toNat, by omega⟩
  have hks : k ≤ a.size f := by omega
  by_cases hfu : a.full f (k : Int) b.length
  · have e1 : a.write f (k : Int) b = (15, a) := by unfold DA.write; rw [if_neg hff, if_neg hd, if_neg ho, if_pos hfu]
    rw [e1]
    rw [hl] at hfu
    rcases hff' with rfl | rfl
    · exact rwrite_full0 w E B i0 k0 M0 i1 k1 M1 a k ba bl bc h hW hf hd' hks hb5 ⟨by have q : ((a.f0.zs.length : Nat) : Int) < (k : Int) + (bl : Int) := hfu.1; omega, hfu.2⟩
    · exact rwrite_full1 w E B i0 k0 M0 i1 k1 M1 a k ba bl bc h hW hf hd' hks hb5 ⟨by have q : ((a.f1.zs.length : Nat) : Int) < (k : Int) + (bl : Int) := hfu.1; omega, hfu.2⟩
  have hnf : k + bl ≤ a.size f ∨ (k : Int) + (bl : Int) + (a.size (1 - f) : Int) ≤ a.R := by
    unfold DA.full at hfu
    rw [hl] at hfu
    omega
  by_cases hp : a.pow = false
  · have e1 : a.write f (k : Int) b = (16, a.gone) := by unfold DA.write; rw [if_neg hff, if_neg hd, if_neg ho, if_neg hfu, if_pos hp]
    rw [e1]
    rcases hff' with rfl | rfl
    · exact rwrite_gone0 w E B i0 k0 M0 i1 k1 M1 a k ba bl bc h hW hf hd' hks hb5 hnf hp
    · exact rwrite_gone1 w E B i0 k0 M0 i1 k1 M1 a k ba bl bc h hW hf hd' hks hb5 hnf hp
  have hp' : a.pow = true := by simpa using hp
  have e1 : a.write f (k : Int) b = (0, a.tick.put f ((a.on f).write b k)) := by unfold DA.write; rw [if_neg hff, if_neg hd, if_neg ho, if_neg hfu, if_neg hp, Int.toNat_natCast]
  rw [e1]
  by_cases hbl : bl = 0
  · have hb0 : b = [] := List.eq_nil_of_length_eq_zero (by omega)
    have e2 : a.tick.put f ((a.on f).write b k) = a.tick := by rw [hb0, fa_write_none]; exact DA.put_on a.tick f
    rw [e2]
    rcases hff' with rfl | rfl
    · exact rwrite_none0 w E B i0 k0 M0 i1 k1 M1 a k ba bl bc h hW hf hd' hks hb5 hnf hp' hbl
    · exact rwrite_none1 w E B i0 k0 M0 i1 k1 M1 a k ba bl bc h hW hf hd' hks hb5 hnf hp' hbl
  · rcases hff' with rfl | rfl
    · exact rwrite_go0 w E B i0 k0 M0 i1 k1 M1 a k ba bl bc b h hW hf hd' hp' hks hnf hbl hb5 hb hbn hble hbo
    · exact rwrite_go1 w E B i0 k0 M0 i1 k1 M1 a k ba bl bc b h hW hf hd' hp' hks hnf hbl hb5 hb hbn hble hbo
end Go.Proofs.Ytafhgilikcablaa
