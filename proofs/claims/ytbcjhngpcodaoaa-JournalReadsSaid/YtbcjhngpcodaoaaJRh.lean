/- Contract of journal's readHead: every sixty-four bytes. -/
import Derived.Test.YtbcjhngpcodaoaaJPure
import Derived.Deep.DeepCutAuto
namespace Go.Proofs.Ytbcjhngpcodaoaa
open Go.RowKit
set_option linter.unusedVariables false
set_option maxRecDepth 100000

def hdG (z : List Int) : Value := .agg #[.int .u64 (hS z), .int .i64 (hP z), .int .i64 (hR z)]
def hd0 : Value := .agg #[.int .u64 0, .int .i64 0, .int .i64 0]
/-- what readHead answers -/
def RHPost (w : World) (z : List Int) (e : Ending) (w' : World) : Prop :=
  ((hOk z = true ∧ e = .returned (.tuple #[hdG z, .bool true])) ∨ (hOk z = false ∧ e = .returned (.tuple #[hd0, .bool false]))) ∧ Below w.heap.size w w'
theorem hOk_out {z : List Int} (h : ¬ (hP z ≤ 10000 ∧ hR z ≤ 10000)) : hOk z = false := by unfold hOk; rw [decide_eq_false h]; rfl
theorem hOk_eq {z : List Int} (h : hP z ≤ 10000 ∧ hR z ≤ 10000) : hOk z = decide (headK (hS z) (hP z) (hR z) = z) := by unfold hOk; rw [decide_eq_true h]; rfl
theorem i64_small {n : Int} (h : 0 ≤ n ∧ n ≤ 4294967295) : IntKind.i64.wrap n = n := by rw [IntKind.wrap_i64]; omega
theorem drewB {w : World} {n : Nat} : Below w.heap.size w (w.drewN n) := ⟨rfl, rfl, rfl, Nat.le_refl _, fun _ _ => rfl⟩

theorem two_boxes (w : World) (o1 o2 : Obj) : ((w.alloc o1).alloc o2).heap[w.heap.size]? = some o1 ∧ ((w.alloc o1).alloc o2).heap[w.heap.size + 1]? = some o2 := by
  constructor
  · exact (Below.heap_alloc (w.alloc o1) o2 _ (by simp)).trans (Go.heap_alloc_new w o1)
  · have := Go.heap_alloc_new (w.alloc o1) o2
    rwa [show (w.alloc o1).heap.size = w.heap.size + 1 by simp] at this

set_option maxHeartbeats 3200000 in
theorem readHead_any (a : Option Addr) (cap : Nat) (z : List Int) (w : World) (h : IsB w a 64 z) (hlow : ∀ x, 64 ≠ 0 → a = some x → x.block < w.heap.size) (hn : a = none → 64 = 0 ∧ cap = 0) (hc : 64 ≤ cap) :
    Calls Try.prog 124 #[.slice a 64 cap] w (RHPost w z) := by
  have hz := h.mem
  have bS := hS_bd hz (by rw [h.1]; omega)
  have bP := hP_bd hz (by rw [h.1]; omega)
  have bR := hR_bd hz (by rw [h.1]; omega)
  have HS := Lib.hid bS
  have HP := Lib.hid bP
  have HR := Lib.hid bR
  obtain ⟨W0, hW0⟩ : ∃ W0, W0 = w.alloc (.cells #[.int .u64 0, .int .i64 0, .int .i64 0] 133) := ⟨_, rfl⟩
  have hb0 : Below w.heap.size w W0 := by rw [hW0]; exact bel0 _ (Below.refl _ _)
  have HI := Lib.hid (h.below hb0 hlow)
  have HLow := Lib.hid (fun x (hx : 64 ≠ 0) hy => Nat.lt_of_lt_of_le (hlow x hx hy) hb0.size)
  have HB0 := Lib.hid hb0
  have HX := Lib.hid (show W0.cell? ⟨w.heap.size, 0, none⟩ = some (.int .u64 0) ∧ W0.cell? ⟨w.heap.size, 1, none⟩ = some (.int .i64 0) ∧ W0.cell? ⟨w.heap.size, 2, none⟩ = some (.int .i64 0) ∧ (∀ j, W0.frozen? ⟨w.heap.size, j, none⟩ = false) ∧ w.heap.size < W0.heap.size by rw [hW0]; refine ⟨?_, ?_, ?_, fun j => ?_, ?_⟩ <;> simp [go_sem])
  have HN := Lib.hid hn
  have HC := Lib.hid hc
  have hs1 : ∀ W, (Instr.slice 26 (.slice a 64 cap) (some (.int .i64 8)) (some (.int .i64 16)) none).run Try.prog W = .ok (.slice (offA a cap 8) 8 (cap - 8)) W := fun W => slice_lh a 64 cap 8 16 (by omega) (by omega) .i64 .i64 W
  have hs2 : ∀ W, (Instr.slice 26 (.slice a 64 cap) (some (.int .i64 16)) (some (.int .i64 20)) none).run Try.prog W = .ok (.slice (offA a cap 16) 4 (cap - 16)) W := fun W => slice_lh a 64 cap 16 20 (by omega) (by omega) .i64 .i64 W
  have hs3 : ∀ W, (Instr.slice 26 (.slice a 64 cap) (some (.int .i64 20)) (some (.int .i64 24)) none).run Try.prog W = .ok (.slice (offA a cap 20) 4 (cap - 20)) W := fun W => slice_lh a 64 cap 20 24 (by omega) (by omega) .i64 .i64 W
  have C1 := Lib.hid (fun n => number_any (offA a cap 8) 8 (cap - 8) _ (W0.drewN n) (isB_part (k := 8) (n := 8) HI.out (by omega) hc) (by omega))
  have C2 := Lib.hid (fun n => number_any (offA a cap 16) 4 (cap - 16) _ (W0.drewN n) (isB_part (k := 16) (n := 4) HI.out (by omega) hc) (by omega))
  have C3 := Lib.hid (fun n => number_any (offA a cap 20) 4 (cap - 20) _ (W0.drewN n) (isB_part (k := 20) (n := 4) HI.out (by omega) hc) (by omega))
  have cv2 := i64_small bP
  have cv3 := i64_small bR
  rw [show numN ((z.drop 8).take 8) = hS z from rfl] at C1
  rw [show numN ((z.drop 16).take 4) = hP z from rfl] at C2
  rw [show numN ((z.drop 20).take 4) = hR z from rfl] at C3
  have HEq := Lib.hid (fun h => hOk_eq (z := z) h)
  have HOut := Lib.hid (fun h => hOk_out (z := z) h)
  have HU : Hid (hdG z = .agg #[.int .u64 (hS z), .int .i64 (hP z), .int .i64 (hR z)]) := Lib.hid rfl
  have HV : Hid (hd0 = .agg #[.int .u64 0, .int .i64 0, .int .i64 0]) := Lib.hid rfl
  clear h hz bS bP bR hlow hn hb0 hc
  generalize hS z = s at *
  generalize hP z = p at *
  generalize hR z = r at *
  generalize offA a cap 8 = a1 at *
  generalize offA a cap 16 = a2 at *
  generalize offA a cap 20 = a3 at *
  generalize cap - 8 = k1 at *
  generalize cap - 16 = k2 at *
  generalize cap - 20 = k3 at *
  go_enter Try.func124, Try.ntmps124
  go_upto_region 2 with (fail)
  rw [← hW0]
  clear hW0
  go_quiet (((with_reducible go_at_call 125); first | (with_reducible exact Calls.quiet_of_same (C1.out _)) | (with_reducible exact Calls.quiet_of_same (C2.out _)) | (with_reducible exact Calls.quiet_of_same (C3.out _))))
  by_cases hin : p ≤ 10000 ∧ r ≤ 10000
  · have HE := Lib.hid (HEq.out hin)
    have HIn := Lib.hid hin
    clear hin
    go_wp2_with fail
    refine (head_good s p r _ HS.out.1 HS.out.2 ⟨HP.out.1, HIn.out.1⟩ ⟨HR.out.1, HIn.out.2⟩).mono ?_
    rintro e w1 ⟨v, rfl, hown, hb1⟩
    rw [headK_length] at hown
    obtain ⟨g, c, rfl⟩ := own_addr hown (by omega)
    have hb1' : Below W0.heap.size W0 w1 := bt drewB hb1
    have HIs := Lib.hid (own_isB hown (headK_length _ _ _) (headK_range _ _ _))
    have HIb := Lib.hid (HI.out.below hb1' HLow.out)
    obtain ⟨b1, b2⟩ := bcell hb1'
    have x0 := (b1 w.heap.size 0 HX.out.2.2.2.2).trans HX.out.1
    have x1 := (b1 w.heap.size 1 HX.out.2.2.2.2).trans HX.out.2.1
    have x2 := (b1 w.heap.size 2 HX.out.2.2.2.2).trans HX.out.2.2.1
    have y0 := (b2 w.heap.size 0 HX.out.2.2.2.2).trans (HX.out.2.2.2.1 0)
    have y1 := (b2 w.heap.size 1 HX.out.2.2.2.2).trans (HX.out.2.2.2.1 1)
    have y2 := (b2 w.heap.size 2 HX.out.2.2.2.2).trans (HX.out.2.2.2.1 2)
    have HB1 := Lib.hid (bt HB0.out hb1')
    clear b1 b2 hb1 hb1' hown
    by_cases hq : headK s p r = z
    · have HQ := Lib.hid hq
      have HEO := Lib.hid (show hOk z = true by rw [HE.out, decide_eq_true hq])
      clear hq
      go_wp2_with fail
      refine (equal_any _ _ 64 c 64 cap _ z _ HIs.out (by intro h; cases h) HIb.out HN.out).mono ?_
      rintro e w2 ⟨rfl, hw⟩
      subst hw
      rw [decide_eq_true HQ.out]
      go_wp2
      refine bodyPost_ret (v := .tuple #[hdG z, .bool true]) (by rw [HU.out]; simp [results, Try.results124, go_sem, x0, x1, x2]) rfl ⟨.inl ⟨HEO.out, rfl⟩, ?_⟩
      repeat (first | exact HB1.out | (refine Below.setCell ?_ (by simp) _))
    · have HQ := Lib.hid hq
      have HEO := Lib.hid (show hOk z = false by rw [HE.out, decide_eq_false hq])
      clear hq
      go_wp2_with fail
      refine (equal_any _ _ 64 c 64 cap _ z _ HIs.out (by intro h; cases h) HIb.out HN.out).mono ?_
      rintro e w2 ⟨rfl, hw⟩
      subst hw
      rw [decide_eq_false HQ.out]
      go_wp2
      refine bodyPost_ret (v := .tuple #[hd0, .bool false]) (by rw [HV.out]; simp [results, Try.results124, go_sem, x0, x1, x2]) rfl ⟨.inr ⟨HEO.out, rfl⟩, ?_⟩
      repeat (first | exact HB1.out | (refine Below.setCell ?_ (by simp) _))
  · have HEO := Lib.hid (HOut.out hin)
    have HIn := Lib.hid hin
    clear hin
    go_wp2_with fail
    refine (head_bad s p r _ (by have := HP.out; omega) (by have := HR.out; omega) (fun h => HIn.out ⟨h.1.2, h.2.2⟩)).mono ?_
    rintro e w1 ⟨rfl, hb1⟩
    have hb1' : Below W0.heap.size W0 w1 := bt drewB hb1
    obtain ⟨b1, b2⟩ := bcell hb1'
    have x0 := (b1 w.heap.size 0 HX.out.2.2.2.2).trans HX.out.1
    have x1 := (b1 w.heap.size 1 HX.out.2.2.2.2).trans HX.out.2.1
    have x2 := (b1 w.heap.size 2 HX.out.2.2.2.2).trans HX.out.2.2.1
    have y0 := (b2 w.heap.size 0 HX.out.2.2.2.2).trans (HX.out.2.2.2.1 0)
    have y1 := (b2 w.heap.size 1 HX.out.2.2.2.2).trans (HX.out.2.2.2.1 1)
    have y2 := (b2 w.heap.size 2 HX.out.2.2.2.2).trans (HX.out.2.2.2.1 2)
    have HB1 := Lib.hid (bt HB0.out hb1')
    clear b1 b2 hb1 hb1'
    go_wp2
    refine bodyPost_ret (v := .tuple #[hd0, .bool false]) (by rw [HV.out]; simp [results, Try.results124, go_sem, x0, x1, x2]) rfl ⟨.inr ⟨HEO.out, rfl⟩, ?_⟩
    repeat (first | exact HB1.out | (refine Below.setCell ?_ (by simp) _))
end Go.Proofs.Ytbcjhngpcodaoaa
