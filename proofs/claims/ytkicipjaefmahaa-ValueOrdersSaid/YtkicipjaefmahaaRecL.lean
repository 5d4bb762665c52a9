/- ValueReckons: the law's walk; condition: both numbers are int64. -/
import Derived.Test.YtkicipjaefmahaaRecR
import Derived.OpenShut
namespace Go.Proofs.Ytkicipjaefmahaa
open Go.RowKit

theorem inR_of_wf {n : Int} (h : (Lit.int .i64 n).wf = true) : InR n := bounds_i64 h

theorem bt {B : Nat} {w a b : World} (h : Below B w a) (k : Below a.heap.size a b) (hB : B ≤ w.heap.size) : Below B w b := h.trans (k.mono (Nat.le_trans hB h.size))

set_option maxHeartbeats 1000000 in
theorem valueReckons_walk (op : ByteArray) (ka na : Int) (sa : ByteArray) (kb nb : Int) (sb : ByteArray) (ha : Hid (InR na)) (hb : Hid (InR nb)) (w : World) :
    Calls Try.prog 6 #[.string op, .agg #[.int .i64 ka, .int .i64 na, .string sa], .agg #[.int .i64 kb, .int .i64 nb, .string sb]] w
      fun x w' => x = .returned (.bool true) ∧ Below w.heap.size w w' := by
  obtain ⟨k, n, e, hne⟩ : ∃ k n e, recF op ka na sa kb nb sb = (k, n, e) := ⟨_, _, _, rfl⟩
  have HN := Lib.hid hne
  clear hne
  go_enter Try.func6, Try.ntmps6
  go_wp2_with fail
  refine (awake_any _).mono ?_
  rintro e w1 ⟨rfl, hb1⟩
  obtain ⟨hc1, hf1⟩ := bcell hb1
  have hz0 : w.heap.size < w1.heap.size := by have := hb1.size; simp at this; omega
  have hz1 : w.heap.size + 1 < w1.heap.size := by have := hb1.size; simp at this; omega
  have HB1 := Lib.hid hb1
  clear hb1
  go_wp2_with fail
  refine (rec24_any _ _ _ _ _ _ _ ha hb _ _ _ HN.out _).mono ?_
  rintro e w2 ⟨rfl, hb2⟩
  obtain ⟨hc2, hf2⟩ := bcell hb2
  have hz2 : w.heap.size < w2.heap.size := by have := hb2.size; omega
  have hz3 : w.heap.size + 1 < w2.heap.size := by have := hb2.size; omega
  have HB2 := Lib.hid hb2
  clear hb2
  unfold recE
  go_wp2_with fail
  refine (rec25_any _ _ _ _ _ _ _ ha hb _ _ _ HN.out _).mono ?_
  rintro e w3 ⟨rfl, hb3⟩
  obtain ⟨hc3, hf3⟩ := bcell hb3
  have hz4 : w2.heap.size < w3.heap.size := by have := hb3.size; simp at this; omega
  have HB3 := Lib.hid hb3
  clear hb3
  unfold recE
  go_wp2_with fail
  go_ret
  have e1 := (bel (.cells #[.int .i64 kb, .int .i64 nb, .string sb] 23) (bel (.cells #[.int .i64 ka, .int .i64 na, .string sa] 23) (Below.refl w.heap.size w)))
  have e2 := bt (bt e1 HB1.out (Nat.le_refl _)) HB2.out (Nat.le_refl _)
  have e3 := bt (bel _ e2) HB3.out (Nat.le_refl _)
  exact ⟨rfl, bel _ e3⟩
end Go.Proofs.Ytkicipjaefmahaa
