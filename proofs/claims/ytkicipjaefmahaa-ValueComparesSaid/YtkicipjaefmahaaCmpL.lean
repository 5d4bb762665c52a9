/- ValueCompares: the law's walk; no conditions. -/
import Derived.Test.YtkicipjaefmahaaCmpR
namespace Go.Proofs.Ytkicipjaefmahaa
open Go.RowKit

set_option maxHeartbeats 1000000 in
theorem valueCompares_walk (op : ByteArray) (ka na : Int) (sa : ByteArray) (kb nb : Int) (sb : ByteArray) (w : World) :
    Calls Try.prog 4 #[.string op, .agg #[.int .i64 ka, .int .i64 na, .string sa], .agg #[.int .i64 kb, .int .i64 nb, .string sb]] w
      fun x w' => x = .returned (.bool true) ∧ Below w.heap.size w w' := by
  obtain ⟨n, e, hne⟩ : ∃ n e, cmpF op ka na sa kb nb sb = (n, e) := ⟨_, _, rfl⟩
  have HN := Lib.hid hne
  clear hne
  go_enter Try.func4, Try.ntmps4
  go_wp2_with fail
  refine (awake_any _).mono ?_
  rintro e w1 ⟨rfl, hb⟩
  obtain ⟨hc1, hf1⟩ := bcell hb
  go_wp2_with fail
  refine (compare_any _ _ _ _ _ _ _ _ _ HN.out _).mono ?_
  rintro e w2 ⟨rfl, hb2⟩
  obtain ⟨hc2, hf2⟩ := bcell hb2
  have hz0 : w.heap.size < w1.heap.size := by have := hb.size; simp at this; omega
  have hz1 : w.heap.size + 1 < w1.heap.size := by have := hb.size; simp at this; omega
  go_wp2_with fail
  refine (rcompare_any _ _ _ _ _ _ _ _ _ HN.out _).mono ?_
  rintro e w3 ⟨rfl, hb3⟩
  go_wp2_with fail
  go_ret
  refine ⟨rfl, ?_⟩
  have e1 := (bel _ (bel _ (Below.refl _ _))).trans (hb.mono (by simp; omega))
  have e2 := e1.trans (hb2.mono (by have := e1.size; omega))
  exact e2.trans (hb3.mono (by have := e2.size; omega))
end Go.Proofs.Ytkicipjaefmahaa
