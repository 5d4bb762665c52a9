/- The program's fits, kindOf and reckons, of any operation. -/
import Derived.Test.YtafhgilikcablaaSvBx
import Derived.Test.YtafhgilikcablaaEtIn
import Derived.Deep.DeepCutAuto
namespace Go.Proofs.Ytafhgilikcablaa
open Go.RowKit
set_option linter.unusedVariables false
set_option linter.unusedSimpArgs false
set_option maxRecDepth 100000

def numB (x : Int) : Bool := decide (x = 0) || decide (x = 1)
def reckB (s : ByteArray) : Bool := decide (s.toList = [43]) || (decide (s.toList = [45]) || decide (s.toList = [42]))
set_option maxHeartbeats 1600000 in
theorem number14_any (w : World) (x : Int) : Calls Try.prog 138 #[.int .i64 x] w fun e w' => e = .returned (.bool (numB x)) ∧ w' = w := by
  by_cases h0 : x = 0
  · subst h0
    go_enter Try.func138, Try.ntmps138
    go_wp2
    go_ret
    exact ⟨rfl, rfl⟩
  by_cases h1 : x = 1
  · subst h1
    go_enter Try.func138, Try.ntmps138
    go_wp2
    go_ret
    exact ⟨rfl, rfl⟩
  have HE := Lib.hid (show numB x = false by simp [numB, h0, h1])
  have b0 : (x == 0) = false := by simp [h0]
  have b1 : (x == 1) = false := by simp [h1]
  go_enter Try.func138, Try.ntmps138
  go_wp2
  go_ret
  rw [HE.out]
  exact ⟨by simp [h1], rfl⟩
set_option maxHeartbeats 1600000 in
theorem reckons14_any (w : World) (s : ByteArray) : Calls Try.prog 67 #[.string s] w fun e w' => e = .returned (.bool (reckB s)) ∧ w' = w := by
  by_cases h0 : (s.toList == [43]) = true
  · have HE := Lib.hid (show reckB s = true by simp [reckB, beq_iff_eq.1 h0])
    go_enter Try.func67, Try.ntmps67
    go_wp2
    go_ret
    rw [HE.out]
    exact ⟨rfl, rfl⟩
  by_cases h1 : (s.toList == [45]) = true
  · have HE := Lib.hid (show reckB s = true by simp [reckB, beq_iff_eq.1 h1])
    rw [Bool.not_eq_true] at h0
    go_enter Try.func67, Try.ntmps67
    go_wp2
    go_ret
    rw [HE.out]
    exact ⟨rfl, rfl⟩
  by_cases h2 : (s.toList == [42]) = true
  · have HE := Lib.hid (show reckB s = true by simp [reckB, beq_iff_eq.1 h2])
    rw [Bool.not_eq_true] at h0 h1
    go_enter Try.func67, Try.ntmps67
    go_wp2
    go_ret
    rw [HE.out]
    exact ⟨rfl, rfl⟩
  have HE := Lib.hid (show reckB s = false by
    have a := fun h => h0 (beq_iff_eq.2 h)
    have b := fun h => h1 (beq_iff_eq.2 h)
    have c := fun h => h2 (beq_iff_eq.2 h)
    simp only [reckB, Bool.or_eq_false_iff, decide_eq_false_iff_not]
    exact ⟨a, b, c⟩)
  rw [Bool.not_eq_true] at h0 h1 h2
  go_enter Try.func67, Try.ntmps67
  go_wp2
  go_ret
  rw [HE.out]
  exact ⟨rfl, rfl⟩
/-- the kind of an operation, and whether its parts fit -/
def fitD (k : Int) (op : ByteArray) (ks : List Int) : Int × Bool :=
  let a := ks.getD 0 0
  let b := ks.getD 1 0
  if k = 3 then (if op.toList = [78, 79, 84] then (3, (a == 3)) else (1, numB a))
  else if k = 5 then (3, (a != 3))
  else if k = 6 then (if ks.length = 0 then (1, true) else if op.toList = [67, 79, 85, 78, 84] then (1, (a != 3)) else if op.toList = [83, 85, 77] then (1, numB a) else (a, (a != 3)))
  else if reckB op then (1, numB a && numB b)
  else if op.toList = [65, 78, 68] ∨ op.toList = [79, 82] then (3, (a == 3) && (b == 3))
  else (3, (a != 3) && (b != 3) && ((a == b) || (a == 0) || (b == 0)))
def FitPost (w : World) (r : Int × Bool) (e : Ending) (w' : World) : Prop := e = .returned (.tuple #[.int .i64 r.1, .bool r.2]) ∧ Below w.heap.size w w'
theorem ints0 {w : World} {ka : Option Addr} {a : Int} {l : List Int} (h : IntsAt w ka (a :: l)) : ∃ b off, ka = some ⟨b, off, none⟩ ∧ b < w.heap.size ∧ w.cell? ⟨b, off, none⟩ = some (.int .i64 a) := by
  obtain ⟨b, off, h1, h2, h3⟩ := h.at (i := 0) (by simp)
  exact ⟨b, off, h1, h2, h3⟩
theorem ints1 {w : World} {ka : Option Addr} {a c : Int} {l : List Int} (h : IntsAt w ka (a :: c :: l)) : ∃ b off, ka = some ⟨b, off, none⟩ ∧ b < w.heap.size ∧ w.cell? ⟨b, off, none⟩ = some (.int .i64 a) ∧ w.cell? ⟨b, off + 1, none⟩ = some (.int .i64 c) := by
  rcases h with h | ⟨b, off, h1, h2, h3⟩
  · cases h
  · exact ⟨b, off, h1, h2, h3 0 (by simp), h3 1 (by simp)⟩
set_option maxHeartbeats 3200000 in
theorem fits14_3n (w : World) (op : ByteArray) (vk vn : Int) (vs tab col : ByteArray) (pa : Option Addr) (pn pc : Nat) (ka : Option Addr) (kc : Nat) (a : Int) (hk : IntsAt w ka [a]) (ho : (op.toList == [78, 79, 84]) = true) :
    Calls Try.prog 98 #[.agg #[.int .i64 3, .string op, .int .i64 vk, .int .i64 vn, .string vs, .string tab, .string col, .slice pa pn pc], .slice ka 1 kc] w (FitPost w (3, (a == 3))) := by
  obtain ⟨g, off, rfl, hb, hc⟩ := ints0 hk
  have HB := Lib.hid (bel0 (.cells #[.int .i64 3, .string op, .int .i64 vk, .int .i64 vn, .string vs, .string tab, .string col, .slice pa pn pc] 41) (Below.refl w.heap.size w))
  clear hk
  go_enter Try.func98, Try.ntmps98
  go_upto_region 2 with (fail)
  go_quiet (fail)
  go_wp2
  go_ret2
  exact ⟨by first | rfl | (simp; done) | (simp [*]; done), bt HB.out drewB⟩
set_option maxHeartbeats 3200000 in
theorem fits14_3m (w : World) (op : ByteArray) (vk vn : Int) (vs tab col : ByteArray) (pa : Option Addr) (pn pc : Nat) (ka : Option Addr) (kc : Nat) (a : Int) (hk : IntsAt w ka [a]) (ho : (op.toList == [78, 79, 84]) = false) :
    Calls Try.prog 98 #[.agg #[.int .i64 3, .string op, .int .i64 vk, .int .i64 vn, .string vs, .string tab, .string col, .slice pa pn pc], .slice ka 1 kc] w (FitPost w (1, numB a)) := by
  obtain ⟨g, off, rfl, hb, hc⟩ := ints0 hk
  have HB := Lib.hid (bel0 (.cells #[.int .i64 3, .string op, .int .i64 vk, .int .i64 vn, .string vs, .string tab, .string col, .slice pa pn pc] 41) (Below.refl w.heap.size w))
  clear hk
  go_enter Try.func98, Try.ntmps98
  go_wp2_with fail
  refine (number14_any _ a).mono ?_
  rintro e w3 ⟨rfl, rfl⟩
  go_wp2
  go_ret2
  exact ⟨by first | rfl | (simp; done) | (simp [*]; done), HB.out⟩
set_option maxHeartbeats 3200000 in
theorem fits14_5 (w : World) (op : ByteArray) (vk vn : Int) (vs tab col : ByteArray) (pa : Option Addr) (pn pc : Nat) (ka : Option Addr) (kc : Nat) (a : Int) (hk : IntsAt w ka [a]) :
    Calls Try.prog 98 #[.agg #[.int .i64 5, .string op, .int .i64 vk, .int .i64 vn, .string vs, .string tab, .string col, .slice pa pn pc], .slice ka 1 kc] w (FitPost w (3, (a != 3))) := by
  obtain ⟨g, off, rfl, hb, hc⟩ := ints0 hk
  have HB := Lib.hid (bel0 (.cells #[.int .i64 5, .string op, .int .i64 vk, .int .i64 vn, .string vs, .string tab, .string col, .slice pa pn pc] 41) (Below.refl w.heap.size w))
  clear hk
  go_enter Try.func98, Try.ntmps98
  go_upto_region 6 with (fail)
  go_quiet (fail)
  go_wp2
  go_ret2
  exact ⟨by first | rfl | (simp; done) | (simp [*]; done), bt HB.out drewB⟩
set_option maxHeartbeats 3200000 in
theorem fits14_60 (w : World) (op : ByteArray) (vk vn : Int) (vs tab col : ByteArray) (pa : Option Addr) (pn pc : Nat) (ka : Option Addr) (kc : Nat) (hk : IntsAt w ka []) :
    Calls Try.prog 98 #[.agg #[.int .i64 6, .string op, .int .i64 vk, .int .i64 vn, .string vs, .string tab, .string col, .slice pa pn pc], .slice ka 0 kc] w (FitPost w (1, true)) := by
  have HB := Lib.hid (bel0 (.cells #[.int .i64 6, .string op, .int .i64 vk, .int .i64 vn, .string vs, .string tab, .string col, .slice pa pn pc] 41) (Below.refl w.heap.size w))
  clear hk
  go_enter Try.func98, Try.ntmps98
  go_wp2
  go_ret2
  exact ⟨by first | rfl | (simp; done) | (simp [*]; done), HB.out⟩
set_option maxHeartbeats 3200000 in
theorem fits14_6c (w : World) (op : ByteArray) (vk vn : Int) (vs tab col : ByteArray) (pa : Option Addr) (pn pc : Nat) (ka : Option Addr) (kc : Nat) (a : Int) (hk : IntsAt w ka [a]) (ho : (op.toList == [67, 79, 85, 78, 84]) = true) :
    Calls Try.prog 98 #[.agg #[.int .i64 6, .string op, .int .i64 vk, .int .i64 vn, .string vs, .string tab, .string col, .slice pa pn pc], .slice ka 1 kc] w (FitPost w (1, (a != 3))) := by
  obtain ⟨g, off, rfl, hb, hc⟩ := ints0 hk
  have HB := Lib.hid (bel0 (.cells #[.int .i64 6, .string op, .int .i64 vk, .int .i64 vn, .string vs, .string tab, .string col, .slice pa pn pc] 41) (Below.refl w.heap.size w))
  clear hk
  go_enter Try.func98, Try.ntmps98
  go_upto_region 10 with (fail)
  go_quiet (fail)
  go_wp2
  go_ret2
  exact ⟨by first | rfl | (simp; done) | (simp [*]; done), bt HB.out drewB⟩
set_option maxHeartbeats 3200000 in
theorem fits14_6s (w : World) (op : ByteArray) (vk vn : Int) (vs tab col : ByteArray) (pa : Option Addr) (pn pc : Nat) (ka : Option Addr) (kc : Nat) (a : Int) (hk : IntsAt w ka [a]) (ho : (op.toList == [67, 79, 85, 78, 84]) = false) (ho2 : (op.toList == [83, 85, 77]) = true) :
    Calls Try.prog 98 #[.agg #[.int .i64 6, .string op, .int .i64 vk, .int .i64 vn, .string vs, .string tab, .string col, .slice pa pn pc], .slice ka 1 kc] w (FitPost w (1, numB a)) := by
  obtain ⟨g, off, rfl, hb, hc⟩ := ints0 hk
  have HB := Lib.hid (bel0 (.cells #[.int .i64 6, .string op, .int .i64 vk, .int .i64 vn, .string vs, .string tab, .string col, .slice pa pn pc] 41) (Below.refl w.heap.size w))
  clear hk
  go_enter Try.func98, Try.ntmps98
  go_wp2_with fail
  refine (number14_any _ a).mono ?_
  rintro e w3 ⟨rfl, rfl⟩
  go_wp2
  go_ret2
  exact ⟨by first | rfl | (simp; done) | (simp [*]; done), HB.out⟩
set_option maxHeartbeats 3200000 in
theorem fits14_6m (w : World) (op : ByteArray) (vk vn : Int) (vs tab col : ByteArray) (pa : Option Addr) (pn pc : Nat) (ka : Option Addr) (kc : Nat) (a : Int) (hk : IntsAt w ka [a]) (ho : (op.toList == [67, 79, 85, 78, 84]) = false) (ho2 : (op.toList == [83, 85, 77]) = false) :
    Calls Try.prog 98 #[.agg #[.int .i64 6, .string op, .int .i64 vk, .int .i64 vn, .string vs, .string tab, .string col, .slice pa pn pc], .slice ka 1 kc] w (FitPost w (a, (a != 3))) := by
  obtain ⟨g, off, rfl, hb, hc⟩ := ints0 hk
  have HB := Lib.hid (bel0 (.cells #[.int .i64 6, .string op, .int .i64 vk, .int .i64 vn, .string vs, .string tab, .string col, .slice pa pn pc] 41) (Below.refl w.heap.size w))
  clear hk
  go_enter Try.func98, Try.ntmps98
  go_upto_region 14 with (fail)
  go_quiet (fail)
  go_wp2
  go_ret2
  exact ⟨by first | rfl | (simp; done) | (simp [*]; done), bt HB.out drewB⟩
set_option maxHeartbeats 3200000 in
theorem fits14_4r (w : World) (op : ByteArray) (vk vn : Int) (vs tab col : ByteArray) (pa : Option Addr) (pn pc : Nat) (ka : Option Addr) (kc : Nat) (a b : Int) (hk : IntsAt w ka [a, b]) (hr : reckB op = true) :
    Calls Try.prog 98 #[.agg #[.int .i64 4, .string op, .int .i64 vk, .int .i64 vn, .string vs, .string tab, .string col, .slice pa pn pc], .slice ka 2 kc] w (FitPost w (1, numB a && numB b)) := by
  obtain ⟨g, off, rfl, hb, hc, hd⟩ := ints1 hk
  have HB := Lib.hid (bel0 (.cells #[.int .i64 4, .string op, .int .i64 vk, .int .i64 vn, .string vs, .string tab, .string col, .slice pa pn pc] 41) (Below.refl w.heap.size w))
  clear hk
  go_enter Try.func98, Try.ntmps98
  go_wp2_with fail
  refine (reckons14_any _ op).mono ?_
  rintro e w3 ⟨rfl, rfl⟩
  rw [hr]
  go_wp2_with fail
  refine (number14_any _ a).mono ?_
  rintro e w3 ⟨rfl, rfl⟩
  cases ha : numB a with
  | false =>
    go_wp2
    go_ret2
    exact ⟨by first | rfl | (simp; done) | (simp [*]; done), HB.out⟩
  | true =>
    go_wp2_with fail
    refine (number14_any _ b).mono ?_
    rintro e w3 ⟨rfl, rfl⟩
    go_wp2
    go_ret2
    exact ⟨by first | rfl | (simp; done) | (simp [*]; done), HB.out⟩
set_option maxHeartbeats 3200000 in
theorem fits14_4a (w : World) (op : ByteArray) (vk vn : Int) (vs tab col : ByteArray) (pa : Option Addr) (pn pc : Nat) (ka : Option Addr) (kc : Nat) (a b : Int) (hk : IntsAt w ka [a, b]) (hr : reckB op = false) (ho : (op.toList == [65, 78, 68]) = true) :
    Calls Try.prog 98 #[.agg #[.int .i64 4, .string op, .int .i64 vk, .int .i64 vn, .string vs, .string tab, .string col, .slice pa pn pc], .slice ka 2 kc] w (FitPost w (3, (a == 3) && (b == 3))) := by
  obtain ⟨g, off, rfl, hb, hc, hd⟩ := ints1 hk
  have HB := Lib.hid (bel0 (.cells #[.int .i64 4, .string op, .int .i64 vk, .int .i64 vn, .string vs, .string tab, .string col, .slice pa pn pc] 41) (Below.refl w.heap.size w))
  clear hk
  go_enter Try.func98, Try.ntmps98
  go_wp2_with fail
  refine (reckons14_any _ op).mono ?_
  rintro e w3 ⟨rfl, rfl⟩
  rw [hr]
  by_cases ha : a = 3
  · subst ha
    go_upto_region 18 with (fail)
    go_quiet (fail)
    go_wp2
    go_ret2
    exact ⟨by first | rfl | (simp; done) | (simp [*]; done), bt HB.out drewB⟩
  · have ha' : (a == 3) = false := by simp [ha]
    have HE := Lib.hid (show ((a == 3) && (b == 3)) = false by simp [ha])
    go_upto_region 18 with (fail)
    go_quiet (fail)
    go_wp2
    go_ret2
    exact ⟨by first | rfl | (simp; done) | (simp [*]; done), bt HB.out drewB⟩
set_option maxHeartbeats 3200000 in
theorem fits14_4o (w : World) (op : ByteArray) (vk vn : Int) (vs tab col : ByteArray) (pa : Option Addr) (pn pc : Nat) (ka : Option Addr) (kc : Nat) (a b : Int) (hk : IntsAt w ka [a, b]) (hr : reckB op = false) (ho : (op.toList == [65, 78, 68]) = false) (ho2 : (op.toList == [79, 82]) = true) :
    Calls Try.prog 98 #[.agg #[.int .i64 4, .string op, .int .i64 vk, .int .i64 vn, .string vs, .string tab, .string col, .slice pa pn pc], .slice ka 2 kc] w (FitPost w (3, (a == 3) && (b == 3))) := by
  obtain ⟨g, off, rfl, hb, hc, hd⟩ := ints1 hk
  have HB := Lib.hid (bel0 (.cells #[.int .i64 4, .string op, .int .i64 vk, .int .i64 vn, .string vs, .string tab, .string col, .slice pa pn pc] 41) (Below.refl w.heap.size w))
  clear hk
  go_enter Try.func98, Try.ntmps98
  go_wp2_with fail
  refine (reckons14_any _ op).mono ?_
  rintro e w3 ⟨rfl, rfl⟩
  rw [hr]
  by_cases ha : a = 3
  · subst ha
    go_upto_region 18 with (fail)
    go_quiet (fail)
    go_wp2
    go_ret2
    exact ⟨by first | rfl | (simp; done) | (simp [*]; done), bt HB.out drewB⟩
  · have ha' : (a == 3) = false := by simp [ha]
    have HE := Lib.hid (show ((a == 3) && (b == 3)) = false by simp [ha])
    go_upto_region 18 with (fail)
    go_quiet (fail)
    go_wp2
    go_ret2
    exact ⟨by first | rfl | (simp; done) | (simp [*]; done), bt HB.out drewB⟩
set_option maxHeartbeats 3200000 in
theorem fits14_4c (w : World) (op : ByteArray) (vk vn : Int) (vs tab col : ByteArray) (pa : Option Addr) (pn pc : Nat) (ka : Option Addr) (kc : Nat) (a b : Int) (hk : IntsAt w ka [a, b]) (hr : reckB op = false) (ho : (op.toList == [65, 78, 68]) = false) (ho2 : (op.toList == [79, 82]) = false) :
    Calls Try.prog 98 #[.agg #[.int .i64 4, .string op, .int .i64 vk, .int .i64 vn, .string vs, .string tab, .string col, .slice pa pn pc], .slice ka 2 kc] w (FitPost w (3, (a != 3) && (b != 3) && ((a == b) || (a == 0) || (b == 0)))) := by
  obtain ⟨g, off, rfl, hb, hc, hd⟩ := ints1 hk
  have HB := Lib.hid (bel0 (.cells #[.int .i64 4, .string op, .int .i64 vk, .int .i64 vn, .string vs, .string tab, .string col, .slice pa pn pc] 41) (Below.refl w.heap.size w))
  clear hk
  go_enter Try.func98, Try.ntmps98
  go_wp2_with fail
  refine (reckons14_any _ op).mono ?_
  rintro e w3 ⟨rfl, rfl⟩
  rw [hr]
  by_cases ha : a = 3
  · subst ha
    go_upto_region 19 with (fail)
    go_quiet (fail)
    go_wp2
    go_ret2
    exact ⟨by first | rfl | (simp; done), bt HB.out drewB⟩
  by_cases hb3 : b = 3
  · have f0 : (a != 3) = true := by simp [ha]
    have f1 : (b != 3) = false := by simp [hb3]
    clear ha hb3
    go_upto_region 19 with (fail)
    go_quiet (fail)
    go_wp2
    go_ret2
    exact ⟨by first | rfl | (simp only [f0, f1]; rfl) | (simp [f0, f1]; done), bt HB.out drewB⟩
  by_cases hab : a = b
  · have f0 : (a != 3) = true := by simp [ha]
    have f1 : (b != 3) = true := by simp [hb3]
    have f2 : (a == b) = true := by simp [hab]
    clear ha hb3 hab
    go_upto_region 19 with (fail)
    go_quiet (fail)
    go_wp2
    go_ret2
    exact ⟨by first | rfl | (simp only [f0, f1, f2]; rfl) | (simp [f0, f1, f2]; done), bt HB.out drewB⟩
  by_cases ha0 : a = 0
  · have f0 : (a != 3) = true := by simp [ha]
    have f1 : (b != 3) = true := by simp [hb3]
    have f2 : (a == b) = false := by simp [hab]
    have f3 : (a == 0) = true := by simp [ha0]
    clear ha hb3 hab ha0
    go_upto_region 19 with (fail)
    go_quiet (fail)
    go_wp2
    go_ret2
    exact ⟨by first | rfl | (simp only [f0, f1, f2, f3]; rfl) | (simp [f0, f1, f2, f3]; done), bt HB.out drewB⟩
  have f0 : (a != 3) = true := by simp [ha]
  have f1 : (b != 3) = true := by simp [hb3]
  have f2 : (a == b) = false := by simp [hab]
  have f3 : (a == 0) = false := by simp [ha0]
  clear ha hb3 hab ha0
  go_upto_region 19 with (fail)
  go_quiet (fail)
  go_wp2
  go_ret2
  exact ⟨by first | rfl | (simp only [f0, f1, f2, f3]; rfl) | (simp [f0, f1, f2, f3]; done), bt HB.out drewB⟩
end Go.Proofs.Ytafhgilikcablaa
namespace Go.Proofs.Ytafhgilikcablaa
open Go.RowKit
set_option linter.unusedVariables false
set_option linter.unusedSimpArgs false
set_option maxRecDepth 100000

def notNum (x : Int) : Bool := (x != 0) && (x != 1)
def notTr (x : Int) : Bool := (x != 3)
def eqP (x y : Int) : Bool := (x == y)
set_option maxHeartbeats 1600000 in
theorem fits1_any (w : World) (x : Int) : Calls Try.prog 164 #[.int .i64 x] w fun e w' => e = .returned (.bool (notNum x)) ∧ Below w.heap.size w w' := by
  unfold notNum
  by_cases h : x = 0
  · subst h
    go_enter Try.func164, Try.ntmps164
    go_wp2
    go_ret
    exact ⟨rfl, Below.refl _ _⟩
  have f0 : (x != 0) = true := by simp [h]
  rw [f0]
  clear h
  go_enter Try.func164, Try.ntmps164
  go_wp2
  go_ret
  exact ⟨rfl, Below.refl _ _⟩
set_option maxHeartbeats 1600000 in
theorem fits2_any (w : World) (x : Int) : Calls Try.prog 165 #[.int .i64 x] w fun e w' => e = .returned (.bool (notTr x)) ∧ Below w.heap.size w w' := by
  unfold notTr
  go_enter Try.func165, Try.ntmps165
  go_wp2
  go_ret
  exact ⟨rfl, Below.refl _ _⟩
set_option maxHeartbeats 1600000 in
theorem idxNum_any (w : World) (a : Option Addr) (l : List Int) (cap n : Nat) (hn : n = l.length) (hl : IntsAt w a l) (hlen : l.length ≤ 9223372036854775807) :
    Calls Try.prog 182 #[.slice a n cap, .func (Fn.func 164) #[] #[]] w fun e w' => e = .returned (.int .i64 (posI notNum l)) ∧ Below w.heap.size w w' := by
  have HL := Lib.hid hl
  have HN := Lib.hid hn
  have hlen' : n ≤ 9223372036854775807 := by omega
  clear hl hlen hn
  go_enter Try.func182, Try.ntmps182
  go_wp2
  go_loopw [8] (fun i wr => ∃ (k : Nat), k ≤ n ∧ i = .int .i64 (k : Int) ∧ Hid ((l.take k).any notNum = false ∧ Below w.heap.size w wr)) (fun i _ => n - (intOf i).toNat)
  case atStart => exact ⟨0, by omega, rfl, Lib.hid ⟨rfl, Below.refl _ _⟩⟩
  case round =>
    obtain ⟨k, hk, rfl, HR⟩ := hrel
    have hk0 : (0 : Int) ≤ (k : Int) := by omega
    by_cases hlt : k < n
    · have hki : (k : Int) < (n : Int) := by omega
      have hkl : k < l.length := by rw [← HN.out]; exact hlt
      have HLt := Lib.hid hlt
      obtain ⟨b, off, rfl, hbl, hat⟩ := (HL.out.keep HR.out.2).at hkl
      have q0 := hat
      have HP := Lib.hid (show notNum (l[k]) = true → posI notNum l = (k : Int) from fun h => posI_hit hkl HR.out.1 h)
      have HM := Lib.hid (show notNum (l[k]) = false → (l.take (k + 1)).any notNum = false from fun h => any_more hkl HR.out.1 h)
      obtain ⟨c, hc⟩ : ∃ c, c = l[k] := ⟨_, rfl⟩
      rw [← hc] at q0 HP HM
      clear hat hc hkl hlt hk
      go_wp2_with fail
      refine (fits1_any wr c).mono ?_
      rintro e w3 ⟨rfl, hb3⟩
      have HB3 := Lib.hid (bt HR.out.2 hb3)
      clear hb3 q0
      cases hr : notNum c with
      | true =>
        have HQ := Lib.hid (HP.out hr)
        go_wp2
        go_ret
        rw [HQ.out]
        exact ⟨rfl, HB3.out⟩
      | false =>
        have HQ := Lib.hid (HM.out hr)
        go_wp2
        go_roundw
        case rel => exact ⟨k + 1, HLt.out, by go_num, Lib.hid ⟨HQ.out, HB3.out⟩⟩
        case measure => have := HLt.out; simp [intOf]; omega
    · have hkk : ¬ ((k : Int) < (n : Int)) := by omega
      have HQ := Lib.hid (show posI notNum l = -1 from posI_none (by
        have h1 := HR.out.1
        rw [List.take_of_length_le (by rw [← HN.out]; omega)] at h1
        exact h1))
      go_wp2
      go_ret
      rw [HQ.out]
      exact ⟨rfl, HR.out.2⟩
set_option maxHeartbeats 1600000 in
theorem idxTr_any (w : World) (a : Option Addr) (l : List Int) (cap n : Nat) (hn : n = l.length) (hl : IntsAt w a l) (hlen : l.length ≤ 9223372036854775807) :
    Calls Try.prog 182 #[.slice a n cap, .func (Fn.func 165) #[] #[]] w fun e w' => e = .returned (.int .i64 (posI notTr l)) ∧ Below w.heap.size w w' := by
  have HL := Lib.hid hl
  have HN := Lib.hid hn
  have hlen' : n ≤ 9223372036854775807 := by omega
  clear hl hlen hn
  go_enter Try.func182, Try.ntmps182
  go_wp2
  go_loopw [8] (fun i wr => ∃ (k : Nat), k ≤ n ∧ i = .int .i64 (k : Int) ∧ Hid ((l.take k).any notTr = false ∧ Below w.heap.size w wr)) (fun i _ => n - (intOf i).toNat)
  case atStart => exact ⟨0, by omega, rfl, Lib.hid ⟨rfl, Below.refl _ _⟩⟩
  case round =>
    obtain ⟨k, hk, rfl, HR⟩ := hrel
    have hk0 : (0 : Int) ≤ (k : Int) := by omega
    by_cases hlt : k < n
    · have hki : (k : Int) < (n : Int) := by omega
      have hkl : k < l.length := by rw [← HN.out]; exact hlt
      have HLt := Lib.hid hlt
      obtain ⟨b, off, rfl, hbl, hat⟩ := (HL.out.keep HR.out.2).at hkl
      have q0 := hat
      have HP := Lib.hid (show notTr (l[k]) = true → posI notTr l = (k : Int) from fun h => posI_hit hkl HR.out.1 h)
      have HM := Lib.hid (show notTr (l[k]) = false → (l.take (k + 1)).any notTr = false from fun h => any_more hkl HR.out.1 h)
      obtain ⟨c, hc⟩ : ∃ c, c = l[k] := ⟨_, rfl⟩
      rw [← hc] at q0 HP HM
      clear hat hc hkl hlt hk
      go_wp2_with fail
      refine (fits2_any wr c).mono ?_
      rintro e w3 ⟨rfl, hb3⟩
      have HB3 := Lib.hid (bt HR.out.2 hb3)
      clear hb3 q0
      cases hr : notTr c with
      | true =>
        have HQ := Lib.hid (HP.out hr)
        go_wp2
        go_ret
        rw [HQ.out]
        exact ⟨rfl, HB3.out⟩
      | false =>
        have HQ := Lib.hid (HM.out hr)
        go_wp2
        go_roundw
        case rel => exact ⟨k + 1, HLt.out, by go_num, Lib.hid ⟨HQ.out, HB3.out⟩⟩
        case measure => have := HLt.out; simp [intOf]; omega
    · have hkk : ¬ ((k : Int) < (n : Int)) := by omega
      have HQ := Lib.hid (show posI notTr l = -1 from posI_none (by
        have h1 := HR.out.1
        rw [List.take_of_length_le (by rw [← HN.out]; omega)] at h1
        exact h1))
      go_wp2
      go_ret
      rw [HQ.out]
      exact ⟨rfl, HR.out.2⟩
set_option maxHeartbeats 1600000 in
theorem idxEq_any (w : World) (x : Int) (a : Option Addr) (l : List Int) (cap n : Nat) (hn : n = l.length) (hl : IntsAt w a l) (hlen : l.length ≤ 9223372036854775807) :
    Calls Try.prog 183 #[.slice a n cap, .int .i64 x] w fun e w' => e = .returned (.int .i64 (posI (eqP x) l)) ∧ Below w.heap.size w w' := by
  have HL := Lib.hid hl
  have HN := Lib.hid hn
  have hlen' : n ≤ 9223372036854775807 := by omega
  clear hl hlen hn
  go_enter Try.func183, Try.ntmps183
  go_wp2
  go_loopw [8] (fun i wr => ∃ (k : Nat), k ≤ n ∧ i = .int .i64 (k : Int) ∧ Hid ((l.take k).any (eqP x) = false ∧ Below w.heap.size w wr)) (fun i _ => n - (intOf i).toNat)
  case atStart => exact ⟨0, by omega, rfl, Lib.hid ⟨rfl, Below.refl _ _⟩⟩
  case round =>
    obtain ⟨k, hk, rfl, HR⟩ := hrel
    have hk0 : (0 : Int) ≤ (k : Int) := by omega
    by_cases hlt : k < n
    · have hki : (k : Int) < (n : Int) := by omega
      have hkl : k < l.length := by rw [← HN.out]; exact hlt
      have HLt := Lib.hid hlt
      obtain ⟨b, off, rfl, hbl, hat⟩ := (HL.out.keep HR.out.2).at hkl
      have q0 := hat
      have HP := Lib.hid (show (eqP x) (l[k]) = true → posI (eqP x) l = (k : Int) from fun h => posI_hit hkl HR.out.1 h)
      have HM := Lib.hid (show (eqP x) (l[k]) = false → (l.take (k + 1)).any (eqP x) = false from fun h => any_more hkl HR.out.1 h)
      obtain ⟨c, hc⟩ : ∃ c, c = l[k] := ⟨_, rfl⟩
      rw [← hc] at q0 HP HM
      clear hat hc hkl hlt hk
      cases hr : eqP x c with
      | true =>
        have HQ := Lib.hid (HP.out hr)
        have hr' : (x == c) = true := hr
        have HB3 := Lib.hid HR.out.2
        clear hr
        go_wp2
        go_ret
        rw [HQ.out]
        exact ⟨rfl, HB3.out⟩
      | false =>
        have HQ := Lib.hid (HM.out hr)
        have hr' : (x == c) = false := hr
        have HB3 := Lib.hid HR.out.2
        clear hr
        go_wp2
        go_roundw
        case rel => exact ⟨k + 1, HLt.out, by go_num, Lib.hid ⟨HQ.out, HB3.out⟩⟩
        case measure => have := HLt.out; simp [intOf]; omega
    · have hkk : ¬ ((k : Int) < (n : Int)) := by omega
      have HQ := Lib.hid (show posI (eqP x) l = -1 from posI_none (by
        have h1 := HR.out.1
        rw [List.take_of_length_le (by rw [← HN.out]; omega)] at h1
        exact h1))
      go_wp2
      go_ret
      rw [HQ.out]
      exact ⟨rfl, HR.out.2⟩
theorem posI_any {α : Type} (p : α → Bool) (l : List α) : decide (0 ≤ posI p l) = l.any p := by
  cases h : l.findIdx? p with
  | none =>
    have : posI p l = -1 := by unfold posI; rw [h]
    rw [this]
    have h2 : l.any p = false := by
      rw [List.any_eq_false]
      exact fun x hx => by have := (List.findIdx?_eq_none_iff.1 h) x hx; simp [this]
    rw [h2]
    rfl
  | some i =>
    have : posI p l = (i : Int) := by unfold posI; rw [h]
    rw [this]
    obtain ⟨hi, hp, _⟩ := List.findIdx?_eq_some_iff_getElem.1 h
    have h2 : l.any p = true := List.any_eq_true.2 ⟨_, List.getElem_mem hi, hp⟩
    rw [h2]
    exact decide_eq_true (by omega)
set_option maxHeartbeats 1600000 in
theorem hasNum_any (w : World) (a : Option Addr) (l : List Int) (cap n : Nat) (hn : n = l.length) (hl : IntsAt w a l) (hlen : l.length ≤ 9223372036854775807) :
    Calls Try.prog 163 #[.slice a n cap, .func (Fn.func 164) #[] #[]] w fun e w' => e = .returned (.bool (l.any notNum)) ∧ Below w.heap.size w w' := by
  have HP := Lib.hid (posI_any notNum l)
  obtain ⟨y, hy⟩ : ∃ y, y = posI notNum l := ⟨_, rfl⟩
  have HY := Lib.hid hy
  rw [← hy] at HP
  rw [← HP.out]
  have HN := Lib.hid hn
  have HL := Lib.hid hl
  have HLn := Lib.hid hlen
  clear hy hn hl hlen
  by_cases h : 0 ≤ y
  · have HE := Lib.hid (decide_eq_true h)
    go_enter Try.func163, Try.ntmps163
    go_wp2_with fail
    refine (idxNum_any w a l cap n HN.out HL.out HLn.out).mono ?_
    rintro e w3 ⟨rfl, hb3⟩
    have HB3 := Lib.hid hb3
    rw [← HY.out]
    clear hb3
    go_wp2
    go_ret
    exact ⟨by first | rfl | simp [h], HB3.out⟩
  · have HE := Lib.hid (decide_eq_false h)
    go_enter Try.func163, Try.ntmps163
    go_wp2_with fail
    refine (idxNum_any w a l cap n HN.out HL.out HLn.out).mono ?_
    rintro e w3 ⟨rfl, hb3⟩
    have HB3 := Lib.hid hb3
    rw [← HY.out]
    clear hb3
    go_wp2
    go_ret
    exact ⟨by first | rfl | simp [h], HB3.out⟩
set_option maxHeartbeats 1600000 in
theorem hasTr_any (w : World) (a : Option Addr) (l : List Int) (cap n : Nat) (hn : n = l.length) (hl : IntsAt w a l) (hlen : l.length ≤ 9223372036854775807) :
    Calls Try.prog 163 #[.slice a n cap, .func (Fn.func 165) #[] #[]] w fun e w' => e = .returned (.bool (l.any notTr)) ∧ Below w.heap.size w w' := by
  have HP := Lib.hid (posI_any notTr l)
  obtain ⟨y, hy⟩ : ∃ y, y = posI notTr l := ⟨_, rfl⟩
  have HY := Lib.hid hy
  rw [← hy] at HP
  rw [← HP.out]
  have HN := Lib.hid hn
  have HL := Lib.hid hl
  have HLn := Lib.hid hlen
  clear hy hn hl hlen
  by_cases h : 0 ≤ y
  · have HE := Lib.hid (decide_eq_true h)
    go_enter Try.func163, Try.ntmps163
    go_wp2_with fail
    refine (idxTr_any w a l cap n HN.out HL.out HLn.out).mono ?_
    rintro e w3 ⟨rfl, hb3⟩
    have HB3 := Lib.hid hb3
    rw [← HY.out]
    clear hb3
    go_wp2
    go_ret
    exact ⟨by first | rfl | simp [h], HB3.out⟩
  · have HE := Lib.hid (decide_eq_false h)
    go_enter Try.func163, Try.ntmps163
    go_wp2_with fail
    refine (idxTr_any w a l cap n HN.out HL.out HLn.out).mono ?_
    rintro e w3 ⟨rfl, hb3⟩
    have HB3 := Lib.hid hb3
    rw [← HY.out]
    clear hb3
    go_wp2
    go_ret
    exact ⟨by first | rfl | simp [h], HB3.out⟩
set_option maxHeartbeats 1600000 in
theorem hasEq_any (w : World) (x : Int) (a : Option Addr) (l : List Int) (cap n : Nat) (hn : n = l.length) (hl : IntsAt w a l) (hlen : l.length ≤ 9223372036854775807) :
    Calls Try.prog 166 #[.slice a n cap, .int .i64 x] w fun e w' => e = .returned (.bool (l.any (eqP x))) ∧ Below w.heap.size w w' := by
  have HP := Lib.hid (posI_any (eqP x) l)
  obtain ⟨y, hy⟩ : ∃ y, y = posI (eqP x) l := ⟨_, rfl⟩
  have HY := Lib.hid hy
  rw [← hy] at HP
  rw [← HP.out]
  have HN := Lib.hid hn
  have HL := Lib.hid hl
  have HLn := Lib.hid hlen
  clear hy hn hl hlen
  by_cases h : 0 ≤ y
  · have HE := Lib.hid (decide_eq_true h)
    go_enter Try.func166, Try.ntmps166
    go_wp2_with fail
    refine (idxEq_any w x a l cap n HN.out HL.out HLn.out).mono ?_
    rintro e w3 ⟨rfl, hb3⟩
    have HB3 := Lib.hid hb3
    rw [← HY.out]
    clear hb3
    go_wp2
    go_ret
    exact ⟨by first | rfl | simp [h], HB3.out⟩
  · have HE := Lib.hid (decide_eq_false h)
    go_enter Try.func166, Try.ntmps166
    go_wp2_with fail
    refine (idxEq_any w x a l cap n HN.out HL.out HLn.out).mono ?_
    rintro e w3 ⟨rfl, hb3⟩
    have HB3 := Lib.hid hb3
    rw [← HY.out]
    clear hb3
    go_wp2
    go_ret
    exact ⟨by first | rfl | simp [h], HB3.out⟩
end Go.Proofs.Ytafhgilikcablaa
namespace Go.Proofs.Ytafhgilikcablaa
open Go.RowKit
set_option linter.unusedVariables false
set_option linter.unusedSimpArgs false
set_option maxRecDepth 100000

def reckP (k : Int) (s : ByteArray) : Bool := if (s.toList == [45]) = true then (k == 3) || (k == 4) else if (s.toList == [43]) = true then (k == 4) else if (s.toList == [42]) = true then (k == 4) else false
def fitP (k : Int) (s : ByteArray) (ks : List Int) : Bool :=
  if (reckP k s || ((k == 6) && (s.toList == [83, 85, 77]))) = true then !(ks.any notNum)
  else if (s.toList == [78, 79, 84]) = true then !(ks.any notTr)
  else if (s.toList == [65, 78, 68]) = true then !(ks.any notTr)
  else if (s.toList == [79, 82]) = true then !(ks.any notTr)
  else if ks.any (eqP 3) = true then false
  else (k != 4) || (ks.getD 0 0 == ks.getD 1 0) || (ks.getD 0 0 == 0) || (ks.getD 1 0 == 0)
def kindP (k : Int) (s : ByteArray) (ks : List Int) : Int :=
  if reckP k s = true then 1 else if (k != 6) = true then 3 else if (s.toList == [77, 73, 78]) = true then ks.getD 0 0 else if (s.toList == [77, 65, 88]) = true then ks.getD 0 0 else 1
set_option maxHeartbeats 3200000 in
theorem reckonsP_any (w : World) (k : Int) (s : ByteArray) : Calls Try.prog 65 #[.int .i64 k, .string s] w fun e w' => e = .returned (.bool (reckP k s)) ∧ w' = w := by
  by_cases h0 : (s.toList == [45]) = true
  · have HE := Lib.hid (show reckP k s = ((k == 3) || (k == 4)) by unfold reckP; rw [if_pos h0])
    rw [HE.out]
    by_cases hk : k = 3
    · subst hk
      go_enter Try.func65, Try.ntmps65
      go_wp2
      go_ret
      exact ⟨rfl, rfl⟩
    · have f0 : (k == 3) = false := by simp [hk]
      rw [f0]
      clear hk
      go_enter Try.func65, Try.ntmps65
      go_wp2
      go_ret
      exact ⟨rfl, rfl⟩
  by_cases h1 : (s.toList == [43]) = true
  · have HE := Lib.hid (show reckP k s = (k == 4) by unfold reckP; rw [if_neg h0, if_pos h1])
    rw [HE.out]
    rw [Bool.not_eq_true] at h0
    go_enter Try.func65, Try.ntmps65
    go_wp2
    go_ret
    exact ⟨rfl, rfl⟩
  by_cases h2 : (s.toList == [42]) = true
  · have HE := Lib.hid (show reckP k s = (k == 4) by unfold reckP; rw [if_neg h0, if_neg h1, if_pos h2])
    rw [HE.out]
    rw [Bool.not_eq_true] at h0 h1
    go_enter Try.func65, Try.ntmps65
    go_wp2
    go_ret
    exact ⟨rfl, rfl⟩
  have HE := Lib.hid (show reckP k s = false by unfold reckP; rw [if_neg h0, if_neg h1, if_neg h2])
  rw [HE.out]
  rw [Bool.not_eq_true] at h0 h1 h2
  go_enter Try.func65, Try.ntmps65
  go_wp2
  go_ret
  exact ⟨rfl, rfl⟩
set_option maxHeartbeats 3200000 in
theorem pfits_r (w : World) (k : Int) (op : ByteArray) (vk vn : Int) (vs tab col : ByteArray) (pa : Option Addr) (pn pc : Nat) (ka : Option Addr) (kc n : Nat) (ks : List Int) (hn : n = ks.length) (hlen : ks.length ≤ 9223372036854775807) (hk : IntsAt w ka ks) (hr : reckP k op = true) :
    Calls Try.prog 134 #[.agg #[.int .i64 k, .string op, .int .i64 vk, .int .i64 vn, .string vs, .string tab, .string col, .slice pa pn pc], .slice ka n kc] w fun e w' => e = .returned (.bool (!(ks.any notNum))) ∧ Below w.heap.size w w' := by
  have HN := Lib.hid hn
  have HK := Lib.hid hk
  have HLn := Lib.hid hlen
  have HB := Lib.hid (bel0 (.cells #[.int .i64 k, .string op, .int .i64 vk, .int .i64 vn, .string vs, .string tab, .string col, .slice pa pn pc] 52) (Below.refl w.heap.size w))
  have HX := Lib.hid (Go.heap_alloc_new w (.cells #[.int .i64 k, .string op, .int .i64 vk, .int .i64 vn, .string vs, .string tab, .string col, .slice pa pn pc] 52))
  have HS := Lib.hid (show w.heap.size < (w.alloc (.cells #[.int .i64 k, .string op, .int .i64 vk, .int .i64 vn, .string vs, .string tab, .string col, .slice pa pn pc] 52)).heap.size by simp)
  clear hn hk hlen
  go_enter Try.func134, Try.ntmps134
  go_wp2_with fail
  refine (hasNum_any _ ka ks kc n HN.out (by exact HK.out.keep HB.out) HLn.out).mono ?_
  rintro e w3 ⟨rfl, hb3⟩
  have HB3 := Lib.hid (bt HB.out hb3)
  have hX3 := (hb3.block w.heap.size HS.out).trans HX.out
  have HX3 := Lib.hid hX3
  have HSz := Lib.hid (Array.getElem?_eq_some_iff.1 hX3).1
  have x0 : w3.cell? ⟨w.heap.size, 0, none⟩ = some (.int .i64 k) := cell_of_row w3 _ 0 _ _ _ hX3
  have x1 : w3.cell? ⟨w.heap.size, 1, none⟩ = some (.string op) := cell_of_row w3 _ 1 _ _ _ hX3
  clear hb3 hX3
  go_wp2_with fail
  refine (reckonsP_any _ k op).mono ?_
  rintro e w4 ⟨rfl, hw4⟩
  subst hw4
  rw [hr]
  go_wp2
  go_ret
  exact ⟨rfl, HB3.out⟩
set_option maxHeartbeats 3200000 in
theorem pfits_s (w : World) (k : Int) (op : ByteArray) (vk vn : Int) (vs tab col : ByteArray) (pa : Option Addr) (pn pc : Nat) (ka : Option Addr) (kc n : Nat) (ks : List Int) (hn : n = ks.length) (hlen : ks.length ≤ 9223372036854775807) (hk : IntsAt w ka ks) (hr : reckP k op = false) (f0 : (k == 6) = true) (hs : (op.toList == [83, 85, 77]) = true) :
    Calls Try.prog 134 #[.agg #[.int .i64 k, .string op, .int .i64 vk, .int .i64 vn, .string vs, .string tab, .string col, .slice pa pn pc], .slice ka n kc] w fun e w' => e = .returned (.bool (!(ks.any notNum))) ∧ Below w.heap.size w w' := by
  have HN := Lib.hid hn
  have HK := Lib.hid hk
  have HLn := Lib.hid hlen
  have HB := Lib.hid (bel0 (.cells #[.int .i64 k, .string op, .int .i64 vk, .int .i64 vn, .string vs, .string tab, .string col, .slice pa pn pc] 52) (Below.refl w.heap.size w))
  have HX := Lib.hid (Go.heap_alloc_new w (.cells #[.int .i64 k, .string op, .int .i64 vk, .int .i64 vn, .string vs, .string tab, .string col, .slice pa pn pc] 52))
  have HS := Lib.hid (show w.heap.size < (w.alloc (.cells #[.int .i64 k, .string op, .int .i64 vk, .int .i64 vn, .string vs, .string tab, .string col, .slice pa pn pc] 52)).heap.size by simp)
  clear hn hk hlen
  go_enter Try.func134, Try.ntmps134
  go_wp2_with fail
  refine (hasNum_any _ ka ks kc n HN.out (by exact HK.out.keep HB.out) HLn.out).mono ?_
  rintro e w3 ⟨rfl, hb3⟩
  have HB3 := Lib.hid (bt HB.out hb3)
  have hX3 := (hb3.block w.heap.size HS.out).trans HX.out
  have HX3 := Lib.hid hX3
  have HSz := Lib.hid (Array.getElem?_eq_some_iff.1 hX3).1
  have x0 : w3.cell? ⟨w.heap.size, 0, none⟩ = some (.int .i64 k) := cell_of_row w3 _ 0 _ _ _ hX3
  have x1 : w3.cell? ⟨w.heap.size, 1, none⟩ = some (.string op) := cell_of_row w3 _ 1 _ _ _ hX3
  clear hb3 hX3
  go_wp2_with fail
  refine (reckonsP_any _ k op).mono ?_
  rintro e w4 ⟨rfl, hw4⟩
  subst hw4
  rw [hr]
  go_wp2
  go_ret
  exact ⟨rfl, HB3.out⟩
set_option maxHeartbeats 3200000 in
theorem pfits_n (w : World) (k : Int) (op : ByteArray) (vk vn : Int) (vs tab col : ByteArray) (pa : Option Addr) (pn pc : Nat) (ka : Option Addr) (kc n : Nat) (ks : List Int) (hn : n = ks.length) (hlen : ks.length ≤ 9223372036854775807) (hk : IntsAt w ka ks) (hr : reckP k op = false) (h6 : (k == 6) = false ∨ (k == 6) = true ∧ (op.toList == [83, 85, 77]) = false) (ho : (op.toList == [78, 79, 84]) = true) :
    Calls Try.prog 134 #[.agg #[.int .i64 k, .string op, .int .i64 vk, .int .i64 vn, .string vs, .string tab, .string col, .slice pa pn pc], .slice ka n kc] w fun e w' => e = .returned (.bool (!(ks.any notTr))) ∧ Below w.heap.size w w' := by
  have H6 := Lib.hid h6
  clear h6
  have HN := Lib.hid hn
  have HK := Lib.hid hk
  have HLn := Lib.hid hlen
  have HB := Lib.hid (bel0 (.cells #[.int .i64 k, .string op, .int .i64 vk, .int .i64 vn, .string vs, .string tab, .string col, .slice pa pn pc] 52) (Below.refl w.heap.size w))
  have HX := Lib.hid (Go.heap_alloc_new w (.cells #[.int .i64 k, .string op, .int .i64 vk, .int .i64 vn, .string vs, .string tab, .string col, .slice pa pn pc] 52))
  have HS := Lib.hid (show w.heap.size < (w.alloc (.cells #[.int .i64 k, .string op, .int .i64 vk, .int .i64 vn, .string vs, .string tab, .string col, .slice pa pn pc] 52)).heap.size by simp)
  clear hn hk hlen
  go_enter Try.func134, Try.ntmps134
  go_wp2_with fail
  refine (hasNum_any _ ka ks kc n HN.out (by exact HK.out.keep HB.out) HLn.out).mono ?_
  rintro e w3 ⟨rfl, hb3⟩
  have HB3 := Lib.hid (bt HB.out hb3)
  have hX3 := (hb3.block w.heap.size HS.out).trans HX.out
  have HX3 := Lib.hid hX3
  have HSz := Lib.hid (Array.getElem?_eq_some_iff.1 hX3).1
  have x0 : w3.cell? ⟨w.heap.size, 0, none⟩ = some (.int .i64 k) := cell_of_row w3 _ 0 _ _ _ hX3
  have x1 : w3.cell? ⟨w.heap.size, 1, none⟩ = some (.string op) := cell_of_row w3 _ 1 _ _ _ hX3
  clear hb3 hX3
  go_wp2_with fail
  refine (reckonsP_any _ k op).mono ?_
  rintro e w4 ⟨rfl, hw4⟩
  subst hw4
  rw [hr]
  rcases H6.out with f0 | ⟨f0, hs⟩
  · go_wp2_with fail
    refine (hasTr_any _ ka ks kc n HN.out (by exact HK.out.keep HB3.out) HLn.out).mono ?_
    rintro e w5 ⟨rfl, hb5⟩
    have HB5 := Lib.hid (bt HB3.out hb5)
    clear hb5
    go_wp2
    go_ret
    exact ⟨rfl, HB5.out⟩
  · go_wp2_with fail
    refine (hasTr_any _ ka ks kc n HN.out (by exact HK.out.keep HB3.out) HLn.out).mono ?_
    rintro e w5 ⟨rfl, hb5⟩
    have HB5 := Lib.hid (bt HB3.out hb5)
    clear hb5
    go_wp2
    go_ret
    exact ⟨rfl, HB5.out⟩
set_option maxHeartbeats 3200000 in
theorem pfits_a (w : World) (k : Int) (op : ByteArray) (vk vn : Int) (vs tab col : ByteArray) (pa : Option Addr) (pn pc : Nat) (ka : Option Addr) (kc n : Nat) (ks : List Int) (hn : n = ks.length) (hlen : ks.length ≤ 9223372036854775807) (hk : IntsAt w ka ks) (hr : reckP k op = false) (h6 : (k == 6) = false ∨ (k == 6) = true ∧ (op.toList == [83, 85, 77]) = false) (hm : (op.toList == [78, 79, 84]) = false) (ho : (op.toList == [65, 78, 68]) = true) :
    Calls Try.prog 134 #[.agg #[.int .i64 k, .string op, .int .i64 vk, .int .i64 vn, .string vs, .string tab, .string col, .slice pa pn pc], .slice ka n kc] w fun e w' => e = .returned (.bool (!(ks.any notTr))) ∧ Below w.heap.size w w' := by
  have H6 := Lib.hid h6
  clear h6
  have HN := Lib.hid hn
  have HK := Lib.hid hk
  have HLn := Lib.hid hlen
  have HB := Lib.hid (bel0 (.cells #[.int .i64 k, .string op, .int .i64 vk, .int .i64 vn, .string vs, .string tab, .string col, .slice pa pn pc] 52) (Below.refl w.heap.size w))
  have HX := Lib.hid (Go.heap_alloc_new w (.cells #[.int .i64 k, .string op, .int .i64 vk, .int .i64 vn, .string vs, .string tab, .string col, .slice pa pn pc] 52))
  have HS := Lib.hid (show w.heap.size < (w.alloc (.cells #[.int .i64 k, .string op, .int .i64 vk, .int .i64 vn, .string vs, .string tab, .string col, .slice pa pn pc] 52)).heap.size by simp)
  clear hn hk hlen
  go_enter Try.func134, Try.ntmps134
  go_wp2_with fail
  refine (hasNum_any _ ka ks kc n HN.out (by exact HK.out.keep HB.out) HLn.out).mono ?_
  rintro e w3 ⟨rfl, hb3⟩
  have HB3 := Lib.hid (bt HB.out hb3)
  have hX3 := (hb3.block w.heap.size HS.out).trans HX.out
  have HX3 := Lib.hid hX3
  have HSz := Lib.hid (Array.getElem?_eq_some_iff.1 hX3).1
  have x0 : w3.cell? ⟨w.heap.size, 0, none⟩ = some (.int .i64 k) := cell_of_row w3 _ 0 _ _ _ hX3
  have x1 : w3.cell? ⟨w.heap.size, 1, none⟩ = some (.string op) := cell_of_row w3 _ 1 _ _ _ hX3
  clear hb3 hX3
  go_wp2_with fail
  refine (reckonsP_any _ k op).mono ?_
  rintro e w4 ⟨rfl, hw4⟩
  subst hw4
  rw [hr]
  rcases H6.out with f0 | ⟨f0, hs⟩
  · go_wp2_with fail
    refine (hasTr_any _ ka ks kc n HN.out (by exact HK.out.keep HB3.out) HLn.out).mono ?_
    rintro e w5 ⟨rfl, hb5⟩
    have HB5 := Lib.hid (bt HB3.out hb5)
    clear hb5
    go_wp2
    go_ret
    exact ⟨rfl, HB5.out⟩
  · go_wp2_with fail
    refine (hasTr_any _ ka ks kc n HN.out (by exact HK.out.keep HB3.out) HLn.out).mono ?_
    rintro e w5 ⟨rfl, hb5⟩
    have HB5 := Lib.hid (bt HB3.out hb5)
    clear hb5
    go_wp2
    go_ret
    exact ⟨rfl, HB5.out⟩
set_option maxHeartbeats 3200000 in
theorem pfits_o (w : World) (k : Int) (op : ByteArray) (vk vn : Int) (vs tab col : ByteArray) (pa : Option Addr) (pn pc : Nat) (ka : Option Addr) (kc n : Nat) (ks : List Int) (hn : n = ks.length) (hlen : ks.length ≤ 9223372036854775807) (hk : IntsAt w ka ks) (hr : reckP k op = false) (h6 : (k == 6) = false ∨ (k == 6) = true ∧ (op.toList == [83, 85, 77]) = false) (hm : (op.toList == [78, 79, 84]) = false) (hm2 : (op.toList == [65, 78, 68]) = false) (ho : (op.toList == [79, 82]) = true) :
    Calls Try.prog 134 #[.agg #[.int .i64 k, .string op, .int .i64 vk, .int .i64 vn, .string vs, .string tab, .string col, .slice pa pn pc], .slice ka n kc] w fun e w' => e = .returned (.bool (!(ks.any notTr))) ∧ Below w.heap.size w w' := by
  have H6 := Lib.hid h6
  clear h6
  have HN := Lib.hid hn
  have HK := Lib.hid hk
  have HLn := Lib.hid hlen
  have HB := Lib.hid (bel0 (.cells #[.int .i64 k, .string op, .int .i64 vk, .int .i64 vn, .string vs, .string tab, .string col, .slice pa pn pc] 52) (Below.refl w.heap.size w))
  have HX := Lib.hid (Go.heap_alloc_new w (.cells #[.int .i64 k, .string op, .int .i64 vk, .int .i64 vn, .string vs, .string tab, .string col, .slice pa pn pc] 52))
  have HS := Lib.hid (show w.heap.size < (w.alloc (.cells #[.int .i64 k, .string op, .int .i64 vk, .int .i64 vn, .string vs, .string tab, .string col, .slice pa pn pc] 52)).heap.size by simp)
  clear hn hk hlen
  go_enter Try.func134, Try.ntmps134
  go_wp2_with fail
  refine (hasNum_any _ ka ks kc n HN.out (by exact HK.out.keep HB.out) HLn.out).mono ?_
  rintro e w3 ⟨rfl, hb3⟩
  have HB3 := Lib.hid (bt HB.out hb3)
  have hX3 := (hb3.block w.heap.size HS.out).trans HX.out
  have HX3 := Lib.hid hX3
  have HSz := Lib.hid (Array.getElem?_eq_some_iff.1 hX3).1
  have x0 : w3.cell? ⟨w.heap.size, 0, none⟩ = some (.int .i64 k) := cell_of_row w3 _ 0 _ _ _ hX3
  have x1 : w3.cell? ⟨w.heap.size, 1, none⟩ = some (.string op) := cell_of_row w3 _ 1 _ _ _ hX3
  clear hb3 hX3
  go_wp2_with fail
  refine (reckonsP_any _ k op).mono ?_
  rintro e w4 ⟨rfl, hw4⟩
  subst hw4
  rw [hr]
  rcases H6.out with f0 | ⟨f0, hs⟩
  · go_wp2_with fail
    refine (hasTr_any _ ka ks kc n HN.out (by exact HK.out.keep HB3.out) HLn.out).mono ?_
    rintro e w5 ⟨rfl, hb5⟩
    have HB5 := Lib.hid (bt HB3.out hb5)
    clear hb5
    go_wp2
    go_ret
    exact ⟨rfl, HB5.out⟩
  · go_wp2_with fail
    refine (hasTr_any _ ka ks kc n HN.out (by exact HK.out.keep HB3.out) HLn.out).mono ?_
    rintro e w5 ⟨rfl, hb5⟩
    have HB5 := Lib.hid (bt HB3.out hb5)
    clear hb5
    go_wp2
    go_ret
    exact ⟨rfl, HB5.out⟩
set_option maxHeartbeats 3200000 in
theorem pfits_c (w : World) (k : Int) (op : ByteArray) (vk vn : Int) (vs tab col : ByteArray) (pa : Option Addr) (pn pc : Nat) (ka : Option Addr) (kc n : Nat) (ks : List Int) (hn : n = ks.length) (hlen : ks.length ≤ 9223372036854775807) (hk : IntsAt w ka ks) (hr : reckP k op = false) (h6 : (k == 6) = false ∨ (k == 6) = true ∧ (op.toList == [83, 85, 77]) = false) (hm : (op.toList == [78, 79, 84]) = false) (hm2 : (op.toList == [65, 78, 68]) = false) (ho : (op.toList == [79, 82]) = false) (f4 : (k != 4) = true) :
    Calls Try.prog 134 #[.agg #[.int .i64 k, .string op, .int .i64 vk, .int .i64 vn, .string vs, .string tab, .string col, .slice pa pn pc], .slice ka n kc] w fun e w' => e = .returned (.bool (!(ks.any (eqP 3)))) ∧ Below w.heap.size w w' := by
  have H6 := Lib.hid h6
  clear h6
  have HN := Lib.hid hn
  have HK := Lib.hid hk
  have HLn := Lib.hid hlen
  have HB := Lib.hid (bel0 (.cells #[.int .i64 k, .string op, .int .i64 vk, .int .i64 vn, .string vs, .string tab, .string col, .slice pa pn pc] 52) (Below.refl w.heap.size w))
  have HX := Lib.hid (Go.heap_alloc_new w (.cells #[.int .i64 k, .string op, .int .i64 vk, .int .i64 vn, .string vs, .string tab, .string col, .slice pa pn pc] 52))
  have HS := Lib.hid (show w.heap.size < (w.alloc (.cells #[.int .i64 k, .string op, .int .i64 vk, .int .i64 vn, .string vs, .string tab, .string col, .slice pa pn pc] 52)).heap.size by simp)
  clear hn hk hlen
  go_enter Try.func134, Try.ntmps134
  go_wp2_with fail
  refine (hasNum_any _ ka ks kc n HN.out (by exact HK.out.keep HB.out) HLn.out).mono ?_
  rintro e w3 ⟨rfl, hb3⟩
  have HB3 := Lib.hid (bt HB.out hb3)
  have hX3 := (hb3.block w.heap.size HS.out).trans HX.out
  have HX3 := Lib.hid hX3
  have HSz := Lib.hid (Array.getElem?_eq_some_iff.1 hX3).1
  have x0 : w3.cell? ⟨w.heap.size, 0, none⟩ = some (.int .i64 k) := cell_of_row w3 _ 0 _ _ _ hX3
  have x1 : w3.cell? ⟨w.heap.size, 1, none⟩ = some (.string op) := cell_of_row w3 _ 1 _ _ _ hX3
  clear hb3 hX3
  go_wp2_with fail
  refine (reckonsP_any _ k op).mono ?_
  rintro e w4 ⟨rfl, hw4⟩
  subst hw4
  rw [hr]
  rcases H6.out with f0 | ⟨f0, hs⟩
  · go_wp2_with fail
    refine (hasEq_any _ 3 ka ks kc n HN.out (by exact HK.out.keep HB3.out) HLn.out).mono ?_
    rintro e w5 ⟨rfl, hb5⟩
    have HB5 := Lib.hid (bt HB3.out hb5)
    have y0 : w5.cell? ⟨w.heap.size, 0, none⟩ = some (.int .i64 k) := (hb5.cell (p := ⟨w.heap.size, 0, none⟩) HSz.out).trans x0
    clear hb5 x0 x1
    cases h3 : ks.any (eqP 3) with
    | true =>
      go_wp2
      go_ret
      exact ⟨by rw [h3]; rfl, HB5.out⟩
    | false =>
      go_upto_region 11 with (fail)
      go_quiet (fail)
      go_wp2
      go_ret
      exact ⟨by first | rfl | (simp [*]; done), bt HB5.out drewB⟩
  · go_wp2_with fail
    refine (hasEq_any _ 3 ka ks kc n HN.out (by exact HK.out.keep HB3.out) HLn.out).mono ?_
    rintro e w5 ⟨rfl, hb5⟩
    have HB5 := Lib.hid (bt HB3.out hb5)
    have y0 : w5.cell? ⟨w.heap.size, 0, none⟩ = some (.int .i64 k) := (hb5.cell (p := ⟨w.heap.size, 0, none⟩) HSz.out).trans x0
    clear hb5 x0 x1
    cases h3 : ks.any (eqP 3) with
    | true =>
      go_wp2
      go_ret
      exact ⟨by rw [h3]; rfl, HB5.out⟩
    | false =>
      go_upto_region 11 with (fail)
      go_quiet (fail)
      go_wp2
      go_ret
      exact ⟨by first | rfl | (simp [*]; done), bt HB5.out drewB⟩
set_option maxHeartbeats 3200000 in
theorem pfits_b (w : World) (k : Int) (op : ByteArray) (vk vn : Int) (vs tab col : ByteArray) (pa : Option Addr) (pn pc : Nat) (ka : Option Addr) (kc n : Nat) (ks : List Int) (hn : n = ks.length) (hlen : ks.length ≤ 9223372036854775807) (hk : IntsAt w ka ks) (a b : Int) (hks : ks = [a, b]) (hr : reckP k op = false) (f0 : (k == 6) = false) (f4 : (k != 4) = false) (hm : (op.toList == [78, 79, 84]) = false) (hm2 : (op.toList == [65, 78, 68]) = false) (ho : (op.toList == [79, 82]) = false) :
    Calls Try.prog 134 #[.agg #[.int .i64 k, .string op, .int .i64 vk, .int .i64 vn, .string vs, .string tab, .string col, .slice pa pn pc], .slice ka n kc] w fun e w' => e = .returned (.bool (!(ks.any (eqP 3)) && ((a == b) || (a == 0) || (b == 0)))) ∧ Below w.heap.size w w' := by
  subst hks
  obtain rfl : n = 2 := hn
  have HN := Lib.hid (show 2 = [a, b].length from rfl)
  have HK := Lib.hid hk
  have HLn := Lib.hid hlen
  have HB := Lib.hid (bel0 (.cells #[.int .i64 k, .string op, .int .i64 vk, .int .i64 vn, .string vs, .string tab, .string col, .slice pa pn pc] 52) (Below.refl w.heap.size w))
  have HX := Lib.hid (Go.heap_alloc_new w (.cells #[.int .i64 k, .string op, .int .i64 vk, .int .i64 vn, .string vs, .string tab, .string col, .slice pa pn pc] 52))
  have HS := Lib.hid (show w.heap.size < (w.alloc (.cells #[.int .i64 k, .string op, .int .i64 vk, .int .i64 vn, .string vs, .string tab, .string col, .slice pa pn pc] 52)).heap.size by simp)
  clear hk hlen
  go_enter Try.func134, Try.ntmps134
  go_wp2_with fail
  refine (hasNum_any _ ka [a, b] kc 2 HN.out (by exact HK.out.keep HB.out) HLn.out).mono ?_
  rintro e w3 ⟨rfl, hb3⟩
  have HB3 := Lib.hid (bt HB.out hb3)
  have hX3 := (hb3.block w.heap.size HS.out).trans HX.out
  have HX3 := Lib.hid hX3
  have HSz := Lib.hid (Array.getElem?_eq_some_iff.1 hX3).1
  have x0 : w3.cell? ⟨w.heap.size, 0, none⟩ = some (.int .i64 k) := cell_of_row w3 _ 0 _ _ _ hX3
  have x1 : w3.cell? ⟨w.heap.size, 1, none⟩ = some (.string op) := cell_of_row w3 _ 1 _ _ _ hX3
  clear hb3 hX3
  go_wp2_with fail
  refine (reckonsP_any _ k op).mono ?_
  rintro e w4 ⟨rfl, hw4⟩
  subst hw4
  rw [hr]
  go_wp2_with fail
  refine (hasEq_any _ 3 ka [a, b] kc 2 HN.out (by exact HK.out.keep HB3.out) HLn.out).mono ?_
  rintro e w5 ⟨rfl, hb5⟩
  have HB5 := Lib.hid (bt HB3.out hb5)
  have y0 : w5.cell? ⟨w.heap.size, 0, none⟩ = some (.int .i64 k) := (hb5.cell (p := ⟨w.heap.size, 0, none⟩) HSz.out).trans x0
  clear hb5 x0 x1
  cases h3 : [a, b].any (eqP 3) with
  | true =>
    go_wp2
    go_ret
    exact ⟨by rw [h3]; rfl, HB5.out⟩
  | false =>
    obtain ⟨g, off, rfl, hg, g0, g1⟩ := ints1 (by exact HK.out.keep HB5.out)
    by_cases hab : a = b
    · have f5 : (a == b) = true := by simp [hab]
      clear hab
      go_upto_region 11 with (fail)
      go_quiet (fail)
      go_wp2
      go_ret
      exact ⟨by first | rfl | (simp [*]; done), bt HB5.out drewB⟩
    have f5 : (a == b) = false := by simp [hab]
    by_cases ha0 : a = 0
    · have f6 : (a == 0) = true := by simp [ha0]
      clear hab ha0
      go_upto_region 11 with (fail)
      go_quiet (fail)
      go_wp2
      go_ret
      exact ⟨by first | rfl | (simp [*]; done), bt HB5.out drewB⟩
    have f6 : (a == 0) = false := by simp [ha0]
    clear hab ha0
    go_upto_region 11 with (fail)
    go_quiet (fail)
    go_wp2
    go_ret
    exact ⟨by first | rfl | (simp [*]; done), bt HB5.out drewB⟩
end Go.Proofs.Ytafhgilikcablaa
