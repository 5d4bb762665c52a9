/- The program's fits, kindOf and reckons, of any operation. -/
import Derived.Test.YtafhgilikcablaaSvBx
import Derived.Test.YtafhgilikcablaaEtIn
import Derived.Deep.DeepCutAuto
namespace Go.Proofs.Ytafhgilikcablaa
open Go.RowKit
set_option linter.unusedVariables false
set_option linter.unusedSimpArgs false
set_option maxRecDepth 100000

def numB (x : Int) : Bool := decide (x = 0) || decide (x = 1)
def reckB (s : ByteArray) : Bool := decide (s.toList = [43]) || (decide (s.toList = [45]) || decide (s.toList = [42]))
set_option maxHeartbeats 1600000 in
theorem number14_any (w : World) (x : Int) : Calls Try.prog 138 #[.int .i64 x] w fun e w' => e = .returned (.bool (numB x)) ∧ w' = w := by
  by_cases h0 : x = 0
  · subst h0
    go_enter Try.func138, Try.ntmps138
    go_wp2
    go_ret
    exact ⟨rfl, rfl⟩
  by_cases h1 : x = 1
  · subst h1
    go_enter Try.func138, Try.ntmps138
    go_wp2
    go_ret
    exact ⟨rfl, rfl⟩
  have HE := Lib.hid (show numB x = false by simp [numB, h0, h1])
  have b0 : (x == 0) = false := by simp [h0]
  have b1 : (x == 1) = false := by simp [h1]
  go_enter Try.func138, Try.ntmps138
  go_wp2
  go_ret
  rw [HE.out]
  exact ⟨by simp [h1], rfl⟩
set_option maxHeartbeats 1600000 in
theorem reckons14_any (w : World) (s : ByteArray) : Calls Try.prog 67 #[.string s] w fun e w' => e = .returned (.bool (reckB s)) ∧ w' = w := by
  by_cases h0 : (s.toList == [43]) = true
  · have HE := Lib.hid (show reckB s = true by simp [reckB, beq_iff_eq.1 h0])
    go_enter Try.func67, Try.ntmps67
    go_wp2
    go_ret
    rw [HE.out]
    exact ⟨rfl, rfl⟩
  by_cases h1 : (s.toList == [45]) = true
  · have HE := Lib.hid (show reckB s = true by simp [reckB, beq_iff_eq.1 h1])
    rw [Bool.not_eq_true] at h0
    go_enter Try.func67, Try.ntmps67
    go_wp2
    go_ret
    rw [HE.out]
    exact ⟨rfl, rfl⟩
  by_cases h2 : (s.toList == [42]) = true
  · have HE := Lib.hid (show reckB s = true by simp [reckB, beq_iff_eq.1 h2])
    rw [Bool.not_eq_true] at h0 h1
    go_enter Try.func67, Try.ntmps67
    go_wp2
    go_ret
    rw [HE.out]
    exact ⟨rfl, rfl⟩
  have HE := Lib.hid (show reckB s = false by
    have a := fun h => h0 (beq_iff_eq.2 h)
    have b := fun h => h1 (beq_iff_eq.2 h)
    have c := fun h => h2 (beq_iff_eq.2 h)
    simp only [reckB, Bool.or_eq_false_iff, decide_eq_false_iff_not]
    exact ⟨a, b, c⟩)
  rw [Bool.not_eq_true] at h0 h1 h2
  go_enter Try.func67, Try.ntmps67
  go_wp2
  go_ret
  rw [HE.out]
  exact ⟨rfl, rfl⟩
/-- the kind of an operation, and whether its parts fit -/
def fitD (k : Int) (op : ByteArray) (ks : List Int) : Int × Bool :=
  let a := ks.getD 0 0
  let b := ks.getD 1 0
  if k = 3 then (if op.toList = [78, 79, 84] then (3, (a == 3)) else (1, numB a))
  else if k = 5 then (3, (a != 3))
  else if k = 6 then (if ks.length = 0 then (1, true) else if op.toList = [67, 79, 85, 78, 84] then (1, (a != 3)) else if op.toList = [83, 85, 77] then (1, numB a) else (a, (a != 3)))
  else if reckB op then (1, numB a && numB b)
  else if op.toList = [65, 78, 68] ∨ op.toList = [79, 82] then (3, (a == 3) && (b == 3))
  else (3, (a != 3) && (b != 3) && ((a == b) || (a == 0) || (b == 0)))
def FitPost (w : World) (r : Int × Bool) (e : Ending) (w' : World) : Prop := e = .returned (.tuple #[.int .i64 r.1, .bool r.2]) ∧ Below w.heap.size w w'
theorem ints0 {w : World} {ka : Option Addr} {a : Int} {l : List Int} (h : IntsAt w ka (a :: l)) : ∃ b off, ka = some ⟨b, off, none⟩ ∧ b < w.heap.size ∧ w.cell? ⟨b, off, none⟩ = some (.int .i64 a) := by
  obtain ⟨b, off, h1, h2, h3⟩ := h.at (i := 0) (by simp)
  exact ⟨b, off, h1, h2, h3⟩
theorem ints1 {w : World} {ka : Option Addr} {a c : Int} {l : List Int} (h : IntsAt w ka (a :: c :: l)) : ∃ b off, ka = some ⟨b, off, none⟩ ∧ b < w.heap.size ∧ w.cell? ⟨b, off, none⟩ = some (.int .i64 a) ∧ w.cell? ⟨b, off + 1, none⟩ = some (.int .i64 c) := by
  rcases h with h | ⟨b, off, h1, h2, h3⟩
  · cases h
  · exact ⟨b, off, h1, h2, h3 0 (by simp), h3 1 (by simp)⟩
set_option maxHeartbeats 3200000 in
theorem fits14_3n (w : World) (op : ByteArray) (vk vn : Int) (vs tab col : ByteArray) (pa : Option Addr) (pn pc : Nat) (ka : Option Addr) (kc : Nat) (a : Int) (hk : IntsAt w ka [a]) (ho : (op.toList == [78, 79, 84]) = true) :
    Calls Try.prog 98 #[.agg #[.int .i64 3, .string op, .int .i64 vk, .int .i64 vn, .string vs, .string tab, .string col, .slice pa pn pc], .slice ka 1 kc] w (FitPost w (3, (a == 3))) := by
  obtain ⟨g, off, rfl, hb, hc⟩ := ints0 hk
  have HB := Lib.hid (bel0 (.cells #[.int .i64 3, .string op, .int .i64 vk, .int .i64 vn, .string vs, .string tab, .string col, .slice pa pn pc] 41) (Below.refl w.heap.size w))
  clear hk
  go_enter Try.func98, Try.ntmps98
  go_upto_region 2 with (fail)
  go_quiet (fail)
  go_wp2
  go_ret2
  exact ⟨by first | rfl | (simp; done) | (simp [*]; done), bt HB.out drewB⟩
set_option maxHeartbeats 3200000 in
theorem fits14_3m (w : World) (op : ByteArray) (vk vn : Int) (vs tab col : ByteArray) (pa : Option Addr) (pn pc : Nat) (ka : Option Addr) (kc : Nat) (a : Int) (hk : IntsAt w ka [a]) (ho : (op.toList == [78, 79, 84]) = false) :
    Calls Try.prog 98 #[.agg #[.int .i64 3, .string op, .int .i64 vk, .int .i64 vn, .string vs, .string tab, .string col, .slice pa pn pc], .slice ka 1 kc] w (FitPost w (1, numB a)) := by
  obtain ⟨g, off, rfl, hb, hc⟩ := ints0 hk
  have HB := Lib.hid (bel0 (.cells #[.int .i64 3, .string op, .int .i64 vk, .int .i64 vn, .string vs, .string tab, .string col, .slice pa pn pc] 41) (Below.refl w.heap.size w))
  clear hk
  go_enter Try.func98, Try.ntmps98
  go_wp2_with fail
  refine (number14_any _ a).mono ?_
  rintro e w3 ⟨rfl, rfl⟩
  go_wp2
  go_ret2
  exact ⟨by first | rfl | (simp; done) | (simp [*]; done), HB.out⟩
set_option maxHeartbeats 3200000 in
theorem fits14_5 (w : World) (op : ByteArray) (vk vn : Int) (vs tab col : ByteArray) (pa : Option Addr) (pn pc : Nat) (ka : Option Addr) (kc : Nat) (a : Int) (hk : IntsAt w ka [a]) :
    Calls Try.prog 98 #[.agg #[.int .i64 5, .string op, .int .i64 vk, .int .i64 vn, .string vs, .string tab, .string col, .slice pa pn pc], .slice ka 1 kc] w (FitPost w (3, (a != 3))) := by
  obtain ⟨g, off, rfl, hb, hc⟩ := ints0 hk
  have HB := Lib.hid (bel0 (.cells #[.int .i64 5, .string op, .int .i64 vk, .int .i64 vn, .string vs, .string tab, .string col, .slice pa pn pc] 41) (Below.refl w.heap.size w))
  clear hk
  go_enter Try.func98, Try.ntmps98
  go_upto_region 6 with (fail)
  go_quiet (fail)
  go_wp2
  go_ret2
  exact ⟨by first | rfl | (simp; done) | (simp [*]; done), bt HB.out drewB⟩
set_option maxHeartbeats 3200000 in
theorem fits14_60 (w : World) (op : ByteArray) (vk vn : Int) (vs tab col : ByteArray) (pa : Option Addr) (pn pc : Nat) (ka : Option Addr) (kc : Nat) (hk : IntsAt w ka []) :
    Calls Try.prog 98 #[.agg #[.int .i64 6, .string op, .int .i64 vk, .int .i64 vn, .string vs, .string tab, .string col, .slice pa pn pc], .slice ka 0 kc] w (FitPost w (1, true)) := by
  have HB := Lib.hid (bel0 (.cells #[.int .i64 6, .string op, .int .i64 vk, .int .i64 vn, .string vs, .string tab, .string col, .slice pa pn pc] 41) (Below.refl w.heap.size w))
  clear hk
  go_enter Try.func98, Try.ntmps98
  go_wp2
  go_ret2
  exact ⟨by first | rfl | (simp; done) | (simp [*]; done), HB.out⟩
set_option maxHeartbeats 3200000 in
theorem fits14_6c (w : World) (op : ByteArray) (vk vn : Int) (vs tab col : ByteArray) (pa : Option Addr) (pn pc : Nat) (ka : Option Addr) (kc : Nat) (a : Int) (hk : IntsAt w ka [a]) (ho : (op.toList == [67, 79, 85, 78, 84]) = true) :
    Calls Try.prog 98 #[.agg #[.int .i64 6, .string op, .int .i64 vk, .int .i64 vn, .string vs, .string tab, .string col, .slice pa pn pc], .slice ka 1 kc] w (FitPost w (1, (a != 3))) := by
  obtain ⟨g, off, rfl, hb, hc⟩ := ints0 hk
  have HB := Lib.hid (bel0 (.cells #[.int .i64 6, .string op, .int .i64 vk, .int .i64 vn, .string vs, .string tab, .string col, .slice pa pn pc] 41) (Below.refl w.heap.size w))
  clear hk
  go_enter Try.func98, Try.ntmps98
  go_upto_region 10 with (fail)
  go_quiet (fail)
  go_wp2
  go_ret2
  exact ⟨by first | rfl | (simp; done) | (simp [*]; done), bt HB.out drewB⟩
set_option maxHeartbeats 3200000 in
theorem fits14_6s (w : World) (op : ByteArray) (vk vn : Int) (vs tab col : ByteArray) (pa : Option Addr) (pn pc : Nat) (ka : Option Addr) (kc : Nat) (a : Int) (hk : IntsAt w ka [a]) (ho : (op.toList == [67, 79, 85, 78, 84]) = false) (ho2 : (op.toList == [83, 85, 77]) = true) :
    Calls Try.prog 98 #[.agg #[.int .i64 6, .string op, .int .i64 vk, .int .i64 vn, .string vs, .string tab, .string col, .slice pa pn pc], .slice ka 1 kc] w (FitPost w (1, numB a)) := by
  obtain ⟨g, off, rfl, hb, hc⟩ := ints0 hk
  have HB := Lib.hid (bel0 (.cells #[.int .i64 6, .string op, .int .i64 vk, .int .i64 vn, .string vs, .string tab, .string col, .slice pa pn pc] 41) (Below.refl w.heap.size w))
  clear hk
  go_enter Try.func98, Try.ntmps98
  go_wp2_with fail
  refine (number14_any _ a).mono ?_
  rintro e w3 ⟨rfl, rfl⟩
  go_wp2
  go_ret2
  exact ⟨by first | rfl | (simp; done) | (simp [*]; done), HB.out⟩
set_option maxHeartbeats 3200000 in
theorem fits14_6m (w : World) (op : ByteArray) (vk vn : Int) (vs tab col : ByteArray) (pa : Option Addr) (pn pc : Nat) (ka : Option Addr) (kc : Nat) (a : Int) (hk : IntsAt w ka [a]) (ho : (op.toList == [67, 79, 85, 78, 84]) = false) (ho2 : (op.toList == [83, 85, 77]) = false) :
    Calls Try.prog 98 #[.agg #[.int .i64 6, .string op, .int .i64 vk, .int .i64 vn, .string vs, .string tab, .string col, .slice pa pn pc], .slice ka 1 kc] w (FitPost w (a, (a != 3))) := by
  obtain ⟨g, off, rfl, hb, hc⟩ := ints0 hk
  have HB := Lib.hid (bel0 (.cells #[.int .i64 6, .string op, .int .i64 vk, .int .i64 vn, .string vs, .string tab, .string col, .slice pa pn pc] 41) (Below.refl w.heap.size w))
  clear hk
  go_enter Try.func98, Try.ntmps98
  go_upto_region 14 with (fail)
  go_quiet (fail)
  go_wp2
  go_ret2
  exact ⟨by first | rfl | (simp; done) | (simp [*]; done), bt HB.out drewB⟩
set_option maxHeartbeats 3200000 in
theorem fits14_4r (w : World) (op : ByteArray) (vk vn : Int) (vs tab col : ByteArray) (pa : Option Addr) (pn pc : Nat) (ka : Option Addr) (kc : Nat) (a b : Int) (hk : IntsAt w ka [a, b]) (hr : reckB op = true) :
    Calls Try.prog 98 #[.agg #[.int .i64 4, .string op, .int .i64 vk, .int .i64 vn, .string vs, .string tab, .string col, .slice pa pn pc], .slice ka 2 kc] w (FitPost w (1, numB a && numB b)) := by
  obtain ⟨g, off, rfl, hb, hc, hd⟩ := ints1 hk
  have HB := Lib.hid (bel0 (.cells #[.int .i64 4, .string op, .int .i64 vk, .int .i64 vn, .string vs, .string tab, .string col, .slice pa pn pc] 41) (Below.refl w.heap.size w))
  clear hk
  go_enter Try.func98, Try.ntmps98
  go_wp2_with fail
  refine (reckons14_any _ op).mono ?_
  rintro e w3 ⟨rfl, rfl⟩
  rw [hr]
  go_wp2_with fail
  refine (number14_any _ a).mono ?_
  rintro e w3 ⟨rfl, rfl⟩
  cases ha : numB a with
  | false =>
    go_wp2
    go_ret2
    exact ⟨by first | rfl | (simp; done) | (simp [*]; done), HB.out⟩
  | true =>
    go_wp2_with fail
    refine (number14_any _ b).mono ?_
    rintro e w3 ⟨rfl, rfl⟩
    go_wp2
    go_ret2
    exact ⟨by first | rfl | (simp; done) | (simp [*]; done), HB.out⟩
set_option maxHeartbeats 3200000 in
theorem fits14_4a (w : World) (op : ByteArray) (vk vn : Int) (vs tab col : ByteArray) (pa : Option Addr) (pn pc : Nat) (ka : Option Addr) (kc : Nat) (a b : Int) (hk : IntsAt w ka [a, b]) (hr : reckB op = false) (ho : (op.toList == [65, 78, 68]) = true) :
    Calls Try.prog 98 #[.agg #[.int .i64 4, .string op, .int .i64 vk, .int .i64 vn, .string vs, .string tab, .string col, .slice pa pn pc], .slice ka 2 kc] w (FitPost w (3, (a == 3) && (b == 3))) := by
  obtain ⟨g, off, rfl, hb, hc, hd⟩ := ints1 hk
  have HB := Lib.hid (bel0 (.cells #[.int .i64 4, .string op, .int .i64 vk, .int .i64 vn, .string vs, .string tab, .string col, .slice pa pn pc] 41) (Below.refl w.heap.size w))
  clear hk
  go_enter Try.func98, Try.ntmps98
  go_wp2_with fail
  refine (reckons14_any _ op).mono ?_
  rintro e w3 ⟨rfl, rfl⟩
  rw [hr]
  by_cases ha : a = 3
  · subst ha
    go_upto_region 18 with (fail)
    go_quiet (fail)
    go_wp2
    go_ret2
    exact ⟨by first | rfl | (simp; done) | (simp [*]; done), bt HB.out drewB⟩
  · have ha' : (a == 3) = false := by simp [ha]
    have HE := Lib.hid (show ((a == 3) && (b == 3)) = false by simp [ha])
    go_upto_region 18 with (fail)
    go_quiet (fail)
    go_wp2
    go_ret2
    exact ⟨by first | rfl | (simp; done) | (simp [*]; done), bt HB.out drewB⟩
set_option maxHeartbeats 3200000 in
theorem fits14_4o (w : World) (op : ByteArray) (vk vn : Int) (vs tab col : ByteArray) (pa : Option Addr) (pn pc : Nat) (ka : Option Addr) (kc : Nat) (a b : Int) (hk : IntsAt w ka [a, b]) (hr : reckB op = false) (ho : (op.toList == [65, 78, 68]) = false) (ho2 : (op.toList == [79, 82]) = true) :
    Calls Try.prog 98 #[.agg #[.int .i64 4, .string op, .int .i64 vk, .int .i64 vn, .string vs, .string tab, .string col, .slice pa pn pc], .slice ka 2 kc] w (FitPost w (3, (a == 3) && (b == 3))) := by
  obtain ⟨g, off, rfl, hb, hc, hd⟩ := ints1 hk
  have HB := Lib.hid (bel0 (.cells #[.int .i64 4, .string op, .int .i64 vk, .int .i64 vn, .string vs, .string tab, .string col, .slice pa pn pc] 41) (Below.refl w.heap.size w))
  clear hk
  go_enter Try.func98, Try.ntmps98
  go_wp2_with fail
  refine (reckons14_any _ op).mono ?_
  rintro e w3 ⟨rfl, rfl⟩
  rw [hr]
  by_cases ha : a = 3
  · subst ha
    go_upto_region 18 with (fail)
    go_quiet (fail)
    go_wp2
    go_ret2
    exact ⟨by first | rfl | (simp; done) | (simp [*]; done), bt HB.out drewB⟩
  · have ha' : (a == 3) = false := by simp [ha]
    have HE := Lib.hid (show ((a == 3) && (b == 3)) = false by simp [ha])
    go_upto_region 18 with (fail)
    go_quiet (fail)
    go_wp2
    go_ret2
    exact ⟨by first | rfl | (simp; done) | (simp [*]; done), bt HB.out drewB⟩
set_option maxHeartbeats 3200000 in
theorem fits14_4c (w : World) (op : ByteArray) (vk vn : Int) (vs tab col : ByteArray) (pa : Option Addr) (pn pc : Nat) (ka : Option Addr) (kc : Nat) (a b : Int) (hk : IntsAt w ka [a, b]) (hr : reckB op = false) (ho : (op.toList == [65, 78, 68]) = false) (ho2 : (op.toList == [79, 82]) = false) :
    Calls Try.prog 98 #[.agg #[.int .i64 4, .string op, .int .i64 vk, .int .i64 vn, .string vs, .string tab, .string col, .slice pa pn pc], .slice ka 2 kc] w (FitPost w (3, (a != 3) && (b != 3) && ((a == b) || (a == 0) || (b == 0)))) := by
  obtain ⟨g, off, rfl, hb, hc, hd⟩ := ints1 hk
  have HB := Lib.hid (bel0 (.cells #[.int .i64 4, .string op, .int .i64 vk, .int .i64 vn, .string vs, .string tab, .string col, .slice pa pn pc] 41) (Below.refl w.heap.size w))
  clear hk
  go_enter Try.func98, Try.ntmps98
  go_wp2_with fail
  refine (reckons14_any _ op).mono ?_
  rintro e w3 ⟨rfl, rfl⟩
  rw [hr]
  by_cases ha : a = 3
  · subst ha
    go_upto_region 19 with (fail)
    go_quiet (fail)
    go_wp2
    go_ret2
    exact ⟨by first | rfl | (simp; done), bt HB.out drewB⟩
  by_cases hb3 : b = 3
  · have f0 : (a != 3) = true := by simp [ha]
    have f1 : (b != 3) = false := by simp [hb3]
    clear ha hb3
    go_upto_region 19 with (fail)
    go_quiet (fail)
    go_wp2
    go_ret2
    exact ⟨by first | rfl | (simp only [f0, f1]; rfl) | (simp [f0, f1]; done), bt HB.out drewB⟩
  by_cases hab : a = b
  · have f0 : (a != 3) = true := by simp [ha]
    have f1 : (b != 3) = true := by simp [hb3]
    have f2 : (a == b) = true := by simp [hab]
    clear ha hb3 hab
    go_upto_region 19 with (fail)
    go_quiet (fail)
    go_wp2
    go_ret2
    exact ⟨by first | rfl | (simp only [f0, f1, f2]; rfl) | (simp [f0, f1, f2]; done), bt HB.out drewB⟩
  by_cases ha0 : a = 0
  · have f0 : (a != 3) = true := by simp [ha]
    have f1 : (b != 3) = true := by simp [hb3]
    have f2 : (a == b) = false := by simp [hab]
    have f3 : (a == 0) = true := by simp [ha0]
    clear ha hb3 hab ha0
    go_upto_region 19 with (fail)
    go_quiet (fail)
    go_wp2
    go_ret2
    exact ⟨by first | rfl | (simp only [f0, f1, f2, f3]; rfl) | (simp [f0, f1, f2, f3]; done), bt HB.out drewB⟩
  have f0 : (a != 3) = true := by simp [ha]
  have f1 : (b != 3) = true := by simp [hb3]
  have f2 : (a == b) = false := by simp [hab]
  have f3 : (a == 0) = false := by simp [ha0]
  clear ha hb3 hab ha0
  go_upto_region 19 with (fail)
  go_quiet (fail)
  go_wp2
  go_ret2
  exact ⟨by first | rfl | (simp only [f0, f1, f2, f3]; rfl) | (simp [f0, f1, f2, f3]; done), bt HB.out drewB⟩
end Go.Proofs.Ytafhgilikcablaa
namespace Go.Proofs.Ytafhgilikcablaa
open Go.RowKit
set_option linter.unusedVariables false
set_option linter.unusedSimpArgs false
set_option maxRecDepth 100000

end Go.Proofs.Ytafhgilikcablaa
namespace Go.Proofs.Ytafhgilikcablaa
open Go.RowKit
set_option linter.unusedVariables false
set_option linter.unusedSimpArgs false
set_option maxRecDepth 100000

def reckP (k : Int) (s : ByteArray) : Bool := if (s.toList == [45]) = true then (k == 3) || (k == 4) else if (s.toList == [43]) = true then (k == 4) else if (s.toList == [42]) = true then (k == 4) else false
set_option maxHeartbeats 3200000 in
theorem reckonsP_any (w : World) (k : Int) (s : ByteArray) : Calls Try.prog 65 #[.int .i64 k, .string s] w fun e w' => e = .returned (.bool (reckP k s)) ∧ w' = w := by
  by_cases h0 : (s.toList == [45]) = true
  · have HE := Lib.hid (show reckP k s = ((k == 3) || (k == 4)) by unfold reckP; rw [if_pos h0])
    rw [HE.out]
    by_cases hk : k = 3
    · subst hk
      go_enter Try.func65, Try.ntmps65
      go_wp2
      go_ret
      exact ⟨rfl, rfl⟩
    · have f0 : (k == 3) = false := by simp [hk]
      rw [f0]
      clear hk
      go_enter Try.func65, Try.ntmps65
      go_wp2
      go_ret
      exact ⟨rfl, rfl⟩
  by_cases h1 : (s.toList == [43]) = true
  · have HE := Lib.hid (show reckP k s = (k == 4) by unfold reckP; rw [if_neg h0, if_pos h1])
    rw [HE.out]
    rw [Bool.not_eq_true] at h0
    go_enter Try.func65, Try.ntmps65
    go_wp2
    go_ret
    exact ⟨rfl, rfl⟩
  by_cases h2 : (s.toList == [42]) = true
  · have HE := Lib.hid (show reckP k s = (k == 4) by unfold reckP; rw [if_neg h0, if_neg h1, if_pos h2])
    rw [HE.out]
    rw [Bool.not_eq_true] at h0 h1
    go_enter Try.func65, Try.ntmps65
    go_wp2
    go_ret
    exact ⟨rfl, rfl⟩
  have HE := Lib.hid (show reckP k s = false by unfold reckP; rw [if_neg h0, if_neg h1, if_neg h2])
  rw [HE.out]
  rw [Bool.not_eq_true] at h0 h1 h2
  go_enter Try.func65, Try.ntmps65
  go_wp2
  go_ret
  exact ⟨rfl, rfl⟩
end Go.Proofs.Ytafhgilikcablaa
