/- JournalReads: the law's walk. -/
import Derived.Test.YtbcjhngpcodaoaaJLaid
import Derived.Test.YtbcjhngpcodaoaaJSame
import Derived.Test.YtbcjhngpcodaoaaJRRd
namespace Go.Proofs.Ytbcjhngpcodaoaa
open Go.RowKit
set_option linter.unusedVariables false
set_option maxRecDepth 100000

theorem IsParts.below {w w' : World} {a : Option Addr} {len : Nat} {f : Nat → Int × Int × Int × Int} (h : IsParts w a len f) (hb : Below w.heap.size w w') : IsParts w' a len f := by
  refine ⟨h.1, ?_⟩
  rcases h.2 with h0 | ⟨b, off, rfl, hlt, hc⟩
  · exact .inl h0
  · refine .inr ⟨b, off, rfl, Nat.lt_of_lt_of_le hlt hb.size, fun i hi => ?_⟩
    obtain ⟨c0, c1, c2, c3, r⟩ := hc i hi
    exact ⟨(hb.cell (p := ⟨b, off + i * 4, none⟩) hlt).trans c0, (hb.cell (p := ⟨b, off + i * 4 + 1, none⟩) hlt).trans c1, (hb.cell (p := ⟨b, off + i * 4 + 2, none⟩) hlt).trans c2, (hb.cell (p := ⟨b, off + i * 4 + 3, none⟩) hlt).trans c3, r⟩
theorem box4 {W : World} {M : Nat} {a b c d : Value} {T : TypeId} (h : W.heap[M]? = some (.cells #[a, b, c, d] T (0, 0))) : W.cell? ⟨M, 0, none⟩ = some a ∧ W.cell? ⟨M, 1, none⟩ = some b ∧ W.cell? ⟨M, 2, none⟩ = some c ∧ W.cell? ⟨M, 3, none⟩ = some d :=
  ⟨cell_of_row _ _ 0 _ _ _ h, cell_of_row _ _ 1 _ _ _ h, cell_of_row _ _ 2 _ _ _ h, cell_of_row _ _ 3 _ _ _ h⟩
theorem stay {W W' : World} {M : Nat} {o : Obj} (h : W.heap[M]? = some o) (hb : Below W.heap.size W W') : W'.heap[M]? = some o := (hb.block M (Array.getElem?_eq_some_iff.1 h).1).trans h
theorem found_lit {w : World} {B : Nat} {f : Value} {s p : Int} {ns : List Int} {ds : List (List Int)} (h : FoundIs w B f s p ns ds) : ∃ a1 n1 c1 a2 n2 c2, f = .agg #[.int .u64 s, .int .i64 p, .slice a1 n1 c1, .slice a2 n2 c2] := by
  obtain ⟨v1, v2, xs, rfl, o1, o2, _⟩ := h
  obtain ⟨a1, n1, c1, rfl⟩ := own_slice o1
  obtain ⟨a2, n2, c2, rfl⟩ := own_slice o2
  exact ⟨_, _, _, _, _, _, rfl⟩

set_option maxHeartbeats 6400000 in
theorem journalReads_walk (salt p h0 h1 at1 by1 : Int) (la : Option Addr) (ln lc : Nat) (f : Nat → Int × Int × Int × Int) (ra : Option Addr) (rl rc : Nat) (zr : List Int) (w : World)
    (hs : 0 ≤ salt ∧ salt ≤ 18446744073709551615) (hp : 0 ≤ p ∧ p ≤ 255) (hh0 : 0 ≤ h0 ∧ h0 ≤ 255) (hh1 : 0 ≤ h1 ∧ h1 ≤ 255) (hat : 0 ≤ at1 ∧ at1 ≤ 18446744073709551615) (hby : 0 ≤ by1 ∧ by1 ≤ 255) (hL : IsParts w la ln f) (hR : BArg w ra rl rc zr) (hrc : rl ≤ rc) :
    Calls Try.prog 3 #[.int .u64 salt, .int .u8 p, .slice la ln lc, .agg #[.int .u8 h0, .int .u8 h1], .int .u64 at1, .int .u8 by1, .slice ra rl rc] w fun e w' => e = .returned (.bool true) ∧ Below w.heap.size w w' := by
  have hm := hR.1.2.1
  obtain ⟨W0, hW0⟩ : ∃ W0, W0 = w.alloc (.cells #[.int .u8 h0, .int .u8 h1] 24) := ⟨_, rfl⟩
  have hb0 : Below w.heap.size w W0 := by rw [hW0]; exact bel0 _ (Below.refl _ _)
  have HX0 := Lib.hid (show W0.heap[w.heap.size]? = some (.cells #[.int .u8 h0, .int .u8 h1] 24 (0, 0)) by rw [hW0]; exact Go.heap_alloc_new w _)
  have HB0 := Lib.hid hb0
  have HW := Lib.hid hW0
  have HL := Lib.hid hL
  have HRw := Lib.hid hR
  have HRc := Lib.hid hrc
  have HArg := Lib.hid (And.intro hs (And.intro hp (And.intro hh0 (And.intro hh1 (And.intro hat hby)))))
  have cv : IntKind.i64.wrap p = p := by rw [IntKind.wrap_i64]; omega
  clear hW0 hb0 hL hR hrc hs hh0 hh1 hat hby
  go_enter Try.func3, Try.ntmps3
  go_wp2_with fail
  rw [← HW.out]
  refine (jawake_any _).mono ?_
  rintro e w1 ⟨rfl, hb1⟩
  have HB1 := Lib.hid (bt HB0.out hb1)
  have HX1 := Lib.hid (stay HX0.out hb1)
  clear hb1
  by_cases hl : (3000 : Int) < (rl : Int)
  · go_wp2_with fail
    refine (jawake_any _).mono ?_
    rintro e w2 ⟨rfl, hb2⟩
    have HB2 := Lib.hid (bt HB1.out hb2)
    clear hb2
    go_wp2
    go_ret
    exact ⟨rfl, HB2.out⟩
  · have HRl := Lib.hid (show rl ≤ 3000 by omega)
    have hl' : (rl : Int) ≤ 3000 := by omega
    have x0 : w1.cell? ⟨w.heap.size, 0, none⟩ = some (.int .u8 h0) := cell_of_row _ _ 0 _ _ _ HX1.out
    have x1 : w1.cell? ⟨w.heap.size, 1, none⟩ = some (.int .u8 h1) := cell_of_row _ _ 1 _ _ _ HX1.out
    clear hl
    go_wp2_with fail
    refine (laid_any salt p h0 h1 at1 by1 la ln lc f _ HArg.out.1 HArg.out.2.1 HArg.out.2.2.1 HArg.out.2.2.2.1 HArg.out.2.2.2.2.1 HArg.out.2.2.2.2.2 (HL.out.below HB1.out)).mono ?_
    rintro e w2 ⟨g, n, c, zs, rfl, hI, hg, hnc, hn8, hb2⟩
    have HI2 := Lib.hid hI
    have HG2 := Lib.hid (show g < w2.heap.size ∧ n ≤ c ∧ n ≤ 8000 from ⟨hg, hnc, hn8⟩)
    have HB2 := Lib.hid (bt HB1.out hb2)
    have HR2 := Lib.hid (show IsB w2 ra rl zr from HRw.out.1.below HB2.out HRw.out.2.1)
    have HRlow := Lib.hid (fun x (h : rl ≠ 0) hx => Nat.lt_of_lt_of_le (HRw.out.2.1 x h hx) HB2.out.size)
    clear hI hg hnc hn8 hb2 x0 x1 cv
    go_wp2_with fail
    refine (read_any (some ⟨g, 0, none⟩) n c zs _ (HI2.out.below (Below.refl _ _) (fun x _ hx => by cases hx; exact HG2.out.1)) (fun x _ hx => by cases hx; exact Nat.lt_of_lt_of_le HG2.out.1 (Nat.le_refl _)) (fun hx => by cases hx) HG2.out.2.1).mono ?_
    rintro e q1 ⟨⟨f1, rfl, hf1⟩, hq1⟩
    obtain ⟨a1, k1, c1, d1, m1, e1, rfl⟩ := found_lit hf1
    have HQ1 := Lib.hid (show Below q1.heap.size q1 (q1.alloc (.cells #[.int .u64 (tS zs), .int .i64 (tP zs), .slice a1 k1 c1, .slice d1 m1 e1] 32)) from bel0 _ (Below.refl _ _))
    have HY1 := Lib.hid (show (q1.alloc (.cells #[.int .u64 (tS zs), .int .i64 (tP zs), .slice a1 k1 c1, .slice d1 m1 e1] 32)).heap[q1.heap.size]? = some (.cells #[.int .u64 (tS zs), .int .i64 (tP zs), .slice a1 k1 c1, .slice d1 m1 e1] 32 (0, 0)) from Go.heap_alloc_new q1 _)
    have HF1 := Lib.hid (hf1.below HQ1.out)
    have HK1 := Lib.hid (show Below w2.heap.size w2 _ from bt (Below.refl _ _) (bt hq1 HQ1.out))
    clear hf1 hq1
    go_wp2_with fail
    refine (rread_any (some ⟨g, 0, none⟩) n c zs _ (HI2.out.below HK1.out (fun x _ hx => by cases hx; exact HG2.out.1)) (fun x _ hx => by cases hx; exact Nat.lt_of_lt_of_le HG2.out.1 HK1.out.size) (fun hx => by cases hx) HG2.out.2.1 (by have := HG2.out.2.2; omega)).mono ?_
    rintro e q2 ⟨⟨f2, rfl, hf2⟩, hq2⟩
    obtain ⟨a2, k2, c2, d2, m2, e2, rfl⟩ := found_lit hf2
    have HQ2 := Lib.hid (show Below q2.heap.size q2 (q2.alloc (.cells #[.int .u64 (tS zs), .int .i64 (tP zs), .slice a2 k2 c2, .slice d2 m2 e2] 35)) from bel0 _ (Below.refl _ _))
    have HY2 := Lib.hid (show (q2.alloc (.cells #[.int .u64 (tS zs), .int .i64 (tP zs), .slice a2 k2 c2, .slice d2 m2 e2] 35)).heap[q2.heap.size]? = some (.cells #[.int .u64 (tS zs), .int .i64 (tP zs), .slice a2 k2 c2, .slice d2 m2 e2] 35 (0, 0)) from Go.heap_alloc_new q2 _)
    have HF2 := Lib.hid (hf2.below HQ2.out)
    have HK2 := Lib.hid (show Below w2.heap.size w2 _ from bt HK1.out (bt hq2 HQ2.out))
    have HY1 := Lib.hid (stay HY1.out (bt hq2 HQ2.out))
    have HF1 := Lib.hid (HF1.out.below (bt hq2 HQ2.out))
    clear hf2 hq2
    go_wp2_with fail
    refine (read_any ra rl rc zr _ (HR2.out.below HK2.out HRlow.out) (fun x h hx => Nat.lt_of_lt_of_le (HRlow.out x h hx) HK2.out.size) HRw.out.2.2 HRc.out).mono ?_
    rintro e q3 ⟨⟨f3, rfl, hf3⟩, hq3⟩
    obtain ⟨a3, k3, c3, d3, m3, e3, rfl⟩ := found_lit hf3
    have HQ3 := Lib.hid (show Below q3.heap.size q3 (q3.alloc (.cells #[.int .u64 (tS zr), .int .i64 (tP zr), .slice a3 k3 c3, .slice d3 m3 e3] 32)) from bel0 _ (Below.refl _ _))
    have HY3 := Lib.hid (show (q3.alloc (.cells #[.int .u64 (tS zr), .int .i64 (tP zr), .slice a3 k3 c3, .slice d3 m3 e3] 32)).heap[q3.heap.size]? = some (.cells #[.int .u64 (tS zr), .int .i64 (tP zr), .slice a3 k3 c3, .slice d3 m3 e3] 32 (0, 0)) from Go.heap_alloc_new q3 _)
    have HF3 := Lib.hid (hf3.below HQ3.out)
    have HK3 := Lib.hid (show Below w2.heap.size w2 _ from bt HK2.out (bt hq3 HQ3.out))
    have HY1 := Lib.hid (stay HY1.out (bt hq3 HQ3.out))
    have HF1 := Lib.hid (HF1.out.below (bt hq3 HQ3.out))
    have HY2 := Lib.hid (stay HY2.out (bt hq3 HQ3.out))
    have HF2 := Lib.hid (HF2.out.below (bt hq3 HQ3.out))
    clear hf3 hq3
    go_wp2_with fail
    refine (rread_any ra rl rc zr _ (HR2.out.below HK3.out HRlow.out) (fun x h hx => Nat.lt_of_lt_of_le (HRlow.out x h hx) HK3.out.size) HRw.out.2.2 HRc.out (by have := HRl.out; omega)).mono ?_
    rintro e q4 ⟨⟨f4, rfl, hf4⟩, hq4⟩
    obtain ⟨a4, k4, c4, d4, m4, e4, rfl⟩ := found_lit hf4
    have HQ4 := Lib.hid (show Below q4.heap.size q4 (q4.alloc (.cells #[.int .u64 (tS zr), .int .i64 (tP zr), .slice a4 k4 c4, .slice d4 m4 e4] 35)) from bel0 _ (Below.refl _ _))
    have HY4 := Lib.hid (show (q4.alloc (.cells #[.int .u64 (tS zr), .int .i64 (tP zr), .slice a4 k4 c4, .slice d4 m4 e4] 35)).heap[q4.heap.size]? = some (.cells #[.int .u64 (tS zr), .int .i64 (tP zr), .slice a4 k4 c4, .slice d4 m4 e4] 35 (0, 0)) from Go.heap_alloc_new q4 _)
    have HF4 := Lib.hid (hf4.below HQ4.out)
    have HK4 := Lib.hid (show Below w2.heap.size w2 _ from bt HK3.out (bt hq4 HQ4.out))
    have HY1 := Lib.hid (stay HY1.out (bt hq4 HQ4.out))
    have HF1 := Lib.hid (HF1.out.below (bt hq4 HQ4.out))
    have HY2 := Lib.hid (stay HY2.out (bt hq4 HQ4.out))
    have HF2 := Lib.hid (HF2.out.below (bt hq4 HQ4.out))
    have HY3 := Lib.hid (stay HY3.out (bt hq4 HQ4.out))
    have HF3 := Lib.hid (HF3.out.below (bt hq4 HQ4.out))
    clear hf4 hq4
    obtain ⟨x1_0, x1_1, x1_2, x1_3⟩ := box4 HY1.out
    obtain ⟨x2_0, x2_1, x2_2, x2_3⟩ := box4 HY2.out
    generalize hokz : allR zs = ok1 at *
    generalize hokr : allR zr = ok2 at *
    clear hokz hokr
    go_wp2_with fail
    refine (same_any _ _ _ _ _ _ _ _ _ HF1.out HF2.out).mono ?_
    rintro e w5 ⟨rfl, hb5⟩
    have HY3 := Lib.hid (stay HY3.out hb5)
    have HY4 := Lib.hid (stay HY4.out hb5)
    have HF3 := Lib.hid (HF3.out.below hb5)
    have HF4 := Lib.hid (HF4.out.below hb5)
    have HK5 := Lib.hid (bt HK4.out hb5)
    clear hb5 x1_0 x1_1 x1_2 x1_3 x2_0 x2_1 x2_2 x2_3
    obtain ⟨x3_0, x3_1, x3_2, x3_3⟩ := box4 HY3.out
    obtain ⟨x4_0, x4_1, x4_2, x4_3⟩ := box4 HY4.out
    go_wp2_with fail
    refine (same_any _ _ _ _ _ _ _ _ _ HF3.out HF4.out).mono ?_
    rintro e w6 ⟨rfl, hb6⟩
    have HK6 := Lib.hid (bt HB2.out (bt HK5.out hb6))
    clear hb6 x3_0 x3_1 x3_2 x3_3 x4_0 x4_1 x4_2 x4_3
    go_wp2
    go_ret
    exact ⟨rfl, HK6.out⟩
end Go.Proofs.Ytbcjhngpcodaoaa
