/- Contract of layer 10's read: a journal that tells just that. -/
import Derived.Test.YtbcjhngpcodaoaaJPg2
import Derived.Test.YtbcjhngpcodaoaaJSame
import Derived.Test.YtbcjhngpcodaoaaJRd
import Derived.Test.YtbcjhngpcodaoaaJLaid
import Derived.Deep.RegionHeld3
import Derived.Deep.RegionHeld
namespace Go.Proofs.Ytbcjhngpcodaoaa
open Go.RowKit
set_option linter.unusedVariables false
set_option maxRecDepth 100000

/-- a part's number, as it is written -/
def partN (n : Int) : Int := IntKind.i64.wrap ((IntKind.u16.wrap n).tmod 100)
/-- what a journal tells is the first m parts -/
def TellsB (z : List Int) (s p : Int) (f : Nat → Int × Int × Int × Int) (m : Nat) : Prop :=
  allR z = true ∧ tS z = s ∧ tP z = p ∧ (tN z).length = m ∧ (tD z).length = m ∧ ∀ i, i < m → (tN z).getD i 0 = partN (f i).2.1 ∧ (tD z).getD i [] = pageB (f i).2.2.2

set_option maxHeartbeats 6400000 in
theorem read_back (a : Option Addr) (len cap : Nat) (z : List Int) (s p : Int) (la : Option Addr) (ln lc : Nat) (f : Nat → Int × Int × Int × Int) (m : Nat) (w : World) (h : IsB w a len z) (hlow : ∀ x, len ≠ 0 → a = some x → x.block < w.heap.size) (hn : a = none → len = 0 ∧ cap = 0) (hlc : len ≤ cap)
    (hL : IsParts w la ln f) (hm : m ≤ ln) (hT : TellsB z s p f m) :
    Calls Try.prog 19 #[.slice a len cap, .int .u64 s, .int .i64 p, .slice la ln lc, .int .i64 (m : Int)] w fun e w' => e = .returned (.bool true) ∧ Below w.heap.size w w' := by
  obtain ⟨e1, e2, e3, e4, e5, e6⟩ := hT
  have HL := Lib.hid hL
  have HM := Lib.hid hm
  have HE := Lib.hid e6
  have HE1 := Lib.hid e1
  have HE4 := Lib.hid e4
  have HE5 := Lib.hid e5
  have hln := hL.1
  have hr := read_any a len cap z w h hlow hn hlc
  subst e2 e3
  clear h hlow hn hlc hL hm e1 e4 e5 e6
  go_enter Try.func19, Try.ntmps19
  go_wp2_with fail
  refine hr.mono ?_
  rintro e w1 ⟨⟨ff, rfl, hf⟩, hb1⟩
  obtain ⟨v1, v2, xs, rfl, o1, o2, g1⟩ := hf
  obtain ⟨a1, k1, rfl, c1⟩ := own_cells1 o1
  obtain ⟨a2, k2, rfl, c2⟩ := own_cells1 o2
  rw [HE1.out]
  have HC1 := Lib.hid c1
  have HC2 := Lib.hid c2
  have HG1 := Lib.hid g1
  have HB1 := Lib.hid hb1
  clear c1 c2 g1 hb1 o1 o2 hr
  have HN4 := Lib.hid HE4.out
  have HN5 := Lib.hid HE5.out
  rw [HE4.out] at HC1 ⊢
  rw [HE5.out] at HC2 ⊢
  generalize tS z = s at *
  generalize tP z = p at *
  have hlm : m ≤ 9223372036854775807 := by have := HM.out; omega
  have HX := Lib.hid (show (w1.alloc (.cells #[.int .u64 s, .int .i64 p, .slice a1 m k1, .slice a2 m k2] 32)).heap[w1.heap.size]? = some (.cells #[.int .u64 s, .int .i64 p, .slice a1 m k1, .slice a2 m k2] 32 (0, 0)) from Go.heap_alloc_new w1 _)
  have HB2 := Lib.hid (bel0 (.cells #[.int .u64 s, .int .i64 p, .slice a1 m k1, .slice a2 m k2] 32) (Below.refl w1.heap.size w1))
  clear HE1 HE4 HE5
  go_wp2
  go_loopw [50] (fun i wr => ∃ k : Nat, k ≤ m ∧ i = .int .i64 (k : Int) ∧ Hid (wr.heap[w1.heap.size]? = some (.cells #[.int .u64 s, .int .i64 p, .slice a1 m k1, .slice a2 m k2] 32 (0, 0)) ∧ Below w1.heap.size w1 wr)) (fun i _ => m - (intOf i).toNat)
  case atStart => exact ⟨0, by omega, rfl, Lib.hid ⟨HX.out, HB2.out⟩⟩
  case round =>
    obtain ⟨k, hk, rfl, HR⟩ := hrel
    clear HX HB2
    by_cases hlt : k < m
    · have hki : (k : Int) < (m : Int) := by omega
      have hk0 : (0 : Int) ≤ (k : Int) := by omega
      have hkl : (k : Int) < (ln : Int) := by have := HM.out; omega
      have HLt := Lib.hid hlt
      have hLw := HL.out
      rcases HL.out.2 with h0 | ⟨b, off, rfl, hb, hcs⟩
      · have := HM.out; omega
      rcases HC1.out.2.2 with h0 | ⟨b1, rfl, r1⟩
      · omega
      rcases HC2.out.2.2 with h0 | ⟨b2, rfl, r2⟩
      · omega
      have hbw := bt HB1.out HR.out.2
      obtain ⟨_, p1, _, p3, _, _, _, i3⟩ := hcs k (by have := HM.out; omega)
      have P1 : wr.cell? ⟨b, off + k * 4 + 1, none⟩ = some (.int .i64 (f k).2.1) := (hbw.cell (p := ⟨b, off + k * 4 + 1, none⟩) hb).trans p1
      have P3 : wr.cell? ⟨b, off + k * 4 + 3, none⟩ = some (.int .u8 (f k).2.2.2) := (hbw.cell (p := ⟨b, off + k * 4 + 3, none⟩) hb).trans p3
      have l1 := World.block_lt_of_cell? w1 _ (r1 k hlt)
      have l2 := World.block_lt_of_cell? w1 _ (r2 k hlt)
      have n1 := (HR.out.2.cell (p := ⟨b1, k, none⟩) l1).trans (r1 k hlt)
      have n2 := (HR.out.2.cell (p := ⟨b2, k, none⟩) l2).trans (r2 k hlt)
      obtain ⟨t1, t2⟩ := HE.out k hlt
      have N1 : wr.cell? ⟨b1, k, none⟩ = some (.int .i64 (partN (f k).2.1)) := by
        rw [n1, ← t1, List.getD_eq_getElem?_getD, List.getElem?_map, List.getElem?_eq_getElem (by rw [HN4.out]; exact hlt), List.getD_eq_getElem?_getD, List.getElem?_eq_getElem (by rw [HN4.out]; exact hlt)]
        rfl
      obtain ⟨gd, cd, d1, d2, _, d4⟩ := HG1.out.2 k (by rw [HN5.out]; exact hlt)
      have N2 : wr.cell? ⟨b2, k, none⟩ = some (.slice (some ⟨gd, 0, none⟩) 512 cd) := by
        rw [n2, List.getD_eq_getElem?_getD, d1]
        rfl
      rw [t2] at d2
      have HD := Lib.hid (d2.below HR.out.2 (fun x _ hx => by cases hx; exact d4))
      have HDl := Lib.hid (Nat.lt_of_lt_of_le d4 HR.out.2.size)
      have F2 := cell_of_row _ _ 2 _ _ _ HR.out.1
      have F3 := cell_of_row _ _ 3 _ _ _ HR.out.1
      simp only [List.getElem?_toArray, List.getElem?_cons_zero, List.getElem?_cons_succ] at F2 F3
      have HI3 := Lib.hid i3
      have L0 := World.block_lt_of_cell? wr _ P1
      have L1 := World.block_lt_of_cell? wr _ N1
      have L2 := World.block_lt_of_cell? wr _ N2
      have L3 := World.block_lt_of_cell? wr _ F2
      have HLs := Lib.hid (show b < wr.heap.size ∧ b1 < wr.heap.size ∧ b2 < wr.heap.size ∧ w1.heap.size < wr.heap.size from ⟨L0, L1, L2, L3⟩)
      clear hcs r1 r2 l1 l2 n1 n2 t1 t2 d1 d2 d4 p1 p3 i3 hb hbw L0 L1 L2 L3 hlt hk hLw
      have HS := Lib.hid (show ∀ W, Below wr.heap.size wr W → ((W.cell? ⟨b, off + k * 4 + 1, none⟩ = some (.int .i64 (f k).2.1) ∧ W.cell? ⟨b, off + k * 4 + 3, none⟩ = some (.int .u8 (f k).2.2.2) ∧ W.cell? ⟨b1, k, none⟩ = some (.int .i64 (partN (f k).2.1)) ∧ W.cell? ⟨b2, k, none⟩ = some (.slice (some ⟨gd, 0, none⟩) 512 cd) ∧ W.cell? ⟨w1.heap.size, 2, none⟩ = some (.slice (some ⟨b1, 0, none⟩) m k1) ∧ W.cell? ⟨w1.heap.size, 3, none⟩ = some (.slice (some ⟨b2, 0, none⟩) m k2)) ∧ (convert 26 9 (.slice (some ⟨gd, 0, none⟩) 512 cd)).run Try.prog W = .ok (.string (strOfNums (pageB (f k).2.2.2))) W) from fun W hW =>
        ⟨⟨(hW.cell (p := ⟨b, off + k * 4 + 1, none⟩) HLs.out.1).trans P1, (hW.cell (p := ⟨b, off + k * 4 + 3, none⟩) HLs.out.1).trans P3, (hW.cell (p := ⟨b1, k, none⟩) HLs.out.2.1).trans N1, (hW.cell (p := ⟨b2, k, none⟩) HLs.out.2.2.1).trans N2, (hW.cell (p := ⟨w1.heap.size, 2, none⟩) HLs.out.2.2.2).trans F2, (hW.cell (p := ⟨w1.heap.size, 3, none⟩) HLs.out.2.2.2).trans F3⟩,
          str_any (HD.out.below hW (fun x _ hx => by cases hx; exact HDl.out)) (fun h => by cases h)⟩)
      have S0 := HS.out wr (Below.refl _ _)
      have S1 := HS.out wr.drew (Below.refl _ _).drew
      clear P1 P3 N1 N2 F2 F3
      unfold partN at HS S0 S1
      go_upto_region 7 with (fail)
      generalize (f k).2.1 = pn at *
      generalize (f k).2.2.2 = pb at *
      refine wp_region_noPanic ?_
      go_region_held (fun W => ((W.cell? ⟨b, off + k * 4 + 1, none⟩ = some (.int .i64 pn) ∧ W.cell? ⟨b, off + k * 4 + 3, none⟩ = some (.int .u8 pb) ∧ W.cell? ⟨b1, k, none⟩ = some (.int .i64 (IntKind.i64.wrap ((IntKind.u16.wrap pn).tmod 100))) ∧ W.cell? ⟨b2, k, none⟩ = some (.slice (some ⟨gd, 0, none⟩) 512 cd) ∧ W.cell? ⟨w1.heap.size, 2, none⟩ = some (.slice (some ⟨b1, 0, none⟩) m k1) ∧ W.cell? ⟨w1.heap.size, 3, none⟩ = some (.slice (some ⟨b2, 0, none⟩) m k2)) ∧ (convert 26 9 (.slice (some ⟨gd, 0, none⟩) 512 cd)).run Try.prog W = .ok (.string (strOfNums (pageB pb))) W))
        (first | exact S0 | exact S1 | exact S7)
        (first
          | (go_at_call 18; refine (page_is pb HI3.out _).mono ?_; rintro e w7 ⟨g7, rfl, hP7⟩; have hb7 : Below wr.heap.size wr w7 := ⟨hP7.2.2.2.os, hP7.2.2.2.tape, hP7.2.2.2.output, hP7.2.2.2.size, hP7.2.2.2.block⟩; have HB7 := Lib.hid hb7; have T7 := str_any (cb := 512) (own_isB hP7.1 hP7.2.1 hP7.2.2.1) (fun h => by cases h); have S7 := HS.out w7 hb7; clear hb7 hP7))
      refine NoPanic.normal ?_
      have HR7 := Lib.hid (show w7.heap[w1.heap.size]? = some (.cells #[.int .u64 s, .int .i64 p, .slice (some ⟨b1, 0, none⟩) m k1, .slice (some ⟨b2, 0, none⟩) m k2] 32 (0, 0)) ∧ Below w1.heap.size w1 w7 from ⟨(HB7.out.block _ HLs.out.2.2.2).trans HR.out.1, bt HR.out.2 HB7.out⟩)
      clear S0 S1 S7 T7
      go_wp2
      go_roundw
      case rel => exact ⟨k + 1, HLt.out, by go_num, HR7⟩
      case measure => have := HLt.out; simp [intOf]; omega
    · obtain rfl : k = m := by omega
      go_wp2
      go_ret
      exact ⟨rfl, bt HB1.out HR.out.2⟩
end Go.Proofs.Ytbcjhngpcodaoaa
