/- expr.write: unary, binary, tests, aggregates. -/
import Derived.Test.YtpinalpigefenaaGreatDoorBkWr
import Derived.Test.YtpinalpigefenaaGreatDoorVRecPure
set_option linter.unusedVariables false
set_option linter.unusedSimpArgs false
set_option maxRecDepth 100000
namespace Go.Proofs.YtpinalpigefenaaGreatDoor
open Go.RowKit
theorem EL.at2 {w : World} {Q : Nat → Prop} {a : Option Addr} {l : List ET} (h : EL w Q a l) {i : Nat} (hi : i < l.length) : ∃ b off sa sc, a = some ⟨b, off, none⟩ ∧ Q b ∧ EAt w b (off + i * 8) (l[i]) sa sc ∧ ERg (l[i]) sa sc ∧ EL w Q sa (l[i]).parts := by
  cases h with
  | nil a => simp at hi
  | row b off l sa sc hq hlt hc hr hs => exact ⟨b, off, sa i, sc i, rfl, hq, hc i hi, hr i hi, hs i hi⟩
/-- an expression that lies in memory at a place, and by value, in all later worlds -/
structure PAt2 (B : Nat) (w : World) (b0 o : Nat) (p : ET) (sa : Option Addr) (sc : Nat) : Prop where
  lt : b0 < B
  at_ : EAt w b0 o p sa sc
  ev : EB B w (.agg #[.int .i64 p.kind, .string p.op, .int .i64 p.vk, .int .i64 p.vn, .string p.vs, .string p.tab, .string p.col, .slice sa p.parts.length sc]) p
theorem PAt2.lowB {B : Nat} {w w' : World} {b0 o : Nat} {p : ET} {sa : Option Addr} {sc : Nat} (h : PAt2 B w b0 o p sa sc) (hb : Below B w w') : PAt2 B w' b0 o p sa sc :=
  ⟨h.lt, h.at_.far (hb.block b0 h.lt), h.ev.lowB hb⟩
theorem part_at {B : Nat} {w : World} {a : Option Addr} {l : List ET} (h : EL w (fun b => b < B) a l) {i : Nat} (hi : i < l.length) : ∃ b0 off sa sc, a = some ⟨b0, off, none⟩ ∧ PAt2 B w b0 (off + i * 8) (l[i]) sa sc := by
  obtain ⟨b, off, sa, sc, h1, h2, h3, h4, h5⟩ := h.at2 hi
  exact ⟨b, off, sa, sc, h1, h2, h3, sa, sc, rfl, h4, h5⟩
set_option maxHeartbeats 3200000 in
theorem wr_lit {n : Nat} {vk vn : Int} {vs : ByteArray} (h : (vk = 0 ∧ vn = 0 ∧ vs = ⟨#[]⟩) ∨ (vk = 1 ∧ 0 ≤ vn ∧ vs = ⟨#[]⟩) ∨ (vk = 2 ∧ vn = 0 ∧ vs.size ≤ 100)) (hn : vn ≤ 9223372036854775807) : WrOk (n + 1) (.mk 1 ⟨#[]⟩ vk vn vs ⟨#[]⟩ ⟨#[]⟩ []) := by
  intro B b l w v hv he hd hl
  obtain ⟨sa, sc, rfl, hrg, hel⟩ := he
  show Calls _ _ #[_, .agg #[.int .i64 1, .string ⟨#[]⟩, .int .i64 vk, .int .i64 vn, .string vs, .string ⟨#[]⟩, .string ⟨#[]⟩, .slice sa 0 sc]] w _
  have HT := Lib.hid (show prT (n + 1) (.mk 1 ⟨#[]⟩ vk vn vs ⟨#[]⟩ ⟨#[]⟩ []) = tokT (litT vk vn vs) by
    rcases h with ⟨rfl, rfl, rfl⟩ | ⟨rfl, h0, rfl⟩ | ⟨rfl, rfl, h0⟩ <;> (show textK _ = _; simp [pK, ET.kind, ET.vk, ET.vn, ET.vs, textK, litT]))
  rw [HT.out] at hl ⊢
  have HB := Lib.hid (bel0 (.cells #[.int .i64 1, .string ⟨#[]⟩, .int .i64 vk, .int .i64 vn, .string vs, .string ⟨#[]⟩, .string ⟨#[]⟩, .slice sa 0 sc] 34) (Below.refl w.heap.size w))
  have HX := Lib.hid (Go.heap_alloc_new w (.cells #[.int .i64 1, .string ⟨#[]⟩, .int .i64 vk, .int .i64 vn, .string vs, .string ⟨#[]⟩, .string ⟨#[]⟩, .slice sa 0 sc] 34 (0, 0)))
  have HD := Lib.hid hd
  have HLn := Lib.hid hl
  have HLit := Lib.hid (fun (W : World) (hW : Below B w W) (hB : B ≤ W.heap.size) => litx_any vk vn vs W h hn B (hv.below hW) hB)
  clear hrg hel hd hv hl HT h
  go_enter Tryz.func38, Tryz.ntmps38
  go_upto_region 1 with (fail)
  generalize w.alloc (.cells #[.int .i64 1, .string ⟨#[]⟩, .int .i64 vk, .int .i64 vn, .string vs, .string ⟨#[]⟩, .string ⟨#[]⟩, .slice sa 0 sc] 34) = w1 at *
  obtain ⟨c0, c1, c2, c3, c4, c5, c6, c7, -, cN⟩ := row8 HX.out
  have HBB := Lib.hid (show Below B w w1 from HB.out.mono HD.out.2)
  go_wp2_with fail
  refine (HLit.out w1 HBB.out (Nat.le_trans HD.out.2 HB.out.size)).mono ?_
  rintro e' w2 ⟨rfl, hb2⟩
  have HBw2 := Lib.hid (bt HB.out hb2)
  have HD2 := Lib.hid (HD.out.below HBw2.out)
  have HBB2 := Lib.hid (show Below B w w2 from HBw2.out.mono HD.out.2)
  clear hb2 c0 c1 c2 c3 c4 c5 c6 c7 cN
  have HS := Lib.hid (wstr_any B b l ⟨(tokT (litT vk vn vs)).toArray⟩ w2 HD2.out (by have := HLn.out; show _ + (tokT (litT vk vn vs)).toArray.size ≤ _; simp; omega))
  go_wp2_with fail
  refine HS.out.mono ?_
  rintro e' w3 ⟨rfl, hd3, hb3, hk3⟩
  have HF := Lib.hid (And.intro hd3 (And.intro (HBB2.out.trans hb3) ((Kep.of_below (b := b) HBw2.out).trans hk3)))
  clear hd3 hb3 hk3
  go_wp2
  refine bodyPost_ret (results_none rfl _ _ _) rfl ?_
  exact ⟨rfl, HF.out.1, HF.out.2.1, HF.out.2.2⟩
set_option maxHeartbeats 3200000 in
theorem wr_col {n : Nat} {t c : ByteArray} (ht : t.size ≤ 100) : WrOk (n + 1) (.mk 2 ⟨#[]⟩ 0 0 ⟨#[]⟩ t c []) := by
  intro B b l w v hv he hd hl
  obtain ⟨sa, sc, rfl, hrg, hel⟩ := he
  show Calls _ _ #[_, .agg #[.int .i64 2, .string ⟨#[]⟩, .int .i64 0, .int .i64 0, .string ⟨#[]⟩, .string t, .string c, .slice sa 0 sc]] w _
  have HT := Lib.hid (show prT (n + 1) (.mk 2 ⟨#[]⟩ 0 0 ⟨#[]⟩ t c []) = (if t.toList = [] then [] else t.data.toList ++ [46]) ++ c.data.toList by
    show textK _ = _
    by_cases h0 : t = ⟨#[]⟩
    · subst h0
      rw [if_pos (by rw [ByteArray.toList_eq])]
      simp [pK, ET.kind, ET.tab, ET.col, textK, tokT, wrW]
    · rw [if_neg (fun e => h0 (tl_eq e))]
      simp [pK, ET.kind, ET.tab, ET.col, textK, tokT, wrW, h0])
  rw [HT.out] at hl ⊢
  have HB := Lib.hid (bel0 (.cells #[.int .i64 2, .string ⟨#[]⟩, .int .i64 0, .int .i64 0, .string ⟨#[]⟩, .string t, .string c, .slice sa 0 sc] 34) (Below.refl w.heap.size w))
  have HX := Lib.hid (Go.heap_alloc_new w (.cells #[.int .i64 2, .string ⟨#[]⟩, .int .i64 0, .int .i64 0, .string ⟨#[]⟩, .string t, .string c, .slice sa 0 sc] 34 (0, 0)))
  have HD := Lib.hid hd
  have HLn := Lib.hid hl
  have HNb := Lib.hid (show w.heap.size ≠ b by have := hd.lt; omega)
  have HTs := Lib.hid ht
  clear hrg hel hd hv hl HT
  go_enter Tryz.func38, Tryz.ntmps38
  go_upto_region 1 with (fail)
  generalize w.alloc (.cells #[.int .i64 2, .string ⟨#[]⟩, .int .i64 0, .int .i64 0, .string ⟨#[]⟩, .string t, .string c, .slice sa 0 sc] 34) = w1 at *
  obtain ⟨c0, c1, c2, c3, c4, c5, c6, c7, -, cN⟩ := row8 HX.out
  have HBB := Lib.hid (show Below B w w1 from HB.out.mono HD.out.2)
  have HD1 := Lib.hid (HD.out.below HB.out)
  have HK1 := Lib.hid (Kep.of_below (b := b) HB.out)
  by_cases h0 : t.toList = []
  · have h1 : (t.toList != []) = false := by simp [h0]
    have h2 : (t.toList == []) = true := by simp [h0]
    have HLn2 := Lib.hid (show l.length + c.data.toList.length ≤ 1000000 by have := HLn.out; rw [if_pos h0] at this; simpa using this)
    have HS := Lib.hid (wstr_any B b l c w1 HD1.out (by have := HLn2.out; rw [len_list] at this; omega))
    go_wp2_with fail
    refine HS.out.mono ?_
    rintro e' w3 ⟨rfl, hd3, hb3, hk3⟩
    have HF := Lib.hid (And.intro hd3 (And.intro (HBB.out.trans hb3) (HK1.out.trans hk3)))
    clear hd3 hb3 hk3
    go_wp2
    refine bodyPost_ret (results_none rfl _ _ _) rfl ?_
    exact ⟨rfl, HF.out.1, HF.out.2.1, HF.out.2.2⟩
  · have h1 : (t.toList != []) = true := by simp [h0]
    have h2 : (t.toList == []) = false := by simp [h0]
    have h3 : ¬ (9223372036854775807 < t.size + 1) := by omega
    have HLn2 := Lib.hid (show l.length + (t.size + 1) + c.size ≤ 1000000 by have := HLn.out; rw [if_neg h0] at this; simp only [List.length_append, List.length_cons, List.length_nil, len_list] at this; omega)
    have HS1 := Lib.hid (wstr_any B b l (t ++ ⟨#[46]⟩) w1 HD1.out (by have := HLn2.out; rw [ByteArray.size_append, show (⟨#[46]⟩ : ByteArray).size = 1 from rfl]; omega))
    rw [bapp2] at HS1
    go_wp2_with fail
    refine HS1.out.mono ?_
    rintro e' w3 ⟨rfl, hd3, hb3, hk3⟩
    have HD3 := Lib.hid hd3
    have HBB3 := Lib.hid (HBB.out.trans hb3)
    have HK3 := Lib.hid (HK1.out.trans hk3)
    have HC3 := Lib.hid (box_kept hk3 HX.out HNb.out)
    clear hd3 hb3 hk3 c0 c1 c2 c3 c4 c5 c6 c7 cN
    obtain ⟨c0, c1, c2, c3, c4, c5, c6, c7, -, cN⟩ := row8 HC3.out
    have HS2 := Lib.hid (wstr_any B b _ c w3 HD3.out (by have := HLn2.out; simp only [List.length_append, len_list]; show _ + (_ + 1) + _ ≤ _; omega))
    go_wp2_with fail
    refine HS2.out.mono ?_
    rintro e' w4 ⟨rfl, hd4, hb4, hk4⟩
    have HF := Lib.hid (And.intro hd4 (And.intro (HBB3.out.trans hb4) (HK3.out.trans hk4)))
    clear hd4 hb4 hk4
    go_wp2
    refine bodyPost_ret (results_none rfl _ _ _) rfl ?_
    exact ⟨rfl, HF.out.1.eq (by simp), HF.out.2.1, HF.out.2.2⟩
end Go.Proofs.YtpinalpigefenaaGreatDoor
set_option linter.unusedVariables false
set_option linter.unusedSimpArgs false
set_option maxRecDepth 100000
namespace Go.Proofs.YtpinalpigefenaaGreatDoor
open Go.RowKit
/-- a part's cells -/
theorem PAt2.cells {B : Nat} {w : World} {b0 o : Nat} {p : ET} {sa : Option Addr} {sc : Nat} (h : PAt2 B w b0 o p sa sc) : w.cell? ⟨b0, o, none⟩ = some (.int .i64 p.kind) ∧ w.cell? ⟨b0, o + 1, none⟩ = some (.string p.op) ∧ w.cell? ⟨b0, o + 2, none⟩ = some (.int .i64 p.vk) ∧ w.cell? ⟨b0, o + 3, none⟩ = some (.int .i64 p.vn) ∧ w.cell? ⟨b0, o + 4, none⟩ = some (.string p.vs) ∧ w.cell? ⟨b0, o + 5, none⟩ = some (.string p.tab) ∧ w.cell? ⟨b0, o + 6, none⟩ = some (.string p.col) ∧ w.cell? ⟨b0, o + 7, none⟩ = some (.slice sa p.parts.length sc) :=
  ⟨h.at_.c0, h.at_.c1, h.at_.c2, h.at_.c3, h.at_.c4, h.at_.c5, h.at_.c6, h.at_.c7⟩
theorem PAt2.low {B : Nat} {w : World} {b0 o : Nat} {p : ET} {sa : Option Addr} {sc : Nat} (h : PAt2 B w b0 o p sa sc) : b0 < w.heap.size := World.block_lt_of_cell? w _ h.at_.c0
set_option maxHeartbeats 3200000 in
theorem wun_not {n : Nat} {p : ET} (hP : PaOk n p) (B b : Nat) (l : Bs) (w : World) (b0 off sc : Nat) (pa : Option Addr) (pc : Nat) (hv : VB B w) (hp : PAt2 B w b0 off p pa pc) (hd : Bd B b l w) (hl : l.length + 4 + (paT n p 3).length ≤ 1000000) :
    Calls Tryz.prog 87 #[.pointer (some ⟨b, 0, none⟩), .agg #[.int .i64 3, .string ⟨#[78, 79, 84]⟩, .int .i64 0, .int .i64 0, .string ⟨#[]⟩, .string ⟨#[]⟩, .string ⟨#[]⟩, .slice (some ⟨b0, off, none⟩) 1 sc]] w (WrP B b (l ++ [78, 79, 84, 32] ++ paT n p 3) w) := by
  have HB := Lib.hid (bel0 (.cells #[.int .i64 3, .string ⟨#[78, 79, 84]⟩, .int .i64 0, .int .i64 0, .string ⟨#[]⟩, .string ⟨#[]⟩, .string ⟨#[]⟩, .slice (some ⟨b0, off, none⟩) 1 sc] 34) (Below.refl w.heap.size w))
  have HX := Lib.hid (Go.heap_alloc_new w (.cells #[.int .i64 3, .string ⟨#[78, 79, 84]⟩, .int .i64 0, .int .i64 0, .string ⟨#[]⟩, .string ⟨#[]⟩, .string ⟨#[]⟩, .slice (some ⟨b0, off, none⟩) 1 sc] 34 (0, 0)))
  have HD := Lib.hid hd
  have HNb := Lib.hid (show w.heap.size ≠ b by have := hd.lt; omega)
  have HP := Lib.hid (fun (W : World) (hW : Below B w W) => hp.lowB hW)
  have HLn := Lib.hid hl
  have HPa := Lib.hid (fun (W : World) (hW : Below B w W) (l2 : Bs) (hd2 : Bd B b l2 W) hl2 => hP 3 B b l2 W _ (hv.below hW) (hp.lowB hW).ev hd2 hl2)
  clear hd hv hp hl
  go_enter Tryz.func87, Tryz.ntmps87
  go_upto_region 1 with (fail)
  generalize w.alloc (.cells #[.int .i64 3, .string ⟨#[78, 79, 84]⟩, .int .i64 0, .int .i64 0, .string ⟨#[]⟩, .string ⟨#[]⟩, .string ⟨#[]⟩, .slice (some ⟨b0, off, none⟩) 1 sc] 34) = w1 at *
  obtain ⟨c0, c1, c2, c3, c4, c5, c6, c7, -, cN⟩ := row8 HX.out
  have HBB := Lib.hid (show Below B w w1 from HB.out.mono HD.out.2)
  have HD1 := Lib.hid (HD.out.below HB.out)
  have HK1 := Lib.hid (Kep.of_below (b := b) HB.out)
  have HS := Lib.hid (wstr_any B b l ⟨#[78, 79, 84, 32]⟩ w1 HD1.out (by have := HLn.out; show _ + 4 ≤ _; omega))
  have ht1 : ((⟨#[78, 79, 84]⟩ : ByteArray).toList == [78, 79, 84]) = true := by rw [ByteArray.toList_eq]; decide
  go_wp2_with fail
  refine HS.out.mono ?_
  rintro e' w3 ⟨rfl, hd3, hb3, hk3⟩
  have HD3 := Lib.hid hd3
  have HBB3 := Lib.hid (HBB.out.trans hb3)
  have HK3 := Lib.hid (HK1.out.trans hk3)
  have HC3 := Lib.hid (box_kept hk3 HX.out HNb.out)
  clear hd3 hb3 hk3 c0 c1 c2 c3 c4 c5 c6 c7 cN
  obtain ⟨-, -, -, -, -, -, -, c7, -, cN⟩ := row8 HC3.out
  obtain ⟨g0, g1, g2, g3, g4, g5, g6, g7⟩ := (HP.out w3 HBB3.out).cells
  have gN := (HP.out w3 HBB3.out).low
  have HCa := Lib.hid (HPa.out w3 HBB3.out _ HD3.out (by have := HLn.out; simp only [List.length_append]; show _ + 4 + _ ≤ _; omega))
  go_wp2_with fail
  refine HCa.out.mono ?_
  rintro e' w4 ⟨rfl, hd4, hb4, hk4⟩
  have HF := Lib.hid (And.intro hd4 (And.intro (HBB3.out.trans hb4) (HK3.out.trans hk4)))
  clear hd4 hb4 hk4
  go_wp2
  refine bodyPost_ret (results_none rfl _ _ _) rfl ?_
  exact ⟨rfl, HF.out.1, HF.out.2.1, HF.out.2.2⟩

set_option maxHeartbeats 3200000 in
theorem wun_neg {n : Nat} {p : ET} (hP : PaOk n p) (B b : Nat) (l : Bs) (w : World) (b0 off sc : Nat) (pa : Option Addr) (pc : Nat) (hv : VB B w) (hp : PAt2 B w b0 off p pa pc) (hd : Bd B b l w) (hl : l.length + 1 + (paT n p 8).length ≤ 1000000) :
    Calls Tryz.prog 87 #[.pointer (some ⟨b, 0, none⟩), .agg #[.int .i64 3, .string ⟨#[45]⟩, .int .i64 0, .int .i64 0, .string ⟨#[]⟩, .string ⟨#[]⟩, .string ⟨#[]⟩, .slice (some ⟨b0, off, none⟩) 1 sc]] w (WrP B b (l ++ [45] ++ paT n p 8) w) := by
  have HB := Lib.hid (bel0 (.cells #[.int .i64 3, .string ⟨#[45]⟩, .int .i64 0, .int .i64 0, .string ⟨#[]⟩, .string ⟨#[]⟩, .string ⟨#[]⟩, .slice (some ⟨b0, off, none⟩) 1 sc] 34) (Below.refl w.heap.size w))
  have HX := Lib.hid (Go.heap_alloc_new w (.cells #[.int .i64 3, .string ⟨#[45]⟩, .int .i64 0, .int .i64 0, .string ⟨#[]⟩, .string ⟨#[]⟩, .string ⟨#[]⟩, .slice (some ⟨b0, off, none⟩) 1 sc] 34 (0, 0)))
  have HD := Lib.hid hd
  have HNb := Lib.hid (show w.heap.size ≠ b by have := hd.lt; omega)
  have HP := Lib.hid (fun (W : World) (hW : Below B w W) => hp.lowB hW)
  have HLn := Lib.hid hl
  have HPa := Lib.hid (fun (W : World) (hW : Below B w W) (l2 : Bs) (hd2 : Bd B b l2 W) hl2 => hP 8 B b l2 W _ (hv.below hW) (hp.lowB hW).ev hd2 hl2)
  clear hd hv hp hl
  go_enter Tryz.func87, Tryz.ntmps87
  go_upto_region 1 with (fail)
  generalize w.alloc (.cells #[.int .i64 3, .string ⟨#[45]⟩, .int .i64 0, .int .i64 0, .string ⟨#[]⟩, .string ⟨#[]⟩, .string ⟨#[]⟩, .slice (some ⟨b0, off, none⟩) 1 sc] 34) = w1 at *
  obtain ⟨c0, c1, c2, c3, c4, c5, c6, c7, -, cN⟩ := row8 HX.out
  have HBB := Lib.hid (show Below B w w1 from HB.out.mono HD.out.2)
  have HD1 := Lib.hid (HD.out.below HB.out)
  have HK1 := Lib.hid (Kep.of_below (b := b) HB.out)
  have HS := Lib.hid (wstr_any B b l ⟨#[45]⟩ w1 HD1.out (by have := HLn.out; show _ + 1 ≤ _; omega))
  have ht1 : ((⟨#[45]⟩ : ByteArray).toList == [78, 79, 84]) = false := by rw [ByteArray.toList_eq]; decide
  go_wp2_with fail
  refine HS.out.mono ?_
  rintro e' w3 ⟨rfl, hd3, hb3, hk3⟩
  have HD3 := Lib.hid hd3
  have HBB3 := Lib.hid (HBB.out.trans hb3)
  have HK3 := Lib.hid (HK1.out.trans hk3)
  have HC3 := Lib.hid (box_kept hk3 HX.out HNb.out)
  clear hd3 hb3 hk3 c0 c1 c2 c3 c4 c5 c6 c7 cN
  obtain ⟨-, -, -, -, -, -, -, c7, -, cN⟩ := row8 HC3.out
  obtain ⟨g0, g1, g2, g3, g4, g5, g6, g7⟩ := (HP.out w3 HBB3.out).cells
  have gN := (HP.out w3 HBB3.out).low
  have HCa := Lib.hid (HPa.out w3 HBB3.out _ HD3.out (by have := HLn.out; simp only [List.length_append]; show _ + 1 + _ ≤ _; omega))
  go_wp2_with fail
  refine HCa.out.mono ?_
  rintro e' w4 ⟨rfl, hd4, hb4, hk4⟩
  have HF := Lib.hid (And.intro hd4 (And.intro (HBB3.out.trans hb4) (HK3.out.trans hk4)))
  clear hd4 hb4 hk4
  go_wp2
  refine bodyPost_ret (results_none rfl _ _ _) rfl ?_
  exact ⟨rfl, HF.out.1, HF.out.2.1, HF.out.2.2⟩
end Go.Proofs.YtpinalpigefenaaGreatDoor
