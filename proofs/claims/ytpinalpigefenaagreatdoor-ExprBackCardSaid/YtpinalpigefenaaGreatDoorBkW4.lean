/- expr.write of any formed expression; expr.Print. -/
import Derived.Test.YtpinalpigefenaaGreatDoorTkPop
import Derived.Test.YtpinalpigefenaaGreatDoorTkRel
set_option linter.unusedVariables false
set_option linter.unusedSimpArgs false
set_option maxRecDepth 100000
namespace Go.Proofs.YtpinalpigefenaaGreatDoor
open Go.RowKit
set_option maxHeartbeats 6400000 in
theorem wr_not {n : Nat} {p : ET} (hP : PaOk n p) : WrOk (n + 1) (.mk 3 (bs [78, 79, 84]) 0 0 ⟨#[]⟩ ⟨#[]⟩ ⟨#[]⟩ [p]) := by
  intro B b l w v hv he hd hl
  obtain ⟨sa, sc, rfl, hrg, hel⟩ := he
  obtain ⟨b0, off, pa, pc, hsa, hp⟩ := part_at hel (i := 0) (Nat.zero_lt_succ _)
  replace hsa : sa = some ⟨b0, off + 0 * 8 - 0 * 8, none⟩ := hsa
  obtain rfl : sa = some ⟨b0, off, none⟩ := hsa
  replace hp : PAt2 B w b0 off p pa pc := by have h := hp; rw [Nat.zero_mul, Nat.add_zero] at h; exact h
  show Calls _ _ #[_, .agg #[.int .i64 3, .string ⟨#[78, 79, 84]⟩, .int .i64 0, .int .i64 0, .string ⟨#[]⟩, .string ⟨#[]⟩, .string ⟨#[]⟩, .slice (some ⟨b0, off, none⟩) 1 sc]] w _
  have HT := Lib.hid (show prT (n + 1) (.mk 3 (bs [78, 79, 84]) 0 0 ⟨#[]⟩ ⟨#[]⟩ ⟨#[]⟩ [p]) = [78, 79, 84, 32] ++ paT n p 3 from by
    have :  bs [78, 79, 84] = bs [78, 79, 84] := by decide
    show textK _ = _
    simp [pK, ET.kind, ET.parts, ET.op, this, textK_cons, tokT, wrW, paT])
  rw [HT.out] at hl ⊢
  have HB := Lib.hid (bel0 (.cells #[.int .i64 3, .string ⟨#[78, 79, 84]⟩, .int .i64 0, .int .i64 0, .string ⟨#[]⟩, .string ⟨#[]⟩, .string ⟨#[]⟩, .slice (some ⟨b0, off, none⟩) 1 sc] 34) (Below.refl w.heap.size w))
  have HX := Lib.hid (Go.heap_alloc_new w (.cells #[.int .i64 3, .string ⟨#[78, 79, 84]⟩, .int .i64 0, .int .i64 0, .string ⟨#[]⟩, .string ⟨#[]⟩, .string ⟨#[]⟩, .slice (some ⟨b0, off, none⟩) 1 sc] 34 (0, 0)))
  have HD := Lib.hid hd
  have HLn := Lib.hid hl
  have HNb := Lib.hid (show w.heap.size ≠ b by have := hd.lt; omega)
  have HBB := Lib.hid (show Below B w (w.alloc (.cells #[.int .i64 3, .string ⟨#[78, 79, 84]⟩, .int .i64 0, .int .i64 0, .string ⟨#[]⟩, .string ⟨#[]⟩, .string ⟨#[]⟩, .slice (some ⟨b0, off, none⟩) 1 sc] 34)) from HB.out.mono hd.2)
  have HD1 := Lib.hid (hd.below HB.out)
  have HK1 := Lib.hid (Kep.of_below (b := b) HB.out)
  have HCa := Lib.hid (wun_not hP B b l _ b0 off sc pa pc (hv.below HBB.out) (hp.lowB HBB.out) HD1.out (by simp only [List.length_append, List.length_cons, List.length_nil] at hl; omega))
  clear hp hP
  clear hrg hel hd hv hl HT
  go_enter Tryz.func38, Tryz.ntmps38
  go_upto_region 1 with (fail)
  generalize w.alloc (.cells #[.int .i64 3, .string ⟨#[78, 79, 84]⟩, .int .i64 0, .int .i64 0, .string ⟨#[]⟩, .string ⟨#[]⟩, .string ⟨#[]⟩, .slice (some ⟨b0, off, none⟩) 1 sc] 34) = w1 at *
  obtain ⟨c0, c1, c2, c3, c4, c5, c6, c7, -, cN⟩ := row8 HX.out
  go_wp2_with fail
  refine HCa.out.mono ?_
  rintro e' w2 ⟨rfl, hd2, hb2, hk2⟩
  have HF := Lib.hid (And.intro hd2 (And.intro (HBB.out.trans hb2) (HK1.out.trans hk2)))
  clear hd2 hb2 hk2
  go_wp2
  refine bodyPost_ret (results_none rfl _ _ _) rfl ?_
  exact ⟨rfl, HF.out.1.eq (by simp), HF.out.2.1, HF.out.2.2⟩
set_option maxHeartbeats 6400000 in
theorem wr_neg {n : Nat} {p : ET} (hP : PaOk n p) : WrOk (n + 1) (.mk 3 (bs [45]) 0 0 ⟨#[]⟩ ⟨#[]⟩ ⟨#[]⟩ [p]) := by
  intro B b l w v hv he hd hl
  obtain ⟨sa, sc, rfl, hrg, hel⟩ := he
  obtain ⟨b0, off, pa, pc, hsa, hp⟩ := part_at hel (i := 0) (Nat.zero_lt_succ _)
  replace hsa : sa = some ⟨b0, off + 0 * 8 - 0 * 8, none⟩ := hsa
  obtain rfl : sa = some ⟨b0, off, none⟩ := hsa
  replace hp : PAt2 B w b0 off p pa pc := by have h := hp; rw [Nat.zero_mul, Nat.add_zero] at h; exact h
  show Calls _ _ #[_, .agg #[.int .i64 3, .string ⟨#[45]⟩, .int .i64 0, .int .i64 0, .string ⟨#[]⟩, .string ⟨#[]⟩, .string ⟨#[]⟩, .slice (some ⟨b0, off, none⟩) 1 sc]] w _
  have HT := Lib.hid (show prT (n + 1) (.mk 3 (bs [45]) 0 0 ⟨#[]⟩ ⟨#[]⟩ ⟨#[]⟩ [p]) = [45] ++ paT n p 8 from by
    have : ¬ bs [45] = bs [78, 79, 84] := by decide
    show textK _ = _
    simp [pK, ET.kind, ET.parts, ET.op, this, textK_cons, tokT, wrW, paT])
  rw [HT.out] at hl ⊢
  have HB := Lib.hid (bel0 (.cells #[.int .i64 3, .string ⟨#[45]⟩, .int .i64 0, .int .i64 0, .string ⟨#[]⟩, .string ⟨#[]⟩, .string ⟨#[]⟩, .slice (some ⟨b0, off, none⟩) 1 sc] 34) (Below.refl w.heap.size w))
  have HX := Lib.hid (Go.heap_alloc_new w (.cells #[.int .i64 3, .string ⟨#[45]⟩, .int .i64 0, .int .i64 0, .string ⟨#[]⟩, .string ⟨#[]⟩, .string ⟨#[]⟩, .slice (some ⟨b0, off, none⟩) 1 sc] 34 (0, 0)))
  have HD := Lib.hid hd
  have HLn := Lib.hid hl
  have HNb := Lib.hid (show w.heap.size ≠ b by have := hd.lt; omega)
  have HBB := Lib.hid (show Below B w (w.alloc (.cells #[.int .i64 3, .string ⟨#[45]⟩, .int .i64 0, .int .i64 0, .string ⟨#[]⟩, .string ⟨#[]⟩, .string ⟨#[]⟩, .slice (some ⟨b0, off, none⟩) 1 sc] 34)) from HB.out.mono hd.2)
  have HD1 := Lib.hid (hd.below HB.out)
  have HK1 := Lib.hid (Kep.of_below (b := b) HB.out)
  have HCa := Lib.hid (wun_neg hP B b l _ b0 off sc pa pc (hv.below HBB.out) (hp.lowB HBB.out) HD1.out (by simp only [List.length_append, List.length_cons, List.length_nil] at hl; omega))
  clear hp hP
  clear hrg hel hd hv hl HT
  go_enter Tryz.func38, Tryz.ntmps38
  go_upto_region 1 with (fail)
  generalize w.alloc (.cells #[.int .i64 3, .string ⟨#[45]⟩, .int .i64 0, .int .i64 0, .string ⟨#[]⟩, .string ⟨#[]⟩, .string ⟨#[]⟩, .slice (some ⟨b0, off, none⟩) 1 sc] 34) = w1 at *
  obtain ⟨c0, c1, c2, c3, c4, c5, c6, c7, -, cN⟩ := row8 HX.out
  go_wp2_with fail
  refine HCa.out.mono ?_
  rintro e' w2 ⟨rfl, hd2, hb2, hk2⟩
  have HF := Lib.hid (And.intro hd2 (And.intro (HBB.out.trans hb2) (HK1.out.trans hk2)))
  clear hd2 hb2 hk2
  go_wp2
  refine bodyPost_ret (results_none rfl _ _ _) rfl ?_
  exact ⟨rfl, HF.out.1.eq (by simp), HF.out.2.1, HF.out.2.2⟩
set_option maxHeartbeats 6400000 in
theorem wr_agg {n : Nat} {op : ByteArray} {p : ET} (ho : op.size ≤ 100) (hW : WrOk n p) : WrOk (n + 1) (.mk 6 op 0 0 ⟨#[]⟩ ⟨#[]⟩ ⟨#[]⟩ [p]) := by
  intro B b l w v hv he hd hl
  obtain ⟨sa, sc, rfl, hrg, hel⟩ := he
  obtain ⟨b0, off, pa, pc, hsa, hp⟩ := part_at hel (i := 0) (Nat.zero_lt_succ _)
  replace hsa : sa = some ⟨b0, off + 0 * 8 - 0 * 8, none⟩ := hsa
  obtain rfl : sa = some ⟨b0, off, none⟩ := hsa
  replace hp : PAt2 B w b0 off p pa pc := by have h := hp; rw [Nat.zero_mul, Nat.add_zero] at h; exact h
  show Calls _ _ #[_, .agg #[.int .i64 6, .string op, .int .i64 0, .int .i64 0, .string ⟨#[]⟩, .string ⟨#[]⟩, .string ⟨#[]⟩, .slice (some ⟨b0, off, none⟩) 1 sc]] w _
  have HT := Lib.hid (show prT (n + 1) (.mk 6 op 0 0 ⟨#[]⟩ ⟨#[]⟩ ⟨#[]⟩ [p]) = op.data.toList ++ [40] ++ prT n p ++ [41] from by
    show textK _ = _
    simp [pK, ET.kind, ET.parts, ET.op, textK_cons, textK_app, tokT, wrW, prT]
    rfl)
  rw [HT.out] at hl ⊢
  have HB := Lib.hid (bel0 (.cells #[.int .i64 6, .string op, .int .i64 0, .int .i64 0, .string ⟨#[]⟩, .string ⟨#[]⟩, .string ⟨#[]⟩, .slice (some ⟨b0, off, none⟩) 1 sc] 34) (Below.refl w.heap.size w))
  have HX := Lib.hid (Go.heap_alloc_new w (.cells #[.int .i64 6, .string op, .int .i64 0, .int .i64 0, .string ⟨#[]⟩, .string ⟨#[]⟩, .string ⟨#[]⟩, .slice (some ⟨b0, off, none⟩) 1 sc] 34 (0, 0)))
  have HD := Lib.hid hd
  have HLn := Lib.hid hl
  have HNb := Lib.hid (show w.heap.size ≠ b by have := hd.lt; omega)
  have HBB := Lib.hid (show Below B w (w.alloc (.cells #[.int .i64 6, .string op, .int .i64 0, .int .i64 0, .string ⟨#[]⟩, .string ⟨#[]⟩, .string ⟨#[]⟩, .slice (some ⟨b0, off, none⟩) 1 sc] 34)) from HB.out.mono hd.2)
  have HD1 := Lib.hid (hd.below HB.out)
  have HK1 := Lib.hid (Kep.of_below (b := b) HB.out)
  have HCa := Lib.hid (wag_one ho hW B b l _ b0 off sc pa pc (hv.below HBB.out) (hp.lowB HBB.out) HD1.out (by simp only [List.length_append, List.length_cons, List.length_nil, len_list] at hl; omega))
  clear hp hW
  clear hrg hel hd hv hl HT
  go_enter Tryz.func38, Tryz.ntmps38
  go_upto_region 1 with (fail)
  generalize w.alloc (.cells #[.int .i64 6, .string op, .int .i64 0, .int .i64 0, .string ⟨#[]⟩, .string ⟨#[]⟩, .string ⟨#[]⟩, .slice (some ⟨b0, off, none⟩) 1 sc] 34) = w1 at *
  obtain ⟨c0, c1, c2, c3, c4, c5, c6, c7, -, cN⟩ := row8 HX.out
  go_wp2_with fail
  refine HCa.out.mono ?_
  rintro e' w2 ⟨rfl, hd2, hb2, hk2⟩
  have HF := Lib.hid (And.intro hd2 (And.intro (HBB.out.trans hb2) (HK1.out.trans hk2)))
  clear hd2 hb2 hk2
  go_wp2
  refine bodyPost_ret (results_none rfl _ _ _) rfl ?_
  exact ⟨rfl, HF.out.1.eq (by simp), HF.out.2.1, HF.out.2.2⟩
set_option maxHeartbeats 6400000 in
theorem wr_cnt {n : Nat} : WrOk (n + 1) (.mk 6 (bs [67, 79, 85, 78, 84]) 0 0 ⟨#[]⟩ ⟨#[]⟩ ⟨#[]⟩ []) := by
  intro B b l w v hv he hd hl
  obtain ⟨sa, sc, rfl, hrg, hel⟩ := he
  show Calls _ _ #[_, .agg #[.int .i64 6, .string ⟨#[67, 79, 85, 78, 84]⟩, .int .i64 0, .int .i64 0, .string ⟨#[]⟩, .string ⟨#[]⟩, .string ⟨#[]⟩, .slice sa 0 sc]] w _
  have HT := Lib.hid (show prT (n + 1) (.mk 6 (bs [67, 79, 85, 78, 84]) 0 0 ⟨#[]⟩ ⟨#[]⟩ ⟨#[]⟩ []) = [67, 79, 85, 78, 84, 40, 42, 41] from by
    rfl)
  rw [HT.out] at hl ⊢
  have HB := Lib.hid (bel0 (.cells #[.int .i64 6, .string ⟨#[67, 79, 85, 78, 84]⟩, .int .i64 0, .int .i64 0, .string ⟨#[]⟩, .string ⟨#[]⟩, .string ⟨#[]⟩, .slice sa 0 sc] 34) (Below.refl w.heap.size w))
  have HX := Lib.hid (Go.heap_alloc_new w (.cells #[.int .i64 6, .string ⟨#[67, 79, 85, 78, 84]⟩, .int .i64 0, .int .i64 0, .string ⟨#[]⟩, .string ⟨#[]⟩, .string ⟨#[]⟩, .slice sa 0 sc] 34 (0, 0)))
  have HD := Lib.hid hd
  have HLn := Lib.hid hl
  have HNb := Lib.hid (show w.heap.size ≠ b by have := hd.lt; omega)
  have HBB := Lib.hid (show Below B w (w.alloc (.cells #[.int .i64 6, .string ⟨#[67, 79, 85, 78, 84]⟩, .int .i64 0, .int .i64 0, .string ⟨#[]⟩, .string ⟨#[]⟩, .string ⟨#[]⟩, .slice sa 0 sc] 34)) from HB.out.mono hd.2)
  have HD1 := Lib.hid (hd.below HB.out)
  have HK1 := Lib.hid (Kep.of_below (b := b) HB.out)
  have HCa := Lib.hid (wag_cnt B b l _ sa sc HD1.out (by simp only [List.length_cons, List.length_nil] at hl; omega))
  clear hrg hel hd hv hl HT
  go_enter Tryz.func38, Tryz.ntmps38
  go_upto_region 1 with (fail)
  generalize w.alloc (.cells #[.int .i64 6, .string ⟨#[67, 79, 85, 78, 84]⟩, .int .i64 0, .int .i64 0, .string ⟨#[]⟩, .string ⟨#[]⟩, .string ⟨#[]⟩, .slice sa 0 sc] 34) = w1 at *
  obtain ⟨c0, c1, c2, c3, c4, c5, c6, c7, -, cN⟩ := row8 HX.out
  go_wp2_with fail
  refine HCa.out.mono ?_
  rintro e' w2 ⟨rfl, hd2, hb2, hk2⟩
  have HF := Lib.hid (And.intro hd2 (And.intro (HBB.out.trans hb2) (HK1.out.trans hk2)))
  clear hd2 hb2 hk2
  go_wp2
  refine bodyPost_ret (results_none rfl _ _ _) rfl ?_
  exact ⟨rfl, HF.out.1.eq (by simp), HF.out.2.1, HF.out.2.2⟩
end Go.Proofs.YtpinalpigefenaaGreatDoor
