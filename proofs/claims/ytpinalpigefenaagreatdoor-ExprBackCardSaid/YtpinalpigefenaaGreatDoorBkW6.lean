/- expr.write of a binary operator; of any formed expression; expr.Print. -/
import Derived.Test.YtpinalpigefenaaGreatDoorBkW4
set_option linter.unusedVariables false
set_option linter.unusedSimpArgs false
set_option maxRecDepth 100000
namespace Go.Proofs.YtpinalpigefenaaGreatDoor
open Go.RowKit
set_option maxHeartbeats 6400000 in
theorem wr_tst {n : Nat} {op : ByteArray} {p : ET} (ho : op = bs [73, 83, 32, 78, 85, 76, 76] ∨ op = bs [73, 83, 32, 78, 79, 84, 32, 78, 85, 76, 76]) (hP : PaOk n p) : WrOk (n + 1) (.mk 5 op 0 0 ⟨#[]⟩ ⟨#[]⟩ ⟨#[]⟩ [p]) := by
  intro B b l w v hv he hd hl
  obtain ⟨sa, sc, rfl, hrg, hel⟩ := he
  obtain ⟨b0, off, pa, pc, hsa, hp⟩ := part_at hel (i := 0) (Nat.zero_lt_succ _)
  replace hsa : sa = some ⟨b0, off + 0 * 8 - 0 * 8, none⟩ := hsa
  obtain rfl : sa = some ⟨b0, off, none⟩ := hsa
  replace hp : PAt2 B w b0 off p pa pc := by have h := hp; rw [Nat.zero_mul, Nat.add_zero] at h; exact h
  show Calls _ _ #[_, .agg #[.int .i64 5, .string op, .int .i64 0, .int .i64 0, .string ⟨#[]⟩, .string ⟨#[]⟩, .string ⟨#[]⟩, .slice (some ⟨b0, off, none⟩) 1 sc]] w _
  have HT := Lib.hid (show prT (n + 1) (.mk 5 op 0 0 ⟨#[]⟩ ⟨#[]⟩ ⟨#[]⟩ [p]) = paT n p 5 ++ 32 :: op.data.toList from by
    show textK _ = _
    rcases ho with rfl | rfl
    · simp [pK, ET.kind, ET.parts, ET.op, textK_cons, textK_app, tokT, wrW, paT]
      rfl
    · have : ¬ bs [73, 83, 32, 78, 79, 84, 32, 78, 85, 76, 76] = bs [73, 83, 32, 78, 85, 76, 76] := by decide
      simp [pK, ET.kind, ET.parts, ET.op, textK_cons, textK_app, tokT, wrW, paT, this]
      rfl)
  rw [HT.out] at hl ⊢
  have HB := Lib.hid (bel0 (.cells #[.int .i64 5, .string op, .int .i64 0, .int .i64 0, .string ⟨#[]⟩, .string ⟨#[]⟩, .string ⟨#[]⟩, .slice (some ⟨b0, off, none⟩) 1 sc] 34) (Below.refl w.heap.size w))
  have HX := Lib.hid (Go.heap_alloc_new w (.cells #[.int .i64 5, .string op, .int .i64 0, .int .i64 0, .string ⟨#[]⟩, .string ⟨#[]⟩, .string ⟨#[]⟩, .slice (some ⟨b0, off, none⟩) 1 sc] 34 (0, 0)))
  have HD := Lib.hid hd
  have HLn := Lib.hid hl
  have HNb := Lib.hid (show w.heap.size ≠ b by have := hd.lt; omega)
  have HBB := Lib.hid (show Below B w (w.alloc (.cells #[.int .i64 5, .string op, .int .i64 0, .int .i64 0, .string ⟨#[]⟩, .string ⟨#[]⟩, .string ⟨#[]⟩, .slice (some ⟨b0, off, none⟩) 1 sc] 34)) from HB.out.mono hd.2)
  have HD1 := Lib.hid (hd.below HB.out)
  have HK1 := Lib.hid (Kep.of_below (b := b) HB.out)
  have HPx := Lib.hid (hp.lowB HBB.out)
  have HCa := Lib.hid (fun (W : World) (hW : Below B w W) (hD : Bd B b l W) => hP 5 B b l W _ (hv.below hW) (hp.lowB hW).ev hD (by simp only [List.length_append, List.length_cons] at hl; omega))
  have HLl := Lib.hid (fun W => leftLev_any 4 W)
  have HOs := Lib.hid (show op.size ≤ 11 by rcases ho with rfl | rfl <;> decide)
  clear hp hP ho
  clear hrg hel hd hv hl HT
  go_enter Tryz.func38, Tryz.ntmps38
  go_upto_region 1 with (fail)
  generalize w.alloc (.cells #[.int .i64 5, .string op, .int .i64 0, .int .i64 0, .string ⟨#[]⟩, .string ⟨#[]⟩, .string ⟨#[]⟩, .slice (some ⟨b0, off, none⟩) 1 sc] 34) = w1 at *
  obtain ⟨c0, c1, c2, c3, c4, c5, c6, c7, -, cN⟩ := row8 HX.out
  go_upto_region 16 with (fail)
  have f0 := Fut.cell c7
  obtain ⟨g0, g1, g2, g3, g4, g5, g6, g7⟩ := HPx.out.cells
  have k0 := Fut.cell g0
  have k1 := Fut.cell g1
  have k2 := Fut.cell g2
  have k3 := Fut.cell g3
  have k4 := Fut.cell g4
  have k5 := Fut.cell g5
  have k6 := Fut.cell g6
  have k7 := Fut.cell g7
  clear g0 g1 g2 g3 g4 g5 g6 g7
  clear c0 c1 c2 c3 c4 c5 c6 c7 cN
  refine wp_region_fut_tail 6 (by kernel_rfl) (by kernel_rfl) ?_
  simp only [List.take_succ_cons, List.take_zero, List.drop_succ_cons, List.drop_zero]
  repeat (go_big_quiet_step (first | (go_at_call 90; exact calls_fut ((HLl.out _).mono (fun _ _ h => ⟨h.1, by rw [h.2]; exact Below.refl _ _⟩)))))
  refine wpQuiet_nil ?_
  intro s
  have HBs := Lib.hid s.bel
  generalize s.to = w2 at *
  clear s f0 k0 k1 k2 k3 k4 k5 k6 k7
  have HBB2 := Lib.hid (HBB.out.trans (HBs.out.mono (Nat.le_trans HD.out.2 HB.out.size)))
  have HD2 := Lib.hid (HD1.out.below HBs.out)
  have HK2 := Lib.hid (HK1.out.trans (Kep.of_below (b := b) HBs.out))
  have HC2 := Lib.hid ((HBs.out.block _ (Array.getElem?_eq_some_iff.1 HX.out).1).trans HX.out)
  go_wp2_with fail
  refine (HCa.out w2 HBB2.out HD2.out).mono ?_
  rintro e' w3 ⟨rfl, hd3, hb3, hk3⟩
  have HD3 := Lib.hid hd3
  have HBB3 := Lib.hid (HBB2.out.trans hb3)
  have HK3 := Lib.hid (HK2.out.trans hk3)
  have HC3 := Lib.hid (box_kept hk3 HC2.out HNb.out)
  clear hd3 hb3 hk3
  obtain ⟨-, c1, -, -, -, -, -, -, -, cN⟩ := row8 HC3.out
  have h3 : ¬ (9223372036854775807 < 1 + op.size) := by have := HOs.out; omega
  have HS := Lib.hid (wstr_any B b _ (⟨#[32]⟩ ++ op) w3 HD3.out (by have := HLn.out; simp only [List.length_append, List.length_cons, len_list] at this ⊢; rw [ByteArray.size_append, show (⟨#[32]⟩ : ByteArray).size = 1 from rfl]; omega))
  rw [bapp2] at HS
  go_wp2_with fail
  refine HS.out.mono ?_
  rintro e' w4 ⟨rfl, hd4, hb4, hk4⟩
  have HF := Lib.hid (And.intro hd4 (And.intro (HBB3.out.trans hb4) (HK3.out.trans hk4)))
  clear hd4 hb4 hk4
  go_wp2
  refine bodyPost_ret (results_none rfl _ _ _) rfl ?_
  exact ⟨rfl, HF.out.1.eq (by simp), HF.out.2.1, HF.out.2.2⟩
end Go.Proofs.YtpinalpigefenaaGreatDoor
set_option linter.unusedVariables false
set_option linter.unusedSimpArgs false
set_option maxRecDepth 100000
namespace Go.Proofs.YtpinalpigefenaaGreatDoor
open Go.RowKit
theorem op_len {t : Bs} (h : levB t ≠ 0) : t.length ≤ 3 := by
  unfold levB at h
  by_cases h1 : t = [79, 82]
  · rw [h1]; decide
  rw [if_neg h1] at h
  by_cases h2 : t = [65, 78, 68]
  · rw [h2]; decide
  rw [if_neg h2] at h
  by_cases h4 : t = [61] ∨ t = [60, 62] ∨ t = [60] ∨ t = [60, 61] ∨ t = [62] ∨ t = [62, 61]
  · rcases h4 with rfl | rfl | rfl | rfl | rfl | rfl <;> decide
  rw [if_neg h4] at h
  by_cases h5 : t = [43] ∨ t = [45]
  · rcases h5 with rfl | rfl <;> decide
  rw [if_neg h5] at h
  by_cases h6 : t = [42]
  · rw [h6]; decide
  · rw [if_neg h6] at h; exact absurd rfl h
set_option maxHeartbeats 6400000 in
theorem wr_bin {n : Nat} {op : ByteArray} {p q : ET} (ho : levB op.data.toList ≠ 0) (hP : PaOk n p) (hQ : PaOk n q) : WrOk (n + 1) (.mk 4 op 0 0 ⟨#[]⟩ ⟨#[]⟩ ⟨#[]⟩ [p, q]) := by
  intro B b l w v hv he hd hl
  obtain ⟨sa, sc, rfl, hrg, hel⟩ := he
  obtain ⟨b0, off, pa, pc, hsa, hp⟩ := part_at hel (i := 0) (Nat.zero_lt_succ _)
  obtain ⟨b1, off1, qa, qc, hsa1, hq⟩ := part_at hel (i := 1) (Nat.succ_lt_succ (Nat.zero_lt_succ _))
  replace hsa : sa = some ⟨b0, off + 0 * 8 - 0 * 8, none⟩ := hsa
  obtain rfl : sa = some ⟨b0, off, none⟩ := hsa
  cases hsa1
  replace hp : PAt2 B w b0 off p pa pc := by have h := hp; rw [Nat.zero_mul, Nat.add_zero] at h; exact h
  replace hq : PAt2 B w b0 (off + 8) q qa qc := hq
  show Calls _ _ #[_, .agg #[.int .i64 4, .string op, .int .i64 0, .int .i64 0, .string ⟨#[]⟩, .string ⟨#[]⟩, .string ⟨#[]⟩, .slice (some ⟨b0, off, none⟩) 2 sc]] w _
  obtain ⟨lv, hlv⟩ : ∃ lv, lv = lvlE (.mk 4 op 0 0 ⟨#[]⟩ ⟨#[]⟩ ⟨#[]⟩ [p, q]) := ⟨_, rfl⟩
  have HT := Lib.hid (show prT (n + 1) (.mk 4 op 0 0 ⟨#[]⟩ ⟨#[]⟩ ⟨#[]⟩ [p, q]) = paT n p (leftL lv) ++ (32 :: (op.data.toList ++ [32])) ++ paT n q (lv + 1) from by
    have hk : opK op.data.toList ≠ 3 := by unfold opK; split <;> decide
    show textK _ = _
    rw [hlv]
    simp [pK, ET.kind, ET.parts, ET.op, textK_cons, textK_app, tokT, wrW, paT, hk])
  rw [HT.out] at hl ⊢
  have HB := Lib.hid (bel0 (.cells #[.int .i64 4, .string op, .int .i64 0, .int .i64 0, .string ⟨#[]⟩, .string ⟨#[]⟩, .string ⟨#[]⟩, .slice (some ⟨b0, off, none⟩) 2 sc] 34) (Below.refl w.heap.size w))
  have HX := Lib.hid (Go.heap_alloc_new w (.cells #[.int .i64 4, .string op, .int .i64 0, .int .i64 0, .string ⟨#[]⟩, .string ⟨#[]⟩, .string ⟨#[]⟩, .slice (some ⟨b0, off, none⟩) 2 sc] 34 (0, 0)))
  have HD := Lib.hid hd
  have HLn := Lib.hid hl
  have HNb := Lib.hid (show w.heap.size ≠ b by have := hd.lt; omega)
  have HBB := Lib.hid (show Below B w (w.alloc (.cells #[.int .i64 4, .string op, .int .i64 0, .int .i64 0, .string ⟨#[]⟩, .string ⟨#[]⟩, .string ⟨#[]⟩, .slice (some ⟨b0, off, none⟩) 2 sc] 34)) from HB.out.mono hd.2)
  have HD1 := Lib.hid (hd.below HB.out)
  have HK1 := Lib.hid (Kep.of_below (b := b) HB.out)
  have HPx := Lib.hid (fun (W : World) (hW : Below B w W) => hp.lowB hW)
  have HQx := Lib.hid (fun (W : World) (hW : Below B w W) => hq.lowB hW)
  have HCa := Lib.hid (fun (W : World) (hW : Below B w W) (hD : Bd B b l W) => hP (leftL lv) B b l W _ (hv.below hW) (hp.lowB hW).ev hD (by simp only [List.length_append, List.length_cons] at hl; omega))
  have HCq := Lib.hid (fun (W : World) (hW : Below B w W) (l2 : Bs) (hD : Bd B b l2 W) hl2 => hQ (lv + 1) B b l2 W _ (hv.below hW) (hq.lowB hW).ev hD hl2)
  have HLl := Lib.hid (fun W => leftLev_any lv W)
  have HLv := Lib.hid (fun W => elevel_any (.mk 4 op 0 0 ⟨#[]⟩ ⟨#[]⟩ ⟨#[]⟩ [p, q]) W (some ⟨b0, off, none⟩) sc)
  rw [← hlv] at HLv
  have HOs := Lib.hid (show op.size ≤ 3 by have := op_len ho; rwa [len_list] at this)
  have hlb : 0 ≤ lv ∧ lv ≤ 6 := by rw [hlv]; exact levB_le op.data.toList
  have hw1 : wrap64 (lv + 1) = lv + 1 := by unfold wrap64; omega
  have hw2 : IntKind.i64.wrap (lv + 1) = lv + 1 := by rw [IntKind.wrap_i64]; omega
  clear hrg hel hd hv hl HT hp hq hP hQ hlv hlb ho
  go_enter Tryz.func38, Tryz.ntmps38
  go_upto_region 1 with (fail)
  generalize w.alloc (.cells #[.int .i64 4, .string op, .int .i64 0, .int .i64 0, .string ⟨#[]⟩, .string ⟨#[]⟩, .string ⟨#[]⟩, .slice (some ⟨b0, off, none⟩) 2 sc] 34) = w1 at *
  obtain ⟨c0, c1, c2, c3, c4, c5, c6, c7, -, cN⟩ := row8 HX.out
  go_wp2_with fail
  refine (HLv.out w1).mono ?_
  rintro e' w2 ⟨rfl, hb2⟩
  have HB2 := Lib.hid (show Below w1.heap.size w1 w2 from hb2)
  have HBB2 := Lib.hid (HBB.out.trans (HB2.out.mono (Nat.le_trans HD.out.2 HB.out.size)))
  have HD2 := Lib.hid (HD1.out.below HB2.out)
  have HK2 := Lib.hid (HK1.out.trans (Kep.of_below (b := b) HB2.out))
  have HC2 := Lib.hid ((HB2.out.block _ (Array.getElem?_eq_some_iff.1 HX.out).1).trans HX.out)
  clear hb2 c0 c1 c2 c3 c4 c5 c6 c7 cN
  obtain ⟨c0, c1, c2, c3, c4, c5, c6, c7, -, cN⟩ := row8 HC2.out
  go_upto_region 12 with (fail)
  have f0 := Fut.cell c7
  obtain ⟨g0, g1, g2, g3, g4, g5, g6, g7⟩ := (HPx.out w2 HBB2.out).cells
  have k0 := Fut.cell g0
  have k1 := Fut.cell g1
  have k2 := Fut.cell g2
  have k3 := Fut.cell g3
  have k4 := Fut.cell g4
  have k5 := Fut.cell g5
  have k6 := Fut.cell g6
  have k7 := Fut.cell g7
  clear g0 g1 g2 g3 g4 g5 g6 g7
  clear c0 c1 c2 c3 c4 c5 c6 c7 cN
  refine wp_region_fut_tail 7 (by kernel_rfl) (by kernel_rfl) ?_
  simp only [List.take_succ_cons, List.take_zero, List.drop_succ_cons, List.drop_zero]
  repeat (go_big_quiet_step (first | (go_at_call 90; exact calls_fut ((HLl.out _).mono (fun _ _ h => ⟨h.1, by rw [h.2]; exact Below.refl _ _⟩)))))
  refine wpQuiet_nil ?_
  intro s
  have HBs := Lib.hid s.bel
  generalize s.to = w3 at *
  clear s f0 k0 k1 k2 k3 k4 k5 k6 k7
  have HBB3 := Lib.hid (HBB2.out.trans (HBs.out.mono HD2.out.2))
  have HD3 := Lib.hid (HD2.out.below HBs.out)
  have HK3 := Lib.hid (HK2.out.trans (Kep.of_below (b := b) HBs.out))
  have HC3 := Lib.hid ((HBs.out.block _ (Array.getElem?_eq_some_iff.1 HC2.out).1).trans HC2.out)
  go_wp2_with fail
  refine (HCa.out w3 HBB3.out HD3.out).mono ?_
  rintro e' w4 ⟨rfl, hd4, hb4, hk4⟩
  have HD4 := Lib.hid hd4
  have HBB4 := Lib.hid (HBB3.out.trans hb4)
  have HK4 := Lib.hid (HK3.out.trans hk4)
  have HC4 := Lib.hid (box_kept hk4 HC3.out HNb.out)
  clear hd4 hb4 hk4
  obtain ⟨-, c1, -, -, -, -, -, c7, -, cN⟩ := row8 HC4.out
  have h3 : ¬ (9223372036854775807 < 1 + op.size) := by have := HOs.out; omega
  have h4 : ¬ (9223372036854775807 < 1 + op.size + 1) := by have := HOs.out; omega
  have HS := Lib.hid (wstr_any B b _ (⟨#[32]⟩ ++ op ++ ⟨#[32]⟩) w4 HD4.out (by have := HLn.out; simp only [List.length_append, List.length_cons, List.length_nil, len_list] at this ⊢; rw [ByteArray.size_append, ByteArray.size_append, show (⟨#[32]⟩ : ByteArray).size = 1 from rfl]; omega))
  rw [bapp2, bapp2] at HS
  have h5 : ¬ (9223372036854775807 < (⟨#[32]⟩ ++ op : ByteArray).size + 1) := by have := HOs.out; rw [ByteArray.size_append, show (⟨#[32]⟩ : ByteArray).size = 1 from rfl]; omega
  go_wp2_with fail
  refine HS.out.mono ?_
  rintro e' w5 ⟨rfl, hd5, hb5, hk5⟩
  have HD5 := Lib.hid hd5
  have HBB5 := Lib.hid (HBB4.out.trans hb5)
  have HK5 := Lib.hid (HK4.out.trans hk5)
  have HC5 := Lib.hid (box_kept hk5 HC4.out HNb.out)
  clear hd5 hb5 hk5 c1 c7 cN
  obtain ⟨-, -, -, -, -, -, -, c7, -, cN⟩ := row8 HC5.out
  obtain ⟨g0, g1, g2, g3, g4, g5, g6, g7⟩ := (HQx.out w5 HBB5.out).cells
  have gN := (HQx.out w5 HBB5.out).low
  have HCb := Lib.hid (HCq.out w5 HBB5.out _ HD5.out (by have := HLn.out; simp only [List.length_append, List.length_cons, List.length_nil] at this ⊢; show _ + _ + (0 + 1 + _ + (0 + 1)) + _ ≤ _; omega))
  go_wp2_with fail
  refine HCb.out.mono ?_
  rintro e' w6 ⟨rfl, hd6, hb6, hk6⟩
  have HF := Lib.hid (And.intro hd6 (And.intro (HBB5.out.trans hb6) (HK5.out.trans hk6)))
  clear hd6 hb6 hk6
  go_wp2
  refine bodyPost_ret (results_none rfl _ _ _) rfl ?_
  exact ⟨rfl, HF.out.1.eq (by simp), HF.out.2.1, HF.out.2.2⟩
theorem agg_len {t : Bs} (h : aggB t = true) : t.length ≤ 5 := by
  unfold aggB at h
  simp only [Bool.or_eq_true, beq_iff_eq] at h
  rcases h with ((rfl | rfl) | rfl) | rfl <;> decide
/-- expr.write of any formed expression -/
theorem write_all (hnm : ∀ c : ByteArray, nmB c = true → c.size ≤ 100) : ∀ {n : Nat} {e : ET}, FmE nmB n e → numE n e → WrOk n e := by
  intro n e h
  induction h with
  | lit h => exact fun hn => wr_lit h hn.1
  | @col n t c h h2 => exact fun hn => wr_col (by rcases h2 with rfl | h2; exact Nat.zero_le _; exact hnm t h2)
  | @una n op p h hp ih =>
    intro hn
    have hP := part_any (ih (hn.2 p List.mem_cons_self))
    rcases h with rfl | rfl
    · exact wr_not hP
    · exact wr_neg hP
  | @bin n op p q h hp hq ihp ihq => exact fun hn => wr_bin h (part_any (ihp (hn.2 p List.mem_cons_self))) (part_any (ihq (hn.2 q (List.mem_cons_of_mem _ List.mem_cons_self))))
  | @tst n op p h hp ih => exact fun hn => wr_tst h (part_any (ih (hn.2 p List.mem_cons_self)))
  | @agg n op p h hp ih => exact fun hn => wr_agg (by have := agg_len h; rw [len_list] at this; omega) (ih (hn.2 p List.mem_cons_self))
  | cnt => exact fun _ => wr_cnt
end Go.Proofs.YtpinalpigefenaaGreatDoor
