/- The document's cell of an expression: the region that resolves a part. Written by genrc.py. -/
import Derived.Test.YtafhgilikcablaaSvRg
namespace Go.Proofs.Ytafhgilikcablaa
open Go.RowKit
set_option linter.unusedVariables false
set_option linter.unusedSimpArgs false
set_option maxRecDepth 100000
set_option maxHeartbeats 12800000 in
theorem rc11_0 (D E b off n scp j pc : Nat) (kind : Int) (p : ET) (pa : Option Addr) (r : CT × Int × Int) (wr : World) (x1 x3 x5 x6 x7 x8 x9 x10 x12 x13 x14 x15 x16 x17 x18 x19 x20 x21 x22 x23 x24 x25 x26 x27 x28 x29 x30 x31 x32 x33 x34 x35 x36 x37 x38 x39 x40 x41 x42 x43 x44 x45 x46 x47 x48 x49 x50 x51 x52 x53 x54 x55 x56 x57 x58 x59 x60 x61 x62 x63 x64 x65 x66 x67 x68 x69 x70 x71 x72 x73 x74 x75 x76 x77 x78 x79 x80 x81 x82 x83 x84 x85 x86 x87 x88 x89 x90 x91 x92 x93 x94 x95 x96 x97 : Value)
    (hKp : ∀ W : World, Below wr.heap.size wr W → (W.cell? ⟨E, 0, none⟩ = some (.int .i64 kind) ∧ W.cell? ⟨E, 7, none⟩ = some (.slice (some ⟨b, off, none⟩) n scp) ∧ W.cell? ⟨b, off + j * 8, none⟩ = some (.int .i64 p.kind) ∧ W.cell? ⟨b, off + j * 8 + 1, none⟩ = some (.string p.op) ∧ W.cell? ⟨b, off + j * 8 + 2, none⟩ = some (.int .i64 p.vk) ∧ W.cell? ⟨b, off + j * 8 + 3, none⟩ = some (.int .i64 p.vn) ∧ W.cell? ⟨b, off + j * 8 + 4, none⟩ = some (.string p.vs) ∧ W.cell? ⟨b, off + j * 8 + 5, none⟩ = some (.string p.tab) ∧ W.cell? ⟨b, off + j * 8 + 6, none⟩ = some (.string p.col) ∧ W.cell? ⟨b, off + j * 8 + 7, none⟩ = some (.slice pa p.parts.length pc))) (hj : j < n) (hn : n ≤ 1000) 
    (hIc : ∀ W : World, Below wr.heap.size wr W → Calls Try.prog 61 #[.pointer (some ⟨D, 0, none⟩), .agg #[.int .i64 p.kind, .string p.op, .int .i64 p.vk, .int .i64 p.vn, .string p.vs, .string p.tab, .string p.col, .slice pa p.parts.length pc], .bool false] W (CellAns W r)) :
    Rc11.wp Try.prog (fun e a' wx => e = .normal ∧ ∃ (Bx : Nat) (ra : Option Addr) (rc : Nat) (u46 u47 u48 u49 u50 u51 u52 u53 u54 u55 u56 u57 u58 u59 u60 u61 u62 : Value), a' = ⟨#[.pointer (some ⟨D, 0, none⟩), x1, .bool false, x3, .pointer (some ⟨E, 0, none⟩), x5, x6, x7, x8, x9, x10, .int .i64 (j : Int), .pointer (some ⟨Bx, 0, none⟩), .int .i64 r.2.1, .int .i64 r.2.2, x15, x16, x17, x18, x19, x20, x21, x22, x23, x24, x25, x26, x27, x28, x29, x30, x31, x32, x33, x34, x35, x36, x37, x38, x39, x40, x41, x42, x43, x44, x45, u46, u47, u48, u49, u50, u51, u52, u53, u54, u55, u56, u57, u58, u59, u60, u61, u62, x63, x64, x65, x66, x67, x68, x69, x70, x71, x72, x73, x74, x75, x76, x77, x78, x79, x80, x81, x82, x83, x84, x85, x86, x87, x88, x89, x90, x91, x92, x93, x94, x95, x96, x97], []⟩ ∧ wx.heap[Bx]? = some (.cells #[.int .i64 r.1.kind, .string r.1.op, .int .i64 r.1.vk, .int .i64 r.1.vn, .string r.1.vs, .int .i64 r.1.src, .int .i64 r.1.col, .slice ra r.1.parts.length rc] 56 (0, 0)) ∧ wr.heap.size ≤ Bx ∧ Below wr.heap.size wr wx ∧ CRg r.1 ra rc ∧ CL wx (fun b => wr.heap.size ≤ b) ra r.1.parts) ⟨#[.pointer (some ⟨D, 0, none⟩), x1, .bool false, x3, .pointer (some ⟨E, 0, none⟩), x5, x6, x7, x8, x9, x10, .int .i64 (j : Int), x12, x13, x14, x15, x16, x17, x18, x19, x20, x21, x22, x23, x24, x25, x26, x27, x28, x29, x30, x31, x32, x33, x34, x35, x36, x37, x38, x39, x40, x41, x42, x43, x44, x45, x46, x47, x48, x49, x50, x51, x52, x53, x54, x55, x56, x57, x58, x59, x60, x61, x62, x63, x64, x65, x66, x67, x68, x69, x70, x71, x72, x73, x74, x75, x76, x77, x78, x79, x80, x81, x82, x83, x84, x85, x86, x87, x88, x89, x90, x91, x92, x93, x94, x95, x96, x97], []⟩ wr := by
  have HKp := Lib.hid hKp
  have HIc := Lib.hid hIc
  have hj0 : (0 : Int) ≤ (j : Int) := by omega
  have hji : (j : Int) < (n : Int) := by omega
  obtain ⟨s0, s1, s2, s3, s4, s5, s6, s7, s8, s9⟩ := HKp.out wr (Below.refl _ _)
  have hs1 : E < wr.heap.size := World.block_lt_of_cell? wr _ s0
  have hbw : b < wr.heap.size := World.block_lt_of_cell? wr _ s2
  have kb0 := Lib.hid (show Below wr.heap.size wr wr.drew from (Below.refl _ _).drew)
  have kb1 := Lib.hid (show Below wr.heap.size wr (wr.alloc (.cells #[.int .i64 0, .string ⟨#[]⟩, .int .i64 0, .int .i64 0, .string ⟨#[]⟩, .int .i64 0, .int .i64 0, .slice none 0 0] 56)).drew from (bel0 _ (Below.refl _ _)).drew)
  have kb2 := Lib.hid (show Below wr.heap.size wr (wr.drew.alloc (.cells #[.int .i64 0, .string ⟨#[]⟩, .int .i64 0, .int .i64 0, .string ⟨#[]⟩, .int .i64 0, .int .i64 0, .slice none 0 0] 56)) from (bel0 _ (Below.refl _ _).drew))
  have kd0 := Lib.hid (HKp.out wr.drew (Below.refl _ _).drew)
  have kd1 := Lib.hid (HKp.out (wr.alloc (.cells #[.int .i64 0, .string ⟨#[]⟩, .int .i64 0, .int .i64 0, .string ⟨#[]⟩, .int .i64 0, .int .i64 0, .slice none 0 0] 56)).drew (bel0 _ (Below.refl _ _)).drew)
  have kd2 := Lib.hid (HKp.out (wr.drew.alloc (.cells #[.int .i64 0, .string ⟨#[]⟩, .int .i64 0, .int .i64 0, .string ⟨#[]⟩, .int .i64 0, .int .i64 0, .slice none 0 0] 56)) (bel0 _ (Below.refl _ _).drew))
  have kd3 := Lib.hid (HKp.out (wr.alloc (.cells #[.int .i64 0, .string ⟨#[]⟩, .int .i64 0, .int .i64 0, .string ⟨#[]⟩, .int .i64 0, .int .i64 0, .slice none 0 0] 56)) (bel0 _ (Below.refl _ _)))
  clear hKp hIc hj hn
  conv => arg 2; whnf
  dsimp only
  refine wp_region_noPanic ?_
  refine wp_region_held_drew (S := fun W => (W.cell? ⟨E, 0, none⟩ = some (.int .i64 kind) ∧ W.cell? ⟨E, 7, none⟩ = some (.slice (some ⟨b, off, none⟩) n scp) ∧ W.cell? ⟨b, off + j * 8, none⟩ = some (.int .i64 p.kind) ∧ W.cell? ⟨b, off + j * 8 + 1, none⟩ = some (.string p.op) ∧ W.cell? ⟨b, off + j * 8 + 2, none⟩ = some (.int .i64 p.vk) ∧ W.cell? ⟨b, off + j * 8 + 3, none⟩ = some (.int .i64 p.vn) ∧ W.cell? ⟨b, off + j * 8 + 4, none⟩ = some (.string p.vs) ∧ W.cell? ⟨b, off + j * 8 + 5, none⟩ = some (.string p.tab) ∧ W.cell? ⟨b, off + j * 8 + 6, none⟩ = some (.string p.col) ∧ W.cell? ⟨b, off + j * 8 + 7, none⟩ = some (.slice pa p.parts.length pc))) (by kernel_rfl) kd0.out (fun hHeld => ?_)
  refine wpAnyH_take (i := 0) (oi := _) (v := .pointer (some ⟨D, 0, none⟩)) rfl (by kernel_rfl) (by kernel_rfl) (by kernel_rfl) (fun _ _ _ h => h) (Or.inl ⟨by rfl, ?_⟩) (by assumption) ?_
  · (intro w' hSw; (try dsimp only at hSw); go_simp)
  try simp only [Act.put, List.setIfInBounds_toArray, List.set_cons_zero, List.set_cons_succ]
  refine wpAnyH_take (i := 1) (oi := _) (v := .pointer (some ⟨E, 7, none⟩)) rfl (by kernel_rfl) (by kernel_rfl) (by kernel_rfl) (fun _ _ _ h => h) (Or.inl ⟨by rfl, ?_⟩) (by assumption) ?_
  · (intro w' hSw; (try dsimp only at hSw); go_simp)
  try simp only [Act.put, List.setIfInBounds_toArray, List.set_cons_zero, List.set_cons_succ]
  refine wpAnyH_take (i := 2) (oi := _) (v := .slice (some ⟨b, off, none⟩) n scp) rfl (by kernel_rfl) (by kernel_rfl) (by kernel_rfl) (fun _ _ _ h => h) (Or.inl ⟨by rfl, ?_⟩) (by assumption) ?_
  · (intro w' hSw; (try dsimp only at hSw); go_simp)
  try simp only [Act.put, List.setIfInBounds_toArray, List.set_cons_zero, List.set_cons_succ]
  refine wpAnyH_take (i := 3) (oi := _) (v := .int .i64 (j : Int)) rfl (by kernel_rfl) (by kernel_rfl) (by kernel_rfl) (fun _ _ _ h => h) (Or.inl ⟨by rfl, ?_⟩) (by assumption) ?_
  · (intro w' hSw; (try dsimp only at hSw); go_simp)
  try simp only [Act.put, List.setIfInBounds_toArray, List.set_cons_zero, List.set_cons_succ]
  refine wpAnyH_take (i := 4) (oi := _) (v := .pointer (some ⟨b, off + j * 8, none⟩)) rfl (by kernel_rfl) (by kernel_rfl) (by kernel_rfl) (fun _ _ _ h => h) (Or.inl ⟨by rfl, ?_⟩) (by assumption) ?_
  · (intro w' hSw; (try dsimp only at hSw); go_simp)
  try simp only [Act.put, List.setIfInBounds_toArray, List.set_cons_zero, List.set_cons_succ]
  refine wpAnyH_take (i := 5) (oi := _) (v := .agg #[.int .i64 p.kind, .string p.op, .int .i64 p.vk, .int .i64 p.vn, .string p.vs, .string p.tab, .string p.col, .slice pa p.parts.length pc]) rfl (by kernel_rfl) (by kernel_rfl) (by kernel_rfl) (fun _ _ _ h => h) (Or.inl ⟨by rfl, ?_⟩) (by assumption) ?_
  · (intro w' hSw; (try dsimp only at hSw); go_simp)
  try simp only [Act.put, List.setIfInBounds_toArray, List.set_cons_zero, List.set_cons_succ]
  refine wpAnyH_take (i := 6) (oi := _) (v := .bool false) rfl (by kernel_rfl) (by kernel_rfl) (by kernel_rfl) (fun _ _ _ h => h) (Or.inl ⟨by rfl, ?_⟩) (by assumption) ?_
  · (intro w' hSw; (try dsimp only at hSw); go_simp)
  try simp only [Act.put, List.setIfInBounds_toArray, List.set_cons_zero, List.set_cons_succ]
  refine wpAnyH_take (i := 7) (oi := _) (v := .bool false) rfl (by kernel_rfl) (by kernel_rfl) (by kernel_rfl) (fun _ _ _ h => h) (Or.inl ⟨by rfl, ?_⟩) (by assumption) ?_
  · (intro w' hSw; (try dsimp only at hSw); go_simp)
  try simp only [Act.put, List.setIfInBounds_toArray, List.set_cons_zero, List.set_cons_succ]
  refine wpAnyH_take (i := 8) (oi := _) (v := undef) rfl (by kernel_rfl) (by kernel_rfl) (by kernel_rfl) (fun _ _ _ h => h) (Or.inr ⟨by simp [Region.wanted, yielded], rfl⟩) (by assumption) ?_
  try simp only [Act.put, List.setIfInBounds_toArray, List.set_cons_zero, List.set_cons_succ]
  refine wpAnyH_take (i := 9) (oi := _) (v := undef) rfl (by kernel_rfl) (by kernel_rfl) (by kernel_rfl) (fun _ _ _ h => h) (Or.inr ⟨by simp [Region.wanted, yielded], rfl⟩) (by assumption) ?_
  try simp only [Act.put, List.setIfInBounds_toArray, List.set_cons_zero, List.set_cons_succ]
  refine wpAnyH_take (i := 10) (oi := _) (v := undef) rfl (by kernel_rfl) (by kernel_rfl) (by kernel_rfl) (fun _ _ _ h => h) (Or.inr ⟨by simp [Region.wanted, yielded], rfl⟩) (by assumption) ?_
  try simp only [Act.put, List.setIfInBounds_toArray, List.set_cons_zero, List.set_cons_succ]
  refine wpAnyH_take (i := 11) (oi := _) (v := .bool false) rfl (by kernel_rfl) (by kernel_rfl) (by kernel_rfl) (fun _ _ _ h => h) (Or.inl ⟨by rfl, ?_⟩) (by assumption) ?_
  · (intro w' hSw; (try dsimp only at hSw); go_simp)
  try simp only [Act.put, List.setIfInBounds_toArray, List.set_cons_zero, List.set_cons_succ]
  refine wpAnyH_ready (rs := [12, 17]) (by kernel_rfl) (by simp) ?_
  refine AllReadyH.cons (o := _) rfl (fun K hK => ?_) (AllReadyH.cons (o := _) rfl (fun K hK => ?_) AllReadyH.nil)
  · go_simp
    go_at_call 61
    refine (HIc.out _ ?hw).mono ?_
    (case hw => (first | (with_reducible exact kb0.out) | (with_reducible exact kb1.out) | (with_reducible exact kb2.out)))
    rintro e' w4 ⟨⟨vv, rfl, ra, rc, rfl, hcrg, hcl⟩, hb4⟩
    rw [ctX_arrO]
    have HRg4 := Lib.hid hcrg
    have HB4 := Lib.hid (show Below wr.heap.size wr w4 by with_reducible exact drew_below hb4); have HCl4 := Lib.hid (drew_cl hcl); have ke1 := Lib.hid (HKp.out w4 HB4.out); have ke2 := Lib.hid (HKp.out w4.drew HB4.out.drew); have ke3 := Lib.hid (HKp.out (w4.alloc (.cells #[.int .i64 0, .string ⟨#[]⟩, .int .i64 0, .int .i64 0, .string ⟨#[]⟩, .int .i64 0, .int .i64 0, .slice none 0 0] 56)) (bel0 _ HB4.out)); have ke4 := Lib.hid (HKp.out (w4.alloc (.cells #[.int .i64 0, .string ⟨#[]⟩, .int .i64 0, .int .i64 0, .string ⟨#[]⟩, .int .i64 0, .int .i64 0, .slice none 0 0] 56)).drew (bel0 _ HB4.out).drew); have ke5 := Lib.hid (HKp.out (w4.alloc (.cells #[.int .i64 r.1.kind, .string r.1.op, .int .i64 r.1.vk, .int .i64 r.1.vn, .string r.1.vs, .int .i64 r.1.src, .int .i64 r.1.col, .slice ra r.1.parts.length rc] 56)) (bel0 _ HB4.out)); have ke6 := Lib.hid (HKp.out (w4.alloc (.cells #[.int .i64 r.1.kind, .string r.1.op, .int .i64 r.1.vk, .int .i64 r.1.vn, .string r.1.vs, .int .i64 r.1.src, .int .i64 r.1.col, .slice ra r.1.parts.length rc] 56)).drew (bel0 _ HB4.out).drew); clear hb4 hcrg hcl
    refine hK.out _ _ (by first | (with_reducible exact ke1.out) | (with_reducible exact ke2.out)) (fun hHeld2 => ?_)
    clear hK K hHeld
    have hHeld := hHeld2
    clear hHeld2
    try simp only [Act.put, List.setIfInBounds_toArray, List.set_cons_zero, List.set_cons_succ]
    refine wpAnyH_take (i := 13) (oi := _) (v := .tuple #[.agg #[.int .i64 r.1.kind, .string r.1.op, .int .i64 r.1.vk, .int .i64 r.1.vn, .string r.1.vs, .int .i64 r.1.src, .int .i64 r.1.col, .slice ra r.1.parts.length rc], .int .i64 r.2.1, .int .i64 r.2.2]) rfl (by kernel_rfl) (by kernel_rfl) (by kernel_rfl) (fun _ _ _ h => h) (Or.inl ⟨by rfl, ?_⟩) (by assumption) ?_
    · (intro w' hSw; (try dsimp only at hSw); go_simp)
    try simp only [Act.put, List.setIfInBounds_toArray, List.set_cons_zero, List.set_cons_succ]
    refine wpAnyH_take (i := 14) (oi := _) (v := .agg #[.int .i64 r.1.kind, .string r.1.op, .int .i64 r.1.vk, .int .i64 r.1.vn, .string r.1.vs, .int .i64 r.1.src, .int .i64 r.1.col, .slice ra r.1.parts.length rc]) rfl (by kernel_rfl) (by kernel_rfl) (by kernel_rfl) (fun _ _ _ h => h) (Or.inl ⟨by rfl, ?_⟩) (by assumption) ?_
    · (intro w' hSw; (try dsimp only at hSw); go_simp)
    try simp only [Act.put, List.setIfInBounds_toArray, List.set_cons_zero, List.set_cons_succ]
    refine wpAnyH_take (i := 15) (oi := _) (v := .int .i64 r.2.1) rfl (by kernel_rfl) (by kernel_rfl) (by kernel_rfl) (fun _ _ _ h => h) (Or.inl ⟨by rfl, ?_⟩) (by assumption) ?_
    · (intro w' hSw; (try dsimp only at hSw); go_simp)
    try simp only [Act.put, List.setIfInBounds_toArray, List.set_cons_zero, List.set_cons_succ]
    refine wpAnyH_take (i := 16) (oi := _) (v := .int .i64 r.2.2) rfl (by kernel_rfl) (by kernel_rfl) (by kernel_rfl) (fun _ _ _ h => h) (Or.inl ⟨by rfl, ?_⟩) (by assumption) ?_
    · (intro w' hSw; (try dsimp only at hSw); go_simp)
    try simp only [Act.put, List.setIfInBounds_toArray, List.set_cons_zero, List.set_cons_succ]
    refine wpAnyH_ready (rs := [17]) (by kernel_rfl) (by simp) ?_
    refine AllReadyH.cons (o := _) rfl (fun K hK => ?_) AllReadyH.nil
    go_simp
    refine hK.out _ _ (by first | (with_reducible exact ke3.out) | (with_reducible exact ke4.out) | (with_reducible exact ke5.out) | (with_reducible exact ke6.out)) (fun hHeld2 => ?_)
    clear hK K hHeld
    have hHeld := hHeld2
    clear hHeld2
    try simp only [Act.put, List.setIfInBounds_toArray, List.set_cons_zero, List.set_cons_succ]
    refine wpAnyH_ready (rs := [18]) (by kernel_rfl) (by simp) ?_
    refine AllReadyH.cons (o := _) rfl (fun K hK => ?_) AllReadyH.nil
    go_simp
    refine hK.out _ _ (by first | (with_reducible exact ke3.out) | (with_reducible exact ke4.out) | (with_reducible exact ke5.out) | (with_reducible exact ke6.out)) (fun hHeld2 => ?_)
    clear hK K hHeld
    have hHeld := hHeld2
    clear hHeld2
    try simp only [Act.put, List.setIfInBounds_toArray, List.set_cons_zero, List.set_cons_succ]
    refine wpAnyH_takeD (i := 19) (d := 13) (oi := _) (v := .int .i64 r.2.1) rfl (by rfl) (by kernel_rfl) (by kernel_rfl) (by kernel_rfl) (fun _ _ _ h => h) (Or.inl ⟨by rfl, ?_⟩) (by assumption) ?_
    · (intro w' hSw; (try dsimp only at hSw); go_simp)
    try simp only [Act.put, List.setIfInBounds_toArray, List.set_cons_zero, List.set_cons_succ]
    refine wpAnyH_takeD (i := 20) (d := 14) (oi := _) (v := .int .i64 r.2.2) rfl (by rfl) (by kernel_rfl) (by kernel_rfl) (by kernel_rfl) (fun _ _ _ h => h) (Or.inl ⟨by rfl, ?_⟩) (by assumption) ?_
    · (intro w' hSw; (try dsimp only at hSw); go_simp)
    try simp only [Act.put, List.setIfInBounds_toArray, List.set_cons_zero, List.set_cons_succ]
    refine wpAnyH_done (by kernel_rfl) ?_ _
    refine NoPanic.normal ?_
    exact ⟨rfl, w4.heap.size, ra, rc, _, _, _, _, _, _, _, _, _, _, _, _, _, _, _, _, _, rfl, Go.heap_alloc_new w4 _, HB4.out.size, bel0 _ HB4.out, HRg4.out, HCl4.out.keep (bel0 _ (Below.refl _ _))⟩
  · go_simp
    refine hK.out _ _ (by first | (with_reducible exact kd1.out) | (with_reducible exact kd2.out) | (with_reducible exact kd3.out)) (fun hHeld2 => ?_)
    clear hK K hHeld
    have hHeld := hHeld2
    clear hHeld2
    try simp only [Act.put, List.setIfInBounds_toArray, List.set_cons_zero, List.set_cons_succ]
    refine wpAnyH_ready (rs := [12]) (by kernel_rfl) (by simp) ?_
    refine AllReadyH.cons (o := _) rfl (fun K hK => ?_) AllReadyH.nil
    go_simp
    go_at_call 61
    refine (HIc.out _ ?hw).mono ?_
    (case hw => (first | (with_reducible exact kb0.out) | (with_reducible exact kb1.out) | (with_reducible exact kb2.out)))
    rintro e' w4 ⟨⟨vv, rfl, ra, rc, rfl, hcrg, hcl⟩, hb4⟩
    rw [ctX_arrO]
    have HRg4 := Lib.hid hcrg
    have hX4 : w4.heap[wr.heap.size]? = some (.cells #[.int .i64 0, .string ⟨#[]⟩, .int .i64 0, .int .i64 0, .string ⟨#[]⟩, .int .i64 0, .int .i64 0, .slice none 0 0] 56 (0, 0)) := (by with_reducible exact alloc_drew_block hb4); have HX4 := Lib.hid hX4; have HB4 := Lib.hid (show Below wr.heap.size wr w4 by with_reducible exact alloc_drew_below hb4); have HCl4 := Lib.hid (show CL w4 (fun b => wr.heap.size + 1 ≤ b) ra r.1.parts by with_reducible exact alloc_drew_cl hcl); obtain ⟨y0, y1, y2, y3, y4, y5, y6, y7, z0, z1, z2, z3, z4, z5, z6, z7, c7⟩ := z8 hX4; have ke1 := Lib.hid (HKp.out w4 HB4.out); have ke2 := Lib.hid (HKp.out w4.drew HB4.out.drew); have kf1 := Lib.hid (HKp.out _ (st8_below (Nat.le_refl _) HB4.out (.int .i64 r.1.kind) (.string r.1.op) (.int .i64 r.1.vk) (.int .i64 r.1.vn) (.string r.1.vs) (.int .i64 r.1.src) (.int .i64 r.1.col) (.slice ra r.1.parts.length rc))); have kf2 := Lib.hid (HKp.out _ (st8_below (Nat.le_refl _) HB4.out (.int .i64 r.1.kind) (.string r.1.op) (.int .i64 r.1.vk) (.int .i64 r.1.vn) (.string r.1.vs) (.int .i64 r.1.src) (.int .i64 r.1.col) (.slice ra r.1.parts.length rc)).drew); clear hX4 hb4 hcrg hcl
    refine hK.out _ _ (by first | (with_reducible exact ke1.out) | (with_reducible exact ke2.out)) (fun hHeld2 => ?_)
    clear hK K hHeld
    have hHeld := hHeld2
    clear hHeld2
    try simp only [Act.put, List.setIfInBounds_toArray, List.set_cons_zero, List.set_cons_succ]
    refine wpAnyH_take (i := 13) (oi := _) (v := .tuple #[.agg #[.int .i64 r.1.kind, .string r.1.op, .int .i64 r.1.vk, .int .i64 r.1.vn, .string r.1.vs, .int .i64 r.1.src, .int .i64 r.1.col, .slice ra r.1.parts.length rc], .int .i64 r.2.1, .int .i64 r.2.2]) rfl (by kernel_rfl) (by kernel_rfl) (by kernel_rfl) (fun _ _ _ h => h) (Or.inl ⟨by rfl, ?_⟩) (by assumption) ?_
    · (intro w' hSw; (try dsimp only at hSw); go_simp)
    try simp only [Act.put, List.setIfInBounds_toArray, List.set_cons_zero, List.set_cons_succ]
    refine wpAnyH_take (i := 14) (oi := _) (v := .agg #[.int .i64 r.1.kind, .string r.1.op, .int .i64 r.1.vk, .int .i64 r.1.vn, .string r.1.vs, .int .i64 r.1.src, .int .i64 r.1.col, .slice ra r.1.parts.length rc]) rfl (by kernel_rfl) (by kernel_rfl) (by kernel_rfl) (fun _ _ _ h => h) (Or.inl ⟨by rfl, ?_⟩) (by assumption) ?_
    · (intro w' hSw; (try dsimp only at hSw); go_simp)
    try simp only [Act.put, List.setIfInBounds_toArray, List.set_cons_zero, List.set_cons_succ]
    refine wpAnyH_take (i := 15) (oi := _) (v := .int .i64 r.2.1) rfl (by kernel_rfl) (by kernel_rfl) (by kernel_rfl) (fun _ _ _ h => h) (Or.inl ⟨by rfl, ?_⟩) (by assumption) ?_
    · (intro w' hSw; (try dsimp only at hSw); go_simp)
    try simp only [Act.put, List.setIfInBounds_toArray, List.set_cons_zero, List.set_cons_succ]
    refine wpAnyH_take (i := 16) (oi := _) (v := .int .i64 r.2.2) rfl (by kernel_rfl) (by kernel_rfl) (by kernel_rfl) (fun _ _ _ h => h) (Or.inl ⟨by rfl, ?_⟩) (by assumption) ?_
    · (intro w' hSw; (try dsimp only at hSw); go_simp)
    try simp only [Act.put, List.setIfInBounds_toArray, List.set_cons_zero, List.set_cons_succ]
    refine wpAnyH_ready (rs := [18]) (by kernel_rfl) (by simp) ?_
    refine AllReadyH.cons (o := _) rfl (fun K hK => ?_) AllReadyH.nil
    go_simp
    refine hK.out _ _ (by first | (with_reducible exact kf1.out) | (with_reducible exact kf2.out)) (fun hHeld2 => ?_)
    clear hK K hHeld
    have hHeld := hHeld2
    clear hHeld2
    try simp only [Act.put, List.setIfInBounds_toArray, List.set_cons_zero, List.set_cons_succ]
    refine wpAnyH_takeD (i := 19) (d := 13) (oi := _) (v := .int .i64 r.2.1) rfl (by rfl) (by kernel_rfl) (by kernel_rfl) (by kernel_rfl) (fun _ _ _ h => h) (Or.inl ⟨by rfl, ?_⟩) (by assumption) ?_
    · (intro w' hSw; (try dsimp only at hSw); go_simp)
    try simp only [Act.put, List.setIfInBounds_toArray, List.set_cons_zero, List.set_cons_succ]
    refine wpAnyH_takeD (i := 20) (d := 14) (oi := _) (v := .int .i64 r.2.2) rfl (by rfl) (by kernel_rfl) (by kernel_rfl) (by kernel_rfl) (fun _ _ _ h => h) (Or.inl ⟨by rfl, ?_⟩) (by assumption) ?_
    · (intro w' hSw; (try dsimp only at hSw); go_simp)
    try simp only [Act.put, List.setIfInBounds_toArray, List.set_cons_zero, List.set_cons_succ]
    refine wpAnyH_done (by kernel_rfl) ?_ _
    refine NoPanic.normal ?_
    exact ⟨rfl, wr.heap.size, ra, rc, _, _, _, _, _, _, _, _, _, _, _, _, _, _, _, _, _, rfl, box8 HX4.out (.int .i64 r.1.kind) (.string r.1.op) (.int .i64 r.1.vk) (.int .i64 r.1.vn) (.string r.1.vs) (.int .i64 r.1.src) (.int .i64 r.1.col) (.slice ra r.1.parts.length rc), Nat.le_refl _, st8_below (Nat.le_refl _) HB4.out (.int .i64 r.1.kind) (.string r.1.op) (.int .i64 r.1.vk) (.int .i64 r.1.vn) (.string r.1.vs) (.int .i64 r.1.src) (.int .i64 r.1.col) (.slice ra r.1.parts.length rc), HRg4.out, (cl_set8 (Nat.lt_succ_self _) HCl4.out (.int .i64 r.1.kind) (.string r.1.op) (.int .i64 r.1.vk) (.int .i64 r.1.vn) (.string r.1.vs) (.int .i64 r.1.src) (.int .i64 r.1.col) (.slice ra r.1.parts.length rc)).mono (fun b hb _ => Nat.le_of_succ_le hb)⟩
end Go.Proofs.Ytafhgilikcablaa
namespace Go.Proofs.Ytafhgilikcablaa
open Go.RowKit
set_option linter.unusedVariables false
set_option linter.unusedSimpArgs false
set_option maxRecDepth 100000
set_option maxHeartbeats 12800000 in
theorem rc11_1 (D E b off n scp j pc : Nat) (kind : Int) (p : ET) (pa : Option Addr) (r : CT × Int × Int) (wr : World) (x1 x3 x5 x6 x7 x8 x9 x10 x12 x13 x14 x15 x16 x17 x18 x19 x20 x21 x22 x23 x24 x25 x26 x27 x28 x29 x30 x31 x32 x33 x34 x35 x36 x37 x38 x39 x40 x41 x42 x43 x44 x45 x46 x47 x48 x49 x50 x51 x52 x53 x54 x55 x56 x57 x58 x59 x60 x61 x62 x63 x64 x65 x66 x67 x68 x69 x70 x71 x72 x73 x74 x75 x76 x77 x78 x79 x80 x81 x82 x83 x84 x85 x86 x87 x88 x89 x90 x91 x92 x93 x94 x95 x96 x97 : Value)
    (hKp : ∀ W : World, Below wr.heap.size wr W → (W.cell? ⟨E, 0, none⟩ = some (.int .i64 kind) ∧ W.cell? ⟨E, 7, none⟩ = some (.slice (some ⟨b, off, none⟩) n scp) ∧ W.cell? ⟨b, off + j * 8, none⟩ = some (.int .i64 p.kind) ∧ W.cell? ⟨b, off + j * 8 + 1, none⟩ = some (.string p.op) ∧ W.cell? ⟨b, off + j * 8 + 2, none⟩ = some (.int .i64 p.vk) ∧ W.cell? ⟨b, off + j * 8 + 3, none⟩ = some (.int .i64 p.vn) ∧ W.cell? ⟨b, off + j * 8 + 4, none⟩ = some (.string p.vs) ∧ W.cell? ⟨b, off + j * 8 + 5, none⟩ = some (.string p.tab) ∧ W.cell? ⟨b, off + j * 8 + 6, none⟩ = some (.string p.col) ∧ W.cell? ⟨b, off + j * 8 + 7, none⟩ = some (.slice pa p.parts.length pc))) (hj : j < n) (hn : n ≤ 1000) (hk6 : (kind != 6) = false)
    (hIc : ∀ W : World, Below wr.heap.size wr W → Calls Try.prog 61 #[.pointer (some ⟨D, 0, none⟩), .agg #[.int .i64 p.kind, .string p.op, .int .i64 p.vk, .int .i64 p.vn, .string p.vs, .string p.tab, .string p.col, .slice pa p.parts.length pc], .bool false] W (CellAns W r)) :
    Rc11.wp Try.prog (fun e a' wx => e = .normal ∧ ∃ (Bx : Nat) (ra : Option Addr) (rc : Nat) (u46 u47 u48 u49 u50 u51 u52 u53 u54 u55 u56 u57 u58 u59 u60 u61 u62 : Value), a' = ⟨#[.pointer (some ⟨D, 0, none⟩), x1, .bool true, x3, .pointer (some ⟨E, 0, none⟩), x5, x6, x7, x8, x9, x10, .int .i64 (j : Int), .pointer (some ⟨Bx, 0, none⟩), .int .i64 r.2.1, .int .i64 r.2.2, x15, x16, x17, x18, x19, x20, x21, x22, x23, x24, x25, x26, x27, x28, x29, x30, x31, x32, x33, x34, x35, x36, x37, x38, x39, x40, x41, x42, x43, x44, x45, u46, u47, u48, u49, u50, u51, u52, u53, u54, u55, u56, u57, u58, u59, u60, u61, u62, x63, x64, x65, x66, x67, x68, x69, x70, x71, x72, x73, x74, x75, x76, x77, x78, x79, x80, x81, x82, x83, x84, x85, x86, x87, x88, x89, x90, x91, x92, x93, x94, x95, x96, x97], []⟩ ∧ wx.heap[Bx]? = some (.cells #[.int .i64 r.1.kind, .string r.1.op, .int .i64 r.1.vk, .int .i64 r.1.vn, .string r.1.vs, .int .i64 r.1.src, .int .i64 r.1.col, .slice ra r.1.parts.length rc] 56 (0, 0)) ∧ wr.heap.size ≤ Bx ∧ Below wr.heap.size wr wx ∧ CRg r.1 ra rc ∧ CL wx (fun b => wr.heap.size ≤ b) ra r.1.parts) ⟨#[.pointer (some ⟨D, 0, none⟩), x1, .bool true, x3, .pointer (some ⟨E, 0, none⟩), x5, x6, x7, x8, x9, x10, .int .i64 (j : Int), x12, x13, x14, x15, x16, x17, x18, x19, x20, x21, x22, x23, x24, x25, x26, x27, x28, x29, x30, x31, x32, x33, x34, x35, x36, x37, x38, x39, x40, x41, x42, x43, x44, x45, x46, x47, x48, x49, x50, x51, x52, x53, x54, x55, x56, x57, x58, x59, x60, x61, x62, x63, x64, x65, x66, x67, x68, x69, x70, x71, x72, x73, x74, x75, x76, x77, x78, x79, x80, x81, x82, x83, x84, x85, x86, x87, x88, x89, x90, x91, x92, x93, x94, x95, x96, x97], []⟩ wr := by
  have HKp := Lib.hid hKp
  have HIc := Lib.hid hIc
  have hj0 : (0 : Int) ≤ (j : Int) := by omega
  have hji : (j : Int) < (n : Int) := by omega
  obtain ⟨s0, s1, s2, s3, s4, s5, s6, s7, s8, s9⟩ := HKp.out wr (Below.refl _ _)
  have hs1 : E < wr.heap.size := World.block_lt_of_cell? wr _ s0
  have hbw : b < wr.heap.size := World.block_lt_of_cell? wr _ s2
  have kb0 := Lib.hid (show Below wr.heap.size wr wr.drew from (Below.refl _ _).drew)
  have kb1 := Lib.hid (show Below wr.heap.size wr (wr.alloc (.cells #[.int .i64 0, .string ⟨#[]⟩, .int .i64 0, .int .i64 0, .string ⟨#[]⟩, .int .i64 0, .int .i64 0, .slice none 0 0] 56)).drew from (bel0 _ (Below.refl _ _)).drew)
  have kb2 := Lib.hid (show Below wr.heap.size wr (wr.drew.alloc (.cells #[.int .i64 0, .string ⟨#[]⟩, .int .i64 0, .int .i64 0, .string ⟨#[]⟩, .int .i64 0, .int .i64 0, .slice none 0 0] 56)) from (bel0 _ (Below.refl _ _).drew))
  have kd0 := Lib.hid (HKp.out wr.drew (Below.refl _ _).drew)
  have kd1 := Lib.hid (HKp.out (wr.alloc (.cells #[.int .i64 0, .string ⟨#[]⟩, .int .i64 0, .int .i64 0, .string ⟨#[]⟩, .int .i64 0, .int .i64 0, .slice none 0 0] 56)).drew (bel0 _ (Below.refl _ _)).drew)
  have kd2 := Lib.hid (HKp.out (wr.drew.alloc (.cells #[.int .i64 0, .string ⟨#[]⟩, .int .i64 0, .int .i64 0, .string ⟨#[]⟩, .int .i64 0, .int .i64 0, .slice none 0 0] 56)) (bel0 _ (Below.refl _ _).drew))
  have kd3 := Lib.hid (HKp.out (wr.alloc (.cells #[.int .i64 0, .string ⟨#[]⟩, .int .i64 0, .int .i64 0, .string ⟨#[]⟩, .int .i64 0, .int .i64 0, .slice none 0 0] 56)) (bel0 _ (Below.refl _ _)))
  clear hKp hIc hj hn
  conv => arg 2; whnf
  dsimp only
  refine wp_region_noPanic ?_
  refine wp_region_held_drew (S := fun W => (W.cell? ⟨E, 0, none⟩ = some (.int .i64 kind) ∧ W.cell? ⟨E, 7, none⟩ = some (.slice (some ⟨b, off, none⟩) n scp) ∧ W.cell? ⟨b, off + j * 8, none⟩ = some (.int .i64 p.kind) ∧ W.cell? ⟨b, off + j * 8 + 1, none⟩ = some (.string p.op) ∧ W.cell? ⟨b, off + j * 8 + 2, none⟩ = some (.int .i64 p.vk) ∧ W.cell? ⟨b, off + j * 8 + 3, none⟩ = some (.int .i64 p.vn) ∧ W.cell? ⟨b, off + j * 8 + 4, none⟩ = some (.string p.vs) ∧ W.cell? ⟨b, off + j * 8 + 5, none⟩ = some (.string p.tab) ∧ W.cell? ⟨b, off + j * 8 + 6, none⟩ = some (.string p.col) ∧ W.cell? ⟨b, off + j * 8 + 7, none⟩ = some (.slice pa p.parts.length pc))) (by kernel_rfl) kd0.out (fun hHeld => ?_)
  refine wpAnyH_take (i := 0) (oi := _) (v := .pointer (some ⟨D, 0, none⟩)) rfl (by kernel_rfl) (by kernel_rfl) (by kernel_rfl) (fun _ _ _ h => h) (Or.inl ⟨by rfl, ?_⟩) (by assumption) ?_
  · (intro w' hSw; (try dsimp only at hSw); go_simp)
  try simp only [Act.put, List.setIfInBounds_toArray, List.set_cons_zero, List.set_cons_succ]
  refine wpAnyH_take (i := 1) (oi := _) (v := .pointer (some ⟨E, 7, none⟩)) rfl (by kernel_rfl) (by kernel_rfl) (by kernel_rfl) (fun _ _ _ h => h) (Or.inl ⟨by rfl, ?_⟩) (by assumption) ?_
  · (intro w' hSw; (try dsimp only at hSw); go_simp)
  try simp only [Act.put, List.setIfInBounds_toArray, List.set_cons_zero, List.set_cons_succ]
  refine wpAnyH_take (i := 2) (oi := _) (v := .slice (some ⟨b, off, none⟩) n scp) rfl (by kernel_rfl) (by kernel_rfl) (by kernel_rfl) (fun _ _ _ h => h) (Or.inl ⟨by rfl, ?_⟩) (by assumption) ?_
  · (intro w' hSw; (try dsimp only at hSw); go_simp)
  try simp only [Act.put, List.setIfInBounds_toArray, List.set_cons_zero, List.set_cons_succ]
  refine wpAnyH_take (i := 3) (oi := _) (v := .int .i64 (j : Int)) rfl (by kernel_rfl) (by kernel_rfl) (by kernel_rfl) (fun _ _ _ h => h) (Or.inl ⟨by rfl, ?_⟩) (by assumption) ?_
  · (intro w' hSw; (try dsimp only at hSw); go_simp)
  try simp only [Act.put, List.setIfInBounds_toArray, List.set_cons_zero, List.set_cons_succ]
  refine wpAnyH_take (i := 4) (oi := _) (v := .pointer (some ⟨b, off + j * 8, none⟩)) rfl (by kernel_rfl) (by kernel_rfl) (by kernel_rfl) (fun _ _ _ h => h) (Or.inl ⟨by rfl, ?_⟩) (by assumption) ?_
  · (intro w' hSw; (try dsimp only at hSw); go_simp)
  try simp only [Act.put, List.setIfInBounds_toArray, List.set_cons_zero, List.set_cons_succ]
  refine wpAnyH_take (i := 5) (oi := _) (v := .agg #[.int .i64 p.kind, .string p.op, .int .i64 p.vk, .int .i64 p.vn, .string p.vs, .string p.tab, .string p.col, .slice pa p.parts.length pc]) rfl (by kernel_rfl) (by kernel_rfl) (by kernel_rfl) (fun _ _ _ h => h) (Or.inl ⟨by rfl, ?_⟩) (by assumption) ?_
  · (intro w' hSw; (try dsimp only at hSw); go_simp)
  try simp only [Act.put, List.setIfInBounds_toArray, List.set_cons_zero, List.set_cons_succ]
  refine wpAnyH_take (i := 6) (oi := _) (v := .bool true) rfl (by kernel_rfl) (by kernel_rfl) (by kernel_rfl) (fun _ _ _ h => h) (Or.inl ⟨by rfl, ?_⟩) (by assumption) ?_
  · (intro w' hSw; (try dsimp only at hSw); go_simp)
  try simp only [Act.put, List.setIfInBounds_toArray, List.set_cons_zero, List.set_cons_succ]
  refine wpAnyH_take (i := 7) (oi := _) (v := .bool true) rfl (by kernel_rfl) (by kernel_rfl) (by kernel_rfl) (fun _ _ _ h => h) (Or.inl ⟨by rfl, ?_⟩) (by assumption) ?_
  · (intro w' hSw; (try dsimp only at hSw); go_simp)
  try simp only [Act.put, List.setIfInBounds_toArray, List.set_cons_zero, List.set_cons_succ]
  refine wpAnyH_take (i := 8) (oi := _) (v := .pointer (some ⟨E, 0, none⟩)) rfl (by kernel_rfl) (by kernel_rfl) (by kernel_rfl) (fun _ _ _ h => h) (Or.inl ⟨by simp [Region.wanted, yielded], ?_⟩) (by assumption) ?_
  · (intro w' hSw; (try dsimp only at hSw); go_simp)
  try simp only [Act.put, List.setIfInBounds_toArray, List.set_cons_zero, List.set_cons_succ]
  refine wpAnyH_take (i := 9) (oi := _) (v := .int .i64 kind) rfl (by kernel_rfl) (by kernel_rfl) (by kernel_rfl) (fun _ _ _ h => h) (Or.inl ⟨by simp [Region.wanted, yielded], ?_⟩) (by assumption) ?_
  · (intro w' hSw; (try dsimp only at hSw); go_simp)
  try simp only [Act.put, List.setIfInBounds_toArray, List.set_cons_zero, List.set_cons_succ]
  refine wpAnyH_take (i := 10) (oi := _) (v := .bool false) rfl (by kernel_rfl) (by kernel_rfl) (by kernel_rfl) (fun _ _ _ h => h) (Or.inl ⟨by simp [Region.wanted, yielded], ?_⟩) (by assumption) ?_
  · (intro w' hSw; (try dsimp only at hSw); go_simp)
  try simp only [Act.put, List.setIfInBounds_toArray, List.set_cons_zero, List.set_cons_succ]
  refine wpAnyH_take (i := 11) (oi := _) (v := .bool false) rfl (by kernel_rfl) (by kernel_rfl) (by kernel_rfl) (fun _ _ _ h => h) (Or.inl ⟨by rfl, ?_⟩) (by assumption) ?_
  · (intro w' hSw; (try dsimp only at hSw); go_simp)
  try simp only [Act.put, List.setIfInBounds_toArray, List.set_cons_zero, List.set_cons_succ]
  refine wpAnyH_ready (rs := [12, 17]) (by kernel_rfl) (by simp) ?_
  refine AllReadyH.cons (o := _) rfl (fun K hK => ?_) (AllReadyH.cons (o := _) rfl (fun K hK => ?_) AllReadyH.nil)
  · go_simp
    go_at_call 61
    refine (HIc.out _ ?hw).mono ?_
    (case hw => (first | (with_reducible exact kb0.out) | (with_reducible exact kb1.out) | (with_reducible exact kb2.out)))
    rintro e' w4 ⟨⟨vv, rfl, ra, rc, rfl, hcrg, hcl⟩, hb4⟩
    rw [ctX_arrO]
    have HRg4 := Lib.hid hcrg
    have HB4 := Lib.hid (show Below wr.heap.size wr w4 by with_reducible exact drew_below hb4); have HCl4 := Lib.hid (drew_cl hcl); have ke1 := Lib.hid (HKp.out w4 HB4.out); have ke2 := Lib.hid (HKp.out w4.drew HB4.out.drew); have ke3 := Lib.hid (HKp.out (w4.alloc (.cells #[.int .i64 0, .string ⟨#[]⟩, .int .i64 0, .int .i64 0, .string ⟨#[]⟩, .int .i64 0, .int .i64 0, .slice none 0 0] 56)) (bel0 _ HB4.out)); have ke4 := Lib.hid (HKp.out (w4.alloc (.cells #[.int .i64 0, .string ⟨#[]⟩, .int .i64 0, .int .i64 0, .string ⟨#[]⟩, .int .i64 0, .int .i64 0, .slice none 0 0] 56)).drew (bel0 _ HB4.out).drew); have ke5 := Lib.hid (HKp.out (w4.alloc (.cells #[.int .i64 r.1.kind, .string r.1.op, .int .i64 r.1.vk, .int .i64 r.1.vn, .string r.1.vs, .int .i64 r.1.src, .int .i64 r.1.col, .slice ra r.1.parts.length rc] 56)) (bel0 _ HB4.out)); have ke6 := Lib.hid (HKp.out (w4.alloc (.cells #[.int .i64 r.1.kind, .string r.1.op, .int .i64 r.1.vk, .int .i64 r.1.vn, .string r.1.vs, .int .i64 r.1.src, .int .i64 r.1.col, .slice ra r.1.parts.length rc] 56)).drew (bel0 _ HB4.out).drew); clear hb4 hcrg hcl
    refine hK.out _ _ (by first | (with_reducible exact ke1.out) | (with_reducible exact ke2.out)) (fun hHeld2 => ?_)
    clear hK K hHeld
    have hHeld := hHeld2
    clear hHeld2
    try simp only [Act.put, List.setIfInBounds_toArray, List.set_cons_zero, List.set_cons_succ]
    refine wpAnyH_take (i := 13) (oi := _) (v := .tuple #[.agg #[.int .i64 r.1.kind, .string r.1.op, .int .i64 r.1.vk, .int .i64 r.1.vn, .string r.1.vs, .int .i64 r.1.src, .int .i64 r.1.col, .slice ra r.1.parts.length rc], .int .i64 r.2.1, .int .i64 r.2.2]) rfl (by kernel_rfl) (by kernel_rfl) (by kernel_rfl) (fun _ _ _ h => h) (Or.inl ⟨by rfl, ?_⟩) (by assumption) ?_
    · (intro w' hSw; (try dsimp only at hSw); go_simp)
    try simp only [Act.put, List.setIfInBounds_toArray, List.set_cons_zero, List.set_cons_succ]
    refine wpAnyH_take (i := 14) (oi := _) (v := .agg #[.int .i64 r.1.kind, .string r.1.op, .int .i64 r.1.vk, .int .i64 r.1.vn, .string r.1.vs, .int .i64 r.1.src, .int .i64 r.1.col, .slice ra r.1.parts.length rc]) rfl (by kernel_rfl) (by kernel_rfl) (by kernel_rfl) (fun _ _ _ h => h) (Or.inl ⟨by rfl, ?_⟩) (by assumption) ?_
    · (intro w' hSw; (try dsimp only at hSw); go_simp)
    try simp only [Act.put, List.setIfInBounds_toArray, List.set_cons_zero, List.set_cons_succ]
    refine wpAnyH_take (i := 15) (oi := _) (v := .int .i64 r.2.1) rfl (by kernel_rfl) (by kernel_rfl) (by kernel_rfl) (fun _ _ _ h => h) (Or.inl ⟨by rfl, ?_⟩) (by assumption) ?_
    · (intro w' hSw; (try dsimp only at hSw); go_simp)
    try simp only [Act.put, List.setIfInBounds_toArray, List.set_cons_zero, List.set_cons_succ]
    refine wpAnyH_take (i := 16) (oi := _) (v := .int .i64 r.2.2) rfl (by kernel_rfl) (by kernel_rfl) (by kernel_rfl) (fun _ _ _ h => h) (Or.inl ⟨by rfl, ?_⟩) (by assumption) ?_
    · (intro w' hSw; (try dsimp only at hSw); go_simp)
    try simp only [Act.put, List.setIfInBounds_toArray, List.set_cons_zero, List.set_cons_succ]
    refine wpAnyH_ready (rs := [17]) (by kernel_rfl) (by simp) ?_
    refine AllReadyH.cons (o := _) rfl (fun K hK => ?_) AllReadyH.nil
    go_simp
    refine hK.out _ _ (by first | (with_reducible exact ke3.out) | (with_reducible exact ke4.out) | (with_reducible exact ke5.out) | (with_reducible exact ke6.out)) (fun hHeld2 => ?_)
    clear hK K hHeld
    have hHeld := hHeld2
    clear hHeld2
    try simp only [Act.put, List.setIfInBounds_toArray, List.set_cons_zero, List.set_cons_succ]
    refine wpAnyH_ready (rs := [18]) (by kernel_rfl) (by simp) ?_
    refine AllReadyH.cons (o := _) rfl (fun K hK => ?_) AllReadyH.nil
    go_simp
    refine hK.out _ _ (by first | (with_reducible exact ke3.out) | (with_reducible exact ke4.out) | (with_reducible exact ke5.out) | (with_reducible exact ke6.out)) (fun hHeld2 => ?_)
    clear hK K hHeld
    have hHeld := hHeld2
    clear hHeld2
    try simp only [Act.put, List.setIfInBounds_toArray, List.set_cons_zero, List.set_cons_succ]
    refine wpAnyH_takeD (i := 19) (d := 13) (oi := _) (v := .int .i64 r.2.1) rfl (by rfl) (by kernel_rfl) (by kernel_rfl) (by kernel_rfl) (fun _ _ _ h => h) (Or.inl ⟨by rfl, ?_⟩) (by assumption) ?_
    · (intro w' hSw; (try dsimp only at hSw); go_simp)
    try simp only [Act.put, List.setIfInBounds_toArray, List.set_cons_zero, List.set_cons_succ]
    refine wpAnyH_takeD (i := 20) (d := 14) (oi := _) (v := .int .i64 r.2.2) rfl (by rfl) (by kernel_rfl) (by kernel_rfl) (by kernel_rfl) (fun _ _ _ h => h) (Or.inl ⟨by rfl, ?_⟩) (by assumption) ?_
    · (intro w' hSw; (try dsimp only at hSw); go_simp)
    try simp only [Act.put, List.setIfInBounds_toArray, List.set_cons_zero, List.set_cons_succ]
    refine wpAnyH_done (by kernel_rfl) ?_ _
    refine NoPanic.normal ?_
    exact ⟨rfl, w4.heap.size, ra, rc, _, _, _, _, _, _, _, _, _, _, _, _, _, _, _, _, _, rfl, Go.heap_alloc_new w4 _, HB4.out.size, bel0 _ HB4.out, HRg4.out, HCl4.out.keep (bel0 _ (Below.refl _ _))⟩
  · go_simp
    refine hK.out _ _ (by first | (with_reducible exact kd1.out) | (with_reducible exact kd2.out) | (with_reducible exact kd3.out)) (fun hHeld2 => ?_)
    clear hK K hHeld
    have hHeld := hHeld2
    clear hHeld2
    try simp only [Act.put, List.setIfInBounds_toArray, List.set_cons_zero, List.set_cons_succ]
    refine wpAnyH_ready (rs := [12]) (by kernel_rfl) (by simp) ?_
    refine AllReadyH.cons (o := _) rfl (fun K hK => ?_) AllReadyH.nil
    go_simp
    go_at_call 61
    refine (HIc.out _ ?hw).mono ?_
    (case hw => (first | (with_reducible exact kb0.out) | (with_reducible exact kb1.out) | (with_reducible exact kb2.out)))
    rintro e' w4 ⟨⟨vv, rfl, ra, rc, rfl, hcrg, hcl⟩, hb4⟩
    rw [ctX_arrO]
    have HRg4 := Lib.hid hcrg
    have hX4 : w4.heap[wr.heap.size]? = some (.cells #[.int .i64 0, .string ⟨#[]⟩, .int .i64 0, .int .i64 0, .string ⟨#[]⟩, .int .i64 0, .int .i64 0, .slice none 0 0] 56 (0, 0)) := (by with_reducible exact alloc_drew_block hb4); have HX4 := Lib.hid hX4; have HB4 := Lib.hid (show Below wr.heap.size wr w4 by with_reducible exact alloc_drew_below hb4); have HCl4 := Lib.hid (show CL w4 (fun b => wr.heap.size + 1 ≤ b) ra r.1.parts by with_reducible exact alloc_drew_cl hcl); obtain ⟨y0, y1, y2, y3, y4, y5, y6, y7, z0, z1, z2, z3, z4, z5, z6, z7, c7⟩ := z8 hX4; have ke1 := Lib.hid (HKp.out w4 HB4.out); have ke2 := Lib.hid (HKp.out w4.drew HB4.out.drew); have kf1 := Lib.hid (HKp.out _ (st8_below (Nat.le_refl _) HB4.out (.int .i64 r.1.kind) (.string r.1.op) (.int .i64 r.1.vk) (.int .i64 r.1.vn) (.string r.1.vs) (.int .i64 r.1.src) (.int .i64 r.1.col) (.slice ra r.1.parts.length rc))); have kf2 := Lib.hid (HKp.out _ (st8_below (Nat.le_refl _) HB4.out (.int .i64 r.1.kind) (.string r.1.op) (.int .i64 r.1.vk) (.int .i64 r.1.vn) (.string r.1.vs) (.int .i64 r.1.src) (.int .i64 r.1.col) (.slice ra r.1.parts.length rc)).drew); clear hX4 hb4 hcrg hcl
    refine hK.out _ _ (by first | (with_reducible exact ke1.out) | (with_reducible exact ke2.out)) (fun hHeld2 => ?_)
    clear hK K hHeld
    have hHeld := hHeld2
    clear hHeld2
    try simp only [Act.put, List.setIfInBounds_toArray, List.set_cons_zero, List.set_cons_succ]
    refine wpAnyH_take (i := 13) (oi := _) (v := .tuple #[.agg #[.int .i64 r.1.kind, .string r.1.op, .int .i64 r.1.vk, .int .i64 r.1.vn, .string r.1.vs, .int .i64 r.1.src, .int .i64 r.1.col, .slice ra r.1.parts.length rc], .int .i64 r.2.1, .int .i64 r.2.2]) rfl (by kernel_rfl) (by kernel_rfl) (by kernel_rfl) (fun _ _ _ h => h) (Or.inl ⟨by rfl, ?_⟩) (by assumption) ?_
    · (intro w' hSw; (try dsimp only at hSw); go_simp)
    try simp only [Act.put, List.setIfInBounds_toArray, List.set_cons_zero, List.set_cons_succ]
    refine wpAnyH_take (i := 14) (oi := _) (v := .agg #[.int .i64 r.1.kind, .string r.1.op, .int .i64 r.1.vk, .int .i64 r.1.vn, .string r.1.vs, .int .i64 r.1.src, .int .i64 r.1.col, .slice ra r.1.parts.length rc]) rfl (by kernel_rfl) (by kernel_rfl) (by kernel_rfl) (fun _ _ _ h => h) (Or.inl ⟨by rfl, ?_⟩) (by assumption) ?_
    · (intro w' hSw; (try dsimp only at hSw); go_simp)
    try simp only [Act.put, List.setIfInBounds_toArray, List.set_cons_zero, List.set_cons_succ]
    refine wpAnyH_take (i := 15) (oi := _) (v := .int .i64 r.2.1) rfl (by kernel_rfl) (by kernel_rfl) (by kernel_rfl) (fun _ _ _ h => h) (Or.inl ⟨by rfl, ?_⟩) (by assumption) ?_
    · (intro w' hSw; (try dsimp only at hSw); go_simp)
    try simp only [Act.put, List.setIfInBounds_toArray, List.set_cons_zero, List.set_cons_succ]
    refine wpAnyH_take (i := 16) (oi := _) (v := .int .i64 r.2.2) rfl (by kernel_rfl) (by kernel_rfl) (by kernel_rfl) (fun _ _ _ h => h) (Or.inl ⟨by rfl, ?_⟩) (by assumption) ?_
    · (intro w' hSw; (try dsimp only at hSw); go_simp)
    try simp only [Act.put, List.setIfInBounds_toArray, List.set_cons_zero, List.set_cons_succ]
    refine wpAnyH_ready (rs := [18]) (by kernel_rfl) (by simp) ?_
    refine AllReadyH.cons (o := _) rfl (fun K hK => ?_) AllReadyH.nil
    go_simp
    refine hK.out _ _ (by first | (with_reducible exact kf1.out) | (with_reducible exact kf2.out)) (fun hHeld2 => ?_)
    clear hK K hHeld
    have hHeld := hHeld2
    clear hHeld2
    try simp only [Act.put, List.setIfInBounds_toArray, List.set_cons_zero, List.set_cons_succ]
    refine wpAnyH_takeD (i := 19) (d := 13) (oi := _) (v := .int .i64 r.2.1) rfl (by rfl) (by kernel_rfl) (by kernel_rfl) (by kernel_rfl) (fun _ _ _ h => h) (Or.inl ⟨by rfl, ?_⟩) (by assumption) ?_
    · (intro w' hSw; (try dsimp only at hSw); go_simp)
    try simp only [Act.put, List.setIfInBounds_toArray, List.set_cons_zero, List.set_cons_succ]
    refine wpAnyH_takeD (i := 20) (d := 14) (oi := _) (v := .int .i64 r.2.2) rfl (by rfl) (by kernel_rfl) (by kernel_rfl) (by kernel_rfl) (fun _ _ _ h => h) (Or.inl ⟨by rfl, ?_⟩) (by assumption) ?_
    · (intro w' hSw; (try dsimp only at hSw); go_simp)
    try simp only [Act.put, List.setIfInBounds_toArray, List.set_cons_zero, List.set_cons_succ]
    refine wpAnyH_done (by kernel_rfl) ?_ _
    refine NoPanic.normal ?_
    exact ⟨rfl, wr.heap.size, ra, rc, _, _, _, _, _, _, _, _, _, _, _, _, _, _, _, _, _, rfl, box8 HX4.out (.int .i64 r.1.kind) (.string r.1.op) (.int .i64 r.1.vk) (.int .i64 r.1.vn) (.string r.1.vs) (.int .i64 r.1.src) (.int .i64 r.1.col) (.slice ra r.1.parts.length rc), Nat.le_refl _, st8_below (Nat.le_refl _) HB4.out (.int .i64 r.1.kind) (.string r.1.op) (.int .i64 r.1.vk) (.int .i64 r.1.vn) (.string r.1.vs) (.int .i64 r.1.src) (.int .i64 r.1.col) (.slice ra r.1.parts.length rc), HRg4.out, (cl_set8 (Nat.lt_succ_self _) HCl4.out (.int .i64 r.1.kind) (.string r.1.op) (.int .i64 r.1.vk) (.int .i64 r.1.vn) (.string r.1.vs) (.int .i64 r.1.src) (.int .i64 r.1.col) (.slice ra r.1.parts.length rc)).mono (fun b hb _ => Nat.le_of_succ_le hb)⟩
end Go.Proofs.Ytafhgilikcablaa
namespace Go.Proofs.Ytafhgilikcablaa
open Go.RowKit
set_option linter.unusedVariables false
set_option linter.unusedSimpArgs false
set_option maxRecDepth 100000
set_option maxHeartbeats 12800000 in
theorem rc11_2 (D E b off n scp j pc : Nat) (kind : Int) (p : ET) (pa : Option Addr) (r : CT × Int × Int) (wr : World) (x1 x3 x5 x6 x7 x8 x9 x10 x12 x13 x14 x15 x16 x17 x18 x19 x20 x21 x22 x23 x24 x25 x26 x27 x28 x29 x30 x31 x32 x33 x34 x35 x36 x37 x38 x39 x40 x41 x42 x43 x44 x45 x46 x47 x48 x49 x50 x51 x52 x53 x54 x55 x56 x57 x58 x59 x60 x61 x62 x63 x64 x65 x66 x67 x68 x69 x70 x71 x72 x73 x74 x75 x76 x77 x78 x79 x80 x81 x82 x83 x84 x85 x86 x87 x88 x89 x90 x91 x92 x93 x94 x95 x96 x97 : Value)
    (hKp : ∀ W : World, Below wr.heap.size wr W → (W.cell? ⟨E, 0, none⟩ = some (.int .i64 kind) ∧ W.cell? ⟨E, 7, none⟩ = some (.slice (some ⟨b, off, none⟩) n scp) ∧ W.cell? ⟨b, off + j * 8, none⟩ = some (.int .i64 p.kind) ∧ W.cell? ⟨b, off + j * 8 + 1, none⟩ = some (.string p.op) ∧ W.cell? ⟨b, off + j * 8 + 2, none⟩ = some (.int .i64 p.vk) ∧ W.cell? ⟨b, off + j * 8 + 3, none⟩ = some (.int .i64 p.vn) ∧ W.cell? ⟨b, off + j * 8 + 4, none⟩ = some (.string p.vs) ∧ W.cell? ⟨b, off + j * 8 + 5, none⟩ = some (.string p.tab) ∧ W.cell? ⟨b, off + j * 8 + 6, none⟩ = some (.string p.col) ∧ W.cell? ⟨b, off + j * 8 + 7, none⟩ = some (.slice pa p.parts.length pc))) (hj : j < n) (hn : n ≤ 1000) (hk6 : (kind != 6) = true)
    (hIc : ∀ W : World, Below wr.heap.size wr W → Calls Try.prog 61 #[.pointer (some ⟨D, 0, none⟩), .agg #[.int .i64 p.kind, .string p.op, .int .i64 p.vk, .int .i64 p.vn, .string p.vs, .string p.tab, .string p.col, .slice pa p.parts.length pc], .bool true] W (CellAns W r)) :
    Rc11.wp Try.prog (fun e a' wx => e = .normal ∧ ∃ (Bx : Nat) (ra : Option Addr) (rc : Nat) (u46 u47 u48 u49 u50 u51 u52 u53 u54 u55 u56 u57 u58 u59 u60 u61 u62 : Value), a' = ⟨#[.pointer (some ⟨D, 0, none⟩), x1, .bool true, x3, .pointer (some ⟨E, 0, none⟩), x5, x6, x7, x8, x9, x10, .int .i64 (j : Int), .pointer (some ⟨Bx, 0, none⟩), .int .i64 r.2.1, .int .i64 r.2.2, x15, x16, x17, x18, x19, x20, x21, x22, x23, x24, x25, x26, x27, x28, x29, x30, x31, x32, x33, x34, x35, x36, x37, x38, x39, x40, x41, x42, x43, x44, x45, u46, u47, u48, u49, u50, u51, u52, u53, u54, u55, u56, u57, u58, u59, u60, u61, u62, x63, x64, x65, x66, x67, x68, x69, x70, x71, x72, x73, x74, x75, x76, x77, x78, x79, x80, x81, x82, x83, x84, x85, x86, x87, x88, x89, x90, x91, x92, x93, x94, x95, x96, x97], []⟩ ∧ wx.heap[Bx]? = some (.cells #[.int .i64 r.1.kind, .string r.1.op, .int .i64 r.1.vk, .int .i64 r.1.vn, .string r.1.vs, .int .i64 r.1.src, .int .i64 r.1.col, .slice ra r.1.parts.length rc] 56 (0, 0)) ∧ wr.heap.size ≤ Bx ∧ Below wr.heap.size wr wx ∧ CRg r.1 ra rc ∧ CL wx (fun b => wr.heap.size ≤ b) ra r.1.parts) ⟨#[.pointer (some ⟨D, 0, none⟩), x1, .bool true, x3, .pointer (some ⟨E, 0, none⟩), x5, x6, x7, x8, x9, x10, .int .i64 (j : Int), x12, x13, x14, x15, x16, x17, x18, x19, x20, x21, x22, x23, x24, x25, x26, x27, x28, x29, x30, x31, x32, x33, x34, x35, x36, x37, x38, x39, x40, x41, x42, x43, x44, x45, x46, x47, x48, x49, x50, x51, x52, x53, x54, x55, x56, x57, x58, x59, x60, x61, x62, x63, x64, x65, x66, x67, x68, x69, x70, x71, x72, x73, x74, x75, x76, x77, x78, x79, x80, x81, x82, x83, x84, x85, x86, x87, x88, x89, x90, x91, x92, x93, x94, x95, x96, x97], []⟩ wr := by
  have HKp := Lib.hid hKp
  have HIc := Lib.hid hIc
  have hj0 : (0 : Int) ≤ (j : Int) := by omega
  have hji : (j : Int) < (n : Int) := by omega
  obtain ⟨s0, s1, s2, s3, s4, s5, s6, s7, s8, s9⟩ := HKp.out wr (Below.refl _ _)
  have hs1 : E < wr.heap.size := World.block_lt_of_cell? wr _ s0
  have hbw : b < wr.heap.size := World.block_lt_of_cell? wr _ s2
  have kb0 := Lib.hid (show Below wr.heap.size wr wr.drew from (Below.refl _ _).drew)
  have kb1 := Lib.hid (show Below wr.heap.size wr (wr.alloc (.cells #[.int .i64 0, .string ⟨#[]⟩, .int .i64 0, .int .i64 0, .string ⟨#[]⟩, .int .i64 0, .int .i64 0, .slice none 0 0] 56)).drew from (bel0 _ (Below.refl _ _)).drew)
  have kb2 := Lib.hid (show Below wr.heap.size wr (wr.drew.alloc (.cells #[.int .i64 0, .string ⟨#[]⟩, .int .i64 0, .int .i64 0, .string ⟨#[]⟩, .int .i64 0, .int .i64 0, .slice none 0 0] 56)) from (bel0 _ (Below.refl _ _).drew))
  have kd0 := Lib.hid (HKp.out wr.drew (Below.refl _ _).drew)
  have kd1 := Lib.hid (HKp.out (wr.alloc (.cells #[.int .i64 0, .string ⟨#[]⟩, .int .i64 0, .int .i64 0, .string ⟨#[]⟩, .int .i64 0, .int .i64 0, .slice none 0 0] 56)).drew (bel0 _ (Below.refl _ _)).drew)
  have kd2 := Lib.hid (HKp.out (wr.drew.alloc (.cells #[.int .i64 0, .string ⟨#[]⟩, .int .i64 0, .int .i64 0, .string ⟨#[]⟩, .int .i64 0, .int .i64 0, .slice none 0 0] 56)) (bel0 _ (Below.refl _ _).drew))
  have kd3 := Lib.hid (HKp.out (wr.alloc (.cells #[.int .i64 0, .string ⟨#[]⟩, .int .i64 0, .int .i64 0, .string ⟨#[]⟩, .int .i64 0, .int .i64 0, .slice none 0 0] 56)) (bel0 _ (Below.refl _ _)))
  clear hKp hIc hj hn
  conv => arg 2; whnf
  dsimp only
  refine wp_region_noPanic ?_
  refine wp_region_held_drew (S := fun W => (W.cell? ⟨E, 0, none⟩ = some (.int .i64 kind) ∧ W.cell? ⟨E, 7, none⟩ = some (.slice (some ⟨b, off, none⟩) n scp) ∧ W.cell? ⟨b, off + j * 8, none⟩ = some (.int .i64 p.kind) ∧ W.cell? ⟨b, off + j * 8 + 1, none⟩ = some (.string p.op) ∧ W.cell? ⟨b, off + j * 8 + 2, none⟩ = some (.int .i64 p.vk) ∧ W.cell? ⟨b, off + j * 8 + 3, none⟩ = some (.int .i64 p.vn) ∧ W.cell? ⟨b, off + j * 8 + 4, none⟩ = some (.string p.vs) ∧ W.cell? ⟨b, off + j * 8 + 5, none⟩ = some (.string p.tab) ∧ W.cell? ⟨b, off + j * 8 + 6, none⟩ = some (.string p.col) ∧ W.cell? ⟨b, off + j * 8 + 7, none⟩ = some (.slice pa p.parts.length pc))) (by kernel_rfl) kd0.out (fun hHeld => ?_)
  refine wpAnyH_take (i := 0) (oi := _) (v := .pointer (some ⟨D, 0, none⟩)) rfl (by kernel_rfl) (by kernel_rfl) (by kernel_rfl) (fun _ _ _ h => h) (Or.inl ⟨by rfl, ?_⟩) (by assumption) ?_
  · (intro w' hSw; (try dsimp only at hSw); go_simp)
  try simp only [Act.put, List.setIfInBounds_toArray, List.set_cons_zero, List.set_cons_succ]
  refine wpAnyH_take (i := 1) (oi := _) (v := .pointer (some ⟨E, 7, none⟩)) rfl (by kernel_rfl) (by kernel_rfl) (by kernel_rfl) (fun _ _ _ h => h) (Or.inl ⟨by rfl, ?_⟩) (by assumption) ?_
  · (intro w' hSw; (try dsimp only at hSw); go_simp)
  try simp only [Act.put, List.setIfInBounds_toArray, List.set_cons_zero, List.set_cons_succ]
  refine wpAnyH_take (i := 2) (oi := _) (v := .slice (some ⟨b, off, none⟩) n scp) rfl (by kernel_rfl) (by kernel_rfl) (by kernel_rfl) (fun _ _ _ h => h) (Or.inl ⟨by rfl, ?_⟩) (by assumption) ?_
  · (intro w' hSw; (try dsimp only at hSw); go_simp)
  try simp only [Act.put, List.setIfInBounds_toArray, List.set_cons_zero, List.set_cons_succ]
  refine wpAnyH_take (i := 3) (oi := _) (v := .int .i64 (j : Int)) rfl (by kernel_rfl) (by kernel_rfl) (by kernel_rfl) (fun _ _ _ h => h) (Or.inl ⟨by rfl, ?_⟩) (by assumption) ?_
  · (intro w' hSw; (try dsimp only at hSw); go_simp)
  try simp only [Act.put, List.setIfInBounds_toArray, List.set_cons_zero, List.set_cons_succ]
  refine wpAnyH_take (i := 4) (oi := _) (v := .pointer (some ⟨b, off + j * 8, none⟩)) rfl (by kernel_rfl) (by kernel_rfl) (by kernel_rfl) (fun _ _ _ h => h) (Or.inl ⟨by rfl, ?_⟩) (by assumption) ?_
  · (intro w' hSw; (try dsimp only at hSw); go_simp)
  try simp only [Act.put, List.setIfInBounds_toArray, List.set_cons_zero, List.set_cons_succ]
  refine wpAnyH_take (i := 5) (oi := _) (v := .agg #[.int .i64 p.kind, .string p.op, .int .i64 p.vk, .int .i64 p.vn, .string p.vs, .string p.tab, .string p.col, .slice pa p.parts.length pc]) rfl (by kernel_rfl) (by kernel_rfl) (by kernel_rfl) (fun _ _ _ h => h) (Or.inl ⟨by rfl, ?_⟩) (by assumption) ?_
  · (intro w' hSw; (try dsimp only at hSw); go_simp)
  try simp only [Act.put, List.setIfInBounds_toArray, List.set_cons_zero, List.set_cons_succ]
  refine wpAnyH_take (i := 6) (oi := _) (v := .bool true) rfl (by kernel_rfl) (by kernel_rfl) (by kernel_rfl) (fun _ _ _ h => h) (Or.inl ⟨by rfl, ?_⟩) (by assumption) ?_
  · (intro w' hSw; (try dsimp only at hSw); go_simp)
  try simp only [Act.put, List.setIfInBounds_toArray, List.set_cons_zero, List.set_cons_succ]
  refine wpAnyH_take (i := 7) (oi := _) (v := .bool true) rfl (by kernel_rfl) (by kernel_rfl) (by kernel_rfl) (fun _ _ _ h => h) (Or.inl ⟨by rfl, ?_⟩) (by assumption) ?_
  · (intro w' hSw; (try dsimp only at hSw); go_simp)
  try simp only [Act.put, List.setIfInBounds_toArray, List.set_cons_zero, List.set_cons_succ]
  refine wpAnyH_take (i := 8) (oi := _) (v := .pointer (some ⟨E, 0, none⟩)) rfl (by kernel_rfl) (by kernel_rfl) (by kernel_rfl) (fun _ _ _ h => h) (Or.inl ⟨by simp [Region.wanted, yielded], ?_⟩) (by assumption) ?_
  · (intro w' hSw; (try dsimp only at hSw); go_simp)
  try simp only [Act.put, List.setIfInBounds_toArray, List.set_cons_zero, List.set_cons_succ]
  refine wpAnyH_take (i := 9) (oi := _) (v := .int .i64 kind) rfl (by kernel_rfl) (by kernel_rfl) (by kernel_rfl) (fun _ _ _ h => h) (Or.inl ⟨by simp [Region.wanted, yielded], ?_⟩) (by assumption) ?_
  · (intro w' hSw; (try dsimp only at hSw); go_simp)
  try simp only [Act.put, List.setIfInBounds_toArray, List.set_cons_zero, List.set_cons_succ]
  refine wpAnyH_take (i := 10) (oi := _) (v := .bool true) rfl (by kernel_rfl) (by kernel_rfl) (by kernel_rfl) (fun _ _ _ h => h) (Or.inl ⟨by simp [Region.wanted, yielded], ?_⟩) (by assumption) ?_
  · (intro w' hSw; (try dsimp only at hSw); go_simp)
  try simp only [Act.put, List.setIfInBounds_toArray, List.set_cons_zero, List.set_cons_succ]
  refine wpAnyH_take (i := 11) (oi := _) (v := .bool true) rfl (by kernel_rfl) (by kernel_rfl) (by kernel_rfl) (fun _ _ _ h => h) (Or.inl ⟨by rfl, ?_⟩) (by assumption) ?_
  · (intro w' hSw; (try dsimp only at hSw); go_simp)
  try simp only [Act.put, List.setIfInBounds_toArray, List.set_cons_zero, List.set_cons_succ]
  refine wpAnyH_ready (rs := [12, 17]) (by kernel_rfl) (by simp) ?_
  refine AllReadyH.cons (o := _) rfl (fun K hK => ?_) (AllReadyH.cons (o := _) rfl (fun K hK => ?_) AllReadyH.nil)
  · go_simp
    go_at_call 61
    refine (HIc.out _ ?hw).mono ?_
    (case hw => (first | (with_reducible exact kb0.out) | (with_reducible exact kb1.out) | (with_reducible exact kb2.out)))
    rintro e' w4 ⟨⟨vv, rfl, ra, rc, rfl, hcrg, hcl⟩, hb4⟩
    rw [ctX_arrO]
    have HRg4 := Lib.hid hcrg
    have HB4 := Lib.hid (show Below wr.heap.size wr w4 by with_reducible exact drew_below hb4); have HCl4 := Lib.hid (drew_cl hcl); have ke1 := Lib.hid (HKp.out w4 HB4.out); have ke2 := Lib.hid (HKp.out w4.drew HB4.out.drew); have ke3 := Lib.hid (HKp.out (w4.alloc (.cells #[.int .i64 0, .string ⟨#[]⟩, .int .i64 0, .int .i64 0, .string ⟨#[]⟩, .int .i64 0, .int .i64 0, .slice none 0 0] 56)) (bel0 _ HB4.out)); have ke4 := Lib.hid (HKp.out (w4.alloc (.cells #[.int .i64 0, .string ⟨#[]⟩, .int .i64 0, .int .i64 0, .string ⟨#[]⟩, .int .i64 0, .int .i64 0, .slice none 0 0] 56)).drew (bel0 _ HB4.out).drew); have ke5 := Lib.hid (HKp.out (w4.alloc (.cells #[.int .i64 r.1.kind, .string r.1.op, .int .i64 r.1.vk, .int .i64 r.1.vn, .string r.1.vs, .int .i64 r.1.src, .int .i64 r.1.col, .slice ra r.1.parts.length rc] 56)) (bel0 _ HB4.out)); have ke6 := Lib.hid (HKp.out (w4.alloc (.cells #[.int .i64 r.1.kind, .string r.1.op, .int .i64 r.1.vk, .int .i64 r.1.vn, .string r.1.vs, .int .i64 r.1.src, .int .i64 r.1.col, .slice ra r.1.parts.length rc] 56)).drew (bel0 _ HB4.out).drew); clear hb4 hcrg hcl
    refine hK.out _ _ (by first | (with_reducible exact ke1.out) | (with_reducible exact ke2.out)) (fun hHeld2 => ?_)
    clear hK K hHeld
    have hHeld := hHeld2
    clear hHeld2
    try simp only [Act.put, List.setIfInBounds_toArray, List.set_cons_zero, List.set_cons_succ]
    refine wpAnyH_take (i := 13) (oi := _) (v := .tuple #[.agg #[.int .i64 r.1.kind, .string r.1.op, .int .i64 r.1.vk, .int .i64 r.1.vn, .string r.1.vs, .int .i64 r.1.src, .int .i64 r.1.col, .slice ra r.1.parts.length rc], .int .i64 r.2.1, .int .i64 r.2.2]) rfl (by kernel_rfl) (by kernel_rfl) (by kernel_rfl) (fun _ _ _ h => h) (Or.inl ⟨by rfl, ?_⟩) (by assumption) ?_
    · (intro w' hSw; (try dsimp only at hSw); go_simp)
    try simp only [Act.put, List.setIfInBounds_toArray, List.set_cons_zero, List.set_cons_succ]
    refine wpAnyH_take (i := 14) (oi := _) (v := .agg #[.int .i64 r.1.kind, .string r.1.op, .int .i64 r.1.vk, .int .i64 r.1.vn, .string r.1.vs, .int .i64 r.1.src, .int .i64 r.1.col, .slice ra r.1.parts.length rc]) rfl (by kernel_rfl) (by kernel_rfl) (by kernel_rfl) (fun _ _ _ h => h) (Or.inl ⟨by rfl, ?_⟩) (by assumption) ?_
    · (intro w' hSw; (try dsimp only at hSw); go_simp)
    try simp only [Act.put, List.setIfInBounds_toArray, List.set_cons_zero, List.set_cons_succ]
    refine wpAnyH_take (i := 15) (oi := _) (v := .int .i64 r.2.1) rfl (by kernel_rfl) (by kernel_rfl) (by kernel_rfl) (fun _ _ _ h => h) (Or.inl ⟨by rfl, ?_⟩) (by assumption) ?_
    · (intro w' hSw; (try dsimp only at hSw); go_simp)
    try simp only [Act.put, List.setIfInBounds_toArray, List.set_cons_zero, List.set_cons_succ]
    refine wpAnyH_take (i := 16) (oi := _) (v := .int .i64 r.2.2) rfl (by kernel_rfl) (by kernel_rfl) (by kernel_rfl) (fun _ _ _ h => h) (Or.inl ⟨by rfl, ?_⟩) (by assumption) ?_
    · (intro w' hSw; (try dsimp only at hSw); go_simp)
    try simp only [Act.put, List.setIfInBounds_toArray, List.set_cons_zero, List.set_cons_succ]
    refine wpAnyH_ready (rs := [17]) (by kernel_rfl) (by simp) ?_
    refine AllReadyH.cons (o := _) rfl (fun K hK => ?_) AllReadyH.nil
    go_simp
    refine hK.out _ _ (by first | (with_reducible exact ke3.out) | (with_reducible exact ke4.out) | (with_reducible exact ke5.out) | (with_reducible exact ke6.out)) (fun hHeld2 => ?_)
    clear hK K hHeld
    have hHeld := hHeld2
    clear hHeld2
    try simp only [Act.put, List.setIfInBounds_toArray, List.set_cons_zero, List.set_cons_succ]
    refine wpAnyH_ready (rs := [18]) (by kernel_rfl) (by simp) ?_
    refine AllReadyH.cons (o := _) rfl (fun K hK => ?_) AllReadyH.nil
    go_simp
    refine hK.out _ _ (by first | (with_reducible exact ke3.out) | (with_reducible exact ke4.out) | (with_reducible exact ke5.out) | (with_reducible exact ke6.out)) (fun hHeld2 => ?_)
    clear hK K hHeld
    have hHeld := hHeld2
    clear hHeld2
    try simp only [Act.put, List.setIfInBounds_toArray, List.set_cons_zero, List.set_cons_succ]
    refine wpAnyH_takeD (i := 19) (d := 13) (oi := _) (v := .int .i64 r.2.1) rfl (by rfl) (by kernel_rfl) (by kernel_rfl) (by kernel_rfl) (fun _ _ _ h => h) (Or.inl ⟨by rfl, ?_⟩) (by assumption) ?_
    · (intro w' hSw; (try dsimp only at hSw); go_simp)
    try simp only [Act.put, List.setIfInBounds_toArray, List.set_cons_zero, List.set_cons_succ]
    refine wpAnyH_takeD (i := 20) (d := 14) (oi := _) (v := .int .i64 r.2.2) rfl (by rfl) (by kernel_rfl) (by kernel_rfl) (by kernel_rfl) (fun _ _ _ h => h) (Or.inl ⟨by rfl, ?_⟩) (by assumption) ?_
    · (intro w' hSw; (try dsimp only at hSw); go_simp)
    try simp only [Act.put, List.setIfInBounds_toArray, List.set_cons_zero, List.set_cons_succ]
    refine wpAnyH_done (by kernel_rfl) ?_ _
    refine NoPanic.normal ?_
    exact ⟨rfl, w4.heap.size, ra, rc, _, _, _, _, _, _, _, _, _, _, _, _, _, _, _, _, _, rfl, Go.heap_alloc_new w4 _, HB4.out.size, bel0 _ HB4.out, HRg4.out, HCl4.out.keep (bel0 _ (Below.refl _ _))⟩
  · go_simp
    refine hK.out _ _ (by first | (with_reducible exact kd1.out) | (with_reducible exact kd2.out) | (with_reducible exact kd3.out)) (fun hHeld2 => ?_)
    clear hK K hHeld
    have hHeld := hHeld2
    clear hHeld2
    try simp only [Act.put, List.setIfInBounds_toArray, List.set_cons_zero, List.set_cons_succ]
    refine wpAnyH_ready (rs := [12]) (by kernel_rfl) (by simp) ?_
    refine AllReadyH.cons (o := _) rfl (fun K hK => ?_) AllReadyH.nil
    go_simp
    go_at_call 61
    refine (HIc.out _ ?hw).mono ?_
    (case hw => (first | (with_reducible exact kb0.out) | (with_reducible exact kb1.out) | (with_reducible exact kb2.out)))
    rintro e' w4 ⟨⟨vv, rfl, ra, rc, rfl, hcrg, hcl⟩, hb4⟩
    rw [ctX_arrO]
    have HRg4 := Lib.hid hcrg
    have hX4 : w4.heap[wr.heap.size]? = some (.cells #[.int .i64 0, .string ⟨#[]⟩, .int .i64 0, .int .i64 0, .string ⟨#[]⟩, .int .i64 0, .int .i64 0, .slice none 0 0] 56 (0, 0)) := (by with_reducible exact alloc_drew_block hb4); have HX4 := Lib.hid hX4; have HB4 := Lib.hid (show Below wr.heap.size wr w4 by with_reducible exact alloc_drew_below hb4); have HCl4 := Lib.hid (show CL w4 (fun b => wr.heap.size + 1 ≤ b) ra r.1.parts by with_reducible exact alloc_drew_cl hcl); obtain ⟨y0, y1, y2, y3, y4, y5, y6, y7, z0, z1, z2, z3, z4, z5, z6, z7, c7⟩ := z8 hX4; have ke1 := Lib.hid (HKp.out w4 HB4.out); have ke2 := Lib.hid (HKp.out w4.drew HB4.out.drew); have kf1 := Lib.hid (HKp.out _ (st8_below (Nat.le_refl _) HB4.out (.int .i64 r.1.kind) (.string r.1.op) (.int .i64 r.1.vk) (.int .i64 r.1.vn) (.string r.1.vs) (.int .i64 r.1.src) (.int .i64 r.1.col) (.slice ra r.1.parts.length rc))); have kf2 := Lib.hid (HKp.out _ (st8_below (Nat.le_refl _) HB4.out (.int .i64 r.1.kind) (.string r.1.op) (.int .i64 r.1.vk) (.int .i64 r.1.vn) (.string r.1.vs) (.int .i64 r.1.src) (.int .i64 r.1.col) (.slice ra r.1.parts.length rc)).drew); clear hX4 hb4 hcrg hcl
    refine hK.out _ _ (by first | (with_reducible exact ke1.out) | (with_reducible exact ke2.out)) (fun hHeld2 => ?_)
    clear hK K hHeld
    have hHeld := hHeld2
    clear hHeld2
    try simp only [Act.put, List.setIfInBounds_toArray, List.set_cons_zero, List.set_cons_succ]
    refine wpAnyH_take (i := 13) (oi := _) (v := .tuple #[.agg #[.int .i64 r.1.kind, .string r.1.op, .int .i64 r.1.vk, .int .i64 r.1.vn, .string r.1.vs, .int .i64 r.1.src, .int .i64 r.1.col, .slice ra r.1.parts.length rc], .int .i64 r.2.1, .int .i64 r.2.2]) rfl (by kernel_rfl) (by kernel_rfl) (by kernel_rfl) (fun _ _ _ h => h) (Or.inl ⟨by rfl, ?_⟩) (by assumption) ?_
    · (intro w' hSw; (try dsimp only at hSw); go_simp)
    try simp only [Act.put, List.setIfInBounds_toArray, List.set_cons_zero, List.set_cons_succ]
    refine wpAnyH_take (i := 14) (oi := _) (v := .agg #[.int .i64 r.1.kind, .string r.1.op, .int .i64 r.1.vk, .int .i64 r.1.vn, .string r.1.vs, .int .i64 r.1.src, .int .i64 r.1.col, .slice ra r.1.parts.length rc]) rfl (by kernel_rfl) (by kernel_rfl) (by kernel_rfl) (fun _ _ _ h => h) (Or.inl ⟨by rfl, ?_⟩) (by assumption) ?_
    · (intro w' hSw; (try dsimp only at hSw); go_simp)
    try simp only [Act.put, List.setIfInBounds_toArray, List.set_cons_zero, List.set_cons_succ]
    refine wpAnyH_take (i := 15) (oi := _) (v := .int .i64 r.2.1) rfl (by kernel_rfl) (by kernel_rfl) (by kernel_rfl) (fun _ _ _ h => h) (Or.inl ⟨by rfl, ?_⟩) (by assumption) ?_
    · (intro w' hSw; (try dsimp only at hSw); go_simp)
    try simp only [Act.put, List.setIfInBounds_toArray, List.set_cons_zero, List.set_cons_succ]
    refine wpAnyH_take (i := 16) (oi := _) (v := .int .i64 r.2.2) rfl (by kernel_rfl) (by kernel_rfl) (by kernel_rfl) (fun _ _ _ h => h) (Or.inl ⟨by rfl, ?_⟩) (by assumption) ?_
    · (intro w' hSw; (try dsimp only at hSw); go_simp)
    try simp only [Act.put, List.setIfInBounds_toArray, List.set_cons_zero, List.set_cons_succ]
    refine wpAnyH_ready (rs := [18]) (by kernel_rfl) (by simp) ?_
    refine AllReadyH.cons (o := _) rfl (fun K hK => ?_) AllReadyH.nil
    go_simp
    refine hK.out _ _ (by first | (with_reducible exact kf1.out) | (with_reducible exact kf2.out)) (fun hHeld2 => ?_)
    clear hK K hHeld
    have hHeld := hHeld2
    clear hHeld2
    try simp only [Act.put, List.setIfInBounds_toArray, List.set_cons_zero, List.set_cons_succ]
    refine wpAnyH_takeD (i := 19) (d := 13) (oi := _) (v := .int .i64 r.2.1) rfl (by rfl) (by kernel_rfl) (by kernel_rfl) (by kernel_rfl) (fun _ _ _ h => h) (Or.inl ⟨by rfl, ?_⟩) (by assumption) ?_
    · (intro w' hSw; (try dsimp only at hSw); go_simp)
    try simp only [Act.put, List.setIfInBounds_toArray, List.set_cons_zero, List.set_cons_succ]
    refine wpAnyH_takeD (i := 20) (d := 14) (oi := _) (v := .int .i64 r.2.2) rfl (by rfl) (by kernel_rfl) (by kernel_rfl) (by kernel_rfl) (fun _ _ _ h => h) (Or.inl ⟨by rfl, ?_⟩) (by assumption) ?_
    · (intro w' hSw; (try dsimp only at hSw); go_simp)
    try simp only [Act.put, List.setIfInBounds_toArray, List.set_cons_zero, List.set_cons_succ]
    refine wpAnyH_done (by kernel_rfl) ?_ _
    refine NoPanic.normal ?_
    exact ⟨rfl, wr.heap.size, ra, rc, _, _, _, _, _, _, _, _, _, _, _, _, _, _, _, _, _, rfl, box8 HX4.out (.int .i64 r.1.kind) (.string r.1.op) (.int .i64 r.1.vk) (.int .i64 r.1.vn) (.string r.1.vs) (.int .i64 r.1.src) (.int .i64 r.1.col) (.slice ra r.1.parts.length rc), Nat.le_refl _, st8_below (Nat.le_refl _) HB4.out (.int .i64 r.1.kind) (.string r.1.op) (.int .i64 r.1.vk) (.int .i64 r.1.vn) (.string r.1.vs) (.int .i64 r.1.src) (.int .i64 r.1.col) (.slice ra r.1.parts.length rc), HRg4.out, (cl_set8 (Nat.lt_succ_self _) HCl4.out (.int .i64 r.1.kind) (.string r.1.op) (.int .i64 r.1.vk) (.int .i64 r.1.vn) (.string r.1.vs) (.int .i64 r.1.src) (.int .i64 r.1.col) (.slice ra r.1.parts.length rc)).mono (fun b hb _ => Nat.le_of_succ_le hb)⟩
end Go.Proofs.Ytafhgilikcablaa
