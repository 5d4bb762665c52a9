/- The document's Run: a round of its loop: and, or, copy. (Written by genvdrun.py.) -/
import Derived.Test.YtafhgilikcablaaVdJ
import Derived.Test.YtafhgilikcablaaVdR46
namespace Go.Proofs.Ytafhgilikcablaa
open Go.RowKit
set_option linter.unusedVariables false
set_option linter.unusedSimpArgs false
set_option maxRecDepth 100000
set_option maxHeartbeats 12800000 in
theorem vdp_false (ca : Option Addr) (cl cc : Nat) (k : Int) (xs : List Ins) (ra : Option Addr) (rl rc : Nat) (R : List (List Val)) (P2 P4 gv gt K : Nat) (fin : Val × Int × Int) (W0 : World) (hin : VmIn ca cl cc k xs ra rl R P2 P4 W0) (hf : formedP k xs = true) (hk : k = (K : Int)) (hgv : W0.heap.size ≤ gv) (hgt : W0.heap.size ≤ gt) (hvt : gv ≠ gt)
    (Nx : Act → World → Prop) (Qo : Exit → Act → World → Prop) (i : Nat) (rs : List Reg) (f : Nat) (x0 x3 x5 x6 x9 x11 x12 x13 x14 x15 x16 x17 x18 x19 x20 x21 x22 x23 x24 x25 x26 x27 x28 x29 x30 x31 x32 x33 x34 x35 x36 x37 x38 x39 x40 x41 x42 x43 x44 x45 x46 x47 x48 x49 x50 x51 x52 x53 x54 x55 x56 x57 x58 x59 x60 x61 x62 x63 x64 x65 x66 x67 x68 x69 x70 x71 x72 x73 x74 x75 x76 x77 x78 x79 x80 x81 x82 x83 x84 x85 x86 x87 x88 x89 x90 x91 x92 x93 x94 x95 x96 x97 x98 x99 x100 x101 x102 x103 x104 x105 x106 x107 x108 x109 x110 x111 x112 x113 x114 x115 x116 x117 x118 x119 x120 x121 x122 x123 x124 x125 x126 x127 x128 x129 x130 x131 x132 x133 x134 x135 x136 x137 x138 x139 x140 x141 x142 x143 x144 x145 x146 x147 x148 x149 x150 x151 x152 x153 x154 x155 x156 x157 x158 x159 x160 x161 x162 x163 x164 x165 x166 x167 x168 x169 x170 x171 x172 x173 x174 x175 x176 x177 x178 x179 x180 x181 x182 x183 x184 x185 x186 x187 x188 x189 x190 x191 x192 x193 x194 x195 x196 x197 x198 x199 x200 x201 x202 x203 x204 x205 x206 x207 x208 x209 x210 x211 x212 x213 x214 x215 x216 x217 x218 x219 x220 x221 x222 x223 x224 x225 x226 x227 x228 x229 x230 x231 x232 x233 x234 x235 x236 x237 x238 x239 x240 : Value) (w : World) (hV : VdV R xs fin W0 gv gt K i rs f w) (hilt : i < cl) (hop : (xs.getD i noI).op = ⟨#[102, 97, 108, 115, 101]⟩)
    (hNx : ∀ a' w', VdJ ra rl rc P2 P4 gv gt K R xs fin W0 (i + 1) a' w' → Nx a' w') (hQ : ∀ (a' : Act) (w' w2 : World), a'.defers = [] → a'.tmps.getD 4 undef = .pointer (some ⟨P4, 0, none⟩) → a'.tmps.getD 5 undef = .int .i64 fin.2.1 → a'.tmps.getD 6 undef = .int .i64 fin.2.2 → ResAt w' P4 fin.1 → Below W0.heap.size W0 w2 → Sto P4 w2 w' → Qo .ret a' w') :
    VdBody.wp Try.prog (Exit.then Nx Qo) ⟨#[x0, .slice ra rl rc, .pointer (some ⟨P2, 0, none⟩), x3, .pointer (some ⟨P4, 0, none⟩), x5, x6, .slice (some ⟨gv, 0, none⟩) K K, .slice (some ⟨gt, 0, none⟩) K K, x9, .int .i64 (i : Int), x11, x12, x13, x14, x15, x16, x17, x18, x19, x20, x21, x22, x23, x24, x25, x26, x27, x28, x29, x30, x31, x32, x33, x34, x35, x36, x37, x38, x39, x40, x41, x42, x43, x44, x45, x46, x47, x48, x49, x50, x51, x52, x53, x54, x55, x56, x57, x58, x59, x60, x61, x62, x63, x64, x65, x66, x67, x68, x69, x70, x71, x72, x73, x74, x75, x76, x77, x78, x79, x80, x81, x82, x83, x84, x85, x86, x87, x88, x89, x90, x91, x92, x93, x94, x95, x96, x97, x98, x99, x100, x101, x102, x103, x104, x105, x106, x107, x108, x109, x110, x111, x112, x113, x114, x115, x116, x117, x118, x119, x120, x121, x122, x123, x124, x125, x126, x127, x128, x129, x130, x131, x132, x133, x134, x135, x136, x137, x138, x139, x140, x141, x142, x143, x144, x145, x146, x147, x148, x149, x150, x151, x152, x153, x154, x155, x156, x157, x158, x159, x160, x161, x162, x163, x164, x165, x166, x167, x168, x169, x170, x171, x172, x173, x174, x175, x176, x177, x178, x179, x180, x181, x182, x183, x184, x185, x186, x187, x188, x189, x190, x191, x192, x193, x194, x195, x196, x197, x198, x199, x200, x201, x202, x203, x204, x205, x206, x207, x208, x209, x210, x211, x212, x213, x214, x215, x216, x217, x218, x219, x220, x221, x222, x223, x224, x225, x226, x227, x228, x229, x230, x231, x232, x233, x234, x235, x236, x237, x238, x239, x240], []⟩ w := by
  have hin0 := Lib.hid hin
  have HV := Lib.hid hV
  have HIn := Lib.hid (hin.below hV.bel)
  clear hV
  conv => arg 2; whnf
  dsimp only
  have hlen := HIn.out.i.1
  have hmax := HIn.out.i.2.1
  have p0 := HIn.out.p0
  have Hf := Lib.hid hf
  have Hk := Lib.hid hk
  have Hgv := Lib.hid hgv
  have Hgt := Lib.hid hgt
  have HLen := Lib.hid hlen
  have HQ := Lib.hid hQ
  have HNx := Lib.hid hNx
  clear hf hk hgv hgt hin hQ hNx
  have hi2 : (i : Int) < (cl : Int) := by omega
  have hi0 : (0 : Int) ≤ (i : Int) := by omega
  have hwi : IntKind.i64.wrap ((i : Int) + 1) = (i : Int) + 1 := by rw [IntKind.wrap_i64]; omega
  obtain ⟨_, _, hc⟩ := HIn.out.i
  rcases hc with hc | ⟨b, off, rfl, hb, hc⟩
  · omega
  obtain ⟨c0, c1, c2, c3, c4, c5, c6⟩ := hc i hilt
  clear hc
  obtain ⟨x, hx⟩ : ∃ x, x = xs.getD i noI := ⟨_, rfl⟩
  rw [← hx] at c0 c1 c2 c3 c4 c5 c6
  have HX := Lib.hid hx
  clear hx
  obtain ⟨op, A, B, C, v⟩ := x
  rw [← HX.out] at hop
  simp only at hop
  subst hop
  obtain ⟨vk, vn, vs⟩ := v
  simp only at c0 c1 c2 c3 c4 c5 c6
  have hOk := (formed_at Hf.out).2 i (by rw [HLen.out]; exact hilt)
  rw [← HX.out] at hOk
  obtain ⟨A', B', C', eA, eB, eC, k0, k1, k2, k3, k4⟩ := ok_nat (Int.natCast_nonneg i) hOk
  simp only at eA eB eC k0 k1 k2 k3 k4
  subst eA eB eC
  have hnums : InsR ⟨⟨#[102, 97, 108, 115, 101]⟩, A', B', C', (vk, vn, vs)⟩ := HIn.out.nums _ (show (⟨⟨#[102, 97, 108, 115, 101]⟩, A', B', C', (vk, vn, vs)⟩ : Ins) ∈ xs by
    rw [HX.out, List.getD_eq_getElem?_getD, List.getElem?_eq_getElem (by rw [HLen.out]; exact hilt)]
    exact List.getElem_mem _)
  go_upto_region 16 with (fail)
  obtain ⟨w1, hw1⟩ : ∃ w1, w1 = w.alloc (.cells #[.string ⟨#[102, 97, 108, 115, 101]⟩, .int .i64 (A' : Int), .int .i64 (B' : Int), .int .i64 (C' : Int), .int .i64 vk, .int .i64 vn, .string vs] 145) := ⟨_, rfl⟩
  rw [← hw1]
  have hbw : Below w.heap.size w w1 := by rw [hw1]; exact bel0 _ (Below.refl _ _)
  have hbx : w1.heap[w.heap.size]? = some (.cells #[.string ⟨#[102, 97, 108, 115, 101]⟩, .int .i64 (A' : Int), .int .i64 (B' : Int), .int .i64 (C' : Int), .int .i64 vk, .int .i64 vn, .string vs] 145 (0, 0)) := by rw [hw1]; exact Go.heap_alloc_new w _
  have HBox := Lib.hid (show InBox w1 w.heap.size ⟨#[102, 97, 108, 115, 101]⟩ A' B' C' (vk, vn, vs) from ⟨cell_of_row _ _ 0 _ _ _ hbx, cell_of_row _ _ 1 _ _ _ hbx, cell_of_row _ _ 2 _ _ _ hbx, cell_of_row _ _ 3 _ _ _ hbx, cell_of_row _ _ 4 _ _ _ hbx, cell_of_row _ _ 5 _ _ _ hbx, cell_of_row _ _ 6 _ _ _ hbx⟩)
  have HB1 := Lib.hid (bt HV.out.bel hbw)
  have HGv := Lib.hid (HV.out.val.below hbw)
  have HGt := Lib.hid (HV.out.tru.below hbw)
  have hbv : w.heap.size ≠ gv := by have := HV.out.val.lt; omega
  have hbt : w.heap.size ≠ gt := by have := HV.out.tru.lt; omega
  have HN := Lib.hid hnums
  have HL := Lib.hid HV.out.len
  have HKs := Lib.hid (show 1 ≤ K ∧ K ≤ 1000 by have := (formed_at Hf.out).1; have := Hk.out; omega)
  obtain ⟨f, rfl⟩ : ∃ f', f = f' + 1 := ⟨f - 1, by have := HV.out.fuel; have := HLen.out; omega⟩
  have HStep := Lib.hid (fun (rs' : List Reg) (e' : Int) (n : Nat) hs => runR_step (rs' := rs') (e := e') (n := n) HV.out.ok (by rw [HLen.out]; exact hilt) hs)
  rw [← HX.out] at HStep
  have HFu := Lib.hid HV.out.fuel
  have HRg := Lib.hid HV.out.rg
  rw [Hk.out] at k0 k1 k2 k3 k4
  have K0 := Lib.hid k0
  have K1 := Lib.hid k1
  have K2 := Lib.hid k2
  have K3 := Lib.hid k3
  have K4 := Lib.hid k4
  have HInW := Lib.hid (HIn.out.below hbw)
  have HIl := Lib.hid hilt
  obtain ⟨B0, hB0⟩ : ∃ B0, B0 = w.heap.size := ⟨_, rfl⟩
  rw [← hB0] at hbv hbt HBox ⊢
  clear k0 k1 k2 k3 k4 hnums hOk hw1 hbw hbx c0 c1 c2 c3 c4 c5 c6 hB0 p0 hi2 hlen
  have kk := K4.out class_false
  have hA : A' < K := by have := HKs.out; omega
  have hB : B' < K := by omega
  have ht := HStep.out _ _ _ (step_false R A' B' C' (vk, vn, vs) rs i)
  have HT := Lib.hid ht
  clear ht
  go_wp2_with fail
  refine wp_mono (vdr40_any ra rl rc gv gt K B0 rs _ A' B' C' _ 0 w1 _ _ _ _ _ _ _ _ _ _ _ _ _ _ _ _ _ _ _ _ _ _ _ _ _ _ _ _ _ _ _ _ _ _ _ _ _ _ _ _ _ _ _ _ _ _ _ _ _ _ _ _ _ _ _ _ _ _ _ _ _ _ _ _ _ _ _ _ _ _ _ _ _ _ _ _ _ _ _ _ _ _ _ _ _ _ _ _ _ _ _ _ _ _ _ _ _ _ _ _ _ _ _ _ _ _ _ _ _ _ _ _ _ _ _ _ _ _ _ _ _ _ _ _ _ _ _ _ _ _ _ _ _ _ _ _ _ _ _ _ _ _ _ _ _ _ _ _ _ _ _ _ _ _ _ _ _ _ _ _ _ _ _ _ _ _ _ _ _ _ _ _ _ _ _ _ _ _ _ _ _ _ _ _ _ _ _ _ _ _ _ _ _ _ _ _ _ _ _ _ _ _ _ _ _ _ _ _ _ _ _ _ _ _ _ _ _ _ _ _ _ _ _ _ _ _ _ _ _ _ _ _ _ _ _ _ _ HBox.out HGv.out HGt.out hvt hbv hbt HL.out HKs.out.2 hA hB (by simp)) ?_
  rintro e' a' w2 ⟨rfl, ⟨u0, u1, u2, u3, u4, u5, u6, u7, u8, rfl⟩, hS⟩
  have HVa := Lib.hid (HGv.out.below hS)
  have HTr := Lib.hid (HGt.out.below hS)
  have HB2 := Lib.hid (bt HB1.out hS)
  have q3 : w2.cell? ⟨B0, 3, none⟩ = some (.int .i64 (C' : Int)) := (hS.cell (World.block_lt_of_cell? _ _ HBox.out.f3)).trans HBox.out.f3
  clear hS
  have hc1 : 1 ≤ C' ∧ (C' : Int) ≤ 9223372036854775807 := by have := HLen.out; omega
  have hwc : IntKind.i64.wrap ((C' : Int) - 1) = (C' : Int) - 1 := by rw [IntKind.wrap_i64]; omega
  have hwd : IntKind.i64.wrap ((C' : Int) - 1 + 1) = (C' : Int) := by rw [IntKind.wrap_i64]; omega
  by_cases hq : (rs.getD B' noR).2 = 0
  · have hq1 : ((rs.getD B' noR).2 == 0) = true := beq_iff_eq.2 hq
    have HT1 := Lib.hid (show runR R xs f C' rs = fin from (if_pos hq : (if (rs.getD B' noR).2 = 0 then C' else i + 1) = C') ▸ (show runR R xs f (if (rs.getD B' noR).2 = 0 then C' else i + 1) rs = fin from HT.out.1 (by first | rfl | trivial)))
    rw [hq1]
    clear hq hq1
    go_wp2
    exact HNx.out _ _ ⟨C', rs, f, _, _, _, _, _, _, _, _, _, _, _, _, _, _, _, _, _, _, _, _, _, _, _, _, _, _, _, _, _, _, _, _, _, _, _, _, _, _, _, _, _, _, _, _, _, _, _, _, _, _, _, _, _, _, _, _, _, _, _, _, _, _, _, _, _, _, _, _, _, _, _, _, _, _, _, _, _, _, _, _, _, _, _, _, _, _, _, _, _, _, _, _, _, _, _, _, _, _, _, _, _, _, _, _, _, _, _, _, _, _, _, _, _, _, _, _, _, _, _, _, _, _, _, _, _, _, _, _, _, _, _, _, _, _, _, _, _, _, _, _, _, _, _, _, _, _, _, _, _, _, _, _, _, _, _, _, _, _, _, _, _, _, _, _, _, _, _, _, _, _, _, _, _, _, _, _, _, _, _, _, _, _, _, _, _, _, _, _, _, _, _, _, _, _, _, _, _, _, _, _, _, _, _, _, _, _, _, _, _, _, _, _, _, _, _, _, _, _, _, _, _, _, _, _, _, _, _, _, _, _, _, _, _, _, _, (by omega), rfl, ⟨by have := HLen.out; omega, by have := HFu.out; omega, HL.out, HRg.out, HVa.out, HTr.out, HB2.out, HT1.out⟩⟩
  · have hq1 : ((rs.getD B' noR).2 == 0) = false := beq_eq_false_iff_ne.2 hq
    have HT1 := Lib.hid (show runR R xs f (i + 1) rs = fin from (if_neg hq : (if (rs.getD B' noR).2 = 0 then C' else i + 1) = i + 1) ▸ (show runR R xs f (if (rs.getD B' noR).2 = 0 then C' else i + 1) rs = fin from HT.out.1 (by first | rfl | trivial)))
    rw [hq1]
    clear hq hq1
    go_wp2
    exact HNx.out _ _ ⟨i + 1, rs, f, _, _, _, _, _, _, _, _, _, _, _, _, _, _, _, _, _, _, _, _, _, _, _, _, _, _, _, _, _, _, _, _, _, _, _, _, _, _, _, _, _, _, _, _, _, _, _, _, _, _, _, _, _, _, _, _, _, _, _, _, _, _, _, _, _, _, _, _, _, _, _, _, _, _, _, _, _, _, _, _, _, _, _, _, _, _, _, _, _, _, _, _, _, _, _, _, _, _, _, _, _, _, _, _, _, _, _, _, _, _, _, _, _, _, _, _, _, _, _, _, _, _, _, _, _, _, _, _, _, _, _, _, _, _, _, _, _, _, _, _, _, _, _, _, _, _, _, _, _, _, _, _, _, _, _, _, _, _, _, _, _, _, _, _, _, _, _, _, _, _, _, _, _, _, _, _, _, _, _, _, _, _, _, _, _, _, _, _, _, _, _, _, _, _, _, _, _, _, _, _, _, _, _, _, _, _, _, _, _, _, _, _, _, _, _, _, _, _, _, _, _, _, _, _, _, _, _, _, _, _, _, _, _, _, _, Nat.le_refl _, rfl, ⟨by have := HIl.out; have := HLen.out; omega, by have := HFu.out; omega, HL.out, HRg.out, HVa.out, HTr.out, HB2.out, HT1.out⟩⟩
set_option maxHeartbeats 12800000 in
theorem vdp_true (ca : Option Addr) (cl cc : Nat) (k : Int) (xs : List Ins) (ra : Option Addr) (rl rc : Nat) (R : List (List Val)) (P2 P4 gv gt K : Nat) (fin : Val × Int × Int) (W0 : World) (hin : VmIn ca cl cc k xs ra rl R P2 P4 W0) (hf : formedP k xs = true) (hk : k = (K : Int)) (hgv : W0.heap.size ≤ gv) (hgt : W0.heap.size ≤ gt) (hvt : gv ≠ gt)
    (Nx : Act → World → Prop) (Qo : Exit → Act → World → Prop) (i : Nat) (rs : List Reg) (f : Nat) (x0 x3 x5 x6 x9 x11 x12 x13 x14 x15 x16 x17 x18 x19 x20 x21 x22 x23 x24 x25 x26 x27 x28 x29 x30 x31 x32 x33 x34 x35 x36 x37 x38 x39 x40 x41 x42 x43 x44 x45 x46 x47 x48 x49 x50 x51 x52 x53 x54 x55 x56 x57 x58 x59 x60 x61 x62 x63 x64 x65 x66 x67 x68 x69 x70 x71 x72 x73 x74 x75 x76 x77 x78 x79 x80 x81 x82 x83 x84 x85 x86 x87 x88 x89 x90 x91 x92 x93 x94 x95 x96 x97 x98 x99 x100 x101 x102 x103 x104 x105 x106 x107 x108 x109 x110 x111 x112 x113 x114 x115 x116 x117 x118 x119 x120 x121 x122 x123 x124 x125 x126 x127 x128 x129 x130 x131 x132 x133 x134 x135 x136 x137 x138 x139 x140 x141 x142 x143 x144 x145 x146 x147 x148 x149 x150 x151 x152 x153 x154 x155 x156 x157 x158 x159 x160 x161 x162 x163 x164 x165 x166 x167 x168 x169 x170 x171 x172 x173 x174 x175 x176 x177 x178 x179 x180 x181 x182 x183 x184 x185 x186 x187 x188 x189 x190 x191 x192 x193 x194 x195 x196 x197 x198 x199 x200 x201 x202 x203 x204 x205 x206 x207 x208 x209 x210 x211 x212 x213 x214 x215 x216 x217 x218 x219 x220 x221 x222 x223 x224 x225 x226 x227 x228 x229 x230 x231 x232 x233 x234 x235 x236 x237 x238 x239 x240 : Value) (w : World) (hV : VdV R xs fin W0 gv gt K i rs f w) (hilt : i < cl) (hop : (xs.getD i noI).op = ⟨#[116, 114, 117, 101]⟩)
    (hNx : ∀ a' w', VdJ ra rl rc P2 P4 gv gt K R xs fin W0 (i + 1) a' w' → Nx a' w') (hQ : ∀ (a' : Act) (w' w2 : World), a'.defers = [] → a'.tmps.getD 4 undef = .pointer (some ⟨P4, 0, none⟩) → a'.tmps.getD 5 undef = .int .i64 fin.2.1 → a'.tmps.getD 6 undef = .int .i64 fin.2.2 → ResAt w' P4 fin.1 → Below W0.heap.size W0 w2 → Sto P4 w2 w' → Qo .ret a' w') :
    VdBody.wp Try.prog (Exit.then Nx Qo) ⟨#[x0, .slice ra rl rc, .pointer (some ⟨P2, 0, none⟩), x3, .pointer (some ⟨P4, 0, none⟩), x5, x6, .slice (some ⟨gv, 0, none⟩) K K, .slice (some ⟨gt, 0, none⟩) K K, x9, .int .i64 (i : Int), x11, x12, x13, x14, x15, x16, x17, x18, x19, x20, x21, x22, x23, x24, x25, x26, x27, x28, x29, x30, x31, x32, x33, x34, x35, x36, x37, x38, x39, x40, x41, x42, x43, x44, x45, x46, x47, x48, x49, x50, x51, x52, x53, x54, x55, x56, x57, x58, x59, x60, x61, x62, x63, x64, x65, x66, x67, x68, x69, x70, x71, x72, x73, x74, x75, x76, x77, x78, x79, x80, x81, x82, x83, x84, x85, x86, x87, x88, x89, x90, x91, x92, x93, x94, x95, x96, x97, x98, x99, x100, x101, x102, x103, x104, x105, x106, x107, x108, x109, x110, x111, x112, x113, x114, x115, x116, x117, x118, x119, x120, x121, x122, x123, x124, x125, x126, x127, x128, x129, x130, x131, x132, x133, x134, x135, x136, x137, x138, x139, x140, x141, x142, x143, x144, x145, x146, x147, x148, x149, x150, x151, x152, x153, x154, x155, x156, x157, x158, x159, x160, x161, x162, x163, x164, x165, x166, x167, x168, x169, x170, x171, x172, x173, x174, x175, x176, x177, x178, x179, x180, x181, x182, x183, x184, x185, x186, x187, x188, x189, x190, x191, x192, x193, x194, x195, x196, x197, x198, x199, x200, x201, x202, x203, x204, x205, x206, x207, x208, x209, x210, x211, x212, x213, x214, x215, x216, x217, x218, x219, x220, x221, x222, x223, x224, x225, x226, x227, x228, x229, x230, x231, x232, x233, x234, x235, x236, x237, x238, x239, x240], []⟩ w := by
  have hin0 := Lib.hid hin
  have HV := Lib.hid hV
  have HIn := Lib.hid (hin.below hV.bel)
  clear hV
  conv => arg 2; whnf
  dsimp only
  have hlen := HIn.out.i.1
  have hmax := HIn.out.i.2.1
  have p0 := HIn.out.p0
  have Hf := Lib.hid hf
  have Hk := Lib.hid hk
  have Hgv := Lib.hid hgv
  have Hgt := Lib.hid hgt
  have HLen := Lib.hid hlen
  have HQ := Lib.hid hQ
  have HNx := Lib.hid hNx
  clear hf hk hgv hgt hin hQ hNx
  have hi2 : (i : Int) < (cl : Int) := by omega
  have hi0 : (0 : Int) ≤ (i : Int) := by omega
  have hwi : IntKind.i64.wrap ((i : Int) + 1) = (i : Int) + 1 := by rw [IntKind.wrap_i64]; omega
  obtain ⟨_, _, hc⟩ := HIn.out.i
  rcases hc with hc | ⟨b, off, rfl, hb, hc⟩
  · omega
  obtain ⟨c0, c1, c2, c3, c4, c5, c6⟩ := hc i hilt
  clear hc
  obtain ⟨x, hx⟩ : ∃ x, x = xs.getD i noI := ⟨_, rfl⟩
  rw [← hx] at c0 c1 c2 c3 c4 c5 c6
  have HX := Lib.hid hx
  clear hx
  obtain ⟨op, A, B, C, v⟩ := x
  rw [← HX.out] at hop
  simp only at hop
  subst hop
  obtain ⟨vk, vn, vs⟩ := v
  simp only at c0 c1 c2 c3 c4 c5 c6
  have hOk := (formed_at Hf.out).2 i (by rw [HLen.out]; exact hilt)
  rw [← HX.out] at hOk
  obtain ⟨A', B', C', eA, eB, eC, k0, k1, k2, k3, k4⟩ := ok_nat (Int.natCast_nonneg i) hOk
  simp only at eA eB eC k0 k1 k2 k3 k4
  subst eA eB eC
  have hnums : InsR ⟨⟨#[116, 114, 117, 101]⟩, A', B', C', (vk, vn, vs)⟩ := HIn.out.nums _ (show (⟨⟨#[116, 114, 117, 101]⟩, A', B', C', (vk, vn, vs)⟩ : Ins) ∈ xs by
    rw [HX.out, List.getD_eq_getElem?_getD, List.getElem?_eq_getElem (by rw [HLen.out]; exact hilt)]
    exact List.getElem_mem _)
  go_upto_region 16 with (fail)
  obtain ⟨w1, hw1⟩ : ∃ w1, w1 = w.alloc (.cells #[.string ⟨#[116, 114, 117, 101]⟩, .int .i64 (A' : Int), .int .i64 (B' : Int), .int .i64 (C' : Int), .int .i64 vk, .int .i64 vn, .string vs] 145) := ⟨_, rfl⟩
  rw [← hw1]
  have hbw : Below w.heap.size w w1 := by rw [hw1]; exact bel0 _ (Below.refl _ _)
  have hbx : w1.heap[w.heap.size]? = some (.cells #[.string ⟨#[116, 114, 117, 101]⟩, .int .i64 (A' : Int), .int .i64 (B' : Int), .int .i64 (C' : Int), .int .i64 vk, .int .i64 vn, .string vs] 145 (0, 0)) := by rw [hw1]; exact Go.heap_alloc_new w _
  have HBox := Lib.hid (show InBox w1 w.heap.size ⟨#[116, 114, 117, 101]⟩ A' B' C' (vk, vn, vs) from ⟨cell_of_row _ _ 0 _ _ _ hbx, cell_of_row _ _ 1 _ _ _ hbx, cell_of_row _ _ 2 _ _ _ hbx, cell_of_row _ _ 3 _ _ _ hbx, cell_of_row _ _ 4 _ _ _ hbx, cell_of_row _ _ 5 _ _ _ hbx, cell_of_row _ _ 6 _ _ _ hbx⟩)
  have HB1 := Lib.hid (bt HV.out.bel hbw)
  have HGv := Lib.hid (HV.out.val.below hbw)
  have HGt := Lib.hid (HV.out.tru.below hbw)
  have hbv : w.heap.size ≠ gv := by have := HV.out.val.lt; omega
  have hbt : w.heap.size ≠ gt := by have := HV.out.tru.lt; omega
  have HN := Lib.hid hnums
  have HL := Lib.hid HV.out.len
  have HKs := Lib.hid (show 1 ≤ K ∧ K ≤ 1000 by have := (formed_at Hf.out).1; have := Hk.out; omega)
  obtain ⟨f, rfl⟩ : ∃ f', f = f' + 1 := ⟨f - 1, by have := HV.out.fuel; have := HLen.out; omega⟩
  have HStep := Lib.hid (fun (rs' : List Reg) (e' : Int) (n : Nat) hs => runR_step (rs' := rs') (e := e') (n := n) HV.out.ok (by rw [HLen.out]; exact hilt) hs)
  rw [← HX.out] at HStep
  have HFu := Lib.hid HV.out.fuel
  have HRg := Lib.hid HV.out.rg
  rw [Hk.out] at k0 k1 k2 k3 k4
  have K0 := Lib.hid k0
  have K1 := Lib.hid k1
  have K2 := Lib.hid k2
  have K3 := Lib.hid k3
  have K4 := Lib.hid k4
  have HInW := Lib.hid (HIn.out.below hbw)
  have HIl := Lib.hid hilt
  obtain ⟨B0, hB0⟩ : ∃ B0, B0 = w.heap.size := ⟨_, rfl⟩
  rw [← hB0] at hbv hbt HBox ⊢
  clear k0 k1 k2 k3 k4 hnums hOk hw1 hbw hbx c0 c1 c2 c3 c4 c5 c6 hB0 p0 hi2 hlen
  have kk := K4.out class_true
  have hA : A' < K := by have := HKs.out; omega
  have hB : B' < K := by omega
  have ht := HStep.out _ _ _ (step_true R A' B' C' (vk, vn, vs) rs i)
  have HT := Lib.hid ht
  clear ht
  go_wp2_with fail
  refine wp_mono (vdr40_any ra rl rc gv gt K B0 rs _ A' B' C' _ 1 w1 _ _ _ _ _ _ _ _ _ _ _ _ _ _ _ _ _ _ _ _ _ _ _ _ _ _ _ _ _ _ _ _ _ _ _ _ _ _ _ _ _ _ _ _ _ _ _ _ _ _ _ _ _ _ _ _ _ _ _ _ _ _ _ _ _ _ _ _ _ _ _ _ _ _ _ _ _ _ _ _ _ _ _ _ _ _ _ _ _ _ _ _ _ _ _ _ _ _ _ _ _ _ _ _ _ _ _ _ _ _ _ _ _ _ _ _ _ _ _ _ _ _ _ _ _ _ _ _ _ _ _ _ _ _ _ _ _ _ _ _ _ _ _ _ _ _ _ _ _ _ _ _ _ _ _ _ _ _ _ _ _ _ _ _ _ _ _ _ _ _ _ _ _ _ _ _ _ _ _ _ _ _ _ _ _ _ _ _ _ _ _ _ _ _ _ _ _ _ _ _ _ _ _ _ _ _ _ _ _ _ _ _ _ _ _ _ _ _ _ _ _ _ _ _ _ _ _ _ _ _ _ _ _ _ _ _ _ HBox.out HGv.out HGt.out hvt hbv hbt HL.out HKs.out.2 hA hB (by simp)) ?_
  rintro e' a' w2 ⟨rfl, ⟨u0, u1, u2, u3, u4, u5, u6, u7, u8, rfl⟩, hS⟩
  have HVa := Lib.hid (HGv.out.below hS)
  have HTr := Lib.hid (HGt.out.below hS)
  have HB2 := Lib.hid (bt HB1.out hS)
  have q3 : w2.cell? ⟨B0, 3, none⟩ = some (.int .i64 (C' : Int)) := (hS.cell (World.block_lt_of_cell? _ _ HBox.out.f3)).trans HBox.out.f3
  clear hS
  have hc1 : 1 ≤ C' ∧ (C' : Int) ≤ 9223372036854775807 := by have := HLen.out; omega
  have hwc : IntKind.i64.wrap ((C' : Int) - 1) = (C' : Int) - 1 := by rw [IntKind.wrap_i64]; omega
  have hwd : IntKind.i64.wrap ((C' : Int) - 1 + 1) = (C' : Int) := by rw [IntKind.wrap_i64]; omega
  by_cases hq : (rs.getD B' noR).2 = 1
  · have hq1 : ((rs.getD B' noR).2 == 1) = true := beq_iff_eq.2 hq
    have HT1 := Lib.hid (show runR R xs f C' rs = fin from (if_pos hq : (if (rs.getD B' noR).2 = 1 then C' else i + 1) = C') ▸ (show runR R xs f (if (rs.getD B' noR).2 = 1 then C' else i + 1) rs = fin from HT.out.1 (by first | rfl | trivial)))
    rw [hq1]
    clear hq hq1
    go_wp2
    exact HNx.out _ _ ⟨C', rs, f, _, _, _, _, _, _, _, _, _, _, _, _, _, _, _, _, _, _, _, _, _, _, _, _, _, _, _, _, _, _, _, _, _, _, _, _, _, _, _, _, _, _, _, _, _, _, _, _, _, _, _, _, _, _, _, _, _, _, _, _, _, _, _, _, _, _, _, _, _, _, _, _, _, _, _, _, _, _, _, _, _, _, _, _, _, _, _, _, _, _, _, _, _, _, _, _, _, _, _, _, _, _, _, _, _, _, _, _, _, _, _, _, _, _, _, _, _, _, _, _, _, _, _, _, _, _, _, _, _, _, _, _, _, _, _, _, _, _, _, _, _, _, _, _, _, _, _, _, _, _, _, _, _, _, _, _, _, _, _, _, _, _, _, _, _, _, _, _, _, _, _, _, _, _, _, _, _, _, _, _, _, _, _, _, _, _, _, _, _, _, _, _, _, _, _, _, _, _, _, _, _, _, _, _, _, _, _, _, _, _, _, _, _, _, _, _, _, _, _, _, _, _, _, _, _, _, _, _, _, _, _, _, _, _, _, (by omega), rfl, ⟨by have := HLen.out; omega, by have := HFu.out; omega, HL.out, HRg.out, HVa.out, HTr.out, HB2.out, HT1.out⟩⟩
  · have hq1 : ((rs.getD B' noR).2 == 1) = false := beq_eq_false_iff_ne.2 hq
    have HT1 := Lib.hid (show runR R xs f (i + 1) rs = fin from (if_neg hq : (if (rs.getD B' noR).2 = 1 then C' else i + 1) = i + 1) ▸ (show runR R xs f (if (rs.getD B' noR).2 = 1 then C' else i + 1) rs = fin from HT.out.1 (by first | rfl | trivial)))
    rw [hq1]
    clear hq hq1
    go_wp2
    exact HNx.out _ _ ⟨i + 1, rs, f, _, _, _, _, _, _, _, _, _, _, _, _, _, _, _, _, _, _, _, _, _, _, _, _, _, _, _, _, _, _, _, _, _, _, _, _, _, _, _, _, _, _, _, _, _, _, _, _, _, _, _, _, _, _, _, _, _, _, _, _, _, _, _, _, _, _, _, _, _, _, _, _, _, _, _, _, _, _, _, _, _, _, _, _, _, _, _, _, _, _, _, _, _, _, _, _, _, _, _, _, _, _, _, _, _, _, _, _, _, _, _, _, _, _, _, _, _, _, _, _, _, _, _, _, _, _, _, _, _, _, _, _, _, _, _, _, _, _, _, _, _, _, _, _, _, _, _, _, _, _, _, _, _, _, _, _, _, _, _, _, _, _, _, _, _, _, _, _, _, _, _, _, _, _, _, _, _, _, _, _, _, _, _, _, _, _, _, _, _, _, _, _, _, _, _, _, _, _, _, _, _, _, _, _, _, _, _, _, _, _, _, _, _, _, _, _, _, _, _, _, _, _, _, _, _, _, _, _, _, _, _, _, _, _, _, Nat.le_refl _, rfl, ⟨by have := HIl.out; have := HLen.out; omega, by have := HFu.out; omega, HL.out, HRg.out, HVa.out, HTr.out, HB2.out, HT1.out⟩⟩
end Go.Proofs.Ytafhgilikcablaa
namespace Go.Proofs.Ytafhgilikcablaa
open Go.RowKit
set_option linter.unusedVariables false
set_option linter.unusedSimpArgs false
set_option maxRecDepth 100000
set_option maxHeartbeats 12800000 in
theorem vdp_and (ca : Option Addr) (cl cc : Nat) (k : Int) (xs : List Ins) (ra : Option Addr) (rl rc : Nat) (R : List (List Val)) (P2 P4 gv gt K : Nat) (fin : Val × Int × Int) (W0 : World) (hin : VmIn ca cl cc k xs ra rl R P2 P4 W0) (hf : formedP k xs = true) (hk : k = (K : Int)) (hgv : W0.heap.size ≤ gv) (hgt : W0.heap.size ≤ gt) (hvt : gv ≠ gt)
    (Nx : Act → World → Prop) (Qo : Exit → Act → World → Prop) (i : Nat) (rs : List Reg) (f : Nat) (x0 x3 x5 x6 x9 x11 x12 x13 x14 x15 x16 x17 x18 x19 x20 x21 x22 x23 x24 x25 x26 x27 x28 x29 x30 x31 x32 x33 x34 x35 x36 x37 x38 x39 x40 x41 x42 x43 x44 x45 x46 x47 x48 x49 x50 x51 x52 x53 x54 x55 x56 x57 x58 x59 x60 x61 x62 x63 x64 x65 x66 x67 x68 x69 x70 x71 x72 x73 x74 x75 x76 x77 x78 x79 x80 x81 x82 x83 x84 x85 x86 x87 x88 x89 x90 x91 x92 x93 x94 x95 x96 x97 x98 x99 x100 x101 x102 x103 x104 x105 x106 x107 x108 x109 x110 x111 x112 x113 x114 x115 x116 x117 x118 x119 x120 x121 x122 x123 x124 x125 x126 x127 x128 x129 x130 x131 x132 x133 x134 x135 x136 x137 x138 x139 x140 x141 x142 x143 x144 x145 x146 x147 x148 x149 x150 x151 x152 x153 x154 x155 x156 x157 x158 x159 x160 x161 x162 x163 x164 x165 x166 x167 x168 x169 x170 x171 x172 x173 x174 x175 x176 x177 x178 x179 x180 x181 x182 x183 x184 x185 x186 x187 x188 x189 x190 x191 x192 x193 x194 x195 x196 x197 x198 x199 x200 x201 x202 x203 x204 x205 x206 x207 x208 x209 x210 x211 x212 x213 x214 x215 x216 x217 x218 x219 x220 x221 x222 x223 x224 x225 x226 x227 x228 x229 x230 x231 x232 x233 x234 x235 x236 x237 x238 x239 x240 : Value) (w : World) (hV : VdV R xs fin W0 gv gt K i rs f w) (hilt : i < cl) (hop : (xs.getD i noI).op = ⟨#[97, 110, 100]⟩)
    (hNx : ∀ a' w', VdJ ra rl rc P2 P4 gv gt K R xs fin W0 (i + 1) a' w' → Nx a' w') (hQ : ∀ (a' : Act) (w' w2 : World), a'.defers = [] → a'.tmps.getD 4 undef = .pointer (some ⟨P4, 0, none⟩) → a'.tmps.getD 5 undef = .int .i64 fin.2.1 → a'.tmps.getD 6 undef = .int .i64 fin.2.2 → ResAt w' P4 fin.1 → Below W0.heap.size W0 w2 → Sto P4 w2 w' → Qo .ret a' w') :
    VdBody.wp Try.prog (Exit.then Nx Qo) ⟨#[x0, .slice ra rl rc, .pointer (some ⟨P2, 0, none⟩), x3, .pointer (some ⟨P4, 0, none⟩), x5, x6, .slice (some ⟨gv, 0, none⟩) K K, .slice (some ⟨gt, 0, none⟩) K K, x9, .int .i64 (i : Int), x11, x12, x13, x14, x15, x16, x17, x18, x19, x20, x21, x22, x23, x24, x25, x26, x27, x28, x29, x30, x31, x32, x33, x34, x35, x36, x37, x38, x39, x40, x41, x42, x43, x44, x45, x46, x47, x48, x49, x50, x51, x52, x53, x54, x55, x56, x57, x58, x59, x60, x61, x62, x63, x64, x65, x66, x67, x68, x69, x70, x71, x72, x73, x74, x75, x76, x77, x78, x79, x80, x81, x82, x83, x84, x85, x86, x87, x88, x89, x90, x91, x92, x93, x94, x95, x96, x97, x98, x99, x100, x101, x102, x103, x104, x105, x106, x107, x108, x109, x110, x111, x112, x113, x114, x115, x116, x117, x118, x119, x120, x121, x122, x123, x124, x125, x126, x127, x128, x129, x130, x131, x132, x133, x134, x135, x136, x137, x138, x139, x140, x141, x142, x143, x144, x145, x146, x147, x148, x149, x150, x151, x152, x153, x154, x155, x156, x157, x158, x159, x160, x161, x162, x163, x164, x165, x166, x167, x168, x169, x170, x171, x172, x173, x174, x175, x176, x177, x178, x179, x180, x181, x182, x183, x184, x185, x186, x187, x188, x189, x190, x191, x192, x193, x194, x195, x196, x197, x198, x199, x200, x201, x202, x203, x204, x205, x206, x207, x208, x209, x210, x211, x212, x213, x214, x215, x216, x217, x218, x219, x220, x221, x222, x223, x224, x225, x226, x227, x228, x229, x230, x231, x232, x233, x234, x235, x236, x237, x238, x239, x240], []⟩ w := by
  have hin0 := Lib.hid hin
  have HV := Lib.hid hV
  have HIn := Lib.hid (hin.below hV.bel)
  clear hV
  conv => arg 2; whnf
  dsimp only
  have hlen := HIn.out.i.1
  have hmax := HIn.out.i.2.1
  have p0 := HIn.out.p0
  have Hf := Lib.hid hf
  have Hk := Lib.hid hk
  have Hgv := Lib.hid hgv
  have Hgt := Lib.hid hgt
  have HLen := Lib.hid hlen
  have HQ := Lib.hid hQ
  have HNx := Lib.hid hNx
  clear hf hk hgv hgt hin hQ hNx
  have hi2 : (i : Int) < (cl : Int) := by omega
  have hi0 : (0 : Int) ≤ (i : Int) := by omega
  have hwi : IntKind.i64.wrap ((i : Int) + 1) = (i : Int) + 1 := by rw [IntKind.wrap_i64]; omega
  obtain ⟨_, _, hc⟩ := HIn.out.i
  rcases hc with hc | ⟨b, off, rfl, hb, hc⟩
  · omega
  obtain ⟨c0, c1, c2, c3, c4, c5, c6⟩ := hc i hilt
  clear hc
  obtain ⟨x, hx⟩ : ∃ x, x = xs.getD i noI := ⟨_, rfl⟩
  rw [← hx] at c0 c1 c2 c3 c4 c5 c6
  have HX := Lib.hid hx
  clear hx
  obtain ⟨op, A, B, C, v⟩ := x
  rw [← HX.out] at hop
  simp only at hop
  subst hop
  obtain ⟨vk, vn, vs⟩ := v
  simp only at c0 c1 c2 c3 c4 c5 c6
  have hOk := (formed_at Hf.out).2 i (by rw [HLen.out]; exact hilt)
  rw [← HX.out] at hOk
  obtain ⟨A', B', C', eA, eB, eC, k0, k1, k2, k3, k4⟩ := ok_nat (Int.natCast_nonneg i) hOk
  simp only at eA eB eC k0 k1 k2 k3 k4
  subst eA eB eC
  have hnums : InsR ⟨⟨#[97, 110, 100]⟩, A', B', C', (vk, vn, vs)⟩ := HIn.out.nums _ (show (⟨⟨#[97, 110, 100]⟩, A', B', C', (vk, vn, vs)⟩ : Ins) ∈ xs by
    rw [HX.out, List.getD_eq_getElem?_getD, List.getElem?_eq_getElem (by rw [HLen.out]; exact hilt)]
    exact List.getElem_mem _)
  go_upto_region 16 with (fail)
  obtain ⟨w1, hw1⟩ : ∃ w1, w1 = w.alloc (.cells #[.string ⟨#[97, 110, 100]⟩, .int .i64 (A' : Int), .int .i64 (B' : Int), .int .i64 (C' : Int), .int .i64 vk, .int .i64 vn, .string vs] 145) := ⟨_, rfl⟩
  rw [← hw1]
  have hbw : Below w.heap.size w w1 := by rw [hw1]; exact bel0 _ (Below.refl _ _)
  have hbx : w1.heap[w.heap.size]? = some (.cells #[.string ⟨#[97, 110, 100]⟩, .int .i64 (A' : Int), .int .i64 (B' : Int), .int .i64 (C' : Int), .int .i64 vk, .int .i64 vn, .string vs] 145 (0, 0)) := by rw [hw1]; exact Go.heap_alloc_new w _
  have HBox := Lib.hid (show InBox w1 w.heap.size ⟨#[97, 110, 100]⟩ A' B' C' (vk, vn, vs) from ⟨cell_of_row _ _ 0 _ _ _ hbx, cell_of_row _ _ 1 _ _ _ hbx, cell_of_row _ _ 2 _ _ _ hbx, cell_of_row _ _ 3 _ _ _ hbx, cell_of_row _ _ 4 _ _ _ hbx, cell_of_row _ _ 5 _ _ _ hbx, cell_of_row _ _ 6 _ _ _ hbx⟩)
  have HB1 := Lib.hid (bt HV.out.bel hbw)
  have HGv := Lib.hid (HV.out.val.below hbw)
  have HGt := Lib.hid (HV.out.tru.below hbw)
  have hbv : w.heap.size ≠ gv := by have := HV.out.val.lt; omega
  have hbt : w.heap.size ≠ gt := by have := HV.out.tru.lt; omega
  have HN := Lib.hid hnums
  have HL := Lib.hid HV.out.len
  have HKs := Lib.hid (show 1 ≤ K ∧ K ≤ 1000 by have := (formed_at Hf.out).1; have := Hk.out; omega)
  obtain ⟨f, rfl⟩ : ∃ f', f = f' + 1 := ⟨f - 1, by have := HV.out.fuel; have := HLen.out; omega⟩
  have HStep := Lib.hid (fun (rs' : List Reg) (e' : Int) (n : Nat) hs => runR_step (rs' := rs') (e := e') (n := n) HV.out.ok (by rw [HLen.out]; exact hilt) hs)
  rw [← HX.out] at HStep
  have HFu := Lib.hid HV.out.fuel
  have HRg := Lib.hid HV.out.rg
  rw [Hk.out] at k0 k1 k2 k3 k4
  have K0 := Lib.hid k0
  have K1 := Lib.hid k1
  have K2 := Lib.hid k2
  have K3 := Lib.hid k3
  have K4 := Lib.hid k4
  have HInW := Lib.hid (HIn.out.below hbw)
  have HIl := Lib.hid hilt
  obtain ⟨B0, hB0⟩ : ∃ B0, B0 = w.heap.size := ⟨_, rfl⟩
  rw [← hB0] at hbv hbt HBox ⊢
  clear k0 k1 k2 k3 k4 hnums hOk hw1 hbw hbx c0 c1 c2 c3 c4 c5 c6 hB0 p0 hi2 hlen
  have kk := K3.out class_and
  have hA : A' < K := by have := HKs.out; omega
  have hB : B' < K := by omega
  have hC : C' < K := by omega
  have ht := HStep.out _ _ _ (step_and R A' B' C' (vk, vn, vs) rs i)
  have HT := Lib.hid ht
  clear ht
  have q0 := HBox.out.f0
  go_wp2_with fail
  refine wp_mono (vdr37_any ra rl rc gv gt K B0 rs _ A' B' C' _ ⟨#[65, 78, 68]⟩ andI w1 _ _ _ _ _ _ _ _ _ _ _ _ _ _ _ _ _ _ _ _ _ _ _ _ _ _ _ _ _ _ _ _ _ _ _ _ _ _ _ _ _ _ _ _ _ _ _ _ _ _ _ _ _ _ _ _ _ _ _ _ _ _ _ _ _ _ _ _ _ _ _ _ _ _ _ _ _ _ _ _ _ _ _ _ _ _ _ _ _ _ _ _ _ _ _ _ _ _ _ _ _ _ _ _ _ _ _ _ _ _ _ _ _ _ _ _ _ _ _ _ _ _ _ _ _ _ _ _ _ _ _ _ _ _ _ _ _ _ _ _ _ _ _ _ _ _ _ _ _ _ _ _ _ _ _ _ _ _ _ _ _ _ _ _ _ _ _ _ _ _ _ _ _ _ _ _ _ _ _ _ _ _ _ _ _ _ _ _ _ _ _ _ _ _ _ _ _ _ _ _ _ _ _ _ _ _ _ _ _ _ _ _ _ _ _ _ _ _ _ _ _ _ _ _ _ _ _ _ _ _ _ _ _ _ _ _ HBox.out HGv.out HGt.out hvt hbv hbt HL.out HKs.out.2 hA hB hC vand_any) ?_
  rintro e' a' w2 ⟨rfl, ⟨u0, u1, u2, u3, u4, u5, u6, u7, u8, u9, u10, u11, u12, u13, u14, u15, rfl⟩, hVa, hTr, hS⟩
  have HVa := Lib.hid hVa
  have HTr := Lib.hid hTr
  have HB2 := Lib.hid (Below.sto2 HB1.out hS Hgv.out Hgt.out HB1.out.size)
  clear hVa hTr hS
  have HVn := Lib.hid (VdV.mk (R := R) (xs := xs) (fin := fin) (W0 := W0) (K := K) (i := i + 1) (f := f) (by have := HIl.out; have := HLen.out; omega) (by have := HFu.out; omega) (List.length_set.trans HL.out) (HRg.out.setT A' _) HVa.out HTr.out HB2.out (HT.out.1 (by first | rfl | trivial)))
  go_wp2
  exact HNx.out _ _ ⟨i + 1, _, f, _, _, _, _, _, _, _, _, _, _, _, _, _, _, _, _, _, _, _, _, _, _, _, _, _, _, _, _, _, _, _, _, _, _, _, _, _, _, _, _, _, _, _, _, _, _, _, _, _, _, _, _, _, _, _, _, _, _, _, _, _, _, _, _, _, _, _, _, _, _, _, _, _, _, _, _, _, _, _, _, _, _, _, _, _, _, _, _, _, _, _, _, _, _, _, _, _, _, _, _, _, _, _, _, _, _, _, _, _, _, _, _, _, _, _, _, _, _, _, _, _, _, _, _, _, _, _, _, _, _, _, _, _, _, _, _, _, _, _, _, _, _, _, _, _, _, _, _, _, _, _, _, _, _, _, _, _, _, _, _, _, _, _, _, _, _, _, _, _, _, _, _, _, _, _, _, _, _, _, _, _, _, _, _, _, _, _, _, _, _, _, _, _, _, _, _, _, _, _, _, _, _, _, _, _, _, _, _, _, _, _, _, _, _, _, _, _, _, _, _, _, _, _, _, _, _, _, _, _, _, _, _, _, _, _, Nat.le_refl _, rfl, HVn.out⟩
set_option maxHeartbeats 12800000 in
theorem vdp_or (ca : Option Addr) (cl cc : Nat) (k : Int) (xs : List Ins) (ra : Option Addr) (rl rc : Nat) (R : List (List Val)) (P2 P4 gv gt K : Nat) (fin : Val × Int × Int) (W0 : World) (hin : VmIn ca cl cc k xs ra rl R P2 P4 W0) (hf : formedP k xs = true) (hk : k = (K : Int)) (hgv : W0.heap.size ≤ gv) (hgt : W0.heap.size ≤ gt) (hvt : gv ≠ gt)
    (Nx : Act → World → Prop) (Qo : Exit → Act → World → Prop) (i : Nat) (rs : List Reg) (f : Nat) (x0 x3 x5 x6 x9 x11 x12 x13 x14 x15 x16 x17 x18 x19 x20 x21 x22 x23 x24 x25 x26 x27 x28 x29 x30 x31 x32 x33 x34 x35 x36 x37 x38 x39 x40 x41 x42 x43 x44 x45 x46 x47 x48 x49 x50 x51 x52 x53 x54 x55 x56 x57 x58 x59 x60 x61 x62 x63 x64 x65 x66 x67 x68 x69 x70 x71 x72 x73 x74 x75 x76 x77 x78 x79 x80 x81 x82 x83 x84 x85 x86 x87 x88 x89 x90 x91 x92 x93 x94 x95 x96 x97 x98 x99 x100 x101 x102 x103 x104 x105 x106 x107 x108 x109 x110 x111 x112 x113 x114 x115 x116 x117 x118 x119 x120 x121 x122 x123 x124 x125 x126 x127 x128 x129 x130 x131 x132 x133 x134 x135 x136 x137 x138 x139 x140 x141 x142 x143 x144 x145 x146 x147 x148 x149 x150 x151 x152 x153 x154 x155 x156 x157 x158 x159 x160 x161 x162 x163 x164 x165 x166 x167 x168 x169 x170 x171 x172 x173 x174 x175 x176 x177 x178 x179 x180 x181 x182 x183 x184 x185 x186 x187 x188 x189 x190 x191 x192 x193 x194 x195 x196 x197 x198 x199 x200 x201 x202 x203 x204 x205 x206 x207 x208 x209 x210 x211 x212 x213 x214 x215 x216 x217 x218 x219 x220 x221 x222 x223 x224 x225 x226 x227 x228 x229 x230 x231 x232 x233 x234 x235 x236 x237 x238 x239 x240 : Value) (w : World) (hV : VdV R xs fin W0 gv gt K i rs f w) (hilt : i < cl) (hop : (xs.getD i noI).op = ⟨#[111, 114]⟩)
    (hNx : ∀ a' w', VdJ ra rl rc P2 P4 gv gt K R xs fin W0 (i + 1) a' w' → Nx a' w') (hQ : ∀ (a' : Act) (w' w2 : World), a'.defers = [] → a'.tmps.getD 4 undef = .pointer (some ⟨P4, 0, none⟩) → a'.tmps.getD 5 undef = .int .i64 fin.2.1 → a'.tmps.getD 6 undef = .int .i64 fin.2.2 → ResAt w' P4 fin.1 → Below W0.heap.size W0 w2 → Sto P4 w2 w' → Qo .ret a' w') :
    VdBody.wp Try.prog (Exit.then Nx Qo) ⟨#[x0, .slice ra rl rc, .pointer (some ⟨P2, 0, none⟩), x3, .pointer (some ⟨P4, 0, none⟩), x5, x6, .slice (some ⟨gv, 0, none⟩) K K, .slice (some ⟨gt, 0, none⟩) K K, x9, .int .i64 (i : Int), x11, x12, x13, x14, x15, x16, x17, x18, x19, x20, x21, x22, x23, x24, x25, x26, x27, x28, x29, x30, x31, x32, x33, x34, x35, x36, x37, x38, x39, x40, x41, x42, x43, x44, x45, x46, x47, x48, x49, x50, x51, x52, x53, x54, x55, x56, x57, x58, x59, x60, x61, x62, x63, x64, x65, x66, x67, x68, x69, x70, x71, x72, x73, x74, x75, x76, x77, x78, x79, x80, x81, x82, x83, x84, x85, x86, x87, x88, x89, x90, x91, x92, x93, x94, x95, x96, x97, x98, x99, x100, x101, x102, x103, x104, x105, x106, x107, x108, x109, x110, x111, x112, x113, x114, x115, x116, x117, x118, x119, x120, x121, x122, x123, x124, x125, x126, x127, x128, x129, x130, x131, x132, x133, x134, x135, x136, x137, x138, x139, x140, x141, x142, x143, x144, x145, x146, x147, x148, x149, x150, x151, x152, x153, x154, x155, x156, x157, x158, x159, x160, x161, x162, x163, x164, x165, x166, x167, x168, x169, x170, x171, x172, x173, x174, x175, x176, x177, x178, x179, x180, x181, x182, x183, x184, x185, x186, x187, x188, x189, x190, x191, x192, x193, x194, x195, x196, x197, x198, x199, x200, x201, x202, x203, x204, x205, x206, x207, x208, x209, x210, x211, x212, x213, x214, x215, x216, x217, x218, x219, x220, x221, x222, x223, x224, x225, x226, x227, x228, x229, x230, x231, x232, x233, x234, x235, x236, x237, x238, x239, x240], []⟩ w := by
  have hin0 := Lib.hid hin
  have HV := Lib.hid hV
  have HIn := Lib.hid (hin.below hV.bel)
  clear hV
  conv => arg 2; whnf
  dsimp only
  have hlen := HIn.out.i.1
  have hmax := HIn.out.i.2.1
  have p0 := HIn.out.p0
  have Hf := Lib.hid hf
  have Hk := Lib.hid hk
  have Hgv := Lib.hid hgv
  have Hgt := Lib.hid hgt
  have HLen := Lib.hid hlen
  have HQ := Lib.hid hQ
  have HNx := Lib.hid hNx
  clear hf hk hgv hgt hin hQ hNx
  have hi2 : (i : Int) < (cl : Int) := by omega
  have hi0 : (0 : Int) ≤ (i : Int) := by omega
  have hwi : IntKind.i64.wrap ((i : Int) + 1) = (i : Int) + 1 := by rw [IntKind.wrap_i64]; omega
  obtain ⟨_, _, hc⟩ := HIn.out.i
  rcases hc with hc | ⟨b, off, rfl, hb, hc⟩
  · omega
  obtain ⟨c0, c1, c2, c3, c4, c5, c6⟩ := hc i hilt
  clear hc
  obtain ⟨x, hx⟩ : ∃ x, x = xs.getD i noI := ⟨_, rfl⟩
  rw [← hx] at c0 c1 c2 c3 c4 c5 c6
  have HX := Lib.hid hx
  clear hx
  obtain ⟨op, A, B, C, v⟩ := x
  rw [← HX.out] at hop
  simp only at hop
  subst hop
  obtain ⟨vk, vn, vs⟩ := v
  simp only at c0 c1 c2 c3 c4 c5 c6
  have hOk := (formed_at Hf.out).2 i (by rw [HLen.out]; exact hilt)
  rw [← HX.out] at hOk
  obtain ⟨A', B', C', eA, eB, eC, k0, k1, k2, k3, k4⟩ := ok_nat (Int.natCast_nonneg i) hOk
  simp only at eA eB eC k0 k1 k2 k3 k4
  subst eA eB eC
  have hnums : InsR ⟨⟨#[111, 114]⟩, A', B', C', (vk, vn, vs)⟩ := HIn.out.nums _ (show (⟨⟨#[111, 114]⟩, A', B', C', (vk, vn, vs)⟩ : Ins) ∈ xs by
    rw [HX.out, List.getD_eq_getElem?_getD, List.getElem?_eq_getElem (by rw [HLen.out]; exact hilt)]
    exact List.getElem_mem _)
  go_upto_region 16 with (fail)
  obtain ⟨w1, hw1⟩ : ∃ w1, w1 = w.alloc (.cells #[.string ⟨#[111, 114]⟩, .int .i64 (A' : Int), .int .i64 (B' : Int), .int .i64 (C' : Int), .int .i64 vk, .int .i64 vn, .string vs] 145) := ⟨_, rfl⟩
  rw [← hw1]
  have hbw : Below w.heap.size w w1 := by rw [hw1]; exact bel0 _ (Below.refl _ _)
  have hbx : w1.heap[w.heap.size]? = some (.cells #[.string ⟨#[111, 114]⟩, .int .i64 (A' : Int), .int .i64 (B' : Int), .int .i64 (C' : Int), .int .i64 vk, .int .i64 vn, .string vs] 145 (0, 0)) := by rw [hw1]; exact Go.heap_alloc_new w _
  have HBox := Lib.hid (show InBox w1 w.heap.size ⟨#[111, 114]⟩ A' B' C' (vk, vn, vs) from ⟨cell_of_row _ _ 0 _ _ _ hbx, cell_of_row _ _ 1 _ _ _ hbx, cell_of_row _ _ 2 _ _ _ hbx, cell_of_row _ _ 3 _ _ _ hbx, cell_of_row _ _ 4 _ _ _ hbx, cell_of_row _ _ 5 _ _ _ hbx, cell_of_row _ _ 6 _ _ _ hbx⟩)
  have HB1 := Lib.hid (bt HV.out.bel hbw)
  have HGv := Lib.hid (HV.out.val.below hbw)
  have HGt := Lib.hid (HV.out.tru.below hbw)
  have hbv : w.heap.size ≠ gv := by have := HV.out.val.lt; omega
  have hbt : w.heap.size ≠ gt := by have := HV.out.tru.lt; omega
  have HN := Lib.hid hnums
  have HL := Lib.hid HV.out.len
  have HKs := Lib.hid (show 1 ≤ K ∧ K ≤ 1000 by have := (formed_at Hf.out).1; have := Hk.out; omega)
  obtain ⟨f, rfl⟩ : ∃ f', f = f' + 1 := ⟨f - 1, by have := HV.out.fuel; have := HLen.out; omega⟩
  have HStep := Lib.hid (fun (rs' : List Reg) (e' : Int) (n : Nat) hs => runR_step (rs' := rs') (e := e') (n := n) HV.out.ok (by rw [HLen.out]; exact hilt) hs)
  rw [← HX.out] at HStep
  have HFu := Lib.hid HV.out.fuel
  have HRg := Lib.hid HV.out.rg
  rw [Hk.out] at k0 k1 k2 k3 k4
  have K0 := Lib.hid k0
  have K1 := Lib.hid k1
  have K2 := Lib.hid k2
  have K3 := Lib.hid k3
  have K4 := Lib.hid k4
  have HInW := Lib.hid (HIn.out.below hbw)
  have HIl := Lib.hid hilt
  obtain ⟨B0, hB0⟩ : ∃ B0, B0 = w.heap.size := ⟨_, rfl⟩
  rw [← hB0] at hbv hbt HBox ⊢
  clear k0 k1 k2 k3 k4 hnums hOk hw1 hbw hbx c0 c1 c2 c3 c4 c5 c6 hB0 p0 hi2 hlen
  have kk := K3.out class_or
  have hA : A' < K := by have := HKs.out; omega
  have hB : B' < K := by omega
  have hC : C' < K := by omega
  have ht := HStep.out _ _ _ (step_or R A' B' C' (vk, vn, vs) rs i)
  have HT := Lib.hid ht
  clear ht
  have q0 := HBox.out.f0
  go_wp2_with fail
  refine wp_mono (vdr37_any ra rl rc gv gt K B0 rs _ A' B' C' _ ⟨#[79, 82]⟩ orI w1 _ _ _ _ _ _ _ _ _ _ _ _ _ _ _ _ _ _ _ _ _ _ _ _ _ _ _ _ _ _ _ _ _ _ _ _ _ _ _ _ _ _ _ _ _ _ _ _ _ _ _ _ _ _ _ _ _ _ _ _ _ _ _ _ _ _ _ _ _ _ _ _ _ _ _ _ _ _ _ _ _ _ _ _ _ _ _ _ _ _ _ _ _ _ _ _ _ _ _ _ _ _ _ _ _ _ _ _ _ _ _ _ _ _ _ _ _ _ _ _ _ _ _ _ _ _ _ _ _ _ _ _ _ _ _ _ _ _ _ _ _ _ _ _ _ _ _ _ _ _ _ _ _ _ _ _ _ _ _ _ _ _ _ _ _ _ _ _ _ _ _ _ _ _ _ _ _ _ _ _ _ _ _ _ _ _ _ _ _ _ _ _ _ _ _ _ _ _ _ _ _ _ _ _ _ _ _ _ _ _ _ _ _ _ _ _ _ _ _ _ _ _ _ _ _ _ _ _ _ _ _ _ _ _ _ _ HBox.out HGv.out HGt.out hvt hbv hbt HL.out HKs.out.2 hA hB hC vor_any) ?_
  rintro e' a' w2 ⟨rfl, ⟨u0, u1, u2, u3, u4, u5, u6, u7, u8, u9, u10, u11, u12, u13, u14, u15, rfl⟩, hVa, hTr, hS⟩
  have HVa := Lib.hid hVa
  have HTr := Lib.hid hTr
  have HB2 := Lib.hid (Below.sto2 HB1.out hS Hgv.out Hgt.out HB1.out.size)
  clear hVa hTr hS
  have HVn := Lib.hid (VdV.mk (R := R) (xs := xs) (fin := fin) (W0 := W0) (K := K) (i := i + 1) (f := f) (by have := HIl.out; have := HLen.out; omega) (by have := HFu.out; omega) (List.length_set.trans HL.out) (HRg.out.setT A' _) HVa.out HTr.out HB2.out (HT.out.1 (by first | rfl | trivial)))
  go_wp2
  exact HNx.out _ _ ⟨i + 1, _, f, _, _, _, _, _, _, _, _, _, _, _, _, _, _, _, _, _, _, _, _, _, _, _, _, _, _, _, _, _, _, _, _, _, _, _, _, _, _, _, _, _, _, _, _, _, _, _, _, _, _, _, _, _, _, _, _, _, _, _, _, _, _, _, _, _, _, _, _, _, _, _, _, _, _, _, _, _, _, _, _, _, _, _, _, _, _, _, _, _, _, _, _, _, _, _, _, _, _, _, _, _, _, _, _, _, _, _, _, _, _, _, _, _, _, _, _, _, _, _, _, _, _, _, _, _, _, _, _, _, _, _, _, _, _, _, _, _, _, _, _, _, _, _, _, _, _, _, _, _, _, _, _, _, _, _, _, _, _, _, _, _, _, _, _, _, _, _, _, _, _, _, _, _, _, _, _, _, _, _, _, _, _, _, _, _, _, _, _, _, _, _, _, _, _, _, _, _, _, _, _, _, _, _, _, _, _, _, _, _, _, _, _, _, _, _, _, _, _, _, _, _, _, _, _, _, _, _, _, _, _, _, _, _, _, _, Nat.le_refl _, rfl, HVn.out⟩
set_option maxHeartbeats 12800000 in
theorem vdp_copy (ca : Option Addr) (cl cc : Nat) (k : Int) (xs : List Ins) (ra : Option Addr) (rl rc : Nat) (R : List (List Val)) (P2 P4 gv gt K : Nat) (fin : Val × Int × Int) (W0 : World) (hin : VmIn ca cl cc k xs ra rl R P2 P4 W0) (hf : formedP k xs = true) (hk : k = (K : Int)) (hgv : W0.heap.size ≤ gv) (hgt : W0.heap.size ≤ gt) (hvt : gv ≠ gt)
    (Nx : Act → World → Prop) (Qo : Exit → Act → World → Prop) (i : Nat) (rs : List Reg) (f : Nat) (x0 x3 x5 x6 x9 x11 x12 x13 x14 x15 x16 x17 x18 x19 x20 x21 x22 x23 x24 x25 x26 x27 x28 x29 x30 x31 x32 x33 x34 x35 x36 x37 x38 x39 x40 x41 x42 x43 x44 x45 x46 x47 x48 x49 x50 x51 x52 x53 x54 x55 x56 x57 x58 x59 x60 x61 x62 x63 x64 x65 x66 x67 x68 x69 x70 x71 x72 x73 x74 x75 x76 x77 x78 x79 x80 x81 x82 x83 x84 x85 x86 x87 x88 x89 x90 x91 x92 x93 x94 x95 x96 x97 x98 x99 x100 x101 x102 x103 x104 x105 x106 x107 x108 x109 x110 x111 x112 x113 x114 x115 x116 x117 x118 x119 x120 x121 x122 x123 x124 x125 x126 x127 x128 x129 x130 x131 x132 x133 x134 x135 x136 x137 x138 x139 x140 x141 x142 x143 x144 x145 x146 x147 x148 x149 x150 x151 x152 x153 x154 x155 x156 x157 x158 x159 x160 x161 x162 x163 x164 x165 x166 x167 x168 x169 x170 x171 x172 x173 x174 x175 x176 x177 x178 x179 x180 x181 x182 x183 x184 x185 x186 x187 x188 x189 x190 x191 x192 x193 x194 x195 x196 x197 x198 x199 x200 x201 x202 x203 x204 x205 x206 x207 x208 x209 x210 x211 x212 x213 x214 x215 x216 x217 x218 x219 x220 x221 x222 x223 x224 x225 x226 x227 x228 x229 x230 x231 x232 x233 x234 x235 x236 x237 x238 x239 x240 : Value) (w : World) (hV : VdV R xs fin W0 gv gt K i rs f w) (hilt : i < cl) (hop : (xs.getD i noI).op = ⟨#[99, 111, 112, 121]⟩)
    (hNx : ∀ a' w', VdJ ra rl rc P2 P4 gv gt K R xs fin W0 (i + 1) a' w' → Nx a' w') (hQ : ∀ (a' : Act) (w' w2 : World), a'.defers = [] → a'.tmps.getD 4 undef = .pointer (some ⟨P4, 0, none⟩) → a'.tmps.getD 5 undef = .int .i64 fin.2.1 → a'.tmps.getD 6 undef = .int .i64 fin.2.2 → ResAt w' P4 fin.1 → Below W0.heap.size W0 w2 → Sto P4 w2 w' → Qo .ret a' w') :
    VdBody.wp Try.prog (Exit.then Nx Qo) ⟨#[x0, .slice ra rl rc, .pointer (some ⟨P2, 0, none⟩), x3, .pointer (some ⟨P4, 0, none⟩), x5, x6, .slice (some ⟨gv, 0, none⟩) K K, .slice (some ⟨gt, 0, none⟩) K K, x9, .int .i64 (i : Int), x11, x12, x13, x14, x15, x16, x17, x18, x19, x20, x21, x22, x23, x24, x25, x26, x27, x28, x29, x30, x31, x32, x33, x34, x35, x36, x37, x38, x39, x40, x41, x42, x43, x44, x45, x46, x47, x48, x49, x50, x51, x52, x53, x54, x55, x56, x57, x58, x59, x60, x61, x62, x63, x64, x65, x66, x67, x68, x69, x70, x71, x72, x73, x74, x75, x76, x77, x78, x79, x80, x81, x82, x83, x84, x85, x86, x87, x88, x89, x90, x91, x92, x93, x94, x95, x96, x97, x98, x99, x100, x101, x102, x103, x104, x105, x106, x107, x108, x109, x110, x111, x112, x113, x114, x115, x116, x117, x118, x119, x120, x121, x122, x123, x124, x125, x126, x127, x128, x129, x130, x131, x132, x133, x134, x135, x136, x137, x138, x139, x140, x141, x142, x143, x144, x145, x146, x147, x148, x149, x150, x151, x152, x153, x154, x155, x156, x157, x158, x159, x160, x161, x162, x163, x164, x165, x166, x167, x168, x169, x170, x171, x172, x173, x174, x175, x176, x177, x178, x179, x180, x181, x182, x183, x184, x185, x186, x187, x188, x189, x190, x191, x192, x193, x194, x195, x196, x197, x198, x199, x200, x201, x202, x203, x204, x205, x206, x207, x208, x209, x210, x211, x212, x213, x214, x215, x216, x217, x218, x219, x220, x221, x222, x223, x224, x225, x226, x227, x228, x229, x230, x231, x232, x233, x234, x235, x236, x237, x238, x239, x240], []⟩ w := by
  have hin0 := Lib.hid hin
  have HV := Lib.hid hV
  have HIn := Lib.hid (hin.below hV.bel)
  clear hV
  conv => arg 2; whnf
  dsimp only
  have hlen := HIn.out.i.1
  have hmax := HIn.out.i.2.1
  have p0 := HIn.out.p0
  have Hf := Lib.hid hf
  have Hk := Lib.hid hk
  have Hgv := Lib.hid hgv
  have Hgt := Lib.hid hgt
  have HLen := Lib.hid hlen
  have HQ := Lib.hid hQ
  have HNx := Lib.hid hNx
  clear hf hk hgv hgt hin hQ hNx
  have hi2 : (i : Int) < (cl : Int) := by omega
  have hi0 : (0 : Int) ≤ (i : Int) := by omega
  have hwi : IntKind.i64.wrap ((i : Int) + 1) = (i : Int) + 1 := by rw [IntKind.wrap_i64]; omega
  obtain ⟨_, _, hc⟩ := HIn.out.i
  rcases hc with hc | ⟨b, off, rfl, hb, hc⟩
  · omega
  obtain ⟨c0, c1, c2, c3, c4, c5, c6⟩ := hc i hilt
  clear hc
  obtain ⟨x, hx⟩ : ∃ x, x = xs.getD i noI := ⟨_, rfl⟩
  rw [← hx] at c0 c1 c2 c3 c4 c5 c6
  have HX := Lib.hid hx
  clear hx
  obtain ⟨op, A, B, C, v⟩ := x
  rw [← HX.out] at hop
  simp only at hop
  subst hop
  obtain ⟨vk, vn, vs⟩ := v
  simp only at c0 c1 c2 c3 c4 c5 c6
  have hOk := (formed_at Hf.out).2 i (by rw [HLen.out]; exact hilt)
  rw [← HX.out] at hOk
  obtain ⟨A', B', C', eA, eB, eC, k0, k1, k2, k3, k4⟩ := ok_nat (Int.natCast_nonneg i) hOk
  simp only at eA eB eC k0 k1 k2 k3 k4
  subst eA eB eC
  have hnums : InsR ⟨⟨#[99, 111, 112, 121]⟩, A', B', C', (vk, vn, vs)⟩ := HIn.out.nums _ (show (⟨⟨#[99, 111, 112, 121]⟩, A', B', C', (vk, vn, vs)⟩ : Ins) ∈ xs by
    rw [HX.out, List.getD_eq_getElem?_getD, List.getElem?_eq_getElem (by rw [HLen.out]; exact hilt)]
    exact List.getElem_mem _)
  go_upto_region 16 with (fail)
  obtain ⟨w1, hw1⟩ : ∃ w1, w1 = w.alloc (.cells #[.string ⟨#[99, 111, 112, 121]⟩, .int .i64 (A' : Int), .int .i64 (B' : Int), .int .i64 (C' : Int), .int .i64 vk, .int .i64 vn, .string vs] 145) := ⟨_, rfl⟩
  rw [← hw1]
  have hbw : Below w.heap.size w w1 := by rw [hw1]; exact bel0 _ (Below.refl _ _)
  have hbx : w1.heap[w.heap.size]? = some (.cells #[.string ⟨#[99, 111, 112, 121]⟩, .int .i64 (A' : Int), .int .i64 (B' : Int), .int .i64 (C' : Int), .int .i64 vk, .int .i64 vn, .string vs] 145 (0, 0)) := by rw [hw1]; exact Go.heap_alloc_new w _
  have HBox := Lib.hid (show InBox w1 w.heap.size ⟨#[99, 111, 112, 121]⟩ A' B' C' (vk, vn, vs) from ⟨cell_of_row _ _ 0 _ _ _ hbx, cell_of_row _ _ 1 _ _ _ hbx, cell_of_row _ _ 2 _ _ _ hbx, cell_of_row _ _ 3 _ _ _ hbx, cell_of_row _ _ 4 _ _ _ hbx, cell_of_row _ _ 5 _ _ _ hbx, cell_of_row _ _ 6 _ _ _ hbx⟩)
  have HB1 := Lib.hid (bt HV.out.bel hbw)
  have HGv := Lib.hid (HV.out.val.below hbw)
  have HGt := Lib.hid (HV.out.tru.below hbw)
  have hbv : w.heap.size ≠ gv := by have := HV.out.val.lt; omega
  have hbt : w.heap.size ≠ gt := by have := HV.out.tru.lt; omega
  have HN := Lib.hid hnums
  have HL := Lib.hid HV.out.len
  have HKs := Lib.hid (show 1 ≤ K ∧ K ≤ 1000 by have := (formed_at Hf.out).1; have := Hk.out; omega)
  obtain ⟨f, rfl⟩ : ∃ f', f = f' + 1 := ⟨f - 1, by have := HV.out.fuel; have := HLen.out; omega⟩
  have HStep := Lib.hid (fun (rs' : List Reg) (e' : Int) (n : Nat) hs => runR_step (rs' := rs') (e := e') (n := n) HV.out.ok (by rw [HLen.out]; exact hilt) hs)
  rw [← HX.out] at HStep
  have HFu := Lib.hid HV.out.fuel
  have HRg := Lib.hid HV.out.rg
  rw [Hk.out] at k0 k1 k2 k3 k4
  have K0 := Lib.hid k0
  have K1 := Lib.hid k1
  have K2 := Lib.hid k2
  have K3 := Lib.hid k3
  have K4 := Lib.hid k4
  have HInW := Lib.hid (HIn.out.below hbw)
  have HIl := Lib.hid hilt
  obtain ⟨B0, hB0⟩ : ∃ B0, B0 = w.heap.size := ⟨_, rfl⟩
  rw [← hB0] at hbv hbt HBox ⊢
  clear k0 k1 k2 k3 k4 hnums hOk hw1 hbw hbx c0 c1 c2 c3 c4 c5 c6 hB0 p0 hi2 hlen
  have kk := K2.out class_copy
  have hA : A' < K := by have := HKs.out; omega
  have hB : B' < K := by omega
  have ht := HStep.out _ _ _ (step_copy R A' B' C' (vk, vn, vs) rs i)
  have HT := Lib.hid ht
  clear ht
  go_wp2_with fail
  refine wp_mono (vdr43_any ra rl rc gv gt K B0 rs _ A' B' C' _ w1 _ _ _ _ _ _ _ _ _ _ _ _ _ _ _ _ _ _ _ _ _ _ _ _ _ _ _ _ _ _ _ _ _ _ _ _ _ _ _ _ _ _ _ _ _ _ _ _ _ _ _ _ _ _ _ _ _ _ _ _ _ _ _ _ _ _ _ _ _ _ _ _ _ _ _ _ _ _ _ _ _ _ _ _ _ _ _ _ _ _ _ _ _ _ _ _ _ _ _ _ _ _ _ _ _ _ _ _ _ _ _ _ _ _ _ _ _ _ _ _ _ _ _ _ _ _ _ _ _ _ _ _ _ _ _ _ _ _ _ _ _ _ _ _ _ _ _ _ _ _ _ _ _ _ _ _ _ _ _ _ _ _ _ _ _ _ _ _ _ _ _ _ _ _ _ _ _ _ _ _ _ _ _ _ _ _ _ _ _ _ _ _ _ _ _ _ _ _ _ _ _ _ _ _ _ _ _ _ _ _ _ _ _ _ _ _ _ _ _ _ _ _ _ _ _ _ _ _ _ _ _ _ _ _ _ _ _ HBox.out HGv.out HGt.out hvt hbv hbt HL.out HKs.out.2 hA hB) ?_
  rintro e' a' w2 ⟨rfl, ⟨u0, u1, u2, u3, u4, u5, u6, u7, u8, u9, u10, u11, u12, u13, u14, u15, u16, u17, rfl⟩, hVa, hTr, hS⟩
  have HVa := Lib.hid hVa
  have HTr := Lib.hid hTr
  have HB2 := Lib.hid (Below.sto2 HB1.out hS Hgv.out Hgt.out HB1.out.size)
  clear hVa hTr hS
  have HVn := Lib.hid (VdV.mk (R := R) (xs := xs) (fin := fin) (W0 := W0) (K := K) (i := i + 1) (f := f) (by have := HIl.out; have := HLen.out; omega) (by have := HFu.out; omega) (List.length_set.trans HL.out) (HRg.out.set (r := rs.getD B' noR) (HRg.out.get B') _) HVa.out HTr.out HB2.out (HT.out.1 (by first | rfl | trivial)))
  go_wp2
  exact HNx.out _ _ ⟨i + 1, _, f, _, _, _, _, _, _, _, _, _, _, _, _, _, _, _, _, _, _, _, _, _, _, _, _, _, _, _, _, _, _, _, _, _, _, _, _, _, _, _, _, _, _, _, _, _, _, _, _, _, _, _, _, _, _, _, _, _, _, _, _, _, _, _, _, _, _, _, _, _, _, _, _, _, _, _, _, _, _, _, _, _, _, _, _, _, _, _, _, _, _, _, _, _, _, _, _, _, _, _, _, _, _, _, _, _, _, _, _, _, _, _, _, _, _, _, _, _, _, _, _, _, _, _, _, _, _, _, _, _, _, _, _, _, _, _, _, _, _, _, _, _, _, _, _, _, _, _, _, _, _, _, _, _, _, _, _, _, _, _, _, _, _, _, _, _, _, _, _, _, _, _, _, _, _, _, _, _, _, _, _, _, _, _, _, _, _, _, _, _, _, _, _, _, _, _, _, _, _, _, _, _, _, _, _, _, _, _, _, _, _, _, _, _, _, _, _, _, _, _, _, _, _, _, _, _, _, _, _, _, _, _, _, _, _, _, Nat.le_refl _, rfl, HVn.out⟩
end Go.Proofs.Ytafhgilikcablaa
