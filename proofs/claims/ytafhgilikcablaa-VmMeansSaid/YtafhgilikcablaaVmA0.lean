/- vm.Run: from its label back to it: const, col, neg. (Written by genvmrun.py.) -/
import Derived.Test.YtafhgilikcablaaVmRest
import Derived.Test.YtafhgilikcablaaVmR13
namespace Go.Proofs.Ytafhgilikcablaa
open Go.RowKit
set_option linter.unusedVariables false
set_option linter.unusedSimpArgs false
set_option maxRecDepth 100000
set_option maxHeartbeats 12800000 in
theorem vmp_eq (ca : Option Addr) (cl cc : Nat) (k : Int) (xs : List Ins) (ra : Option Addr) (rl rc : Nat) (R : List (List Val)) (P2 P4 g K : Nat) (fin : Val × Int × Int) (W0 : World) (hin : VmIn ca cl cc k xs ra rl R P2 P4 W0) (hf : formedP k xs = true) (hk : k = (K : Int)) (hg : W0.heap.size ≤ g)
    (Q : Exit → Act → World → Prop) (i : Nat) (rs : List Reg) (f : Nat) (x0 x3 x5 x6 x8 x11 x12 x13 x14 x15 x16 x17 x18 x19 x20 x21 x22 x23 x24 x25 x26 x27 x28 x29 x30 x31 x32 x33 x34 x35 x36 x37 x38 x39 x40 x41 x42 x43 x44 x45 x46 x47 x48 x49 x50 x51 x52 x53 x54 x55 x56 x57 x58 x59 x60 x61 x62 x63 x64 x65 x66 x67 x68 x69 x70 x71 x72 x73 x74 x75 x76 x77 x78 x79 x80 x81 x82 x83 x84 x85 x86 x87 x88 x89 x90 x91 x92 x93 x94 x95 x96 x97 x98 x99 x100 x101 x102 x103 x104 x105 x106 x107 x108 x109 x110 x111 x112 x113 x114 x115 x116 x117 x118 x119 x120 x121 x122 x123 x124 x125 x126 x127 x128 x129 x130 x131 x132 x133 x134 x135 x136 x137 x138 x139 x140 x141 x142 x143 x144 x145 x146 x147 x148 x149 x150 x151 x152 x153 x154 x155 x156 x157 x158 x159 x160 x161 x162 x163 x164 x165 x166 x167 x168 x169 x170 x171 x172 x173 x174 x175 x176 x177 x178 x179 x180 x181 x182 x183 x184 x185 x186 x187 x188 x189 x190 x191 x192 x193 x194 x195 x196 x197 x198 x199 x200 x201 x202 x203 x204 x205 x206 x207 x208 x209 x210 x211 x212 x213 x214 x215 x216 x217 x218 x219 x220 x221 x222 x223 x224 x225 x226 x227 x228 x229 x230 x231 x232 x233 x234 x235 x236 x237 x238 x239 x240 x241 x242 x243 x244 x245 x246 x247 x248 x249 x250 x251 x252 x253 x254 x255 x256 x257 x258 x259 x260 x261 x262 x263 x264 : Value) (w : World) (hV : VmV R xs fin W0 g K i 0 rs f w) (hilt : i < cl) (hop : (xs.getD i noI).op = ⟨#[61]⟩) :
    VmTail.wp Try.prog (Exit.jump 0 (fun a' w' => VmJ ra rl rc P2 P4 g K R xs fin W0 a' w' ∧ cl - atOf a' < cl - i) Q) ⟨#[x0, .slice ra rl rc, .pointer (some ⟨P2, 0, none⟩), x3, .pointer (some ⟨P4, 0, none⟩), x5, x6, .slice (some ⟨g, 0, none⟩) K K, x8, .int .i64 (i : Int), .int .i64 0, x11, x12, x13, x14, x15, x16, x17, x18, x19, x20, x21, x22, x23, x24, x25, x26, x27, x28, x29, x30, x31, x32, x33, x34, x35, x36, x37, x38, x39, x40, x41, x42, x43, x44, x45, x46, x47, x48, x49, x50, x51, x52, x53, x54, x55, x56, x57, x58, x59, x60, x61, x62, x63, x64, x65, x66, x67, x68, x69, x70, x71, x72, x73, x74, x75, x76, x77, x78, x79, x80, x81, x82, x83, x84, x85, x86, x87, x88, x89, x90, x91, x92, x93, x94, x95, x96, x97, x98, x99, x100, x101, x102, x103, x104, x105, x106, x107, x108, x109, x110, x111, x112, x113, x114, x115, x116, x117, x118, x119, x120, x121, x122, x123, x124, x125, x126, x127, x128, x129, x130, x131, x132, x133, x134, x135, x136, x137, x138, x139, x140, x141, x142, x143, x144, x145, x146, x147, x148, x149, x150, x151, x152, x153, x154, x155, x156, x157, x158, x159, x160, x161, x162, x163, x164, x165, x166, x167, x168, x169, x170, x171, x172, x173, x174, x175, x176, x177, x178, x179, x180, x181, x182, x183, x184, x185, x186, x187, x188, x189, x190, x191, x192, x193, x194, x195, x196, x197, x198, x199, x200, x201, x202, x203, x204, x205, x206, x207, x208, x209, x210, x211, x212, x213, x214, x215, x216, x217, x218, x219, x220, x221, x222, x223, x224, x225, x226, x227, x228, x229, x230, x231, x232, x233, x234, x235, x236, x237, x238, x239, x240, x241, x242, x243, x244, x245, x246, x247, x248, x249, x250, x251, x252, x253, x254, x255, x256, x257, x258, x259, x260, x261, x262, x263, x264], []⟩ w := by
  have HV := Lib.hid hV
  have HIn := Lib.hid (hin.below hV.bel)
  clear hV
  conv => arg 2; whnf
  dsimp only
  have hlen := HIn.out.i.1
  have hmax := HIn.out.i.2.1
  have hil := HV.out.ile
  have p0 := HIn.out.p0
  have hP4 := HIn.out.p4
  have a0 := cell_of_row _ _ 0 _ _ _ hP4
  have a1 := cell_of_row _ _ 1 _ _ _ hP4
  have a2 := cell_of_row _ _ 2 _ _ _ hP4
  simp only [List.getElem?_toArray, List.getElem?_cons_zero, List.getElem?_cons_succ, noV] at a0 a1 a2
  have fz : ∀ j, w.frozen? ⟨P4, j, none⟩ = false := fun j => frozen_of_row _ _ j _ _ hP4
  have hlt4 : P4 < w.heap.size := (Array.getElem?_eq_some_iff.1 hP4).1
  have HP4 := Lib.hid hP4
  have Hf := Lib.hid hf
  have Hk := Lib.hid hk
  have Hg := Lib.hid hg
  have HLen := Lib.hid hlen
  have hic : (i : Int) ≤ (cl : Int) := by omega
  clear hP4 hf hk hg hin
  have hi2 : (i : Int) < (cl : Int) := by omega
  have hi3 : ((i : Int) == (cl : Int)) = false := beq_eq_false_iff_ne.2 (by omega)
  have hi0 : (0 : Int) ≤ (i : Int) := by omega
  have hwi : IntKind.i64.wrap ((i : Int) + 1) = ((i + 1 : Nat) : Int) := by rw [IntKind.wrap_i64]; omega
  obtain ⟨_, _, hc⟩ := HIn.out.i
  rcases hc with hc | ⟨b, off, rfl, hb, hc⟩
  · omega
  obtain ⟨c0, c1, c2, c3, c4, c5, c6⟩ := hc i hilt
  clear hc
  obtain ⟨x, hx⟩ : ∃ x, x = xs.getD i noI := ⟨_, rfl⟩
  rw [← hx] at c0 c1 c2 c3 c4 c5 c6
  have HX := Lib.hid hx
  clear hx
  obtain ⟨op, A, B, C, v⟩ := x
  rw [← HX.out] at hop
  simp only at hop
  subst hop
  obtain ⟨vk, vn, vs⟩ := v
  simp only at c0 c1 c2 c3 c4 c5 c6
  have hOk := (formed_at Hf.out).2 i (by rw [HLen.out]; exact hilt)
  rw [← HX.out] at hOk
  obtain ⟨A', B', C', eA, eB, eC, k0, k1, k2, k3, k4⟩ := ok_nat (Int.natCast_nonneg i) hOk
  simp only at eA eB eC k0 k1 k2 k3 k4
  subst eA eB eC
  have hnums : InsR ⟨⟨#[61]⟩, A', B', C', (vk, vn, vs)⟩ := HIn.out.nums _ (show (⟨⟨#[61]⟩, A', B', C', (vk, vn, vs)⟩ : Ins) ∈ xs by
    rw [HX.out, List.getD_eq_getElem?_getD, List.getElem?_eq_getElem (by rw [HLen.out]; exact hilt)]
    exact List.getElem_mem _)
  have hvn : InR vn := hnums.1
  go_upto_region 17 with (fail)
  obtain ⟨w1, hw1⟩ : ∃ w1, w1 = w.alloc (.cells #[.string ⟨#[61]⟩, .int .i64 (A' : Int), .int .i64 (B' : Int), .int .i64 (C' : Int), .int .i64 vk, .int .i64 vn, .string vs] 138) := ⟨_, rfl⟩
  rw [← hw1]
  have hbw : Below w.heap.size w w1 := by rw [hw1]; exact bel0 _ (Below.refl _ _)
  have hbx : w1.heap[w.heap.size]? = some (.cells #[.string ⟨#[61]⟩, .int .i64 (A' : Int), .int .i64 (B' : Int), .int .i64 (C' : Int), .int .i64 vk, .int .i64 vn, .string vs] 138 (0, 0)) := by rw [hw1]; exact Go.heap_alloc_new w _
  have HBox := Lib.hid (show InBox w1 w.heap.size ⟨#[61]⟩ A' B' C' (vk, vn, vs) from ⟨cell_of_row _ _ 0 _ _ _ hbx, cell_of_row _ _ 1 _ _ _ hbx, cell_of_row _ _ 2 _ _ _ hbx, cell_of_row _ _ 3 _ _ _ hbx, cell_of_row _ _ 4 _ _ _ hbx, cell_of_row _ _ 5 _ _ _ hbx, cell_of_row _ _ 6 _ _ _ hbx⟩)
  have HB1 := Lib.hid (bt HV.out.bel hbw)
  have HG1 := Lib.hid (HV.out.at_.below hbw)
  have hbg : w.heap.size ≠ g := by have := HV.out.at_.lt; omega
  have HN := Lib.hid hvn
  have HL := Lib.hid HV.out.len
  have HKs := Lib.hid (show 1 ≤ K ∧ K ≤ 1000 by have := (formed_at Hf.out).1; have := Hk.out; omega)
  obtain ⟨f, rfl⟩ : ∃ f', f = f' + 1 := ⟨f - 1, by have := HV.out.fuel; omega⟩
  have HStep := Lib.hid (fun (rs' : List Reg) (e' : Int) (n : Nat) hs => runR_step (rs' := rs') (e := e') (n := n) (HV.out.ok rfl) (by rw [HLen.out]; exact hilt) hs)
  rw [← HX.out] at HStep
  have HFu := Lib.hid HV.out.fuel
  have HRg := Lib.hid HV.out.rg
  rw [Hk.out] at k0 k1 k2 k3 k4
  have K0 := Lib.hid k0
  have HOk := Lib.hid hOk
  have K9 := Lib.hid (show (B' : Int) ≤ 9223372036854775807 ∧ (C' : Int) ≤ 9223372036854775807 from ⟨hnums.2.1.2, hnums.2.2.2⟩)
  have K1 := Lib.hid k1
  have K2 := Lib.hid k2
  have K3 := Lib.hid k3
  have K4 := Lib.hid k4
  have HInW := Lib.hid (HIn.out.below hbw)
  have HIl := Lib.hid hilt
  obtain ⟨B0, hB0⟩ : ∃ B0, B0 = w.heap.size := ⟨_, rfl⟩
  rw [← hB0] at hbg HBox ⊢
  clear k0 k1 k2 k3 k4 hvn hnums hOk hw1 hbw hbx c0 c1 c2 c3 c4 c5 c6 hB0 p0 a0 a1 a2 fz hlt4 hi0 hi2 hi3 hil hic hwi hlen
  have kk := K3.out class_eq
  have hA : A' < K := by have := HKs.out; omega
  have hB : B' < K := by omega
  have hC : C' < K := by omega
  have ht := HStep.out _ _ _ (step_cmp R A' B' C' (vk, vn, vs) rs i ⟨#[61]⟩ (by simp))
  have HT := Lib.hid ht
  clear ht
  go_wp2_with fail
  refine wp_mono (vmr33_any ra rl rc g K B0 rs _ A' B' C' _ w1 _ _ _ _ _ _ _ _ _ _ _ _ _ _ _ _ _ _ _ _ _ _ _ _ _ _ _ _ _ _ _ _ _ _ _ _ _ _ _ _ _ _ _ _ _ _ _ _ _ _ _ _ _ _ _ _ _ _ _ _ _ _ _ _ _ _ _ _ _ _ _ _ _ _ _ _ _ _ _ _ _ _ _ _ _ _ _ _ _ _ _ _ _ _ _ _ _ _ _ _ _ _ _ _ _ _ _ _ _ _ _ _ _ _ _ _ _ _ _ _ _ _ _ _ _ _ _ _ _ _ _ _ _ _ _ _ _ _ _ _ _ _ _ _ _ _ _ _ _ _ _ _ _ _ _ _ _ _ _ _ _ _ _ _ _ _ _ _ _ _ _ _ _ _ _ _ _ _ _ _ _ _ _ _ _ _ _ _ _ _ _ _ _ _ _ _ _ _ _ _ _ _ _ _ _ _ _ _ _ _ _ _ _ _ _ _ _ _ _ _ _ _ _ _ _ _ _ _ _ _ _ _ _ _ _ _ _ _ _ _ _ _ _ _ _ _ _ _ _ _ _ _ _ _ _ _ _ _ _ _ _ _ HBox.out HG1.out hbg HL.out HKs.out.2 hA hB hC) ?_
  rintro e' a' w2 ⟨rfl, ⟨u0, u1, u2, u3, u4, u5, u6, u7, u8, u9, u10, u11, u12, u13, u14, u15, u16, u17, u18, u19, u20, u21, u22, rfl⟩, hR, hS⟩
  have HR := Lib.hid hR
  have HS := Lib.hid hS
  clear hR hS
  go_wp2
  go_step3
  have HVn := Lib.hid (VmV.mk (R := R) (xs := xs) (fin := fin) (K := K) (i := i + 1) (f := f) (by have := HIl.out; have := HLen.out; omega) (by have := HFu.out; omega) (List.length_set.trans HL.out) (HRg.out.setT A' _) HR.out (Below.sto HB1.out HS.out Hg.out HB1.out.size) (fun h => HT.out.1 (by first | exact h | trivial)) (fun h => HT.out.2 (by first | exact h | exact (h rfl).elim)))
  refine And.intro (a := 0 = 0) rfl ?_
  refine ⟨⟨i + 1, _, _, f, _, _, _, _, _, _, _, _, _, _, _, _, _, _, _, _, _, _, _, _, _, _, _, _, _, _, _, _, _, _, _, _, _, _, _, _, _, _, _, _, _, _, _, _, _, _, _, _, _, _, _, _, _, _, _, _, _, _, _, _, _, _, _, _, _, _, _, _, _, _, _, _, _, _, _, _, _, _, _, _, _, _, _, _, _, _, _, _, _, _, _, _, _, _, _, _, _, _, _, _, _, _, _, _, _, _, _, _, _, _, _, _, _, _, _, _, _, _, _, _, _, _, _, _, _, _, _, _, _, _, _, _, _, _, _, _, _, _, _, _, _, _, _, _, _, _, _, _, _, _, _, _, _, _, _, _, _, _, _, _, _, _, _, _, _, _, _, _, _, _, _, _, _, _, _, _, _, _, _, _, _, _, _, _, _, _, _, _, _, _, _, _, _, _, _, _, _, _, _, _, _, _, _, _, _, _, _, _, _, _, _, _, _, _, _, _, _, _, _, _, _, _, _, _, _, _, _, _, _, _, _, _, _, _, _, _, _, _, _, _, _, _, _, _, _, _, _, _, _, _, _, _, _, _, _, _, _, _, _, rfl, HVn.out⟩, ?_⟩
  show cl - Int.toNat ((i : Int) + 1) < cl - i
  have := HIl.out
  omega
set_option maxHeartbeats 12800000 in
theorem vmp_ne (ca : Option Addr) (cl cc : Nat) (k : Int) (xs : List Ins) (ra : Option Addr) (rl rc : Nat) (R : List (List Val)) (P2 P4 g K : Nat) (fin : Val × Int × Int) (W0 : World) (hin : VmIn ca cl cc k xs ra rl R P2 P4 W0) (hf : formedP k xs = true) (hk : k = (K : Int)) (hg : W0.heap.size ≤ g)
    (Q : Exit → Act → World → Prop) (i : Nat) (rs : List Reg) (f : Nat) (x0 x3 x5 x6 x8 x11 x12 x13 x14 x15 x16 x17 x18 x19 x20 x21 x22 x23 x24 x25 x26 x27 x28 x29 x30 x31 x32 x33 x34 x35 x36 x37 x38 x39 x40 x41 x42 x43 x44 x45 x46 x47 x48 x49 x50 x51 x52 x53 x54 x55 x56 x57 x58 x59 x60 x61 x62 x63 x64 x65 x66 x67 x68 x69 x70 x71 x72 x73 x74 x75 x76 x77 x78 x79 x80 x81 x82 x83 x84 x85 x86 x87 x88 x89 x90 x91 x92 x93 x94 x95 x96 x97 x98 x99 x100 x101 x102 x103 x104 x105 x106 x107 x108 x109 x110 x111 x112 x113 x114 x115 x116 x117 x118 x119 x120 x121 x122 x123 x124 x125 x126 x127 x128 x129 x130 x131 x132 x133 x134 x135 x136 x137 x138 x139 x140 x141 x142 x143 x144 x145 x146 x147 x148 x149 x150 x151 x152 x153 x154 x155 x156 x157 x158 x159 x160 x161 x162 x163 x164 x165 x166 x167 x168 x169 x170 x171 x172 x173 x174 x175 x176 x177 x178 x179 x180 x181 x182 x183 x184 x185 x186 x187 x188 x189 x190 x191 x192 x193 x194 x195 x196 x197 x198 x199 x200 x201 x202 x203 x204 x205 x206 x207 x208 x209 x210 x211 x212 x213 x214 x215 x216 x217 x218 x219 x220 x221 x222 x223 x224 x225 x226 x227 x228 x229 x230 x231 x232 x233 x234 x235 x236 x237 x238 x239 x240 x241 x242 x243 x244 x245 x246 x247 x248 x249 x250 x251 x252 x253 x254 x255 x256 x257 x258 x259 x260 x261 x262 x263 x264 : Value) (w : World) (hV : VmV R xs fin W0 g K i 0 rs f w) (hilt : i < cl) (hop : (xs.getD i noI).op = ⟨#[60, 62]⟩) :
    VmTail.wp Try.prog (Exit.jump 0 (fun a' w' => VmJ ra rl rc P2 P4 g K R xs fin W0 a' w' ∧ cl - atOf a' < cl - i) Q) ⟨#[x0, .slice ra rl rc, .pointer (some ⟨P2, 0, none⟩), x3, .pointer (some ⟨P4, 0, none⟩), x5, x6, .slice (some ⟨g, 0, none⟩) K K, x8, .int .i64 (i : Int), .int .i64 0, x11, x12, x13, x14, x15, x16, x17, x18, x19, x20, x21, x22, x23, x24, x25, x26, x27, x28, x29, x30, x31, x32, x33, x34, x35, x36, x37, x38, x39, x40, x41, x42, x43, x44, x45, x46, x47, x48, x49, x50, x51, x52, x53, x54, x55, x56, x57, x58, x59, x60, x61, x62, x63, x64, x65, x66, x67, x68, x69, x70, x71, x72, x73, x74, x75, x76, x77, x78, x79, x80, x81, x82, x83, x84, x85, x86, x87, x88, x89, x90, x91, x92, x93, x94, x95, x96, x97, x98, x99, x100, x101, x102, x103, x104, x105, x106, x107, x108, x109, x110, x111, x112, x113, x114, x115, x116, x117, x118, x119, x120, x121, x122, x123, x124, x125, x126, x127, x128, x129, x130, x131, x132, x133, x134, x135, x136, x137, x138, x139, x140, x141, x142, x143, x144, x145, x146, x147, x148, x149, x150, x151, x152, x153, x154, x155, x156, x157, x158, x159, x160, x161, x162, x163, x164, x165, x166, x167, x168, x169, x170, x171, x172, x173, x174, x175, x176, x177, x178, x179, x180, x181, x182, x183, x184, x185, x186, x187, x188, x189, x190, x191, x192, x193, x194, x195, x196, x197, x198, x199, x200, x201, x202, x203, x204, x205, x206, x207, x208, x209, x210, x211, x212, x213, x214, x215, x216, x217, x218, x219, x220, x221, x222, x223, x224, x225, x226, x227, x228, x229, x230, x231, x232, x233, x234, x235, x236, x237, x238, x239, x240, x241, x242, x243, x244, x245, x246, x247, x248, x249, x250, x251, x252, x253, x254, x255, x256, x257, x258, x259, x260, x261, x262, x263, x264], []⟩ w := by
  have HV := Lib.hid hV
  have HIn := Lib.hid (hin.below hV.bel)
  clear hV
  conv => arg 2; whnf
  dsimp only
  have hlen := HIn.out.i.1
  have hmax := HIn.out.i.2.1
  have hil := HV.out.ile
  have p0 := HIn.out.p0
  have hP4 := HIn.out.p4
  have a0 := cell_of_row _ _ 0 _ _ _ hP4
  have a1 := cell_of_row _ _ 1 _ _ _ hP4
  have a2 := cell_of_row _ _ 2 _ _ _ hP4
  simp only [List.getElem?_toArray, List.getElem?_cons_zero, List.getElem?_cons_succ, noV] at a0 a1 a2
  have fz : ∀ j, w.frozen? ⟨P4, j, none⟩ = false := fun j => frozen_of_row _ _ j _ _ hP4
  have hlt4 : P4 < w.heap.size := (Array.getElem?_eq_some_iff.1 hP4).1
  have HP4 := Lib.hid hP4
  have Hf := Lib.hid hf
  have Hk := Lib.hid hk
  have Hg := Lib.hid hg
  have HLen := Lib.hid hlen
  have hic : (i : Int) ≤ (cl : Int) := by omega
  clear hP4 hf hk hg hin
  have hi2 : (i : Int) < (cl : Int) := by omega
  have hi3 : ((i : Int) == (cl : Int)) = false := beq_eq_false_iff_ne.2 (by omega)
  have hi0 : (0 : Int) ≤ (i : Int) := by omega
  have hwi : IntKind.i64.wrap ((i : Int) + 1) = ((i + 1 : Nat) : Int) := by rw [IntKind.wrap_i64]; omega
  obtain ⟨_, _, hc⟩ := HIn.out.i
  rcases hc with hc | ⟨b, off, rfl, hb, hc⟩
  · omega
  obtain ⟨c0, c1, c2, c3, c4, c5, c6⟩ := hc i hilt
  clear hc
  obtain ⟨x, hx⟩ : ∃ x, x = xs.getD i noI := ⟨_, rfl⟩
  rw [← hx] at c0 c1 c2 c3 c4 c5 c6
  have HX := Lib.hid hx
  clear hx
  obtain ⟨op, A, B, C, v⟩ := x
  rw [← HX.out] at hop
  simp only at hop
  subst hop
  obtain ⟨vk, vn, vs⟩ := v
  simp only at c0 c1 c2 c3 c4 c5 c6
  have hOk := (formed_at Hf.out).2 i (by rw [HLen.out]; exact hilt)
  rw [← HX.out] at hOk
  obtain ⟨A', B', C', eA, eB, eC, k0, k1, k2, k3, k4⟩ := ok_nat (Int.natCast_nonneg i) hOk
  simp only at eA eB eC k0 k1 k2 k3 k4
  subst eA eB eC
  have hnums : InsR ⟨⟨#[60, 62]⟩, A', B', C', (vk, vn, vs)⟩ := HIn.out.nums _ (show (⟨⟨#[60, 62]⟩, A', B', C', (vk, vn, vs)⟩ : Ins) ∈ xs by
    rw [HX.out, List.getD_eq_getElem?_getD, List.getElem?_eq_getElem (by rw [HLen.out]; exact hilt)]
    exact List.getElem_mem _)
  have hvn : InR vn := hnums.1
  go_upto_region 17 with (fail)
  obtain ⟨w1, hw1⟩ : ∃ w1, w1 = w.alloc (.cells #[.string ⟨#[60, 62]⟩, .int .i64 (A' : Int), .int .i64 (B' : Int), .int .i64 (C' : Int), .int .i64 vk, .int .i64 vn, .string vs] 138) := ⟨_, rfl⟩
  rw [← hw1]
  have hbw : Below w.heap.size w w1 := by rw [hw1]; exact bel0 _ (Below.refl _ _)
  have hbx : w1.heap[w.heap.size]? = some (.cells #[.string ⟨#[60, 62]⟩, .int .i64 (A' : Int), .int .i64 (B' : Int), .int .i64 (C' : Int), .int .i64 vk, .int .i64 vn, .string vs] 138 (0, 0)) := by rw [hw1]; exact Go.heap_alloc_new w _
  have HBox := Lib.hid (show InBox w1 w.heap.size ⟨#[60, 62]⟩ A' B' C' (vk, vn, vs) from ⟨cell_of_row _ _ 0 _ _ _ hbx, cell_of_row _ _ 1 _ _ _ hbx, cell_of_row _ _ 2 _ _ _ hbx, cell_of_row _ _ 3 _ _ _ hbx, cell_of_row _ _ 4 _ _ _ hbx, cell_of_row _ _ 5 _ _ _ hbx, cell_of_row _ _ 6 _ _ _ hbx⟩)
  have HB1 := Lib.hid (bt HV.out.bel hbw)
  have HG1 := Lib.hid (HV.out.at_.below hbw)
  have hbg : w.heap.size ≠ g := by have := HV.out.at_.lt; omega
  have HN := Lib.hid hvn
  have HL := Lib.hid HV.out.len
  have HKs := Lib.hid (show 1 ≤ K ∧ K ≤ 1000 by have := (formed_at Hf.out).1; have := Hk.out; omega)
  obtain ⟨f, rfl⟩ : ∃ f', f = f' + 1 := ⟨f - 1, by have := HV.out.fuel; omega⟩
  have HStep := Lib.hid (fun (rs' : List Reg) (e' : Int) (n : Nat) hs => runR_step (rs' := rs') (e := e') (n := n) (HV.out.ok rfl) (by rw [HLen.out]; exact hilt) hs)
  rw [← HX.out] at HStep
  have HFu := Lib.hid HV.out.fuel
  have HRg := Lib.hid HV.out.rg
  rw [Hk.out] at k0 k1 k2 k3 k4
  have K0 := Lib.hid k0
  have HOk := Lib.hid hOk
  have K9 := Lib.hid (show (B' : Int) ≤ 9223372036854775807 ∧ (C' : Int) ≤ 9223372036854775807 from ⟨hnums.2.1.2, hnums.2.2.2⟩)
  have K1 := Lib.hid k1
  have K2 := Lib.hid k2
  have K3 := Lib.hid k3
  have K4 := Lib.hid k4
  have HInW := Lib.hid (HIn.out.below hbw)
  have HIl := Lib.hid hilt
  obtain ⟨B0, hB0⟩ : ∃ B0, B0 = w.heap.size := ⟨_, rfl⟩
  rw [← hB0] at hbg HBox ⊢
  clear k0 k1 k2 k3 k4 hvn hnums hOk hw1 hbw hbx c0 c1 c2 c3 c4 c5 c6 hB0 p0 a0 a1 a2 fz hlt4 hi0 hi2 hi3 hil hic hwi hlen
  have kk := K3.out class_ne
  have hA : A' < K := by have := HKs.out; omega
  have hB : B' < K := by omega
  have hC : C' < K := by omega
  have ht := HStep.out _ _ _ (step_cmp R A' B' C' (vk, vn, vs) rs i ⟨#[60, 62]⟩ (by simp))
  have HT := Lib.hid ht
  clear ht
  go_wp2_with fail
  refine wp_mono (vmr33_any ra rl rc g K B0 rs _ A' B' C' _ w1 _ _ _ _ _ _ _ _ _ _ _ _ _ _ _ _ _ _ _ _ _ _ _ _ _ _ _ _ _ _ _ _ _ _ _ _ _ _ _ _ _ _ _ _ _ _ _ _ _ _ _ _ _ _ _ _ _ _ _ _ _ _ _ _ _ _ _ _ _ _ _ _ _ _ _ _ _ _ _ _ _ _ _ _ _ _ _ _ _ _ _ _ _ _ _ _ _ _ _ _ _ _ _ _ _ _ _ _ _ _ _ _ _ _ _ _ _ _ _ _ _ _ _ _ _ _ _ _ _ _ _ _ _ _ _ _ _ _ _ _ _ _ _ _ _ _ _ _ _ _ _ _ _ _ _ _ _ _ _ _ _ _ _ _ _ _ _ _ _ _ _ _ _ _ _ _ _ _ _ _ _ _ _ _ _ _ _ _ _ _ _ _ _ _ _ _ _ _ _ _ _ _ _ _ _ _ _ _ _ _ _ _ _ _ _ _ _ _ _ _ _ _ _ _ _ _ _ _ _ _ _ _ _ _ _ _ _ _ _ _ _ _ _ _ _ _ _ _ _ _ _ _ _ _ _ _ _ _ _ _ _ _ HBox.out HG1.out hbg HL.out HKs.out.2 hA hB hC) ?_
  rintro e' a' w2 ⟨rfl, ⟨u0, u1, u2, u3, u4, u5, u6, u7, u8, u9, u10, u11, u12, u13, u14, u15, u16, u17, u18, u19, u20, u21, u22, rfl⟩, hR, hS⟩
  have HR := Lib.hid hR
  have HS := Lib.hid hS
  clear hR hS
  go_wp2
  go_step3
  have HVn := Lib.hid (VmV.mk (R := R) (xs := xs) (fin := fin) (K := K) (i := i + 1) (f := f) (by have := HIl.out; have := HLen.out; omega) (by have := HFu.out; omega) (List.length_set.trans HL.out) (HRg.out.setT A' _) HR.out (Below.sto HB1.out HS.out Hg.out HB1.out.size) (fun h => HT.out.1 (by first | exact h | trivial)) (fun h => HT.out.2 (by first | exact h | exact (h rfl).elim)))
  refine And.intro (a := 0 = 0) rfl ?_
  refine ⟨⟨i + 1, _, _, f, _, _, _, _, _, _, _, _, _, _, _, _, _, _, _, _, _, _, _, _, _, _, _, _, _, _, _, _, _, _, _, _, _, _, _, _, _, _, _, _, _, _, _, _, _, _, _, _, _, _, _, _, _, _, _, _, _, _, _, _, _, _, _, _, _, _, _, _, _, _, _, _, _, _, _, _, _, _, _, _, _, _, _, _, _, _, _, _, _, _, _, _, _, _, _, _, _, _, _, _, _, _, _, _, _, _, _, _, _, _, _, _, _, _, _, _, _, _, _, _, _, _, _, _, _, _, _, _, _, _, _, _, _, _, _, _, _, _, _, _, _, _, _, _, _, _, _, _, _, _, _, _, _, _, _, _, _, _, _, _, _, _, _, _, _, _, _, _, _, _, _, _, _, _, _, _, _, _, _, _, _, _, _, _, _, _, _, _, _, _, _, _, _, _, _, _, _, _, _, _, _, _, _, _, _, _, _, _, _, _, _, _, _, _, _, _, _, _, _, _, _, _, _, _, _, _, _, _, _, _, _, _, _, _, _, _, _, _, _, _, _, _, _, _, _, _, _, _, _, _, _, _, _, _, _, _, _, _, _, rfl, HVn.out⟩, ?_⟩
  show cl - Int.toNat ((i : Int) + 1) < cl - i
  have := HIl.out
  omega
set_option maxHeartbeats 12800000 in
theorem vmp_lt (ca : Option Addr) (cl cc : Nat) (k : Int) (xs : List Ins) (ra : Option Addr) (rl rc : Nat) (R : List (List Val)) (P2 P4 g K : Nat) (fin : Val × Int × Int) (W0 : World) (hin : VmIn ca cl cc k xs ra rl R P2 P4 W0) (hf : formedP k xs = true) (hk : k = (K : Int)) (hg : W0.heap.size ≤ g)
    (Q : Exit → Act → World → Prop) (i : Nat) (rs : List Reg) (f : Nat) (x0 x3 x5 x6 x8 x11 x12 x13 x14 x15 x16 x17 x18 x19 x20 x21 x22 x23 x24 x25 x26 x27 x28 x29 x30 x31 x32 x33 x34 x35 x36 x37 x38 x39 x40 x41 x42 x43 x44 x45 x46 x47 x48 x49 x50 x51 x52 x53 x54 x55 x56 x57 x58 x59 x60 x61 x62 x63 x64 x65 x66 x67 x68 x69 x70 x71 x72 x73 x74 x75 x76 x77 x78 x79 x80 x81 x82 x83 x84 x85 x86 x87 x88 x89 x90 x91 x92 x93 x94 x95 x96 x97 x98 x99 x100 x101 x102 x103 x104 x105 x106 x107 x108 x109 x110 x111 x112 x113 x114 x115 x116 x117 x118 x119 x120 x121 x122 x123 x124 x125 x126 x127 x128 x129 x130 x131 x132 x133 x134 x135 x136 x137 x138 x139 x140 x141 x142 x143 x144 x145 x146 x147 x148 x149 x150 x151 x152 x153 x154 x155 x156 x157 x158 x159 x160 x161 x162 x163 x164 x165 x166 x167 x168 x169 x170 x171 x172 x173 x174 x175 x176 x177 x178 x179 x180 x181 x182 x183 x184 x185 x186 x187 x188 x189 x190 x191 x192 x193 x194 x195 x196 x197 x198 x199 x200 x201 x202 x203 x204 x205 x206 x207 x208 x209 x210 x211 x212 x213 x214 x215 x216 x217 x218 x219 x220 x221 x222 x223 x224 x225 x226 x227 x228 x229 x230 x231 x232 x233 x234 x235 x236 x237 x238 x239 x240 x241 x242 x243 x244 x245 x246 x247 x248 x249 x250 x251 x252 x253 x254 x255 x256 x257 x258 x259 x260 x261 x262 x263 x264 : Value) (w : World) (hV : VmV R xs fin W0 g K i 0 rs f w) (hilt : i < cl) (hop : (xs.getD i noI).op = ⟨#[60]⟩) :
    VmTail.wp Try.prog (Exit.jump 0 (fun a' w' => VmJ ra rl rc P2 P4 g K R xs fin W0 a' w' ∧ cl - atOf a' < cl - i) Q) ⟨#[x0, .slice ra rl rc, .pointer (some ⟨P2, 0, none⟩), x3, .pointer (some ⟨P4, 0, none⟩), x5, x6, .slice (some ⟨g, 0, none⟩) K K, x8, .int .i64 (i : Int), .int .i64 0, x11, x12, x13, x14, x15, x16, x17, x18, x19, x20, x21, x22, x23, x24, x25, x26, x27, x28, x29, x30, x31, x32, x33, x34, x35, x36, x37, x38, x39, x40, x41, x42, x43, x44, x45, x46, x47, x48, x49, x50, x51, x52, x53, x54, x55, x56, x57, x58, x59, x60, x61, x62, x63, x64, x65, x66, x67, x68, x69, x70, x71, x72, x73, x74, x75, x76, x77, x78, x79, x80, x81, x82, x83, x84, x85, x86, x87, x88, x89, x90, x91, x92, x93, x94, x95, x96, x97, x98, x99, x100, x101, x102, x103, x104, x105, x106, x107, x108, x109, x110, x111, x112, x113, x114, x115, x116, x117, x118, x119, x120, x121, x122, x123, x124, x125, x126, x127, x128, x129, x130, x131, x132, x133, x134, x135, x136, x137, x138, x139, x140, x141, x142, x143, x144, x145, x146, x147, x148, x149, x150, x151, x152, x153, x154, x155, x156, x157, x158, x159, x160, x161, x162, x163, x164, x165, x166, x167, x168, x169, x170, x171, x172, x173, x174, x175, x176, x177, x178, x179, x180, x181, x182, x183, x184, x185, x186, x187, x188, x189, x190, x191, x192, x193, x194, x195, x196, x197, x198, x199, x200, x201, x202, x203, x204, x205, x206, x207, x208, x209, x210, x211, x212, x213, x214, x215, x216, x217, x218, x219, x220, x221, x222, x223, x224, x225, x226, x227, x228, x229, x230, x231, x232, x233, x234, x235, x236, x237, x238, x239, x240, x241, x242, x243, x244, x245, x246, x247, x248, x249, x250, x251, x252, x253, x254, x255, x256, x257, x258, x259, x260, x261, x262, x263, x264], []⟩ w := by
  have HV := Lib.hid hV
  have HIn := Lib.hid (hin.below hV.bel)
  clear hV
  conv => arg 2; whnf
  dsimp only
  have hlen := HIn.out.i.1
  have hmax := HIn.out.i.2.1
  have hil := HV.out.ile
  have p0 := HIn.out.p0
  have hP4 := HIn.out.p4
  have a0 := cell_of_row _ _ 0 _ _ _ hP4
  have a1 := cell_of_row _ _ 1 _ _ _ hP4
  have a2 := cell_of_row _ _ 2 _ _ _ hP4
  simp only [List.getElem?_toArray, List.getElem?_cons_zero, List.getElem?_cons_succ, noV] at a0 a1 a2
  have fz : ∀ j, w.frozen? ⟨P4, j, none⟩ = false := fun j => frozen_of_row _ _ j _ _ hP4
  have hlt4 : P4 < w.heap.size := (Array.getElem?_eq_some_iff.1 hP4).1
  have HP4 := Lib.hid hP4
  have Hf := Lib.hid hf
  have Hk := Lib.hid hk
  have Hg := Lib.hid hg
  have HLen := Lib.hid hlen
  have hic : (i : Int) ≤ (cl : Int) := by omega
  clear hP4 hf hk hg hin
  have hi2 : (i : Int) < (cl : Int) := by omega
  have hi3 : ((i : Int) == (cl : Int)) = false := beq_eq_false_iff_ne.2 (by omega)
  have hi0 : (0 : Int) ≤ (i : Int) := by omega
  have hwi : IntKind.i64.wrap ((i : Int) + 1) = ((i + 1 : Nat) : Int) := by rw [IntKind.wrap_i64]; omega
  obtain ⟨_, _, hc⟩ := HIn.out.i
  rcases hc with hc | ⟨b, off, rfl, hb, hc⟩
  · omega
  obtain ⟨c0, c1, c2, c3, c4, c5, c6⟩ := hc i hilt
  clear hc
  obtain ⟨x, hx⟩ : ∃ x, x = xs.getD i noI := ⟨_, rfl⟩
  rw [← hx] at c0 c1 c2 c3 c4 c5 c6
  have HX := Lib.hid hx
  clear hx
  obtain ⟨op, A, B, C, v⟩ := x
  rw [← HX.out] at hop
  simp only at hop
  subst hop
  obtain ⟨vk, vn, vs⟩ := v
  simp only at c0 c1 c2 c3 c4 c5 c6
  have hOk := (formed_at Hf.out).2 i (by rw [HLen.out]; exact hilt)
  rw [← HX.out] at hOk
  obtain ⟨A', B', C', eA, eB, eC, k0, k1, k2, k3, k4⟩ := ok_nat (Int.natCast_nonneg i) hOk
  simp only at eA eB eC k0 k1 k2 k3 k4
  subst eA eB eC
  have hnums : InsR ⟨⟨#[60]⟩, A', B', C', (vk, vn, vs)⟩ := HIn.out.nums _ (show (⟨⟨#[60]⟩, A', B', C', (vk, vn, vs)⟩ : Ins) ∈ xs by
    rw [HX.out, List.getD_eq_getElem?_getD, List.getElem?_eq_getElem (by rw [HLen.out]; exact hilt)]
    exact List.getElem_mem _)
  have hvn : InR vn := hnums.1
  go_upto_region 17 with (fail)
  obtain ⟨w1, hw1⟩ : ∃ w1, w1 = w.alloc (.cells #[.string ⟨#[60]⟩, .int .i64 (A' : Int), .int .i64 (B' : Int), .int .i64 (C' : Int), .int .i64 vk, .int .i64 vn, .string vs] 138) := ⟨_, rfl⟩
  rw [← hw1]
  have hbw : Below w.heap.size w w1 := by rw [hw1]; exact bel0 _ (Below.refl _ _)
  have hbx : w1.heap[w.heap.size]? = some (.cells #[.string ⟨#[60]⟩, .int .i64 (A' : Int), .int .i64 (B' : Int), .int .i64 (C' : Int), .int .i64 vk, .int .i64 vn, .string vs] 138 (0, 0)) := by rw [hw1]; exact Go.heap_alloc_new w _
  have HBox := Lib.hid (show InBox w1 w.heap.size ⟨#[60]⟩ A' B' C' (vk, vn, vs) from ⟨cell_of_row _ _ 0 _ _ _ hbx, cell_of_row _ _ 1 _ _ _ hbx, cell_of_row _ _ 2 _ _ _ hbx, cell_of_row _ _ 3 _ _ _ hbx, cell_of_row _ _ 4 _ _ _ hbx, cell_of_row _ _ 5 _ _ _ hbx, cell_of_row _ _ 6 _ _ _ hbx⟩)
  have HB1 := Lib.hid (bt HV.out.bel hbw)
  have HG1 := Lib.hid (HV.out.at_.below hbw)
  have hbg : w.heap.size ≠ g := by have := HV.out.at_.lt; omega
  have HN := Lib.hid hvn
  have HL := Lib.hid HV.out.len
  have HKs := Lib.hid (show 1 ≤ K ∧ K ≤ 1000 by have := (formed_at Hf.out).1; have := Hk.out; omega)
  obtain ⟨f, rfl⟩ : ∃ f', f = f' + 1 := ⟨f - 1, by have := HV.out.fuel; omega⟩
  have HStep := Lib.hid (fun (rs' : List Reg) (e' : Int) (n : Nat) hs => runR_step (rs' := rs') (e := e') (n := n) (HV.out.ok rfl) (by rw [HLen.out]; exact hilt) hs)
  rw [← HX.out] at HStep
  have HFu := Lib.hid HV.out.fuel
  have HRg := Lib.hid HV.out.rg
  rw [Hk.out] at k0 k1 k2 k3 k4
  have K0 := Lib.hid k0
  have HOk := Lib.hid hOk
  have K9 := Lib.hid (show (B' : Int) ≤ 9223372036854775807 ∧ (C' : Int) ≤ 9223372036854775807 from ⟨hnums.2.1.2, hnums.2.2.2⟩)
  have K1 := Lib.hid k1
  have K2 := Lib.hid k2
  have K3 := Lib.hid k3
  have K4 := Lib.hid k4
  have HInW := Lib.hid (HIn.out.below hbw)
  have HIl := Lib.hid hilt
  obtain ⟨B0, hB0⟩ : ∃ B0, B0 = w.heap.size := ⟨_, rfl⟩
  rw [← hB0] at hbg HBox ⊢
  clear k0 k1 k2 k3 k4 hvn hnums hOk hw1 hbw hbx c0 c1 c2 c3 c4 c5 c6 hB0 p0 a0 a1 a2 fz hlt4 hi0 hi2 hi3 hil hic hwi hlen
  have kk := K3.out class_lt
  have hA : A' < K := by have := HKs.out; omega
  have hB : B' < K := by omega
  have hC : C' < K := by omega
  have ht := HStep.out _ _ _ (step_cmp R A' B' C' (vk, vn, vs) rs i ⟨#[60]⟩ (by simp))
  have HT := Lib.hid ht
  clear ht
  go_wp2_with fail
  refine wp_mono (vmr33_any ra rl rc g K B0 rs _ A' B' C' _ w1 _ _ _ _ _ _ _ _ _ _ _ _ _ _ _ _ _ _ _ _ _ _ _ _ _ _ _ _ _ _ _ _ _ _ _ _ _ _ _ _ _ _ _ _ _ _ _ _ _ _ _ _ _ _ _ _ _ _ _ _ _ _ _ _ _ _ _ _ _ _ _ _ _ _ _ _ _ _ _ _ _ _ _ _ _ _ _ _ _ _ _ _ _ _ _ _ _ _ _ _ _ _ _ _ _ _ _ _ _ _ _ _ _ _ _ _ _ _ _ _ _ _ _ _ _ _ _ _ _ _ _ _ _ _ _ _ _ _ _ _ _ _ _ _ _ _ _ _ _ _ _ _ _ _ _ _ _ _ _ _ _ _ _ _ _ _ _ _ _ _ _ _ _ _ _ _ _ _ _ _ _ _ _ _ _ _ _ _ _ _ _ _ _ _ _ _ _ _ _ _ _ _ _ _ _ _ _ _ _ _ _ _ _ _ _ _ _ _ _ _ _ _ _ _ _ _ _ _ _ _ _ _ _ _ _ _ _ _ _ _ _ _ _ _ _ _ _ _ _ _ _ _ _ _ _ _ _ _ _ _ _ _ HBox.out HG1.out hbg HL.out HKs.out.2 hA hB hC) ?_
  rintro e' a' w2 ⟨rfl, ⟨u0, u1, u2, u3, u4, u5, u6, u7, u8, u9, u10, u11, u12, u13, u14, u15, u16, u17, u18, u19, u20, u21, u22, rfl⟩, hR, hS⟩
  have HR := Lib.hid hR
  have HS := Lib.hid hS
  clear hR hS
  go_wp2
  go_step3
  have HVn := Lib.hid (VmV.mk (R := R) (xs := xs) (fin := fin) (K := K) (i := i + 1) (f := f) (by have := HIl.out; have := HLen.out; omega) (by have := HFu.out; omega) (List.length_set.trans HL.out) (HRg.out.setT A' _) HR.out (Below.sto HB1.out HS.out Hg.out HB1.out.size) (fun h => HT.out.1 (by first | exact h | trivial)) (fun h => HT.out.2 (by first | exact h | exact (h rfl).elim)))
  refine And.intro (a := 0 = 0) rfl ?_
  refine ⟨⟨i + 1, _, _, f, _, _, _, _, _, _, _, _, _, _, _, _, _, _, _, _, _, _, _, _, _, _, _, _, _, _, _, _, _, _, _, _, _, _, _, _, _, _, _, _, _, _, _, _, _, _, _, _, _, _, _, _, _, _, _, _, _, _, _, _, _, _, _, _, _, _, _, _, _, _, _, _, _, _, _, _, _, _, _, _, _, _, _, _, _, _, _, _, _, _, _, _, _, _, _, _, _, _, _, _, _, _, _, _, _, _, _, _, _, _, _, _, _, _, _, _, _, _, _, _, _, _, _, _, _, _, _, _, _, _, _, _, _, _, _, _, _, _, _, _, _, _, _, _, _, _, _, _, _, _, _, _, _, _, _, _, _, _, _, _, _, _, _, _, _, _, _, _, _, _, _, _, _, _, _, _, _, _, _, _, _, _, _, _, _, _, _, _, _, _, _, _, _, _, _, _, _, _, _, _, _, _, _, _, _, _, _, _, _, _, _, _, _, _, _, _, _, _, _, _, _, _, _, _, _, _, _, _, _, _, _, _, _, _, _, _, _, _, _, _, _, _, _, _, _, _, _, _, _, _, _, _, _, _, _, _, _, _, _, rfl, HVn.out⟩, ?_⟩
  show cl - Int.toNat ((i : Int) + 1) < cl - i
  have := HIl.out
  omega
end Go.Proofs.Ytafhgilikcablaa
namespace Go.Proofs.Ytafhgilikcablaa
open Go.RowKit
set_option linter.unusedVariables false
set_option linter.unusedSimpArgs false
set_option maxRecDepth 100000
set_option maxHeartbeats 12800000 in
theorem vmp_add (ca : Option Addr) (cl cc : Nat) (k : Int) (xs : List Ins) (ra : Option Addr) (rl rc : Nat) (R : List (List Val)) (P2 P4 g K : Nat) (fin : Val × Int × Int) (W0 : World) (hin : VmIn ca cl cc k xs ra rl R P2 P4 W0) (hf : formedP k xs = true) (hk : k = (K : Int)) (hg : W0.heap.size ≤ g)
    (Q : Exit → Act → World → Prop) (i : Nat) (rs : List Reg) (f : Nat) (x0 x3 x5 x6 x8 x11 x12 x13 x14 x15 x16 x17 x18 x19 x20 x21 x22 x23 x24 x25 x26 x27 x28 x29 x30 x31 x32 x33 x34 x35 x36 x37 x38 x39 x40 x41 x42 x43 x44 x45 x46 x47 x48 x49 x50 x51 x52 x53 x54 x55 x56 x57 x58 x59 x60 x61 x62 x63 x64 x65 x66 x67 x68 x69 x70 x71 x72 x73 x74 x75 x76 x77 x78 x79 x80 x81 x82 x83 x84 x85 x86 x87 x88 x89 x90 x91 x92 x93 x94 x95 x96 x97 x98 x99 x100 x101 x102 x103 x104 x105 x106 x107 x108 x109 x110 x111 x112 x113 x114 x115 x116 x117 x118 x119 x120 x121 x122 x123 x124 x125 x126 x127 x128 x129 x130 x131 x132 x133 x134 x135 x136 x137 x138 x139 x140 x141 x142 x143 x144 x145 x146 x147 x148 x149 x150 x151 x152 x153 x154 x155 x156 x157 x158 x159 x160 x161 x162 x163 x164 x165 x166 x167 x168 x169 x170 x171 x172 x173 x174 x175 x176 x177 x178 x179 x180 x181 x182 x183 x184 x185 x186 x187 x188 x189 x190 x191 x192 x193 x194 x195 x196 x197 x198 x199 x200 x201 x202 x203 x204 x205 x206 x207 x208 x209 x210 x211 x212 x213 x214 x215 x216 x217 x218 x219 x220 x221 x222 x223 x224 x225 x226 x227 x228 x229 x230 x231 x232 x233 x234 x235 x236 x237 x238 x239 x240 x241 x242 x243 x244 x245 x246 x247 x248 x249 x250 x251 x252 x253 x254 x255 x256 x257 x258 x259 x260 x261 x262 x263 x264 : Value) (w : World) (hV : VmV R xs fin W0 g K i 0 rs f w) (hilt : i < cl) (hop : (xs.getD i noI).op = ⟨#[43]⟩) :
    VmTail.wp Try.prog (Exit.jump 0 (fun a' w' => VmJ ra rl rc P2 P4 g K R xs fin W0 a' w' ∧ cl - atOf a' < cl - i) Q) ⟨#[x0, .slice ra rl rc, .pointer (some ⟨P2, 0, none⟩), x3, .pointer (some ⟨P4, 0, none⟩), x5, x6, .slice (some ⟨g, 0, none⟩) K K, x8, .int .i64 (i : Int), .int .i64 0, x11, x12, x13, x14, x15, x16, x17, x18, x19, x20, x21, x22, x23, x24, x25, x26, x27, x28, x29, x30, x31, x32, x33, x34, x35, x36, x37, x38, x39, x40, x41, x42, x43, x44, x45, x46, x47, x48, x49, x50, x51, x52, x53, x54, x55, x56, x57, x58, x59, x60, x61, x62, x63, x64, x65, x66, x67, x68, x69, x70, x71, x72, x73, x74, x75, x76, x77, x78, x79, x80, x81, x82, x83, x84, x85, x86, x87, x88, x89, x90, x91, x92, x93, x94, x95, x96, x97, x98, x99, x100, x101, x102, x103, x104, x105, x106, x107, x108, x109, x110, x111, x112, x113, x114, x115, x116, x117, x118, x119, x120, x121, x122, x123, x124, x125, x126, x127, x128, x129, x130, x131, x132, x133, x134, x135, x136, x137, x138, x139, x140, x141, x142, x143, x144, x145, x146, x147, x148, x149, x150, x151, x152, x153, x154, x155, x156, x157, x158, x159, x160, x161, x162, x163, x164, x165, x166, x167, x168, x169, x170, x171, x172, x173, x174, x175, x176, x177, x178, x179, x180, x181, x182, x183, x184, x185, x186, x187, x188, x189, x190, x191, x192, x193, x194, x195, x196, x197, x198, x199, x200, x201, x202, x203, x204, x205, x206, x207, x208, x209, x210, x211, x212, x213, x214, x215, x216, x217, x218, x219, x220, x221, x222, x223, x224, x225, x226, x227, x228, x229, x230, x231, x232, x233, x234, x235, x236, x237, x238, x239, x240, x241, x242, x243, x244, x245, x246, x247, x248, x249, x250, x251, x252, x253, x254, x255, x256, x257, x258, x259, x260, x261, x262, x263, x264], []⟩ w := by
  have HV := Lib.hid hV
  have HIn := Lib.hid (hin.below hV.bel)
  clear hV
  conv => arg 2; whnf
  dsimp only
  have hlen := HIn.out.i.1
  have hmax := HIn.out.i.2.1
  have hil := HV.out.ile
  have p0 := HIn.out.p0
  have hP4 := HIn.out.p4
  have a0 := cell_of_row _ _ 0 _ _ _ hP4
  have a1 := cell_of_row _ _ 1 _ _ _ hP4
  have a2 := cell_of_row _ _ 2 _ _ _ hP4
  simp only [List.getElem?_toArray, List.getElem?_cons_zero, List.getElem?_cons_succ, noV] at a0 a1 a2
  have fz : ∀ j, w.frozen? ⟨P4, j, none⟩ = false := fun j => frozen_of_row _ _ j _ _ hP4
  have hlt4 : P4 < w.heap.size := (Array.getElem?_eq_some_iff.1 hP4).1
  have HP4 := Lib.hid hP4
  have Hf := Lib.hid hf
  have Hk := Lib.hid hk
  have Hg := Lib.hid hg
  have HLen := Lib.hid hlen
  have hic : (i : Int) ≤ (cl : Int) := by omega
  clear hP4 hf hk hg hin
  have hi2 : (i : Int) < (cl : Int) := by omega
  have hi3 : ((i : Int) == (cl : Int)) = false := beq_eq_false_iff_ne.2 (by omega)
  have hi0 : (0 : Int) ≤ (i : Int) := by omega
  have hwi : IntKind.i64.wrap ((i : Int) + 1) = ((i + 1 : Nat) : Int) := by rw [IntKind.wrap_i64]; omega
  obtain ⟨_, _, hc⟩ := HIn.out.i
  rcases hc with hc | ⟨b, off, rfl, hb, hc⟩
  · omega
  obtain ⟨c0, c1, c2, c3, c4, c5, c6⟩ := hc i hilt
  clear hc
  obtain ⟨x, hx⟩ : ∃ x, x = xs.getD i noI := ⟨_, rfl⟩
  rw [← hx] at c0 c1 c2 c3 c4 c5 c6
  have HX := Lib.hid hx
  clear hx
  obtain ⟨op, A, B, C, v⟩ := x
  rw [← HX.out] at hop
  simp only at hop
  subst hop
  obtain ⟨vk, vn, vs⟩ := v
  simp only at c0 c1 c2 c3 c4 c5 c6
  have hOk := (formed_at Hf.out).2 i (by rw [HLen.out]; exact hilt)
  rw [← HX.out] at hOk
  obtain ⟨A', B', C', eA, eB, eC, k0, k1, k2, k3, k4⟩ := ok_nat (Int.natCast_nonneg i) hOk
  simp only at eA eB eC k0 k1 k2 k3 k4
  subst eA eB eC
  have hnums : InsR ⟨⟨#[43]⟩, A', B', C', (vk, vn, vs)⟩ := HIn.out.nums _ (show (⟨⟨#[43]⟩, A', B', C', (vk, vn, vs)⟩ : Ins) ∈ xs by
    rw [HX.out, List.getD_eq_getElem?_getD, List.getElem?_eq_getElem (by rw [HLen.out]; exact hilt)]
    exact List.getElem_mem _)
  have hvn : InR vn := hnums.1
  go_upto_region 17 with (fail)
  obtain ⟨w1, hw1⟩ : ∃ w1, w1 = w.alloc (.cells #[.string ⟨#[43]⟩, .int .i64 (A' : Int), .int .i64 (B' : Int), .int .i64 (C' : Int), .int .i64 vk, .int .i64 vn, .string vs] 138) := ⟨_, rfl⟩
  rw [← hw1]
  have hbw : Below w.heap.size w w1 := by rw [hw1]; exact bel0 _ (Below.refl _ _)
  have hbx : w1.heap[w.heap.size]? = some (.cells #[.string ⟨#[43]⟩, .int .i64 (A' : Int), .int .i64 (B' : Int), .int .i64 (C' : Int), .int .i64 vk, .int .i64 vn, .string vs] 138 (0, 0)) := by rw [hw1]; exact Go.heap_alloc_new w _
  have HBox := Lib.hid (show InBox w1 w.heap.size ⟨#[43]⟩ A' B' C' (vk, vn, vs) from ⟨cell_of_row _ _ 0 _ _ _ hbx, cell_of_row _ _ 1 _ _ _ hbx, cell_of_row _ _ 2 _ _ _ hbx, cell_of_row _ _ 3 _ _ _ hbx, cell_of_row _ _ 4 _ _ _ hbx, cell_of_row _ _ 5 _ _ _ hbx, cell_of_row _ _ 6 _ _ _ hbx⟩)
  have HB1 := Lib.hid (bt HV.out.bel hbw)
  have HG1 := Lib.hid (HV.out.at_.below hbw)
  have hbg : w.heap.size ≠ g := by have := HV.out.at_.lt; omega
  have HN := Lib.hid hvn
  have HL := Lib.hid HV.out.len
  have HKs := Lib.hid (show 1 ≤ K ∧ K ≤ 1000 by have := (formed_at Hf.out).1; have := Hk.out; omega)
  obtain ⟨f, rfl⟩ : ∃ f', f = f' + 1 := ⟨f - 1, by have := HV.out.fuel; omega⟩
  have HStep := Lib.hid (fun (rs' : List Reg) (e' : Int) (n : Nat) hs => runR_step (rs' := rs') (e := e') (n := n) (HV.out.ok rfl) (by rw [HLen.out]; exact hilt) hs)
  rw [← HX.out] at HStep
  have HFu := Lib.hid HV.out.fuel
  have HRg := Lib.hid HV.out.rg
  rw [Hk.out] at k0 k1 k2 k3 k4
  have K0 := Lib.hid k0
  have HOk := Lib.hid hOk
  have K9 := Lib.hid (show (B' : Int) ≤ 9223372036854775807 ∧ (C' : Int) ≤ 9223372036854775807 from ⟨hnums.2.1.2, hnums.2.2.2⟩)
  have K1 := Lib.hid k1
  have K2 := Lib.hid k2
  have K3 := Lib.hid k3
  have K4 := Lib.hid k4
  have HInW := Lib.hid (HIn.out.below hbw)
  have HIl := Lib.hid hilt
  obtain ⟨B0, hB0⟩ : ∃ B0, B0 = w.heap.size := ⟨_, rfl⟩
  rw [← hB0] at hbg HBox ⊢
  clear k0 k1 k2 k3 k4 hvn hnums hOk hw1 hbw hbx c0 c1 c2 c3 c4 c5 c6 hB0 p0 a0 a1 a2 fz hlt4 hi0 hi2 hi3 hil hic hwi hlen
  have kk := K3.out class_add
  have hA : A' < K := by have := HKs.out; omega
  have hB : B' < K := by omega
  have hC : C' < K := by omega
  have ht := HStep.out _ _ _ (step_rec R A' B' C' (vk, vn, vs) rs i ⟨#[43]⟩ (by simp))
  have HT := Lib.hid ht
  clear ht
  go_wp2_with fail
  refine wp_mono (vmr26_any ra rl rc g K B0 rs _ A' B' C' _ w1 _ _ _ _ _ _ _ _ _ _ _ _ _ _ _ _ _ _ _ _ _ _ _ _ _ _ _ _ _ _ _ _ _ _ _ _ _ _ _ _ _ _ _ _ _ _ _ _ _ _ _ _ _ _ _ _ _ _ _ _ _ _ _ _ _ _ _ _ _ _ _ _ _ _ _ _ _ _ _ _ _ _ _ _ _ _ _ _ _ _ _ _ _ _ _ _ _ _ _ _ _ _ _ _ _ _ _ _ _ _ _ _ _ _ _ _ _ _ _ _ _ _ _ _ _ _ _ _ _ _ _ _ _ _ _ _ _ _ _ _ _ _ _ _ _ _ _ _ _ _ _ _ _ _ _ _ _ _ _ _ _ _ _ _ _ _ _ _ _ _ _ _ _ _ _ _ _ _ _ _ _ _ _ _ _ _ _ _ _ _ _ _ _ _ _ _ _ _ _ _ _ _ _ _ _ _ _ _ _ _ _ _ _ _ _ _ _ _ _ _ _ _ _ _ _ _ _ _ _ _ _ _ _ _ _ _ _ _ _ _ _ _ _ _ _ _ _ _ _ _ _ _ _ _ _ _ _ _ _ _ _ _ HBox.out HG1.out hbg HL.out HKs.out.2 hA hB hC (HRg.out.get B') (HRg.out.get C')) ?_
  rintro e' a' w2 ⟨rfl, ⟨u0, u1, u2, u3, u4, u5, u6, u7, u8, u9, u10, u11, u12, u13, u14, u15, u16, u17, u18, u19, u20, u21, u22, rfl⟩, hR, hS⟩
  have HR := Lib.hid hR
  have HS := Lib.hid hS
  clear hR hS
  go_wp2
  go_step3
  have HVn := Lib.hid (VmV.mk (R := R) (xs := xs) (fin := fin) (K := K) (i := i + 1) (f := f) (by have := HIl.out; have := HLen.out; omega) (by have := HFu.out; omega) (List.length_set.trans HL.out) (HRg.out.set (r := ((_, _, ⟨#[]⟩), (rs.getD A' noR).2)) (recF_inR _ _ _ _ _ _ _) _) HR.out (Below.sto HB1.out HS.out Hg.out HB1.out.size) (fun h => HT.out.1 (by first | exact h | trivial)) (fun h => HT.out.2 (by first | exact h | exact (h rfl).elim)))
  refine And.intro (a := 0 = 0) rfl ?_
  refine ⟨⟨i + 1, _, _, f, _, _, _, _, _, _, _, _, _, _, _, _, _, _, _, _, _, _, _, _, _, _, _, _, _, _, _, _, _, _, _, _, _, _, _, _, _, _, _, _, _, _, _, _, _, _, _, _, _, _, _, _, _, _, _, _, _, _, _, _, _, _, _, _, _, _, _, _, _, _, _, _, _, _, _, _, _, _, _, _, _, _, _, _, _, _, _, _, _, _, _, _, _, _, _, _, _, _, _, _, _, _, _, _, _, _, _, _, _, _, _, _, _, _, _, _, _, _, _, _, _, _, _, _, _, _, _, _, _, _, _, _, _, _, _, _, _, _, _, _, _, _, _, _, _, _, _, _, _, _, _, _, _, _, _, _, _, _, _, _, _, _, _, _, _, _, _, _, _, _, _, _, _, _, _, _, _, _, _, _, _, _, _, _, _, _, _, _, _, _, _, _, _, _, _, _, _, _, _, _, _, _, _, _, _, _, _, _, _, _, _, _, _, _, _, _, _, _, _, _, _, _, _, _, _, _, _, _, _, _, _, _, _, _, _, _, _, _, _, _, _, _, _, _, _, _, _, _, _, _, _, _, _, _, _, _, _, _, _, rfl, HVn.out⟩, ?_⟩
  show cl - Int.toNat ((i : Int) + 1) < cl - i
  have := HIl.out
  omega
set_option maxHeartbeats 12800000 in
theorem vmp_sub (ca : Option Addr) (cl cc : Nat) (k : Int) (xs : List Ins) (ra : Option Addr) (rl rc : Nat) (R : List (List Val)) (P2 P4 g K : Nat) (fin : Val × Int × Int) (W0 : World) (hin : VmIn ca cl cc k xs ra rl R P2 P4 W0) (hf : formedP k xs = true) (hk : k = (K : Int)) (hg : W0.heap.size ≤ g)
    (Q : Exit → Act → World → Prop) (i : Nat) (rs : List Reg) (f : Nat) (x0 x3 x5 x6 x8 x11 x12 x13 x14 x15 x16 x17 x18 x19 x20 x21 x22 x23 x24 x25 x26 x27 x28 x29 x30 x31 x32 x33 x34 x35 x36 x37 x38 x39 x40 x41 x42 x43 x44 x45 x46 x47 x48 x49 x50 x51 x52 x53 x54 x55 x56 x57 x58 x59 x60 x61 x62 x63 x64 x65 x66 x67 x68 x69 x70 x71 x72 x73 x74 x75 x76 x77 x78 x79 x80 x81 x82 x83 x84 x85 x86 x87 x88 x89 x90 x91 x92 x93 x94 x95 x96 x97 x98 x99 x100 x101 x102 x103 x104 x105 x106 x107 x108 x109 x110 x111 x112 x113 x114 x115 x116 x117 x118 x119 x120 x121 x122 x123 x124 x125 x126 x127 x128 x129 x130 x131 x132 x133 x134 x135 x136 x137 x138 x139 x140 x141 x142 x143 x144 x145 x146 x147 x148 x149 x150 x151 x152 x153 x154 x155 x156 x157 x158 x159 x160 x161 x162 x163 x164 x165 x166 x167 x168 x169 x170 x171 x172 x173 x174 x175 x176 x177 x178 x179 x180 x181 x182 x183 x184 x185 x186 x187 x188 x189 x190 x191 x192 x193 x194 x195 x196 x197 x198 x199 x200 x201 x202 x203 x204 x205 x206 x207 x208 x209 x210 x211 x212 x213 x214 x215 x216 x217 x218 x219 x220 x221 x222 x223 x224 x225 x226 x227 x228 x229 x230 x231 x232 x233 x234 x235 x236 x237 x238 x239 x240 x241 x242 x243 x244 x245 x246 x247 x248 x249 x250 x251 x252 x253 x254 x255 x256 x257 x258 x259 x260 x261 x262 x263 x264 : Value) (w : World) (hV : VmV R xs fin W0 g K i 0 rs f w) (hilt : i < cl) (hop : (xs.getD i noI).op = ⟨#[45]⟩) :
    VmTail.wp Try.prog (Exit.jump 0 (fun a' w' => VmJ ra rl rc P2 P4 g K R xs fin W0 a' w' ∧ cl - atOf a' < cl - i) Q) ⟨#[x0, .slice ra rl rc, .pointer (some ⟨P2, 0, none⟩), x3, .pointer (some ⟨P4, 0, none⟩), x5, x6, .slice (some ⟨g, 0, none⟩) K K, x8, .int .i64 (i : Int), .int .i64 0, x11, x12, x13, x14, x15, x16, x17, x18, x19, x20, x21, x22, x23, x24, x25, x26, x27, x28, x29, x30, x31, x32, x33, x34, x35, x36, x37, x38, x39, x40, x41, x42, x43, x44, x45, x46, x47, x48, x49, x50, x51, x52, x53, x54, x55, x56, x57, x58, x59, x60, x61, x62, x63, x64, x65, x66, x67, x68, x69, x70, x71, x72, x73, x74, x75, x76, x77, x78, x79, x80, x81, x82, x83, x84, x85, x86, x87, x88, x89, x90, x91, x92, x93, x94, x95, x96, x97, x98, x99, x100, x101, x102, x103, x104, x105, x106, x107, x108, x109, x110, x111, x112, x113, x114, x115, x116, x117, x118, x119, x120, x121, x122, x123, x124, x125, x126, x127, x128, x129, x130, x131, x132, x133, x134, x135, x136, x137, x138, x139, x140, x141, x142, x143, x144, x145, x146, x147, x148, x149, x150, x151, x152, x153, x154, x155, x156, x157, x158, x159, x160, x161, x162, x163, x164, x165, x166, x167, x168, x169, x170, x171, x172, x173, x174, x175, x176, x177, x178, x179, x180, x181, x182, x183, x184, x185, x186, x187, x188, x189, x190, x191, x192, x193, x194, x195, x196, x197, x198, x199, x200, x201, x202, x203, x204, x205, x206, x207, x208, x209, x210, x211, x212, x213, x214, x215, x216, x217, x218, x219, x220, x221, x222, x223, x224, x225, x226, x227, x228, x229, x230, x231, x232, x233, x234, x235, x236, x237, x238, x239, x240, x241, x242, x243, x244, x245, x246, x247, x248, x249, x250, x251, x252, x253, x254, x255, x256, x257, x258, x259, x260, x261, x262, x263, x264], []⟩ w := by
  have HV := Lib.hid hV
  have HIn := Lib.hid (hin.below hV.bel)
  clear hV
  conv => arg 2; whnf
  dsimp only
  have hlen := HIn.out.i.1
  have hmax := HIn.out.i.2.1
  have hil := HV.out.ile
  have p0 := HIn.out.p0
  have hP4 := HIn.out.p4
  have a0 := cell_of_row _ _ 0 _ _ _ hP4
  have a1 := cell_of_row _ _ 1 _ _ _ hP4
  have a2 := cell_of_row _ _ 2 _ _ _ hP4
  simp only [List.getElem?_toArray, List.getElem?_cons_zero, List.getElem?_cons_succ, noV] at a0 a1 a2
  have fz : ∀ j, w.frozen? ⟨P4, j, none⟩ = false := fun j => frozen_of_row _ _ j _ _ hP4
  have hlt4 : P4 < w.heap.size := (Array.getElem?_eq_some_iff.1 hP4).1
  have HP4 := Lib.hid hP4
  have Hf := Lib.hid hf
  have Hk := Lib.hid hk
  have Hg := Lib.hid hg
  have HLen := Lib.hid hlen
  have hic : (i : Int) ≤ (cl : Int) := by omega
  clear hP4 hf hk hg hin
  have hi2 : (i : Int) < (cl : Int) := by omega
  have hi3 : ((i : Int) == (cl : Int)) = false := beq_eq_false_iff_ne.2 (by omega)
  have hi0 : (0 : Int) ≤ (i : Int) := by omega
  have hwi : IntKind.i64.wrap ((i : Int) + 1) = ((i + 1 : Nat) : Int) := by rw [IntKind.wrap_i64]; omega
  obtain ⟨_, _, hc⟩ := HIn.out.i
  rcases hc with hc | ⟨b, off, rfl, hb, hc⟩
  · omega
  obtain ⟨c0, c1, c2, c3, c4, c5, c6⟩ := hc i hilt
  clear hc
  obtain ⟨x, hx⟩ : ∃ x, x = xs.getD i noI := ⟨_, rfl⟩
  rw [← hx] at c0 c1 c2 c3 c4 c5 c6
  have HX := Lib.hid hx
  clear hx
  obtain ⟨op, A, B, C, v⟩ := x
  rw [← HX.out] at hop
  simp only at hop
  subst hop
  obtain ⟨vk, vn, vs⟩ := v
  simp only at c0 c1 c2 c3 c4 c5 c6
  have hOk := (formed_at Hf.out).2 i (by rw [HLen.out]; exact hilt)
  rw [← HX.out] at hOk
  obtain ⟨A', B', C', eA, eB, eC, k0, k1, k2, k3, k4⟩ := ok_nat (Int.natCast_nonneg i) hOk
  simp only at eA eB eC k0 k1 k2 k3 k4
  subst eA eB eC
  have hnums : InsR ⟨⟨#[45]⟩, A', B', C', (vk, vn, vs)⟩ := HIn.out.nums _ (show (⟨⟨#[45]⟩, A', B', C', (vk, vn, vs)⟩ : Ins) ∈ xs by
    rw [HX.out, List.getD_eq_getElem?_getD, List.getElem?_eq_getElem (by rw [HLen.out]; exact hilt)]
    exact List.getElem_mem _)
  have hvn : InR vn := hnums.1
  go_upto_region 17 with (fail)
  obtain ⟨w1, hw1⟩ : ∃ w1, w1 = w.alloc (.cells #[.string ⟨#[45]⟩, .int .i64 (A' : Int), .int .i64 (B' : Int), .int .i64 (C' : Int), .int .i64 vk, .int .i64 vn, .string vs] 138) := ⟨_, rfl⟩
  rw [← hw1]
  have hbw : Below w.heap.size w w1 := by rw [hw1]; exact bel0 _ (Below.refl _ _)
  have hbx : w1.heap[w.heap.size]? = some (.cells #[.string ⟨#[45]⟩, .int .i64 (A' : Int), .int .i64 (B' : Int), .int .i64 (C' : Int), .int .i64 vk, .int .i64 vn, .string vs] 138 (0, 0)) := by rw [hw1]; exact Go.heap_alloc_new w _
  have HBox := Lib.hid (show InBox w1 w.heap.size ⟨#[45]⟩ A' B' C' (vk, vn, vs) from ⟨cell_of_row _ _ 0 _ _ _ hbx, cell_of_row _ _ 1 _ _ _ hbx, cell_of_row _ _ 2 _ _ _ hbx, cell_of_row _ _ 3 _ _ _ hbx, cell_of_row _ _ 4 _ _ _ hbx, cell_of_row _ _ 5 _ _ _ hbx, cell_of_row _ _ 6 _ _ _ hbx⟩)
  have HB1 := Lib.hid (bt HV.out.bel hbw)
  have HG1 := Lib.hid (HV.out.at_.below hbw)
  have hbg : w.heap.size ≠ g := by have := HV.out.at_.lt; omega
  have HN := Lib.hid hvn
  have HL := Lib.hid HV.out.len
  have HKs := Lib.hid (show 1 ≤ K ∧ K ≤ 1000 by have := (formed_at Hf.out).1; have := Hk.out; omega)
  obtain ⟨f, rfl⟩ : ∃ f', f = f' + 1 := ⟨f - 1, by have := HV.out.fuel; omega⟩
  have HStep := Lib.hid (fun (rs' : List Reg) (e' : Int) (n : Nat) hs => runR_step (rs' := rs') (e := e') (n := n) (HV.out.ok rfl) (by rw [HLen.out]; exact hilt) hs)
  rw [← HX.out] at HStep
  have HFu := Lib.hid HV.out.fuel
  have HRg := Lib.hid HV.out.rg
  rw [Hk.out] at k0 k1 k2 k3 k4
  have K0 := Lib.hid k0
  have HOk := Lib.hid hOk
  have K9 := Lib.hid (show (B' : Int) ≤ 9223372036854775807 ∧ (C' : Int) ≤ 9223372036854775807 from ⟨hnums.2.1.2, hnums.2.2.2⟩)
  have K1 := Lib.hid k1
  have K2 := Lib.hid k2
  have K3 := Lib.hid k3
  have K4 := Lib.hid k4
  have HInW := Lib.hid (HIn.out.below hbw)
  have HIl := Lib.hid hilt
  obtain ⟨B0, hB0⟩ : ∃ B0, B0 = w.heap.size := ⟨_, rfl⟩
  rw [← hB0] at hbg HBox ⊢
  clear k0 k1 k2 k3 k4 hvn hnums hOk hw1 hbw hbx c0 c1 c2 c3 c4 c5 c6 hB0 p0 a0 a1 a2 fz hlt4 hi0 hi2 hi3 hil hic hwi hlen
  have kk := K3.out class_sub
  have hA : A' < K := by have := HKs.out; omega
  have hB : B' < K := by omega
  have hC : C' < K := by omega
  have ht := HStep.out _ _ _ (step_rec R A' B' C' (vk, vn, vs) rs i ⟨#[45]⟩ (by simp))
  have HT := Lib.hid ht
  clear ht
  go_wp2_with fail
  refine wp_mono (vmr26_any ra rl rc g K B0 rs _ A' B' C' _ w1 _ _ _ _ _ _ _ _ _ _ _ _ _ _ _ _ _ _ _ _ _ _ _ _ _ _ _ _ _ _ _ _ _ _ _ _ _ _ _ _ _ _ _ _ _ _ _ _ _ _ _ _ _ _ _ _ _ _ _ _ _ _ _ _ _ _ _ _ _ _ _ _ _ _ _ _ _ _ _ _ _ _ _ _ _ _ _ _ _ _ _ _ _ _ _ _ _ _ _ _ _ _ _ _ _ _ _ _ _ _ _ _ _ _ _ _ _ _ _ _ _ _ _ _ _ _ _ _ _ _ _ _ _ _ _ _ _ _ _ _ _ _ _ _ _ _ _ _ _ _ _ _ _ _ _ _ _ _ _ _ _ _ _ _ _ _ _ _ _ _ _ _ _ _ _ _ _ _ _ _ _ _ _ _ _ _ _ _ _ _ _ _ _ _ _ _ _ _ _ _ _ _ _ _ _ _ _ _ _ _ _ _ _ _ _ _ _ _ _ _ _ _ _ _ _ _ _ _ _ _ _ _ _ _ _ _ _ _ _ _ _ _ _ _ _ _ _ _ _ _ _ _ _ _ _ _ _ _ _ _ _ _ HBox.out HG1.out hbg HL.out HKs.out.2 hA hB hC (HRg.out.get B') (HRg.out.get C')) ?_
  rintro e' a' w2 ⟨rfl, ⟨u0, u1, u2, u3, u4, u5, u6, u7, u8, u9, u10, u11, u12, u13, u14, u15, u16, u17, u18, u19, u20, u21, u22, rfl⟩, hR, hS⟩
  have HR := Lib.hid hR
  have HS := Lib.hid hS
  clear hR hS
  go_wp2
  go_step3
  have HVn := Lib.hid (VmV.mk (R := R) (xs := xs) (fin := fin) (K := K) (i := i + 1) (f := f) (by have := HIl.out; have := HLen.out; omega) (by have := HFu.out; omega) (List.length_set.trans HL.out) (HRg.out.set (r := ((_, _, ⟨#[]⟩), (rs.getD A' noR).2)) (recF_inR _ _ _ _ _ _ _) _) HR.out (Below.sto HB1.out HS.out Hg.out HB1.out.size) (fun h => HT.out.1 (by first | exact h | trivial)) (fun h => HT.out.2 (by first | exact h | exact (h rfl).elim)))
  refine And.intro (a := 0 = 0) rfl ?_
  refine ⟨⟨i + 1, _, _, f, _, _, _, _, _, _, _, _, _, _, _, _, _, _, _, _, _, _, _, _, _, _, _, _, _, _, _, _, _, _, _, _, _, _, _, _, _, _, _, _, _, _, _, _, _, _, _, _, _, _, _, _, _, _, _, _, _, _, _, _, _, _, _, _, _, _, _, _, _, _, _, _, _, _, _, _, _, _, _, _, _, _, _, _, _, _, _, _, _, _, _, _, _, _, _, _, _, _, _, _, _, _, _, _, _, _, _, _, _, _, _, _, _, _, _, _, _, _, _, _, _, _, _, _, _, _, _, _, _, _, _, _, _, _, _, _, _, _, _, _, _, _, _, _, _, _, _, _, _, _, _, _, _, _, _, _, _, _, _, _, _, _, _, _, _, _, _, _, _, _, _, _, _, _, _, _, _, _, _, _, _, _, _, _, _, _, _, _, _, _, _, _, _, _, _, _, _, _, _, _, _, _, _, _, _, _, _, _, _, _, _, _, _, _, _, _, _, _, _, _, _, _, _, _, _, _, _, _, _, _, _, _, _, _, _, _, _, _, _, _, _, _, _, _, _, _, _, _, _, _, _, _, _, _, _, _, _, _, _, rfl, HVn.out⟩, ?_⟩
  show cl - Int.toNat ((i : Int) + 1) < cl - i
  have := HIl.out
  omega
set_option maxHeartbeats 12800000 in
theorem vmp_mul (ca : Option Addr) (cl cc : Nat) (k : Int) (xs : List Ins) (ra : Option Addr) (rl rc : Nat) (R : List (List Val)) (P2 P4 g K : Nat) (fin : Val × Int × Int) (W0 : World) (hin : VmIn ca cl cc k xs ra rl R P2 P4 W0) (hf : formedP k xs = true) (hk : k = (K : Int)) (hg : W0.heap.size ≤ g)
    (Q : Exit → Act → World → Prop) (i : Nat) (rs : List Reg) (f : Nat) (x0 x3 x5 x6 x8 x11 x12 x13 x14 x15 x16 x17 x18 x19 x20 x21 x22 x23 x24 x25 x26 x27 x28 x29 x30 x31 x32 x33 x34 x35 x36 x37 x38 x39 x40 x41 x42 x43 x44 x45 x46 x47 x48 x49 x50 x51 x52 x53 x54 x55 x56 x57 x58 x59 x60 x61 x62 x63 x64 x65 x66 x67 x68 x69 x70 x71 x72 x73 x74 x75 x76 x77 x78 x79 x80 x81 x82 x83 x84 x85 x86 x87 x88 x89 x90 x91 x92 x93 x94 x95 x96 x97 x98 x99 x100 x101 x102 x103 x104 x105 x106 x107 x108 x109 x110 x111 x112 x113 x114 x115 x116 x117 x118 x119 x120 x121 x122 x123 x124 x125 x126 x127 x128 x129 x130 x131 x132 x133 x134 x135 x136 x137 x138 x139 x140 x141 x142 x143 x144 x145 x146 x147 x148 x149 x150 x151 x152 x153 x154 x155 x156 x157 x158 x159 x160 x161 x162 x163 x164 x165 x166 x167 x168 x169 x170 x171 x172 x173 x174 x175 x176 x177 x178 x179 x180 x181 x182 x183 x184 x185 x186 x187 x188 x189 x190 x191 x192 x193 x194 x195 x196 x197 x198 x199 x200 x201 x202 x203 x204 x205 x206 x207 x208 x209 x210 x211 x212 x213 x214 x215 x216 x217 x218 x219 x220 x221 x222 x223 x224 x225 x226 x227 x228 x229 x230 x231 x232 x233 x234 x235 x236 x237 x238 x239 x240 x241 x242 x243 x244 x245 x246 x247 x248 x249 x250 x251 x252 x253 x254 x255 x256 x257 x258 x259 x260 x261 x262 x263 x264 : Value) (w : World) (hV : VmV R xs fin W0 g K i 0 rs f w) (hilt : i < cl) (hop : (xs.getD i noI).op = ⟨#[42]⟩) :
    VmTail.wp Try.prog (Exit.jump 0 (fun a' w' => VmJ ra rl rc P2 P4 g K R xs fin W0 a' w' ∧ cl - atOf a' < cl - i) Q) ⟨#[x0, .slice ra rl rc, .pointer (some ⟨P2, 0, none⟩), x3, .pointer (some ⟨P4, 0, none⟩), x5, x6, .slice (some ⟨g, 0, none⟩) K K, x8, .int .i64 (i : Int), .int .i64 0, x11, x12, x13, x14, x15, x16, x17, x18, x19, x20, x21, x22, x23, x24, x25, x26, x27, x28, x29, x30, x31, x32, x33, x34, x35, x36, x37, x38, x39, x40, x41, x42, x43, x44, x45, x46, x47, x48, x49, x50, x51, x52, x53, x54, x55, x56, x57, x58, x59, x60, x61, x62, x63, x64, x65, x66, x67, x68, x69, x70, x71, x72, x73, x74, x75, x76, x77, x78, x79, x80, x81, x82, x83, x84, x85, x86, x87, x88, x89, x90, x91, x92, x93, x94, x95, x96, x97, x98, x99, x100, x101, x102, x103, x104, x105, x106, x107, x108, x109, x110, x111, x112, x113, x114, x115, x116, x117, x118, x119, x120, x121, x122, x123, x124, x125, x126, x127, x128, x129, x130, x131, x132, x133, x134, x135, x136, x137, x138, x139, x140, x141, x142, x143, x144, x145, x146, x147, x148, x149, x150, x151, x152, x153, x154, x155, x156, x157, x158, x159, x160, x161, x162, x163, x164, x165, x166, x167, x168, x169, x170, x171, x172, x173, x174, x175, x176, x177, x178, x179, x180, x181, x182, x183, x184, x185, x186, x187, x188, x189, x190, x191, x192, x193, x194, x195, x196, x197, x198, x199, x200, x201, x202, x203, x204, x205, x206, x207, x208, x209, x210, x211, x212, x213, x214, x215, x216, x217, x218, x219, x220, x221, x222, x223, x224, x225, x226, x227, x228, x229, x230, x231, x232, x233, x234, x235, x236, x237, x238, x239, x240, x241, x242, x243, x244, x245, x246, x247, x248, x249, x250, x251, x252, x253, x254, x255, x256, x257, x258, x259, x260, x261, x262, x263, x264], []⟩ w := by
  have HV := Lib.hid hV
  have HIn := Lib.hid (hin.below hV.bel)
  clear hV
  conv => arg 2; whnf
  dsimp only
  have hlen := HIn.out.i.1
  have hmax := HIn.out.i.2.1
  have hil := HV.out.ile
  have p0 := HIn.out.p0
  have hP4 := HIn.out.p4
  have a0 := cell_of_row _ _ 0 _ _ _ hP4
  have a1 := cell_of_row _ _ 1 _ _ _ hP4
  have a2 := cell_of_row _ _ 2 _ _ _ hP4
  simp only [List.getElem?_toArray, List.getElem?_cons_zero, List.getElem?_cons_succ, noV] at a0 a1 a2
  have fz : ∀ j, w.frozen? ⟨P4, j, none⟩ = false := fun j => frozen_of_row _ _ j _ _ hP4
  have hlt4 : P4 < w.heap.size := (Array.getElem?_eq_some_iff.1 hP4).1
  have HP4 := Lib.hid hP4
  have Hf := Lib.hid hf
  have Hk := Lib.hid hk
  have Hg := Lib.hid hg
  have HLen := Lib.hid hlen
  have hic : (i : Int) ≤ (cl : Int) := by omega
  clear hP4 hf hk hg hin
  have hi2 : (i : Int) < (cl : Int) := by omega
  have hi3 : ((i : Int) == (cl : Int)) = false := beq_eq_false_iff_ne.2 (by omega)
  have hi0 : (0 : Int) ≤ (i : Int) := by omega
  have hwi : IntKind.i64.wrap ((i : Int) + 1) = ((i + 1 : Nat) : Int) := by rw [IntKind.wrap_i64]; omega
  obtain ⟨_, _, hc⟩ := HIn.out.i
  rcases hc with hc | ⟨b, off, rfl, hb, hc⟩
  · omega
  obtain ⟨c0, c1, c2, c3, c4, c5, c6⟩ := hc i hilt
  clear hc
  obtain ⟨x, hx⟩ : ∃ x, x = xs.getD i noI := ⟨_, rfl⟩
  rw [← hx] at c0 c1 c2 c3 c4 c5 c6
  have HX := Lib.hid hx
  clear hx
  obtain ⟨op, A, B, C, v⟩ := x
  rw [← HX.out] at hop
  simp only at hop
  subst hop
  obtain ⟨vk, vn, vs⟩ := v
  simp only at c0 c1 c2 c3 c4 c5 c6
  have hOk := (formed_at Hf.out).2 i (by rw [HLen.out]; exact hilt)
  rw [← HX.out] at hOk
  obtain ⟨A', B', C', eA, eB, eC, k0, k1, k2, k3, k4⟩ := ok_nat (Int.natCast_nonneg i) hOk
  simp only at eA eB eC k0 k1 k2 k3 k4
  subst eA eB eC
  have hnums : InsR ⟨⟨#[42]⟩, A', B', C', (vk, vn, vs)⟩ := HIn.out.nums _ (show (⟨⟨#[42]⟩, A', B', C', (vk, vn, vs)⟩ : Ins) ∈ xs by
    rw [HX.out, List.getD_eq_getElem?_getD, List.getElem?_eq_getElem (by rw [HLen.out]; exact hilt)]
    exact List.getElem_mem _)
  have hvn : InR vn := hnums.1
  go_upto_region 17 with (fail)
  obtain ⟨w1, hw1⟩ : ∃ w1, w1 = w.alloc (.cells #[.string ⟨#[42]⟩, .int .i64 (A' : Int), .int .i64 (B' : Int), .int .i64 (C' : Int), .int .i64 vk, .int .i64 vn, .string vs] 138) := ⟨_, rfl⟩
  rw [← hw1]
  have hbw : Below w.heap.size w w1 := by rw [hw1]; exact bel0 _ (Below.refl _ _)
  have hbx : w1.heap[w.heap.size]? = some (.cells #[.string ⟨#[42]⟩, .int .i64 (A' : Int), .int .i64 (B' : Int), .int .i64 (C' : Int), .int .i64 vk, .int .i64 vn, .string vs] 138 (0, 0)) := by rw [hw1]; exact Go.heap_alloc_new w _
  have HBox := Lib.hid (show InBox w1 w.heap.size ⟨#[42]⟩ A' B' C' (vk, vn, vs) from ⟨cell_of_row _ _ 0 _ _ _ hbx, cell_of_row _ _ 1 _ _ _ hbx, cell_of_row _ _ 2 _ _ _ hbx, cell_of_row _ _ 3 _ _ _ hbx, cell_of_row _ _ 4 _ _ _ hbx, cell_of_row _ _ 5 _ _ _ hbx, cell_of_row _ _ 6 _ _ _ hbx⟩)
  have HB1 := Lib.hid (bt HV.out.bel hbw)
  have HG1 := Lib.hid (HV.out.at_.below hbw)
  have hbg : w.heap.size ≠ g := by have := HV.out.at_.lt; omega
  have HN := Lib.hid hvn
  have HL := Lib.hid HV.out.len
  have HKs := Lib.hid (show 1 ≤ K ∧ K ≤ 1000 by have := (formed_at Hf.out).1; have := Hk.out; omega)
  obtain ⟨f, rfl⟩ : ∃ f', f = f' + 1 := ⟨f - 1, by have := HV.out.fuel; omega⟩
  have HStep := Lib.hid (fun (rs' : List Reg) (e' : Int) (n : Nat) hs => runR_step (rs' := rs') (e := e') (n := n) (HV.out.ok rfl) (by rw [HLen.out]; exact hilt) hs)
  rw [← HX.out] at HStep
  have HFu := Lib.hid HV.out.fuel
  have HRg := Lib.hid HV.out.rg
  rw [Hk.out] at k0 k1 k2 k3 k4
  have K0 := Lib.hid k0
  have HOk := Lib.hid hOk
  have K9 := Lib.hid (show (B' : Int) ≤ 9223372036854775807 ∧ (C' : Int) ≤ 9223372036854775807 from ⟨hnums.2.1.2, hnums.2.2.2⟩)
  have K1 := Lib.hid k1
  have K2 := Lib.hid k2
  have K3 := Lib.hid k3
  have K4 := Lib.hid k4
  have HInW := Lib.hid (HIn.out.below hbw)
  have HIl := Lib.hid hilt
  obtain ⟨B0, hB0⟩ : ∃ B0, B0 = w.heap.size := ⟨_, rfl⟩
  rw [← hB0] at hbg HBox ⊢
  clear k0 k1 k2 k3 k4 hvn hnums hOk hw1 hbw hbx c0 c1 c2 c3 c4 c5 c6 hB0 p0 a0 a1 a2 fz hlt4 hi0 hi2 hi3 hil hic hwi hlen
  have kk := K3.out class_mul
  have hA : A' < K := by have := HKs.out; omega
  have hB : B' < K := by omega
  have hC : C' < K := by omega
  have ht := HStep.out _ _ _ (step_rec R A' B' C' (vk, vn, vs) rs i ⟨#[42]⟩ (by simp))
  have HT := Lib.hid ht
  clear ht
  go_wp2_with fail
  refine wp_mono (vmr26_any ra rl rc g K B0 rs _ A' B' C' _ w1 _ _ _ _ _ _ _ _ _ _ _ _ _ _ _ _ _ _ _ _ _ _ _ _ _ _ _ _ _ _ _ _ _ _ _ _ _ _ _ _ _ _ _ _ _ _ _ _ _ _ _ _ _ _ _ _ _ _ _ _ _ _ _ _ _ _ _ _ _ _ _ _ _ _ _ _ _ _ _ _ _ _ _ _ _ _ _ _ _ _ _ _ _ _ _ _ _ _ _ _ _ _ _ _ _ _ _ _ _ _ _ _ _ _ _ _ _ _ _ _ _ _ _ _ _ _ _ _ _ _ _ _ _ _ _ _ _ _ _ _ _ _ _ _ _ _ _ _ _ _ _ _ _ _ _ _ _ _ _ _ _ _ _ _ _ _ _ _ _ _ _ _ _ _ _ _ _ _ _ _ _ _ _ _ _ _ _ _ _ _ _ _ _ _ _ _ _ _ _ _ _ _ _ _ _ _ _ _ _ _ _ _ _ _ _ _ _ _ _ _ _ _ _ _ _ _ _ _ _ _ _ _ _ _ _ _ _ _ _ _ _ _ _ _ _ _ _ _ _ _ _ _ _ _ _ _ _ _ _ _ _ _ HBox.out HG1.out hbg HL.out HKs.out.2 hA hB hC (HRg.out.get B') (HRg.out.get C')) ?_
  rintro e' a' w2 ⟨rfl, ⟨u0, u1, u2, u3, u4, u5, u6, u7, u8, u9, u10, u11, u12, u13, u14, u15, u16, u17, u18, u19, u20, u21, u22, rfl⟩, hR, hS⟩
  have HR := Lib.hid hR
  have HS := Lib.hid hS
  clear hR hS
  go_wp2
  go_step3
  have HVn := Lib.hid (VmV.mk (R := R) (xs := xs) (fin := fin) (K := K) (i := i + 1) (f := f) (by have := HIl.out; have := HLen.out; omega) (by have := HFu.out; omega) (List.length_set.trans HL.out) (HRg.out.set (r := ((_, _, ⟨#[]⟩), (rs.getD A' noR).2)) (recF_inR _ _ _ _ _ _ _) _) HR.out (Below.sto HB1.out HS.out Hg.out HB1.out.size) (fun h => HT.out.1 (by first | exact h | trivial)) (fun h => HT.out.2 (by first | exact h | exact (h rfl).elim)))
  refine And.intro (a := 0 = 0) rfl ?_
  refine ⟨⟨i + 1, _, _, f, _, _, _, _, _, _, _, _, _, _, _, _, _, _, _, _, _, _, _, _, _, _, _, _, _, _, _, _, _, _, _, _, _, _, _, _, _, _, _, _, _, _, _, _, _, _, _, _, _, _, _, _, _, _, _, _, _, _, _, _, _, _, _, _, _, _, _, _, _, _, _, _, _, _, _, _, _, _, _, _, _, _, _, _, _, _, _, _, _, _, _, _, _, _, _, _, _, _, _, _, _, _, _, _, _, _, _, _, _, _, _, _, _, _, _, _, _, _, _, _, _, _, _, _, _, _, _, _, _, _, _, _, _, _, _, _, _, _, _, _, _, _, _, _, _, _, _, _, _, _, _, _, _, _, _, _, _, _, _, _, _, _, _, _, _, _, _, _, _, _, _, _, _, _, _, _, _, _, _, _, _, _, _, _, _, _, _, _, _, _, _, _, _, _, _, _, _, _, _, _, _, _, _, _, _, _, _, _, _, _, _, _, _, _, _, _, _, _, _, _, _, _, _, _, _, _, _, _, _, _, _, _, _, _, _, _, _, _, _, _, _, _, _, _, _, _, _, _, _, _, _, _, _, _, _, _, _, _, _, rfl, HVn.out⟩, ?_⟩
  show cl - Int.toNat ((i : Int) + 1) < cl - i
  have := HIl.out
  omega
end Go.Proofs.Ytafhgilikcablaa
namespace Go.Proofs.Ytafhgilikcablaa
open Go.RowKit
set_option linter.unusedVariables false
set_option linter.unusedSimpArgs false
set_option maxRecDepth 100000
set_option maxHeartbeats 12800000 in
theorem vmp_const (ca : Option Addr) (cl cc : Nat) (k : Int) (xs : List Ins) (ra : Option Addr) (rl rc : Nat) (R : List (List Val)) (P2 P4 g K : Nat) (fin : Val × Int × Int) (W0 : World) (hin : VmIn ca cl cc k xs ra rl R P2 P4 W0) (hf : formedP k xs = true) (hk : k = (K : Int)) (hg : W0.heap.size ≤ g)
    (Q : Exit → Act → World → Prop) (i : Nat) (rs : List Reg) (f : Nat) (x0 x3 x5 x6 x8 x11 x12 x13 x14 x15 x16 x17 x18 x19 x20 x21 x22 x23 x24 x25 x26 x27 x28 x29 x30 x31 x32 x33 x34 x35 x36 x37 x38 x39 x40 x41 x42 x43 x44 x45 x46 x47 x48 x49 x50 x51 x52 x53 x54 x55 x56 x57 x58 x59 x60 x61 x62 x63 x64 x65 x66 x67 x68 x69 x70 x71 x72 x73 x74 x75 x76 x77 x78 x79 x80 x81 x82 x83 x84 x85 x86 x87 x88 x89 x90 x91 x92 x93 x94 x95 x96 x97 x98 x99 x100 x101 x102 x103 x104 x105 x106 x107 x108 x109 x110 x111 x112 x113 x114 x115 x116 x117 x118 x119 x120 x121 x122 x123 x124 x125 x126 x127 x128 x129 x130 x131 x132 x133 x134 x135 x136 x137 x138 x139 x140 x141 x142 x143 x144 x145 x146 x147 x148 x149 x150 x151 x152 x153 x154 x155 x156 x157 x158 x159 x160 x161 x162 x163 x164 x165 x166 x167 x168 x169 x170 x171 x172 x173 x174 x175 x176 x177 x178 x179 x180 x181 x182 x183 x184 x185 x186 x187 x188 x189 x190 x191 x192 x193 x194 x195 x196 x197 x198 x199 x200 x201 x202 x203 x204 x205 x206 x207 x208 x209 x210 x211 x212 x213 x214 x215 x216 x217 x218 x219 x220 x221 x222 x223 x224 x225 x226 x227 x228 x229 x230 x231 x232 x233 x234 x235 x236 x237 x238 x239 x240 x241 x242 x243 x244 x245 x246 x247 x248 x249 x250 x251 x252 x253 x254 x255 x256 x257 x258 x259 x260 x261 x262 x263 x264 : Value) (w : World) (hV : VmV R xs fin W0 g K i 0 rs f w) (hilt : i < cl) (hop : (xs.getD i noI).op = ⟨#[99, 111, 110, 115, 116]⟩) :
    VmTail.wp Try.prog (Exit.jump 0 (fun a' w' => VmJ ra rl rc P2 P4 g K R xs fin W0 a' w' ∧ cl - atOf a' < cl - i) Q) ⟨#[x0, .slice ra rl rc, .pointer (some ⟨P2, 0, none⟩), x3, .pointer (some ⟨P4, 0, none⟩), x5, x6, .slice (some ⟨g, 0, none⟩) K K, x8, .int .i64 (i : Int), .int .i64 0, x11, x12, x13, x14, x15, x16, x17, x18, x19, x20, x21, x22, x23, x24, x25, x26, x27, x28, x29, x30, x31, x32, x33, x34, x35, x36, x37, x38, x39, x40, x41, x42, x43, x44, x45, x46, x47, x48, x49, x50, x51, x52, x53, x54, x55, x56, x57, x58, x59, x60, x61, x62, x63, x64, x65, x66, x67, x68, x69, x70, x71, x72, x73, x74, x75, x76, x77, x78, x79, x80, x81, x82, x83, x84, x85, x86, x87, x88, x89, x90, x91, x92, x93, x94, x95, x96, x97, x98, x99, x100, x101, x102, x103, x104, x105, x106, x107, x108, x109, x110, x111, x112, x113, x114, x115, x116, x117, x118, x119, x120, x121, x122, x123, x124, x125, x126, x127, x128, x129, x130, x131, x132, x133, x134, x135, x136, x137, x138, x139, x140, x141, x142, x143, x144, x145, x146, x147, x148, x149, x150, x151, x152, x153, x154, x155, x156, x157, x158, x159, x160, x161, x162, x163, x164, x165, x166, x167, x168, x169, x170, x171, x172, x173, x174, x175, x176, x177, x178, x179, x180, x181, x182, x183, x184, x185, x186, x187, x188, x189, x190, x191, x192, x193, x194, x195, x196, x197, x198, x199, x200, x201, x202, x203, x204, x205, x206, x207, x208, x209, x210, x211, x212, x213, x214, x215, x216, x217, x218, x219, x220, x221, x222, x223, x224, x225, x226, x227, x228, x229, x230, x231, x232, x233, x234, x235, x236, x237, x238, x239, x240, x241, x242, x243, x244, x245, x246, x247, x248, x249, x250, x251, x252, x253, x254, x255, x256, x257, x258, x259, x260, x261, x262, x263, x264], []⟩ w := by
  have HV := Lib.hid hV
  have HIn := Lib.hid (hin.below hV.bel)
  clear hV
  conv => arg 2; whnf
  dsimp only
  have hlen := HIn.out.i.1
  have hmax := HIn.out.i.2.1
  have hil := HV.out.ile
  have p0 := HIn.out.p0
  have hP4 := HIn.out.p4
  have a0 := cell_of_row _ _ 0 _ _ _ hP4
  have a1 := cell_of_row _ _ 1 _ _ _ hP4
  have a2 := cell_of_row _ _ 2 _ _ _ hP4
  simp only [List.getElem?_toArray, List.getElem?_cons_zero, List.getElem?_cons_succ, noV] at a0 a1 a2
  have fz : ∀ j, w.frozen? ⟨P4, j, none⟩ = false := fun j => frozen_of_row _ _ j _ _ hP4
  have hlt4 : P4 < w.heap.size := (Array.getElem?_eq_some_iff.1 hP4).1
  have HP4 := Lib.hid hP4
  have Hf := Lib.hid hf
  have Hk := Lib.hid hk
  have Hg := Lib.hid hg
  have HLen := Lib.hid hlen
  have hic : (i : Int) ≤ (cl : Int) := by omega
  clear hP4 hf hk hg hin
  have hi2 : (i : Int) < (cl : Int) := by omega
  have hi3 : ((i : Int) == (cl : Int)) = false := beq_eq_false_iff_ne.2 (by omega)
  have hi0 : (0 : Int) ≤ (i : Int) := by omega
  have hwi : IntKind.i64.wrap ((i : Int) + 1) = ((i + 1 : Nat) : Int) := by rw [IntKind.wrap_i64]; omega
  obtain ⟨_, _, hc⟩ := HIn.out.i
  rcases hc with hc | ⟨b, off, rfl, hb, hc⟩
  · omega
  obtain ⟨c0, c1, c2, c3, c4, c5, c6⟩ := hc i hilt
  clear hc
  obtain ⟨x, hx⟩ : ∃ x, x = xs.getD i noI := ⟨_, rfl⟩
  rw [← hx] at c0 c1 c2 c3 c4 c5 c6
  have HX := Lib.hid hx
  clear hx
  obtain ⟨op, A, B, C, v⟩ := x
  rw [← HX.out] at hop
  simp only at hop
  subst hop
  obtain ⟨vk, vn, vs⟩ := v
  simp only at c0 c1 c2 c3 c4 c5 c6
  have hOk := (formed_at Hf.out).2 i (by rw [HLen.out]; exact hilt)
  rw [← HX.out] at hOk
  obtain ⟨A', B', C', eA, eB, eC, k0, k1, k2, k3, k4⟩ := ok_nat (Int.natCast_nonneg i) hOk
  simp only at eA eB eC k0 k1 k2 k3 k4
  subst eA eB eC
  have hnums : InsR ⟨⟨#[99, 111, 110, 115, 116]⟩, A', B', C', (vk, vn, vs)⟩ := HIn.out.nums _ (show (⟨⟨#[99, 111, 110, 115, 116]⟩, A', B', C', (vk, vn, vs)⟩ : Ins) ∈ xs by
    rw [HX.out, List.getD_eq_getElem?_getD, List.getElem?_eq_getElem (by rw [HLen.out]; exact hilt)]
    exact List.getElem_mem _)
  have hvn : InR vn := hnums.1
  go_upto_region 17 with (fail)
  obtain ⟨w1, hw1⟩ : ∃ w1, w1 = w.alloc (.cells #[.string ⟨#[99, 111, 110, 115, 116]⟩, .int .i64 (A' : Int), .int .i64 (B' : Int), .int .i64 (C' : Int), .int .i64 vk, .int .i64 vn, .string vs] 138) := ⟨_, rfl⟩
  rw [← hw1]
  have hbw : Below w.heap.size w w1 := by rw [hw1]; exact bel0 _ (Below.refl _ _)
  have hbx : w1.heap[w.heap.size]? = some (.cells #[.string ⟨#[99, 111, 110, 115, 116]⟩, .int .i64 (A' : Int), .int .i64 (B' : Int), .int .i64 (C' : Int), .int .i64 vk, .int .i64 vn, .string vs] 138 (0, 0)) := by rw [hw1]; exact Go.heap_alloc_new w _
  have HBox := Lib.hid (show InBox w1 w.heap.size ⟨#[99, 111, 110, 115, 116]⟩ A' B' C' (vk, vn, vs) from ⟨cell_of_row _ _ 0 _ _ _ hbx, cell_of_row _ _ 1 _ _ _ hbx, cell_of_row _ _ 2 _ _ _ hbx, cell_of_row _ _ 3 _ _ _ hbx, cell_of_row _ _ 4 _ _ _ hbx, cell_of_row _ _ 5 _ _ _ hbx, cell_of_row _ _ 6 _ _ _ hbx⟩)
  have HB1 := Lib.hid (bt HV.out.bel hbw)
  have HG1 := Lib.hid (HV.out.at_.below hbw)
  have hbg : w.heap.size ≠ g := by have := HV.out.at_.lt; omega
  have HN := Lib.hid hvn
  have HL := Lib.hid HV.out.len
  have HKs := Lib.hid (show 1 ≤ K ∧ K ≤ 1000 by have := (formed_at Hf.out).1; have := Hk.out; omega)
  obtain ⟨f, rfl⟩ : ∃ f', f = f' + 1 := ⟨f - 1, by have := HV.out.fuel; omega⟩
  have HStep := Lib.hid (fun (rs' : List Reg) (e' : Int) (n : Nat) hs => runR_step (rs' := rs') (e := e') (n := n) (HV.out.ok rfl) (by rw [HLen.out]; exact hilt) hs)
  rw [← HX.out] at HStep
  have HFu := Lib.hid HV.out.fuel
  have HRg := Lib.hid HV.out.rg
  rw [Hk.out] at k0 k1 k2 k3 k4
  have K0 := Lib.hid k0
  have HOk := Lib.hid hOk
  have K9 := Lib.hid (show (B' : Int) ≤ 9223372036854775807 ∧ (C' : Int) ≤ 9223372036854775807 from ⟨hnums.2.1.2, hnums.2.2.2⟩)
  have K1 := Lib.hid k1
  have K2 := Lib.hid k2
  have K3 := Lib.hid k3
  have K4 := Lib.hid k4
  have HInW := Lib.hid (HIn.out.below hbw)
  have HIl := Lib.hid hilt
  obtain ⟨B0, hB0⟩ : ∃ B0, B0 = w.heap.size := ⟨_, rfl⟩
  rw [← hB0] at hbg HBox ⊢
  clear k0 k1 k2 k3 k4 hvn hnums hOk hw1 hbw hbx c0 c1 c2 c3 c4 c5 c6 hB0 p0 a0 a1 a2 fz hlt4 hi0 hi2 hi3 hil hic hwi hlen
  have kk := K0.out class_const
  have hA : A' < K := by have := HKs.out; omega
  have ht := HStep.out _ _ _ (step_const R A' B' C' (vk, vn, vs) rs i)
  have HT := Lib.hid ht
  clear ht
  obtain ⟨r0, r1, r2, r3⟩ := HG1.out.cells (HL.out.symm ▸ hA)
  have rz := HG1.out.frozen
  have rlt := HG1.out.lt
  obtain ⟨q0, q1, q2, q3, q4, q5, q6⟩ := HBox.out
  simp only at q4 q5 q6
  have hA0 : (0 : Int) ≤ (A' : Int) := by omega
  have hA1 : (A' : Int) < (K : Int) := by omega
  have HR := Lib.hid (HG1.out.value (HL.out.symm ▸ hA) (vk, vn, vs))
  have HS := Lib.hid ((((Sto.refl g w1).set (A' * 4) (.int .i64 vk)).set (A' * 4 + 1) (.int .i64 vn)).set (A' * 4 + 2) (.string vs))
  clear kk hA
  go_wp2
  go_step3
  have HVn := Lib.hid (VmV.mk (R := R) (xs := xs) (fin := fin) (K := K) (i := i + 1) (f := f) (by have := HIl.out; have := HLen.out; omega) (by have := HFu.out; omega) (List.length_set.trans HL.out) (HRg.out.set (r := ((vk, vn, vs), (rs.getD A' noR).2)) (HN.out) _) HR.out (Below.sto HB1.out HS.out Hg.out HB1.out.size) (fun h => HT.out.1 (by first | exact h | trivial)) (fun h => HT.out.2 (by first | exact h | exact (h rfl).elim)))
  refine And.intro (a := 0 = 0) rfl ?_
  refine ⟨⟨i + 1, _, _, f, _, _, _, _, _, _, _, _, _, _, _, _, _, _, _, _, _, _, _, _, _, _, _, _, _, _, _, _, _, _, _, _, _, _, _, _, _, _, _, _, _, _, _, _, _, _, _, _, _, _, _, _, _, _, _, _, _, _, _, _, _, _, _, _, _, _, _, _, _, _, _, _, _, _, _, _, _, _, _, _, _, _, _, _, _, _, _, _, _, _, _, _, _, _, _, _, _, _, _, _, _, _, _, _, _, _, _, _, _, _, _, _, _, _, _, _, _, _, _, _, _, _, _, _, _, _, _, _, _, _, _, _, _, _, _, _, _, _, _, _, _, _, _, _, _, _, _, _, _, _, _, _, _, _, _, _, _, _, _, _, _, _, _, _, _, _, _, _, _, _, _, _, _, _, _, _, _, _, _, _, _, _, _, _, _, _, _, _, _, _, _, _, _, _, _, _, _, _, _, _, _, _, _, _, _, _, _, _, _, _, _, _, _, _, _, _, _, _, _, _, _, _, _, _, _, _, _, _, _, _, _, _, _, _, _, _, _, _, _, _, _, _, _, _, _, _, _, _, _, _, _, _, _, _, _, _, _, _, _, rfl, HVn.out⟩, ?_⟩
  show cl - Int.toNat ((i : Int) + 1) < cl - i
  have := HIl.out
  omega
set_option maxHeartbeats 12800000 in
theorem vmp_col (ca : Option Addr) (cl cc : Nat) (k : Int) (xs : List Ins) (ra : Option Addr) (rl rc : Nat) (R : List (List Val)) (P2 P4 g K : Nat) (fin : Val × Int × Int) (W0 : World) (hin : VmIn ca cl cc k xs ra rl R P2 P4 W0) (hf : formedP k xs = true) (hk : k = (K : Int)) (hg : W0.heap.size ≤ g)
    (Q : Exit → Act → World → Prop) (i : Nat) (rs : List Reg) (f : Nat) (x0 x3 x5 x6 x8 x11 x12 x13 x14 x15 x16 x17 x18 x19 x20 x21 x22 x23 x24 x25 x26 x27 x28 x29 x30 x31 x32 x33 x34 x35 x36 x37 x38 x39 x40 x41 x42 x43 x44 x45 x46 x47 x48 x49 x50 x51 x52 x53 x54 x55 x56 x57 x58 x59 x60 x61 x62 x63 x64 x65 x66 x67 x68 x69 x70 x71 x72 x73 x74 x75 x76 x77 x78 x79 x80 x81 x82 x83 x84 x85 x86 x87 x88 x89 x90 x91 x92 x93 x94 x95 x96 x97 x98 x99 x100 x101 x102 x103 x104 x105 x106 x107 x108 x109 x110 x111 x112 x113 x114 x115 x116 x117 x118 x119 x120 x121 x122 x123 x124 x125 x126 x127 x128 x129 x130 x131 x132 x133 x134 x135 x136 x137 x138 x139 x140 x141 x142 x143 x144 x145 x146 x147 x148 x149 x150 x151 x152 x153 x154 x155 x156 x157 x158 x159 x160 x161 x162 x163 x164 x165 x166 x167 x168 x169 x170 x171 x172 x173 x174 x175 x176 x177 x178 x179 x180 x181 x182 x183 x184 x185 x186 x187 x188 x189 x190 x191 x192 x193 x194 x195 x196 x197 x198 x199 x200 x201 x202 x203 x204 x205 x206 x207 x208 x209 x210 x211 x212 x213 x214 x215 x216 x217 x218 x219 x220 x221 x222 x223 x224 x225 x226 x227 x228 x229 x230 x231 x232 x233 x234 x235 x236 x237 x238 x239 x240 x241 x242 x243 x244 x245 x246 x247 x248 x249 x250 x251 x252 x253 x254 x255 x256 x257 x258 x259 x260 x261 x262 x263 x264 : Value) (w : World) (hV : VmV R xs fin W0 g K i 0 rs f w) (hilt : i < cl) (hop : (xs.getD i noI).op = ⟨#[99, 111, 108]⟩) :
    VmTail.wp Try.prog (Exit.jump 0 (fun a' w' => VmJ ra rl rc P2 P4 g K R xs fin W0 a' w' ∧ cl - atOf a' < cl - i) Q) ⟨#[x0, .slice ra rl rc, .pointer (some ⟨P2, 0, none⟩), x3, .pointer (some ⟨P4, 0, none⟩), x5, x6, .slice (some ⟨g, 0, none⟩) K K, x8, .int .i64 (i : Int), .int .i64 0, x11, x12, x13, x14, x15, x16, x17, x18, x19, x20, x21, x22, x23, x24, x25, x26, x27, x28, x29, x30, x31, x32, x33, x34, x35, x36, x37, x38, x39, x40, x41, x42, x43, x44, x45, x46, x47, x48, x49, x50, x51, x52, x53, x54, x55, x56, x57, x58, x59, x60, x61, x62, x63, x64, x65, x66, x67, x68, x69, x70, x71, x72, x73, x74, x75, x76, x77, x78, x79, x80, x81, x82, x83, x84, x85, x86, x87, x88, x89, x90, x91, x92, x93, x94, x95, x96, x97, x98, x99, x100, x101, x102, x103, x104, x105, x106, x107, x108, x109, x110, x111, x112, x113, x114, x115, x116, x117, x118, x119, x120, x121, x122, x123, x124, x125, x126, x127, x128, x129, x130, x131, x132, x133, x134, x135, x136, x137, x138, x139, x140, x141, x142, x143, x144, x145, x146, x147, x148, x149, x150, x151, x152, x153, x154, x155, x156, x157, x158, x159, x160, x161, x162, x163, x164, x165, x166, x167, x168, x169, x170, x171, x172, x173, x174, x175, x176, x177, x178, x179, x180, x181, x182, x183, x184, x185, x186, x187, x188, x189, x190, x191, x192, x193, x194, x195, x196, x197, x198, x199, x200, x201, x202, x203, x204, x205, x206, x207, x208, x209, x210, x211, x212, x213, x214, x215, x216, x217, x218, x219, x220, x221, x222, x223, x224, x225, x226, x227, x228, x229, x230, x231, x232, x233, x234, x235, x236, x237, x238, x239, x240, x241, x242, x243, x244, x245, x246, x247, x248, x249, x250, x251, x252, x253, x254, x255, x256, x257, x258, x259, x260, x261, x262, x263, x264], []⟩ w := by
  have HV := Lib.hid hV
  have HIn := Lib.hid (hin.below hV.bel)
  clear hV
  conv => arg 2; whnf
  dsimp only
  have hlen := HIn.out.i.1
  have hmax := HIn.out.i.2.1
  have hil := HV.out.ile
  have p0 := HIn.out.p0
  have hP4 := HIn.out.p4
  have a0 := cell_of_row _ _ 0 _ _ _ hP4
  have a1 := cell_of_row _ _ 1 _ _ _ hP4
  have a2 := cell_of_row _ _ 2 _ _ _ hP4
  simp only [List.getElem?_toArray, List.getElem?_cons_zero, List.getElem?_cons_succ, noV] at a0 a1 a2
  have fz : ∀ j, w.frozen? ⟨P4, j, none⟩ = false := fun j => frozen_of_row _ _ j _ _ hP4
  have hlt4 : P4 < w.heap.size := (Array.getElem?_eq_some_iff.1 hP4).1
  have HP4 := Lib.hid hP4
  have Hf := Lib.hid hf
  have Hk := Lib.hid hk
  have Hg := Lib.hid hg
  have HLen := Lib.hid hlen
  have hic : (i : Int) ≤ (cl : Int) := by omega
  clear hP4 hf hk hg hin
  have hi2 : (i : Int) < (cl : Int) := by omega
  have hi3 : ((i : Int) == (cl : Int)) = false := beq_eq_false_iff_ne.2 (by omega)
  have hi0 : (0 : Int) ≤ (i : Int) := by omega
  have hwi : IntKind.i64.wrap ((i : Int) + 1) = ((i + 1 : Nat) : Int) := by rw [IntKind.wrap_i64]; omega
  obtain ⟨_, _, hc⟩ := HIn.out.i
  rcases hc with hc | ⟨b, off, rfl, hb, hc⟩
  · omega
  obtain ⟨c0, c1, c2, c3, c4, c5, c6⟩ := hc i hilt
  clear hc
  obtain ⟨x, hx⟩ : ∃ x, x = xs.getD i noI := ⟨_, rfl⟩
  rw [← hx] at c0 c1 c2 c3 c4 c5 c6
  have HX := Lib.hid hx
  clear hx
  obtain ⟨op, A, B, C, v⟩ := x
  rw [← HX.out] at hop
  simp only at hop
  subst hop
  obtain ⟨vk, vn, vs⟩ := v
  simp only at c0 c1 c2 c3 c4 c5 c6
  have hOk := (formed_at Hf.out).2 i (by rw [HLen.out]; exact hilt)
  rw [← HX.out] at hOk
  obtain ⟨A', B', C', eA, eB, eC, k0, k1, k2, k3, k4⟩ := ok_nat (Int.natCast_nonneg i) hOk
  simp only at eA eB eC k0 k1 k2 k3 k4
  subst eA eB eC
  have hnums : InsR ⟨⟨#[99, 111, 108]⟩, A', B', C', (vk, vn, vs)⟩ := HIn.out.nums _ (show (⟨⟨#[99, 111, 108]⟩, A', B', C', (vk, vn, vs)⟩ : Ins) ∈ xs by
    rw [HX.out, List.getD_eq_getElem?_getD, List.getElem?_eq_getElem (by rw [HLen.out]; exact hilt)]
    exact List.getElem_mem _)
  have hvn : InR vn := hnums.1
  go_upto_region 17 with (fail)
  obtain ⟨w1, hw1⟩ : ∃ w1, w1 = w.alloc (.cells #[.string ⟨#[99, 111, 108]⟩, .int .i64 (A' : Int), .int .i64 (B' : Int), .int .i64 (C' : Int), .int .i64 vk, .int .i64 vn, .string vs] 138) := ⟨_, rfl⟩
  rw [← hw1]
  have hbw : Below w.heap.size w w1 := by rw [hw1]; exact bel0 _ (Below.refl _ _)
  have hbx : w1.heap[w.heap.size]? = some (.cells #[.string ⟨#[99, 111, 108]⟩, .int .i64 (A' : Int), .int .i64 (B' : Int), .int .i64 (C' : Int), .int .i64 vk, .int .i64 vn, .string vs] 138 (0, 0)) := by rw [hw1]; exact Go.heap_alloc_new w _
  have HBox := Lib.hid (show InBox w1 w.heap.size ⟨#[99, 111, 108]⟩ A' B' C' (vk, vn, vs) from ⟨cell_of_row _ _ 0 _ _ _ hbx, cell_of_row _ _ 1 _ _ _ hbx, cell_of_row _ _ 2 _ _ _ hbx, cell_of_row _ _ 3 _ _ _ hbx, cell_of_row _ _ 4 _ _ _ hbx, cell_of_row _ _ 5 _ _ _ hbx, cell_of_row _ _ 6 _ _ _ hbx⟩)
  have HB1 := Lib.hid (bt HV.out.bel hbw)
  have HG1 := Lib.hid (HV.out.at_.below hbw)
  have hbg : w.heap.size ≠ g := by have := HV.out.at_.lt; omega
  have HN := Lib.hid hvn
  have HL := Lib.hid HV.out.len
  have HKs := Lib.hid (show 1 ≤ K ∧ K ≤ 1000 by have := (formed_at Hf.out).1; have := Hk.out; omega)
  obtain ⟨f, rfl⟩ : ∃ f', f = f' + 1 := ⟨f - 1, by have := HV.out.fuel; omega⟩
  have HStep := Lib.hid (fun (rs' : List Reg) (e' : Int) (n : Nat) hs => runR_step (rs' := rs') (e := e') (n := n) (HV.out.ok rfl) (by rw [HLen.out]; exact hilt) hs)
  rw [← HX.out] at HStep
  have HFu := Lib.hid HV.out.fuel
  have HRg := Lib.hid HV.out.rg
  rw [Hk.out] at k0 k1 k2 k3 k4
  have K0 := Lib.hid k0
  have HOk := Lib.hid hOk
  have K9 := Lib.hid (show (B' : Int) ≤ 9223372036854775807 ∧ (C' : Int) ≤ 9223372036854775807 from ⟨hnums.2.1.2, hnums.2.2.2⟩)
  have K1 := Lib.hid k1
  have K2 := Lib.hid k2
  have K3 := Lib.hid k3
  have K4 := Lib.hid k4
  have HInW := Lib.hid (HIn.out.below hbw)
  have HIl := Lib.hid hilt
  obtain ⟨B0, hB0⟩ : ∃ B0, B0 = w.heap.size := ⟨_, rfl⟩
  rw [← hB0] at hbg HBox ⊢
  clear k0 k1 k2 k3 k4 hvn hnums hOk hw1 hbw hbx c0 c1 c2 c3 c4 c5 c6 hB0 p0 a0 a1 a2 fz hlt4 hi0 hi2 hi3 hil hic hwi hlen
  have kk := K1.out class_col
  have hA : A' < K := by have := HKs.out; omega
  have ht := HStep.out _ _ _ (step_col R A' B' C' (vk, vn, vs) rs i)
  have HT := Lib.hid ht
  clear ht
  have hR1 := HInW.out.r
  have kb2 := K9.out.1
  have kc2 := K9.out.2
  go_wp2_with fail
  refine wp_mono (vmr20_any ra rl rc g K B0 rs _ A' B' C' _ R kb2 kc2 w1 _ _ _ _ _ _ _ _ _ _ _ _ _ _ _ _ _ _ _ _ _ _ _ _ _ _ _ _ _ _ _ _ _ _ _ _ _ _ _ _ _ _ _ _ _ _ _ _ _ _ _ _ _ _ _ _ _ _ _ _ _ _ _ _ _ _ _ _ _ _ _ _ _ _ _ _ _ _ _ _ _ _ _ _ _ _ _ _ _ _ _ _ _ _ _ _ _ _ _ _ _ _ _ _ _ _ _ _ _ _ _ _ _ _ _ _ _ _ _ _ _ _ _ _ _ _ _ _ _ _ _ _ _ _ _ _ _ _ _ _ _ _ _ _ _ _ _ _ _ _ _ _ _ _ _ _ _ _ _ _ _ _ _ _ _ _ _ _ _ _ _ _ _ _ _ _ _ _ _ _ _ _ _ _ _ _ _ _ _ _ _ _ _ _ _ _ _ _ _ _ _ _ _ _ _ _ _ _ _ _ _ _ _ _ _ _ _ _ _ _ _ _ _ _ _ _ _ _ _ _ _ _ _ _ _ _ _ _ _ _ _ _ _ _ _ _ _ _ _ _ _ _ _ _ _ _ _ _ _ _ _ _ HBox.out HG1.out hbg HL.out HKs.out.2 hA hR1) ?_
  rintro e' a' w2 ⟨rfl, ⟨u0, u1, u2, u3, u4, u5, u6, u7, u8, u9, u10, u11, u12, u13, rfl⟩, hR, hS⟩
  have HR := Lib.hid hR
  have HS := Lib.hid hS
  clear hR hS
  go_wp2
  go_step3
  have HVn := Lib.hid (VmV.mk (R := R) (xs := xs) (fin := fin) (K := K) (i := i + 1) (f := f) (by have := HIl.out; have := HLen.out; omega) (by have := HFu.out; omega) (List.length_set.trans HL.out) (HRg.out.set (r := ((colF R B' C').1, (rs.getD A' noR).2)) (colF_inR HIn.out.rows B' C') _) HR.out (Below.sto HB1.out HS.out Hg.out HB1.out.size) (fun h => HT.out.1 (by first | exact h | trivial)) (fun h => HT.out.2 (by first | exact h | exact (h rfl).elim)))
  refine And.intro (a := 0 = 0) rfl ?_
  refine ⟨⟨i + 1, _, _, f, _, _, _, _, _, _, _, _, _, _, _, _, _, _, _, _, _, _, _, _, _, _, _, _, _, _, _, _, _, _, _, _, _, _, _, _, _, _, _, _, _, _, _, _, _, _, _, _, _, _, _, _, _, _, _, _, _, _, _, _, _, _, _, _, _, _, _, _, _, _, _, _, _, _, _, _, _, _, _, _, _, _, _, _, _, _, _, _, _, _, _, _, _, _, _, _, _, _, _, _, _, _, _, _, _, _, _, _, _, _, _, _, _, _, _, _, _, _, _, _, _, _, _, _, _, _, _, _, _, _, _, _, _, _, _, _, _, _, _, _, _, _, _, _, _, _, _, _, _, _, _, _, _, _, _, _, _, _, _, _, _, _, _, _, _, _, _, _, _, _, _, _, _, _, _, _, _, _, _, _, _, _, _, _, _, _, _, _, _, _, _, _, _, _, _, _, _, _, _, _, _, _, _, _, _, _, _, _, _, _, _, _, _, _, _, _, _, _, _, _, _, _, _, _, _, _, _, _, _, _, _, _, _, _, _, _, _, _, _, _, _, _, _, _, _, _, _, _, _, _, _, _, _, _, _, _, _, _, _, rfl, HVn.out⟩, ?_⟩
  show cl - Int.toNat ((i : Int) + 1) < cl - i
  have := HIl.out
  omega
set_option maxHeartbeats 12800000 in
theorem vmp_neg (ca : Option Addr) (cl cc : Nat) (k : Int) (xs : List Ins) (ra : Option Addr) (rl rc : Nat) (R : List (List Val)) (P2 P4 g K : Nat) (fin : Val × Int × Int) (W0 : World) (hin : VmIn ca cl cc k xs ra rl R P2 P4 W0) (hf : formedP k xs = true) (hk : k = (K : Int)) (hg : W0.heap.size ≤ g)
    (Q : Exit → Act → World → Prop) (i : Nat) (rs : List Reg) (f : Nat) (x0 x3 x5 x6 x8 x11 x12 x13 x14 x15 x16 x17 x18 x19 x20 x21 x22 x23 x24 x25 x26 x27 x28 x29 x30 x31 x32 x33 x34 x35 x36 x37 x38 x39 x40 x41 x42 x43 x44 x45 x46 x47 x48 x49 x50 x51 x52 x53 x54 x55 x56 x57 x58 x59 x60 x61 x62 x63 x64 x65 x66 x67 x68 x69 x70 x71 x72 x73 x74 x75 x76 x77 x78 x79 x80 x81 x82 x83 x84 x85 x86 x87 x88 x89 x90 x91 x92 x93 x94 x95 x96 x97 x98 x99 x100 x101 x102 x103 x104 x105 x106 x107 x108 x109 x110 x111 x112 x113 x114 x115 x116 x117 x118 x119 x120 x121 x122 x123 x124 x125 x126 x127 x128 x129 x130 x131 x132 x133 x134 x135 x136 x137 x138 x139 x140 x141 x142 x143 x144 x145 x146 x147 x148 x149 x150 x151 x152 x153 x154 x155 x156 x157 x158 x159 x160 x161 x162 x163 x164 x165 x166 x167 x168 x169 x170 x171 x172 x173 x174 x175 x176 x177 x178 x179 x180 x181 x182 x183 x184 x185 x186 x187 x188 x189 x190 x191 x192 x193 x194 x195 x196 x197 x198 x199 x200 x201 x202 x203 x204 x205 x206 x207 x208 x209 x210 x211 x212 x213 x214 x215 x216 x217 x218 x219 x220 x221 x222 x223 x224 x225 x226 x227 x228 x229 x230 x231 x232 x233 x234 x235 x236 x237 x238 x239 x240 x241 x242 x243 x244 x245 x246 x247 x248 x249 x250 x251 x252 x253 x254 x255 x256 x257 x258 x259 x260 x261 x262 x263 x264 : Value) (w : World) (hV : VmV R xs fin W0 g K i 0 rs f w) (hilt : i < cl) (hop : (xs.getD i noI).op = ⟨#[110, 101, 103]⟩) :
    VmTail.wp Try.prog (Exit.jump 0 (fun a' w' => VmJ ra rl rc P2 P4 g K R xs fin W0 a' w' ∧ cl - atOf a' < cl - i) Q) ⟨#[x0, .slice ra rl rc, .pointer (some ⟨P2, 0, none⟩), x3, .pointer (some ⟨P4, 0, none⟩), x5, x6, .slice (some ⟨g, 0, none⟩) K K, x8, .int .i64 (i : Int), .int .i64 0, x11, x12, x13, x14, x15, x16, x17, x18, x19, x20, x21, x22, x23, x24, x25, x26, x27, x28, x29, x30, x31, x32, x33, x34, x35, x36, x37, x38, x39, x40, x41, x42, x43, x44, x45, x46, x47, x48, x49, x50, x51, x52, x53, x54, x55, x56, x57, x58, x59, x60, x61, x62, x63, x64, x65, x66, x67, x68, x69, x70, x71, x72, x73, x74, x75, x76, x77, x78, x79, x80, x81, x82, x83, x84, x85, x86, x87, x88, x89, x90, x91, x92, x93, x94, x95, x96, x97, x98, x99, x100, x101, x102, x103, x104, x105, x106, x107, x108, x109, x110, x111, x112, x113, x114, x115, x116, x117, x118, x119, x120, x121, x122, x123, x124, x125, x126, x127, x128, x129, x130, x131, x132, x133, x134, x135, x136, x137, x138, x139, x140, x141, x142, x143, x144, x145, x146, x147, x148, x149, x150, x151, x152, x153, x154, x155, x156, x157, x158, x159, x160, x161, x162, x163, x164, x165, x166, x167, x168, x169, x170, x171, x172, x173, x174, x175, x176, x177, x178, x179, x180, x181, x182, x183, x184, x185, x186, x187, x188, x189, x190, x191, x192, x193, x194, x195, x196, x197, x198, x199, x200, x201, x202, x203, x204, x205, x206, x207, x208, x209, x210, x211, x212, x213, x214, x215, x216, x217, x218, x219, x220, x221, x222, x223, x224, x225, x226, x227, x228, x229, x230, x231, x232, x233, x234, x235, x236, x237, x238, x239, x240, x241, x242, x243, x244, x245, x246, x247, x248, x249, x250, x251, x252, x253, x254, x255, x256, x257, x258, x259, x260, x261, x262, x263, x264], []⟩ w := by
  have HV := Lib.hid hV
  have HIn := Lib.hid (hin.below hV.bel)
  clear hV
  conv => arg 2; whnf
  dsimp only
  have hlen := HIn.out.i.1
  have hmax := HIn.out.i.2.1
  have hil := HV.out.ile
  have p0 := HIn.out.p0
  have hP4 := HIn.out.p4
  have a0 := cell_of_row _ _ 0 _ _ _ hP4
  have a1 := cell_of_row _ _ 1 _ _ _ hP4
  have a2 := cell_of_row _ _ 2 _ _ _ hP4
  simp only [List.getElem?_toArray, List.getElem?_cons_zero, List.getElem?_cons_succ, noV] at a0 a1 a2
  have fz : ∀ j, w.frozen? ⟨P4, j, none⟩ = false := fun j => frozen_of_row _ _ j _ _ hP4
  have hlt4 : P4 < w.heap.size := (Array.getElem?_eq_some_iff.1 hP4).1
  have HP4 := Lib.hid hP4
  have Hf := Lib.hid hf
  have Hk := Lib.hid hk
  have Hg := Lib.hid hg
  have HLen := Lib.hid hlen
  have hic : (i : Int) ≤ (cl : Int) := by omega
  clear hP4 hf hk hg hin
  have hi2 : (i : Int) < (cl : Int) := by omega
  have hi3 : ((i : Int) == (cl : Int)) = false := beq_eq_false_iff_ne.2 (by omega)
  have hi0 : (0 : Int) ≤ (i : Int) := by omega
  have hwi : IntKind.i64.wrap ((i : Int) + 1) = ((i + 1 : Nat) : Int) := by rw [IntKind.wrap_i64]; omega
  obtain ⟨_, _, hc⟩ := HIn.out.i
  rcases hc with hc | ⟨b, off, rfl, hb, hc⟩
  · omega
  obtain ⟨c0, c1, c2, c3, c4, c5, c6⟩ := hc i hilt
  clear hc
  obtain ⟨x, hx⟩ : ∃ x, x = xs.getD i noI := ⟨_, rfl⟩
  rw [← hx] at c0 c1 c2 c3 c4 c5 c6
  have HX := Lib.hid hx
  clear hx
  obtain ⟨op, A, B, C, v⟩ := x
  rw [← HX.out] at hop
  simp only at hop
  subst hop
  obtain ⟨vk, vn, vs⟩ := v
  simp only at c0 c1 c2 c3 c4 c5 c6
  have hOk := (formed_at Hf.out).2 i (by rw [HLen.out]; exact hilt)
  rw [← HX.out] at hOk
  obtain ⟨A', B', C', eA, eB, eC, k0, k1, k2, k3, k4⟩ := ok_nat (Int.natCast_nonneg i) hOk
  simp only at eA eB eC k0 k1 k2 k3 k4
  subst eA eB eC
  have hnums : InsR ⟨⟨#[110, 101, 103]⟩, A', B', C', (vk, vn, vs)⟩ := HIn.out.nums _ (show (⟨⟨#[110, 101, 103]⟩, A', B', C', (vk, vn, vs)⟩ : Ins) ∈ xs by
    rw [HX.out, List.getD_eq_getElem?_getD, List.getElem?_eq_getElem (by rw [HLen.out]; exact hilt)]
    exact List.getElem_mem _)
  have hvn : InR vn := hnums.1
  go_upto_region 17 with (fail)
  obtain ⟨w1, hw1⟩ : ∃ w1, w1 = w.alloc (.cells #[.string ⟨#[110, 101, 103]⟩, .int .i64 (A' : Int), .int .i64 (B' : Int), .int .i64 (C' : Int), .int .i64 vk, .int .i64 vn, .string vs] 138) := ⟨_, rfl⟩
  rw [← hw1]
  have hbw : Below w.heap.size w w1 := by rw [hw1]; exact bel0 _ (Below.refl _ _)
  have hbx : w1.heap[w.heap.size]? = some (.cells #[.string ⟨#[110, 101, 103]⟩, .int .i64 (A' : Int), .int .i64 (B' : Int), .int .i64 (C' : Int), .int .i64 vk, .int .i64 vn, .string vs] 138 (0, 0)) := by rw [hw1]; exact Go.heap_alloc_new w _
  have HBox := Lib.hid (show InBox w1 w.heap.size ⟨#[110, 101, 103]⟩ A' B' C' (vk, vn, vs) from ⟨cell_of_row _ _ 0 _ _ _ hbx, cell_of_row _ _ 1 _ _ _ hbx, cell_of_row _ _ 2 _ _ _ hbx, cell_of_row _ _ 3 _ _ _ hbx, cell_of_row _ _ 4 _ _ _ hbx, cell_of_row _ _ 5 _ _ _ hbx, cell_of_row _ _ 6 _ _ _ hbx⟩)
  have HB1 := Lib.hid (bt HV.out.bel hbw)
  have HG1 := Lib.hid (HV.out.at_.below hbw)
  have hbg : w.heap.size ≠ g := by have := HV.out.at_.lt; omega
  have HN := Lib.hid hvn
  have HL := Lib.hid HV.out.len
  have HKs := Lib.hid (show 1 ≤ K ∧ K ≤ 1000 by have := (formed_at Hf.out).1; have := Hk.out; omega)
  obtain ⟨f, rfl⟩ : ∃ f', f = f' + 1 := ⟨f - 1, by have := HV.out.fuel; omega⟩
  have HStep := Lib.hid (fun (rs' : List Reg) (e' : Int) (n : Nat) hs => runR_step (rs' := rs') (e := e') (n := n) (HV.out.ok rfl) (by rw [HLen.out]; exact hilt) hs)
  rw [← HX.out] at HStep
  have HFu := Lib.hid HV.out.fuel
  have HRg := Lib.hid HV.out.rg
  rw [Hk.out] at k0 k1 k2 k3 k4
  have K0 := Lib.hid k0
  have HOk := Lib.hid hOk
  have K9 := Lib.hid (show (B' : Int) ≤ 9223372036854775807 ∧ (C' : Int) ≤ 9223372036854775807 from ⟨hnums.2.1.2, hnums.2.2.2⟩)
  have K1 := Lib.hid k1
  have K2 := Lib.hid k2
  have K3 := Lib.hid k3
  have K4 := Lib.hid k4
  have HInW := Lib.hid (HIn.out.below hbw)
  have HIl := Lib.hid hilt
  obtain ⟨B0, hB0⟩ : ∃ B0, B0 = w.heap.size := ⟨_, rfl⟩
  rw [← hB0] at hbg HBox ⊢
  clear k0 k1 k2 k3 k4 hvn hnums hOk hw1 hbw hbx c0 c1 c2 c3 c4 c5 c6 hB0 p0 a0 a1 a2 fz hlt4 hi0 hi2 hi3 hil hic hwi hlen
  have kk := K2.out class_neg
  have hA : A' < K := by have := HKs.out; omega
  have hB : B' < K := by omega
  have ht := HStep.out _ _ _ (step_neg R A' B' C' (vk, vn, vs) rs i)
  have HT := Lib.hid ht
  clear ht
  go_wp2_with fail
  refine wp_mono (vmr22_any ra rl rc g K B0 rs _ A' B' C' _ w1 _ _ _ _ _ _ _ _ _ _ _ _ _ _ _ _ _ _ _ _ _ _ _ _ _ _ _ _ _ _ _ _ _ _ _ _ _ _ _ _ _ _ _ _ _ _ _ _ _ _ _ _ _ _ _ _ _ _ _ _ _ _ _ _ _ _ _ _ _ _ _ _ _ _ _ _ _ _ _ _ _ _ _ _ _ _ _ _ _ _ _ _ _ _ _ _ _ _ _ _ _ _ _ _ _ _ _ _ _ _ _ _ _ _ _ _ _ _ _ _ _ _ _ _ _ _ _ _ _ _ _ _ _ _ _ _ _ _ _ _ _ _ _ _ _ _ _ _ _ _ _ _ _ _ _ _ _ _ _ _ _ _ _ _ _ _ _ _ _ _ _ _ _ _ _ _ _ _ _ _ _ _ _ _ _ _ _ _ _ _ _ _ _ _ _ _ _ _ _ _ _ _ _ _ _ _ _ _ _ _ _ _ _ _ _ _ _ _ _ _ _ _ _ _ _ _ _ _ _ _ _ _ _ _ _ _ _ _ _ _ _ _ _ _ _ _ _ _ _ _ _ _ _ _ _ _ _ _ _ _ _ _ HBox.out HG1.out hbg HL.out HKs.out.2 hA hB (HRg.out.get B')) ?_
  rintro e' a' w2 ⟨rfl, ⟨u0, u1, u2, u3, u4, u5, u6, u7, u8, u9, u10, u11, u12, u13, u14, u15, rfl⟩, hR, hS⟩
  have HR := Lib.hid hR
  have HS := Lib.hid hS
  clear hR hS
  go_wp2
  go_step3
  have HVn := Lib.hid (VmV.mk (R := R) (xs := xs) (fin := fin) (K := K) (i := i + 1) (f := f) (by have := HIl.out; have := HLen.out; omega) (by have := HFu.out; omega) (List.length_set.trans HL.out) (HRg.out.set (r := ((_, _, ⟨#[]⟩), (rs.getD A' noR).2)) (recF_inR _ _ _ _ _ _ _) _) HR.out (Below.sto HB1.out HS.out Hg.out HB1.out.size) (fun h => HT.out.1 (by first | exact h | trivial)) (fun h => HT.out.2 (by first | exact h | exact (h rfl).elim)))
  refine And.intro (a := 0 = 0) rfl ?_
  refine ⟨⟨i + 1, _, _, f, _, _, _, _, _, _, _, _, _, _, _, _, _, _, _, _, _, _, _, _, _, _, _, _, _, _, _, _, _, _, _, _, _, _, _, _, _, _, _, _, _, _, _, _, _, _, _, _, _, _, _, _, _, _, _, _, _, _, _, _, _, _, _, _, _, _, _, _, _, _, _, _, _, _, _, _, _, _, _, _, _, _, _, _, _, _, _, _, _, _, _, _, _, _, _, _, _, _, _, _, _, _, _, _, _, _, _, _, _, _, _, _, _, _, _, _, _, _, _, _, _, _, _, _, _, _, _, _, _, _, _, _, _, _, _, _, _, _, _, _, _, _, _, _, _, _, _, _, _, _, _, _, _, _, _, _, _, _, _, _, _, _, _, _, _, _, _, _, _, _, _, _, _, _, _, _, _, _, _, _, _, _, _, _, _, _, _, _, _, _, _, _, _, _, _, _, _, _, _, _, _, _, _, _, _, _, _, _, _, _, _, _, _, _, _, _, _, _, _, _, _, _, _, _, _, _, _, _, _, _, _, _, _, _, _, _, _, _, _, _, _, _, _, _, _, _, _, _, _, _, _, _, _, _, _, _, _, _, _, rfl, HVn.out⟩, ?_⟩
  show cl - Int.toNat ((i : Int) + 1) < cl - i
  have := HIl.out
  omega
end Go.Proofs.Ytafhgilikcablaa
