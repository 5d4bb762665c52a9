/- vm.Run, region 13: the end. (Written by genvm.py.) -/
import Derived.Test.YtafhgilikcablaaCmA
import Derived.Test.YtafhgilikcablaaQTail
import Derived.Test.YtafhgilikcablaaLwLet
import Derived.Test.YtafhgilikcablaaFormV
import Derived.Test.YtafhgilikcablaaVCmpR
import Derived.Test.YtafhgilikcablaaVRecV
namespace Go.Proofs.Ytafhgilikcablaa
open Go.RowKit
set_option linter.unusedVariables false
set_option linter.unusedSimpArgs false
set_option maxRecDepth 100000
noncomputable def VmC46 : Code := ((Try.f37.body.bind (regOf 46)).getD .skip)
set_option maxHeartbeats 12800000 in
theorem vmr46_any (ra : Option Addr) (rl rc g K b : Nat) (rs : List Reg) (op : ByteArray) (A Bx C : Nat) (v : Val) (J : Int) (w : World) (x0 x2 x3 x4 x5 x6 x8 x9 x10 x12 x13 x14 x15 x16 x17 x18 x19 x20 x21 x22 x23 x24 x25 x26 x27 x28 x29 x30 x31 x32 x33 x34 x35 x36 x37 x38 x39 x40 x41 x42 x43 x44 x45 x46 x47 x48 x49 x50 x51 x52 x53 x54 x55 x56 x57 x58 x59 x60 x61 x62 x63 x64 x65 x66 x67 x68 x69 x70 x71 x72 x73 x74 x75 x76 x77 x78 x79 x80 x81 x82 x83 x84 x85 x86 x87 x88 x89 x90 x91 x92 x93 x94 x95 x96 x97 x98 x99 x100 x101 x102 x103 x104 x105 x106 x107 x108 x109 x110 x111 x112 x113 x114 x115 x116 x117 x118 x119 x120 x121 x122 x123 x124 x125 x126 x127 x128 x129 x130 x131 x132 x133 x134 x135 x136 x137 x138 x139 x140 x141 x142 x143 x144 x145 x146 x147 x148 x149 x150 x151 x152 x153 x154 x155 x156 x157 x158 x159 x160 x161 x162 x163 x164 x165 x166 x167 x168 x169 x170 x171 x172 x173 x174 x175 x176 x177 x178 x179 x180 x181 x182 x183 x184 x185 x186 x187 x188 x189 x190 x191 x192 x193 x194 x195 x196 x197 x198 x199 x200 x201 x202 x203 x204 x205 x206 x207 x208 x209 x210 x211 x212 x213 x214 x215 x216 x217 x218 x219 x220 x221 x222 x223 x224 x225 x226 x227 x228 x229 x230 x231 x232 x233 x234 x235 x236 x237 x238 x239 x240 x241 x242 x243 x244 x245 x246 x247 x248 x249 x250 x251 x252 x253 x254 x255 x256 x257 x258 x259 x260 x261 x262 x263 x264 : Value)
    (hI : InBox w b op A Bx C v) (hg : RegAt w g rs) (hbg : b ≠ g) (hK : rs.length = K) (hk2 : K ≤ 1000) (hA : A < K) (hB : Bx < K) (hJ : (op = ⟨#[102, 97, 108, 115, 101]⟩ ∧ J = 0) ∨ (op = ⟨#[116, 114, 117, 101]⟩ ∧ J = 1)) :
    VmC46.wp Try.prog (fun e a' w' => e = .normal ∧ (∃ u252 u253 u254 u255 u256 u257 u258 u259 u260 u261 : Value, a' = ⟨#[x0, .slice ra rl rc, x2, x3, x4, x5, x6, .slice (some ⟨g, 0, none⟩) K K, x8, x9, x10, .pointer (some ⟨b, 0, none⟩), x12, x13, x14, x15, x16, x17, x18, x19, x20, x21, x22, x23, x24, x25, x26, x27, x28, x29, x30, x31, x32, x33, x34, x35, x36, x37, x38, x39, x40, x41, x42, x43, x44, x45, x46, x47, x48, x49, x50, x51, x52, x53, x54, x55, x56, x57, x58, x59, x60, x61, x62, x63, x64, x65, x66, x67, x68, x69, x70, x71, x72, x73, x74, x75, x76, x77, x78, x79, x80, x81, x82, x83, x84, x85, x86, x87, x88, x89, x90, x91, x92, x93, x94, x95, x96, x97, x98, x99, x100, x101, x102, x103, x104, x105, x106, x107, x108, x109, x110, x111, x112, x113, x114, x115, x116, x117, x118, x119, x120, x121, x122, x123, x124, x125, x126, x127, x128, x129, x130, x131, x132, x133, x134, x135, x136, x137, x138, x139, x140, x141, x142, x143, x144, x145, x146, x147, x148, x149, x150, x151, x152, x153, x154, x155, x156, x157, x158, x159, x160, x161, x162, x163, x164, x165, x166, x167, x168, x169, x170, x171, x172, x173, x174, x175, x176, x177, x178, x179, x180, x181, x182, x183, x184, x185, x186, x187, x188, x189, x190, x191, x192, x193, x194, x195, x196, x197, x198, x199, x200, x201, x202, x203, x204, x205, x206, x207, x208, x209, x210, x211, x212, x213, x214, x215, x216, x217, x218, x219, x220, x221, x222, x223, x224, x225, x226, x227, x228, x229, x230, x231, x232, x233, x234, x235, x236, x237, x238, x239, x240, x241, x242, x243, x244, x245, x246, x247, x248, x249, x250, x251, u252, u253, u254, u255, u256, u257, u258, u259, u260, u261, .bool ((rs.getD Bx noR).2 == J), x263, x264], []⟩) ∧ Below w.heap.size w w' ∧ Sto g w w') ⟨#[x0, .slice ra rl rc, x2, x3, x4, x5, x6, .slice (some ⟨g, 0, none⟩) K K, x8, x9, x10, .pointer (some ⟨b, 0, none⟩), x12, x13, x14, x15, x16, x17, x18, x19, x20, x21, x22, x23, x24, x25, x26, x27, x28, x29, x30, x31, x32, x33, x34, x35, x36, x37, x38, x39, x40, x41, x42, x43, x44, x45, x46, x47, x48, x49, x50, x51, x52, x53, x54, x55, x56, x57, x58, x59, x60, x61, x62, x63, x64, x65, x66, x67, x68, x69, x70, x71, x72, x73, x74, x75, x76, x77, x78, x79, x80, x81, x82, x83, x84, x85, x86, x87, x88, x89, x90, x91, x92, x93, x94, x95, x96, x97, x98, x99, x100, x101, x102, x103, x104, x105, x106, x107, x108, x109, x110, x111, x112, x113, x114, x115, x116, x117, x118, x119, x120, x121, x122, x123, x124, x125, x126, x127, x128, x129, x130, x131, x132, x133, x134, x135, x136, x137, x138, x139, x140, x141, x142, x143, x144, x145, x146, x147, x148, x149, x150, x151, x152, x153, x154, x155, x156, x157, x158, x159, x160, x161, x162, x163, x164, x165, x166, x167, x168, x169, x170, x171, x172, x173, x174, x175, x176, x177, x178, x179, x180, x181, x182, x183, x184, x185, x186, x187, x188, x189, x190, x191, x192, x193, x194, x195, x196, x197, x198, x199, x200, x201, x202, x203, x204, x205, x206, x207, x208, x209, x210, x211, x212, x213, x214, x215, x216, x217, x218, x219, x220, x221, x222, x223, x224, x225, x226, x227, x228, x229, x230, x231, x232, x233, x234, x235, x236, x237, x238, x239, x240, x241, x242, x243, x244, x245, x246, x247, x248, x249, x250, x251, x252, x253, x254, x255, x256, x257, x258, x259, x260, x261, x262, x263, x264], []⟩ w := by
  obtain ⟨i0, i1, i2, i3, i4, i5, i6⟩ := hI
  subst hK
  have HG := Lib.hid hg
  have HA := Lib.hid hA
  have hA0 : (0 : Int) ≤ (A : Int) := by omega
  have hA1 : (A : Int) < (rs.length : Int) := by omega
  have j0 := Fut.cell i0
  have j1 := Fut.cell i1
  have j2 := Fut.cell i2
  have j3 := Fut.cell i3
  obtain ⟨b0, b1, b2, b3⟩ := hg.cells hB
  have b0' := Fut.cell b0
  have b1' := Fut.cell b1
  have b2' := Fut.cell b2
  have b3' := Fut.cell b3
  have hBx0 : (0 : Int) ≤ (Bx : Int) := by omega
  have hBx1 : (Bx : Int) < (rs.length : Int) := by omega
  clear hg i0 i1 i2 i3 i4 i5 i6
  clear b0 b1 b2 b3 j3 hA hB b0' b1' b2'
  conv => arg 2; whnf
  rcases hJ with ⟨rfl, rfl⟩ | ⟨rfl, rfl⟩
  all_goals
    refine wp_region_fut (by kernel_rfl) (by kernel_rfl) ?_
    dsimp only
    repeat (go_big_quiet_step ((go_at_call 80; exact calls_fut ((vmtruth_any _ _).mono (fun _ _ ⟨h1, h2⟩ => ⟨h1, h2 ▸ Below.refl _ _⟩)))))
    refine wpQuiet_nil ?_
    rintro _ ⟨s, rfl⟩
    have HS := Lib.hid (Sto.of_below (g := g) s.bel)
    exact ⟨rfl, ⟨_, _, _, _, _, _, _, _, _, _, rfl⟩, s.bel, HS.out⟩
end Go.Proofs.Ytafhgilikcablaa
namespace Go.Proofs.Ytafhgilikcablaa
open Go.RowKit
set_option linter.unusedVariables false
set_option linter.unusedSimpArgs false
set_option maxRecDepth 100000
noncomputable def VmC45 : Code := ((Try.f37.body.bind (regOf 45)).getD .skip)
set_option maxHeartbeats 12800000 in
theorem vmr45_any (ra : Option Addr) (rl rc g K b : Nat) (rs : List Reg) (op : ByteArray) (A Bx C : Nat) (v : Val) (w : World) (x0 x2 x3 x4 x5 x6 x8 x9 x10 x12 x13 x14 x15 x16 x17 x18 x19 x20 x21 x22 x23 x24 x25 x26 x27 x28 x29 x30 x31 x32 x33 x34 x35 x36 x37 x38 x39 x40 x41 x42 x43 x44 x45 x46 x47 x48 x49 x50 x51 x52 x53 x54 x55 x56 x57 x58 x59 x60 x61 x62 x63 x64 x65 x66 x67 x68 x69 x70 x71 x72 x73 x74 x75 x76 x77 x78 x79 x80 x81 x82 x83 x84 x85 x86 x87 x88 x89 x90 x91 x92 x93 x94 x95 x96 x97 x98 x99 x100 x101 x102 x103 x104 x105 x106 x107 x108 x109 x110 x111 x112 x113 x114 x115 x116 x117 x118 x119 x120 x121 x122 x123 x124 x125 x126 x127 x128 x129 x130 x131 x132 x133 x134 x135 x136 x137 x138 x139 x140 x141 x142 x143 x144 x145 x146 x147 x148 x149 x150 x151 x152 x153 x154 x155 x156 x157 x158 x159 x160 x161 x162 x163 x164 x165 x166 x167 x168 x169 x170 x171 x172 x173 x174 x175 x176 x177 x178 x179 x180 x181 x182 x183 x184 x185 x186 x187 x188 x189 x190 x191 x192 x193 x194 x195 x196 x197 x198 x199 x200 x201 x202 x203 x204 x205 x206 x207 x208 x209 x210 x211 x212 x213 x214 x215 x216 x217 x218 x219 x220 x221 x222 x223 x224 x225 x226 x227 x228 x229 x230 x231 x232 x233 x234 x235 x236 x237 x238 x239 x240 x241 x242 x243 x244 x245 x246 x247 x248 x249 x250 x251 x252 x253 x254 x255 x256 x257 x258 x259 x260 x261 x262 x263 x264 : Value)
    (hI : InBox w b op A Bx C v) (hg : RegAt w g rs) (hbg : b ≠ g) (hK : rs.length = K) (hk2 : K ≤ 1000) (hA : A < K) (hB : Bx < K) :
    VmC45.wp Try.prog (fun e a' w' => e = .normal ∧ (∃ u243 u244 u245 u246 u247 u248 u249 u250 u251 : Value, a' = ⟨#[x0, .slice ra rl rc, x2, x3, x4, x5, x6, .slice (some ⟨g, 0, none⟩) K K, x8, x9, x10, .pointer (some ⟨b, 0, none⟩), x12, x13, x14, x15, x16, x17, x18, x19, x20, x21, x22, x23, x24, x25, x26, x27, x28, x29, x30, x31, x32, x33, x34, x35, x36, x37, x38, x39, x40, x41, x42, x43, x44, x45, x46, x47, x48, x49, x50, x51, x52, x53, x54, x55, x56, x57, x58, x59, x60, x61, x62, x63, x64, x65, x66, x67, x68, x69, x70, x71, x72, x73, x74, x75, x76, x77, x78, x79, x80, x81, x82, x83, x84, x85, x86, x87, x88, x89, x90, x91, x92, x93, x94, x95, x96, x97, x98, x99, x100, x101, x102, x103, x104, x105, x106, x107, x108, x109, x110, x111, x112, x113, x114, x115, x116, x117, x118, x119, x120, x121, x122, x123, x124, x125, x126, x127, x128, x129, x130, x131, x132, x133, x134, x135, x136, x137, x138, x139, x140, x141, x142, x143, x144, x145, x146, x147, x148, x149, x150, x151, x152, x153, x154, x155, x156, x157, x158, x159, x160, x161, x162, x163, x164, x165, x166, x167, x168, x169, x170, x171, x172, x173, x174, x175, x176, x177, x178, x179, x180, x181, x182, x183, x184, x185, x186, x187, x188, x189, x190, x191, x192, x193, x194, x195, x196, x197, x198, x199, x200, x201, x202, x203, x204, x205, x206, x207, x208, x209, x210, x211, x212, x213, x214, x215, x216, x217, x218, x219, x220, x221, x222, x223, x224, x225, x226, x227, x228, x229, x230, x231, x232, x233, x234, x235, x236, x237, x238, x239, x240, x241, x242, u243, u244, u245, u246, u247, u248, u249, u250, u251, x252, x253, x254, x255, x256, x257, x258, x259, x260, x261, x262, x263, x264], []⟩) ∧ RegAt w' g (rs.set A (rs.getD Bx noR)) ∧ Sto g w w') ⟨#[x0, .slice ra rl rc, x2, x3, x4, x5, x6, .slice (some ⟨g, 0, none⟩) K K, x8, x9, x10, .pointer (some ⟨b, 0, none⟩), x12, x13, x14, x15, x16, x17, x18, x19, x20, x21, x22, x23, x24, x25, x26, x27, x28, x29, x30, x31, x32, x33, x34, x35, x36, x37, x38, x39, x40, x41, x42, x43, x44, x45, x46, x47, x48, x49, x50, x51, x52, x53, x54, x55, x56, x57, x58, x59, x60, x61, x62, x63, x64, x65, x66, x67, x68, x69, x70, x71, x72, x73, x74, x75, x76, x77, x78, x79, x80, x81, x82, x83, x84, x85, x86, x87, x88, x89, x90, x91, x92, x93, x94, x95, x96, x97, x98, x99, x100, x101, x102, x103, x104, x105, x106, x107, x108, x109, x110, x111, x112, x113, x114, x115, x116, x117, x118, x119, x120, x121, x122, x123, x124, x125, x126, x127, x128, x129, x130, x131, x132, x133, x134, x135, x136, x137, x138, x139, x140, x141, x142, x143, x144, x145, x146, x147, x148, x149, x150, x151, x152, x153, x154, x155, x156, x157, x158, x159, x160, x161, x162, x163, x164, x165, x166, x167, x168, x169, x170, x171, x172, x173, x174, x175, x176, x177, x178, x179, x180, x181, x182, x183, x184, x185, x186, x187, x188, x189, x190, x191, x192, x193, x194, x195, x196, x197, x198, x199, x200, x201, x202, x203, x204, x205, x206, x207, x208, x209, x210, x211, x212, x213, x214, x215, x216, x217, x218, x219, x220, x221, x222, x223, x224, x225, x226, x227, x228, x229, x230, x231, x232, x233, x234, x235, x236, x237, x238, x239, x240, x241, x242, x243, x244, x245, x246, x247, x248, x249, x250, x251, x252, x253, x254, x255, x256, x257, x258, x259, x260, x261, x262, x263, x264], []⟩ w := by
  obtain ⟨i0, i1, i2, i3, i4, i5, i6⟩ := hI
  subst hK
  have HG := Lib.hid hg
  have HA := Lib.hid hA
  have hA0 : (0 : Int) ≤ (A : Int) := by omega
  have hA1 : (A : Int) < (rs.length : Int) := by omega
  have j0 := Fut.cell i0
  have j1 := Fut.cell i1
  have j2 := Fut.cell i2
  have j3 := Fut.cell i3
  obtain ⟨b0, b1, b2, b3⟩ := hg.cells hB
  have b0' := Fut.cell b0
  have b1' := Fut.cell b1
  have b2' := Fut.cell b2
  have b3' := Fut.cell b3
  have hBx0 : (0 : Int) ≤ (Bx : Int) := by omega
  have hBx1 : (Bx : Int) < (rs.length : Int) := by omega
  clear hg i0 i1 i2 i3 i4 i5 i6
  clear b0 b1 b2 b3 j0 j3 hA hB
  conv => arg 2; whnf
  refine wp_region_fut_tail 9 (by kernel_rfl) (by kernel_rfl) ?_
  simp only [List.take_succ_cons, List.take_zero, List.drop_succ_cons, List.drop_zero]
  repeat (go_big_quiet_step (fail))
  refine wpQuiet_nil ?_
  intro s
  have hb2 := s.bel
  generalize s.to = w2 at *
  clear s
  have hg2 := HG.out.below hb2
  obtain ⟨a0, a1, a2, a3⟩ := hg2.cells HA.out
  have fz := hg2.frozen
  have hlt := hg2.lt
  have HT := Lib.hid (hg2.copy HA.out (rs.getD Bx noR))
  have HS := Lib.hid (Sto.of_below (g := g) hb2)
  clear hb2 hg2
  go_wp2
  first
    | exact ⟨HT.out, (((HS.out.set _ _).set _ _).set _ _).set _ _⟩
    | exact ⟨rfl, ⟨_, _, _, _, _, _, _, _, _, rfl⟩, HT.out, (((HS.out.set _ _).set _ _).set _ _).set _ _⟩
end Go.Proofs.Ytafhgilikcablaa
namespace Go.Proofs.Ytafhgilikcablaa
open Go.RowKit
set_option linter.unusedVariables false
set_option linter.unusedSimpArgs false
set_option maxRecDepth 100000
noncomputable def VmC43 : Code := ((Try.f37.body.bind (regOf 43)).getD .skip)
set_option maxHeartbeats 12800000 in
theorem vmr43_any (ra : Option Addr) (rl rc g K b : Nat) (rs : List Reg) (op : ByteArray) (A Bx C : Nat) (v : Val) (w : World) (x0 x2 x3 x4 x5 x6 x8 x9 x10 x12 x13 x14 x15 x16 x17 x18 x19 x20 x21 x22 x23 x24 x25 x26 x27 x28 x29 x30 x31 x32 x33 x34 x35 x36 x37 x38 x39 x40 x41 x42 x43 x44 x45 x46 x47 x48 x49 x50 x51 x52 x53 x54 x55 x56 x57 x58 x59 x60 x61 x62 x63 x64 x65 x66 x67 x68 x69 x70 x71 x72 x73 x74 x75 x76 x77 x78 x79 x80 x81 x82 x83 x84 x85 x86 x87 x88 x89 x90 x91 x92 x93 x94 x95 x96 x97 x98 x99 x100 x101 x102 x103 x104 x105 x106 x107 x108 x109 x110 x111 x112 x113 x114 x115 x116 x117 x118 x119 x120 x121 x122 x123 x124 x125 x126 x127 x128 x129 x130 x131 x132 x133 x134 x135 x136 x137 x138 x139 x140 x141 x142 x143 x144 x145 x146 x147 x148 x149 x150 x151 x152 x153 x154 x155 x156 x157 x158 x159 x160 x161 x162 x163 x164 x165 x166 x167 x168 x169 x170 x171 x172 x173 x174 x175 x176 x177 x178 x179 x180 x181 x182 x183 x184 x185 x186 x187 x188 x189 x190 x191 x192 x193 x194 x195 x196 x197 x198 x199 x200 x201 x202 x203 x204 x205 x206 x207 x208 x209 x210 x211 x212 x213 x214 x215 x216 x217 x218 x219 x220 x221 x222 x223 x224 x225 x226 x227 x228 x229 x230 x231 x232 x233 x234 x235 x236 x237 x238 x239 x240 x241 x242 x243 x244 x245 x246 x247 x248 x249 x250 x251 x252 x253 x254 x255 x256 x257 x258 x259 x260 x261 x262 x263 x264 : Value)
    (hI : InBox w b op A Bx C v) (hg : RegAt w g rs) (hbg : b ≠ g) (hK : rs.length = K) (hk2 : K ≤ 1000) (hA : A < K) (hB : Bx < K) (hC : C < K) :
    VmC43.wp Try.prog (fun e a' w' => e = .normal ∧ (∃ u223 u224 u225 u226 u227 u228 u229 u230 u231 u232 u233 u234 u235 u236 u237 u238 u239 u240 : Value, a' = ⟨#[x0, .slice ra rl rc, x2, x3, x4, x5, x6, .slice (some ⟨g, 0, none⟩) K K, x8, x9, x10, .pointer (some ⟨b, 0, none⟩), x12, x13, x14, x15, x16, x17, x18, x19, x20, x21, x22, x23, x24, x25, x26, x27, x28, x29, x30, x31, x32, x33, x34, x35, x36, x37, x38, x39, x40, x41, x42, x43, x44, x45, x46, x47, x48, x49, x50, x51, x52, x53, x54, x55, x56, x57, x58, x59, x60, x61, x62, x63, x64, x65, x66, x67, x68, x69, x70, x71, x72, x73, x74, x75, x76, x77, x78, x79, x80, x81, x82, x83, x84, x85, x86, x87, x88, x89, x90, x91, x92, x93, x94, x95, x96, x97, x98, x99, x100, x101, x102, x103, x104, x105, x106, x107, x108, x109, x110, x111, x112, x113, x114, x115, x116, x117, x118, x119, x120, x121, x122, x123, x124, x125, x126, x127, x128, x129, x130, x131, x132, x133, x134, x135, x136, x137, x138, x139, x140, x141, x142, x143, x144, x145, x146, x147, x148, x149, x150, x151, x152, x153, x154, x155, x156, x157, x158, x159, x160, x161, x162, x163, x164, x165, x166, x167, x168, x169, x170, x171, x172, x173, x174, x175, x176, x177, x178, x179, x180, x181, x182, x183, x184, x185, x186, x187, x188, x189, x190, x191, x192, x193, x194, x195, x196, x197, x198, x199, x200, x201, x202, x203, x204, x205, x206, x207, x208, x209, x210, x211, x212, x213, x214, x215, x216, x217, x218, x219, x220, x221, x222, u223, u224, u225, u226, u227, u228, u229, u230, u231, u232, u233, u234, u235, u236, u237, u238, u239, u240, x241, x242, x243, x244, x245, x246, x247, x248, x249, x250, x251, x252, x253, x254, x255, x256, x257, x258, x259, x260, x261, x262, x263, x264], []⟩) ∧ RegAt w' g (rs.set A ((rs.getD A noR).1, orI (rs.getD Bx noR).2 (rs.getD C noR).2)) ∧ Sto g w w') ⟨#[x0, .slice ra rl rc, x2, x3, x4, x5, x6, .slice (some ⟨g, 0, none⟩) K K, x8, x9, x10, .pointer (some ⟨b, 0, none⟩), x12, x13, x14, x15, x16, x17, x18, x19, x20, x21, x22, x23, x24, x25, x26, x27, x28, x29, x30, x31, x32, x33, x34, x35, x36, x37, x38, x39, x40, x41, x42, x43, x44, x45, x46, x47, x48, x49, x50, x51, x52, x53, x54, x55, x56, x57, x58, x59, x60, x61, x62, x63, x64, x65, x66, x67, x68, x69, x70, x71, x72, x73, x74, x75, x76, x77, x78, x79, x80, x81, x82, x83, x84, x85, x86, x87, x88, x89, x90, x91, x92, x93, x94, x95, x96, x97, x98, x99, x100, x101, x102, x103, x104, x105, x106, x107, x108, x109, x110, x111, x112, x113, x114, x115, x116, x117, x118, x119, x120, x121, x122, x123, x124, x125, x126, x127, x128, x129, x130, x131, x132, x133, x134, x135, x136, x137, x138, x139, x140, x141, x142, x143, x144, x145, x146, x147, x148, x149, x150, x151, x152, x153, x154, x155, x156, x157, x158, x159, x160, x161, x162, x163, x164, x165, x166, x167, x168, x169, x170, x171, x172, x173, x174, x175, x176, x177, x178, x179, x180, x181, x182, x183, x184, x185, x186, x187, x188, x189, x190, x191, x192, x193, x194, x195, x196, x197, x198, x199, x200, x201, x202, x203, x204, x205, x206, x207, x208, x209, x210, x211, x212, x213, x214, x215, x216, x217, x218, x219, x220, x221, x222, x223, x224, x225, x226, x227, x228, x229, x230, x231, x232, x233, x234, x235, x236, x237, x238, x239, x240, x241, x242, x243, x244, x245, x246, x247, x248, x249, x250, x251, x252, x253, x254, x255, x256, x257, x258, x259, x260, x261, x262, x263, x264], []⟩ w := by
  obtain ⟨i0, i1, i2, i3, i4, i5, i6⟩ := hI
  subst hK
  have HG := Lib.hid hg
  have HA := Lib.hid hA
  have hA0 : (0 : Int) ≤ (A : Int) := by omega
  have hA1 : (A : Int) < (rs.length : Int) := by omega
  have j0 := Fut.cell i0
  have j1 := Fut.cell i1
  have j2 := Fut.cell i2
  have j3 := Fut.cell i3
  obtain ⟨b0, b1, b2, b3⟩ := hg.cells hB
  have b0' := Fut.cell b0
  have b1' := Fut.cell b1
  have b2' := Fut.cell b2
  have b3' := Fut.cell b3
  have hBx0 : (0 : Int) ≤ (Bx : Int) := by omega
  have hBx1 : (Bx : Int) < (rs.length : Int) := by omega
  obtain ⟨c0, c1, c2, c3⟩ := hg.cells hC
  have c0' := Fut.cell c0
  have c1' := Fut.cell c1
  have c2' := Fut.cell c2
  have c3' := Fut.cell c3
  have hC0 : (0 : Int) ≤ (C : Int) := by omega
  have hC1 : (C : Int) < (rs.length : Int) := by omega
  clear hg i0 i1 i2 i3 i4 i5 i6
  clear b0 b1 b2 b3 j0 hA hB c0 c1 c2 c3 hC
  conv => arg 2; whnf
  refine wp_region_fut_tail 18 (by kernel_rfl) (by kernel_rfl) ?_
  simp only [List.take_succ_cons, List.take_zero, List.drop_succ_cons, List.drop_zero]
  repeat (go_big_quiet_step ((go_at_call 83; exact calls_fut ((or_any _ _ _).mono (fun _ _ ⟨h1, h2⟩ => ⟨h1, h2 ▸ Below.refl _ _⟩)))))
  refine wpQuiet_nil ?_
  intro s
  have hb2 := s.bel
  generalize s.to = w2 at *
  clear s
  have hg2 := HG.out.below hb2
  obtain ⟨a0, a1, a2, a3⟩ := hg2.cells HA.out
  have fz := hg2.frozen
  have hlt := hg2.lt
  have HT := Lib.hid (hg2.truth HA.out (orI (rs.getD Bx noR).2 (rs.getD C noR).2))
  have HS := Lib.hid (Sto.of_below (g := g) hb2)
  clear hb2 hg2
  go_wp2
  first
    | exact ⟨HT.out, HS.out.set _ _⟩
    | exact ⟨rfl, ⟨_, _, _, _, _, _, _, _, _, _, _, _, _, _, _, _, _, _, rfl⟩, HT.out, HS.out.set _ _⟩
end Go.Proofs.Ytafhgilikcablaa
namespace Go.Proofs.Ytafhgilikcablaa
open Go.RowKit
set_option linter.unusedVariables false
set_option linter.unusedSimpArgs false
set_option maxRecDepth 100000
noncomputable def VmC41 : Code := ((Try.f37.body.bind (regOf 41)).getD .skip)
set_option maxHeartbeats 12800000 in
theorem vmr41_any (ra : Option Addr) (rl rc g K b : Nat) (rs : List Reg) (op : ByteArray) (A Bx C : Nat) (v : Val) (w : World) (x0 x2 x3 x4 x5 x6 x8 x9 x10 x12 x13 x14 x15 x16 x17 x18 x19 x20 x21 x22 x23 x24 x25 x26 x27 x28 x29 x30 x31 x32 x33 x34 x35 x36 x37 x38 x39 x40 x41 x42 x43 x44 x45 x46 x47 x48 x49 x50 x51 x52 x53 x54 x55 x56 x57 x58 x59 x60 x61 x62 x63 x64 x65 x66 x67 x68 x69 x70 x71 x72 x73 x74 x75 x76 x77 x78 x79 x80 x81 x82 x83 x84 x85 x86 x87 x88 x89 x90 x91 x92 x93 x94 x95 x96 x97 x98 x99 x100 x101 x102 x103 x104 x105 x106 x107 x108 x109 x110 x111 x112 x113 x114 x115 x116 x117 x118 x119 x120 x121 x122 x123 x124 x125 x126 x127 x128 x129 x130 x131 x132 x133 x134 x135 x136 x137 x138 x139 x140 x141 x142 x143 x144 x145 x146 x147 x148 x149 x150 x151 x152 x153 x154 x155 x156 x157 x158 x159 x160 x161 x162 x163 x164 x165 x166 x167 x168 x169 x170 x171 x172 x173 x174 x175 x176 x177 x178 x179 x180 x181 x182 x183 x184 x185 x186 x187 x188 x189 x190 x191 x192 x193 x194 x195 x196 x197 x198 x199 x200 x201 x202 x203 x204 x205 x206 x207 x208 x209 x210 x211 x212 x213 x214 x215 x216 x217 x218 x219 x220 x221 x222 x223 x224 x225 x226 x227 x228 x229 x230 x231 x232 x233 x234 x235 x236 x237 x238 x239 x240 x241 x242 x243 x244 x245 x246 x247 x248 x249 x250 x251 x252 x253 x254 x255 x256 x257 x258 x259 x260 x261 x262 x263 x264 : Value)
    (hI : InBox w b op A Bx C v) (hg : RegAt w g rs) (hbg : b ≠ g) (hK : rs.length = K) (hk2 : K ≤ 1000) (hA : A < K) (hB : Bx < K) (hC : C < K) :
    VmC41.wp Try.prog (fun e a' w' => e = .normal ∧ (∃ u203 u204 u205 u206 u207 u208 u209 u210 u211 u212 u213 u214 u215 u216 u217 u218 u219 u220 : Value, a' = ⟨#[x0, .slice ra rl rc, x2, x3, x4, x5, x6, .slice (some ⟨g, 0, none⟩) K K, x8, x9, x10, .pointer (some ⟨b, 0, none⟩), x12, x13, x14, x15, x16, x17, x18, x19, x20, x21, x22, x23, x24, x25, x26, x27, x28, x29, x30, x31, x32, x33, x34, x35, x36, x37, x38, x39, x40, x41, x42, x43, x44, x45, x46, x47, x48, x49, x50, x51, x52, x53, x54, x55, x56, x57, x58, x59, x60, x61, x62, x63, x64, x65, x66, x67, x68, x69, x70, x71, x72, x73, x74, x75, x76, x77, x78, x79, x80, x81, x82, x83, x84, x85, x86, x87, x88, x89, x90, x91, x92, x93, x94, x95, x96, x97, x98, x99, x100, x101, x102, x103, x104, x105, x106, x107, x108, x109, x110, x111, x112, x113, x114, x115, x116, x117, x118, x119, x120, x121, x122, x123, x124, x125, x126, x127, x128, x129, x130, x131, x132, x133, x134, x135, x136, x137, x138, x139, x140, x141, x142, x143, x144, x145, x146, x147, x148, x149, x150, x151, x152, x153, x154, x155, x156, x157, x158, x159, x160, x161, x162, x163, x164, x165, x166, x167, x168, x169, x170, x171, x172, x173, x174, x175, x176, x177, x178, x179, x180, x181, x182, x183, x184, x185, x186, x187, x188, x189, x190, x191, x192, x193, x194, x195, x196, x197, x198, x199, x200, x201, x202, u203, u204, u205, u206, u207, u208, u209, u210, u211, u212, u213, u214, u215, u216, u217, u218, u219, u220, x221, x222, x223, x224, x225, x226, x227, x228, x229, x230, x231, x232, x233, x234, x235, x236, x237, x238, x239, x240, x241, x242, x243, x244, x245, x246, x247, x248, x249, x250, x251, x252, x253, x254, x255, x256, x257, x258, x259, x260, x261, x262, x263, x264], []⟩) ∧ RegAt w' g (rs.set A ((rs.getD A noR).1, andI (rs.getD Bx noR).2 (rs.getD C noR).2)) ∧ Sto g w w') ⟨#[x0, .slice ra rl rc, x2, x3, x4, x5, x6, .slice (some ⟨g, 0, none⟩) K K, x8, x9, x10, .pointer (some ⟨b, 0, none⟩), x12, x13, x14, x15, x16, x17, x18, x19, x20, x21, x22, x23, x24, x25, x26, x27, x28, x29, x30, x31, x32, x33, x34, x35, x36, x37, x38, x39, x40, x41, x42, x43, x44, x45, x46, x47, x48, x49, x50, x51, x52, x53, x54, x55, x56, x57, x58, x59, x60, x61, x62, x63, x64, x65, x66, x67, x68, x69, x70, x71, x72, x73, x74, x75, x76, x77, x78, x79, x80, x81, x82, x83, x84, x85, x86, x87, x88, x89, x90, x91, x92, x93, x94, x95, x96, x97, x98, x99, x100, x101, x102, x103, x104, x105, x106, x107, x108, x109, x110, x111, x112, x113, x114, x115, x116, x117, x118, x119, x120, x121, x122, x123, x124, x125, x126, x127, x128, x129, x130, x131, x132, x133, x134, x135, x136, x137, x138, x139, x140, x141, x142, x143, x144, x145, x146, x147, x148, x149, x150, x151, x152, x153, x154, x155, x156, x157, x158, x159, x160, x161, x162, x163, x164, x165, x166, x167, x168, x169, x170, x171, x172, x173, x174, x175, x176, x177, x178, x179, x180, x181, x182, x183, x184, x185, x186, x187, x188, x189, x190, x191, x192, x193, x194, x195, x196, x197, x198, x199, x200, x201, x202, x203, x204, x205, x206, x207, x208, x209, x210, x211, x212, x213, x214, x215, x216, x217, x218, x219, x220, x221, x222, x223, x224, x225, x226, x227, x228, x229, x230, x231, x232, x233, x234, x235, x236, x237, x238, x239, x240, x241, x242, x243, x244, x245, x246, x247, x248, x249, x250, x251, x252, x253, x254, x255, x256, x257, x258, x259, x260, x261, x262, x263, x264], []⟩ w := by
  obtain ⟨i0, i1, i2, i3, i4, i5, i6⟩ := hI
  subst hK
  have HG := Lib.hid hg
  have HA := Lib.hid hA
  have hA0 : (0 : Int) ≤ (A : Int) := by omega
  have hA1 : (A : Int) < (rs.length : Int) := by omega
  have j0 := Fut.cell i0
  have j1 := Fut.cell i1
  have j2 := Fut.cell i2
  have j3 := Fut.cell i3
  obtain ⟨b0, b1, b2, b3⟩ := hg.cells hB
  have b0' := Fut.cell b0
  have b1' := Fut.cell b1
  have b2' := Fut.cell b2
  have b3' := Fut.cell b3
  have hBx0 : (0 : Int) ≤ (Bx : Int) := by omega
  have hBx1 : (Bx : Int) < (rs.length : Int) := by omega
  obtain ⟨c0, c1, c2, c3⟩ := hg.cells hC
  have c0' := Fut.cell c0
  have c1' := Fut.cell c1
  have c2' := Fut.cell c2
  have c3' := Fut.cell c3
  have hC0 : (0 : Int) ≤ (C : Int) := by omega
  have hC1 : (C : Int) < (rs.length : Int) := by omega
  clear hg i0 i1 i2 i3 i4 i5 i6
  clear b0 b1 b2 b3 j0 hA hB c0 c1 c2 c3 hC
  conv => arg 2; whnf
  refine wp_region_fut_tail 18 (by kernel_rfl) (by kernel_rfl) ?_
  simp only [List.take_succ_cons, List.take_zero, List.drop_succ_cons, List.drop_zero]
  repeat (go_big_quiet_step ((go_at_call 82; exact calls_fut ((and_any _ _ _).mono (fun _ _ ⟨h1, h2⟩ => ⟨h1, h2 ▸ Below.refl _ _⟩)))))
  refine wpQuiet_nil ?_
  intro s
  have hb2 := s.bel
  generalize s.to = w2 at *
  clear s
  have hg2 := HG.out.below hb2
  obtain ⟨a0, a1, a2, a3⟩ := hg2.cells HA.out
  have fz := hg2.frozen
  have hlt := hg2.lt
  have HT := Lib.hid (hg2.truth HA.out (andI (rs.getD Bx noR).2 (rs.getD C noR).2))
  have HS := Lib.hid (Sto.of_below (g := g) hb2)
  clear hb2 hg2
  go_wp2
  first
    | exact ⟨HT.out, HS.out.set _ _⟩
    | exact ⟨rfl, ⟨_, _, _, _, _, _, _, _, _, _, _, _, _, _, _, _, _, _, rfl⟩, HT.out, HS.out.set _ _⟩
end Go.Proofs.Ytafhgilikcablaa
namespace Go.Proofs.Ytafhgilikcablaa
open Go.RowKit
set_option linter.unusedVariables false
set_option linter.unusedSimpArgs false
set_option maxRecDepth 100000
noncomputable def VmC39 : Code := ((Try.f37.body.bind (regOf 39)).getD .skip)
set_option maxHeartbeats 12800000 in
theorem vmr39_any (ra : Option Addr) (rl rc g K b : Nat) (rs : List Reg) (op : ByteArray) (A Bx C : Nat) (v : Val) (w : World) (x0 x2 x3 x4 x5 x6 x8 x9 x10 x12 x13 x14 x15 x16 x17 x18 x19 x20 x21 x22 x23 x24 x25 x26 x27 x28 x29 x30 x31 x32 x33 x34 x35 x36 x37 x38 x39 x40 x41 x42 x43 x44 x45 x46 x47 x48 x49 x50 x51 x52 x53 x54 x55 x56 x57 x58 x59 x60 x61 x62 x63 x64 x65 x66 x67 x68 x69 x70 x71 x72 x73 x74 x75 x76 x77 x78 x79 x80 x81 x82 x83 x84 x85 x86 x87 x88 x89 x90 x91 x92 x93 x94 x95 x96 x97 x98 x99 x100 x101 x102 x103 x104 x105 x106 x107 x108 x109 x110 x111 x112 x113 x114 x115 x116 x117 x118 x119 x120 x121 x122 x123 x124 x125 x126 x127 x128 x129 x130 x131 x132 x133 x134 x135 x136 x137 x138 x139 x140 x141 x142 x143 x144 x145 x146 x147 x148 x149 x150 x151 x152 x153 x154 x155 x156 x157 x158 x159 x160 x161 x162 x163 x164 x165 x166 x167 x168 x169 x170 x171 x172 x173 x174 x175 x176 x177 x178 x179 x180 x181 x182 x183 x184 x185 x186 x187 x188 x189 x190 x191 x192 x193 x194 x195 x196 x197 x198 x199 x200 x201 x202 x203 x204 x205 x206 x207 x208 x209 x210 x211 x212 x213 x214 x215 x216 x217 x218 x219 x220 x221 x222 x223 x224 x225 x226 x227 x228 x229 x230 x231 x232 x233 x234 x235 x236 x237 x238 x239 x240 x241 x242 x243 x244 x245 x246 x247 x248 x249 x250 x251 x252 x253 x254 x255 x256 x257 x258 x259 x260 x261 x262 x263 x264 : Value)
    (hI : InBox w b op A Bx C v) (hg : RegAt w g rs) (hbg : b ≠ g) (hK : rs.length = K) (hk2 : K ≤ 1000) (hA : A < K) (hB : Bx < K) :
    VmC39.wp Try.prog (fun e a' w' => e = .normal ∧ (∃ u189 u190 u191 u192 u193 u194 u195 u196 u197 u198 u199 u200 : Value, a' = ⟨#[x0, .slice ra rl rc, x2, x3, x4, x5, x6, .slice (some ⟨g, 0, none⟩) K K, x8, x9, x10, .pointer (some ⟨b, 0, none⟩), x12, x13, x14, x15, x16, x17, x18, x19, x20, x21, x22, x23, x24, x25, x26, x27, x28, x29, x30, x31, x32, x33, x34, x35, x36, x37, x38, x39, x40, x41, x42, x43, x44, x45, x46, x47, x48, x49, x50, x51, x52, x53, x54, x55, x56, x57, x58, x59, x60, x61, x62, x63, x64, x65, x66, x67, x68, x69, x70, x71, x72, x73, x74, x75, x76, x77, x78, x79, x80, x81, x82, x83, x84, x85, x86, x87, x88, x89, x90, x91, x92, x93, x94, x95, x96, x97, x98, x99, x100, x101, x102, x103, x104, x105, x106, x107, x108, x109, x110, x111, x112, x113, x114, x115, x116, x117, x118, x119, x120, x121, x122, x123, x124, x125, x126, x127, x128, x129, x130, x131, x132, x133, x134, x135, x136, x137, x138, x139, x140, x141, x142, x143, x144, x145, x146, x147, x148, x149, x150, x151, x152, x153, x154, x155, x156, x157, x158, x159, x160, x161, x162, x163, x164, x165, x166, x167, x168, x169, x170, x171, x172, x173, x174, x175, x176, x177, x178, x179, x180, x181, x182, x183, x184, x185, x186, x187, x188, u189, u190, u191, u192, u193, u194, u195, u196, u197, u198, u199, u200, x201, x202, x203, x204, x205, x206, x207, x208, x209, x210, x211, x212, x213, x214, x215, x216, x217, x218, x219, x220, x221, x222, x223, x224, x225, x226, x227, x228, x229, x230, x231, x232, x233, x234, x235, x236, x237, x238, x239, x240, x241, x242, x243, x244, x245, x246, x247, x248, x249, x250, x251, x252, x253, x254, x255, x256, x257, x258, x259, x260, x261, x262, x263, x264], []⟩) ∧ RegAt w' g (rs.set A ((rs.getD A noR).1, notI (rs.getD Bx noR).2)) ∧ Sto g w w') ⟨#[x0, .slice ra rl rc, x2, x3, x4, x5, x6, .slice (some ⟨g, 0, none⟩) K K, x8, x9, x10, .pointer (some ⟨b, 0, none⟩), x12, x13, x14, x15, x16, x17, x18, x19, x20, x21, x22, x23, x24, x25, x26, x27, x28, x29, x30, x31, x32, x33, x34, x35, x36, x37, x38, x39, x40, x41, x42, x43, x44, x45, x46, x47, x48, x49, x50, x51, x52, x53, x54, x55, x56, x57, x58, x59, x60, x61, x62, x63, x64, x65, x66, x67, x68, x69, x70, x71, x72, x73, x74, x75, x76, x77, x78, x79, x80, x81, x82, x83, x84, x85, x86, x87, x88, x89, x90, x91, x92, x93, x94, x95, x96, x97, x98, x99, x100, x101, x102, x103, x104, x105, x106, x107, x108, x109, x110, x111, x112, x113, x114, x115, x116, x117, x118, x119, x120, x121, x122, x123, x124, x125, x126, x127, x128, x129, x130, x131, x132, x133, x134, x135, x136, x137, x138, x139, x140, x141, x142, x143, x144, x145, x146, x147, x148, x149, x150, x151, x152, x153, x154, x155, x156, x157, x158, x159, x160, x161, x162, x163, x164, x165, x166, x167, x168, x169, x170, x171, x172, x173, x174, x175, x176, x177, x178, x179, x180, x181, x182, x183, x184, x185, x186, x187, x188, x189, x190, x191, x192, x193, x194, x195, x196, x197, x198, x199, x200, x201, x202, x203, x204, x205, x206, x207, x208, x209, x210, x211, x212, x213, x214, x215, x216, x217, x218, x219, x220, x221, x222, x223, x224, x225, x226, x227, x228, x229, x230, x231, x232, x233, x234, x235, x236, x237, x238, x239, x240, x241, x242, x243, x244, x245, x246, x247, x248, x249, x250, x251, x252, x253, x254, x255, x256, x257, x258, x259, x260, x261, x262, x263, x264], []⟩ w := by
  obtain ⟨i0, i1, i2, i3, i4, i5, i6⟩ := hI
  subst hK
  have HG := Lib.hid hg
  have HA := Lib.hid hA
  have hA0 : (0 : Int) ≤ (A : Int) := by omega
  have hA1 : (A : Int) < (rs.length : Int) := by omega
  have j0 := Fut.cell i0
  have j1 := Fut.cell i1
  have j2 := Fut.cell i2
  have j3 := Fut.cell i3
  obtain ⟨b0, b1, b2, b3⟩ := hg.cells hB
  have b0' := Fut.cell b0
  have b1' := Fut.cell b1
  have b2' := Fut.cell b2
  have b3' := Fut.cell b3
  have hBx0 : (0 : Int) ≤ (Bx : Int) := by omega
  have hBx1 : (Bx : Int) < (rs.length : Int) := by omega
  clear hg i0 i1 i2 i3 i4 i5 i6
  clear b0 b1 b2 b3 j0 hA hB j3
  conv => arg 2; whnf
  refine wp_region_fut_tail 12 (by kernel_rfl) (by kernel_rfl) ?_
  simp only [List.take_succ_cons, List.take_zero, List.drop_succ_cons, List.drop_zero]
  repeat (go_big_quiet_step ((go_at_call 81; exact calls_fut ((not_any _ _).mono (fun _ _ ⟨h1, h2⟩ => ⟨h1, h2 ▸ Below.refl _ _⟩)))))
  refine wpQuiet_nil ?_
  intro s
  have hb2 := s.bel
  generalize s.to = w2 at *
  clear s
  have hg2 := HG.out.below hb2
  obtain ⟨a0, a1, a2, a3⟩ := hg2.cells HA.out
  have fz := hg2.frozen
  have hlt := hg2.lt
  have HT := Lib.hid (hg2.truth HA.out (notI (rs.getD Bx noR).2))
  have HS := Lib.hid (Sto.of_below (g := g) hb2)
  clear hb2 hg2
  go_wp2
  first
    | exact ⟨HT.out, HS.out.set _ _⟩
    | exact ⟨rfl, ⟨_, _, _, _, _, _, _, _, _, _, _, _, rfl⟩, HT.out, HS.out.set _ _⟩
end Go.Proofs.Ytafhgilikcablaa
namespace Go.Proofs.Ytafhgilikcablaa
open Go.RowKit
set_option linter.unusedVariables false
set_option linter.unusedSimpArgs false
set_option maxRecDepth 100000
noncomputable def VmC37 : Code := ((Try.f37.body.bind (regOf 37)).getD .skip)
set_option maxHeartbeats 12800000 in
theorem vmr37_any (ra : Option Addr) (rl rc g K b : Nat) (rs : List Reg) (op : ByteArray) (A Bx C : Nat) (v : Val) (w : World) (x0 x2 x3 x4 x5 x6 x8 x9 x10 x12 x13 x14 x15 x16 x17 x18 x19 x20 x21 x22 x23 x24 x25 x26 x27 x28 x29 x30 x31 x32 x33 x34 x35 x36 x37 x38 x39 x40 x41 x42 x43 x44 x45 x46 x47 x48 x49 x50 x51 x52 x53 x54 x55 x56 x57 x58 x59 x60 x61 x62 x63 x64 x65 x66 x67 x68 x69 x70 x71 x72 x73 x74 x75 x76 x77 x78 x79 x80 x81 x82 x83 x84 x85 x86 x87 x88 x89 x90 x91 x92 x93 x94 x95 x96 x97 x98 x99 x100 x101 x102 x103 x104 x105 x106 x107 x108 x109 x110 x111 x112 x113 x114 x115 x116 x117 x118 x119 x120 x121 x122 x123 x124 x125 x126 x127 x128 x129 x130 x131 x132 x133 x134 x135 x136 x137 x138 x139 x140 x141 x142 x143 x144 x145 x146 x147 x148 x149 x150 x151 x152 x153 x154 x155 x156 x157 x158 x159 x160 x161 x162 x163 x164 x165 x166 x167 x168 x169 x170 x171 x172 x173 x174 x175 x176 x177 x178 x179 x180 x181 x182 x183 x184 x185 x186 x187 x188 x189 x190 x191 x192 x193 x194 x195 x196 x197 x198 x199 x200 x201 x202 x203 x204 x205 x206 x207 x208 x209 x210 x211 x212 x213 x214 x215 x216 x217 x218 x219 x220 x221 x222 x223 x224 x225 x226 x227 x228 x229 x230 x231 x232 x233 x234 x235 x236 x237 x238 x239 x240 x241 x242 x243 x244 x245 x246 x247 x248 x249 x250 x251 x252 x253 x254 x255 x256 x257 x258 x259 x260 x261 x262 x263 x264 : Value)
    (hI : InBox w b op A Bx C v) (hg : RegAt w g rs) (hbg : b ≠ g) (hK : rs.length = K) (hk2 : K ≤ 1000) (hA : A < K) (hB : Bx < K) :
    VmC37.wp Try.prog (fun e a' w' => e = .normal ∧ (∃ u173 u174 u175 u176 u177 u178 u179 u180 u181 u182 u183 u184 u185 u186 : Value, a' = ⟨#[x0, .slice ra rl rc, x2, x3, x4, x5, x6, .slice (some ⟨g, 0, none⟩) K K, x8, x9, x10, .pointer (some ⟨b, 0, none⟩), x12, x13, x14, x15, x16, x17, x18, x19, x20, x21, x22, x23, x24, x25, x26, x27, x28, x29, x30, x31, x32, x33, x34, x35, x36, x37, x38, x39, x40, x41, x42, x43, x44, x45, x46, x47, x48, x49, x50, x51, x52, x53, x54, x55, x56, x57, x58, x59, x60, x61, x62, x63, x64, x65, x66, x67, x68, x69, x70, x71, x72, x73, x74, x75, x76, x77, x78, x79, x80, x81, x82, x83, x84, x85, x86, x87, x88, x89, x90, x91, x92, x93, x94, x95, x96, x97, x98, x99, x100, x101, x102, x103, x104, x105, x106, x107, x108, x109, x110, x111, x112, x113, x114, x115, x116, x117, x118, x119, x120, x121, x122, x123, x124, x125, x126, x127, x128, x129, x130, x131, x132, x133, x134, x135, x136, x137, x138, x139, x140, x141, x142, x143, x144, x145, x146, x147, x148, x149, x150, x151, x152, x153, x154, x155, x156, x157, x158, x159, x160, x161, x162, x163, x164, x165, x166, x167, x168, x169, x170, x171, x172, u173, u174, u175, u176, u177, u178, u179, u180, u181, u182, u183, u184, u185, u186, x187, x188, x189, x190, x191, x192, x193, x194, x195, x196, x197, x198, x199, x200, x201, x202, x203, x204, x205, x206, x207, x208, x209, x210, x211, x212, x213, x214, x215, x216, x217, x218, x219, x220, x221, x222, x223, x224, x225, x226, x227, x228, x229, x230, x231, x232, x233, x234, x235, x236, x237, x238, x239, x240, x241, x242, x243, x244, x245, x246, x247, x248, x249, x250, x251, x252, x253, x254, x255, x256, x257, x258, x259, x260, x261, x262, x263, x264], []⟩) ∧ RegAt w' g (rs.set A ((rs.getD A noR).1, truthI ((rs.getD Bx noR).1.1 != 0))) ∧ Sto g w w') ⟨#[x0, .slice ra rl rc, x2, x3, x4, x5, x6, .slice (some ⟨g, 0, none⟩) K K, x8, x9, x10, .pointer (some ⟨b, 0, none⟩), x12, x13, x14, x15, x16, x17, x18, x19, x20, x21, x22, x23, x24, x25, x26, x27, x28, x29, x30, x31, x32, x33, x34, x35, x36, x37, x38, x39, x40, x41, x42, x43, x44, x45, x46, x47, x48, x49, x50, x51, x52, x53, x54, x55, x56, x57, x58, x59, x60, x61, x62, x63, x64, x65, x66, x67, x68, x69, x70, x71, x72, x73, x74, x75, x76, x77, x78, x79, x80, x81, x82, x83, x84, x85, x86, x87, x88, x89, x90, x91, x92, x93, x94, x95, x96, x97, x98, x99, x100, x101, x102, x103, x104, x105, x106, x107, x108, x109, x110, x111, x112, x113, x114, x115, x116, x117, x118, x119, x120, x121, x122, x123, x124, x125, x126, x127, x128, x129, x130, x131, x132, x133, x134, x135, x136, x137, x138, x139, x140, x141, x142, x143, x144, x145, x146, x147, x148, x149, x150, x151, x152, x153, x154, x155, x156, x157, x158, x159, x160, x161, x162, x163, x164, x165, x166, x167, x168, x169, x170, x171, x172, x173, x174, x175, x176, x177, x178, x179, x180, x181, x182, x183, x184, x185, x186, x187, x188, x189, x190, x191, x192, x193, x194, x195, x196, x197, x198, x199, x200, x201, x202, x203, x204, x205, x206, x207, x208, x209, x210, x211, x212, x213, x214, x215, x216, x217, x218, x219, x220, x221, x222, x223, x224, x225, x226, x227, x228, x229, x230, x231, x232, x233, x234, x235, x236, x237, x238, x239, x240, x241, x242, x243, x244, x245, x246, x247, x248, x249, x250, x251, x252, x253, x254, x255, x256, x257, x258, x259, x260, x261, x262, x263, x264], []⟩ w := by
  obtain ⟨i0, i1, i2, i3, i4, i5, i6⟩ := hI
  subst hK
  have HG := Lib.hid hg
  have HA := Lib.hid hA
  have hA0 : (0 : Int) ≤ (A : Int) := by omega
  have hA1 : (A : Int) < (rs.length : Int) := by omega
  have j0 := Fut.cell i0
  have j1 := Fut.cell i1
  have j2 := Fut.cell i2
  have j3 := Fut.cell i3
  obtain ⟨b0, b1, b2, b3⟩ := hg.cells hB
  have b0' := Fut.cell b0
  have b1' := Fut.cell b1
  have b2' := Fut.cell b2
  have b3' := Fut.cell b3
  have hBx0 : (0 : Int) ≤ (Bx : Int) := by omega
  have hBx1 : (Bx : Int) < (rs.length : Int) := by omega
  clear hg i0 i1 i2 i3 i4 i5 i6
  clear b0 b1 b2 b3 j0 hA hB j3
  conv => arg 2; whnf
  refine wp_region_fut_tail 14 (by kernel_rfl) (by kernel_rfl) ?_
  simp only [List.take_succ_cons, List.take_zero, List.drop_succ_cons, List.drop_zero]
  repeat (go_big_quiet_step ((go_at_call 80; exact calls_fut ((vmtruth_any _ _).mono (fun _ _ ⟨h1, h2⟩ => ⟨h1, h2 ▸ Below.refl _ _⟩)))))
  refine wpQuiet_nil ?_
  intro s
  have hb2 := s.bel
  generalize s.to = w2 at *
  clear s
  have hg2 := HG.out.below hb2
  obtain ⟨a0, a1, a2, a3⟩ := hg2.cells HA.out
  have fz := hg2.frozen
  have hlt := hg2.lt
  have HT := Lib.hid (hg2.truth HA.out (truthI ((rs.getD Bx noR).1.1 != 0)))
  have HS := Lib.hid (Sto.of_below (g := g) hb2)
  clear hb2 hg2
  go_wp2
  first
    | exact ⟨HT.out, HS.out.set _ _⟩
    | exact ⟨rfl, ⟨_, _, _, _, _, _, _, _, _, _, _, _, _, _, rfl⟩, HT.out, HS.out.set _ _⟩
end Go.Proofs.Ytafhgilikcablaa
namespace Go.Proofs.Ytafhgilikcablaa
open Go.RowKit
set_option linter.unusedVariables false
set_option linter.unusedSimpArgs false
set_option maxRecDepth 100000
noncomputable def VmC35 : Code := ((Try.f37.body.bind (regOf 35)).getD .skip)
set_option maxHeartbeats 12800000 in
theorem vmr35_any (ra : Option Addr) (rl rc g K b : Nat) (rs : List Reg) (op : ByteArray) (A Bx C : Nat) (v : Val) (w : World) (x0 x2 x3 x4 x5 x6 x8 x9 x10 x12 x13 x14 x15 x16 x17 x18 x19 x20 x21 x22 x23 x24 x25 x26 x27 x28 x29 x30 x31 x32 x33 x34 x35 x36 x37 x38 x39 x40 x41 x42 x43 x44 x45 x46 x47 x48 x49 x50 x51 x52 x53 x54 x55 x56 x57 x58 x59 x60 x61 x62 x63 x64 x65 x66 x67 x68 x69 x70 x71 x72 x73 x74 x75 x76 x77 x78 x79 x80 x81 x82 x83 x84 x85 x86 x87 x88 x89 x90 x91 x92 x93 x94 x95 x96 x97 x98 x99 x100 x101 x102 x103 x104 x105 x106 x107 x108 x109 x110 x111 x112 x113 x114 x115 x116 x117 x118 x119 x120 x121 x122 x123 x124 x125 x126 x127 x128 x129 x130 x131 x132 x133 x134 x135 x136 x137 x138 x139 x140 x141 x142 x143 x144 x145 x146 x147 x148 x149 x150 x151 x152 x153 x154 x155 x156 x157 x158 x159 x160 x161 x162 x163 x164 x165 x166 x167 x168 x169 x170 x171 x172 x173 x174 x175 x176 x177 x178 x179 x180 x181 x182 x183 x184 x185 x186 x187 x188 x189 x190 x191 x192 x193 x194 x195 x196 x197 x198 x199 x200 x201 x202 x203 x204 x205 x206 x207 x208 x209 x210 x211 x212 x213 x214 x215 x216 x217 x218 x219 x220 x221 x222 x223 x224 x225 x226 x227 x228 x229 x230 x231 x232 x233 x234 x235 x236 x237 x238 x239 x240 x241 x242 x243 x244 x245 x246 x247 x248 x249 x250 x251 x252 x253 x254 x255 x256 x257 x258 x259 x260 x261 x262 x263 x264 : Value)
    (hI : InBox w b op A Bx C v) (hg : RegAt w g rs) (hbg : b ≠ g) (hK : rs.length = K) (hk2 : K ≤ 1000) (hA : A < K) (hB : Bx < K) :
    VmC35.wp Try.prog (fun e a' w' => e = .normal ∧ (∃ u157 u158 u159 u160 u161 u162 u163 u164 u165 u166 u167 u168 u169 u170 : Value, a' = ⟨#[x0, .slice ra rl rc, x2, x3, x4, x5, x6, .slice (some ⟨g, 0, none⟩) K K, x8, x9, x10, .pointer (some ⟨b, 0, none⟩), x12, x13, x14, x15, x16, x17, x18, x19, x20, x21, x22, x23, x24, x25, x26, x27, x28, x29, x30, x31, x32, x33, x34, x35, x36, x37, x38, x39, x40, x41, x42, x43, x44, x45, x46, x47, x48, x49, x50, x51, x52, x53, x54, x55, x56, x57, x58, x59, x60, x61, x62, x63, x64, x65, x66, x67, x68, x69, x70, x71, x72, x73, x74, x75, x76, x77, x78, x79, x80, x81, x82, x83, x84, x85, x86, x87, x88, x89, x90, x91, x92, x93, x94, x95, x96, x97, x98, x99, x100, x101, x102, x103, x104, x105, x106, x107, x108, x109, x110, x111, x112, x113, x114, x115, x116, x117, x118, x119, x120, x121, x122, x123, x124, x125, x126, x127, x128, x129, x130, x131, x132, x133, x134, x135, x136, x137, x138, x139, x140, x141, x142, x143, x144, x145, x146, x147, x148, x149, x150, x151, x152, x153, x154, x155, x156, u157, u158, u159, u160, u161, u162, u163, u164, u165, u166, u167, u168, u169, u170, x171, x172, x173, x174, x175, x176, x177, x178, x179, x180, x181, x182, x183, x184, x185, x186, x187, x188, x189, x190, x191, x192, x193, x194, x195, x196, x197, x198, x199, x200, x201, x202, x203, x204, x205, x206, x207, x208, x209, x210, x211, x212, x213, x214, x215, x216, x217, x218, x219, x220, x221, x222, x223, x224, x225, x226, x227, x228, x229, x230, x231, x232, x233, x234, x235, x236, x237, x238, x239, x240, x241, x242, x243, x244, x245, x246, x247, x248, x249, x250, x251, x252, x253, x254, x255, x256, x257, x258, x259, x260, x261, x262, x263, x264], []⟩) ∧ RegAt w' g (rs.set A ((rs.getD A noR).1, truthI ((rs.getD Bx noR).1.1 == 0))) ∧ Sto g w w') ⟨#[x0, .slice ra rl rc, x2, x3, x4, x5, x6, .slice (some ⟨g, 0, none⟩) K K, x8, x9, x10, .pointer (some ⟨b, 0, none⟩), x12, x13, x14, x15, x16, x17, x18, x19, x20, x21, x22, x23, x24, x25, x26, x27, x28, x29, x30, x31, x32, x33, x34, x35, x36, x37, x38, x39, x40, x41, x42, x43, x44, x45, x46, x47, x48, x49, x50, x51, x52, x53, x54, x55, x56, x57, x58, x59, x60, x61, x62, x63, x64, x65, x66, x67, x68, x69, x70, x71, x72, x73, x74, x75, x76, x77, x78, x79, x80, x81, x82, x83, x84, x85, x86, x87, x88, x89, x90, x91, x92, x93, x94, x95, x96, x97, x98, x99, x100, x101, x102, x103, x104, x105, x106, x107, x108, x109, x110, x111, x112, x113, x114, x115, x116, x117, x118, x119, x120, x121, x122, x123, x124, x125, x126, x127, x128, x129, x130, x131, x132, x133, x134, x135, x136, x137, x138, x139, x140, x141, x142, x143, x144, x145, x146, x147, x148, x149, x150, x151, x152, x153, x154, x155, x156, x157, x158, x159, x160, x161, x162, x163, x164, x165, x166, x167, x168, x169, x170, x171, x172, x173, x174, x175, x176, x177, x178, x179, x180, x181, x182, x183, x184, x185, x186, x187, x188, x189, x190, x191, x192, x193, x194, x195, x196, x197, x198, x199, x200, x201, x202, x203, x204, x205, x206, x207, x208, x209, x210, x211, x212, x213, x214, x215, x216, x217, x218, x219, x220, x221, x222, x223, x224, x225, x226, x227, x228, x229, x230, x231, x232, x233, x234, x235, x236, x237, x238, x239, x240, x241, x242, x243, x244, x245, x246, x247, x248, x249, x250, x251, x252, x253, x254, x255, x256, x257, x258, x259, x260, x261, x262, x263, x264], []⟩ w := by
  obtain ⟨i0, i1, i2, i3, i4, i5, i6⟩ := hI
  subst hK
  have HG := Lib.hid hg
  have HA := Lib.hid hA
  have hA0 : (0 : Int) ≤ (A : Int) := by omega
  have hA1 : (A : Int) < (rs.length : Int) := by omega
  have j0 := Fut.cell i0
  have j1 := Fut.cell i1
  have j2 := Fut.cell i2
  have j3 := Fut.cell i3
  obtain ⟨b0, b1, b2, b3⟩ := hg.cells hB
  have b0' := Fut.cell b0
  have b1' := Fut.cell b1
  have b2' := Fut.cell b2
  have b3' := Fut.cell b3
  have hBx0 : (0 : Int) ≤ (Bx : Int) := by omega
  have hBx1 : (Bx : Int) < (rs.length : Int) := by omega
  clear hg i0 i1 i2 i3 i4 i5 i6
  clear b0 b1 b2 b3 j0 hA hB j3
  conv => arg 2; whnf
  refine wp_region_fut_tail 14 (by kernel_rfl) (by kernel_rfl) ?_
  simp only [List.take_succ_cons, List.take_zero, List.drop_succ_cons, List.drop_zero]
  repeat (go_big_quiet_step ((go_at_call 80; exact calls_fut ((vmtruth_any _ _).mono (fun _ _ ⟨h1, h2⟩ => ⟨h1, h2 ▸ Below.refl _ _⟩)))))
  refine wpQuiet_nil ?_
  intro s
  have hb2 := s.bel
  generalize s.to = w2 at *
  clear s
  have hg2 := HG.out.below hb2
  obtain ⟨a0, a1, a2, a3⟩ := hg2.cells HA.out
  have fz := hg2.frozen
  have hlt := hg2.lt
  have HT := Lib.hid (hg2.truth HA.out (truthI ((rs.getD Bx noR).1.1 == 0)))
  have HS := Lib.hid (Sto.of_below (g := g) hb2)
  clear hb2 hg2
  go_wp2
  first
    | exact ⟨HT.out, HS.out.set _ _⟩
    | exact ⟨rfl, ⟨_, _, _, _, _, _, _, _, _, _, _, _, _, _, rfl⟩, HT.out, HS.out.set _ _⟩
end Go.Proofs.Ytafhgilikcablaa
namespace Go.Proofs.Ytafhgilikcablaa
open Go.RowKit
set_option linter.unusedVariables false
set_option linter.unusedSimpArgs false
set_option maxRecDepth 100000
noncomputable def VmC33 : Code := ((Try.f37.body.bind (regOf 33)).getD .skip)
set_option maxHeartbeats 12800000 in
theorem vmr33_any (ra : Option Addr) (rl rc g K b : Nat) (rs : List Reg) (op : ByteArray) (A Bx C : Nat) (v : Val) (w : World) (x0 x2 x3 x4 x5 x6 x8 x9 x10 x12 x13 x14 x15 x16 x17 x18 x19 x20 x21 x22 x23 x24 x25 x26 x27 x28 x29 x30 x31 x32 x33 x34 x35 x36 x37 x38 x39 x40 x41 x42 x43 x44 x45 x46 x47 x48 x49 x50 x51 x52 x53 x54 x55 x56 x57 x58 x59 x60 x61 x62 x63 x64 x65 x66 x67 x68 x69 x70 x71 x72 x73 x74 x75 x76 x77 x78 x79 x80 x81 x82 x83 x84 x85 x86 x87 x88 x89 x90 x91 x92 x93 x94 x95 x96 x97 x98 x99 x100 x101 x102 x103 x104 x105 x106 x107 x108 x109 x110 x111 x112 x113 x114 x115 x116 x117 x118 x119 x120 x121 x122 x123 x124 x125 x126 x127 x128 x129 x130 x131 x132 x133 x134 x135 x136 x137 x138 x139 x140 x141 x142 x143 x144 x145 x146 x147 x148 x149 x150 x151 x152 x153 x154 x155 x156 x157 x158 x159 x160 x161 x162 x163 x164 x165 x166 x167 x168 x169 x170 x171 x172 x173 x174 x175 x176 x177 x178 x179 x180 x181 x182 x183 x184 x185 x186 x187 x188 x189 x190 x191 x192 x193 x194 x195 x196 x197 x198 x199 x200 x201 x202 x203 x204 x205 x206 x207 x208 x209 x210 x211 x212 x213 x214 x215 x216 x217 x218 x219 x220 x221 x222 x223 x224 x225 x226 x227 x228 x229 x230 x231 x232 x233 x234 x235 x236 x237 x238 x239 x240 x241 x242 x243 x244 x245 x246 x247 x248 x249 x250 x251 x252 x253 x254 x255 x256 x257 x258 x259 x260 x261 x262 x263 x264 : Value)
    (hI : InBox w b op A Bx C v) (hg : RegAt w g rs) (hbg : b ≠ g) (hK : rs.length = K) (hk2 : K ≤ 1000) (hA : A < K) (hB : Bx < K) (hC : C < K) :
    VmC33.wp Try.prog (fun e a' w' => e = .normal ∧ (∃ u132 u133 u134 u135 u136 u137 u138 u139 u140 u141 u142 u143 u144 u145 u146 u147 u148 u149 u150 u151 u152 u153 u154 : Value, a' = ⟨#[x0, .slice ra rl rc, x2, x3, x4, x5, x6, .slice (some ⟨g, 0, none⟩) K K, x8, x9, .int .i64 (cmpF op (rs.getD Bx noR).1.1 (rs.getD Bx noR).1.2.1 (rs.getD Bx noR).1.2.2 (rs.getD C noR).1.1 (rs.getD C noR).1.2.1 (rs.getD C noR).1.2.2).2, .pointer (some ⟨b, 0, none⟩), x12, x13, x14, x15, x16, x17, x18, x19, x20, x21, x22, x23, x24, x25, x26, x27, x28, x29, x30, x31, x32, x33, x34, x35, x36, x37, x38, x39, x40, x41, x42, x43, x44, x45, x46, x47, x48, x49, x50, x51, x52, x53, x54, x55, x56, x57, x58, x59, x60, x61, x62, x63, x64, x65, x66, x67, x68, x69, x70, x71, x72, x73, x74, x75, x76, x77, x78, x79, x80, x81, x82, x83, x84, x85, x86, x87, x88, x89, x90, x91, x92, x93, x94, x95, x96, x97, x98, x99, x100, x101, x102, x103, x104, x105, x106, x107, x108, x109, x110, x111, x112, x113, x114, x115, x116, x117, x118, x119, x120, x121, x122, x123, x124, x125, x126, x127, x128, x129, x130, x131, u132, u133, u134, u135, u136, u137, u138, u139, u140, u141, u142, u143, u144, u145, u146, u147, u148, u149, u150, u151, u152, u153, u154, x155, x156, x157, x158, x159, x160, x161, x162, x163, x164, x165, x166, x167, x168, x169, x170, x171, x172, x173, x174, x175, x176, x177, x178, x179, x180, x181, x182, x183, x184, x185, x186, x187, x188, x189, x190, x191, x192, x193, x194, x195, x196, x197, x198, x199, x200, x201, x202, x203, x204, x205, x206, x207, x208, x209, x210, x211, x212, x213, x214, x215, x216, x217, x218, x219, x220, x221, x222, x223, x224, x225, x226, x227, x228, x229, x230, x231, x232, x233, x234, x235, x236, x237, x238, x239, x240, x241, x242, x243, x244, x245, x246, x247, x248, x249, x250, x251, x252, x253, x254, x255, x256, x257, x258, x259, x260, x261, x262, x263, x264], []⟩) ∧ RegAt w' g (rs.set A ((rs.getD A noR).1, (cmpF op (rs.getD Bx noR).1.1 (rs.getD Bx noR).1.2.1 (rs.getD Bx noR).1.2.2 (rs.getD C noR).1.1 (rs.getD C noR).1.2.1 (rs.getD C noR).1.2.2).1)) ∧ Sto g w w') ⟨#[x0, .slice ra rl rc, x2, x3, x4, x5, x6, .slice (some ⟨g, 0, none⟩) K K, x8, x9, x10, .pointer (some ⟨b, 0, none⟩), x12, x13, x14, x15, x16, x17, x18, x19, x20, x21, x22, x23, x24, x25, x26, x27, x28, x29, x30, x31, x32, x33, x34, x35, x36, x37, x38, x39, x40, x41, x42, x43, x44, x45, x46, x47, x48, x49, x50, x51, x52, x53, x54, x55, x56, x57, x58, x59, x60, x61, x62, x63, x64, x65, x66, x67, x68, x69, x70, x71, x72, x73, x74, x75, x76, x77, x78, x79, x80, x81, x82, x83, x84, x85, x86, x87, x88, x89, x90, x91, x92, x93, x94, x95, x96, x97, x98, x99, x100, x101, x102, x103, x104, x105, x106, x107, x108, x109, x110, x111, x112, x113, x114, x115, x116, x117, x118, x119, x120, x121, x122, x123, x124, x125, x126, x127, x128, x129, x130, x131, x132, x133, x134, x135, x136, x137, x138, x139, x140, x141, x142, x143, x144, x145, x146, x147, x148, x149, x150, x151, x152, x153, x154, x155, x156, x157, x158, x159, x160, x161, x162, x163, x164, x165, x166, x167, x168, x169, x170, x171, x172, x173, x174, x175, x176, x177, x178, x179, x180, x181, x182, x183, x184, x185, x186, x187, x188, x189, x190, x191, x192, x193, x194, x195, x196, x197, x198, x199, x200, x201, x202, x203, x204, x205, x206, x207, x208, x209, x210, x211, x212, x213, x214, x215, x216, x217, x218, x219, x220, x221, x222, x223, x224, x225, x226, x227, x228, x229, x230, x231, x232, x233, x234, x235, x236, x237, x238, x239, x240, x241, x242, x243, x244, x245, x246, x247, x248, x249, x250, x251, x252, x253, x254, x255, x256, x257, x258, x259, x260, x261, x262, x263, x264], []⟩ w := by
  obtain ⟨i0, i1, i2, i3, i4, i5, i6⟩ := hI
  subst hK
  have HG := Lib.hid hg
  have HA := Lib.hid hA
  have hA0 : (0 : Int) ≤ (A : Int) := by omega
  have hA1 : (A : Int) < (rs.length : Int) := by omega
  have j0 := Fut.cell i0
  have j1 := Fut.cell i1
  have j2 := Fut.cell i2
  have j3 := Fut.cell i3
  obtain ⟨b0, b1, b2, b3⟩ := hg.cells hB
  have b0' := Fut.cell b0
  have b1' := Fut.cell b1
  have b2' := Fut.cell b2
  have b3' := Fut.cell b3
  have hBx0 : (0 : Int) ≤ (Bx : Int) := by omega
  have hBx1 : (Bx : Int) < (rs.length : Int) := by omega
  obtain ⟨c0, c1, c2, c3⟩ := hg.cells hC
  have c0' := Fut.cell c0
  have c1' := Fut.cell c1
  have c2' := Fut.cell c2
  have c3' := Fut.cell c3
  have hC0 : (0 : Int) ≤ (C : Int) := by omega
  have hC1 : (C : Int) < (rs.length : Int) := by omega
  have HK := Lib.hid (show ∀ (s : Fut w), Calls Try.prog 79 #[.string op, .agg #[.int .i64 (rs.getD Bx noR).1.1, .int .i64 (rs.getD Bx noR).1.2.1, .string (rs.getD Bx noR).1.2.2], .agg #[.int .i64 (rs.getD C noR).1.1, .int .i64 (rs.getD C noR).1.2.1, .string (rs.getD C noR).1.2.2]] s.to fun e w' => e = .returned (.tuple #[.int .i64 (cmpF op (rs.getD Bx noR).1.1 (rs.getD Bx noR).1.2.1 (rs.getD Bx noR).1.2.2 (rs.getD C noR).1.1 (rs.getD C noR).1.2.1 (rs.getD C noR).1.2.2).1, .int .i64 (cmpF op (rs.getD Bx noR).1.1 (rs.getD Bx noR).1.2.1 (rs.getD Bx noR).1.2.2 (rs.getD C noR).1.1 (rs.getD C noR).1.2.1 (rs.getD C noR).1.2.2).2]) ∧ Below s.to.heap.size s.to w' from fun s => compare_any _ _ _ _ _ _ _ _ _ rfl _)
  generalize cmpF op (rs.getD Bx noR).1.1 (rs.getD Bx noR).1.2.1 (rs.getD Bx noR).1.2.2 (rs.getD C noR).1.1 (rs.getD C noR).1.2.1 (rs.getD C noR).1.2.2 = y at *
  clear hg i0 i1 i2 i3 i4 i5 i6
  clear b0 b1 b2 b3 hA hB b3' c0 c1 c2 c3 hC c3'
  conv => arg 2; whnf
  refine wp_region_fut_float 23 [20] (by kernel_rfl) (by kernel_rfl) ?_
  simp only [List.take_succ_cons, List.take_zero, List.drop_succ_cons, List.drop_zero]
  repeat (go_big_quiet_step ((go_at_call 79; exact calls_fut (HK.out _))))
  refine wpQuiet_nil ?_
  intro s
  have hb2 := s.bel
  generalize s.to = w2 at *
  clear s
  have hg2 := HG.out.below hb2
  obtain ⟨a0, a1, a2, a3⟩ := hg2.cells HA.out
  have fz := hg2.frozen
  have hlt := hg2.lt
  have HT := Lib.hid (hg2.truth HA.out y.1)
  have HS := Lib.hid (Sto.of_below (g := g) hb2)
  clear hb2 hg2
  go_wp2
  refine NoPanic.normal ?_
  first
    | exact ⟨HT.out, HS.out.set _ _⟩
    | exact ⟨rfl, ⟨_, _, _, _, _, _, _, _, _, _, _, _, _, _, _, _, _, _, _, _, _, _, _, rfl⟩, HT.out, HS.out.set _ _⟩
end Go.Proofs.Ytafhgilikcablaa
namespace Go.Proofs.Ytafhgilikcablaa
open Go.RowKit
set_option linter.unusedVariables false
set_option linter.unusedSimpArgs false
set_option maxRecDepth 100000
noncomputable def VmC26 : Code := ((Try.f37.body.bind (regOf 26)).getD .skip)
set_option maxHeartbeats 12800000 in
theorem vmr26_any (ra : Option Addr) (rl rc g K b : Nat) (rs : List Reg) (op : ByteArray) (A Bx C : Nat) (v : Val) (w : World) (x0 x2 x3 x4 x5 x6 x8 x9 x10 x12 x13 x14 x15 x16 x17 x18 x19 x20 x21 x22 x23 x24 x25 x26 x27 x28 x29 x30 x31 x32 x33 x34 x35 x36 x37 x38 x39 x40 x41 x42 x43 x44 x45 x46 x47 x48 x49 x50 x51 x52 x53 x54 x55 x56 x57 x58 x59 x60 x61 x62 x63 x64 x65 x66 x67 x68 x69 x70 x71 x72 x73 x74 x75 x76 x77 x78 x79 x80 x81 x82 x83 x84 x85 x86 x87 x88 x89 x90 x91 x92 x93 x94 x95 x96 x97 x98 x99 x100 x101 x102 x103 x104 x105 x106 x107 x108 x109 x110 x111 x112 x113 x114 x115 x116 x117 x118 x119 x120 x121 x122 x123 x124 x125 x126 x127 x128 x129 x130 x131 x132 x133 x134 x135 x136 x137 x138 x139 x140 x141 x142 x143 x144 x145 x146 x147 x148 x149 x150 x151 x152 x153 x154 x155 x156 x157 x158 x159 x160 x161 x162 x163 x164 x165 x166 x167 x168 x169 x170 x171 x172 x173 x174 x175 x176 x177 x178 x179 x180 x181 x182 x183 x184 x185 x186 x187 x188 x189 x190 x191 x192 x193 x194 x195 x196 x197 x198 x199 x200 x201 x202 x203 x204 x205 x206 x207 x208 x209 x210 x211 x212 x213 x214 x215 x216 x217 x218 x219 x220 x221 x222 x223 x224 x225 x226 x227 x228 x229 x230 x231 x232 x233 x234 x235 x236 x237 x238 x239 x240 x241 x242 x243 x244 x245 x246 x247 x248 x249 x250 x251 x252 x253 x254 x255 x256 x257 x258 x259 x260 x261 x262 x263 x264 : Value)
    (hI : InBox w b op A Bx C v) (hg : RegAt w g rs) (hbg : b ≠ g) (hK : rs.length = K) (hk2 : K ≤ 1000) (hA : A < K) (hB : Bx < K) (hC : C < K) (hBn : InR (rs.getD Bx noR).1.2.1) (hCn : InR (rs.getD C noR).1.2.1) :
    VmC26.wp Try.prog (fun e a' w' => e = .normal ∧ (∃ u102 u103 u104 u105 u106 u107 u108 u109 u110 u111 u112 u113 u114 u115 u116 u117 u118 u119 u120 u121 u122 u123 u124 : Value, a' = ⟨#[x0, .slice ra rl rc, x2, x3, x4, x5, x6, .slice (some ⟨g, 0, none⟩) K K, x8, x9, .int .i64 (recF op (rs.getD Bx noR).1.1 (rs.getD Bx noR).1.2.1 (rs.getD Bx noR).1.2.2 (rs.getD C noR).1.1 (rs.getD C noR).1.2.1 (rs.getD C noR).1.2.2).2.2, .pointer (some ⟨b, 0, none⟩), x12, x13, x14, x15, x16, x17, x18, x19, x20, x21, x22, x23, x24, x25, x26, x27, x28, x29, x30, x31, x32, x33, x34, x35, x36, x37, x38, x39, x40, x41, x42, x43, x44, x45, x46, x47, x48, x49, x50, x51, x52, x53, x54, x55, x56, x57, x58, x59, x60, x61, x62, x63, x64, x65, x66, x67, x68, x69, x70, x71, x72, x73, x74, x75, x76, x77, x78, x79, x80, x81, x82, x83, x84, x85, x86, x87, x88, x89, x90, x91, x92, x93, x94, x95, x96, x97, x98, x99, x100, x101, u102, u103, u104, u105, u106, u107, u108, u109, u110, u111, u112, u113, u114, u115, u116, u117, u118, u119, u120, u121, u122, u123, u124, x125, x126, x127, x128, x129, x130, x131, x132, x133, x134, x135, x136, x137, x138, x139, x140, x141, x142, x143, x144, x145, x146, x147, x148, x149, x150, x151, x152, x153, x154, x155, x156, x157, x158, x159, x160, x161, x162, x163, x164, x165, x166, x167, x168, x169, x170, x171, x172, x173, x174, x175, x176, x177, x178, x179, x180, x181, x182, x183, x184, x185, x186, x187, x188, x189, x190, x191, x192, x193, x194, x195, x196, x197, x198, x199, x200, x201, x202, x203, x204, x205, x206, x207, x208, x209, x210, x211, x212, x213, x214, x215, x216, x217, x218, x219, x220, x221, x222, x223, x224, x225, x226, x227, x228, x229, x230, x231, x232, x233, x234, x235, x236, x237, x238, x239, x240, x241, x242, x243, x244, x245, x246, x247, x248, x249, x250, x251, x252, x253, x254, x255, x256, x257, x258, x259, x260, x261, x262, x263, x264], []⟩) ∧ RegAt w' g (rs.set A (((recF op (rs.getD Bx noR).1.1 (rs.getD Bx noR).1.2.1 (rs.getD Bx noR).1.2.2 (rs.getD C noR).1.1 (rs.getD C noR).1.2.1 (rs.getD C noR).1.2.2).1, (recF op (rs.getD Bx noR).1.1 (rs.getD Bx noR).1.2.1 (rs.getD Bx noR).1.2.2 (rs.getD C noR).1.1 (rs.getD C noR).1.2.1 (rs.getD C noR).1.2.2).2.1, ⟨#[]⟩), (rs.getD A noR).2)) ∧ Sto g w w') ⟨#[x0, .slice ra rl rc, x2, x3, x4, x5, x6, .slice (some ⟨g, 0, none⟩) K K, x8, x9, x10, .pointer (some ⟨b, 0, none⟩), x12, x13, x14, x15, x16, x17, x18, x19, x20, x21, x22, x23, x24, x25, x26, x27, x28, x29, x30, x31, x32, x33, x34, x35, x36, x37, x38, x39, x40, x41, x42, x43, x44, x45, x46, x47, x48, x49, x50, x51, x52, x53, x54, x55, x56, x57, x58, x59, x60, x61, x62, x63, x64, x65, x66, x67, x68, x69, x70, x71, x72, x73, x74, x75, x76, x77, x78, x79, x80, x81, x82, x83, x84, x85, x86, x87, x88, x89, x90, x91, x92, x93, x94, x95, x96, x97, x98, x99, x100, x101, x102, x103, x104, x105, x106, x107, x108, x109, x110, x111, x112, x113, x114, x115, x116, x117, x118, x119, x120, x121, x122, x123, x124, x125, x126, x127, x128, x129, x130, x131, x132, x133, x134, x135, x136, x137, x138, x139, x140, x141, x142, x143, x144, x145, x146, x147, x148, x149, x150, x151, x152, x153, x154, x155, x156, x157, x158, x159, x160, x161, x162, x163, x164, x165, x166, x167, x168, x169, x170, x171, x172, x173, x174, x175, x176, x177, x178, x179, x180, x181, x182, x183, x184, x185, x186, x187, x188, x189, x190, x191, x192, x193, x194, x195, x196, x197, x198, x199, x200, x201, x202, x203, x204, x205, x206, x207, x208, x209, x210, x211, x212, x213, x214, x215, x216, x217, x218, x219, x220, x221, x222, x223, x224, x225, x226, x227, x228, x229, x230, x231, x232, x233, x234, x235, x236, x237, x238, x239, x240, x241, x242, x243, x244, x245, x246, x247, x248, x249, x250, x251, x252, x253, x254, x255, x256, x257, x258, x259, x260, x261, x262, x263, x264], []⟩ w := by
  obtain ⟨i0, i1, i2, i3, i4, i5, i6⟩ := hI
  subst hK
  have HG := Lib.hid hg
  have HA := Lib.hid hA
  have hA0 : (0 : Int) ≤ (A : Int) := by omega
  have hA1 : (A : Int) < (rs.length : Int) := by omega
  have j0 := Fut.cell i0
  have j1 := Fut.cell i1
  have j2 := Fut.cell i2
  have j3 := Fut.cell i3
  obtain ⟨b0, b1, b2, b3⟩ := hg.cells hB
  have b0' := Fut.cell b0
  have b1' := Fut.cell b1
  have b2' := Fut.cell b2
  have b3' := Fut.cell b3
  have hBx0 : (0 : Int) ≤ (Bx : Int) := by omega
  have hBx1 : (Bx : Int) < (rs.length : Int) := by omega
  obtain ⟨c0, c1, c2, c3⟩ := hg.cells hC
  have c0' := Fut.cell c0
  have c1' := Fut.cell c1
  have c2' := Fut.cell c2
  have c3' := Fut.cell c3
  have hC0 : (0 : Int) ≤ (C : Int) := by omega
  have hC1 : (C : Int) < (rs.length : Int) := by omega
  have HK := Lib.hid (show ∀ (s : Fut w), Calls Try.prog 78 #[.string op, .agg #[.int .i64 (rs.getD Bx noR).1.1, .int .i64 (rs.getD Bx noR).1.2.1, .string (rs.getD Bx noR).1.2.2], .agg #[.int .i64 (rs.getD C noR).1.1, .int .i64 (rs.getD C noR).1.2.1, .string (rs.getD C noR).1.2.2]] s.to fun e w' => e = recE (recF op (rs.getD Bx noR).1.1 (rs.getD Bx noR).1.2.1 (rs.getD Bx noR).1.2.2 (rs.getD C noR).1.1 (rs.getD C noR).1.2.1 (rs.getD C noR).1.2.2).1 (recF op (rs.getD Bx noR).1.1 (rs.getD Bx noR).1.2.1 (rs.getD Bx noR).1.2.2 (rs.getD C noR).1.1 (rs.getD C noR).1.2.1 (rs.getD C noR).1.2.2).2.1 (recF op (rs.getD Bx noR).1.1 (rs.getD Bx noR).1.2.1 (rs.getD Bx noR).1.2.2 (rs.getD C noR).1.1 (rs.getD C noR).1.2.1 (rs.getD C noR).1.2.2).2.2 ∧ Below s.to.heap.size s.to w' from fun s => rec24_any _ _ _ _ _ _ _ (Lib.hid hBn) (Lib.hid hCn) _ _ _ rfl _)
  unfold recE at HK
  generalize recF op (rs.getD Bx noR).1.1 (rs.getD Bx noR).1.2.1 (rs.getD Bx noR).1.2.2 (rs.getD C noR).1.1 (rs.getD C noR).1.2.1 (rs.getD C noR).1.2.2 = y at *
  clear hg i0 i1 i2 i3 i4 i5 i6
  clear b0 b1 b2 b3 hA hB hBn b3' c0 c1 c2 c3 hC hCn c3'
  conv => arg 2; whnf
  refine wp_region_fut_float 23 [20] (by kernel_rfl) (by kernel_rfl) ?_
  simp only [List.take_succ_cons, List.take_zero, List.drop_succ_cons, List.drop_zero]
  repeat (go_big_quiet_step ((go_at_call 78; exact calls_fut (HK.out _))))
  refine wpQuiet_nil ?_
  intro s
  have hb2 := s.bel
  generalize s.to = w2 at *
  clear s
  have hg2 := HG.out.below hb2
  obtain ⟨a0, a1, a2, a3⟩ := hg2.cells HA.out
  have fz := hg2.frozen
  have hlt := hg2.lt
  have HT := Lib.hid (hg2.value HA.out (y.1, y.2.1, ⟨#[]⟩))
  have HS := Lib.hid (Sto.of_below (g := g) hb2)
  clear hb2 hg2
  go_wp2
  refine NoPanic.normal ?_
  first
    | exact ⟨HT.out, ((HS.out.set _ _).set _ _).set _ _⟩
    | exact ⟨rfl, ⟨_, _, _, _, _, _, _, _, _, _, _, _, _, _, _, _, _, _, _, _, _, _, _, rfl⟩, HT.out, ((HS.out.set _ _).set _ _).set _ _⟩
end Go.Proofs.Ytafhgilikcablaa
namespace Go.Proofs.Ytafhgilikcablaa
open Go.RowKit
set_option linter.unusedVariables false
set_option linter.unusedSimpArgs false
set_option maxRecDepth 100000
noncomputable def VmC22 : Code := ((Try.f37.body.bind (regOf 22)).getD .skip)
set_option maxHeartbeats 12800000 in
theorem vmr22_any (ra : Option Addr) (rl rc g K b : Nat) (rs : List Reg) (op : ByteArray) (A Bx C : Nat) (v : Val) (w : World) (x0 x2 x3 x4 x5 x6 x8 x9 x10 x12 x13 x14 x15 x16 x17 x18 x19 x20 x21 x22 x23 x24 x25 x26 x27 x28 x29 x30 x31 x32 x33 x34 x35 x36 x37 x38 x39 x40 x41 x42 x43 x44 x45 x46 x47 x48 x49 x50 x51 x52 x53 x54 x55 x56 x57 x58 x59 x60 x61 x62 x63 x64 x65 x66 x67 x68 x69 x70 x71 x72 x73 x74 x75 x76 x77 x78 x79 x80 x81 x82 x83 x84 x85 x86 x87 x88 x89 x90 x91 x92 x93 x94 x95 x96 x97 x98 x99 x100 x101 x102 x103 x104 x105 x106 x107 x108 x109 x110 x111 x112 x113 x114 x115 x116 x117 x118 x119 x120 x121 x122 x123 x124 x125 x126 x127 x128 x129 x130 x131 x132 x133 x134 x135 x136 x137 x138 x139 x140 x141 x142 x143 x144 x145 x146 x147 x148 x149 x150 x151 x152 x153 x154 x155 x156 x157 x158 x159 x160 x161 x162 x163 x164 x165 x166 x167 x168 x169 x170 x171 x172 x173 x174 x175 x176 x177 x178 x179 x180 x181 x182 x183 x184 x185 x186 x187 x188 x189 x190 x191 x192 x193 x194 x195 x196 x197 x198 x199 x200 x201 x202 x203 x204 x205 x206 x207 x208 x209 x210 x211 x212 x213 x214 x215 x216 x217 x218 x219 x220 x221 x222 x223 x224 x225 x226 x227 x228 x229 x230 x231 x232 x233 x234 x235 x236 x237 x238 x239 x240 x241 x242 x243 x244 x245 x246 x247 x248 x249 x250 x251 x252 x253 x254 x255 x256 x257 x258 x259 x260 x261 x262 x263 x264 : Value)
    (hI : InBox w b op A Bx C v) (hg : RegAt w g rs) (hbg : b ≠ g) (hK : rs.length = K) (hk2 : K ≤ 1000) (hA : A < K) (hB : Bx < K) (hBn : InR (rs.getD Bx noR).1.2.1) :
    VmC22.wp Try.prog (fun e a' w' => e = .normal ∧ (∃ u82 u83 u84 u85 u86 u87 u88 u89 u90 u91 u92 u93 u94 u95 u96 u97 : Value, a' = ⟨#[x0, .slice ra rl rc, x2, x3, x4, x5, x6, .slice (some ⟨g, 0, none⟩) K K, x8, x9, .int .i64 (recF ⟨#[45]⟩ 1 0 ⟨#[]⟩ (rs.getD Bx noR).1.1 (rs.getD Bx noR).1.2.1 (rs.getD Bx noR).1.2.2).2.2, .pointer (some ⟨b, 0, none⟩), x12, x13, x14, x15, x16, x17, x18, x19, x20, x21, x22, x23, x24, x25, x26, x27, x28, x29, x30, x31, x32, x33, x34, x35, x36, x37, x38, x39, x40, x41, x42, x43, x44, x45, x46, x47, x48, x49, x50, x51, x52, x53, x54, x55, x56, x57, x58, x59, x60, x61, x62, x63, x64, x65, x66, x67, x68, x69, x70, x71, x72, x73, x74, x75, x76, x77, x78, x79, x80, x81, u82, u83, u84, u85, u86, u87, u88, u89, u90, u91, u92, u93, u94, u95, u96, u97, x98, x99, x100, x101, x102, x103, x104, x105, x106, x107, x108, x109, x110, x111, x112, x113, x114, x115, x116, x117, x118, x119, x120, x121, x122, x123, x124, x125, x126, x127, x128, x129, x130, x131, x132, x133, x134, x135, x136, x137, x138, x139, x140, x141, x142, x143, x144, x145, x146, x147, x148, x149, x150, x151, x152, x153, x154, x155, x156, x157, x158, x159, x160, x161, x162, x163, x164, x165, x166, x167, x168, x169, x170, x171, x172, x173, x174, x175, x176, x177, x178, x179, x180, x181, x182, x183, x184, x185, x186, x187, x188, x189, x190, x191, x192, x193, x194, x195, x196, x197, x198, x199, x200, x201, x202, x203, x204, x205, x206, x207, x208, x209, x210, x211, x212, x213, x214, x215, x216, x217, x218, x219, x220, x221, x222, x223, x224, x225, x226, x227, x228, x229, x230, x231, x232, x233, x234, x235, x236, x237, x238, x239, x240, x241, x242, x243, x244, x245, x246, x247, x248, x249, x250, x251, x252, x253, x254, x255, x256, x257, x258, x259, x260, x261, x262, x263, x264], []⟩) ∧ RegAt w' g (rs.set A (((recF ⟨#[45]⟩ 1 0 ⟨#[]⟩ (rs.getD Bx noR).1.1 (rs.getD Bx noR).1.2.1 (rs.getD Bx noR).1.2.2).1, (recF ⟨#[45]⟩ 1 0 ⟨#[]⟩ (rs.getD Bx noR).1.1 (rs.getD Bx noR).1.2.1 (rs.getD Bx noR).1.2.2).2.1, ⟨#[]⟩), (rs.getD A noR).2)) ∧ Sto g w w') ⟨#[x0, .slice ra rl rc, x2, x3, x4, x5, x6, .slice (some ⟨g, 0, none⟩) K K, x8, x9, x10, .pointer (some ⟨b, 0, none⟩), x12, x13, x14, x15, x16, x17, x18, x19, x20, x21, x22, x23, x24, x25, x26, x27, x28, x29, x30, x31, x32, x33, x34, x35, x36, x37, x38, x39, x40, x41, x42, x43, x44, x45, x46, x47, x48, x49, x50, x51, x52, x53, x54, x55, x56, x57, x58, x59, x60, x61, x62, x63, x64, x65, x66, x67, x68, x69, x70, x71, x72, x73, x74, x75, x76, x77, x78, x79, x80, x81, x82, x83, x84, x85, x86, x87, x88, x89, x90, x91, x92, x93, x94, x95, x96, x97, x98, x99, x100, x101, x102, x103, x104, x105, x106, x107, x108, x109, x110, x111, x112, x113, x114, x115, x116, x117, x118, x119, x120, x121, x122, x123, x124, x125, x126, x127, x128, x129, x130, x131, x132, x133, x134, x135, x136, x137, x138, x139, x140, x141, x142, x143, x144, x145, x146, x147, x148, x149, x150, x151, x152, x153, x154, x155, x156, x157, x158, x159, x160, x161, x162, x163, x164, x165, x166, x167, x168, x169, x170, x171, x172, x173, x174, x175, x176, x177, x178, x179, x180, x181, x182, x183, x184, x185, x186, x187, x188, x189, x190, x191, x192, x193, x194, x195, x196, x197, x198, x199, x200, x201, x202, x203, x204, x205, x206, x207, x208, x209, x210, x211, x212, x213, x214, x215, x216, x217, x218, x219, x220, x221, x222, x223, x224, x225, x226, x227, x228, x229, x230, x231, x232, x233, x234, x235, x236, x237, x238, x239, x240, x241, x242, x243, x244, x245, x246, x247, x248, x249, x250, x251, x252, x253, x254, x255, x256, x257, x258, x259, x260, x261, x262, x263, x264], []⟩ w := by
  obtain ⟨i0, i1, i2, i3, i4, i5, i6⟩ := hI
  subst hK
  have HG := Lib.hid hg
  have HA := Lib.hid hA
  have hA0 : (0 : Int) ≤ (A : Int) := by omega
  have hA1 : (A : Int) < (rs.length : Int) := by omega
  have j0 := Fut.cell i0
  have j1 := Fut.cell i1
  have j2 := Fut.cell i2
  have j3 := Fut.cell i3
  obtain ⟨b0, b1, b2, b3⟩ := hg.cells hB
  have b0' := Fut.cell b0
  have b1' := Fut.cell b1
  have b2' := Fut.cell b2
  have b3' := Fut.cell b3
  have hBx0 : (0 : Int) ≤ (Bx : Int) := by omega
  have hBx1 : (Bx : Int) < (rs.length : Int) := by omega
  have HK := Lib.hid (show ∀ (s : Fut w), Calls Try.prog 78 #[.string ⟨#[45]⟩, .agg #[.int .i64 1, .int .i64 0, .string ⟨#[]⟩], .agg #[.int .i64 (rs.getD Bx noR).1.1, .int .i64 (rs.getD Bx noR).1.2.1, .string (rs.getD Bx noR).1.2.2]] s.to fun e w' => e = recE (recF ⟨#[45]⟩ 1 0 ⟨#[]⟩ (rs.getD Bx noR).1.1 (rs.getD Bx noR).1.2.1 (rs.getD Bx noR).1.2.2).1 (recF ⟨#[45]⟩ 1 0 ⟨#[]⟩ (rs.getD Bx noR).1.1 (rs.getD Bx noR).1.2.1 (rs.getD Bx noR).1.2.2).2.1 (recF ⟨#[45]⟩ 1 0 ⟨#[]⟩ (rs.getD Bx noR).1.1 (rs.getD Bx noR).1.2.1 (rs.getD Bx noR).1.2.2).2.2 ∧ Below s.to.heap.size s.to w' from fun s => rec24_any _ _ _ _ _ _ _ (Lib.hid InR.zero) (Lib.hid hBn) _ _ _ rfl _)
  unfold recE at HK
  generalize recF ⟨#[45]⟩ 1 0 ⟨#[]⟩ (rs.getD Bx noR).1.1 (rs.getD Bx noR).1.2.1 (rs.getD Bx noR).1.2.2 = y at *
  clear hg i0 i1 i2 i3 i4 i5 i6
  clear b0 b1 b2 b3 hA hB hBn b3' j0 j3
  conv => arg 2; whnf
  refine wp_region_fut_float 16 [13] (by kernel_rfl) (by kernel_rfl) ?_
  simp only [List.take_succ_cons, List.take_zero, List.drop_succ_cons, List.drop_zero]
  repeat (go_big_quiet_step ((go_at_call 78; exact calls_fut (HK.out _))))
  refine wpQuiet_nil ?_
  intro s
  have hb2 := s.bel
  generalize s.to = w2 at *
  clear s
  have hg2 := HG.out.below hb2
  obtain ⟨a0, a1, a2, a3⟩ := hg2.cells HA.out
  have fz := hg2.frozen
  have hlt := hg2.lt
  have HT := Lib.hid (hg2.value HA.out (y.1, y.2.1, ⟨#[]⟩))
  have HS := Lib.hid (Sto.of_below (g := g) hb2)
  clear hb2 hg2
  go_wp2
  refine NoPanic.normal ?_
  first
    | exact ⟨HT.out, ((HS.out.set _ _).set _ _).set _ _⟩
    | exact ⟨rfl, ⟨_, _, _, _, _, _, _, _, _, _, _, _, _, _, _, _, rfl⟩, HT.out, ((HS.out.set _ _).set _ _).set _ _⟩
end Go.Proofs.Ytafhgilikcablaa
namespace Go.Proofs.Ytafhgilikcablaa
open Go.RowKit
set_option linter.unusedVariables false
set_option linter.unusedSimpArgs false
set_option maxRecDepth 100000
noncomputable def VmC20 : Code := ((Try.f37.body.bind (regOf 20)).getD .skip)
set_option maxHeartbeats 12800000 in
theorem vmr20_any (ra : Option Addr) (rl rc g K b : Nat) (rs : List Reg) (op : ByteArray) (A Bx C : Nat) (v : Val) (R : List (List Val)) (hB2 : (Bx : Int) ≤ 9223372036854775807) (hC2 : (C : Int) ≤ 9223372036854775807) (w : World) (x0 x2 x3 x4 x5 x6 x8 x9 x10 x12 x13 x14 x15 x16 x17 x18 x19 x20 x21 x22 x23 x24 x25 x26 x27 x28 x29 x30 x31 x32 x33 x34 x35 x36 x37 x38 x39 x40 x41 x42 x43 x44 x45 x46 x47 x48 x49 x50 x51 x52 x53 x54 x55 x56 x57 x58 x59 x60 x61 x62 x63 x64 x65 x66 x67 x68 x69 x70 x71 x72 x73 x74 x75 x76 x77 x78 x79 x80 x81 x82 x83 x84 x85 x86 x87 x88 x89 x90 x91 x92 x93 x94 x95 x96 x97 x98 x99 x100 x101 x102 x103 x104 x105 x106 x107 x108 x109 x110 x111 x112 x113 x114 x115 x116 x117 x118 x119 x120 x121 x122 x123 x124 x125 x126 x127 x128 x129 x130 x131 x132 x133 x134 x135 x136 x137 x138 x139 x140 x141 x142 x143 x144 x145 x146 x147 x148 x149 x150 x151 x152 x153 x154 x155 x156 x157 x158 x159 x160 x161 x162 x163 x164 x165 x166 x167 x168 x169 x170 x171 x172 x173 x174 x175 x176 x177 x178 x179 x180 x181 x182 x183 x184 x185 x186 x187 x188 x189 x190 x191 x192 x193 x194 x195 x196 x197 x198 x199 x200 x201 x202 x203 x204 x205 x206 x207 x208 x209 x210 x211 x212 x213 x214 x215 x216 x217 x218 x219 x220 x221 x222 x223 x224 x225 x226 x227 x228 x229 x230 x231 x232 x233 x234 x235 x236 x237 x238 x239 x240 x241 x242 x243 x244 x245 x246 x247 x248 x249 x250 x251 x252 x253 x254 x255 x256 x257 x258 x259 x260 x261 x262 x263 x264 : Value)
    (hI : InBox w b op A Bx C v) (hg : RegAt w g rs) (hbg : b ≠ g) (hK : rs.length = K) (hk2 : K ≤ 1000) (hA : A < K) (hR : IsRR w ra rl R) :
    VmC20.wp Try.prog (fun e a' w' => e = .normal ∧ (∃ u66 u67 u68 u69 u70 u71 u72 u73 u74 u75 u76 u77 u78 u79 : Value, a' = ⟨#[x0, .slice ra rl rc, x2, x3, x4, x5, x6, .slice (some ⟨g, 0, none⟩) K K, x8, x9, .int .i64 (colF R Bx C).2, .pointer (some ⟨b, 0, none⟩), x12, x13, x14, x15, x16, x17, x18, x19, x20, x21, x22, x23, x24, x25, x26, x27, x28, x29, x30, x31, x32, x33, x34, x35, x36, x37, x38, x39, x40, x41, x42, x43, x44, x45, x46, x47, x48, x49, x50, x51, x52, x53, x54, x55, x56, x57, x58, x59, x60, x61, x62, x63, x64, x65, u66, u67, u68, u69, u70, u71, u72, u73, u74, u75, u76, u77, u78, u79, x80, x81, x82, x83, x84, x85, x86, x87, x88, x89, x90, x91, x92, x93, x94, x95, x96, x97, x98, x99, x100, x101, x102, x103, x104, x105, x106, x107, x108, x109, x110, x111, x112, x113, x114, x115, x116, x117, x118, x119, x120, x121, x122, x123, x124, x125, x126, x127, x128, x129, x130, x131, x132, x133, x134, x135, x136, x137, x138, x139, x140, x141, x142, x143, x144, x145, x146, x147, x148, x149, x150, x151, x152, x153, x154, x155, x156, x157, x158, x159, x160, x161, x162, x163, x164, x165, x166, x167, x168, x169, x170, x171, x172, x173, x174, x175, x176, x177, x178, x179, x180, x181, x182, x183, x184, x185, x186, x187, x188, x189, x190, x191, x192, x193, x194, x195, x196, x197, x198, x199, x200, x201, x202, x203, x204, x205, x206, x207, x208, x209, x210, x211, x212, x213, x214, x215, x216, x217, x218, x219, x220, x221, x222, x223, x224, x225, x226, x227, x228, x229, x230, x231, x232, x233, x234, x235, x236, x237, x238, x239, x240, x241, x242, x243, x244, x245, x246, x247, x248, x249, x250, x251, x252, x253, x254, x255, x256, x257, x258, x259, x260, x261, x262, x263, x264], []⟩) ∧ RegAt w' g (rs.set A ((colF R Bx C).1, (rs.getD A noR).2)) ∧ Sto g w w') ⟨#[x0, .slice ra rl rc, x2, x3, x4, x5, x6, .slice (some ⟨g, 0, none⟩) K K, x8, x9, x10, .pointer (some ⟨b, 0, none⟩), x12, x13, x14, x15, x16, x17, x18, x19, x20, x21, x22, x23, x24, x25, x26, x27, x28, x29, x30, x31, x32, x33, x34, x35, x36, x37, x38, x39, x40, x41, x42, x43, x44, x45, x46, x47, x48, x49, x50, x51, x52, x53, x54, x55, x56, x57, x58, x59, x60, x61, x62, x63, x64, x65, x66, x67, x68, x69, x70, x71, x72, x73, x74, x75, x76, x77, x78, x79, x80, x81, x82, x83, x84, x85, x86, x87, x88, x89, x90, x91, x92, x93, x94, x95, x96, x97, x98, x99, x100, x101, x102, x103, x104, x105, x106, x107, x108, x109, x110, x111, x112, x113, x114, x115, x116, x117, x118, x119, x120, x121, x122, x123, x124, x125, x126, x127, x128, x129, x130, x131, x132, x133, x134, x135, x136, x137, x138, x139, x140, x141, x142, x143, x144, x145, x146, x147, x148, x149, x150, x151, x152, x153, x154, x155, x156, x157, x158, x159, x160, x161, x162, x163, x164, x165, x166, x167, x168, x169, x170, x171, x172, x173, x174, x175, x176, x177, x178, x179, x180, x181, x182, x183, x184, x185, x186, x187, x188, x189, x190, x191, x192, x193, x194, x195, x196, x197, x198, x199, x200, x201, x202, x203, x204, x205, x206, x207, x208, x209, x210, x211, x212, x213, x214, x215, x216, x217, x218, x219, x220, x221, x222, x223, x224, x225, x226, x227, x228, x229, x230, x231, x232, x233, x234, x235, x236, x237, x238, x239, x240, x241, x242, x243, x244, x245, x246, x247, x248, x249, x250, x251, x252, x253, x254, x255, x256, x257, x258, x259, x260, x261, x262, x263, x264], []⟩ w := by
  obtain ⟨i0, i1, i2, i3, i4, i5, i6⟩ := hI
  subst hK
  have HG := Lib.hid hg
  have HA := Lib.hid hA
  have hA0 : (0 : Int) ≤ (A : Int) := by omega
  have hA1 : (A : Int) < (rs.length : Int) := by omega
  have j0 := Fut.cell i0
  have j1 := Fut.cell i1
  have j2 := Fut.cell i2
  have j3 := Fut.cell i3
  have HR := Lib.hid (show ∀ s : Fut w, IsRR s.to ra rl R from fun s => hR.below s.bel)
  have HL := Lib.hid (show (0 : Int) ≤ (Bx : Int) ∧ (0 : Int) ≤ (C : Int) from ⟨by omega, by omega⟩)
  have HB := Lib.hid hB2
  have HC := Lib.hid hC2
  obtain ⟨e2, he2⟩ : ∃ e2, e2 = (colF R (Bx : Int) (C : Int)).2 := ⟨_, rfl⟩
  rw [← he2]
  have HE := Lib.hid he2
  clear he2
  obtain ⟨v2, hv2⟩ : ∃ v2, v2 = (colF R (Bx : Int) (C : Int)).1 := ⟨_, rfl⟩
  rw [← hv2]
  have HV := Lib.hid hv2
  clear hv2 hR hB2 hC2
  have HK := Lib.hid (show ∀ (s : Fut w) (cap : Nat), Calls Try.prog 77 #[.slice ra rl cap, .int .i64 (Bx : Int), .int .i64 (C : Int)] s.to fun e w' => e = .returned (.tuple #[valV v2, .int .i64 e2]) ∧ Below s.to.heap.size s.to w' from fun s cap => by
    rw [HV.out, HE.out]
    exact column_any ra rl cap R Bx C s.to (HR.out s) HL.out.1 HL.out.2 HB.out HC.out)
  unfold valV at HK
  clear hg i0 i1 i2 i3 i4 i5 i6
  clear j0 HR HL HB HC HV HE hA
  conv => arg 2; whnf
  refine wp_region_fut_float 14 [11] (by kernel_rfl) (by kernel_rfl) ?_
  simp only [List.take_succ_cons, List.take_zero, List.drop_succ_cons, List.drop_zero]
  repeat (go_big_quiet_step ((go_at_call 77; exact calls_fut (HK.out _ _))))
  refine wpQuiet_nil ?_
  intro s
  have hb2 := s.bel
  generalize s.to = w2 at *
  clear s
  have hg2 := HG.out.below hb2
  obtain ⟨a0, a1, a2, a3⟩ := hg2.cells HA.out
  have fz := hg2.frozen
  have hlt := hg2.lt
  have HT := Lib.hid (hg2.value HA.out v2)
  have HS := Lib.hid (Sto.of_below (g := g) hb2)
  clear hb2 hg2
  go_wp2
  refine NoPanic.normal ?_
  first
    | exact ⟨HT.out, ((HS.out.set _ _).set _ _).set _ _⟩
    | exact ⟨rfl, ⟨_, _, _, _, _, _, _, _, _, _, _, _, _, _, rfl⟩, HT.out, ((HS.out.set _ _).set _ _).set _ _⟩
end Go.Proofs.Ytafhgilikcablaa
namespace Go.Proofs.Ytafhgilikcablaa
open Go.RowKit
set_option linter.unusedVariables false
set_option linter.unusedSimpArgs false
set_option maxRecDepth 100000
noncomputable def VmC13 : Code := ((Try.f37.body.bind (regOf 13)).getD .skip)
set_option maxHeartbeats 12800000 in
theorem vmr13_any (ra : Option Addr) (rl rc g K p : Nat) (rs : List Reg) (w : World) (x0 x2 x3 x5 x6 x8 x9 x10 x11 x12 x13 x14 x15 x16 x17 x18 x19 x20 x21 x22 x23 x24 x25 x26 x27 x28 x29 x30 x31 x32 x33 x34 x35 x36 x37 x38 x39 x40 x41 x42 x43 x44 x45 x46 x47 x48 x49 x50 x51 x52 x53 x54 x55 x56 x57 x58 x59 x60 x61 x62 x63 x64 x65 x66 x67 x68 x69 x70 x71 x72 x73 x74 x75 x76 x77 x78 x79 x80 x81 x82 x83 x84 x85 x86 x87 x88 x89 x90 x91 x92 x93 x94 x95 x96 x97 x98 x99 x100 x101 x102 x103 x104 x105 x106 x107 x108 x109 x110 x111 x112 x113 x114 x115 x116 x117 x118 x119 x120 x121 x122 x123 x124 x125 x126 x127 x128 x129 x130 x131 x132 x133 x134 x135 x136 x137 x138 x139 x140 x141 x142 x143 x144 x145 x146 x147 x148 x149 x150 x151 x152 x153 x154 x155 x156 x157 x158 x159 x160 x161 x162 x163 x164 x165 x166 x167 x168 x169 x170 x171 x172 x173 x174 x175 x176 x177 x178 x179 x180 x181 x182 x183 x184 x185 x186 x187 x188 x189 x190 x191 x192 x193 x194 x195 x196 x197 x198 x199 x200 x201 x202 x203 x204 x205 x206 x207 x208 x209 x210 x211 x212 x213 x214 x215 x216 x217 x218 x219 x220 x221 x222 x223 x224 x225 x226 x227 x228 x229 x230 x231 x232 x233 x234 x235 x236 x237 x238 x239 x240 x241 x242 x243 x244 x245 x246 x247 x248 x249 x250 x251 x252 x253 x254 x255 x256 x257 x258 x259 x260 x261 x262 x263 x264 : Value)
    (hg : RegAt w g rs) (hK : rs.length = K) (hA : 0 < K) (hp : w.heap[p]? = some (.cells #[.int .i64 0, .int .i64 0, .string ⟨#[]⟩] 38 (0, 0))) :
    VmC13.wp Try.prog (fun e a' w' => e = .normal ∧ (∃ u38 u39 u40 u41 u42 u43 u44 u45 : Value, a' = ⟨#[x0, .slice ra rl rc, x2, x3, .pointer (some ⟨p, 0, none⟩), .int .i64 (rs.getD 0 noR).2, .int .i64 0, .slice (some ⟨g, 0, none⟩) K K, x8, x9, x10, x11, x12, x13, x14, x15, x16, x17, x18, x19, x20, x21, x22, x23, x24, x25, x26, x27, x28, x29, x30, x31, x32, x33, x34, x35, x36, x37, u38, u39, u40, u41, u42, u43, u44, u45, x46, x47, x48, x49, x50, x51, x52, x53, x54, x55, x56, x57, x58, x59, x60, x61, x62, x63, x64, x65, x66, x67, x68, x69, x70, x71, x72, x73, x74, x75, x76, x77, x78, x79, x80, x81, x82, x83, x84, x85, x86, x87, x88, x89, x90, x91, x92, x93, x94, x95, x96, x97, x98, x99, x100, x101, x102, x103, x104, x105, x106, x107, x108, x109, x110, x111, x112, x113, x114, x115, x116, x117, x118, x119, x120, x121, x122, x123, x124, x125, x126, x127, x128, x129, x130, x131, x132, x133, x134, x135, x136, x137, x138, x139, x140, x141, x142, x143, x144, x145, x146, x147, x148, x149, x150, x151, x152, x153, x154, x155, x156, x157, x158, x159, x160, x161, x162, x163, x164, x165, x166, x167, x168, x169, x170, x171, x172, x173, x174, x175, x176, x177, x178, x179, x180, x181, x182, x183, x184, x185, x186, x187, x188, x189, x190, x191, x192, x193, x194, x195, x196, x197, x198, x199, x200, x201, x202, x203, x204, x205, x206, x207, x208, x209, x210, x211, x212, x213, x214, x215, x216, x217, x218, x219, x220, x221, x222, x223, x224, x225, x226, x227, x228, x229, x230, x231, x232, x233, x234, x235, x236, x237, x238, x239, x240, x241, x242, x243, x244, x245, x246, x247, x248, x249, x250, x251, x252, x253, x254, x255, x256, x257, x258, x259, x260, x261, x262, x263, x264], []⟩) ∧ ResAt w' p (rs.getD 0 noR).1 ∧ Sto p w w') ⟨#[x0, .slice ra rl rc, x2, x3, .pointer (some ⟨p, 0, none⟩), x5, x6, .slice (some ⟨g, 0, none⟩) K K, x8, x9, x10, x11, x12, x13, x14, x15, x16, x17, x18, x19, x20, x21, x22, x23, x24, x25, x26, x27, x28, x29, x30, x31, x32, x33, x34, x35, x36, x37, x38, x39, x40, x41, x42, x43, x44, x45, x46, x47, x48, x49, x50, x51, x52, x53, x54, x55, x56, x57, x58, x59, x60, x61, x62, x63, x64, x65, x66, x67, x68, x69, x70, x71, x72, x73, x74, x75, x76, x77, x78, x79, x80, x81, x82, x83, x84, x85, x86, x87, x88, x89, x90, x91, x92, x93, x94, x95, x96, x97, x98, x99, x100, x101, x102, x103, x104, x105, x106, x107, x108, x109, x110, x111, x112, x113, x114, x115, x116, x117, x118, x119, x120, x121, x122, x123, x124, x125, x126, x127, x128, x129, x130, x131, x132, x133, x134, x135, x136, x137, x138, x139, x140, x141, x142, x143, x144, x145, x146, x147, x148, x149, x150, x151, x152, x153, x154, x155, x156, x157, x158, x159, x160, x161, x162, x163, x164, x165, x166, x167, x168, x169, x170, x171, x172, x173, x174, x175, x176, x177, x178, x179, x180, x181, x182, x183, x184, x185, x186, x187, x188, x189, x190, x191, x192, x193, x194, x195, x196, x197, x198, x199, x200, x201, x202, x203, x204, x205, x206, x207, x208, x209, x210, x211, x212, x213, x214, x215, x216, x217, x218, x219, x220, x221, x222, x223, x224, x225, x226, x227, x228, x229, x230, x231, x232, x233, x234, x235, x236, x237, x238, x239, x240, x241, x242, x243, x244, x245, x246, x247, x248, x249, x250, x251, x252, x253, x254, x255, x256, x257, x258, x259, x260, x261, x262, x263, x264], []⟩ w := by
  subst hK
  obtain ⟨b0, b1, b2, b3⟩ := hg.cells hA
  simp only [Nat.zero_mul, Nat.zero_add] at b0 b1 b2 b3
  have hA0 : (0 : Int) < (rs.length : Int) := by omega
  have hplt : p < w.heap.size := (Array.getElem?_eq_some_iff.1 hp).1
  have hpg : p ≠ g := fun e => by
    have h1 : w.heap[g]? = some (.cells #[.int .i64 0, .int .i64 0, .string ⟨#[]⟩] 38 (0, 0)) := e ▸ hp
    rw [show w.heap[g]? = _ from hg] at h1
    have h2 := Option.some.inj h1
    injection h2 with _ h3 _
    exact absurd h3 (by decide)
  have a0 := cell_of_row _ _ 0 _ _ _ hp
  have a1 := cell_of_row _ _ 1 _ _ _ hp
  have a2 := cell_of_row _ _ 2 _ _ _ hp
  simp only [List.getElem?_toArray, List.getElem?_cons_zero, List.getElem?_cons_succ] at a0 a1 a2
  have fz : ∀ j, w.frozen? ⟨p, j, none⟩ = false := fun j => frozen_of_row _ _ j _ _ hp
  have HT := Lib.hid (show ResAt (((w.drew.setCell ⟨p, 0, none⟩ (.int .i64 (rs.getD 0 noR).1.1)).setCell ⟨p, 1, none⟩ (.int .i64 (rs.getD 0 noR).1.2.1)).setCell ⟨p, 2, none⟩ (.string (rs.getD 0 noR).1.2.2)) p (rs.getD 0 noR).1 from vbox3 (w := w.drew) hp (.int .i64 (rs.getD 0 noR).1.1) (.int .i64 (rs.getD 0 noR).1.2.1) (.string (rs.getD 0 noR).1.2.2))
  have HS := Lib.hid (show Sto p w w.drew from (Sto.refl p w).drew)
  have KP := Lib.hid (show ∀ (x y z : Value) (q : Nat) {u : Value}, w.cell? ⟨g, q, none⟩ = some u → (((w.drew.setCell ⟨p, 0, none⟩ x).setCell ⟨p, 1, none⟩ y).setCell ⟨p, 2, none⟩ z).cell? ⟨g, q, none⟩ = some u from fun x y z q u h => by
    have e : ∀ (W : World) (j : Nat) (x : Value), W.cell? ⟨g, q, none⟩ = some u → (W.setCell ⟨p, j, none⟩ x).cell? ⟨g, q, none⟩ = some u := fun W j x h => (Go.World.cell?_of_block (heap_setCell_other W ⟨p, j, none⟩ g x (fun e => hpg e.symm))).trans h
    exact e _ _ _ (e _ _ _ (e _ _ _ h)))
  clear hg hp
  generalize rs.getD 0 noR = r at *
  conv => arg 2; whnf
  refine wp_region_noPanic ?_
  go_region_held3 (fun w' => w'.cell? ⟨g, 0, none⟩ = some (.int .i64 (r).1.1) ∧ w'.cell? ⟨g, 1, none⟩ = some (.int .i64 (r).1.2.1) ∧ w'.cell? ⟨g, 2, none⟩ = some (.string (r).1.2.2) ∧ w'.cell? ⟨g, 3, none⟩ = some (.int .i64 (r).2))
    (first | exact ⟨b0, b1, b2, b3⟩ | exact ⟨KP.out _ _ _ _ b0, KP.out _ _ _ _ b1, KP.out _ _ _ _ b2, KP.out _ _ _ _ b3⟩)
    (fail)
  all_goals
    refine NoPanic.normal ?_
    first
      | exact ⟨HT.out, ((HS.out.set _ _).set _ _).set _ _⟩
      | exact ⟨rfl, ⟨_, _, _, _, _, _, _, _, rfl⟩, HT.out, ((HS.out.set _ _).set _ _).set _ _⟩
end Go.Proofs.Ytafhgilikcablaa
