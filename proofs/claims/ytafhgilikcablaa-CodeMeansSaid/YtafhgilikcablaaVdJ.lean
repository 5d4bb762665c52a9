/- The document's Run: what holds at its loop's head. (Written by genvdrun.py.) -/
import Derived.Test.YtafhgilikcablaaCShape
import Derived.Test.YtafhgilikcablaaCRForm
namespace Go.Proofs.Ytafhgilikcablaa
open Go.RowKit
set_option linter.unusedVariables false
set_option linter.unusedSimpArgs false
set_option maxRecDepth 100000
structure VdV (R : List (List Val)) (xs : List Ins) (fin : Val × Int × Int) (W0 : World) (gv gt K i : Nat) (rs : List Reg) (f : Nat) (w' : World) : Prop where
  ile : i ≤ xs.length
  fuel : xs.length + 1 ≤ f + i
  len : rs.length = K
  rg : RegR rs
  val : ValAt w' gv rs
  tru : TruAt w' gt rs
  bel : Below W0.heap.size W0 w'
  ok : runR R xs f i rs = fin
def VdJ (ra : Option Addr) (rl rc P2 P4 gv gt K : Nat) (R : List (List Val)) (xs : List Ins) (fin : Val × Int × Int) (W0 : World) (lo : Nat) (a' : Act) (w' : World) : Prop :=
  ∃ (i : Nat) (rs : List Reg) (f : Nat) (x0 x3 x5 x6 x9 x11 x12 x13 x14 x15 x16 x17 x18 x19 x20 x21 x22 x23 x24 x25 x26 x27 x28 x29 x30 x31 x32 x33 x34 x35 x36 x37 x38 x39 x40 x41 x42 x43 x44 x45 x46 x47 x48 x49 x50 x51 x52 x53 x54 x55 x56 x57 x58 x59 x60 x61 x62 x63 x64 x65 x66 x67 x68 x69 x70 x71 x72 x73 x74 x75 x76 x77 x78 x79 x80 x81 x82 x83 x84 x85 x86 x87 x88 x89 x90 x91 x92 x93 x94 x95 x96 x97 x98 x99 x100 x101 x102 x103 x104 x105 x106 x107 x108 x109 x110 x111 x112 x113 x114 x115 x116 x117 x118 x119 x120 x121 x122 x123 x124 x125 x126 x127 x128 x129 x130 x131 x132 x133 x134 x135 x136 x137 x138 x139 x140 x141 x142 x143 x144 x145 x146 x147 x148 x149 x150 x151 x152 x153 x154 x155 x156 x157 x158 x159 x160 x161 x162 x163 x164 x165 x166 x167 x168 x169 x170 x171 x172 x173 x174 x175 x176 x177 x178 x179 x180 x181 x182 x183 x184 x185 x186 x187 x188 x189 x190 x191 x192 x193 x194 x195 x196 x197 x198 x199 x200 x201 x202 x203 x204 x205 x206 x207 x208 x209 x210 x211 x212 x213 x214 x215 x216 x217 x218 x219 x220 x221 x222 x223 x224 x225 x226 x227 x228 x229 x230 x231 x232 x233 x234 x235 x236 x237 x238 x239 x240 : Value), lo ≤ i ∧ a' = ⟨#[x0, .slice ra rl rc, .pointer (some ⟨P2, 0, none⟩), x3, .pointer (some ⟨P4, 0, none⟩), x5, x6, .slice (some ⟨gv, 0, none⟩) K K, .slice (some ⟨gt, 0, none⟩) K K, x9, .int .i64 (i : Int), x11, x12, x13, x14, x15, x16, x17, x18, x19, x20, x21, x22, x23, x24, x25, x26, x27, x28, x29, x30, x31, x32, x33, x34, x35, x36, x37, x38, x39, x40, x41, x42, x43, x44, x45, x46, x47, x48, x49, x50, x51, x52, x53, x54, x55, x56, x57, x58, x59, x60, x61, x62, x63, x64, x65, x66, x67, x68, x69, x70, x71, x72, x73, x74, x75, x76, x77, x78, x79, x80, x81, x82, x83, x84, x85, x86, x87, x88, x89, x90, x91, x92, x93, x94, x95, x96, x97, x98, x99, x100, x101, x102, x103, x104, x105, x106, x107, x108, x109, x110, x111, x112, x113, x114, x115, x116, x117, x118, x119, x120, x121, x122, x123, x124, x125, x126, x127, x128, x129, x130, x131, x132, x133, x134, x135, x136, x137, x138, x139, x140, x141, x142, x143, x144, x145, x146, x147, x148, x149, x150, x151, x152, x153, x154, x155, x156, x157, x158, x159, x160, x161, x162, x163, x164, x165, x166, x167, x168, x169, x170, x171, x172, x173, x174, x175, x176, x177, x178, x179, x180, x181, x182, x183, x184, x185, x186, x187, x188, x189, x190, x191, x192, x193, x194, x195, x196, x197, x198, x199, x200, x201, x202, x203, x204, x205, x206, x207, x208, x209, x210, x211, x212, x213, x214, x215, x216, x217, x218, x219, x220, x221, x222, x223, x224, x225, x226, x227, x228, x229, x230, x231, x232, x233, x234, x235, x236, x237, x238, x239, x240], []⟩ ∧ VdV R xs fin W0 gv gt K i rs f w'
def loopsOf : Code → List Code
  | .seq a b => loopsOf a ++ loopsOf b
  | .block _ c => loopsOf c
  | .scope c => loopsOf c
  | .loop c => [c]
  | .cond _ a b => loopsOf a ++ loopsOf b
  | _ => []
noncomputable def VdBody : Code := (((Try.f76.body.map loopsOf).getD [])[1]?).getD .skip
end Go.Proofs.Ytafhgilikcablaa
