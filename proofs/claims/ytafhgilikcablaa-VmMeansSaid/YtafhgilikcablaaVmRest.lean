/- vm.Run: what stands behind its label. (Written by genvmrun.py.) -/
import Derived.Test.YtafhgilikcablaaCmA
import Derived.Test.YtafhgilikcablaaCmI
import Derived.Test.YtafhgilikcablaaVmMach
import Derived.ScopeJumps
import Derived.WalkMore
import Derived.Test.YtafhgilikcablaaCFit4
namespace Go.Proofs.Ytafhgilikcablaa
open Go.RowKit
set_option linter.unusedVariables false
set_option linter.unusedSimpArgs false
set_option maxRecDepth 100000

/-- what holds of the registers at the label -/
structure VmV (R : List (List Val)) (xs : List Ins) (fin : Val × Int × Int) (W0 : World) (g K i : Nat) (e : Int) (rs : List Reg) (f : Nat) (w' : World) : Prop where
  ile : i ≤ xs.length
  fuel : xs.length + 1 ≤ f + i
  len : rs.length = K
  rg : RegR rs
  at_ : RegAt w' g rs
  bel : Below W0.heap.size W0 w'
  ok : e = 0 → runR R xs f i rs = fin
  no : e ≠ 0 → fin = (noV, 0, e)
def VmJ (ra : Option Addr) (rl rc P2 P4 g K : Nat) (R : List (List Val)) (xs : List Ins) (fin : Val × Int × Int) (W0 : World) (a' : Act) (w' : World) : Prop :=
  ∃ (i : Nat) (e : Int) (rs : List Reg) (f : Nat) (x0 x3 x5 x6 x8 x11 x12 x13 x14 x15 x16 x17 x18 x19 x20 x21 x22 x23 x24 x25 x26 x27 x28 x29 x30 x31 x32 x33 x34 x35 x36 x37 x38 x39 x40 x41 x42 x43 x44 x45 x46 x47 x48 x49 x50 x51 x52 x53 x54 x55 x56 x57 x58 x59 x60 x61 x62 x63 x64 x65 x66 x67 x68 x69 x70 x71 x72 x73 x74 x75 x76 x77 x78 x79 x80 x81 x82 x83 x84 x85 x86 x87 x88 x89 x90 x91 x92 x93 x94 x95 x96 x97 x98 x99 x100 x101 x102 x103 x104 x105 x106 x107 x108 x109 x110 x111 x112 x113 x114 x115 x116 x117 x118 x119 x120 x121 x122 x123 x124 x125 x126 x127 x128 x129 x130 x131 x132 x133 x134 x135 x136 x137 x138 x139 x140 x141 x142 x143 x144 x145 x146 x147 x148 x149 x150 x151 x152 x153 x154 x155 x156 x157 x158 x159 x160 x161 x162 x163 x164 x165 x166 x167 x168 x169 x170 x171 x172 x173 x174 x175 x176 x177 x178 x179 x180 x181 x182 x183 x184 x185 x186 x187 x188 x189 x190 x191 x192 x193 x194 x195 x196 x197 x198 x199 x200 x201 x202 x203 x204 x205 x206 x207 x208 x209 x210 x211 x212 x213 x214 x215 x216 x217 x218 x219 x220 x221 x222 x223 x224 x225 x226 x227 x228 x229 x230 x231 x232 x233 x234 x235 x236 x237 x238 x239 x240 x241 x242 x243 x244 x245 x246 x247 x248 x249 x250 x251 x252 x253 x254 x255 x256 x257 x258 x259 x260 x261 x262 x263 x264 : Value), a' = ⟨#[x0, .slice ra rl rc, .pointer (some ⟨P2, 0, none⟩), x3, .pointer (some ⟨P4, 0, none⟩), x5, x6, .slice (some ⟨g, 0, none⟩) K K, x8, .int .i64 (i : Int), .int .i64 e, x11, x12, x13, x14, x15, x16, x17, x18, x19, x20, x21, x22, x23, x24, x25, x26, x27, x28, x29, x30, x31, x32, x33, x34, x35, x36, x37, x38, x39, x40, x41, x42, x43, x44, x45, x46, x47, x48, x49, x50, x51, x52, x53, x54, x55, x56, x57, x58, x59, x60, x61, x62, x63, x64, x65, x66, x67, x68, x69, x70, x71, x72, x73, x74, x75, x76, x77, x78, x79, x80, x81, x82, x83, x84, x85, x86, x87, x88, x89, x90, x91, x92, x93, x94, x95, x96, x97, x98, x99, x100, x101, x102, x103, x104, x105, x106, x107, x108, x109, x110, x111, x112, x113, x114, x115, x116, x117, x118, x119, x120, x121, x122, x123, x124, x125, x126, x127, x128, x129, x130, x131, x132, x133, x134, x135, x136, x137, x138, x139, x140, x141, x142, x143, x144, x145, x146, x147, x148, x149, x150, x151, x152, x153, x154, x155, x156, x157, x158, x159, x160, x161, x162, x163, x164, x165, x166, x167, x168, x169, x170, x171, x172, x173, x174, x175, x176, x177, x178, x179, x180, x181, x182, x183, x184, x185, x186, x187, x188, x189, x190, x191, x192, x193, x194, x195, x196, x197, x198, x199, x200, x201, x202, x203, x204, x205, x206, x207, x208, x209, x210, x211, x212, x213, x214, x215, x216, x217, x218, x219, x220, x221, x222, x223, x224, x225, x226, x227, x228, x229, x230, x231, x232, x233, x234, x235, x236, x237, x238, x239, x240, x241, x242, x243, x244, x245, x246, x247, x248, x249, x250, x251, x252, x253, x254, x255, x256, x257, x258, x259, x260, x261, x262, x263, x264], []⟩ ∧ VmV R xs fin W0 g K i e rs f w'
/-- what the first world tells of all later ones -/
structure VmIn (ca : Option Addr) (cl cc : Nat) (k : Int) (xs : List Ins) (ra : Option Addr) (rl : Nat) (R : List (List Val)) (P2 P4 : Nat) (W0 : World) : Prop where
  i : IsI W0 ca cl xs
  r : IsRR W0 ra rl R
  p0 : W0.cell? ⟨P2, 0, none⟩ = some (.slice ca cl cc)
  p1 : W0.cell? ⟨P2, 1, none⟩ = some (.int .i64 k)
  p4 : ResAt W0 P4 noV
  nums : ∀ x ∈ xs, InsR x
  rows : RowsR R
theorem VmIn.below {ca : Option Addr} {cl cc : Nat} {k : Int} {xs : List Ins} {ra : Option Addr} {rl : Nat} {R : List (List Val)} {P2 P4 : Nat} {W0 w' : World} (h : VmIn ca cl cc k xs ra rl R P2 P4 W0) (hb : Below W0.heap.size W0 w') : VmIn ca cl cc k xs ra rl R P2 P4 w' :=
  ⟨h.i.below hb, h.r.below hb, (hb.cell (World.block_lt_of_cell? _ _ h.p0)).trans h.p0, (hb.cell (World.block_lt_of_cell? _ _ h.p1)).trans h.p1, (hb.block P4 (Array.getElem?_eq_some_iff.1 h.p4).1).trans h.p4, h.nums, h.rows⟩
theorem ok_nat {n k i : Int} {x : Ins} (hi : 0 ≤ i) (h : okI n k i x = true) : ∃ A B C : Nat, x.a = A ∧ x.b = B ∧ x.c = C ∧ (opClass x.op = 0 → (A : Int) < k) ∧ (opClass x.op = 1 → (A : Int) < k) ∧ (opClass x.op = 2 → (A : Int) < k ∧ (B : Int) < k) ∧
    (opClass x.op = 3 → (A : Int) < k ∧ (B : Int) < k ∧ (C : Int) < k) ∧ (opClass x.op = 4 → A = 0 ∧ (B : Int) < k ∧ i < (C : Int) ∧ (C : Int) ≤ n) := by
  unfold okI at h
  rw [Bool.and_eq_true] at h
  have h2 := h.2
  unfold fitsB at h2
  rcases hc : opClass x.op with _ | _ | _ | _ | _ | m <;> rw [hc] at h2 <;> simp [hasB] at h2 <;>
    exact ⟨x.a.toNat, x.b.toNat, x.c.toNat, by omega, by omega, by omega, by omega, by omega, by omega, by omega, by omega⟩
def atOf (a : Act) : Nat := match a.tmps.getD 9 undef with
  | .int _ n => n.toNat
  | _ => 0
theorem results_val3 {fn : Func} {p u t : Tmp} (h : fn.results = #[.cell p 38, .tmp u, .tmp t]) (tmps : Array Value) (w : World) (g : Nat) (v : Val)
    (hp : tmps.getD p undef = .pointer (some ⟨g, 0, none⟩)) (hg : ResAt w g v) :
    (results fn tmps).run Try.prog w = .ok (.tuple #[valV v, tmps.getD u undef, tmps.getD t undef]) w := by
  have hp' : tmps[p]?.getD undef = .pointer (some ⟨g, 0, none⟩) := by simpa using hp
  have hl := run_loadVar_row (P := Try.prog) w g 38 38 #[.int .i64 v.1, .int .i64 v.2.1, .string v.2.2] (0, 0) _ hg Try.underlying38 rfl (by
    have : (Try.prog.info? 38).map (·.size) = some 3 := by kernel_rfl
    exact this)
  simp [results, h, hp', asAddr, hl, valV]
end Go.Proofs.Ytafhgilikcablaa
namespace Go.Proofs.Ytafhgilikcablaa
open Go.RowKit
set_option linter.unusedVariables false
set_option linter.unusedSimpArgs false
set_option maxRecDepth 100000
def scopeOf : Code → Option Code
  | .scope c => some c
  | .seq a b => match scopeOf a with
    | some c => some c
    | none => scopeOf b
  | _ => none
noncomputable def VmScope : Code := (Try.f37.body.bind scopeOf).getD .skip
noncomputable def VmRest : Code := (findLabel VmScope 0).getD .skip
def behindSkip : Code → Code
  | .seq _ c => c
  | c => c
noncomputable def VmTail : Code := behindSkip VmRest
end Go.Proofs.Ytafhgilikcablaa
