/- The document's Run, region 46: the end. (Written by genvd.py.) -/
import Derived.Test.YtafhgilikcablaaCShape
import Derived.Test.YtafhgilikcablaaVmDoc
import Derived.Test.YtafhgilikcablaaFormV
import Derived.Test.YtafhgilikcablaaVRecR
import Derived.Test.YtafhgilikcablaaVCmpR
namespace Go.Proofs.Ytafhgilikcablaa
open Go.RowKit
set_option linter.unusedVariables false
set_option linter.unusedSimpArgs false
set_option maxRecDepth 100000
noncomputable def VdC43 : Code := ((Try.f76.body.bind (regOf 43)).getD .skip)
set_option maxHeartbeats 12800000 in
theorem vdr43_any (ra : Option Addr) (rl rc gv gt K b : Nat) (rs : List Reg) (op : ByteArray) (A Bx C : Nat) (v : Val) (w : World) (x0 x2 x3 x4 x5 x6 x9 x10 x12 x13 x14 x15 x16 x17 x18 x19 x20 x21 x22 x23 x24 x25 x26 x27 x28 x29 x30 x31 x32 x33 x34 x35 x36 x37 x38 x39 x40 x41 x42 x43 x44 x45 x46 x47 x48 x49 x50 x51 x52 x53 x54 x55 x56 x57 x58 x59 x60 x61 x62 x63 x64 x65 x66 x67 x68 x69 x70 x71 x72 x73 x74 x75 x76 x77 x78 x79 x80 x81 x82 x83 x84 x85 x86 x87 x88 x89 x90 x91 x92 x93 x94 x95 x96 x97 x98 x99 x100 x101 x102 x103 x104 x105 x106 x107 x108 x109 x110 x111 x112 x113 x114 x115 x116 x117 x118 x119 x120 x121 x122 x123 x124 x125 x126 x127 x128 x129 x130 x131 x132 x133 x134 x135 x136 x137 x138 x139 x140 x141 x142 x143 x144 x145 x146 x147 x148 x149 x150 x151 x152 x153 x154 x155 x156 x157 x158 x159 x160 x161 x162 x163 x164 x165 x166 x167 x168 x169 x170 x171 x172 x173 x174 x175 x176 x177 x178 x179 x180 x181 x182 x183 x184 x185 x186 x187 x188 x189 x190 x191 x192 x193 x194 x195 x196 x197 x198 x199 x200 x201 x202 x203 x204 x205 x206 x207 x208 x209 x210 x211 x212 x213 x214 x215 x216 x217 x218 x219 x220 x221 x222 x223 x224 x225 x226 x227 x228 x229 x230 x231 x232 x233 x234 x235 x236 x237 x238 x239 x240 : Value)
    (hI : InBox w b op A Bx C v) (hv : ValAt w gv rs) (ht : TruAt w gt rs) (hvt : gv ≠ gt) (hbv : b ≠ gv) (hbt : b ≠ gt) (hK : rs.length = K) (hk2 : K ≤ 1000) (hA : A < K) (hB : Bx < K) :
    VdC43.wp Try.prog (fun e a' w' => e = .normal ∧ (∃ u213 u214 u215 u216 u217 u218 u219 u220 u221 u222 u223 u224 u225 u226 u227 u228 u229 u230 : Value, a' = ⟨#[x0, .slice ra rl rc, x2, x3, x4, x5, x6, .slice (some ⟨gv, 0, none⟩) K K, .slice (some ⟨gt, 0, none⟩) K K, x9, x10, .pointer (some ⟨b, 0, none⟩), x12, x13, x14, x15, x16, x17, x18, x19, x20, x21, x22, x23, x24, x25, x26, x27, x28, x29, x30, x31, x32, x33, x34, x35, x36, x37, x38, x39, x40, x41, x42, x43, x44, x45, x46, x47, x48, x49, x50, x51, x52, x53, x54, x55, x56, x57, x58, x59, x60, x61, x62, x63, x64, x65, x66, x67, x68, x69, x70, x71, x72, x73, x74, x75, x76, x77, x78, x79, x80, x81, x82, x83, x84, x85, x86, x87, x88, x89, x90, x91, x92, x93, x94, x95, x96, x97, x98, x99, x100, x101, x102, x103, x104, x105, x106, x107, x108, x109, x110, x111, x112, x113, x114, x115, x116, x117, x118, x119, x120, x121, x122, x123, x124, x125, x126, x127, x128, x129, x130, x131, x132, x133, x134, x135, x136, x137, x138, x139, x140, x141, x142, x143, x144, x145, x146, x147, x148, x149, x150, x151, x152, x153, x154, x155, x156, x157, x158, x159, x160, x161, x162, x163, x164, x165, x166, x167, x168, x169, x170, x171, x172, x173, x174, x175, x176, x177, x178, x179, x180, x181, x182, x183, x184, x185, x186, x187, x188, x189, x190, x191, x192, x193, x194, x195, x196, x197, x198, x199, x200, x201, x202, x203, x204, x205, x206, x207, x208, x209, x210, x211, x212, u213, u214, u215, u216, u217, u218, u219, u220, u221, u222, u223, u224, u225, u226, u227, u228, u229, u230, x231, x232, x233, x234, x235, x236, x237, x238, x239, x240], []⟩) ∧ ValAt w' gv (rs.set A (rs.getD Bx noR)) ∧ TruAt w' gt (rs.set A (rs.getD Bx noR)) ∧ Sto2 gv gt w w') ⟨#[x0, .slice ra rl rc, x2, x3, x4, x5, x6, .slice (some ⟨gv, 0, none⟩) K K, .slice (some ⟨gt, 0, none⟩) K K, x9, x10, .pointer (some ⟨b, 0, none⟩), x12, x13, x14, x15, x16, x17, x18, x19, x20, x21, x22, x23, x24, x25, x26, x27, x28, x29, x30, x31, x32, x33, x34, x35, x36, x37, x38, x39, x40, x41, x42, x43, x44, x45, x46, x47, x48, x49, x50, x51, x52, x53, x54, x55, x56, x57, x58, x59, x60, x61, x62, x63, x64, x65, x66, x67, x68, x69, x70, x71, x72, x73, x74, x75, x76, x77, x78, x79, x80, x81, x82, x83, x84, x85, x86, x87, x88, x89, x90, x91, x92, x93, x94, x95, x96, x97, x98, x99, x100, x101, x102, x103, x104, x105, x106, x107, x108, x109, x110, x111, x112, x113, x114, x115, x116, x117, x118, x119, x120, x121, x122, x123, x124, x125, x126, x127, x128, x129, x130, x131, x132, x133, x134, x135, x136, x137, x138, x139, x140, x141, x142, x143, x144, x145, x146, x147, x148, x149, x150, x151, x152, x153, x154, x155, x156, x157, x158, x159, x160, x161, x162, x163, x164, x165, x166, x167, x168, x169, x170, x171, x172, x173, x174, x175, x176, x177, x178, x179, x180, x181, x182, x183, x184, x185, x186, x187, x188, x189, x190, x191, x192, x193, x194, x195, x196, x197, x198, x199, x200, x201, x202, x203, x204, x205, x206, x207, x208, x209, x210, x211, x212, x213, x214, x215, x216, x217, x218, x219, x220, x221, x222, x223, x224, x225, x226, x227, x228, x229, x230, x231, x232, x233, x234, x235, x236, x237, x238, x239, x240], []⟩ w := by
  obtain ⟨i0, i1, i2, i3, i4, i5, i6⟩ := hI
  subst hK
  have hA0 : (0 : Int) ≤ (A : Int) := by omega
  have hA1 : (A : Int) < (rs.length : Int) := by omega
  have HV := Lib.hid hv
  have HT0 := Lib.hid ht
  have HA := Lib.hid hA
  have hB0 : (0 : Int) ≤ (Bx : Int) := by omega
  have hB1 : (Bx : Int) < (rs.length : Int) := by omega
  obtain ⟨b0, b1, b2⟩ := hv.cells hB
  have b3 := ht.cells hB
  obtain ⟨a0, a1, a2⟩ := hv.cells hA
  have a3 := ht.cells hA
  have fzv := hv.frozen
  have fzt := ht.frozen
  have hltv := hv.lt
  have hltt := ht.lt
  generalize hr : rs.getD Bx noR = r at *
  generalize hq : rs.getD A noR = q at *
  have VAL := Lib.hid (hv.value hA r)
  have TRU1 := Lib.hid (show ∀ x y z : Value, TruAt (((w.setCell ⟨gv, A * 3, none⟩ x).setCell ⟨gv, A * 3 + 1, none⟩ y).setCell ⟨gv, A * 3 + 2, none⟩ z) gt rs from fun x y z => ((ht.other hvt _).other hvt _).other hvt _)
  have hbset : r = (rs.set A r).getD Bx noR := by
    by_cases e : A = Bx
    · subst e
      rw [List.getD_eq_getElem?_getD, List.getElem?_set_self hA]; rfl
    · rw [List.getD_eq_getElem?_getD, List.getElem?_set_ne e, ← List.getD_eq_getElem?_getD, hr]
  have hBs : Bx < (rs.set A r).length := by simpa using hB
  have S10 := (show ∀ W : World, W = (((w.setCell ⟨gv, A * 3, none⟩ (.int .i64 r.1.1)).setCell ⟨gv, A * 3 + 1, none⟩ (.int .i64 r.1.2.1)).setCell ⟨gv, A * 3 + 2, none⟩ (.string r.1.2.2)) → (W.cell? ⟨b, 1, none⟩ = some (.int .i64 (A : Int)) ∧ W.cell? ⟨b, 2, none⟩ = some (.int .i64 (Bx : Int)) ∧ W.cell? ⟨gv, Bx * 3, none⟩ = some (.int .i64 r.1.1) ∧ W.cell? ⟨gv, Bx * 3 + 1, none⟩ = some (.int .i64 r.1.2.1) ∧ W.cell? ⟨gv, Bx * 3 + 2, none⟩ = some (.string r.1.2.2) ∧ W.cell? ⟨gt, Bx, none⟩ = some (.int .i64 r.2)) from fun W hW => by
    subst hW
    have e : ∀ (W : World) (j q : Nat) (x u : Value), W.cell? ⟨b, q, none⟩ = some u → (W.setCell ⟨gv, j, none⟩ x).cell? ⟨b, q, none⟩ = some u := fun W j q x u h => (Go.World.cell?_of_block (heap_setCell_other W ⟨gv, j, none⟩ b x hbv)).trans h
    obtain ⟨c0, c1, c2⟩ := VAL.out.cells hBs
    rw [← hbset] at c0 c1 c2
    have c3 := (TRU1.out (.int .i64 r.1.1) (.int .i64 r.1.2.1) (.string r.1.2.2)).cells hB
    rw [hr] at c3
    exact ⟨e _ _ _ _ _ (e _ _ _ _ _ (e _ _ _ _ _ i1)), e _ _ _ _ _ (e _ _ _ _ _ (e _ _ _ _ _ i2)), c0, c1, c2, c3⟩)
  have S1 := Lib.hid (show ∀ W : World, W.heap = World.heap (((w.setCell ⟨gv, A * 3, none⟩ (.int .i64 r.1.1)).setCell ⟨gv, A * 3 + 1, none⟩ (.int .i64 r.1.2.1)).setCell ⟨gv, A * 3 + 2, none⟩ (.string r.1.2.2)) → (W.cell? ⟨b, 1, none⟩ = some (.int .i64 (A : Int)) ∧ W.cell? ⟨b, 2, none⟩ = some (.int .i64 (Bx : Int)) ∧ W.cell? ⟨gv, Bx * 3, none⟩ = some (.int .i64 r.1.1) ∧ W.cell? ⟨gv, Bx * 3 + 1, none⟩ = some (.int .i64 r.1.2.1) ∧ W.cell? ⟨gv, Bx * 3 + 2, none⟩ = some (.string r.1.2.2) ∧ W.cell? ⟨gt, Bx, none⟩ = some (.int .i64 r.2)) from fun W hW => by
    have hc : ∀ a : Addr, W.cell? a = World.cell? (((w.setCell ⟨gv, A * 3, none⟩ (.int .i64 r.1.1)).setCell ⟨gv, A * 3 + 1, none⟩ (.int .i64 r.1.2.1)).setCell ⟨gv, A * 3 + 2, none⟩ (.string r.1.2.2)) a := fun a => by unfold World.cell?; rw [hW]
    rw [hc, hc, hc, hc, hc, hc]
    exact S10 _ rfl)
  have S20 := (show ∀ W : World, W = ((((w.setCell ⟨gv, A * 3, none⟩ (.int .i64 r.1.1)).setCell ⟨gv, A * 3 + 1, none⟩ (.int .i64 r.1.2.1)).setCell ⟨gv, A * 3 + 2, none⟩ (.string r.1.2.2)).setCell ⟨gt, A, none⟩ (.int .i64 r.2)) → (W.cell? ⟨b, 1, none⟩ = some (.int .i64 (A : Int)) ∧ W.cell? ⟨b, 2, none⟩ = some (.int .i64 (Bx : Int)) ∧ W.cell? ⟨gv, Bx * 3, none⟩ = some (.int .i64 r.1.1) ∧ W.cell? ⟨gv, Bx * 3 + 1, none⟩ = some (.int .i64 r.1.2.1) ∧ W.cell? ⟨gv, Bx * 3 + 2, none⟩ = some (.string r.1.2.2) ∧ W.cell? ⟨gt, Bx, none⟩ = some (.int .i64 r.2)) from fun W hW => by
    subst hW
    obtain ⟨d1, d2, _, _, _, _⟩ := S10 _ rfl
    have e : ∀ (W : World) (j q : Nat) (x u : Value), W.cell? ⟨b, q, none⟩ = some u → (W.setCell ⟨gt, j, none⟩ x).cell? ⟨b, q, none⟩ = some u := fun W j q x u h => (Go.World.cell?_of_block (heap_setCell_other W ⟨gt, j, none⟩ b x hbt)).trans h
    obtain ⟨c0, c1, c2⟩ := (VAL.out.other (fun e => hvt e.symm) (j := A) (.int .i64 r.2)).cells hBs
    have c3 := ((TRU1.out (.int .i64 r.1.1) (.int .i64 r.1.2.1) (.string r.1.2.2)).truth A r).cells hBs
    rw [← hbset] at c0 c1 c2 c3
    exact ⟨e _ _ _ _ _ d1, e _ _ _ _ _ d2, c0, c1, c2, c3⟩)
  have S2 := Lib.hid (show ∀ W : World, W.heap = World.heap ((((w.setCell ⟨gv, A * 3, none⟩ (.int .i64 r.1.1)).setCell ⟨gv, A * 3 + 1, none⟩ (.int .i64 r.1.2.1)).setCell ⟨gv, A * 3 + 2, none⟩ (.string r.1.2.2)).setCell ⟨gt, A, none⟩ (.int .i64 r.2)) → (W.cell? ⟨b, 1, none⟩ = some (.int .i64 (A : Int)) ∧ W.cell? ⟨b, 2, none⟩ = some (.int .i64 (Bx : Int)) ∧ W.cell? ⟨gv, Bx * 3, none⟩ = some (.int .i64 r.1.1) ∧ W.cell? ⟨gv, Bx * 3 + 1, none⟩ = some (.int .i64 r.1.2.1) ∧ W.cell? ⟨gv, Bx * 3 + 2, none⟩ = some (.string r.1.2.2) ∧ W.cell? ⟨gt, Bx, none⟩ = some (.int .i64 r.2)) from fun W hW => by
    have hc : ∀ a : Addr, W.cell? a = World.cell? ((((w.setCell ⟨gv, A * 3, none⟩ (.int .i64 r.1.1)).setCell ⟨gv, A * 3 + 1, none⟩ (.int .i64 r.1.2.1)).setCell ⟨gv, A * 3 + 2, none⟩ (.string r.1.2.2)).setCell ⟨gt, A, none⟩ (.int .i64 r.2)) a := fun a => by unfold World.cell?; rw [hW]
    rw [hc, hc, hc, hc, hc, hc]
    exact S20 _ rfl)
  have FIN1 := Lib.hid (VAL.out.other (fun e => hvt e.symm) (j := A) (.int .i64 r.2))
  have FIN2 := Lib.hid ((TRU1.out (.int .i64 r.1.1) (.int .i64 r.1.2.1) (.string r.1.2.2)).truth A r)
  have HS := Lib.hid (((((Sto2.of_below (g := gv) (h := gt) (Below.refl w.heap.size w)).set1 (A * 3) (.int .i64 r.1.1)).set1 (A * 3 + 1) (.int .i64 r.1.2.1)).set1 (A * 3 + 2) (.string r.1.2.2)).set2 A (.int .i64 r.2))
  have k3 : ∀ (x y z : Value), (((w.setCell ⟨gv, A * 3, none⟩ x).setCell ⟨gv, A * 3 + 1, none⟩ y).setCell ⟨gv, A * 3 + 2, none⟩ z).cell? ⟨gt, A, none⟩ = some (.int .i64 q.2) := fun x y z => hq ▸ (TRU1.out x y z).cells hA
  have kf : ∀ (x y z : Value), (((w.setCell ⟨gv, A * 3, none⟩ x).setCell ⟨gv, A * 3 + 1, none⟩ y).setCell ⟨gv, A * 3 + 2, none⟩ z).frozen? ⟨gt, A, none⟩ = false := fun x y z => (TRU1.out x y z).frozen A
  clear hv ht hA hB hr hq hbset hBs S10 S20
  conv => arg 2; whnf
  refine wp_region_noPanic ?_
  go_region_held3 (fun w' => w'.cell? ⟨b, 1, none⟩ = some (.int .i64 (A : Int)) ∧ w'.cell? ⟨b, 2, none⟩ = some (.int .i64 (Bx : Int)) ∧ w'.cell? ⟨gv, Bx * 3, none⟩ = some (.int .i64 r.1.1) ∧ w'.cell? ⟨gv, Bx * 3 + 1, none⟩ = some (.int .i64 r.1.2.1) ∧ w'.cell? ⟨gv, Bx * 3 + 2, none⟩ = some (.string r.1.2.2) ∧ w'.cell? ⟨gt, Bx, none⟩ = some (.int .i64 r.2))
    (first | exact ⟨i1, i2, b0, b1, b2, b3⟩ | exact S1.out _ rfl | exact S2.out _ rfl)
    (fail)
  all_goals
    refine NoPanic.normal ?_
    first
      | exact ⟨FIN1.out, FIN2.out, Sto2.of_heap HS.out rfl rfl rfl rfl⟩
      | exact ⟨rfl, ⟨_, _, _, _, _, _, _, _, _, _, _, _, _, _, _, _, _, _, rfl⟩, FIN1.out, FIN2.out, Sto2.of_heap HS.out rfl rfl rfl rfl⟩
end Go.Proofs.Ytafhgilikcablaa
namespace Go.Proofs.Ytafhgilikcablaa
open Go.RowKit
set_option linter.unusedVariables false
set_option linter.unusedSimpArgs false
set_option maxRecDepth 100000
noncomputable def VdC40 : Code := ((Try.f76.body.bind (regOf 40)).getD .skip)
set_option maxHeartbeats 12800000 in
theorem vdr40_any (ra : Option Addr) (rl rc gv gt K b : Nat) (rs : List Reg) (op : ByteArray) (A Bx C : Nat) (v : Val) (J : Int) (w : World) (x0 x2 x3 x4 x5 x6 x9 x10 x12 x13 x14 x15 x16 x17 x18 x19 x20 x21 x22 x23 x24 x25 x26 x27 x28 x29 x30 x31 x32 x33 x34 x35 x36 x37 x38 x39 x40 x41 x42 x43 x44 x45 x46 x47 x48 x49 x50 x51 x52 x53 x54 x55 x56 x57 x58 x59 x60 x61 x62 x63 x64 x65 x66 x67 x68 x69 x70 x71 x72 x73 x74 x75 x76 x77 x78 x79 x80 x81 x82 x83 x84 x85 x86 x87 x88 x89 x90 x91 x92 x93 x94 x95 x96 x97 x98 x99 x100 x101 x102 x103 x104 x105 x106 x107 x108 x109 x110 x111 x112 x113 x114 x115 x116 x117 x118 x119 x120 x121 x122 x123 x124 x125 x126 x127 x128 x129 x130 x131 x132 x133 x134 x135 x136 x137 x138 x139 x140 x141 x142 x143 x144 x145 x146 x147 x148 x149 x150 x151 x152 x153 x154 x155 x156 x157 x158 x159 x160 x161 x162 x163 x164 x165 x166 x167 x168 x169 x170 x171 x172 x173 x174 x175 x176 x177 x178 x179 x180 x181 x182 x183 x184 x185 x186 x187 x188 x189 x190 x191 x192 x193 x194 x195 x196 x197 x198 x199 x200 x201 x202 x203 x204 x205 x206 x207 x208 x209 x210 x211 x212 x213 x214 x215 x216 x217 x218 x219 x220 x221 x222 x223 x224 x225 x226 x227 x228 x229 x230 x231 x232 x233 x234 x235 x236 x237 x238 x239 x240 : Value)
    (hI : InBox w b op A Bx C v) (hv : ValAt w gv rs) (ht : TruAt w gt rs) (hvt : gv ≠ gt) (hbv : b ≠ gv) (hbt : b ≠ gt) (hK : rs.length = K) (hk2 : K ≤ 1000) (hA : A < K) (hB : Bx < K) (hJ : (op = ⟨#[102, 97, 108, 115, 101]⟩ ∧ J = 0) ∨ (op = ⟨#[116, 114, 117, 101]⟩ ∧ J = 1)) :
    VdC40.wp Try.prog (fun e a' w' => e = .normal ∧ (∃ u198 u199 u200 u201 u202 u203 u204 u205 u206 : Value, a' = ⟨#[x0, .slice ra rl rc, x2, x3, x4, x5, x6, .slice (some ⟨gv, 0, none⟩) K K, .slice (some ⟨gt, 0, none⟩) K K, x9, x10, .pointer (some ⟨b, 0, none⟩), x12, x13, x14, x15, x16, x17, x18, x19, x20, x21, x22, x23, x24, x25, x26, x27, x28, x29, x30, x31, x32, x33, x34, x35, x36, x37, x38, x39, x40, x41, x42, x43, x44, x45, x46, x47, x48, x49, x50, x51, x52, x53, x54, x55, x56, x57, x58, x59, x60, x61, x62, x63, x64, x65, x66, x67, x68, x69, x70, x71, x72, x73, x74, x75, x76, x77, x78, x79, x80, x81, x82, x83, x84, x85, x86, x87, x88, x89, x90, x91, x92, x93, x94, x95, x96, x97, x98, x99, x100, x101, x102, x103, x104, x105, x106, x107, x108, x109, x110, x111, x112, x113, x114, x115, x116, x117, x118, x119, x120, x121, x122, x123, x124, x125, x126, x127, x128, x129, x130, x131, x132, x133, x134, x135, x136, x137, x138, x139, x140, x141, x142, x143, x144, x145, x146, x147, x148, x149, x150, x151, x152, x153, x154, x155, x156, x157, x158, x159, x160, x161, x162, x163, x164, x165, x166, x167, x168, x169, x170, x171, x172, x173, x174, x175, x176, x177, x178, x179, x180, x181, x182, x183, x184, x185, x186, x187, x188, x189, x190, x191, x192, x193, x194, x195, x196, x197, u198, u199, u200, u201, u202, u203, u204, u205, u206, .bool ((rs.getD Bx noR).2 == J), x208, x209, x210, x211, x212, x213, x214, x215, x216, x217, x218, x219, x220, x221, x222, x223, x224, x225, x226, x227, x228, x229, x230, x231, x232, x233, x234, x235, x236, x237, x238, x239, x240], []⟩) ∧ Below w.heap.size w w') ⟨#[x0, .slice ra rl rc, x2, x3, x4, x5, x6, .slice (some ⟨gv, 0, none⟩) K K, .slice (some ⟨gt, 0, none⟩) K K, x9, x10, .pointer (some ⟨b, 0, none⟩), x12, x13, x14, x15, x16, x17, x18, x19, x20, x21, x22, x23, x24, x25, x26, x27, x28, x29, x30, x31, x32, x33, x34, x35, x36, x37, x38, x39, x40, x41, x42, x43, x44, x45, x46, x47, x48, x49, x50, x51, x52, x53, x54, x55, x56, x57, x58, x59, x60, x61, x62, x63, x64, x65, x66, x67, x68, x69, x70, x71, x72, x73, x74, x75, x76, x77, x78, x79, x80, x81, x82, x83, x84, x85, x86, x87, x88, x89, x90, x91, x92, x93, x94, x95, x96, x97, x98, x99, x100, x101, x102, x103, x104, x105, x106, x107, x108, x109, x110, x111, x112, x113, x114, x115, x116, x117, x118, x119, x120, x121, x122, x123, x124, x125, x126, x127, x128, x129, x130, x131, x132, x133, x134, x135, x136, x137, x138, x139, x140, x141, x142, x143, x144, x145, x146, x147, x148, x149, x150, x151, x152, x153, x154, x155, x156, x157, x158, x159, x160, x161, x162, x163, x164, x165, x166, x167, x168, x169, x170, x171, x172, x173, x174, x175, x176, x177, x178, x179, x180, x181, x182, x183, x184, x185, x186, x187, x188, x189, x190, x191, x192, x193, x194, x195, x196, x197, x198, x199, x200, x201, x202, x203, x204, x205, x206, x207, x208, x209, x210, x211, x212, x213, x214, x215, x216, x217, x218, x219, x220, x221, x222, x223, x224, x225, x226, x227, x228, x229, x230, x231, x232, x233, x234, x235, x236, x237, x238, x239, x240], []⟩ w := by
  obtain ⟨i0, i1, i2, i3, i4, i5, i6⟩ := hI
  subst hK
  have HV := Lib.hid hv
  have HT0 := Lib.hid ht
  have HA := Lib.hid hA
  have hA0 : (0 : Int) ≤ (A : Int) := by omega
  have hA1 : (A : Int) < (rs.length : Int) := by omega
  have j0 := Fut.cell i0
  have j1 := Fut.cell i1
  have j2 := Fut.cell i2
  have j3 := Fut.cell i3
  have b3 := ht.cells hB
  have b3' := Fut.cell b3
  clear b3
  have hBx0 : (0 : Int) ≤ (Bx : Int) := by omega
  have hBx1 : (Bx : Int) < (rs.length : Int) := by omega
  clear hB
  clear hv ht i0 i1 i2 i3 i4 i5 i6 hA
  conv => arg 2; whnf
  rcases hJ with ⟨rfl, rfl⟩ | ⟨rfl, rfl⟩
  all_goals
    refine wp_region_fut (by kernel_rfl) (by kernel_rfl) ?_
    dsimp only
    repeat (go_big_quiet_step ((go_at_call 113; exact calls_fut ((vrtruth_any _ _).mono (fun _ _ ⟨h1, h2⟩ => ⟨h1, h2 ▸ Below.refl _ _⟩)))))
    refine wpQuiet_nil ?_
    rintro _ ⟨s, rfl⟩
    exact ⟨rfl, ⟨_, _, _, _, _, _, _, _, _, rfl⟩, s.bel⟩
end Go.Proofs.Ytafhgilikcablaa
namespace Go.Proofs.Ytafhgilikcablaa
open Go.RowKit
set_option linter.unusedVariables false
set_option linter.unusedSimpArgs false
set_option maxRecDepth 100000
noncomputable def VdC37 : Code := ((Try.f76.body.bind (regOf 37)).getD .skip)
set_option maxHeartbeats 12800000 in
theorem vdr37_any (ra : Option Addr) (rl rc gv gt K b : Nat) (rs : List Reg) (op : ByteArray) (A Bx C : Nat) (v : Val) (lw : ByteArray) (lF : Int → Int → Int) (w : World) (x0 x2 x3 x4 x5 x6 x9 x10 x12 x14 x15 x16 x17 x18 x19 x20 x21 x22 x23 x24 x25 x26 x27 x28 x29 x30 x31 x32 x33 x34 x35 x36 x37 x38 x39 x40 x41 x42 x43 x44 x45 x46 x47 x48 x49 x50 x51 x52 x53 x54 x55 x56 x57 x58 x59 x60 x61 x62 x63 x64 x65 x66 x67 x68 x69 x70 x71 x72 x73 x74 x75 x76 x77 x78 x79 x80 x81 x82 x83 x84 x85 x86 x87 x88 x89 x90 x91 x92 x93 x94 x95 x96 x97 x98 x99 x100 x101 x102 x103 x104 x105 x106 x107 x108 x109 x110 x111 x112 x113 x114 x115 x116 x117 x118 x119 x120 x121 x122 x123 x124 x125 x126 x127 x128 x129 x130 x131 x132 x133 x134 x135 x136 x137 x138 x139 x140 x141 x142 x143 x144 x145 x146 x147 x148 x149 x150 x151 x152 x153 x154 x155 x156 x157 x158 x159 x160 x161 x162 x163 x164 x165 x166 x167 x168 x169 x170 x171 x172 x173 x174 x175 x176 x177 x178 x179 x180 x181 x182 x183 x184 x185 x186 x187 x188 x189 x190 x191 x192 x193 x194 x195 x196 x197 x198 x199 x200 x201 x202 x203 x204 x205 x206 x207 x208 x209 x210 x211 x212 x213 x214 x215 x216 x217 x218 x219 x220 x221 x222 x223 x224 x225 x226 x227 x228 x229 x230 x231 x232 x233 x234 x235 x236 x237 x238 x239 x240 : Value)
    (hI : InBox w b op A Bx C v) (hv : ValAt w gv rs) (ht : TruAt w gt rs) (hvt : gv ≠ gt) (hbv : b ≠ gv) (hbt : b ≠ gt) (hK : rs.length = K) (hk2 : K ≤ 1000) (hA : A < K) (hB : Bx < K) (hC : C < K) (hL : ∀ (a b : Int) (w : World), Calls Try.prog 114 #[.string lw, .int .i64 a, .int .i64 b] w fun e w' => e = .returned (.int .i64 (lF a b)) ∧ w = w') :
    VdC37.wp Try.prog (fun e a' w' => e = .normal ∧ (∃ u179 u180 u181 u182 u183 u184 u185 u186 u187 u188 u189 u190 u191 u192 u193 u194 : Value, a' = ⟨#[x0, .slice ra rl rc, x2, x3, x4, x5, x6, .slice (some ⟨gv, 0, none⟩) K K, .slice (some ⟨gt, 0, none⟩) K K, x9, x10, .pointer (some ⟨b, 0, none⟩), x12, .string lw, x14, x15, x16, x17, x18, x19, x20, x21, x22, x23, x24, x25, x26, x27, x28, x29, x30, x31, x32, x33, x34, x35, x36, x37, x38, x39, x40, x41, x42, x43, x44, x45, x46, x47, x48, x49, x50, x51, x52, x53, x54, x55, x56, x57, x58, x59, x60, x61, x62, x63, x64, x65, x66, x67, x68, x69, x70, x71, x72, x73, x74, x75, x76, x77, x78, x79, x80, x81, x82, x83, x84, x85, x86, x87, x88, x89, x90, x91, x92, x93, x94, x95, x96, x97, x98, x99, x100, x101, x102, x103, x104, x105, x106, x107, x108, x109, x110, x111, x112, x113, x114, x115, x116, x117, x118, x119, x120, x121, x122, x123, x124, x125, x126, x127, x128, x129, x130, x131, x132, x133, x134, x135, x136, x137, x138, x139, x140, x141, x142, x143, x144, x145, x146, x147, x148, x149, x150, x151, x152, x153, x154, x155, x156, x157, x158, x159, x160, x161, x162, x163, x164, x165, x166, x167, x168, x169, x170, x171, x172, x173, x174, x175, x176, x177, x178, u179, u180, u181, u182, u183, u184, u185, u186, u187, u188, u189, u190, u191, u192, u193, u194, x195, x196, x197, x198, x199, x200, x201, x202, x203, x204, x205, x206, x207, x208, x209, x210, x211, x212, x213, x214, x215, x216, x217, x218, x219, x220, x221, x222, x223, x224, x225, x226, x227, x228, x229, x230, x231, x232, x233, x234, x235, x236, x237, x238, x239, x240], []⟩) ∧ ValAt w' gv (rs.set A ((rs.getD A noR).1, lF (rs.getD Bx noR).2 (rs.getD C noR).2)) ∧ TruAt w' gt (rs.set A ((rs.getD A noR).1, lF (rs.getD Bx noR).2 (rs.getD C noR).2)) ∧ Sto2 gv gt w w') ⟨#[x0, .slice ra rl rc, x2, x3, x4, x5, x6, .slice (some ⟨gv, 0, none⟩) K K, .slice (some ⟨gt, 0, none⟩) K K, x9, x10, .pointer (some ⟨b, 0, none⟩), x12, .string lw, x14, x15, x16, x17, x18, x19, x20, x21, x22, x23, x24, x25, x26, x27, x28, x29, x30, x31, x32, x33, x34, x35, x36, x37, x38, x39, x40, x41, x42, x43, x44, x45, x46, x47, x48, x49, x50, x51, x52, x53, x54, x55, x56, x57, x58, x59, x60, x61, x62, x63, x64, x65, x66, x67, x68, x69, x70, x71, x72, x73, x74, x75, x76, x77, x78, x79, x80, x81, x82, x83, x84, x85, x86, x87, x88, x89, x90, x91, x92, x93, x94, x95, x96, x97, x98, x99, x100, x101, x102, x103, x104, x105, x106, x107, x108, x109, x110, x111, x112, x113, x114, x115, x116, x117, x118, x119, x120, x121, x122, x123, x124, x125, x126, x127, x128, x129, x130, x131, x132, x133, x134, x135, x136, x137, x138, x139, x140, x141, x142, x143, x144, x145, x146, x147, x148, x149, x150, x151, x152, x153, x154, x155, x156, x157, x158, x159, x160, x161, x162, x163, x164, x165, x166, x167, x168, x169, x170, x171, x172, x173, x174, x175, x176, x177, x178, x179, x180, x181, x182, x183, x184, x185, x186, x187, x188, x189, x190, x191, x192, x193, x194, x195, x196, x197, x198, x199, x200, x201, x202, x203, x204, x205, x206, x207, x208, x209, x210, x211, x212, x213, x214, x215, x216, x217, x218, x219, x220, x221, x222, x223, x224, x225, x226, x227, x228, x229, x230, x231, x232, x233, x234, x235, x236, x237, x238, x239, x240], []⟩ w := by
  obtain ⟨i0, i1, i2, i3, i4, i5, i6⟩ := hI
  subst hK
  have HV := Lib.hid hv
  have HT0 := Lib.hid ht
  have HA := Lib.hid hA
  have hA0 : (0 : Int) ≤ (A : Int) := by omega
  have hA1 : (A : Int) < (rs.length : Int) := by omega
  have j0 := Fut.cell i0
  have j1 := Fut.cell i1
  have j2 := Fut.cell i2
  have j3 := Fut.cell i3
  have b3 := ht.cells hB
  have b3' := Fut.cell b3
  clear b3
  have hBx0 : (0 : Int) ≤ (Bx : Int) := by omega
  have hBx1 : (Bx : Int) < (rs.length : Int) := by omega
  have c3 := ht.cells hC
  have c3' := Fut.cell c3
  clear c3
  have hC0 : (0 : Int) ≤ (C : Int) := by omega
  have hC1 : (C : Int) < (rs.length : Int) := by omega
  clear hB hC
  have HK := Lib.hid (show ∀ s : Fut w, Calls Try.prog 114 #[.string lw, .int .i64 (rs.getD Bx noR).2, .int .i64 (rs.getD C noR).2] s.to fun e w' => e = .returned (.int .i64 (lF (rs.getD Bx noR).2 (rs.getD C noR).2)) ∧ Below s.to.heap.size s.to w' from fun s => (hL _ _ _).mono (fun _ _ ⟨h1, h2⟩ => ⟨h1, h2 ▸ Below.refl _ _⟩))
  clear hL
  clear hv ht i0 i1 i2 i3 i4 i5 i6 hA
  conv => arg 2; whnf
  refine wp_region_fut_tail 16 (by kernel_rfl) (by kernel_rfl) ?_
  simp only [List.take_succ_cons, List.take_zero, List.drop_succ_cons, List.drop_zero]
  repeat (go_big_quiet_step ((go_at_call 114; exact calls_fut (HK.out _))))
  refine wpQuiet_nil ?_
  intro s
  have hb2 := s.bel
  generalize s.to = w2 at *
  clear s
  have hv2 := HV.out.below hb2
  have ht2 := HT0.out.below hb2
  have HS := Lib.hid (Sto2.of_below (g := gv) (h := gt) hb2)
  have a3 := ht2.cells HA.out
  have fz := ht2.frozen
  have hlt := ht2.lt
  have HV2 := Lib.hid hv2
  have HT2 := Lib.hid ht2
  clear hb2 hv2 ht2
  go_wp2
  first
    | exact ⟨(HV2.out.other (fun e => hvt e.symm) _).same HA.out (lF (rs.getD Bx noR).2 (rs.getD C noR).2), HT2.out.truth A ((rs.getD A noR).1, lF (rs.getD Bx noR).2 (rs.getD C noR).2), HS.out.set2 _ _⟩
    | exact ⟨rfl, ⟨_, _, _, _, _, _, _, _, _, _, _, _, _, _, _, _, rfl⟩, (HV2.out.other (fun e => hvt e.symm) _).same HA.out (lF (rs.getD Bx noR).2 (rs.getD C noR).2), HT2.out.truth A ((rs.getD A noR).1, lF (rs.getD Bx noR).2 (rs.getD C noR).2), HS.out.set2 _ _⟩
end Go.Proofs.Ytafhgilikcablaa
namespace Go.Proofs.Ytafhgilikcablaa
open Go.RowKit
set_option linter.unusedVariables false
set_option linter.unusedSimpArgs false
set_option maxRecDepth 100000
noncomputable def VdC31 : Code := ((Try.f76.body.bind (regOf 31)).getD .skip)
set_option maxHeartbeats 12800000 in
theorem vdr31_any (ra : Option Addr) (rl rc gv gt K b : Nat) (rs : List Reg) (op : ByteArray) (A Bx C : Nat) (v : Val) (w : World) (x0 x2 x3 x4 x5 x6 x9 x10 x12 x13 x14 x15 x16 x17 x18 x19 x20 x21 x22 x23 x24 x25 x26 x27 x28 x29 x30 x31 x32 x33 x34 x35 x36 x37 x38 x39 x40 x41 x42 x43 x44 x45 x46 x47 x48 x49 x50 x51 x52 x53 x54 x55 x56 x57 x58 x59 x60 x61 x62 x63 x64 x65 x66 x67 x68 x69 x70 x71 x72 x73 x74 x75 x76 x77 x78 x79 x80 x81 x82 x83 x84 x85 x86 x87 x88 x89 x90 x91 x92 x93 x94 x95 x96 x97 x98 x99 x100 x101 x102 x103 x104 x105 x106 x107 x108 x109 x110 x111 x112 x113 x114 x115 x116 x117 x118 x119 x120 x121 x122 x123 x124 x125 x126 x127 x128 x129 x130 x131 x132 x133 x134 x135 x136 x137 x138 x139 x140 x141 x142 x143 x144 x145 x146 x147 x148 x149 x150 x151 x152 x153 x154 x155 x156 x157 x158 x159 x160 x161 x162 x163 x164 x165 x166 x167 x168 x169 x170 x171 x172 x173 x174 x175 x176 x177 x178 x179 x180 x181 x182 x183 x184 x185 x186 x187 x188 x189 x190 x191 x192 x193 x194 x195 x196 x197 x198 x199 x200 x201 x202 x203 x204 x205 x206 x207 x208 x209 x210 x211 x212 x213 x214 x215 x216 x217 x218 x219 x220 x221 x222 x223 x224 x225 x226 x227 x228 x229 x230 x231 x232 x233 x234 x235 x236 x237 x238 x239 x240 : Value)
    (hI : InBox w b op A Bx C v) (hv : ValAt w gv rs) (ht : TruAt w gt rs) (hvt : gv ≠ gt) (hbv : b ≠ gv) (hbt : b ≠ gt) (hK : rs.length = K) (hk2 : K ≤ 1000) (hA : A < K) (hB : Bx < K) :
    VdC31.wp Try.prog (fun e a' w' => e = .normal ∧ (∃ u163 u164 u165 u166 u167 u168 u169 u170 u171 u172 : Value, a' = ⟨#[x0, .slice ra rl rc, x2, x3, x4, x5, x6, .slice (some ⟨gv, 0, none⟩) K K, .slice (some ⟨gt, 0, none⟩) K K, x9, x10, .pointer (some ⟨b, 0, none⟩), x12, x13, x14, x15, x16, x17, x18, x19, x20, x21, x22, x23, x24, x25, x26, x27, x28, x29, x30, x31, x32, x33, x34, x35, x36, x37, x38, x39, x40, x41, x42, x43, x44, x45, x46, x47, x48, x49, x50, x51, x52, x53, x54, x55, x56, x57, x58, x59, x60, x61, x62, x63, x64, x65, x66, x67, x68, x69, x70, x71, x72, x73, x74, x75, x76, x77, x78, x79, x80, x81, x82, x83, x84, x85, x86, x87, x88, x89, x90, x91, x92, x93, x94, x95, x96, x97, x98, x99, x100, x101, x102, x103, x104, x105, x106, x107, x108, x109, x110, x111, x112, x113, x114, x115, x116, x117, x118, x119, x120, x121, x122, x123, x124, x125, x126, x127, x128, x129, x130, x131, x132, x133, x134, x135, x136, x137, x138, x139, x140, x141, x142, x143, x144, x145, x146, x147, x148, x149, x150, x151, x152, x153, x154, x155, x156, x157, x158, x159, x160, x161, x162, u163, u164, u165, u166, u167, u168, u169, u170, u171, u172, x173, x174, x175, x176, x177, x178, x179, x180, x181, x182, x183, x184, x185, x186, x187, x188, x189, x190, x191, x192, x193, x194, x195, x196, x197, x198, x199, x200, x201, x202, x203, x204, x205, x206, x207, x208, x209, x210, x211, x212, x213, x214, x215, x216, x217, x218, x219, x220, x221, x222, x223, x224, x225, x226, x227, x228, x229, x230, x231, x232, x233, x234, x235, x236, x237, x238, x239, x240], []⟩) ∧ ValAt w' gv (rs.set A ((rs.getD A noR).1, notI (rs.getD Bx noR).2)) ∧ TruAt w' gt (rs.set A ((rs.getD A noR).1, notI (rs.getD Bx noR).2)) ∧ Sto2 gv gt w w') ⟨#[x0, .slice ra rl rc, x2, x3, x4, x5, x6, .slice (some ⟨gv, 0, none⟩) K K, .slice (some ⟨gt, 0, none⟩) K K, x9, x10, .pointer (some ⟨b, 0, none⟩), x12, x13, x14, x15, x16, x17, x18, x19, x20, x21, x22, x23, x24, x25, x26, x27, x28, x29, x30, x31, x32, x33, x34, x35, x36, x37, x38, x39, x40, x41, x42, x43, x44, x45, x46, x47, x48, x49, x50, x51, x52, x53, x54, x55, x56, x57, x58, x59, x60, x61, x62, x63, x64, x65, x66, x67, x68, x69, x70, x71, x72, x73, x74, x75, x76, x77, x78, x79, x80, x81, x82, x83, x84, x85, x86, x87, x88, x89, x90, x91, x92, x93, x94, x95, x96, x97, x98, x99, x100, x101, x102, x103, x104, x105, x106, x107, x108, x109, x110, x111, x112, x113, x114, x115, x116, x117, x118, x119, x120, x121, x122, x123, x124, x125, x126, x127, x128, x129, x130, x131, x132, x133, x134, x135, x136, x137, x138, x139, x140, x141, x142, x143, x144, x145, x146, x147, x148, x149, x150, x151, x152, x153, x154, x155, x156, x157, x158, x159, x160, x161, x162, x163, x164, x165, x166, x167, x168, x169, x170, x171, x172, x173, x174, x175, x176, x177, x178, x179, x180, x181, x182, x183, x184, x185, x186, x187, x188, x189, x190, x191, x192, x193, x194, x195, x196, x197, x198, x199, x200, x201, x202, x203, x204, x205, x206, x207, x208, x209, x210, x211, x212, x213, x214, x215, x216, x217, x218, x219, x220, x221, x222, x223, x224, x225, x226, x227, x228, x229, x230, x231, x232, x233, x234, x235, x236, x237, x238, x239, x240], []⟩ w := by
  obtain ⟨i0, i1, i2, i3, i4, i5, i6⟩ := hI
  subst hK
  have HV := Lib.hid hv
  have HT0 := Lib.hid ht
  have HA := Lib.hid hA
  have hA0 : (0 : Int) ≤ (A : Int) := by omega
  have hA1 : (A : Int) < (rs.length : Int) := by omega
  have j0 := Fut.cell i0
  have j1 := Fut.cell i1
  have j2 := Fut.cell i2
  have j3 := Fut.cell i3
  have b3 := ht.cells hB
  have b3' := Fut.cell b3
  clear b3
  have hBx0 : (0 : Int) ≤ (Bx : Int) := by omega
  have hBx1 : (Bx : Int) < (rs.length : Int) := by omega
  clear hB
  clear hv ht i0 i1 i2 i3 i4 i5 i6 hA
  conv => arg 2; whnf
  refine wp_region_fut_tail 10 (by kernel_rfl) (by kernel_rfl) ?_
  simp only [List.take_succ_cons, List.take_zero, List.drop_succ_cons, List.drop_zero]
  repeat (go_big_quiet_step ((go_at_call 110; exact calls_fut ((rnot_any _ _).mono (fun _ _ ⟨h1, h2⟩ => ⟨h1, h2 ▸ Below.refl _ _⟩)))))
  refine wpQuiet_nil ?_
  intro s
  have hb2 := s.bel
  generalize s.to = w2 at *
  clear s
  have hv2 := HV.out.below hb2
  have ht2 := HT0.out.below hb2
  have HS := Lib.hid (Sto2.of_below (g := gv) (h := gt) hb2)
  have a3 := ht2.cells HA.out
  have fz := ht2.frozen
  have hlt := ht2.lt
  have HV2 := Lib.hid hv2
  have HT2 := Lib.hid ht2
  clear hb2 hv2 ht2
  go_wp2
  first
    | exact ⟨(HV2.out.other (fun e => hvt e.symm) _).same HA.out (notI (rs.getD Bx noR).2), HT2.out.truth A ((rs.getD A noR).1, notI (rs.getD Bx noR).2), HS.out.set2 _ _⟩
    | exact ⟨rfl, ⟨_, _, _, _, _, _, _, _, _, _, rfl⟩, (HV2.out.other (fun e => hvt e.symm) _).same HA.out (notI (rs.getD Bx noR).2), HT2.out.truth A ((rs.getD A noR).1, notI (rs.getD Bx noR).2), HS.out.set2 _ _⟩
end Go.Proofs.Ytafhgilikcablaa
namespace Go.Proofs.Ytafhgilikcablaa
open Go.RowKit
set_option linter.unusedVariables false
set_option linter.unusedSimpArgs false
set_option maxRecDepth 100000
noncomputable def VdC29 : Code := ((Try.f76.body.bind (regOf 29)).getD .skip)
set_option maxHeartbeats 12800000 in
theorem vdr29_any (ra : Option Addr) (rl rc gv gt K b : Nat) (rs : List Reg) (op : ByteArray) (A Bx C : Nat) (v : Val) (w : World) (x0 x2 x3 x4 x5 x6 x9 x10 x12 x13 x14 x15 x16 x17 x18 x19 x20 x21 x22 x23 x24 x25 x26 x27 x28 x29 x30 x31 x32 x33 x34 x35 x36 x37 x38 x39 x40 x41 x42 x43 x44 x45 x46 x47 x48 x49 x50 x51 x52 x53 x54 x55 x56 x57 x58 x59 x60 x61 x62 x63 x64 x65 x66 x67 x68 x69 x70 x71 x72 x73 x74 x75 x76 x77 x78 x79 x80 x81 x82 x83 x84 x85 x86 x87 x88 x89 x90 x91 x92 x93 x94 x95 x96 x97 x98 x99 x100 x101 x102 x103 x104 x105 x106 x107 x108 x109 x110 x111 x112 x113 x114 x115 x116 x117 x118 x119 x120 x121 x122 x123 x124 x125 x126 x127 x128 x129 x130 x131 x132 x133 x134 x135 x136 x137 x138 x139 x140 x141 x142 x143 x144 x145 x146 x147 x148 x149 x150 x151 x152 x153 x154 x155 x156 x157 x158 x159 x160 x161 x162 x163 x164 x165 x166 x167 x168 x169 x170 x171 x172 x173 x174 x175 x176 x177 x178 x179 x180 x181 x182 x183 x184 x185 x186 x187 x188 x189 x190 x191 x192 x193 x194 x195 x196 x197 x198 x199 x200 x201 x202 x203 x204 x205 x206 x207 x208 x209 x210 x211 x212 x213 x214 x215 x216 x217 x218 x219 x220 x221 x222 x223 x224 x225 x226 x227 x228 x229 x230 x231 x232 x233 x234 x235 x236 x237 x238 x239 x240 : Value)
    (hI : InBox w b op A Bx C v) (hv : ValAt w gv rs) (ht : TruAt w gt rs) (hvt : gv ≠ gt) (hbv : b ≠ gv) (hbt : b ≠ gt) (hK : rs.length = K) (hk2 : K ≤ 1000) (hA : A < K) (hB : Bx < K) :
    VdC29.wp Try.prog (fun e a' w' => e = .normal ∧ (∃ u149 u150 u151 u152 u153 u154 u155 u156 u157 u158 u159 u160 : Value, a' = ⟨#[x0, .slice ra rl rc, x2, x3, x4, x5, x6, .slice (some ⟨gv, 0, none⟩) K K, .slice (some ⟨gt, 0, none⟩) K K, x9, x10, .pointer (some ⟨b, 0, none⟩), x12, x13, x14, x15, x16, x17, x18, x19, x20, x21, x22, x23, x24, x25, x26, x27, x28, x29, x30, x31, x32, x33, x34, x35, x36, x37, x38, x39, x40, x41, x42, x43, x44, x45, x46, x47, x48, x49, x50, x51, x52, x53, x54, x55, x56, x57, x58, x59, x60, x61, x62, x63, x64, x65, x66, x67, x68, x69, x70, x71, x72, x73, x74, x75, x76, x77, x78, x79, x80, x81, x82, x83, x84, x85, x86, x87, x88, x89, x90, x91, x92, x93, x94, x95, x96, x97, x98, x99, x100, x101, x102, x103, x104, x105, x106, x107, x108, x109, x110, x111, x112, x113, x114, x115, x116, x117, x118, x119, x120, x121, x122, x123, x124, x125, x126, x127, x128, x129, x130, x131, x132, x133, x134, x135, x136, x137, x138, x139, x140, x141, x142, x143, x144, x145, x146, x147, x148, u149, u150, u151, u152, u153, u154, u155, u156, u157, u158, u159, u160, x161, x162, x163, x164, x165, x166, x167, x168, x169, x170, x171, x172, x173, x174, x175, x176, x177, x178, x179, x180, x181, x182, x183, x184, x185, x186, x187, x188, x189, x190, x191, x192, x193, x194, x195, x196, x197, x198, x199, x200, x201, x202, x203, x204, x205, x206, x207, x208, x209, x210, x211, x212, x213, x214, x215, x216, x217, x218, x219, x220, x221, x222, x223, x224, x225, x226, x227, x228, x229, x230, x231, x232, x233, x234, x235, x236, x237, x238, x239, x240], []⟩) ∧ ValAt w' gv (rs.set A ((rs.getD A noR).1, truthI ((rs.getD Bx noR).1.1 != 0))) ∧ TruAt w' gt (rs.set A ((rs.getD A noR).1, truthI ((rs.getD Bx noR).1.1 != 0))) ∧ Sto2 gv gt w w') ⟨#[x0, .slice ra rl rc, x2, x3, x4, x5, x6, .slice (some ⟨gv, 0, none⟩) K K, .slice (some ⟨gt, 0, none⟩) K K, x9, x10, .pointer (some ⟨b, 0, none⟩), x12, x13, x14, x15, x16, x17, x18, x19, x20, x21, x22, x23, x24, x25, x26, x27, x28, x29, x30, x31, x32, x33, x34, x35, x36, x37, x38, x39, x40, x41, x42, x43, x44, x45, x46, x47, x48, x49, x50, x51, x52, x53, x54, x55, x56, x57, x58, x59, x60, x61, x62, x63, x64, x65, x66, x67, x68, x69, x70, x71, x72, x73, x74, x75, x76, x77, x78, x79, x80, x81, x82, x83, x84, x85, x86, x87, x88, x89, x90, x91, x92, x93, x94, x95, x96, x97, x98, x99, x100, x101, x102, x103, x104, x105, x106, x107, x108, x109, x110, x111, x112, x113, x114, x115, x116, x117, x118, x119, x120, x121, x122, x123, x124, x125, x126, x127, x128, x129, x130, x131, x132, x133, x134, x135, x136, x137, x138, x139, x140, x141, x142, x143, x144, x145, x146, x147, x148, x149, x150, x151, x152, x153, x154, x155, x156, x157, x158, x159, x160, x161, x162, x163, x164, x165, x166, x167, x168, x169, x170, x171, x172, x173, x174, x175, x176, x177, x178, x179, x180, x181, x182, x183, x184, x185, x186, x187, x188, x189, x190, x191, x192, x193, x194, x195, x196, x197, x198, x199, x200, x201, x202, x203, x204, x205, x206, x207, x208, x209, x210, x211, x212, x213, x214, x215, x216, x217, x218, x219, x220, x221, x222, x223, x224, x225, x226, x227, x228, x229, x230, x231, x232, x233, x234, x235, x236, x237, x238, x239, x240], []⟩ w := by
  obtain ⟨i0, i1, i2, i3, i4, i5, i6⟩ := hI
  subst hK
  have HV := Lib.hid hv
  have HT0 := Lib.hid ht
  have HA := Lib.hid hA
  have hA0 : (0 : Int) ≤ (A : Int) := by omega
  have hA1 : (A : Int) < (rs.length : Int) := by omega
  have j0 := Fut.cell i0
  have j1 := Fut.cell i1
  have j2 := Fut.cell i2
  have j3 := Fut.cell i3
  obtain ⟨b0, b1, b2⟩ := hv.cells hB
  have b0' := Fut.cell b0
  have b1' := Fut.cell b1
  have b2' := Fut.cell b2
  have hBx0 : (0 : Int) ≤ (Bx : Int) := by omega
  have hBx1 : (Bx : Int) < (rs.length : Int) := by omega
  clear b0 b1 b2
  clear hB
  clear hv ht i0 i1 i2 i3 i4 i5 i6 hA
  conv => arg 2; whnf
  refine wp_region_fut_tail 12 (by kernel_rfl) (by kernel_rfl) ?_
  simp only [List.take_succ_cons, List.take_zero, List.drop_succ_cons, List.drop_zero]
  repeat (go_big_quiet_step ((go_at_call 113; exact calls_fut ((vrtruth_any _ _).mono (fun _ _ ⟨h1, h2⟩ => ⟨h1, h2 ▸ Below.refl _ _⟩)))))
  refine wpQuiet_nil ?_
  intro s
  have hb2 := s.bel
  generalize s.to = w2 at *
  clear s
  have hv2 := HV.out.below hb2
  have ht2 := HT0.out.below hb2
  have HS := Lib.hid (Sto2.of_below (g := gv) (h := gt) hb2)
  have a3 := ht2.cells HA.out
  have fz := ht2.frozen
  have hlt := ht2.lt
  have HV2 := Lib.hid hv2
  have HT2 := Lib.hid ht2
  clear hb2 hv2 ht2
  go_wp2
  first
    | exact ⟨(HV2.out.other (fun e => hvt e.symm) _).same HA.out (truthI ((rs.getD Bx noR).1.1 != 0)), HT2.out.truth A ((rs.getD A noR).1, truthI ((rs.getD Bx noR).1.1 != 0)), HS.out.set2 _ _⟩
    | exact ⟨rfl, ⟨_, _, _, _, _, _, _, _, _, _, _, _, rfl⟩, (HV2.out.other (fun e => hvt e.symm) _).same HA.out (truthI ((rs.getD Bx noR).1.1 != 0)), HT2.out.truth A ((rs.getD A noR).1, truthI ((rs.getD Bx noR).1.1 != 0)), HS.out.set2 _ _⟩
end Go.Proofs.Ytafhgilikcablaa
namespace Go.Proofs.Ytafhgilikcablaa
open Go.RowKit
set_option linter.unusedVariables false
set_option linter.unusedSimpArgs false
set_option maxRecDepth 100000
noncomputable def VdC27 : Code := ((Try.f76.body.bind (regOf 27)).getD .skip)
set_option maxHeartbeats 12800000 in
theorem vdr27_any (ra : Option Addr) (rl rc gv gt K b : Nat) (rs : List Reg) (op : ByteArray) (A Bx C : Nat) (v : Val) (w : World) (x0 x2 x3 x4 x5 x6 x9 x10 x12 x13 x14 x15 x16 x17 x18 x19 x20 x21 x22 x23 x24 x25 x26 x27 x28 x29 x30 x31 x32 x33 x34 x35 x36 x37 x38 x39 x40 x41 x42 x43 x44 x45 x46 x47 x48 x49 x50 x51 x52 x53 x54 x55 x56 x57 x58 x59 x60 x61 x62 x63 x64 x65 x66 x67 x68 x69 x70 x71 x72 x73 x74 x75 x76 x77 x78 x79 x80 x81 x82 x83 x84 x85 x86 x87 x88 x89 x90 x91 x92 x93 x94 x95 x96 x97 x98 x99 x100 x101 x102 x103 x104 x105 x106 x107 x108 x109 x110 x111 x112 x113 x114 x115 x116 x117 x118 x119 x120 x121 x122 x123 x124 x125 x126 x127 x128 x129 x130 x131 x132 x133 x134 x135 x136 x137 x138 x139 x140 x141 x142 x143 x144 x145 x146 x147 x148 x149 x150 x151 x152 x153 x154 x155 x156 x157 x158 x159 x160 x161 x162 x163 x164 x165 x166 x167 x168 x169 x170 x171 x172 x173 x174 x175 x176 x177 x178 x179 x180 x181 x182 x183 x184 x185 x186 x187 x188 x189 x190 x191 x192 x193 x194 x195 x196 x197 x198 x199 x200 x201 x202 x203 x204 x205 x206 x207 x208 x209 x210 x211 x212 x213 x214 x215 x216 x217 x218 x219 x220 x221 x222 x223 x224 x225 x226 x227 x228 x229 x230 x231 x232 x233 x234 x235 x236 x237 x238 x239 x240 : Value)
    (hI : InBox w b op A Bx C v) (hv : ValAt w gv rs) (ht : TruAt w gt rs) (hvt : gv ≠ gt) (hbv : b ≠ gv) (hbt : b ≠ gt) (hK : rs.length = K) (hk2 : K ≤ 1000) (hA : A < K) (hB : Bx < K) :
    VdC27.wp Try.prog (fun e a' w' => e = .normal ∧ (∃ u135 u136 u137 u138 u139 u140 u141 u142 u143 u144 u145 u146 : Value, a' = ⟨#[x0, .slice ra rl rc, x2, x3, x4, x5, x6, .slice (some ⟨gv, 0, none⟩) K K, .slice (some ⟨gt, 0, none⟩) K K, x9, x10, .pointer (some ⟨b, 0, none⟩), x12, x13, x14, x15, x16, x17, x18, x19, x20, x21, x22, x23, x24, x25, x26, x27, x28, x29, x30, x31, x32, x33, x34, x35, x36, x37, x38, x39, x40, x41, x42, x43, x44, x45, x46, x47, x48, x49, x50, x51, x52, x53, x54, x55, x56, x57, x58, x59, x60, x61, x62, x63, x64, x65, x66, x67, x68, x69, x70, x71, x72, x73, x74, x75, x76, x77, x78, x79, x80, x81, x82, x83, x84, x85, x86, x87, x88, x89, x90, x91, x92, x93, x94, x95, x96, x97, x98, x99, x100, x101, x102, x103, x104, x105, x106, x107, x108, x109, x110, x111, x112, x113, x114, x115, x116, x117, x118, x119, x120, x121, x122, x123, x124, x125, x126, x127, x128, x129, x130, x131, x132, x133, x134, u135, u136, u137, u138, u139, u140, u141, u142, u143, u144, u145, u146, x147, x148, x149, x150, x151, x152, x153, x154, x155, x156, x157, x158, x159, x160, x161, x162, x163, x164, x165, x166, x167, x168, x169, x170, x171, x172, x173, x174, x175, x176, x177, x178, x179, x180, x181, x182, x183, x184, x185, x186, x187, x188, x189, x190, x191, x192, x193, x194, x195, x196, x197, x198, x199, x200, x201, x202, x203, x204, x205, x206, x207, x208, x209, x210, x211, x212, x213, x214, x215, x216, x217, x218, x219, x220, x221, x222, x223, x224, x225, x226, x227, x228, x229, x230, x231, x232, x233, x234, x235, x236, x237, x238, x239, x240], []⟩) ∧ ValAt w' gv (rs.set A ((rs.getD A noR).1, truthI ((rs.getD Bx noR).1.1 == 0))) ∧ TruAt w' gt (rs.set A ((rs.getD A noR).1, truthI ((rs.getD Bx noR).1.1 == 0))) ∧ Sto2 gv gt w w') ⟨#[x0, .slice ra rl rc, x2, x3, x4, x5, x6, .slice (some ⟨gv, 0, none⟩) K K, .slice (some ⟨gt, 0, none⟩) K K, x9, x10, .pointer (some ⟨b, 0, none⟩), x12, x13, x14, x15, x16, x17, x18, x19, x20, x21, x22, x23, x24, x25, x26, x27, x28, x29, x30, x31, x32, x33, x34, x35, x36, x37, x38, x39, x40, x41, x42, x43, x44, x45, x46, x47, x48, x49, x50, x51, x52, x53, x54, x55, x56, x57, x58, x59, x60, x61, x62, x63, x64, x65, x66, x67, x68, x69, x70, x71, x72, x73, x74, x75, x76, x77, x78, x79, x80, x81, x82, x83, x84, x85, x86, x87, x88, x89, x90, x91, x92, x93, x94, x95, x96, x97, x98, x99, x100, x101, x102, x103, x104, x105, x106, x107, x108, x109, x110, x111, x112, x113, x114, x115, x116, x117, x118, x119, x120, x121, x122, x123, x124, x125, x126, x127, x128, x129, x130, x131, x132, x133, x134, x135, x136, x137, x138, x139, x140, x141, x142, x143, x144, x145, x146, x147, x148, x149, x150, x151, x152, x153, x154, x155, x156, x157, x158, x159, x160, x161, x162, x163, x164, x165, x166, x167, x168, x169, x170, x171, x172, x173, x174, x175, x176, x177, x178, x179, x180, x181, x182, x183, x184, x185, x186, x187, x188, x189, x190, x191, x192, x193, x194, x195, x196, x197, x198, x199, x200, x201, x202, x203, x204, x205, x206, x207, x208, x209, x210, x211, x212, x213, x214, x215, x216, x217, x218, x219, x220, x221, x222, x223, x224, x225, x226, x227, x228, x229, x230, x231, x232, x233, x234, x235, x236, x237, x238, x239, x240], []⟩ w := by
  obtain ⟨i0, i1, i2, i3, i4, i5, i6⟩ := hI
  subst hK
  have HV := Lib.hid hv
  have HT0 := Lib.hid ht
  have HA := Lib.hid hA
  have hA0 : (0 : Int) ≤ (A : Int) := by omega
  have hA1 : (A : Int) < (rs.length : Int) := by omega
  have j0 := Fut.cell i0
  have j1 := Fut.cell i1
  have j2 := Fut.cell i2
  have j3 := Fut.cell i3
  obtain ⟨b0, b1, b2⟩ := hv.cells hB
  have b0' := Fut.cell b0
  have b1' := Fut.cell b1
  have b2' := Fut.cell b2
  have hBx0 : (0 : Int) ≤ (Bx : Int) := by omega
  have hBx1 : (Bx : Int) < (rs.length : Int) := by omega
  clear b0 b1 b2
  clear hB
  clear hv ht i0 i1 i2 i3 i4 i5 i6 hA
  conv => arg 2; whnf
  refine wp_region_fut_tail 12 (by kernel_rfl) (by kernel_rfl) ?_
  simp only [List.take_succ_cons, List.take_zero, List.drop_succ_cons, List.drop_zero]
  repeat (go_big_quiet_step ((go_at_call 113; exact calls_fut ((vrtruth_any _ _).mono (fun _ _ ⟨h1, h2⟩ => ⟨h1, h2 ▸ Below.refl _ _⟩)))))
  refine wpQuiet_nil ?_
  intro s
  have hb2 := s.bel
  generalize s.to = w2 at *
  clear s
  have hv2 := HV.out.below hb2
  have ht2 := HT0.out.below hb2
  have HS := Lib.hid (Sto2.of_below (g := gv) (h := gt) hb2)
  have a3 := ht2.cells HA.out
  have fz := ht2.frozen
  have hlt := ht2.lt
  have HV2 := Lib.hid hv2
  have HT2 := Lib.hid ht2
  clear hb2 hv2 ht2
  go_wp2
  first
    | exact ⟨(HV2.out.other (fun e => hvt e.symm) _).same HA.out (truthI ((rs.getD Bx noR).1.1 == 0)), HT2.out.truth A ((rs.getD A noR).1, truthI ((rs.getD Bx noR).1.1 == 0)), HS.out.set2 _ _⟩
    | exact ⟨rfl, ⟨_, _, _, _, _, _, _, _, _, _, _, _, rfl⟩, (HV2.out.other (fun e => hvt e.symm) _).same HA.out (truthI ((rs.getD Bx noR).1.1 == 0)), HT2.out.truth A ((rs.getD A noR).1, truthI ((rs.getD Bx noR).1.1 == 0)), HS.out.set2 _ _⟩
end Go.Proofs.Ytafhgilikcablaa
namespace Go.Proofs.Ytafhgilikcablaa
open Go.RowKit
set_option linter.unusedVariables false
set_option linter.unusedSimpArgs false
set_option maxRecDepth 100000
noncomputable def VdC25 : Code := ((Try.f76.body.bind (regOf 25)).getD .skip)
set_option maxHeartbeats 12800000 in
theorem vdr25_any (ra : Option Addr) (rl rc gv gt K b : Nat) (rs : List Reg) (op : ByteArray) (A Bx C : Nat) (v : Val) (w : World) (x0 x2 x3 x4 x5 x6 x9 x10 x12 x13 x14 x15 x16 x17 x18 x19 x20 x21 x22 x23 x24 x25 x26 x27 x28 x29 x30 x31 x32 x33 x34 x35 x36 x37 x38 x39 x40 x41 x42 x43 x44 x45 x46 x47 x48 x49 x50 x51 x52 x53 x54 x55 x56 x57 x58 x59 x60 x61 x62 x63 x64 x65 x66 x67 x68 x69 x70 x71 x72 x73 x74 x75 x76 x77 x78 x79 x80 x81 x82 x83 x84 x85 x86 x87 x88 x89 x90 x91 x92 x93 x94 x95 x96 x97 x98 x99 x100 x101 x102 x103 x104 x105 x106 x107 x108 x109 x110 x111 x112 x113 x114 x115 x116 x117 x118 x119 x120 x121 x122 x123 x124 x125 x126 x127 x128 x129 x130 x131 x132 x133 x134 x135 x136 x137 x138 x139 x140 x141 x142 x143 x144 x145 x146 x147 x148 x149 x150 x151 x152 x153 x154 x155 x156 x157 x158 x159 x160 x161 x162 x163 x164 x165 x166 x167 x168 x169 x170 x171 x172 x173 x174 x175 x176 x177 x178 x179 x180 x181 x182 x183 x184 x185 x186 x187 x188 x189 x190 x191 x192 x193 x194 x195 x196 x197 x198 x199 x200 x201 x202 x203 x204 x205 x206 x207 x208 x209 x210 x211 x212 x213 x214 x215 x216 x217 x218 x219 x220 x221 x222 x223 x224 x225 x226 x227 x228 x229 x230 x231 x232 x233 x234 x235 x236 x237 x238 x239 x240 : Value)
    (hI : InBox w b op A Bx C v) (hv : ValAt w gv rs) (ht : TruAt w gt rs) (hvt : gv ≠ gt) (hbv : b ≠ gv) (hbt : b ≠ gt) (hK : rs.length = K) (hk2 : K ≤ 1000) (hA : A < K) (hB : Bx < K) (hC : C < K) (hBn : InR (rs.getD Bx noR).1.2.1) (hCn : InR (rs.getD C noR).1.2.1) :
    VdC25.wp Try.prog (fun e a' w' => e = .normal ∧ (∃ u113 u114 u115 u116 u117 u118 u119 u120 u121 u122 u123 u124 u125 u126 u127 u128 u129 u130 u131 u132 : Value, a' = ⟨#[x0, .slice ra rl rc, x2, x3, x4, x5, x6, .slice (some ⟨gv, 0, none⟩) K K, .slice (some ⟨gt, 0, none⟩) K K, x9, x10, .pointer (some ⟨b, 0, none⟩), .int .i64 (recF op (rs.getD Bx noR).1.1 (rs.getD Bx noR).1.2.1 (rs.getD Bx noR).1.2.2 (rs.getD C noR).1.1 (rs.getD C noR).1.2.1 (rs.getD C noR).1.2.2).2.2, x13, x14, x15, x16, x17, x18, x19, x20, x21, x22, x23, x24, x25, x26, x27, x28, x29, x30, x31, x32, x33, x34, x35, x36, x37, x38, x39, x40, x41, x42, x43, x44, x45, x46, x47, x48, x49, x50, x51, x52, x53, x54, x55, x56, x57, x58, x59, x60, x61, x62, x63, x64, x65, x66, x67, x68, x69, x70, x71, x72, x73, x74, x75, x76, x77, x78, x79, x80, x81, x82, x83, x84, x85, x86, x87, x88, x89, x90, x91, x92, x93, x94, x95, x96, x97, x98, x99, x100, x101, x102, x103, x104, x105, x106, x107, x108, x109, x110, x111, x112, u113, u114, u115, u116, u117, u118, u119, u120, u121, u122, u123, u124, u125, u126, u127, u128, u129, u130, u131, u132, x133, x134, x135, x136, x137, x138, x139, x140, x141, x142, x143, x144, x145, x146, x147, x148, x149, x150, x151, x152, x153, x154, x155, x156, x157, x158, x159, x160, x161, x162, x163, x164, x165, x166, x167, x168, x169, x170, x171, x172, x173, x174, x175, x176, x177, x178, x179, x180, x181, x182, x183, x184, x185, x186, x187, x188, x189, x190, x191, x192, x193, x194, x195, x196, x197, x198, x199, x200, x201, x202, x203, x204, x205, x206, x207, x208, x209, x210, x211, x212, x213, x214, x215, x216, x217, x218, x219, x220, x221, x222, x223, x224, x225, x226, x227, x228, x229, x230, x231, x232, x233, x234, x235, x236, x237, x238, x239, x240], []⟩) ∧ ValAt w' gv (rs.set A (((recF op (rs.getD Bx noR).1.1 (rs.getD Bx noR).1.2.1 (rs.getD Bx noR).1.2.2 (rs.getD C noR).1.1 (rs.getD C noR).1.2.1 (rs.getD C noR).1.2.2).1, (recF op (rs.getD Bx noR).1.1 (rs.getD Bx noR).1.2.1 (rs.getD Bx noR).1.2.2 (rs.getD C noR).1.1 (rs.getD C noR).1.2.1 (rs.getD C noR).1.2.2).2.1, ⟨#[]⟩), (rs.getD A noR).2)) ∧ TruAt w' gt (rs.set A (((recF op (rs.getD Bx noR).1.1 (rs.getD Bx noR).1.2.1 (rs.getD Bx noR).1.2.2 (rs.getD C noR).1.1 (rs.getD C noR).1.2.1 (rs.getD C noR).1.2.2).1, (recF op (rs.getD Bx noR).1.1 (rs.getD Bx noR).1.2.1 (rs.getD Bx noR).1.2.2 (rs.getD C noR).1.1 (rs.getD C noR).1.2.1 (rs.getD C noR).1.2.2).2.1, ⟨#[]⟩), (rs.getD A noR).2)) ∧ Sto2 gv gt w w') ⟨#[x0, .slice ra rl rc, x2, x3, x4, x5, x6, .slice (some ⟨gv, 0, none⟩) K K, .slice (some ⟨gt, 0, none⟩) K K, x9, x10, .pointer (some ⟨b, 0, none⟩), x12, x13, x14, x15, x16, x17, x18, x19, x20, x21, x22, x23, x24, x25, x26, x27, x28, x29, x30, x31, x32, x33, x34, x35, x36, x37, x38, x39, x40, x41, x42, x43, x44, x45, x46, x47, x48, x49, x50, x51, x52, x53, x54, x55, x56, x57, x58, x59, x60, x61, x62, x63, x64, x65, x66, x67, x68, x69, x70, x71, x72, x73, x74, x75, x76, x77, x78, x79, x80, x81, x82, x83, x84, x85, x86, x87, x88, x89, x90, x91, x92, x93, x94, x95, x96, x97, x98, x99, x100, x101, x102, x103, x104, x105, x106, x107, x108, x109, x110, x111, x112, x113, x114, x115, x116, x117, x118, x119, x120, x121, x122, x123, x124, x125, x126, x127, x128, x129, x130, x131, x132, x133, x134, x135, x136, x137, x138, x139, x140, x141, x142, x143, x144, x145, x146, x147, x148, x149, x150, x151, x152, x153, x154, x155, x156, x157, x158, x159, x160, x161, x162, x163, x164, x165, x166, x167, x168, x169, x170, x171, x172, x173, x174, x175, x176, x177, x178, x179, x180, x181, x182, x183, x184, x185, x186, x187, x188, x189, x190, x191, x192, x193, x194, x195, x196, x197, x198, x199, x200, x201, x202, x203, x204, x205, x206, x207, x208, x209, x210, x211, x212, x213, x214, x215, x216, x217, x218, x219, x220, x221, x222, x223, x224, x225, x226, x227, x228, x229, x230, x231, x232, x233, x234, x235, x236, x237, x238, x239, x240], []⟩ w := by
  obtain ⟨i0, i1, i2, i3, i4, i5, i6⟩ := hI
  subst hK
  have HV := Lib.hid hv
  have HT0 := Lib.hid ht
  have HA := Lib.hid hA
  have hA0 : (0 : Int) ≤ (A : Int) := by omega
  have hA1 : (A : Int) < (rs.length : Int) := by omega
  have j0 := Fut.cell i0
  have j1 := Fut.cell i1
  have j2 := Fut.cell i2
  have j3 := Fut.cell i3
  obtain ⟨b0, b1, b2⟩ := hv.cells hB
  have b0' := Fut.cell b0
  have b1' := Fut.cell b1
  have b2' := Fut.cell b2
  have hBx0 : (0 : Int) ≤ (Bx : Int) := by omega
  have hBx1 : (Bx : Int) < (rs.length : Int) := by omega
  clear b0 b1 b2
  obtain ⟨c0, c1, c2⟩ := hv.cells hC
  have c0' := Fut.cell c0
  have c1' := Fut.cell c1
  have c2' := Fut.cell c2
  have hC0 : (0 : Int) ≤ (C : Int) := by omega
  have hC1 : (C : Int) < (rs.length : Int) := by omega
  clear c0 c1 c2
  have HK := Lib.hid (show ∀ (s : Fut w), Calls Try.prog 111 #[.string op, .agg #[.int .i64 (rs.getD Bx noR).1.1, .int .i64 (rs.getD Bx noR).1.2.1, .string (rs.getD Bx noR).1.2.2], .agg #[.int .i64 (rs.getD C noR).1.1, .int .i64 (rs.getD C noR).1.2.1, .string (rs.getD C noR).1.2.2]] s.to fun e w' => e = recE (recF op (rs.getD Bx noR).1.1 (rs.getD Bx noR).1.2.1 (rs.getD Bx noR).1.2.2 (rs.getD C noR).1.1 (rs.getD C noR).1.2.1 (rs.getD C noR).1.2.2).1 (recF op (rs.getD Bx noR).1.1 (rs.getD Bx noR).1.2.1 (rs.getD Bx noR).1.2.2 (rs.getD C noR).1.1 (rs.getD C noR).1.2.1 (rs.getD C noR).1.2.2).2.1 (recF op (rs.getD Bx noR).1.1 (rs.getD Bx noR).1.2.1 (rs.getD Bx noR).1.2.2 (rs.getD C noR).1.1 (rs.getD C noR).1.2.1 (rs.getD C noR).1.2.2).2.2 ∧ Below s.to.heap.size s.to w' from fun s => rec25_any _ _ _ _ _ _ _ (Lib.hid hBn) (Lib.hid hCn) _ _ _ rfl _)
  unfold recE at HK
  generalize recF op (rs.getD Bx noR).1.1 (rs.getD Bx noR).1.2.1 (rs.getD Bx noR).1.2.2 (rs.getD C noR).1.1 (rs.getD C noR).1.2.1 (rs.getD C noR).1.2.2 = y at *
  clear hB hBn hC hCn
  clear hv ht i0 i1 i2 i3 i4 i5 i6 hA
  conv => arg 2; whnf
  refine wp_region_fut_float 20 [18] (by kernel_rfl) (by kernel_rfl) ?_
  simp only [List.take_succ_cons, List.take_zero, List.drop_succ_cons, List.drop_zero]
  repeat (go_big_quiet_step ((go_at_call 111; exact calls_fut (HK.out _))))
  refine wpQuiet_nil ?_
  intro s
  have hb2 := s.bel
  generalize s.to = w2 at *
  clear s
  have hv2 := HV.out.below hb2
  have ht2 := HT0.out.below hb2
  have HS := Lib.hid (Sto2.of_below (g := gv) (h := gt) hb2)
  obtain ⟨a0, a1, a2⟩ := hv2.cells HA.out
  have fz := hv2.frozen
  have hlt := hv2.lt
  have HV2 := Lib.hid hv2
  have HT2 := Lib.hid ht2
  clear hb2 hv2 ht2
  go_wp2
  refine NoPanic.normal ?_
  first
    | exact ⟨HV2.out.value HA.out ((y.1, y.2.1, ⟨#[]⟩), (rs.getD A noR).2), (((HT2.out.other hvt _).other hvt _).other hvt _).same HA.out ((y.1, y.2.1, ⟨#[]⟩)), ((HS.out.set1 _ _).set1 _ _).set1 _ _⟩
    | exact ⟨rfl, ⟨_, _, _, _, _, _, _, _, _, _, _, _, _, _, _, _, _, _, _, _, rfl⟩, HV2.out.value HA.out ((y.1, y.2.1, ⟨#[]⟩), (rs.getD A noR).2), (((HT2.out.other hvt _).other hvt _).other hvt _).same HA.out ((y.1, y.2.1, ⟨#[]⟩)), ((HS.out.set1 _ _).set1 _ _).set1 _ _⟩
end Go.Proofs.Ytafhgilikcablaa
namespace Go.Proofs.Ytafhgilikcablaa
open Go.RowKit
set_option linter.unusedVariables false
set_option linter.unusedSimpArgs false
set_option maxRecDepth 100000
noncomputable def VdC21 : Code := ((Try.f76.body.bind (regOf 21)).getD .skip)
set_option maxHeartbeats 12800000 in
theorem vdr21_any (ra : Option Addr) (rl rc gv gt K b : Nat) (rs : List Reg) (op : ByteArray) (A Bx C : Nat) (v : Val) (w : World) (x0 x2 x3 x4 x5 x6 x9 x10 x12 x13 x14 x15 x16 x17 x18 x19 x20 x21 x22 x23 x24 x25 x26 x27 x28 x29 x30 x31 x32 x33 x34 x35 x36 x37 x38 x39 x40 x41 x42 x43 x44 x45 x46 x47 x48 x49 x50 x51 x52 x53 x54 x55 x56 x57 x58 x59 x60 x61 x62 x63 x64 x65 x66 x67 x68 x69 x70 x71 x72 x73 x74 x75 x76 x77 x78 x79 x80 x81 x82 x83 x84 x85 x86 x87 x88 x89 x90 x91 x92 x93 x94 x95 x96 x97 x98 x99 x100 x101 x102 x103 x104 x105 x106 x107 x108 x109 x110 x111 x112 x113 x114 x115 x116 x117 x118 x119 x120 x121 x122 x123 x124 x125 x126 x127 x128 x129 x130 x131 x132 x133 x134 x135 x136 x137 x138 x139 x140 x141 x142 x143 x144 x145 x146 x147 x148 x149 x150 x151 x152 x153 x154 x155 x156 x157 x158 x159 x160 x161 x162 x163 x164 x165 x166 x167 x168 x169 x170 x171 x172 x173 x174 x175 x176 x177 x178 x179 x180 x181 x182 x183 x184 x185 x186 x187 x188 x189 x190 x191 x192 x193 x194 x195 x196 x197 x198 x199 x200 x201 x202 x203 x204 x205 x206 x207 x208 x209 x210 x211 x212 x213 x214 x215 x216 x217 x218 x219 x220 x221 x222 x223 x224 x225 x226 x227 x228 x229 x230 x231 x232 x233 x234 x235 x236 x237 x238 x239 x240 : Value)
    (hI : InBox w b op A Bx C v) (hv : ValAt w gv rs) (ht : TruAt w gt rs) (hvt : gv ≠ gt) (hbv : b ≠ gv) (hbt : b ≠ gt) (hK : rs.length = K) (hk2 : K ≤ 1000) (hA : A < K) (hB : Bx < K) (hBn : InR (rs.getD Bx noR).1.2.1) :
    VdC21.wp Try.prog (fun e a' w' => e = .normal ∧ (∃ u95 u96 u97 u98 u99 u100 u101 u102 u103 u104 u105 u106 u107 u108 : Value, a' = ⟨#[x0, .slice ra rl rc, x2, x3, x4, x5, x6, .slice (some ⟨gv, 0, none⟩) K K, .slice (some ⟨gt, 0, none⟩) K K, x9, x10, .pointer (some ⟨b, 0, none⟩), .int .i64 (recF ⟨#[45]⟩ 1 0 ⟨#[]⟩ (rs.getD Bx noR).1.1 (rs.getD Bx noR).1.2.1 (rs.getD Bx noR).1.2.2).2.2, x13, x14, x15, x16, x17, x18, x19, x20, x21, x22, x23, x24, x25, x26, x27, x28, x29, x30, x31, x32, x33, x34, x35, x36, x37, x38, x39, x40, x41, x42, x43, x44, x45, x46, x47, x48, x49, x50, x51, x52, x53, x54, x55, x56, x57, x58, x59, x60, x61, x62, x63, x64, x65, x66, x67, x68, x69, x70, x71, x72, x73, x74, x75, x76, x77, x78, x79, x80, x81, x82, x83, x84, x85, x86, x87, x88, x89, x90, x91, x92, x93, x94, u95, u96, u97, u98, u99, u100, u101, u102, u103, u104, u105, u106, u107, u108, x109, x110, x111, x112, x113, x114, x115, x116, x117, x118, x119, x120, x121, x122, x123, x124, x125, x126, x127, x128, x129, x130, x131, x132, x133, x134, x135, x136, x137, x138, x139, x140, x141, x142, x143, x144, x145, x146, x147, x148, x149, x150, x151, x152, x153, x154, x155, x156, x157, x158, x159, x160, x161, x162, x163, x164, x165, x166, x167, x168, x169, x170, x171, x172, x173, x174, x175, x176, x177, x178, x179, x180, x181, x182, x183, x184, x185, x186, x187, x188, x189, x190, x191, x192, x193, x194, x195, x196, x197, x198, x199, x200, x201, x202, x203, x204, x205, x206, x207, x208, x209, x210, x211, x212, x213, x214, x215, x216, x217, x218, x219, x220, x221, x222, x223, x224, x225, x226, x227, x228, x229, x230, x231, x232, x233, x234, x235, x236, x237, x238, x239, x240], []⟩) ∧ ValAt w' gv (rs.set A (((recF ⟨#[45]⟩ 1 0 ⟨#[]⟩ (rs.getD Bx noR).1.1 (rs.getD Bx noR).1.2.1 (rs.getD Bx noR).1.2.2).1, (recF ⟨#[45]⟩ 1 0 ⟨#[]⟩ (rs.getD Bx noR).1.1 (rs.getD Bx noR).1.2.1 (rs.getD Bx noR).1.2.2).2.1, ⟨#[]⟩), (rs.getD A noR).2)) ∧ TruAt w' gt (rs.set A (((recF ⟨#[45]⟩ 1 0 ⟨#[]⟩ (rs.getD Bx noR).1.1 (rs.getD Bx noR).1.2.1 (rs.getD Bx noR).1.2.2).1, (recF ⟨#[45]⟩ 1 0 ⟨#[]⟩ (rs.getD Bx noR).1.1 (rs.getD Bx noR).1.2.1 (rs.getD Bx noR).1.2.2).2.1, ⟨#[]⟩), (rs.getD A noR).2)) ∧ Sto2 gv gt w w') ⟨#[x0, .slice ra rl rc, x2, x3, x4, x5, x6, .slice (some ⟨gv, 0, none⟩) K K, .slice (some ⟨gt, 0, none⟩) K K, x9, x10, .pointer (some ⟨b, 0, none⟩), x12, x13, x14, x15, x16, x17, x18, x19, x20, x21, x22, x23, x24, x25, x26, x27, x28, x29, x30, x31, x32, x33, x34, x35, x36, x37, x38, x39, x40, x41, x42, x43, x44, x45, x46, x47, x48, x49, x50, x51, x52, x53, x54, x55, x56, x57, x58, x59, x60, x61, x62, x63, x64, x65, x66, x67, x68, x69, x70, x71, x72, x73, x74, x75, x76, x77, x78, x79, x80, x81, x82, x83, x84, x85, x86, x87, x88, x89, x90, x91, x92, x93, x94, x95, x96, x97, x98, x99, x100, x101, x102, x103, x104, x105, x106, x107, x108, x109, x110, x111, x112, x113, x114, x115, x116, x117, x118, x119, x120, x121, x122, x123, x124, x125, x126, x127, x128, x129, x130, x131, x132, x133, x134, x135, x136, x137, x138, x139, x140, x141, x142, x143, x144, x145, x146, x147, x148, x149, x150, x151, x152, x153, x154, x155, x156, x157, x158, x159, x160, x161, x162, x163, x164, x165, x166, x167, x168, x169, x170, x171, x172, x173, x174, x175, x176, x177, x178, x179, x180, x181, x182, x183, x184, x185, x186, x187, x188, x189, x190, x191, x192, x193, x194, x195, x196, x197, x198, x199, x200, x201, x202, x203, x204, x205, x206, x207, x208, x209, x210, x211, x212, x213, x214, x215, x216, x217, x218, x219, x220, x221, x222, x223, x224, x225, x226, x227, x228, x229, x230, x231, x232, x233, x234, x235, x236, x237, x238, x239, x240], []⟩ w := by
  obtain ⟨i0, i1, i2, i3, i4, i5, i6⟩ := hI
  subst hK
  have HV := Lib.hid hv
  have HT0 := Lib.hid ht
  have HA := Lib.hid hA
  have hA0 : (0 : Int) ≤ (A : Int) := by omega
  have hA1 : (A : Int) < (rs.length : Int) := by omega
  have j0 := Fut.cell i0
  have j1 := Fut.cell i1
  have j2 := Fut.cell i2
  have j3 := Fut.cell i3
  obtain ⟨b0, b1, b2⟩ := hv.cells hB
  have b0' := Fut.cell b0
  have b1' := Fut.cell b1
  have b2' := Fut.cell b2
  have hBx0 : (0 : Int) ≤ (Bx : Int) := by omega
  have hBx1 : (Bx : Int) < (rs.length : Int) := by omega
  clear b0 b1 b2
  have HK := Lib.hid (show ∀ (s : Fut w), Calls Try.prog 111 #[.string ⟨#[45]⟩, .agg #[.int .i64 1, .int .i64 0, .string ⟨#[]⟩], .agg #[.int .i64 (rs.getD Bx noR).1.1, .int .i64 (rs.getD Bx noR).1.2.1, .string (rs.getD Bx noR).1.2.2]] s.to fun e w' => e = recE (recF ⟨#[45]⟩ 1 0 ⟨#[]⟩ (rs.getD Bx noR).1.1 (rs.getD Bx noR).1.2.1 (rs.getD Bx noR).1.2.2).1 (recF ⟨#[45]⟩ 1 0 ⟨#[]⟩ (rs.getD Bx noR).1.1 (rs.getD Bx noR).1.2.1 (rs.getD Bx noR).1.2.2).2.1 (recF ⟨#[45]⟩ 1 0 ⟨#[]⟩ (rs.getD Bx noR).1.1 (rs.getD Bx noR).1.2.1 (rs.getD Bx noR).1.2.2).2.2 ∧ Below s.to.heap.size s.to w' from fun s => rec25_any _ _ _ _ _ _ _ (Lib.hid InR.zero) (Lib.hid hBn) _ _ _ rfl _)
  unfold recE at HK
  generalize recF ⟨#[45]⟩ 1 0 ⟨#[]⟩ (rs.getD Bx noR).1.1 (rs.getD Bx noR).1.2.1 (rs.getD Bx noR).1.2.2 = y at *
  clear hB hBn
  clear hv ht i0 i1 i2 i3 i4 i5 i6 hA
  conv => arg 2; whnf
  refine wp_region_fut_float 14 [12] (by kernel_rfl) (by kernel_rfl) ?_
  simp only [List.take_succ_cons, List.take_zero, List.drop_succ_cons, List.drop_zero]
  repeat (go_big_quiet_step ((go_at_call 111; exact calls_fut (HK.out _))))
  refine wpQuiet_nil ?_
  intro s
  have hb2 := s.bel
  generalize s.to = w2 at *
  clear s
  have hv2 := HV.out.below hb2
  have ht2 := HT0.out.below hb2
  have HS := Lib.hid (Sto2.of_below (g := gv) (h := gt) hb2)
  obtain ⟨a0, a1, a2⟩ := hv2.cells HA.out
  have fz := hv2.frozen
  have hlt := hv2.lt
  have HV2 := Lib.hid hv2
  have HT2 := Lib.hid ht2
  clear hb2 hv2 ht2
  go_wp2
  refine NoPanic.normal ?_
  first
    | exact ⟨HV2.out.value HA.out ((y.1, y.2.1, ⟨#[]⟩), (rs.getD A noR).2), (((HT2.out.other hvt _).other hvt _).other hvt _).same HA.out ((y.1, y.2.1, ⟨#[]⟩)), ((HS.out.set1 _ _).set1 _ _).set1 _ _⟩
    | exact ⟨rfl, ⟨_, _, _, _, _, _, _, _, _, _, _, _, _, _, rfl⟩, HV2.out.value HA.out ((y.1, y.2.1, ⟨#[]⟩), (rs.getD A noR).2), (((HT2.out.other hvt _).other hvt _).other hvt _).same HA.out ((y.1, y.2.1, ⟨#[]⟩)), ((HS.out.set1 _ _).set1 _ _).set1 _ _⟩
end Go.Proofs.Ytafhgilikcablaa
namespace Go.Proofs.Ytafhgilikcablaa
open Go.RowKit
set_option linter.unusedVariables false
set_option linter.unusedSimpArgs false
set_option maxRecDepth 100000
noncomputable def VdC19 : Code := ((Try.f76.body.bind (regOf 19)).getD .skip)
set_option maxHeartbeats 12800000 in
theorem vdr19_any (ra : Option Addr) (rl rc gv gt K b : Nat) (rs : List Reg) (op : ByteArray) (A Bx C : Nat) (v : Val) (R : List (List Val)) (w : World) (x0 x2 x3 x4 x5 x6 x9 x10 x12 x13 x14 x15 x16 x17 x18 x19 x20 x21 x22 x23 x24 x25 x26 x27 x28 x29 x30 x31 x32 x33 x34 x35 x36 x37 x38 x39 x40 x41 x42 x43 x44 x45 x46 x47 x48 x49 x50 x51 x52 x53 x54 x55 x56 x57 x58 x59 x60 x61 x62 x63 x64 x65 x66 x67 x68 x69 x70 x71 x72 x73 x74 x75 x76 x77 x78 x79 x80 x81 x82 x83 x84 x85 x86 x87 x88 x89 x90 x91 x92 x93 x94 x95 x96 x97 x98 x99 x100 x101 x102 x103 x104 x105 x106 x107 x108 x109 x110 x111 x112 x113 x114 x115 x116 x117 x118 x119 x120 x121 x122 x123 x124 x125 x126 x127 x128 x129 x130 x131 x132 x133 x134 x135 x136 x137 x138 x139 x140 x141 x142 x143 x144 x145 x146 x147 x148 x149 x150 x151 x152 x153 x154 x155 x156 x157 x158 x159 x160 x161 x162 x163 x164 x165 x166 x167 x168 x169 x170 x171 x172 x173 x174 x175 x176 x177 x178 x179 x180 x181 x182 x183 x184 x185 x186 x187 x188 x189 x190 x191 x192 x193 x194 x195 x196 x197 x198 x199 x200 x201 x202 x203 x204 x205 x206 x207 x208 x209 x210 x211 x212 x213 x214 x215 x216 x217 x218 x219 x220 x221 x222 x223 x224 x225 x226 x227 x228 x229 x230 x231 x232 x233 x234 x235 x236 x237 x238 x239 x240 : Value)
    (hI : InBox w b op A Bx C v) (hv : ValAt w gv rs) (ht : TruAt w gt rs) (hvt : gv ≠ gt) (hbv : b ≠ gv) (hbt : b ≠ gt) (hK : rs.length = K) (hk2 : K ≤ 1000) (hA : A < K) (hR : IsRR w ra rl R) (hB2 : (Bx : Int) ≤ 9223372036854775807) (hC2 : (C : Int) ≤ 9223372036854775807) :
    VdC19.wp Try.prog (fun e a' w' => e = .normal ∧ (∃ u77 u78 u79 u80 u81 u82 u83 u84 u85 u86 u87 u88 u89 u90 u91 u92 : Value, a' = ⟨#[x0, .slice ra rl rc, x2, x3, x4, x5, x6, .slice (some ⟨gv, 0, none⟩) K K, .slice (some ⟨gt, 0, none⟩) K K, x9, x10, .pointer (some ⟨b, 0, none⟩), .int .i64 (colF R Bx C).2, x13, x14, x15, x16, x17, x18, x19, x20, x21, x22, x23, x24, x25, x26, x27, x28, x29, x30, x31, x32, x33, x34, x35, x36, x37, x38, x39, x40, x41, x42, x43, x44, x45, x46, x47, x48, x49, x50, x51, x52, x53, x54, x55, x56, x57, x58, x59, x60, x61, x62, x63, x64, x65, x66, x67, x68, x69, x70, x71, x72, x73, x74, x75, x76, u77, u78, u79, u80, u81, u82, u83, u84, u85, u86, u87, u88, u89, u90, u91, u92, x93, x94, x95, x96, x97, x98, x99, x100, x101, x102, x103, x104, x105, x106, x107, x108, x109, x110, x111, x112, x113, x114, x115, x116, x117, x118, x119, x120, x121, x122, x123, x124, x125, x126, x127, x128, x129, x130, x131, x132, x133, x134, x135, x136, x137, x138, x139, x140, x141, x142, x143, x144, x145, x146, x147, x148, x149, x150, x151, x152, x153, x154, x155, x156, x157, x158, x159, x160, x161, x162, x163, x164, x165, x166, x167, x168, x169, x170, x171, x172, x173, x174, x175, x176, x177, x178, x179, x180, x181, x182, x183, x184, x185, x186, x187, x188, x189, x190, x191, x192, x193, x194, x195, x196, x197, x198, x199, x200, x201, x202, x203, x204, x205, x206, x207, x208, x209, x210, x211, x212, x213, x214, x215, x216, x217, x218, x219, x220, x221, x222, x223, x224, x225, x226, x227, x228, x229, x230, x231, x232, x233, x234, x235, x236, x237, x238, x239, x240], []⟩) ∧ ValAt w' gv (rs.set A ((colF R Bx C).1, (rs.getD A noR).2)) ∧ TruAt w' gt (rs.set A ((colF R Bx C).1, (rs.getD A noR).2)) ∧ Sto2 gv gt w w') ⟨#[x0, .slice ra rl rc, x2, x3, x4, x5, x6, .slice (some ⟨gv, 0, none⟩) K K, .slice (some ⟨gt, 0, none⟩) K K, x9, x10, .pointer (some ⟨b, 0, none⟩), x12, x13, x14, x15, x16, x17, x18, x19, x20, x21, x22, x23, x24, x25, x26, x27, x28, x29, x30, x31, x32, x33, x34, x35, x36, x37, x38, x39, x40, x41, x42, x43, x44, x45, x46, x47, x48, x49, x50, x51, x52, x53, x54, x55, x56, x57, x58, x59, x60, x61, x62, x63, x64, x65, x66, x67, x68, x69, x70, x71, x72, x73, x74, x75, x76, x77, x78, x79, x80, x81, x82, x83, x84, x85, x86, x87, x88, x89, x90, x91, x92, x93, x94, x95, x96, x97, x98, x99, x100, x101, x102, x103, x104, x105, x106, x107, x108, x109, x110, x111, x112, x113, x114, x115, x116, x117, x118, x119, x120, x121, x122, x123, x124, x125, x126, x127, x128, x129, x130, x131, x132, x133, x134, x135, x136, x137, x138, x139, x140, x141, x142, x143, x144, x145, x146, x147, x148, x149, x150, x151, x152, x153, x154, x155, x156, x157, x158, x159, x160, x161, x162, x163, x164, x165, x166, x167, x168, x169, x170, x171, x172, x173, x174, x175, x176, x177, x178, x179, x180, x181, x182, x183, x184, x185, x186, x187, x188, x189, x190, x191, x192, x193, x194, x195, x196, x197, x198, x199, x200, x201, x202, x203, x204, x205, x206, x207, x208, x209, x210, x211, x212, x213, x214, x215, x216, x217, x218, x219, x220, x221, x222, x223, x224, x225, x226, x227, x228, x229, x230, x231, x232, x233, x234, x235, x236, x237, x238, x239, x240], []⟩ w := by
  obtain ⟨i0, i1, i2, i3, i4, i5, i6⟩ := hI
  subst hK
  have hA0 : (0 : Int) ≤ (A : Int) := by omega
  have hA1 : (A : Int) < (rs.length : Int) := by omega
  have HV := Lib.hid hv
  have HT0 := Lib.hid ht
  have HA := Lib.hid hA
  obtain ⟨y, hy⟩ : ∃ y, y = colF R (Bx : Int) (C : Int) := ⟨_, rfl⟩
  have HK := Lib.hid (show ∀ (W : World) (Wb : Nat) (rc : Nat), Below w.heap.size w W → W.cell? ⟨Wb, 0, none⟩ = some (.slice ra rl rc) → Calls Try.prog 108 #[.pointer (some ⟨Wb, 0, none⟩), .agg #[.int .i64 0, .string ⟨#[]⟩, .int .i64 0, .int .i64 0, .string ⟨#[]⟩, .int .i64 (Bx : Int), .int .i64 (C : Int), .slice none 0 0]] W fun e w' => e = .returned (.tuple #[.agg #[.int .i64 y.1.1, .int .i64 y.1.2.1, .string y.1.2.2], .int .i64 y.2]) ∧ Below w.heap.size w w' from fun W Wb rc hb hc => by
    rw [hy]
    exact (rcolumn_any Wb ra rl rc R Bx C W (hR.below hb) hB2 hC2 hc).mono (fun e w' ⟨h1, h2⟩ => ⟨h1, bt hb h2⟩))
  rw [← hy]
  have KF := Lib.hid (show ∀ (W : World), Below w.heap.size w W → (W.cell? ⟨b, 1, none⟩ = some (.int .i64 (A : Int)) ∧ W.cell? ⟨b, 2, none⟩ = some (.int .i64 (Bx : Int)) ∧ W.cell? ⟨b, 3, none⟩ = some (.int .i64 (C : Int))) from fun W hb => ⟨(hb.cell (World.block_lt_of_cell? _ _ i1)).trans i1, (hb.cell (World.block_lt_of_cell? _ _ i2)).trans i2, (hb.cell (World.block_lt_of_cell? _ _ i3)).trans i3⟩)
  have KB := Lib.hid (show ∀ (W : World) (x y z : Value), Below w.heap.size w W → ((((W.setCell ⟨gv, A * 3, none⟩ x).setCell ⟨gv, A * 3 + 1, none⟩ y).setCell ⟨gv, A * 3 + 2, none⟩ z).cell? ⟨b, 1, none⟩ = some (.int .i64 (A : Int)) ∧ (((W.setCell ⟨gv, A * 3, none⟩ x).setCell ⟨gv, A * 3 + 1, none⟩ y).setCell ⟨gv, A * 3 + 2, none⟩ z).cell? ⟨b, 2, none⟩ = some (.int .i64 (Bx : Int)) ∧ (((W.setCell ⟨gv, A * 3, none⟩ x).setCell ⟨gv, A * 3 + 1, none⟩ y).setCell ⟨gv, A * 3 + 2, none⟩ z).cell? ⟨b, 3, none⟩ = some (.int .i64 (C : Int))) from fun W x y z hb => by
    have e : ∀ (W : World) (j q : Nat) (x u : Value), W.cell? ⟨b, q, none⟩ = some u → (W.setCell ⟨gv, j, none⟩ x).cell? ⟨b, q, none⟩ = some u := fun W j q x u h => (Go.World.cell?_of_block (heap_setCell_other W ⟨gv, j, none⟩ b x hbv)).trans h
    have h := KF.out W hb
    exact ⟨e _ _ _ _ _ (e _ _ _ _ _ (e _ _ _ _ _ h.1)), e _ _ _ _ _ (e _ _ _ _ _ (e _ _ _ _ _ h.2.1)), e _ _ _ _ _ (e _ _ _ _ _ (e _ _ _ _ _ h.2.2))⟩)
  clear hv ht hA hR hy hB2 hC2
  conv => arg 2; whnf
  refine wp_region_noPanic ?_
  go_region_held3 (fun w' => w'.cell? ⟨b, 1, none⟩ = some (.int .i64 (A : Int)) ∧ w'.cell? ⟨b, 2, none⟩ = some (.int .i64 (Bx : Int)) ∧ w'.cell? ⟨b, 3, none⟩ = some (.int .i64 (C : Int)))
    (first | exact KF.out _ (Below.refl _ _).drew | exact KF.out _ (bel0 _ (Below.refl _ _)).drew | exact KF.out _ (by assumption) | exact KF.out _ (Below.drew (by assumption)) | exact KB.out _ _ _ _ (by assumption) | exact KB.out _ _ _ _ (Below.drew (by assumption)))
    (first
      | (go_at_call 108; refine (HK.out _ _ rc (by first | exact (bel0 _ (Below.refl _ _)).drew | exact bel0 _ (Below.refl _ _)) (by exact cell_of_row _ _ 0 _ _ _ (Go.heap_alloc_new _ _))).mono ?_; rintro e w8 ⟨rfl, hb8⟩; have hv8 := HV.out.below hb8; obtain ⟨c0, c1, c2⟩ := hv8.cells HA.out; have fz := hv8.frozen; have hlt := hv8.lt))
  all_goals
    refine NoPanic.normal ?_
    first
      | exact ⟨(HV.out.below (by assumption)).value HA.out (y.1, (rs.getD A noR).2), ((((HT0.out.below (by assumption)).other hvt _).other hvt _).other hvt _).same HA.out y.1, (((Sto2.of_below (by assumption)).set1 _ _).set1 _ _).set1 _ _⟩
      | exact ⟨rfl, ⟨_, _, _, _, _, _, _, _, _, _, _, _, _, _, _, _, rfl⟩, (HV.out.below (by assumption)).value HA.out (y.1, (rs.getD A noR).2), ((((HT0.out.below (by assumption)).other hvt _).other hvt _).other hvt _).same HA.out y.1, (((Sto2.of_below (by assumption)).set1 _ _).set1 _ _).set1 _ _⟩
end Go.Proofs.Ytafhgilikcablaa
namespace Go.Proofs.Ytafhgilikcablaa
open Go.RowKit
set_option linter.unusedVariables false
set_option linter.unusedSimpArgs false
set_option maxRecDepth 100000
noncomputable def VdC15 : Code := ((Try.f76.body.bind (regOf 15)).getD .skip)
set_option maxHeartbeats 12800000 in
theorem vdr15_any (ra : Option Addr) (rl rc gv gt K b : Nat) (rs : List Reg) (op : ByteArray) (A Bx C : Nat) (v : Val) (w : World) (x0 x2 x3 x4 x5 x6 x9 x10 x12 x13 x14 x15 x16 x17 x18 x19 x20 x21 x22 x23 x24 x25 x26 x27 x28 x29 x30 x31 x32 x33 x34 x35 x36 x37 x38 x39 x40 x41 x42 x43 x44 x45 x46 x47 x48 x49 x50 x51 x52 x53 x54 x55 x56 x57 x58 x59 x60 x61 x62 x63 x64 x65 x66 x67 x68 x69 x70 x71 x72 x73 x74 x75 x76 x77 x78 x79 x80 x81 x82 x83 x84 x85 x86 x87 x88 x89 x90 x91 x92 x93 x94 x95 x96 x97 x98 x99 x100 x101 x102 x103 x104 x105 x106 x107 x108 x109 x110 x111 x112 x113 x114 x115 x116 x117 x118 x119 x120 x121 x122 x123 x124 x125 x126 x127 x128 x129 x130 x131 x132 x133 x134 x135 x136 x137 x138 x139 x140 x141 x142 x143 x144 x145 x146 x147 x148 x149 x150 x151 x152 x153 x154 x155 x156 x157 x158 x159 x160 x161 x162 x163 x164 x165 x166 x167 x168 x169 x170 x171 x172 x173 x174 x175 x176 x177 x178 x179 x180 x181 x182 x183 x184 x185 x186 x187 x188 x189 x190 x191 x192 x193 x194 x195 x196 x197 x198 x199 x200 x201 x202 x203 x204 x205 x206 x207 x208 x209 x210 x211 x212 x213 x214 x215 x216 x217 x218 x219 x220 x221 x222 x223 x224 x225 x226 x227 x228 x229 x230 x231 x232 x233 x234 x235 x236 x237 x238 x239 x240 : Value)
    (hI : InBox w b op A Bx C v) (hv : ValAt w gv rs) (ht : TruAt w gt rs) (hvt : gv ≠ gt) (hbv : b ≠ gv) (hbt : b ≠ gt) (hK : rs.length = K) (hk2 : K ≤ 1000) (hA : A < K) (hB : Bx < K) (hC : C < K) :
    VdC15.wp Try.prog (fun e a' w' => e = .normal ∧ (∃ u47 u48 u49 u50 u51 u52 u53 u54 u55 u56 u57 u58 u59 u60 u61 u62 u63 u64 u65 u66 : Value, a' = ⟨#[x0, .slice ra rl rc, x2, x3, x4, x5, x6, .slice (some ⟨gv, 0, none⟩) K K, .slice (some ⟨gt, 0, none⟩) K K, x9, x10, .pointer (some ⟨b, 0, none⟩), .int .i64 (cmpF op (rs.getD Bx noR).1.1 (rs.getD Bx noR).1.2.1 (rs.getD Bx noR).1.2.2 (rs.getD C noR).1.1 (rs.getD C noR).1.2.1 (rs.getD C noR).1.2.2).2, x13, x14, x15, x16, x17, x18, x19, x20, x21, x22, x23, x24, x25, x26, x27, x28, x29, x30, x31, x32, x33, x34, x35, x36, x37, x38, x39, x40, x41, x42, x43, x44, x45, x46, u47, u48, u49, u50, u51, u52, u53, u54, u55, u56, u57, u58, u59, u60, u61, u62, u63, u64, u65, u66, x67, x68, x69, x70, x71, x72, x73, x74, x75, x76, x77, x78, x79, x80, x81, x82, x83, x84, x85, x86, x87, x88, x89, x90, x91, x92, x93, x94, x95, x96, x97, x98, x99, x100, x101, x102, x103, x104, x105, x106, x107, x108, x109, x110, x111, x112, x113, x114, x115, x116, x117, x118, x119, x120, x121, x122, x123, x124, x125, x126, x127, x128, x129, x130, x131, x132, x133, x134, x135, x136, x137, x138, x139, x140, x141, x142, x143, x144, x145, x146, x147, x148, x149, x150, x151, x152, x153, x154, x155, x156, x157, x158, x159, x160, x161, x162, x163, x164, x165, x166, x167, x168, x169, x170, x171, x172, x173, x174, x175, x176, x177, x178, x179, x180, x181, x182, x183, x184, x185, x186, x187, x188, x189, x190, x191, x192, x193, x194, x195, x196, x197, x198, x199, x200, x201, x202, x203, x204, x205, x206, x207, x208, x209, x210, x211, x212, x213, x214, x215, x216, x217, x218, x219, x220, x221, x222, x223, x224, x225, x226, x227, x228, x229, x230, x231, x232, x233, x234, x235, x236, x237, x238, x239, x240], []⟩) ∧ ValAt w' gv (rs.set A ((rs.getD A noR).1, (cmpF op (rs.getD Bx noR).1.1 (rs.getD Bx noR).1.2.1 (rs.getD Bx noR).1.2.2 (rs.getD C noR).1.1 (rs.getD C noR).1.2.1 (rs.getD C noR).1.2.2).1)) ∧ TruAt w' gt (rs.set A ((rs.getD A noR).1, (cmpF op (rs.getD Bx noR).1.1 (rs.getD Bx noR).1.2.1 (rs.getD Bx noR).1.2.2 (rs.getD C noR).1.1 (rs.getD C noR).1.2.1 (rs.getD C noR).1.2.2).1)) ∧ Sto2 gv gt w w') ⟨#[x0, .slice ra rl rc, x2, x3, x4, x5, x6, .slice (some ⟨gv, 0, none⟩) K K, .slice (some ⟨gt, 0, none⟩) K K, x9, x10, .pointer (some ⟨b, 0, none⟩), x12, x13, x14, x15, x16, x17, x18, x19, x20, x21, x22, x23, x24, x25, x26, x27, x28, x29, x30, x31, x32, x33, x34, x35, x36, x37, x38, x39, x40, x41, x42, x43, x44, x45, x46, x47, x48, x49, x50, x51, x52, x53, x54, x55, x56, x57, x58, x59, x60, x61, x62, x63, x64, x65, x66, x67, x68, x69, x70, x71, x72, x73, x74, x75, x76, x77, x78, x79, x80, x81, x82, x83, x84, x85, x86, x87, x88, x89, x90, x91, x92, x93, x94, x95, x96, x97, x98, x99, x100, x101, x102, x103, x104, x105, x106, x107, x108, x109, x110, x111, x112, x113, x114, x115, x116, x117, x118, x119, x120, x121, x122, x123, x124, x125, x126, x127, x128, x129, x130, x131, x132, x133, x134, x135, x136, x137, x138, x139, x140, x141, x142, x143, x144, x145, x146, x147, x148, x149, x150, x151, x152, x153, x154, x155, x156, x157, x158, x159, x160, x161, x162, x163, x164, x165, x166, x167, x168, x169, x170, x171, x172, x173, x174, x175, x176, x177, x178, x179, x180, x181, x182, x183, x184, x185, x186, x187, x188, x189, x190, x191, x192, x193, x194, x195, x196, x197, x198, x199, x200, x201, x202, x203, x204, x205, x206, x207, x208, x209, x210, x211, x212, x213, x214, x215, x216, x217, x218, x219, x220, x221, x222, x223, x224, x225, x226, x227, x228, x229, x230, x231, x232, x233, x234, x235, x236, x237, x238, x239, x240], []⟩ w := by
  obtain ⟨i0, i1, i2, i3, i4, i5, i6⟩ := hI
  subst hK
  have HV := Lib.hid hv
  have HT0 := Lib.hid ht
  have HA := Lib.hid hA
  have hA0 : (0 : Int) ≤ (A : Int) := by omega
  have hA1 : (A : Int) < (rs.length : Int) := by omega
  have j0 := Fut.cell i0
  have j1 := Fut.cell i1
  have j2 := Fut.cell i2
  have j3 := Fut.cell i3
  obtain ⟨b0, b1, b2⟩ := hv.cells hB
  have b0' := Fut.cell b0
  have b1' := Fut.cell b1
  have b2' := Fut.cell b2
  have hBx0 : (0 : Int) ≤ (Bx : Int) := by omega
  have hBx1 : (Bx : Int) < (rs.length : Int) := by omega
  clear b0 b1 b2
  obtain ⟨c0, c1, c2⟩ := hv.cells hC
  have c0' := Fut.cell c0
  have c1' := Fut.cell c1
  have c2' := Fut.cell c2
  have hC0 : (0 : Int) ≤ (C : Int) := by omega
  have hC1 : (C : Int) < (rs.length : Int) := by omega
  clear c0 c1 c2
  clear hB hC
  have HK := Lib.hid (show ∀ (s : Fut w), Calls Try.prog 115 #[.string op, .agg #[.int .i64 (rs.getD Bx noR).1.1, .int .i64 (rs.getD Bx noR).1.2.1, .string (rs.getD Bx noR).1.2.2], .agg #[.int .i64 (rs.getD C noR).1.1, .int .i64 (rs.getD C noR).1.2.1, .string (rs.getD C noR).1.2.2]] s.to fun e w' => e = .returned (.tuple #[.int .i64 (cmpF op (rs.getD Bx noR).1.1 (rs.getD Bx noR).1.2.1 (rs.getD Bx noR).1.2.2 (rs.getD C noR).1.1 (rs.getD C noR).1.2.1 (rs.getD C noR).1.2.2).1, .int .i64 (cmpF op (rs.getD Bx noR).1.1 (rs.getD Bx noR).1.2.1 (rs.getD Bx noR).1.2.2 (rs.getD C noR).1.1 (rs.getD C noR).1.2.1 (rs.getD C noR).1.2.2).2]) ∧ Below s.to.heap.size s.to w' from fun s => rcompare_any _ _ _ _ _ _ _ _ _ rfl _)
  generalize cmpF op (rs.getD Bx noR).1.1 (rs.getD Bx noR).1.2.1 (rs.getD Bx noR).1.2.2 (rs.getD C noR).1.1 (rs.getD C noR).1.2.1 (rs.getD C noR).1.2.2 = y at *
  clear hv ht i0 i1 i2 i3 i4 i5 i6 hA
  conv => arg 2; whnf
  refine wp_region_fut_float 20 [18] (by kernel_rfl) (by kernel_rfl) ?_
  simp only [List.take_succ_cons, List.take_zero, List.drop_succ_cons, List.drop_zero]
  repeat (go_big_quiet_step ((go_at_call 115; exact calls_fut (HK.out _))))
  refine wpQuiet_nil ?_
  intro s
  have hb2 := s.bel
  generalize s.to = w2 at *
  clear s
  have hv2 := HV.out.below hb2
  have ht2 := HT0.out.below hb2
  have HS := Lib.hid (Sto2.of_below (g := gv) (h := gt) hb2)
  have a3 := ht2.cells HA.out
  have fz := ht2.frozen
  have hlt := ht2.lt
  have HV2 := Lib.hid hv2
  have HT2 := Lib.hid ht2
  clear hb2 hv2 ht2
  go_wp2
  refine NoPanic.normal ?_
  first
    | exact ⟨(HV2.out.other (fun e => hvt e.symm) _).same HA.out (y.1), HT2.out.truth A ((rs.getD A noR).1, y.1), HS.out.set2 _ _⟩
    | exact ⟨rfl, ⟨_, _, _, _, _, _, _, _, _, _, _, _, _, _, _, _, _, _, _, _, rfl⟩, (HV2.out.other (fun e => hvt e.symm) _).same HA.out (y.1), HT2.out.truth A ((rs.getD A noR).1, y.1), HS.out.set2 _ _⟩
end Go.Proofs.Ytafhgilikcablaa
namespace Go.Proofs.Ytafhgilikcablaa
open Go.RowKit
set_option linter.unusedVariables false
set_option linter.unusedSimpArgs false
set_option maxRecDepth 100000
noncomputable def VdC46 : Code := ((Try.f76.body.bind (regOf 46)).getD .skip)
set_option maxHeartbeats 12800000 in
theorem vdr46_any (ra : Option Addr) (rl rc gv gt K p : Nat) (rs : List Reg) (w : World) (x0 x2 x3 x5 x6 x9 x10 x11 x12 x13 x14 x15 x16 x17 x18 x19 x20 x21 x22 x23 x24 x25 x26 x27 x28 x29 x30 x31 x32 x33 x34 x35 x36 x37 x38 x39 x40 x41 x42 x43 x44 x45 x46 x47 x48 x49 x50 x51 x52 x53 x54 x55 x56 x57 x58 x59 x60 x61 x62 x63 x64 x65 x66 x67 x68 x69 x70 x71 x72 x73 x74 x75 x76 x77 x78 x79 x80 x81 x82 x83 x84 x85 x86 x87 x88 x89 x90 x91 x92 x93 x94 x95 x96 x97 x98 x99 x100 x101 x102 x103 x104 x105 x106 x107 x108 x109 x110 x111 x112 x113 x114 x115 x116 x117 x118 x119 x120 x121 x122 x123 x124 x125 x126 x127 x128 x129 x130 x131 x132 x133 x134 x135 x136 x137 x138 x139 x140 x141 x142 x143 x144 x145 x146 x147 x148 x149 x150 x151 x152 x153 x154 x155 x156 x157 x158 x159 x160 x161 x162 x163 x164 x165 x166 x167 x168 x169 x170 x171 x172 x173 x174 x175 x176 x177 x178 x179 x180 x181 x182 x183 x184 x185 x186 x187 x188 x189 x190 x191 x192 x193 x194 x195 x196 x197 x198 x199 x200 x201 x202 x203 x204 x205 x206 x207 x208 x209 x210 x211 x212 x213 x214 x215 x216 x217 x218 x219 x220 x221 x222 x223 x224 x225 x226 x227 x228 x229 x230 x231 x232 x233 x234 x235 x236 x237 x238 x239 x240 : Value)
    (hv : ValAt w gv rs) (ht : TruAt w gt rs) (hpv : p ≠ gv) (hpt : p ≠ gt) (hK : rs.length = K) (hA : 0 < K) (hp : w.heap[p]? = some (.cells #[.int .i64 0, .int .i64 0, .string ⟨#[]⟩] 38 (0, 0))) :
    VdC46.wp Try.prog (fun e a' w' => e = .normal ∧ (∃ u235 u236 u237 u238 u239 u240 : Value, a' = ⟨#[x0, .slice ra rl rc, x2, x3, .pointer (some ⟨p, 0, none⟩), .int .i64 (rs.getD 0 noR).2, .int .i64 0, .slice (some ⟨gv, 0, none⟩) K K, .slice (some ⟨gt, 0, none⟩) K K, x9, x10, x11, x12, x13, x14, x15, x16, x17, x18, x19, x20, x21, x22, x23, x24, x25, x26, x27, x28, x29, x30, x31, x32, x33, x34, x35, x36, x37, x38, x39, x40, x41, x42, x43, x44, x45, x46, x47, x48, x49, x50, x51, x52, x53, x54, x55, x56, x57, x58, x59, x60, x61, x62, x63, x64, x65, x66, x67, x68, x69, x70, x71, x72, x73, x74, x75, x76, x77, x78, x79, x80, x81, x82, x83, x84, x85, x86, x87, x88, x89, x90, x91, x92, x93, x94, x95, x96, x97, x98, x99, x100, x101, x102, x103, x104, x105, x106, x107, x108, x109, x110, x111, x112, x113, x114, x115, x116, x117, x118, x119, x120, x121, x122, x123, x124, x125, x126, x127, x128, x129, x130, x131, x132, x133, x134, x135, x136, x137, x138, x139, x140, x141, x142, x143, x144, x145, x146, x147, x148, x149, x150, x151, x152, x153, x154, x155, x156, x157, x158, x159, x160, x161, x162, x163, x164, x165, x166, x167, x168, x169, x170, x171, x172, x173, x174, x175, x176, x177, x178, x179, x180, x181, x182, x183, x184, x185, x186, x187, x188, x189, x190, x191, x192, x193, x194, x195, x196, x197, x198, x199, x200, x201, x202, x203, x204, x205, x206, x207, x208, x209, x210, x211, x212, x213, x214, x215, x216, x217, x218, x219, x220, x221, x222, x223, x224, x225, x226, x227, x228, x229, x230, x231, x232, x233, x234, u235, u236, u237, u238, u239, u240], []⟩) ∧ ResAt w' p (rs.getD 0 noR).1 ∧ Sto p w w') ⟨#[x0, .slice ra rl rc, x2, x3, .pointer (some ⟨p, 0, none⟩), x5, x6, .slice (some ⟨gv, 0, none⟩) K K, .slice (some ⟨gt, 0, none⟩) K K, x9, x10, x11, x12, x13, x14, x15, x16, x17, x18, x19, x20, x21, x22, x23, x24, x25, x26, x27, x28, x29, x30, x31, x32, x33, x34, x35, x36, x37, x38, x39, x40, x41, x42, x43, x44, x45, x46, x47, x48, x49, x50, x51, x52, x53, x54, x55, x56, x57, x58, x59, x60, x61, x62, x63, x64, x65, x66, x67, x68, x69, x70, x71, x72, x73, x74, x75, x76, x77, x78, x79, x80, x81, x82, x83, x84, x85, x86, x87, x88, x89, x90, x91, x92, x93, x94, x95, x96, x97, x98, x99, x100, x101, x102, x103, x104, x105, x106, x107, x108, x109, x110, x111, x112, x113, x114, x115, x116, x117, x118, x119, x120, x121, x122, x123, x124, x125, x126, x127, x128, x129, x130, x131, x132, x133, x134, x135, x136, x137, x138, x139, x140, x141, x142, x143, x144, x145, x146, x147, x148, x149, x150, x151, x152, x153, x154, x155, x156, x157, x158, x159, x160, x161, x162, x163, x164, x165, x166, x167, x168, x169, x170, x171, x172, x173, x174, x175, x176, x177, x178, x179, x180, x181, x182, x183, x184, x185, x186, x187, x188, x189, x190, x191, x192, x193, x194, x195, x196, x197, x198, x199, x200, x201, x202, x203, x204, x205, x206, x207, x208, x209, x210, x211, x212, x213, x214, x215, x216, x217, x218, x219, x220, x221, x222, x223, x224, x225, x226, x227, x228, x229, x230, x231, x232, x233, x234, x235, x236, x237, x238, x239, x240], []⟩ w := by
  subst hK
  obtain ⟨b0, b1, b2⟩ := hv.cells hA
  have b3 := ht.cells hA
  simp only [Nat.zero_mul, Nat.zero_add] at b0 b1 b2
  have hA0 : (0 : Int) < (rs.length : Int) := by omega
  have hplt : p < w.heap.size := (Array.getElem?_eq_some_iff.1 hp).1
  have a0 := cell_of_row _ _ 0 _ _ _ hp
  have a1 := cell_of_row _ _ 1 _ _ _ hp
  have a2 := cell_of_row _ _ 2 _ _ _ hp
  simp only [List.getElem?_toArray, List.getElem?_cons_zero, List.getElem?_cons_succ] at a0 a1 a2
  have fz : ∀ j, w.frozen? ⟨p, j, none⟩ = false := fun j => frozen_of_row _ _ j _ _ hp
  have HT := Lib.hid (show ResAt (((w.drew.setCell ⟨p, 0, none⟩ (.int .i64 (rs.getD 0 noR).1.1)).setCell ⟨p, 1, none⟩ (.int .i64 (rs.getD 0 noR).1.2.1)).setCell ⟨p, 2, none⟩ (.string (rs.getD 0 noR).1.2.2)) p (rs.getD 0 noR).1 from vbox3 (w := w.drew) hp (.int .i64 (rs.getD 0 noR).1.1) (.int .i64 (rs.getD 0 noR).1.2.1) (.string (rs.getD 0 noR).1.2.2))
  have HS := Lib.hid (show Sto p w w.drew from (Sto.refl p w).drew)
  have KP := Lib.hid (show ∀ (x y z : Value) (g q : Nat) {u : Value}, p ≠ g → w.cell? ⟨g, q, none⟩ = some u → (((w.drew.setCell ⟨p, 0, none⟩ x).setCell ⟨p, 1, none⟩ y).setCell ⟨p, 2, none⟩ z).cell? ⟨g, q, none⟩ = some u from fun x y z g q u hpg h => by
    have e : ∀ (W : World) (j : Nat) (x : Value), W.cell? ⟨g, q, none⟩ = some u → (W.setCell ⟨p, j, none⟩ x).cell? ⟨g, q, none⟩ = some u := fun W j x h => (Go.World.cell?_of_block (heap_setCell_other W ⟨p, j, none⟩ g x (fun e => hpg e.symm))).trans h
    exact e _ _ _ (e _ _ _ (e _ _ _ h)))
  clear hv ht hp
  generalize rs.getD 0 noR = r at *
  conv => arg 2; whnf
  refine wp_region_noPanic ?_
  go_region_held3 (fun w' => w'.cell? ⟨gv, 0, none⟩ = some (.int .i64 r.1.1) ∧ w'.cell? ⟨gv, 1, none⟩ = some (.int .i64 r.1.2.1) ∧ w'.cell? ⟨gv, 2, none⟩ = some (.string r.1.2.2) ∧ w'.cell? ⟨gt, 0, none⟩ = some (.int .i64 r.2))
    (first | exact ⟨b0, b1, b2, b3⟩ | exact ⟨KP.out _ _ _ _ _ hpv b0, KP.out _ _ _ _ _ hpv b1, KP.out _ _ _ _ _ hpv b2, KP.out _ _ _ _ _ hpt b3⟩)
    (fail)
  all_goals
    refine NoPanic.normal ?_
    first
      | exact ⟨HT.out, ((HS.out.set _ _).set _ _).set _ _⟩
      | exact ⟨rfl, ⟨_, _, _, _, _, _, rfl⟩, HT.out, ((HS.out.set _ _).set _ _).set _ _⟩
end Go.Proofs.Ytafhgilikcablaa
