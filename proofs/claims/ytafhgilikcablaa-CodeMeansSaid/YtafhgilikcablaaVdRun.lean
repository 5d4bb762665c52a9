/- The document's Run: any program, any rows. -/
import Derived.Test.YtafhgilikcablaaVdA0
import Derived.Test.YtafhgilikcablaaVdA3
import Derived.Test.YtafhgilikcablaaVdA5
import Derived.Test.YtafhgilikcablaaVdR46
import Derived.Deep.DeepCutAuto
import Derived.Laws.MakeOwn
namespace Go.Proofs.Ytafhgilikcablaa
open Go.RowKit
set_option linter.unusedVariables false
set_option linter.unusedSimpArgs false
set_option maxRecDepth 100000

def atOfD (a : Act) : Nat := match a.tmps.getD 10 undef with
  | .int _ n => n.toNat
  | _ => 0
def RunD (w : World) (y : Val × Int × Int) (e : Ending) (w' : World) : Prop := e = .returned (.tuple #[valV y.1, .int .i64 y.2.1, .int .i64 y.2.2]) ∧ Below w.heap.size w w'
theorem infoValZ : (Try.prog.info? 38).map (fun i => (i.zero, i.size, i.bytes)) = some (some (.agg #[.int .i64 0, .int .i64 0, .string ⟨#[]⟩]), 3, 32) := by kernel_rfl
theorem infoIntZ : (Try.prog.info? 3).map (fun i => (i.zero, i.size, i.bytes)) = some (some (.int .i64 0), 1, 8) := by kernel_rfl
/-- both rows, made -/
def VdMade (w : World) (K : Nat) (x7 x8 : Value) (wx : World) : Prop := ∃ gv gt, x7 = .slice (some ⟨gv, 0, none⟩) K K ∧ x8 = .slice (some ⟨gt, 0, none⟩) K K ∧ gv ≠ gt ∧ w.heap.size ≤ gv ∧ w.heap.size ≤ gt ∧ ValAt wx gv (List.replicate K noR) ∧ TruAt wx gt (upTo K 0) ∧ Below w.heap.size w wx
theorem VdMade.of {w : World} {K : Nat} {x7 x8 : Value} {wx wy : World} (h : VdMade w K x7 x8 wx) (e : wy.heap = wx.heap) (e1 : wy.os = wx.os) (e2 : wy.tape = wx.tape) (e3 : wy.output = wx.output) : VdMade w K x7 x8 wy := by
  obtain ⟨gv, gt, h1, h2, h3, h4, h5, h6, h7, h8⟩ := h
  exact ⟨gv, gt, h1, h2, h3, h4, h5, by unfold ValAt; rw [e]; exact h6, by unfold TruAt; rw [e]; exact h7, ⟨e1.trans h8.os, e2.trans h8.tape, e3.trans h8.output, by rw [e]; exact h8.size, fun i hi => by rw [e]; exact h8.block i hi⟩⟩
theorem two_new (w : World) (o1 o2 : Obj) : ((w.alloc o1).alloc o2).heap[w.heap.size]? = (w.alloc o1).heap[w.heap.size]? ∧ ((w.alloc o1).alloc o2).heap[w.heap.size + 1]? = ((w.alloc o1).alloc o2).heap[(w.alloc o1).heap.size]? := by
  constructor
  · exact (bel0 o2 (Below.refl _ (w.alloc o1))).block w.heap.size (by simp)
  · simp
theorem made1 (w : World) (K : Nat) : VdMade w K (.slice (some ⟨w.heap.size, 0, none⟩) K K) (.slice (some ⟨w.heap.size + 1, 0, none⟩) K K) ((w.alloc (.cells ⟨valC (List.replicate K noR)⟩ 38)).alloc (.cells ⟨truC (upTo K 0)⟩ 3)) :=
  ⟨_, _, rfl, rfl, by omega, Nat.le_refl _, Nat.le_succ _, (two_new w _ _).1.trans (Go.heap_alloc_new w _), (two_new w _ _).2.trans (Go.heap_alloc_new _ _), bel0 _ (bel0 _ (Below.refl _ _))⟩
theorem made2 (w : World) (K : Nat) : VdMade w K (.slice (some ⟨w.heap.size + 1, 0, none⟩) K K) (.slice (some ⟨w.heap.size, 0, none⟩) K K) ((w.alloc (.cells ⟨truC (upTo K 0)⟩ 3)).alloc (.cells ⟨valC (List.replicate K noR)⟩ 38)) :=
  ⟨_, _, rfl, rfl, by omega, Nat.le_succ _, Nat.le_refl _, (two_new w _ _).2.trans (Go.heap_alloc_new _ _), (two_new w _ _).1.trans (Go.heap_alloc_new w _), bel0 _ (bel0 _ (Below.refl _ _))⟩
theorem VdJ.less {ra : Option Addr} {rl rc P2 P4 gv gt K : Nat} {R : List (List Val)} {xs : List Ins} {fin : Val × Int × Int} {W0 : World} {lo : Nat} {a' : Act} {w' : World} (hJ : VdJ ra rl rc P2 P4 gv gt K R xs fin W0 lo a' w') : VdJ ra rl rc P2 P4 gv gt K R xs fin W0 0 a' w' ∧ lo ≤ atOfD a' := by
  obtain ⟨i, rs, f, hJ⟩ := hJ
  obtain ⟨x0, hJ⟩ := hJ
  obtain ⟨x3, hJ⟩ := hJ
  obtain ⟨x5, hJ⟩ := hJ
  obtain ⟨x6, hJ⟩ := hJ
  obtain ⟨x9, hJ⟩ := hJ
  obtain ⟨x11, hJ⟩ := hJ
  obtain ⟨x12, hJ⟩ := hJ
  obtain ⟨x13, hJ⟩ := hJ
  obtain ⟨x14, hJ⟩ := hJ
  obtain ⟨x15, hJ⟩ := hJ
  obtain ⟨x16, hJ⟩ := hJ
  obtain ⟨x17, hJ⟩ := hJ
  obtain ⟨x18, hJ⟩ := hJ
  obtain ⟨x19, hJ⟩ := hJ
  obtain ⟨x20, hJ⟩ := hJ
  obtain ⟨x21, hJ⟩ := hJ
  obtain ⟨x22, hJ⟩ := hJ
  obtain ⟨x23, hJ⟩ := hJ
  obtain ⟨x24, hJ⟩ := hJ
  obtain ⟨x25, hJ⟩ := hJ
  obtain ⟨x26, hJ⟩ := hJ
  obtain ⟨x27, hJ⟩ := hJ
  obtain ⟨x28, hJ⟩ := hJ
  obtain ⟨x29, hJ⟩ := hJ
  obtain ⟨x30, hJ⟩ := hJ
  obtain ⟨x31, hJ⟩ := hJ
  obtain ⟨x32, hJ⟩ := hJ
  obtain ⟨x33, hJ⟩ := hJ
  obtain ⟨x34, hJ⟩ := hJ
  obtain ⟨x35, hJ⟩ := hJ
  obtain ⟨x36, hJ⟩ := hJ
  obtain ⟨x37, hJ⟩ := hJ
  obtain ⟨x38, hJ⟩ := hJ
  obtain ⟨x39, hJ⟩ := hJ
  obtain ⟨x40, hJ⟩ := hJ
  obtain ⟨x41, hJ⟩ := hJ
  obtain ⟨x42, hJ⟩ := hJ
  obtain ⟨x43, hJ⟩ := hJ
  obtain ⟨x44, hJ⟩ := hJ
  obtain ⟨x45, hJ⟩ := hJ
  obtain ⟨x46, hJ⟩ := hJ
  obtain ⟨x47, hJ⟩ := hJ
  obtain ⟨x48, hJ⟩ := hJ
  obtain ⟨x49, hJ⟩ := hJ
  obtain ⟨x50, hJ⟩ := hJ
  obtain ⟨x51, hJ⟩ := hJ
  obtain ⟨x52, hJ⟩ := hJ
  obtain ⟨x53, hJ⟩ := hJ
  obtain ⟨x54, hJ⟩ := hJ
  obtain ⟨x55, hJ⟩ := hJ
  obtain ⟨x56, hJ⟩ := hJ
  obtain ⟨x57, hJ⟩ := hJ
  obtain ⟨x58, hJ⟩ := hJ
  obtain ⟨x59, hJ⟩ := hJ
  obtain ⟨x60, hJ⟩ := hJ
  obtain ⟨x61, hJ⟩ := hJ
  obtain ⟨x62, hJ⟩ := hJ
  obtain ⟨x63, hJ⟩ := hJ
  obtain ⟨x64, hJ⟩ := hJ
  obtain ⟨x65, hJ⟩ := hJ
  obtain ⟨x66, hJ⟩ := hJ
  obtain ⟨x67, hJ⟩ := hJ
  obtain ⟨x68, hJ⟩ := hJ
  obtain ⟨x69, hJ⟩ := hJ
  obtain ⟨x70, hJ⟩ := hJ
  obtain ⟨x71, hJ⟩ := hJ
  obtain ⟨x72, hJ⟩ := hJ
  obtain ⟨x73, hJ⟩ := hJ
  obtain ⟨x74, hJ⟩ := hJ
  obtain ⟨x75, hJ⟩ := hJ
  obtain ⟨x76, hJ⟩ := hJ
  obtain ⟨x77, hJ⟩ := hJ
  obtain ⟨x78, hJ⟩ := hJ
  obtain ⟨x79, hJ⟩ := hJ
  obtain ⟨x80, hJ⟩ := hJ
  obtain ⟨x81, hJ⟩ := hJ
  obtain ⟨x82, hJ⟩ := hJ
  obtain ⟨x83, hJ⟩ := hJ
  obtain ⟨x84, hJ⟩ := hJ
  obtain ⟨x85, hJ⟩ := hJ
  obtain ⟨x86, hJ⟩ := hJ
  obtain ⟨x87, hJ⟩ := hJ
  obtain ⟨x88, hJ⟩ := hJ
  obtain ⟨x89, hJ⟩ := hJ
  obtain ⟨x90, hJ⟩ := hJ
  obtain ⟨x91, hJ⟩ := hJ
  obtain ⟨x92, hJ⟩ := hJ
  obtain ⟨x93, hJ⟩ := hJ
  obtain ⟨x94, hJ⟩ := hJ
  obtain ⟨x95, hJ⟩ := hJ
  obtain ⟨x96, hJ⟩ := hJ
  obtain ⟨x97, hJ⟩ := hJ
  obtain ⟨x98, hJ⟩ := hJ
  obtain ⟨x99, hJ⟩ := hJ
  obtain ⟨x100, hJ⟩ := hJ
  obtain ⟨x101, hJ⟩ := hJ
  obtain ⟨x102, hJ⟩ := hJ
  obtain ⟨x103, hJ⟩ := hJ
  obtain ⟨x104, hJ⟩ := hJ
  obtain ⟨x105, hJ⟩ := hJ
  obtain ⟨x106, hJ⟩ := hJ
  obtain ⟨x107, hJ⟩ := hJ
  obtain ⟨x108, hJ⟩ := hJ
  obtain ⟨x109, hJ⟩ := hJ
  obtain ⟨x110, hJ⟩ := hJ
  obtain ⟨x111, hJ⟩ := hJ
  obtain ⟨x112, hJ⟩ := hJ
  obtain ⟨x113, hJ⟩ := hJ
  obtain ⟨x114, hJ⟩ := hJ
  obtain ⟨x115, hJ⟩ := hJ
  obtain ⟨x116, hJ⟩ := hJ
  obtain ⟨x117, hJ⟩ := hJ
  obtain ⟨x118, hJ⟩ := hJ
  obtain ⟨x119, hJ⟩ := hJ
  obtain ⟨x120, hJ⟩ := hJ
  obtain ⟨x121, hJ⟩ := hJ
  obtain ⟨x122, hJ⟩ := hJ
  obtain ⟨x123, hJ⟩ := hJ
  obtain ⟨x124, hJ⟩ := hJ
  obtain ⟨x125, hJ⟩ := hJ
  obtain ⟨x126, hJ⟩ := hJ
  obtain ⟨x127, hJ⟩ := hJ
  obtain ⟨x128, hJ⟩ := hJ
  obtain ⟨x129, hJ⟩ := hJ
  obtain ⟨x130, hJ⟩ := hJ
  obtain ⟨x131, hJ⟩ := hJ
  obtain ⟨x132, hJ⟩ := hJ
  obtain ⟨x133, hJ⟩ := hJ
  obtain ⟨x134, hJ⟩ := hJ
  obtain ⟨x135, hJ⟩ := hJ
  obtain ⟨x136, hJ⟩ := hJ
  obtain ⟨x137, hJ⟩ := hJ
  obtain ⟨x138, hJ⟩ := hJ
  obtain ⟨x139, hJ⟩ := hJ
  obtain ⟨x140, hJ⟩ := hJ
  obtain ⟨x141, hJ⟩ := hJ
  obtain ⟨x142, hJ⟩ := hJ
  obtain ⟨x143, hJ⟩ := hJ
  obtain ⟨x144, hJ⟩ := hJ
  obtain ⟨x145, hJ⟩ := hJ
  obtain ⟨x146, hJ⟩ := hJ
  obtain ⟨x147, hJ⟩ := hJ
  obtain ⟨x148, hJ⟩ := hJ
  obtain ⟨x149, hJ⟩ := hJ
  obtain ⟨x150, hJ⟩ := hJ
  obtain ⟨x151, hJ⟩ := hJ
  obtain ⟨x152, hJ⟩ := hJ
  obtain ⟨x153, hJ⟩ := hJ
  obtain ⟨x154, hJ⟩ := hJ
  obtain ⟨x155, hJ⟩ := hJ
  obtain ⟨x156, hJ⟩ := hJ
  obtain ⟨x157, hJ⟩ := hJ
  obtain ⟨x158, hJ⟩ := hJ
  obtain ⟨x159, hJ⟩ := hJ
  obtain ⟨x160, hJ⟩ := hJ
  obtain ⟨x161, hJ⟩ := hJ
  obtain ⟨x162, hJ⟩ := hJ
  obtain ⟨x163, hJ⟩ := hJ
  obtain ⟨x164, hJ⟩ := hJ
  obtain ⟨x165, hJ⟩ := hJ
  obtain ⟨x166, hJ⟩ := hJ
  obtain ⟨x167, hJ⟩ := hJ
  obtain ⟨x168, hJ⟩ := hJ
  obtain ⟨x169, hJ⟩ := hJ
  obtain ⟨x170, hJ⟩ := hJ
  obtain ⟨x171, hJ⟩ := hJ
  obtain ⟨x172, hJ⟩ := hJ
  obtain ⟨x173, hJ⟩ := hJ
  obtain ⟨x174, hJ⟩ := hJ
  obtain ⟨x175, hJ⟩ := hJ
  obtain ⟨x176, hJ⟩ := hJ
  obtain ⟨x177, hJ⟩ := hJ
  obtain ⟨x178, hJ⟩ := hJ
  obtain ⟨x179, hJ⟩ := hJ
  obtain ⟨x180, hJ⟩ := hJ
  obtain ⟨x181, hJ⟩ := hJ
  obtain ⟨x182, hJ⟩ := hJ
  obtain ⟨x183, hJ⟩ := hJ
  obtain ⟨x184, hJ⟩ := hJ
  obtain ⟨x185, hJ⟩ := hJ
  obtain ⟨x186, hJ⟩ := hJ
  obtain ⟨x187, hJ⟩ := hJ
  obtain ⟨x188, hJ⟩ := hJ
  obtain ⟨x189, hJ⟩ := hJ
  obtain ⟨x190, hJ⟩ := hJ
  obtain ⟨x191, hJ⟩ := hJ
  obtain ⟨x192, hJ⟩ := hJ
  obtain ⟨x193, hJ⟩ := hJ
  obtain ⟨x194, hJ⟩ := hJ
  obtain ⟨x195, hJ⟩ := hJ
  obtain ⟨x196, hJ⟩ := hJ
  obtain ⟨x197, hJ⟩ := hJ
  obtain ⟨x198, hJ⟩ := hJ
  obtain ⟨x199, hJ⟩ := hJ
  obtain ⟨x200, hJ⟩ := hJ
  obtain ⟨x201, hJ⟩ := hJ
  obtain ⟨x202, hJ⟩ := hJ
  obtain ⟨x203, hJ⟩ := hJ
  obtain ⟨x204, hJ⟩ := hJ
  obtain ⟨x205, hJ⟩ := hJ
  obtain ⟨x206, hJ⟩ := hJ
  obtain ⟨x207, hJ⟩ := hJ
  obtain ⟨x208, hJ⟩ := hJ
  obtain ⟨x209, hJ⟩ := hJ
  obtain ⟨x210, hJ⟩ := hJ
  obtain ⟨x211, hJ⟩ := hJ
  obtain ⟨x212, hJ⟩ := hJ
  obtain ⟨x213, hJ⟩ := hJ
  obtain ⟨x214, hJ⟩ := hJ
  obtain ⟨x215, hJ⟩ := hJ
  obtain ⟨x216, hJ⟩ := hJ
  obtain ⟨x217, hJ⟩ := hJ
  obtain ⟨x218, hJ⟩ := hJ
  obtain ⟨x219, hJ⟩ := hJ
  obtain ⟨x220, hJ⟩ := hJ
  obtain ⟨x221, hJ⟩ := hJ
  obtain ⟨x222, hJ⟩ := hJ
  obtain ⟨x223, hJ⟩ := hJ
  obtain ⟨x224, hJ⟩ := hJ
  obtain ⟨x225, hJ⟩ := hJ
  obtain ⟨x226, hJ⟩ := hJ
  obtain ⟨x227, hJ⟩ := hJ
  obtain ⟨x228, hJ⟩ := hJ
  obtain ⟨x229, hJ⟩ := hJ
  obtain ⟨x230, hJ⟩ := hJ
  obtain ⟨x231, hJ⟩ := hJ
  obtain ⟨x232, hJ⟩ := hJ
  obtain ⟨x233, hJ⟩ := hJ
  obtain ⟨x234, hJ⟩ := hJ
  obtain ⟨x235, hJ⟩ := hJ
  obtain ⟨x236, hJ⟩ := hJ
  obtain ⟨x237, hJ⟩ := hJ
  obtain ⟨x238, hJ⟩ := hJ
  obtain ⟨x239, hJ⟩ := hJ
  obtain ⟨x240, hJ⟩ := hJ
  obtain ⟨hlo, rfl, hV⟩ := hJ
  exact ⟨⟨i, rs, f, _, _, _, _, _, _, _, _, _, _, _, _, _, _, _, _, _, _, _, _, _, _, _, _, _, _, _, _, _, _, _, _, _, _, _, _, _, _, _, _, _, _, _, _, _, _, _, _, _, _, _, _, _, _, _, _, _, _, _, _, _, _, _, _, _, _, _, _, _, _, _, _, _, _, _, _, _, _, _, _, _, _, _, _, _, _, _, _, _, _, _, _, _, _, _, _, _, _, _, _, _, _, _, _, _, _, _, _, _, _, _, _, _, _, _, _, _, _, _, _, _, _, _, _, _, _, _, _, _, _, _, _, _, _, _, _, _, _, _, _, _, _, _, _, _, _, _, _, _, _, _, _, _, _, _, _, _, _, _, _, _, _, _, _, _, _, _, _, _, _, _, _, _, _, _, _, _, _, _, _, _, _, _, _, _, _, _, _, _, _, _, _, _, _, _, _, _, _, _, _, _, _, _, _, _, _, _, _, _, _, _, _, _, _, _, _, _, _, _, _, _, _, _, _, _, _, _, _, _, _, _, _, _, _, _, Nat.zero_le _, rfl, hV⟩, hlo⟩
theorem run_endD {w W1 : World} {y : Val × Int × Int} (hb : Below w.heap.size w W1) : ∀ (a' : Act) (w' w2 : World), a'.defers = [] → a'.tmps.getD 4 undef = .pointer (some ⟨w.heap.size + 1, 0, none⟩) → a'.tmps.getD 5 undef = .int .i64 y.2.1 → a'.tmps.getD 6 undef = .int .i64 y.2.2 → ResAt w' (w.heap.size + 1) y.1 → Below W1.heap.size W1 w2 → Sto (w.heap.size + 1) w2 w' →
    bodyPost Try.prog Try.f76 (RunD w y) .ret a' w' := by
  intro a3 w3 w2 hd h4 h5 h6 hR hb2 hS
  refine bodyPost_ret (results_val3 rfl _ _ (w.heap.size + 1) y.1 h4 hR) hd ?_
  rw [h5, h6]
  exact ⟨rfl, Below.sto (bt hb hb2) hS (by omega) (bt hb hb2).size⟩
theorem make_val (K : Nat) (hK : K ≤ 1000) (W : World) : (Instr.makeSlice 127 (.int .i64 (K : Int)) (.int .i64 (K : Int))).run Try.prog W = .ok (.slice (some ⟨W.heap.size, 0, none⟩) K K) (W.alloc (.cells ⟨valC (List.replicate K noR)⟩ 38)) := by
  obtain ⟨i0, hi, hz0, hz1, hz2⟩ := info_parts infoValZ
  have h := run_make (P := Try.prog) W 127 38 i0 _ Try.underlying127 hi hz0 .i64 .i64 (K : Int) (K : Int) (by omega) (Int.le_refl _) (by rw [hz2]; omega) (by omega)
  rw [h, ← valC_made, hz1]
  rfl
theorem make_tru (K : Nat) (hK : K ≤ 1000) (W : World) : (Instr.makeSlice 31 (.int .i64 (K : Int)) (.int .i64 (K : Int))).run Try.prog W = .ok (.slice (some ⟨W.heap.size, 0, none⟩) K K) (W.alloc (.cells ⟨truC (upTo K 0)⟩ 3)) := by
  obtain ⟨i0, hi, hz0, hz1, hz2⟩ := info_parts infoIntZ
  have h := run_make (P := Try.prog) W 31 3 i0 _ Try.underlying31 hi hz0 .i64 .i64 (K : Int) (K : Int) (by omega) (Int.le_refl _) (by rw [hz2]; omega) (by omega)
  rw [h, ← truC_made, hz1, Nat.mul_one]
  rfl
set_option maxHeartbeats 12800000 in
theorem rrun_any (ca : Option Addr) (cl cc : Nat) (k : Int) (xs : List Ins) (ra : Option Addr) (rl rc : Nat) (R : List (List Val)) (w : World) (hI : IsI w ca cl xs) (hN : ∀ x ∈ xs, InsR x) (hR : IsRR w ra rl R) (hRr : RowsR R) :
    Calls Try.prog 76 #[.agg #[.slice ca cl cc, .int .i64 k], .slice ra rl rc] w (RunD w (runP R k xs)) := by
  obtain ⟨W0, hW0⟩ : ∃ W0, W0 = (w.alloc (.cells #[.slice ca cl cc, .int .i64 k] 82)).alloc (.cells #[.int .i64 0, .int .i64 0, .string ⟨#[]⟩] 38) := ⟨_, rfl⟩
  have hb0 : Below w.heap.size w W0 := by rw [hW0]; exact bel0 _ (bel0 _ (Below.refl _ _))
  have hs0 : W0.heap.size = w.heap.size + 2 := by rw [hW0]; simp
  have p0 : W0.cell? ⟨w.heap.size, 0, none⟩ = some (.slice ca cl cc) := by rw [hW0]; simp [go_sem]
  have p1 : W0.cell? ⟨w.heap.size, 1, none⟩ = some (.int .i64 k) := by rw [hW0]; simp [go_sem]
  have p4 : ResAt W0 (w.heap.size + 1) noV := by
    have := Go.heap_alloc_new (w.alloc (.cells #[.slice ca cl cc, .int .i64 k] 82)) (.cells #[.int .i64 0, .int .i64 0, .string ⟨#[]⟩] 38)
    rw [hW0]
    unfold ResAt
    simpa [noV] using this
  have HIn := Lib.hid (show VmIn ca cl cc k xs ra rl R w.heap.size (w.heap.size + 1) W0 from ⟨hI.below hb0, hR.below hb0, p0, p1, p4, hN, hRr⟩)
  have HB0 := Lib.hid hb0
  have HW := Lib.hid hW0
  have HS := Lib.hid hs0
  clear hI hR hb0 hs0 hN hRr p4
  by_cases hf : formedP k xs = true
  · obtain ⟨K, rfl⟩ : ∃ K : Nat, k = (K : Int) := ⟨k.toNat, by have := (formed_at hf).1; omega⟩
    have HF := Lib.hid hf
    have hK : 1 ≤ K ∧ K ≤ 1000 := by have := (formed_at hf).1; omega
    have HK := Lib.hid hK
    have hfin : runP R (K : Int) xs = runR R xs (xs.length + 1) 0 (List.replicate K noR) := by unfold runP; rw [if_pos hf]; rfl
    have HFin := Lib.hid hfin
    have mv := make_val K hK.2
    have mt := make_tru K hK.2
    clear hf hK hfin
    go_enter Try.func76, Try.ntmps76
    go_wp2_with fail
    rw [← HW.out]
    clear hW0
    refine (rform_any ca cl cc (K : Int) xs _ HIn.out.i).mono ?_
    rintro e w1 ⟨rfl, hb1⟩
    rw [HF.out]
    have HB1 := Lib.hid hb1
    have HIn1 := Lib.hid (HIn.out.below hb1)
    have p1 := (HIn.out.below hb1).p1
    have hlt2 := World.block_lt_of_cell? _ _ p1
    have keepA := Lib.hid (show ∀ (W : World) (o : Obj), W.cell? ⟨w.heap.size, 1, none⟩ = some (.int .i64 (K : Int)) → (W.alloc o).cell? ⟨w.heap.size, 1, none⟩ = some (.int .i64 (K : Int)) from fun W o h => ((bel0 o (Below.refl _ W)).cell (World.block_lt_of_cell? _ _ h)).trans h)
    clear hb1 p0
    go_wp2_with fail
    go_cut [7, 8] (fun x7 x8 wx => VdMade w1 K x7 x8 wx)
    case first =>
      refine wp_region_noPanic ?_
      go_region_held3 (fun w' => w'.cell? ⟨w.heap.size, 1, none⟩ = some (.int .i64 (K : Int)))
        (first | exact p1 | assumption | exact keepA.out _ _ (by assumption))
        (fail)
      all_goals
        refine NoPanic.normal ?_
        go_wp2_with fail
        go_meet
        first
          | exact (made1 w1 K).of rfl rfl rfl rfl
          | exact (made2 w1 K).of rfl rfl rfl rfl
    case rest =>
      obtain ⟨gv, gt, rfl, rfl, hvt, hgv, hgt, hva, htr, hbm⟩ := hcut
      have HVa := Lib.hid hva
      have HTr := Lib.hid htr
      have HBm := Lib.hid hbm
      have HGv := Lib.hid hgv
      have HGt := Lib.hid hgt
      have hK2 : (K : Int) ≤ 1000 := by have := HK.out; omega
      clear hva htr hbm hgv hgt mv mt p1 keepA hlt2
      go_wp2_with fail
      go_loopw [26] (fun i wr => ∃ j : Nat, j ≤ K ∧ i = .int .i64 (j : Int) ∧ Hid (ValAt wr gv (List.replicate K noR)) ∧ Hid (TruAt wr gt (upTo K j)) ∧ Hid (Below w1.heap.size w1 wr)) (fun i _ => K - (intOf i).toNat)
      case atStart => exact ⟨0, by omega, rfl, HVa, HTr, HBm⟩
      case round =>
        obtain ⟨j, hj, rfl, HV, HT, HB⟩ := hrel
        have hj0 : (0 : Int) ≤ (j : Int) := by omega
        by_cases hlt : j < K
        · have hj1 : (j : Int) < (K : Int) := by omega
          have c3 := HT.out.cells (i := j) (by rw [upTo_length hj]; exact hlt)
          have fz := HT.out.frozen
          have hgl := HT.out.lt
          have hq2 : TruAt (wr.setCell ⟨gt, j, none⟩ (.int .i64 2)) gt (upTo K (j + 1)) := by
            rw [← upTo_set hlt]
            exact HT.out.truth j noR
          have HQ := Lib.hid hq2
          have HQv := Lib.hid (show ValAt (wr.setCell ⟨gt, j, none⟩ (.int .i64 2)) gv (List.replicate K noR) from HV.out.other (fun e => hvt e.symm) _)
          have HBs := Lib.hid (show Below w1.heap.size w1 (wr.setCell ⟨gt, j, none⟩ (.int .i64 2)) from HB.out.setCell HGt.out _)
          clear hq2
          go_wp2
          go_roundw
          case rel => exact ⟨j + 1, by omega, by go_num, HQv, HQ, HBs⟩
          case measure => simp [intOf]; omega
        · obtain rfl : j = K := by omega
          clear hlt
          have HT3 := Lib.hid (show TruAt wr gt (List.replicate j noR) from by rw [← upTo_all]; exact HT.out)
          have HVd := Lib.hid (VdV.mk (R := R) (xs := xs) (fin := runP R (j : Int) xs) (W0 := w1) (gv := gv) (gt := gt) (K := j) (i := 0) (rs := List.replicate j noR) (f := xs.length + 1) (w' := wr) (Nat.zero_le _) (Nat.le_refl _) (by simp) (RegR.rep j) HV.out HT3.out HB.out HFin.out.symm)
          have HBa := Lib.hid (bt HB0.out HB1.out)
          go_wp2_with fail
          clear hK2
          refine wp_loop (VdJ ra rl rc w.heap.size (w.heap.size + 1) gv gt j R xs (runP R (j : Int) xs) w1 0) (fun a' _ => cl - atOfD a') ?_ ?_
          · exact ⟨0, List.replicate j noR, xs.length + 1, _, _, _, _, _, _, _, _, _, _, _, _, _, _, _, _, _, _, _, _, _, _, _, _, _, _, _, _, _, _, _, _, _, _, _, _, _, _, _, _, _, _, _, _, _, _, _, _, _, _, _, _, _, _, _, _, _, _, _, _, _, _, _, _, _, _, _, _, _, _, _, _, _, _, _, _, _, _, _, _, _, _, _, _, _, _, _, _, _, _, _, _, _, _, _, _, _, _, _, _, _, _, _, _, _, _, _, _, _, _, _, _, _, _, _, _, _, _, _, _, _, _, _, _, _, _, _, _, _, _, _, _, _, _, _, _, _, _, _, _, _, _, _, _, _, _, _, _, _, _, _, _, _, _, _, _, _, _, _, _, _, _, _, _, _, _, _, _, _, _, _, _, _, _, _, _, _, _, _, _, _, _, _, _, _, _, _, _, _, _, _, _, _, _, _, _, _, _, _, _, _, _, _, _, _, _, _, _, _, _, _, _, _, _, _, _, _, _, _, _, _, _, _, _, _, _, _, _, _, _, _, _, _, _, _, Nat.le_refl _, rfl, HVd.out⟩
          · intro a w' hJ
            obtain ⟨i, rs, f, hJ⟩ := hJ
            obtain ⟨x0, hJ⟩ := hJ
            obtain ⟨x3, hJ⟩ := hJ
            obtain ⟨x5, hJ⟩ := hJ
            obtain ⟨x6, hJ⟩ := hJ
            obtain ⟨x9, hJ⟩ := hJ
            obtain ⟨x11, hJ⟩ := hJ
            obtain ⟨x12, hJ⟩ := hJ
            obtain ⟨x13, hJ⟩ := hJ
            obtain ⟨x14, hJ⟩ := hJ
            obtain ⟨x15, hJ⟩ := hJ
            obtain ⟨x16, hJ⟩ := hJ
            obtain ⟨x17, hJ⟩ := hJ
            obtain ⟨x18, hJ⟩ := hJ
            obtain ⟨x19, hJ⟩ := hJ
            obtain ⟨x20, hJ⟩ := hJ
            obtain ⟨x21, hJ⟩ := hJ
            obtain ⟨x22, hJ⟩ := hJ
            obtain ⟨x23, hJ⟩ := hJ
            obtain ⟨x24, hJ⟩ := hJ
            obtain ⟨x25, hJ⟩ := hJ
            obtain ⟨x26, hJ⟩ := hJ
            obtain ⟨x27, hJ⟩ := hJ
            obtain ⟨x28, hJ⟩ := hJ
            obtain ⟨x29, hJ⟩ := hJ
            obtain ⟨x30, hJ⟩ := hJ
            obtain ⟨x31, hJ⟩ := hJ
            obtain ⟨x32, hJ⟩ := hJ
            obtain ⟨x33, hJ⟩ := hJ
            obtain ⟨x34, hJ⟩ := hJ
            obtain ⟨x35, hJ⟩ := hJ
            obtain ⟨x36, hJ⟩ := hJ
            obtain ⟨x37, hJ⟩ := hJ
            obtain ⟨x38, hJ⟩ := hJ
            obtain ⟨x39, hJ⟩ := hJ
            obtain ⟨x40, hJ⟩ := hJ
            obtain ⟨x41, hJ⟩ := hJ
            obtain ⟨x42, hJ⟩ := hJ
            obtain ⟨x43, hJ⟩ := hJ
            obtain ⟨x44, hJ⟩ := hJ
            obtain ⟨x45, hJ⟩ := hJ
            obtain ⟨x46, hJ⟩ := hJ
            obtain ⟨x47, hJ⟩ := hJ
            obtain ⟨x48, hJ⟩ := hJ
            obtain ⟨x49, hJ⟩ := hJ
            obtain ⟨x50, hJ⟩ := hJ
            obtain ⟨x51, hJ⟩ := hJ
            obtain ⟨x52, hJ⟩ := hJ
            obtain ⟨x53, hJ⟩ := hJ
            obtain ⟨x54, hJ⟩ := hJ
            obtain ⟨x55, hJ⟩ := hJ
            obtain ⟨x56, hJ⟩ := hJ
            obtain ⟨x57, hJ⟩ := hJ
            obtain ⟨x58, hJ⟩ := hJ
            obtain ⟨x59, hJ⟩ := hJ
            obtain ⟨x60, hJ⟩ := hJ
            obtain ⟨x61, hJ⟩ := hJ
            obtain ⟨x62, hJ⟩ := hJ
            obtain ⟨x63, hJ⟩ := hJ
            obtain ⟨x64, hJ⟩ := hJ
            obtain ⟨x65, hJ⟩ := hJ
            obtain ⟨x66, hJ⟩ := hJ
            obtain ⟨x67, hJ⟩ := hJ
            obtain ⟨x68, hJ⟩ := hJ
            obtain ⟨x69, hJ⟩ := hJ
            obtain ⟨x70, hJ⟩ := hJ
            obtain ⟨x71, hJ⟩ := hJ
            obtain ⟨x72, hJ⟩ := hJ
            obtain ⟨x73, hJ⟩ := hJ
            obtain ⟨x74, hJ⟩ := hJ
            obtain ⟨x75, hJ⟩ := hJ
            obtain ⟨x76, hJ⟩ := hJ
            obtain ⟨x77, hJ⟩ := hJ
            obtain ⟨x78, hJ⟩ := hJ
            obtain ⟨x79, hJ⟩ := hJ
            obtain ⟨x80, hJ⟩ := hJ
            obtain ⟨x81, hJ⟩ := hJ
            obtain ⟨x82, hJ⟩ := hJ
            obtain ⟨x83, hJ⟩ := hJ
            obtain ⟨x84, hJ⟩ := hJ
            obtain ⟨x85, hJ⟩ := hJ
            obtain ⟨x86, hJ⟩ := hJ
            obtain ⟨x87, hJ⟩ := hJ
            obtain ⟨x88, hJ⟩ := hJ
            obtain ⟨x89, hJ⟩ := hJ
            obtain ⟨x90, hJ⟩ := hJ
            obtain ⟨x91, hJ⟩ := hJ
            obtain ⟨x92, hJ⟩ := hJ
            obtain ⟨x93, hJ⟩ := hJ
            obtain ⟨x94, hJ⟩ := hJ
            obtain ⟨x95, hJ⟩ := hJ
            obtain ⟨x96, hJ⟩ := hJ
            obtain ⟨x97, hJ⟩ := hJ
            obtain ⟨x98, hJ⟩ := hJ
            obtain ⟨x99, hJ⟩ := hJ
            obtain ⟨x100, hJ⟩ := hJ
            obtain ⟨x101, hJ⟩ := hJ
            obtain ⟨x102, hJ⟩ := hJ
            obtain ⟨x103, hJ⟩ := hJ
            obtain ⟨x104, hJ⟩ := hJ
            obtain ⟨x105, hJ⟩ := hJ
            obtain ⟨x106, hJ⟩ := hJ
            obtain ⟨x107, hJ⟩ := hJ
            obtain ⟨x108, hJ⟩ := hJ
            obtain ⟨x109, hJ⟩ := hJ
            obtain ⟨x110, hJ⟩ := hJ
            obtain ⟨x111, hJ⟩ := hJ
            obtain ⟨x112, hJ⟩ := hJ
            obtain ⟨x113, hJ⟩ := hJ
            obtain ⟨x114, hJ⟩ := hJ
            obtain ⟨x115, hJ⟩ := hJ
            obtain ⟨x116, hJ⟩ := hJ
            obtain ⟨x117, hJ⟩ := hJ
            obtain ⟨x118, hJ⟩ := hJ
            obtain ⟨x119, hJ⟩ := hJ
            obtain ⟨x120, hJ⟩ := hJ
            obtain ⟨x121, hJ⟩ := hJ
            obtain ⟨x122, hJ⟩ := hJ
            obtain ⟨x123, hJ⟩ := hJ
            obtain ⟨x124, hJ⟩ := hJ
            obtain ⟨x125, hJ⟩ := hJ
            obtain ⟨x126, hJ⟩ := hJ
            obtain ⟨x127, hJ⟩ := hJ
            obtain ⟨x128, hJ⟩ := hJ
            obtain ⟨x129, hJ⟩ := hJ
            obtain ⟨x130, hJ⟩ := hJ
            obtain ⟨x131, hJ⟩ := hJ
            obtain ⟨x132, hJ⟩ := hJ
            obtain ⟨x133, hJ⟩ := hJ
            obtain ⟨x134, hJ⟩ := hJ
            obtain ⟨x135, hJ⟩ := hJ
            obtain ⟨x136, hJ⟩ := hJ
            obtain ⟨x137, hJ⟩ := hJ
            obtain ⟨x138, hJ⟩ := hJ
            obtain ⟨x139, hJ⟩ := hJ
            obtain ⟨x140, hJ⟩ := hJ
            obtain ⟨x141, hJ⟩ := hJ
            obtain ⟨x142, hJ⟩ := hJ
            obtain ⟨x143, hJ⟩ := hJ
            obtain ⟨x144, hJ⟩ := hJ
            obtain ⟨x145, hJ⟩ := hJ
            obtain ⟨x146, hJ⟩ := hJ
            obtain ⟨x147, hJ⟩ := hJ
            obtain ⟨x148, hJ⟩ := hJ
            obtain ⟨x149, hJ⟩ := hJ
            obtain ⟨x150, hJ⟩ := hJ
            obtain ⟨x151, hJ⟩ := hJ
            obtain ⟨x152, hJ⟩ := hJ
            obtain ⟨x153, hJ⟩ := hJ
            obtain ⟨x154, hJ⟩ := hJ
            obtain ⟨x155, hJ⟩ := hJ
            obtain ⟨x156, hJ⟩ := hJ
            obtain ⟨x157, hJ⟩ := hJ
            obtain ⟨x158, hJ⟩ := hJ
            obtain ⟨x159, hJ⟩ := hJ
            obtain ⟨x160, hJ⟩ := hJ
            obtain ⟨x161, hJ⟩ := hJ
            obtain ⟨x162, hJ⟩ := hJ
            obtain ⟨x163, hJ⟩ := hJ
            obtain ⟨x164, hJ⟩ := hJ
            obtain ⟨x165, hJ⟩ := hJ
            obtain ⟨x166, hJ⟩ := hJ
            obtain ⟨x167, hJ⟩ := hJ
            obtain ⟨x168, hJ⟩ := hJ
            obtain ⟨x169, hJ⟩ := hJ
            obtain ⟨x170, hJ⟩ := hJ
            obtain ⟨x171, hJ⟩ := hJ
            obtain ⟨x172, hJ⟩ := hJ
            obtain ⟨x173, hJ⟩ := hJ
            obtain ⟨x174, hJ⟩ := hJ
            obtain ⟨x175, hJ⟩ := hJ
            obtain ⟨x176, hJ⟩ := hJ
            obtain ⟨x177, hJ⟩ := hJ
            obtain ⟨x178, hJ⟩ := hJ
            obtain ⟨x179, hJ⟩ := hJ
            obtain ⟨x180, hJ⟩ := hJ
            obtain ⟨x181, hJ⟩ := hJ
            obtain ⟨x182, hJ⟩ := hJ
            obtain ⟨x183, hJ⟩ := hJ
            obtain ⟨x184, hJ⟩ := hJ
            obtain ⟨x185, hJ⟩ := hJ
            obtain ⟨x186, hJ⟩ := hJ
            obtain ⟨x187, hJ⟩ := hJ
            obtain ⟨x188, hJ⟩ := hJ
            obtain ⟨x189, hJ⟩ := hJ
            obtain ⟨x190, hJ⟩ := hJ
            obtain ⟨x191, hJ⟩ := hJ
            obtain ⟨x192, hJ⟩ := hJ
            obtain ⟨x193, hJ⟩ := hJ
            obtain ⟨x194, hJ⟩ := hJ
            obtain ⟨x195, hJ⟩ := hJ
            obtain ⟨x196, hJ⟩ := hJ
            obtain ⟨x197, hJ⟩ := hJ
            obtain ⟨x198, hJ⟩ := hJ
            obtain ⟨x199, hJ⟩ := hJ
            obtain ⟨x200, hJ⟩ := hJ
            obtain ⟨x201, hJ⟩ := hJ
            obtain ⟨x202, hJ⟩ := hJ
            obtain ⟨x203, hJ⟩ := hJ
            obtain ⟨x204, hJ⟩ := hJ
            obtain ⟨x205, hJ⟩ := hJ
            obtain ⟨x206, hJ⟩ := hJ
            obtain ⟨x207, hJ⟩ := hJ
            obtain ⟨x208, hJ⟩ := hJ
            obtain ⟨x209, hJ⟩ := hJ
            obtain ⟨x210, hJ⟩ := hJ
            obtain ⟨x211, hJ⟩ := hJ
            obtain ⟨x212, hJ⟩ := hJ
            obtain ⟨x213, hJ⟩ := hJ
            obtain ⟨x214, hJ⟩ := hJ
            obtain ⟨x215, hJ⟩ := hJ
            obtain ⟨x216, hJ⟩ := hJ
            obtain ⟨x217, hJ⟩ := hJ
            obtain ⟨x218, hJ⟩ := hJ
            obtain ⟨x219, hJ⟩ := hJ
            obtain ⟨x220, hJ⟩ := hJ
            obtain ⟨x221, hJ⟩ := hJ
            obtain ⟨x222, hJ⟩ := hJ
            obtain ⟨x223, hJ⟩ := hJ
            obtain ⟨x224, hJ⟩ := hJ
            obtain ⟨x225, hJ⟩ := hJ
            obtain ⟨x226, hJ⟩ := hJ
            obtain ⟨x227, hJ⟩ := hJ
            obtain ⟨x228, hJ⟩ := hJ
            obtain ⟨x229, hJ⟩ := hJ
            obtain ⟨x230, hJ⟩ := hJ
            obtain ⟨x231, hJ⟩ := hJ
            obtain ⟨x232, hJ⟩ := hJ
            obtain ⟨x233, hJ⟩ := hJ
            obtain ⟨x234, hJ⟩ := hJ
            obtain ⟨x235, hJ⟩ := hJ
            obtain ⟨x236, hJ⟩ := hJ
            obtain ⟨x237, hJ⟩ := hJ
            obtain ⟨x238, hJ⟩ := hJ
            obtain ⟨x239, hJ⟩ := hJ
            obtain ⟨x240, hJ⟩ := hJ
            obtain ⟨_, rfl, hV⟩ := hJ
            have HGv1 : w1.heap.size ≤ gv := HGv.out
            by_cases hilt : i < cl
            · have hNx : ∀ a' w', VdJ ra rl rc w.heap.size (w.heap.size + 1) gv gt j R xs (runP R (j : Int) xs) w1 (i + 1) a' w' → (VdJ ra rl rc w.heap.size (w.heap.size + 1) gv gt j R xs (runP R (j : Int) xs) w1 0 a' w' ∧ cl - atOfD a' < cl - i) := fun a' w' h => by
                obtain ⟨h1, h2⟩ := h.less
                exact ⟨h1, by omega⟩
              rcases op_cases (xs.getD i noI).op with h | h | h | h | h | h | h | h | h | h | h | h | h | h | h | h | h | h | h | h | ⟨h0, h1, h2, h3, h4, h5, h6, h7, h8, h9, h10, h11, h12, h13, h14, h15, h16, h17, h18, h19⟩
              · exact vdp_const ca cl cc (j : Int) xs ra rl rc R w.heap.size (w.heap.size + 1) gv gt j (runP R (j : Int) xs) w1 HIn1.out HF.out rfl HGv.out HGt.out hvt _ _ i rs f _ _ _ _ _ _ _ _ _ _ _ _ _ _ _ _ _ _ _ _ _ _ _ _ _ _ _ _ _ _ _ _ _ _ _ _ _ _ _ _ _ _ _ _ _ _ _ _ _ _ _ _ _ _ _ _ _ _ _ _ _ _ _ _ _ _ _ _ _ _ _ _ _ _ _ _ _ _ _ _ _ _ _ _ _ _ _ _ _ _ _ _ _ _ _ _ _ _ _ _ _ _ _ _ _ _ _ _ _ _ _ _ _ _ _ _ _ _ _ _ _ _ _ _ _ _ _ _ _ _ _ _ _ _ _ _ _ _ _ _ _ _ _ _ _ _ _ _ _ _ _ _ _ _ _ _ _ _ _ _ _ _ _ _ _ _ _ _ _ _ _ _ _ _ _ _ _ _ _ _ _ _ _ _ _ _ _ _ _ _ _ _ _ _ _ _ _ _ _ _ _ _ _ _ _ _ _ _ _ _ _ _ _ _ _ _ _ _ _ _ _ _ _ _ _ _ _ _ _ _ _ _ _ _ _ w' hV hilt h hNx (run_endD HBa.out)
              · exact vdp_col ca cl cc (j : Int) xs ra rl rc R w.heap.size (w.heap.size + 1) gv gt j (runP R (j : Int) xs) w1 HIn1.out HF.out rfl HGv.out HGt.out hvt _ _ i rs f _ _ _ _ _ _ _ _ _ _ _ _ _ _ _ _ _ _ _ _ _ _ _ _ _ _ _ _ _ _ _ _ _ _ _ _ _ _ _ _ _ _ _ _ _ _ _ _ _ _ _ _ _ _ _ _ _ _ _ _ _ _ _ _ _ _ _ _ _ _ _ _ _ _ _ _ _ _ _ _ _ _ _ _ _ _ _ _ _ _ _ _ _ _ _ _ _ _ _ _ _ _ _ _ _ _ _ _ _ _ _ _ _ _ _ _ _ _ _ _ _ _ _ _ _ _ _ _ _ _ _ _ _ _ _ _ _ _ _ _ _ _ _ _ _ _ _ _ _ _ _ _ _ _ _ _ _ _ _ _ _ _ _ _ _ _ _ _ _ _ _ _ _ _ _ _ _ _ _ _ _ _ _ _ _ _ _ _ _ _ _ _ _ _ _ _ _ _ _ _ _ _ _ _ _ _ _ _ _ _ _ _ _ _ _ _ _ _ _ _ _ _ _ _ _ _ _ _ _ _ _ _ _ _ _ w' hV hilt h hNx (run_endD HBa.out)
              · exact vdp_neg ca cl cc (j : Int) xs ra rl rc R w.heap.size (w.heap.size + 1) gv gt j (runP R (j : Int) xs) w1 HIn1.out HF.out rfl HGv.out HGt.out hvt _ _ i rs f _ _ _ _ _ _ _ _ _ _ _ _ _ _ _ _ _ _ _ _ _ _ _ _ _ _ _ _ _ _ _ _ _ _ _ _ _ _ _ _ _ _ _ _ _ _ _ _ _ _ _ _ _ _ _ _ _ _ _ _ _ _ _ _ _ _ _ _ _ _ _ _ _ _ _ _ _ _ _ _ _ _ _ _ _ _ _ _ _ _ _ _ _ _ _ _ _ _ _ _ _ _ _ _ _ _ _ _ _ _ _ _ _ _ _ _ _ _ _ _ _ _ _ _ _ _ _ _ _ _ _ _ _ _ _ _ _ _ _ _ _ _ _ _ _ _ _ _ _ _ _ _ _ _ _ _ _ _ _ _ _ _ _ _ _ _ _ _ _ _ _ _ _ _ _ _ _ _ _ _ _ _ _ _ _ _ _ _ _ _ _ _ _ _ _ _ _ _ _ _ _ _ _ _ _ _ _ _ _ _ _ _ _ _ _ _ _ _ _ _ _ _ _ _ _ _ _ _ _ _ _ _ _ _ _ w' hV hilt h hNx (run_endD HBa.out)
              · exact vdp_null ca cl cc (j : Int) xs ra rl rc R w.heap.size (w.heap.size + 1) gv gt j (runP R (j : Int) xs) w1 HIn1.out HF.out rfl HGv.out HGt.out hvt _ _ i rs f _ _ _ _ _ _ _ _ _ _ _ _ _ _ _ _ _ _ _ _ _ _ _ _ _ _ _ _ _ _ _ _ _ _ _ _ _ _ _ _ _ _ _ _ _ _ _ _ _ _ _ _ _ _ _ _ _ _ _ _ _ _ _ _ _ _ _ _ _ _ _ _ _ _ _ _ _ _ _ _ _ _ _ _ _ _ _ _ _ _ _ _ _ _ _ _ _ _ _ _ _ _ _ _ _ _ _ _ _ _ _ _ _ _ _ _ _ _ _ _ _ _ _ _ _ _ _ _ _ _ _ _ _ _ _ _ _ _ _ _ _ _ _ _ _ _ _ _ _ _ _ _ _ _ _ _ _ _ _ _ _ _ _ _ _ _ _ _ _ _ _ _ _ _ _ _ _ _ _ _ _ _ _ _ _ _ _ _ _ _ _ _ _ _ _ _ _ _ _ _ _ _ _ _ _ _ _ _ _ _ _ _ _ _ _ _ _ _ _ _ _ _ _ _ _ _ _ _ _ _ _ _ _ _ _ w' hV hilt h hNx (run_endD HBa.out)
              · exact vdp_some ca cl cc (j : Int) xs ra rl rc R w.heap.size (w.heap.size + 1) gv gt j (runP R (j : Int) xs) w1 HIn1.out HF.out rfl HGv.out HGt.out hvt _ _ i rs f _ _ _ _ _ _ _ _ _ _ _ _ _ _ _ _ _ _ _ _ _ _ _ _ _ _ _ _ _ _ _ _ _ _ _ _ _ _ _ _ _ _ _ _ _ _ _ _ _ _ _ _ _ _ _ _ _ _ _ _ _ _ _ _ _ _ _ _ _ _ _ _ _ _ _ _ _ _ _ _ _ _ _ _ _ _ _ _ _ _ _ _ _ _ _ _ _ _ _ _ _ _ _ _ _ _ _ _ _ _ _ _ _ _ _ _ _ _ _ _ _ _ _ _ _ _ _ _ _ _ _ _ _ _ _ _ _ _ _ _ _ _ _ _ _ _ _ _ _ _ _ _ _ _ _ _ _ _ _ _ _ _ _ _ _ _ _ _ _ _ _ _ _ _ _ _ _ _ _ _ _ _ _ _ _ _ _ _ _ _ _ _ _ _ _ _ _ _ _ _ _ _ _ _ _ _ _ _ _ _ _ _ _ _ _ _ _ _ _ _ _ _ _ _ _ _ _ _ _ _ _ _ _ _ _ w' hV hilt h hNx (run_endD HBa.out)
              · exact vdp_not ca cl cc (j : Int) xs ra rl rc R w.heap.size (w.heap.size + 1) gv gt j (runP R (j : Int) xs) w1 HIn1.out HF.out rfl HGv.out HGt.out hvt _ _ i rs f _ _ _ _ _ _ _ _ _ _ _ _ _ _ _ _ _ _ _ _ _ _ _ _ _ _ _ _ _ _ _ _ _ _ _ _ _ _ _ _ _ _ _ _ _ _ _ _ _ _ _ _ _ _ _ _ _ _ _ _ _ _ _ _ _ _ _ _ _ _ _ _ _ _ _ _ _ _ _ _ _ _ _ _ _ _ _ _ _ _ _ _ _ _ _ _ _ _ _ _ _ _ _ _ _ _ _ _ _ _ _ _ _ _ _ _ _ _ _ _ _ _ _ _ _ _ _ _ _ _ _ _ _ _ _ _ _ _ _ _ _ _ _ _ _ _ _ _ _ _ _ _ _ _ _ _ _ _ _ _ _ _ _ _ _ _ _ _ _ _ _ _ _ _ _ _ _ _ _ _ _ _ _ _ _ _ _ _ _ _ _ _ _ _ _ _ _ _ _ _ _ _ _ _ _ _ _ _ _ _ _ _ _ _ _ _ _ _ _ _ _ _ _ _ _ _ _ _ _ _ _ _ _ _ _ w' hV hilt h hNx (run_endD HBa.out)
              · exact vdp_copy ca cl cc (j : Int) xs ra rl rc R w.heap.size (w.heap.size + 1) gv gt j (runP R (j : Int) xs) w1 HIn1.out HF.out rfl HGv.out HGt.out hvt _ _ i rs f _ _ _ _ _ _ _ _ _ _ _ _ _ _ _ _ _ _ _ _ _ _ _ _ _ _ _ _ _ _ _ _ _ _ _ _ _ _ _ _ _ _ _ _ _ _ _ _ _ _ _ _ _ _ _ _ _ _ _ _ _ _ _ _ _ _ _ _ _ _ _ _ _ _ _ _ _ _ _ _ _ _ _ _ _ _ _ _ _ _ _ _ _ _ _ _ _ _ _ _ _ _ _ _ _ _ _ _ _ _ _ _ _ _ _ _ _ _ _ _ _ _ _ _ _ _ _ _ _ _ _ _ _ _ _ _ _ _ _ _ _ _ _ _ _ _ _ _ _ _ _ _ _ _ _ _ _ _ _ _ _ _ _ _ _ _ _ _ _ _ _ _ _ _ _ _ _ _ _ _ _ _ _ _ _ _ _ _ _ _ _ _ _ _ _ _ _ _ _ _ _ _ _ _ _ _ _ _ _ _ _ _ _ _ _ _ _ _ _ _ _ _ _ _ _ _ _ _ _ _ _ _ _ _ _ w' hV hilt h hNx (run_endD HBa.out)
              · exact vdp_add ca cl cc (j : Int) xs ra rl rc R w.heap.size (w.heap.size + 1) gv gt j (runP R (j : Int) xs) w1 HIn1.out HF.out rfl HGv.out HGt.out hvt _ _ i rs f _ _ _ _ _ _ _ _ _ _ _ _ _ _ _ _ _ _ _ _ _ _ _ _ _ _ _ _ _ _ _ _ _ _ _ _ _ _ _ _ _ _ _ _ _ _ _ _ _ _ _ _ _ _ _ _ _ _ _ _ _ _ _ _ _ _ _ _ _ _ _ _ _ _ _ _ _ _ _ _ _ _ _ _ _ _ _ _ _ _ _ _ _ _ _ _ _ _ _ _ _ _ _ _ _ _ _ _ _ _ _ _ _ _ _ _ _ _ _ _ _ _ _ _ _ _ _ _ _ _ _ _ _ _ _ _ _ _ _ _ _ _ _ _ _ _ _ _ _ _ _ _ _ _ _ _ _ _ _ _ _ _ _ _ _ _ _ _ _ _ _ _ _ _ _ _ _ _ _ _ _ _ _ _ _ _ _ _ _ _ _ _ _ _ _ _ _ _ _ _ _ _ _ _ _ _ _ _ _ _ _ _ _ _ _ _ _ _ _ _ _ _ _ _ _ _ _ _ _ _ _ _ _ _ _ w' hV hilt h hNx (run_endD HBa.out)
              · exact vdp_sub ca cl cc (j : Int) xs ra rl rc R w.heap.size (w.heap.size + 1) gv gt j (runP R (j : Int) xs) w1 HIn1.out HF.out rfl HGv.out HGt.out hvt _ _ i rs f _ _ _ _ _ _ _ _ _ _ _ _ _ _ _ _ _ _ _ _ _ _ _ _ _ _ _ _ _ _ _ _ _ _ _ _ _ _ _ _ _ _ _ _ _ _ _ _ _ _ _ _ _ _ _ _ _ _ _ _ _ _ _ _ _ _ _ _ _ _ _ _ _ _ _ _ _ _ _ _ _ _ _ _ _ _ _ _ _ _ _ _ _ _ _ _ _ _ _ _ _ _ _ _ _ _ _ _ _ _ _ _ _ _ _ _ _ _ _ _ _ _ _ _ _ _ _ _ _ _ _ _ _ _ _ _ _ _ _ _ _ _ _ _ _ _ _ _ _ _ _ _ _ _ _ _ _ _ _ _ _ _ _ _ _ _ _ _ _ _ _ _ _ _ _ _ _ _ _ _ _ _ _ _ _ _ _ _ _ _ _ _ _ _ _ _ _ _ _ _ _ _ _ _ _ _ _ _ _ _ _ _ _ _ _ _ _ _ _ _ _ _ _ _ _ _ _ _ _ _ _ _ _ _ _ w' hV hilt h hNx (run_endD HBa.out)
              · exact vdp_mul ca cl cc (j : Int) xs ra rl rc R w.heap.size (w.heap.size + 1) gv gt j (runP R (j : Int) xs) w1 HIn1.out HF.out rfl HGv.out HGt.out hvt _ _ i rs f _ _ _ _ _ _ _ _ _ _ _ _ _ _ _ _ _ _ _ _ _ _ _ _ _ _ _ _ _ _ _ _ _ _ _ _ _ _ _ _ _ _ _ _ _ _ _ _ _ _ _ _ _ _ _ _ _ _ _ _ _ _ _ _ _ _ _ _ _ _ _ _ _ _ _ _ _ _ _ _ _ _ _ _ _ _ _ _ _ _ _ _ _ _ _ _ _ _ _ _ _ _ _ _ _ _ _ _ _ _ _ _ _ _ _ _ _ _ _ _ _ _ _ _ _ _ _ _ _ _ _ _ _ _ _ _ _ _ _ _ _ _ _ _ _ _ _ _ _ _ _ _ _ _ _ _ _ _ _ _ _ _ _ _ _ _ _ _ _ _ _ _ _ _ _ _ _ _ _ _ _ _ _ _ _ _ _ _ _ _ _ _ _ _ _ _ _ _ _ _ _ _ _ _ _ _ _ _ _ _ _ _ _ _ _ _ _ _ _ _ _ _ _ _ _ _ _ _ _ _ _ _ _ _ _ w' hV hilt h hNx (run_endD HBa.out)
              · exact vdp_eq ca cl cc (j : Int) xs ra rl rc R w.heap.size (w.heap.size + 1) gv gt j (runP R (j : Int) xs) w1 HIn1.out HF.out rfl HGv.out HGt.out hvt _ _ i rs f _ _ _ _ _ _ _ _ _ _ _ _ _ _ _ _ _ _ _ _ _ _ _ _ _ _ _ _ _ _ _ _ _ _ _ _ _ _ _ _ _ _ _ _ _ _ _ _ _ _ _ _ _ _ _ _ _ _ _ _ _ _ _ _ _ _ _ _ _ _ _ _ _ _ _ _ _ _ _ _ _ _ _ _ _ _ _ _ _ _ _ _ _ _ _ _ _ _ _ _ _ _ _ _ _ _ _ _ _ _ _ _ _ _ _ _ _ _ _ _ _ _ _ _ _ _ _ _ _ _ _ _ _ _ _ _ _ _ _ _ _ _ _ _ _ _ _ _ _ _ _ _ _ _ _ _ _ _ _ _ _ _ _ _ _ _ _ _ _ _ _ _ _ _ _ _ _ _ _ _ _ _ _ _ _ _ _ _ _ _ _ _ _ _ _ _ _ _ _ _ _ _ _ _ _ _ _ _ _ _ _ _ _ _ _ _ _ _ _ _ _ _ _ _ _ _ _ _ _ _ _ _ _ _ _ w' hV hilt h hNx (run_endD HBa.out)
              · exact vdp_ne ca cl cc (j : Int) xs ra rl rc R w.heap.size (w.heap.size + 1) gv gt j (runP R (j : Int) xs) w1 HIn1.out HF.out rfl HGv.out HGt.out hvt _ _ i rs f _ _ _ _ _ _ _ _ _ _ _ _ _ _ _ _ _ _ _ _ _ _ _ _ _ _ _ _ _ _ _ _ _ _ _ _ _ _ _ _ _ _ _ _ _ _ _ _ _ _ _ _ _ _ _ _ _ _ _ _ _ _ _ _ _ _ _ _ _ _ _ _ _ _ _ _ _ _ _ _ _ _ _ _ _ _ _ _ _ _ _ _ _ _ _ _ _ _ _ _ _ _ _ _ _ _ _ _ _ _ _ _ _ _ _ _ _ _ _ _ _ _ _ _ _ _ _ _ _ _ _ _ _ _ _ _ _ _ _ _ _ _ _ _ _ _ _ _ _ _ _ _ _ _ _ _ _ _ _ _ _ _ _ _ _ _ _ _ _ _ _ _ _ _ _ _ _ _ _ _ _ _ _ _ _ _ _ _ _ _ _ _ _ _ _ _ _ _ _ _ _ _ _ _ _ _ _ _ _ _ _ _ _ _ _ _ _ _ _ _ _ _ _ _ _ _ _ _ _ _ _ _ _ _ _ w' hV hilt h hNx (run_endD HBa.out)
              · exact vdp_lt ca cl cc (j : Int) xs ra rl rc R w.heap.size (w.heap.size + 1) gv gt j (runP R (j : Int) xs) w1 HIn1.out HF.out rfl HGv.out HGt.out hvt _ _ i rs f _ _ _ _ _ _ _ _ _ _ _ _ _ _ _ _ _ _ _ _ _ _ _ _ _ _ _ _ _ _ _ _ _ _ _ _ _ _ _ _ _ _ _ _ _ _ _ _ _ _ _ _ _ _ _ _ _ _ _ _ _ _ _ _ _ _ _ _ _ _ _ _ _ _ _ _ _ _ _ _ _ _ _ _ _ _ _ _ _ _ _ _ _ _ _ _ _ _ _ _ _ _ _ _ _ _ _ _ _ _ _ _ _ _ _ _ _ _ _ _ _ _ _ _ _ _ _ _ _ _ _ _ _ _ _ _ _ _ _ _ _ _ _ _ _ _ _ _ _ _ _ _ _ _ _ _ _ _ _ _ _ _ _ _ _ _ _ _ _ _ _ _ _ _ _ _ _ _ _ _ _ _ _ _ _ _ _ _ _ _ _ _ _ _ _ _ _ _ _ _ _ _ _ _ _ _ _ _ _ _ _ _ _ _ _ _ _ _ _ _ _ _ _ _ _ _ _ _ _ _ _ _ _ _ _ w' hV hilt h hNx (run_endD HBa.out)
              · exact vdp_le ca cl cc (j : Int) xs ra rl rc R w.heap.size (w.heap.size + 1) gv gt j (runP R (j : Int) xs) w1 HIn1.out HF.out rfl HGv.out HGt.out hvt _ _ i rs f _ _ _ _ _ _ _ _ _ _ _ _ _ _ _ _ _ _ _ _ _ _ _ _ _ _ _ _ _ _ _ _ _ _ _ _ _ _ _ _ _ _ _ _ _ _ _ _ _ _ _ _ _ _ _ _ _ _ _ _ _ _ _ _ _ _ _ _ _ _ _ _ _ _ _ _ _ _ _ _ _ _ _ _ _ _ _ _ _ _ _ _ _ _ _ _ _ _ _ _ _ _ _ _ _ _ _ _ _ _ _ _ _ _ _ _ _ _ _ _ _ _ _ _ _ _ _ _ _ _ _ _ _ _ _ _ _ _ _ _ _ _ _ _ _ _ _ _ _ _ _ _ _ _ _ _ _ _ _ _ _ _ _ _ _ _ _ _ _ _ _ _ _ _ _ _ _ _ _ _ _ _ _ _ _ _ _ _ _ _ _ _ _ _ _ _ _ _ _ _ _ _ _ _ _ _ _ _ _ _ _ _ _ _ _ _ _ _ _ _ _ _ _ _ _ _ _ _ _ _ _ _ _ _ _ w' hV hilt h hNx (run_endD HBa.out)
              · exact vdp_gt ca cl cc (j : Int) xs ra rl rc R w.heap.size (w.heap.size + 1) gv gt j (runP R (j : Int) xs) w1 HIn1.out HF.out rfl HGv.out HGt.out hvt _ _ i rs f _ _ _ _ _ _ _ _ _ _ _ _ _ _ _ _ _ _ _ _ _ _ _ _ _ _ _ _ _ _ _ _ _ _ _ _ _ _ _ _ _ _ _ _ _ _ _ _ _ _ _ _ _ _ _ _ _ _ _ _ _ _ _ _ _ _ _ _ _ _ _ _ _ _ _ _ _ _ _ _ _ _ _ _ _ _ _ _ _ _ _ _ _ _ _ _ _ _ _ _ _ _ _ _ _ _ _ _ _ _ _ _ _ _ _ _ _ _ _ _ _ _ _ _ _ _ _ _ _ _ _ _ _ _ _ _ _ _ _ _ _ _ _ _ _ _ _ _ _ _ _ _ _ _ _ _ _ _ _ _ _ _ _ _ _ _ _ _ _ _ _ _ _ _ _ _ _ _ _ _ _ _ _ _ _ _ _ _ _ _ _ _ _ _ _ _ _ _ _ _ _ _ _ _ _ _ _ _ _ _ _ _ _ _ _ _ _ _ _ _ _ _ _ _ _ _ _ _ _ _ _ _ _ _ _ w' hV hilt h hNx (run_endD HBa.out)
              · exact vdp_ge ca cl cc (j : Int) xs ra rl rc R w.heap.size (w.heap.size + 1) gv gt j (runP R (j : Int) xs) w1 HIn1.out HF.out rfl HGv.out HGt.out hvt _ _ i rs f _ _ _ _ _ _ _ _ _ _ _ _ _ _ _ _ _ _ _ _ _ _ _ _ _ _ _ _ _ _ _ _ _ _ _ _ _ _ _ _ _ _ _ _ _ _ _ _ _ _ _ _ _ _ _ _ _ _ _ _ _ _ _ _ _ _ _ _ _ _ _ _ _ _ _ _ _ _ _ _ _ _ _ _ _ _ _ _ _ _ _ _ _ _ _ _ _ _ _ _ _ _ _ _ _ _ _ _ _ _ _ _ _ _ _ _ _ _ _ _ _ _ _ _ _ _ _ _ _ _ _ _ _ _ _ _ _ _ _ _ _ _ _ _ _ _ _ _ _ _ _ _ _ _ _ _ _ _ _ _ _ _ _ _ _ _ _ _ _ _ _ _ _ _ _ _ _ _ _ _ _ _ _ _ _ _ _ _ _ _ _ _ _ _ _ _ _ _ _ _ _ _ _ _ _ _ _ _ _ _ _ _ _ _ _ _ _ _ _ _ _ _ _ _ _ _ _ _ _ _ _ _ _ _ _ w' hV hilt h hNx (run_endD HBa.out)
              · exact vdp_and ca cl cc (j : Int) xs ra rl rc R w.heap.size (w.heap.size + 1) gv gt j (runP R (j : Int) xs) w1 HIn1.out HF.out rfl HGv.out HGt.out hvt _ _ i rs f _ _ _ _ _ _ _ _ _ _ _ _ _ _ _ _ _ _ _ _ _ _ _ _ _ _ _ _ _ _ _ _ _ _ _ _ _ _ _ _ _ _ _ _ _ _ _ _ _ _ _ _ _ _ _ _ _ _ _ _ _ _ _ _ _ _ _ _ _ _ _ _ _ _ _ _ _ _ _ _ _ _ _ _ _ _ _ _ _ _ _ _ _ _ _ _ _ _ _ _ _ _ _ _ _ _ _ _ _ _ _ _ _ _ _ _ _ _ _ _ _ _ _ _ _ _ _ _ _ _ _ _ _ _ _ _ _ _ _ _ _ _ _ _ _ _ _ _ _ _ _ _ _ _ _ _ _ _ _ _ _ _ _ _ _ _ _ _ _ _ _ _ _ _ _ _ _ _ _ _ _ _ _ _ _ _ _ _ _ _ _ _ _ _ _ _ _ _ _ _ _ _ _ _ _ _ _ _ _ _ _ _ _ _ _ _ _ _ _ _ _ _ _ _ _ _ _ _ _ _ _ _ _ _ _ w' hV hilt h hNx (run_endD HBa.out)
              · exact vdp_or ca cl cc (j : Int) xs ra rl rc R w.heap.size (w.heap.size + 1) gv gt j (runP R (j : Int) xs) w1 HIn1.out HF.out rfl HGv.out HGt.out hvt _ _ i rs f _ _ _ _ _ _ _ _ _ _ _ _ _ _ _ _ _ _ _ _ _ _ _ _ _ _ _ _ _ _ _ _ _ _ _ _ _ _ _ _ _ _ _ _ _ _ _ _ _ _ _ _ _ _ _ _ _ _ _ _ _ _ _ _ _ _ _ _ _ _ _ _ _ _ _ _ _ _ _ _ _ _ _ _ _ _ _ _ _ _ _ _ _ _ _ _ _ _ _ _ _ _ _ _ _ _ _ _ _ _ _ _ _ _ _ _ _ _ _ _ _ _ _ _ _ _ _ _ _ _ _ _ _ _ _ _ _ _ _ _ _ _ _ _ _ _ _ _ _ _ _ _ _ _ _ _ _ _ _ _ _ _ _ _ _ _ _ _ _ _ _ _ _ _ _ _ _ _ _ _ _ _ _ _ _ _ _ _ _ _ _ _ _ _ _ _ _ _ _ _ _ _ _ _ _ _ _ _ _ _ _ _ _ _ _ _ _ _ _ _ _ _ _ _ _ _ _ _ _ _ _ _ _ _ _ w' hV hilt h hNx (run_endD HBa.out)
              · exact vdp_false ca cl cc (j : Int) xs ra rl rc R w.heap.size (w.heap.size + 1) gv gt j (runP R (j : Int) xs) w1 HIn1.out HF.out rfl HGv.out HGt.out hvt _ _ i rs f _ _ _ _ _ _ _ _ _ _ _ _ _ _ _ _ _ _ _ _ _ _ _ _ _ _ _ _ _ _ _ _ _ _ _ _ _ _ _ _ _ _ _ _ _ _ _ _ _ _ _ _ _ _ _ _ _ _ _ _ _ _ _ _ _ _ _ _ _ _ _ _ _ _ _ _ _ _ _ _ _ _ _ _ _ _ _ _ _ _ _ _ _ _ _ _ _ _ _ _ _ _ _ _ _ _ _ _ _ _ _ _ _ _ _ _ _ _ _ _ _ _ _ _ _ _ _ _ _ _ _ _ _ _ _ _ _ _ _ _ _ _ _ _ _ _ _ _ _ _ _ _ _ _ _ _ _ _ _ _ _ _ _ _ _ _ _ _ _ _ _ _ _ _ _ _ _ _ _ _ _ _ _ _ _ _ _ _ _ _ _ _ _ _ _ _ _ _ _ _ _ _ _ _ _ _ _ _ _ _ _ _ _ _ _ _ _ _ _ _ _ _ _ _ _ _ _ _ _ _ _ _ _ _ _ w' hV hilt h hNx (run_endD HBa.out)
              · exact vdp_true ca cl cc (j : Int) xs ra rl rc R w.heap.size (w.heap.size + 1) gv gt j (runP R (j : Int) xs) w1 HIn1.out HF.out rfl HGv.out HGt.out hvt _ _ i rs f _ _ _ _ _ _ _ _ _ _ _ _ _ _ _ _ _ _ _ _ _ _ _ _ _ _ _ _ _ _ _ _ _ _ _ _ _ _ _ _ _ _ _ _ _ _ _ _ _ _ _ _ _ _ _ _ _ _ _ _ _ _ _ _ _ _ _ _ _ _ _ _ _ _ _ _ _ _ _ _ _ _ _ _ _ _ _ _ _ _ _ _ _ _ _ _ _ _ _ _ _ _ _ _ _ _ _ _ _ _ _ _ _ _ _ _ _ _ _ _ _ _ _ _ _ _ _ _ _ _ _ _ _ _ _ _ _ _ _ _ _ _ _ _ _ _ _ _ _ _ _ _ _ _ _ _ _ _ _ _ _ _ _ _ _ _ _ _ _ _ _ _ _ _ _ _ _ _ _ _ _ _ _ _ _ _ _ _ _ _ _ _ _ _ _ _ _ _ _ _ _ _ _ _ _ _ _ _ _ _ _ _ _ _ _ _ _ _ _ _ _ _ _ _ _ _ _ _ _ _ _ _ _ _ _ w' hV hilt h hNx (run_endD HBa.out)
              · have hOk := (formed_at HF.out).2 i (by rw [HIn1.out.i.1]; exact hilt)
                exact absurd hOk (by
                  unfold okI fitsB
                  rw [show opClass (xs.getD i noI).op = 5 from class_other _ h0 h1 h2 h3 h4 h5 h6 h7 h8 h9 h10 h11 h12 h13 h14 h15 h16 h17 h18 h19]
                  simp)
            · have hlen := HIn1.out.i.1
              have hmax := HIn1.out.i.2.1
              obtain rfl : i = cl := by have := hV.ile; omega
              have hin := HIn1.out.below hV.bel
              have p0 := hin.p0
              have hP4 := hin.p4
              have HV := Lib.hid hV
              obtain ⟨f, rfl⟩ : ∃ f', f = f' + 1 := ⟨f - 1, by have := HV.out.fuel; omega⟩
              have HFn := Lib.hid (runR_end HV.out.ok (by rw [hlen]; exact Nat.le_refl _))
              have hpv : w.heap.size + 1 ≠ gv := by have h1 := (Array.getElem?_eq_some_iff.1 HIn1.out.p4).1; have := HGv.out; omega
              have hpt : w.heap.size + 1 ≠ gt := by have h1 := (Array.getElem?_eq_some_iff.1 HIn1.out.p4).1; have := HGt.out; omega
              have HP4 := Lib.hid hP4
              have hK0 : 0 < j := by have := HK.out; omega
              clear hV hin hP4 hilt hlen
              go_wp2_with fail
              refine wp_mono (vdr46_any ra rl rc gv gt j (w.heap.size + 1) rs w' _ _ _ _ _ _ _ _ _ _ _ _ _ _ _ _ _ _ _ _ _ _ _ _ _ _ _ _ _ _ _ _ _ _ _ _ _ _ _ _ _ _ _ _ _ _ _ _ _ _ _ _ _ _ _ _ _ _ _ _ _ _ _ _ _ _ _ _ _ _ _ _ _ _ _ _ _ _ _ _ _ _ _ _ _ _ _ _ _ _ _ _ _ _ _ _ _ _ _ _ _ _ _ _ _ _ _ _ _ _ _ _ _ _ _ _ _ _ _ _ _ _ _ _ _ _ _ _ _ _ _ _ _ _ _ _ _ _ _ _ _ _ _ _ _ _ _ _ _ _ _ _ _ _ _ _ _ _ _ _ _ _ _ _ _ _ _ _ _ _ _ _ _ _ _ _ _ _ _ _ _ _ _ _ _ _ _ _ _ _ _ _ _ _ _ _ _ _ _ _ _ _ _ _ _ _ _ _ _ _ _ _ _ _ _ _ _ _ _ _ _ _ _ _ _ _ _ _ _ _ _ _ _ _ _ _ _ HV.out.val HV.out.tru hpv hpt HV.out.len hK0 HP4.out) ?_
              rintro e' a' w2 ⟨rfl, ⟨u235, u236, u237, u238, u239, u240, rfl⟩, hR, hS⟩
              have HR := Lib.hid hR
              have HS := Lib.hid hS
              clear hR hS
              go_wp2
              have hfin := HFn.out
              have HQ := run_endD (y := runP R (j : Int) xs) HBa.out
              rw [hfin] at HQ ⊢
              exact HQ _ _ w' rfl rfl rfl rfl HR.out HV.out.bel HS.out
  · have hfin : runP R k xs = (noV, 0, 1) := by unfold runP; rw [if_neg hf]
    rw [hfin]
    have hff : formedP k xs = false := Bool.eq_false_iff.2 hf
    have HF := Lib.hid hff
    clear hf hfin hff
    go_enter Try.func76, Try.ntmps76
    go_wp2_with fail
    rw [← HW.out]
    clear hW0
    refine (rform_any ca cl cc k xs _ HIn.out.i).mono ?_
    rintro e w1 ⟨rfl, hb1⟩
    rw [HF.out]
    have hp4 := (HIn.out.below hb1).p4
    have HP4 := Lib.hid hp4
    have a0 := cell_of_row _ _ 0 _ _ _ hp4
    have a1 := cell_of_row _ _ 1 _ _ _ hp4
    have a2 := cell_of_row _ _ 2 _ _ _ hp4
    simp only [List.getElem?_toArray, List.getElem?_cons_zero, List.getElem?_cons_succ, noV] at a0 a1 a2
    have fz : ∀ j, w1.frozen? ⟨w.heap.size + 1, j, none⟩ = false := fun j => frozen_of_row _ _ j _ _ hp4
    have hlt4 : w.heap.size + 1 < w1.heap.size := (Array.getElem?_eq_some_iff.1 hp4).1
    have HRes := Lib.hid (show ResAt (((w1.setCell ⟨w.heap.size + 1, 0, none⟩ (.int .i64 0)).setCell ⟨w.heap.size + 1, 1, none⟩ (.int .i64 0)).setCell ⟨w.heap.size + 1, 2, none⟩ (.string ⟨#[]⟩)) (w.heap.size + 1) noV from vbox3 HP4.out (.int .i64 0) (.int .i64 0) (.string ⟨#[]⟩))
    have HBf := Lib.hid (show Below w.heap.size w (((w1.setCell ⟨w.heap.size + 1, 0, none⟩ (.int .i64 0)).setCell ⟨w.heap.size + 1, 1, none⟩ (.int .i64 0)).setCell ⟨w.heap.size + 1, 2, none⟩ (.string ⟨#[]⟩)) from (((bt HB0.out hb1).setCell (Nat.le_succ _) _).setCell (Nat.le_succ _) _).setCell (Nat.le_succ _) _)
    clear hb1 hp4 p0 p1
    go_wp2
    generalize ((w1.setCell ⟨w.heap.size + 1, 0, none⟩ (.int .i64 0)).setCell ⟨w.heap.size + 1, 1, none⟩ (.int .i64 0)).setCell ⟨w.heap.size + 1, 2, none⟩ (.string ⟨#[]⟩) = w9 at *
    (try simp only [Exit.inBlock, Exit.then])
    refine bodyPost_ret (results_val3 rfl _ _ (w.heap.size + 1) noV rfl HRes.out) rfl ?_
    exact ⟨rfl, HBf.out⟩
end Go.Proofs.Ytafhgilikcablaa
