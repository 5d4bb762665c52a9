/- vm.Run: contract. (Written by genvmrun.py.) -/
import Derived.Test.YtafhgilikcablaaVmA0
import Derived.Test.YtafhgilikcablaaVmA3
import Derived.Test.YtafhgilikcablaaVmA5
import Derived.Test.YtafhgilikcablaaVmR13
import Derived.Laws.MakeOwn
namespace Go.Proofs.Ytafhgilikcablaa
open Go.RowKit
set_option linter.unusedVariables false
set_option linter.unusedSimpArgs false
set_option maxRecDepth 100000
set_option maxHeartbeats 12800000 in
theorem vmpass (ca : Option Addr) (cl cc : Nat) (k : Int) (xs : List Ins) (ra : Option Addr) (rl rc : Nat) (R : List (List Val)) (P2 P4 g K : Nat) (fin : Val × Int × Int) (W0 : World) (hin : VmIn ca cl cc k xs ra rl R P2 P4 W0) (hf : formedP k xs = true) (hk : k = (K : Int)) (hg : W0.heap.size ≤ g)
    (Q : Exit → Act → World → Prop) (hQ : ∀ (a' : Act) (w' w2 : World), a'.defers = [] → a'.tmps.getD 4 undef = .pointer (some ⟨P4, 0, none⟩) → a'.tmps.getD 5 undef = .int .i64 fin.2.1 → a'.tmps.getD 6 undef = .int .i64 fin.2.2 → ResAt w' P4 fin.1 → Below W0.heap.size W0 w2 → Sto P4 w2 w' → Q .ret a' w') (a : Act) (w : World) (hJ : VmJ ra rl rc P2 P4 g K R xs fin W0 a w) :
    VmTail.wp Try.prog (Exit.jump 0 (fun a' w' => VmJ ra rl rc P2 P4 g K R xs fin W0 a' w' ∧ cl - atOf a' < cl - atOf a) Q) a w := by
  obtain ⟨i, e, rs, f, hJ⟩ := hJ
  obtain ⟨x0, hJ⟩ := hJ
  obtain ⟨x3, hJ⟩ := hJ
  obtain ⟨x5, hJ⟩ := hJ
  obtain ⟨x6, hJ⟩ := hJ
  obtain ⟨x8, hJ⟩ := hJ
  obtain ⟨x11, hJ⟩ := hJ
  obtain ⟨x12, hJ⟩ := hJ
  obtain ⟨x13, hJ⟩ := hJ
  obtain ⟨x14, hJ⟩ := hJ
  obtain ⟨x15, hJ⟩ := hJ
  obtain ⟨x16, hJ⟩ := hJ
  obtain ⟨x17, hJ⟩ := hJ
  obtain ⟨x18, hJ⟩ := hJ
  obtain ⟨x19, hJ⟩ := hJ
  obtain ⟨x20, hJ⟩ := hJ
  obtain ⟨x21, hJ⟩ := hJ
  obtain ⟨x22, hJ⟩ := hJ
  obtain ⟨x23, hJ⟩ := hJ
  obtain ⟨x24, hJ⟩ := hJ
  obtain ⟨x25, hJ⟩ := hJ
  obtain ⟨x26, hJ⟩ := hJ
  obtain ⟨x27, hJ⟩ := hJ
  obtain ⟨x28, hJ⟩ := hJ
  obtain ⟨x29, hJ⟩ := hJ
  obtain ⟨x30, hJ⟩ := hJ
  obtain ⟨x31, hJ⟩ := hJ
  obtain ⟨x32, hJ⟩ := hJ
  obtain ⟨x33, hJ⟩ := hJ
  obtain ⟨x34, hJ⟩ := hJ
  obtain ⟨x35, hJ⟩ := hJ
  obtain ⟨x36, hJ⟩ := hJ
  obtain ⟨x37, hJ⟩ := hJ
  obtain ⟨x38, hJ⟩ := hJ
  obtain ⟨x39, hJ⟩ := hJ
  obtain ⟨x40, hJ⟩ := hJ
  obtain ⟨x41, hJ⟩ := hJ
  obtain ⟨x42, hJ⟩ := hJ
  obtain ⟨x43, hJ⟩ := hJ
  obtain ⟨x44, hJ⟩ := hJ
  obtain ⟨x45, hJ⟩ := hJ
  obtain ⟨x46, hJ⟩ := hJ
  obtain ⟨x47, hJ⟩ := hJ
  obtain ⟨x48, hJ⟩ := hJ
  obtain ⟨x49, hJ⟩ := hJ
  obtain ⟨x50, hJ⟩ := hJ
  obtain ⟨x51, hJ⟩ := hJ
  obtain ⟨x52, hJ⟩ := hJ
  obtain ⟨x53, hJ⟩ := hJ
  obtain ⟨x54, hJ⟩ := hJ
  obtain ⟨x55, hJ⟩ := hJ
  obtain ⟨x56, hJ⟩ := hJ
  obtain ⟨x57, hJ⟩ := hJ
  obtain ⟨x58, hJ⟩ := hJ
  obtain ⟨x59, hJ⟩ := hJ
  obtain ⟨x60, hJ⟩ := hJ
  obtain ⟨x61, hJ⟩ := hJ
  obtain ⟨x62, hJ⟩ := hJ
  obtain ⟨x63, hJ⟩ := hJ
  obtain ⟨x64, hJ⟩ := hJ
  obtain ⟨x65, hJ⟩ := hJ
  obtain ⟨x66, hJ⟩ := hJ
  obtain ⟨x67, hJ⟩ := hJ
  obtain ⟨x68, hJ⟩ := hJ
  obtain ⟨x69, hJ⟩ := hJ
  obtain ⟨x70, hJ⟩ := hJ
  obtain ⟨x71, hJ⟩ := hJ
  obtain ⟨x72, hJ⟩ := hJ
  obtain ⟨x73, hJ⟩ := hJ
  obtain ⟨x74, hJ⟩ := hJ
  obtain ⟨x75, hJ⟩ := hJ
  obtain ⟨x76, hJ⟩ := hJ
  obtain ⟨x77, hJ⟩ := hJ
  obtain ⟨x78, hJ⟩ := hJ
  obtain ⟨x79, hJ⟩ := hJ
  obtain ⟨x80, hJ⟩ := hJ
  obtain ⟨x81, hJ⟩ := hJ
  obtain ⟨x82, hJ⟩ := hJ
  obtain ⟨x83, hJ⟩ := hJ
  obtain ⟨x84, hJ⟩ := hJ
  obtain ⟨x85, hJ⟩ := hJ
  obtain ⟨x86, hJ⟩ := hJ
  obtain ⟨x87, hJ⟩ := hJ
  obtain ⟨x88, hJ⟩ := hJ
  obtain ⟨x89, hJ⟩ := hJ
  obtain ⟨x90, hJ⟩ := hJ
  obtain ⟨x91, hJ⟩ := hJ
  obtain ⟨x92, hJ⟩ := hJ
  obtain ⟨x93, hJ⟩ := hJ
  obtain ⟨x94, hJ⟩ := hJ
  obtain ⟨x95, hJ⟩ := hJ
  obtain ⟨x96, hJ⟩ := hJ
  obtain ⟨x97, hJ⟩ := hJ
  obtain ⟨x98, hJ⟩ := hJ
  obtain ⟨x99, hJ⟩ := hJ
  obtain ⟨x100, hJ⟩ := hJ
  obtain ⟨x101, hJ⟩ := hJ
  obtain ⟨x102, hJ⟩ := hJ
  obtain ⟨x103, hJ⟩ := hJ
  obtain ⟨x104, hJ⟩ := hJ
  obtain ⟨x105, hJ⟩ := hJ
  obtain ⟨x106, hJ⟩ := hJ
  obtain ⟨x107, hJ⟩ := hJ
  obtain ⟨x108, hJ⟩ := hJ
  obtain ⟨x109, hJ⟩ := hJ
  obtain ⟨x110, hJ⟩ := hJ
  obtain ⟨x111, hJ⟩ := hJ
  obtain ⟨x112, hJ⟩ := hJ
  obtain ⟨x113, hJ⟩ := hJ
  obtain ⟨x114, hJ⟩ := hJ
  obtain ⟨x115, hJ⟩ := hJ
  obtain ⟨x116, hJ⟩ := hJ
  obtain ⟨x117, hJ⟩ := hJ
  obtain ⟨x118, hJ⟩ := hJ
  obtain ⟨x119, hJ⟩ := hJ
  obtain ⟨x120, hJ⟩ := hJ
  obtain ⟨x121, hJ⟩ := hJ
  obtain ⟨x122, hJ⟩ := hJ
  obtain ⟨x123, hJ⟩ := hJ
  obtain ⟨x124, hJ⟩ := hJ
  obtain ⟨x125, hJ⟩ := hJ
  obtain ⟨x126, hJ⟩ := hJ
  obtain ⟨x127, hJ⟩ := hJ
  obtain ⟨x128, hJ⟩ := hJ
  obtain ⟨x129, hJ⟩ := hJ
  obtain ⟨x130, hJ⟩ := hJ
  obtain ⟨x131, hJ⟩ := hJ
  obtain ⟨x132, hJ⟩ := hJ
  obtain ⟨x133, hJ⟩ := hJ
  obtain ⟨x134, hJ⟩ := hJ
  obtain ⟨x135, hJ⟩ := hJ
  obtain ⟨x136, hJ⟩ := hJ
  obtain ⟨x137, hJ⟩ := hJ
  obtain ⟨x138, hJ⟩ := hJ
  obtain ⟨x139, hJ⟩ := hJ
  obtain ⟨x140, hJ⟩ := hJ
  obtain ⟨x141, hJ⟩ := hJ
  obtain ⟨x142, hJ⟩ := hJ
  obtain ⟨x143, hJ⟩ := hJ
  obtain ⟨x144, hJ⟩ := hJ
  obtain ⟨x145, hJ⟩ := hJ
  obtain ⟨x146, hJ⟩ := hJ
  obtain ⟨x147, hJ⟩ := hJ
  obtain ⟨x148, hJ⟩ := hJ
  obtain ⟨x149, hJ⟩ := hJ
  obtain ⟨x150, hJ⟩ := hJ
  obtain ⟨x151, hJ⟩ := hJ
  obtain ⟨x152, hJ⟩ := hJ
  obtain ⟨x153, hJ⟩ := hJ
  obtain ⟨x154, hJ⟩ := hJ
  obtain ⟨x155, hJ⟩ := hJ
  obtain ⟨x156, hJ⟩ := hJ
  obtain ⟨x157, hJ⟩ := hJ
  obtain ⟨x158, hJ⟩ := hJ
  obtain ⟨x159, hJ⟩ := hJ
  obtain ⟨x160, hJ⟩ := hJ
  obtain ⟨x161, hJ⟩ := hJ
  obtain ⟨x162, hJ⟩ := hJ
  obtain ⟨x163, hJ⟩ := hJ
  obtain ⟨x164, hJ⟩ := hJ
  obtain ⟨x165, hJ⟩ := hJ
  obtain ⟨x166, hJ⟩ := hJ
  obtain ⟨x167, hJ⟩ := hJ
  obtain ⟨x168, hJ⟩ := hJ
  obtain ⟨x169, hJ⟩ := hJ
  obtain ⟨x170, hJ⟩ := hJ
  obtain ⟨x171, hJ⟩ := hJ
  obtain ⟨x172, hJ⟩ := hJ
  obtain ⟨x173, hJ⟩ := hJ
  obtain ⟨x174, hJ⟩ := hJ
  obtain ⟨x175, hJ⟩ := hJ
  obtain ⟨x176, hJ⟩ := hJ
  obtain ⟨x177, hJ⟩ := hJ
  obtain ⟨x178, hJ⟩ := hJ
  obtain ⟨x179, hJ⟩ := hJ
  obtain ⟨x180, hJ⟩ := hJ
  obtain ⟨x181, hJ⟩ := hJ
  obtain ⟨x182, hJ⟩ := hJ
  obtain ⟨x183, hJ⟩ := hJ
  obtain ⟨x184, hJ⟩ := hJ
  obtain ⟨x185, hJ⟩ := hJ
  obtain ⟨x186, hJ⟩ := hJ
  obtain ⟨x187, hJ⟩ := hJ
  obtain ⟨x188, hJ⟩ := hJ
  obtain ⟨x189, hJ⟩ := hJ
  obtain ⟨x190, hJ⟩ := hJ
  obtain ⟨x191, hJ⟩ := hJ
  obtain ⟨x192, hJ⟩ := hJ
  obtain ⟨x193, hJ⟩ := hJ
  obtain ⟨x194, hJ⟩ := hJ
  obtain ⟨x195, hJ⟩ := hJ
  obtain ⟨x196, hJ⟩ := hJ
  obtain ⟨x197, hJ⟩ := hJ
  obtain ⟨x198, hJ⟩ := hJ
  obtain ⟨x199, hJ⟩ := hJ
  obtain ⟨x200, hJ⟩ := hJ
  obtain ⟨x201, hJ⟩ := hJ
  obtain ⟨x202, hJ⟩ := hJ
  obtain ⟨x203, hJ⟩ := hJ
  obtain ⟨x204, hJ⟩ := hJ
  obtain ⟨x205, hJ⟩ := hJ
  obtain ⟨x206, hJ⟩ := hJ
  obtain ⟨x207, hJ⟩ := hJ
  obtain ⟨x208, hJ⟩ := hJ
  obtain ⟨x209, hJ⟩ := hJ
  obtain ⟨x210, hJ⟩ := hJ
  obtain ⟨x211, hJ⟩ := hJ
  obtain ⟨x212, hJ⟩ := hJ
  obtain ⟨x213, hJ⟩ := hJ
  obtain ⟨x214, hJ⟩ := hJ
  obtain ⟨x215, hJ⟩ := hJ
  obtain ⟨x216, hJ⟩ := hJ
  obtain ⟨x217, hJ⟩ := hJ
  obtain ⟨x218, hJ⟩ := hJ
  obtain ⟨x219, hJ⟩ := hJ
  obtain ⟨x220, hJ⟩ := hJ
  obtain ⟨x221, hJ⟩ := hJ
  obtain ⟨x222, hJ⟩ := hJ
  obtain ⟨x223, hJ⟩ := hJ
  obtain ⟨x224, hJ⟩ := hJ
  obtain ⟨x225, hJ⟩ := hJ
  obtain ⟨x226, hJ⟩ := hJ
  obtain ⟨x227, hJ⟩ := hJ
  obtain ⟨x228, hJ⟩ := hJ
  obtain ⟨x229, hJ⟩ := hJ
  obtain ⟨x230, hJ⟩ := hJ
  obtain ⟨x231, hJ⟩ := hJ
  obtain ⟨x232, hJ⟩ := hJ
  obtain ⟨x233, hJ⟩ := hJ
  obtain ⟨x234, hJ⟩ := hJ
  obtain ⟨x235, hJ⟩ := hJ
  obtain ⟨x236, hJ⟩ := hJ
  obtain ⟨x237, hJ⟩ := hJ
  obtain ⟨x238, hJ⟩ := hJ
  obtain ⟨x239, hJ⟩ := hJ
  obtain ⟨x240, hJ⟩ := hJ
  obtain ⟨x241, hJ⟩ := hJ
  obtain ⟨x242, hJ⟩ := hJ
  obtain ⟨x243, hJ⟩ := hJ
  obtain ⟨x244, hJ⟩ := hJ
  obtain ⟨x245, hJ⟩ := hJ
  obtain ⟨x246, hJ⟩ := hJ
  obtain ⟨x247, hJ⟩ := hJ
  obtain ⟨x248, hJ⟩ := hJ
  obtain ⟨x249, hJ⟩ := hJ
  obtain ⟨x250, hJ⟩ := hJ
  obtain ⟨x251, hJ⟩ := hJ
  obtain ⟨x252, hJ⟩ := hJ
  obtain ⟨x253, hJ⟩ := hJ
  obtain ⟨x254, hJ⟩ := hJ
  obtain ⟨x255, hJ⟩ := hJ
  obtain ⟨x256, hJ⟩ := hJ
  obtain ⟨x257, hJ⟩ := hJ
  obtain ⟨x258, hJ⟩ := hJ
  obtain ⟨x259, hJ⟩ := hJ
  obtain ⟨x260, hJ⟩ := hJ
  obtain ⟨x261, hJ⟩ := hJ
  obtain ⟨x262, hJ⟩ := hJ
  obtain ⟨x263, hJ⟩ := hJ
  obtain ⟨x264, hJ⟩ := hJ
  obtain ⟨rfl, hV⟩ := hJ
  by_cases hC : e = 0 ∧ i < cl
  · obtain ⟨rfl, hilt⟩ := hC
    rcases op_cases (xs.getD i noI).op with h | h | h | h | h | h | h | h | h | h | h | h | h | h | h | h | h | h | h | h | ⟨h0, h1, h2, h3, h4, h5, h6, h7, h8, h9, h10, h11, h12, h13, h14, h15, h16, h17, h18, h19⟩
    · exact vmp_const ca cl cc k xs ra rl rc R P2 P4 g K fin W0 hin hf hk hg Q i rs f _ _ _ _ _ _ _ _ _ _ _ _ _ _ _ _ _ _ _ _ _ _ _ _ _ _ _ _ _ _ _ _ _ _ _ _ _ _ _ _ _ _ _ _ _ _ _ _ _ _ _ _ _ _ _ _ _ _ _ _ _ _ _ _ _ _ _ _ _ _ _ _ _ _ _ _ _ _ _ _ _ _ _ _ _ _ _ _ _ _ _ _ _ _ _ _ _ _ _ _ _ _ _ _ _ _ _ _ _ _ _ _ _ _ _ _ _ _ _ _ _ _ _ _ _ _ _ _ _ _ _ _ _ _ _ _ _ _ _ _ _ _ _ _ _ _ _ _ _ _ _ _ _ _ _ _ _ _ _ _ _ _ _ _ _ _ _ _ _ _ _ _ _ _ _ _ _ _ _ _ _ _ _ _ _ _ _ _ _ _ _ _ _ _ _ _ _ _ _ _ _ _ _ _ _ _ _ _ _ _ _ _ _ _ _ _ _ _ _ _ _ _ _ _ _ _ _ _ _ _ _ _ _ _ _ _ _ _ _ _ _ _ _ _ _ _ _ _ _ _ _ _ _ _ _ _ _ _ _ w hV hilt h
    · exact vmp_col ca cl cc k xs ra rl rc R P2 P4 g K fin W0 hin hf hk hg Q i rs f _ _ _ _ _ _ _ _ _ _ _ _ _ _ _ _ _ _ _ _ _ _ _ _ _ _ _ _ _ _ _ _ _ _ _ _ _ _ _ _ _ _ _ _ _ _ _ _ _ _ _ _ _ _ _ _ _ _ _ _ _ _ _ _ _ _ _ _ _ _ _ _ _ _ _ _ _ _ _ _ _ _ _ _ _ _ _ _ _ _ _ _ _ _ _ _ _ _ _ _ _ _ _ _ _ _ _ _ _ _ _ _ _ _ _ _ _ _ _ _ _ _ _ _ _ _ _ _ _ _ _ _ _ _ _ _ _ _ _ _ _ _ _ _ _ _ _ _ _ _ _ _ _ _ _ _ _ _ _ _ _ _ _ _ _ _ _ _ _ _ _ _ _ _ _ _ _ _ _ _ _ _ _ _ _ _ _ _ _ _ _ _ _ _ _ _ _ _ _ _ _ _ _ _ _ _ _ _ _ _ _ _ _ _ _ _ _ _ _ _ _ _ _ _ _ _ _ _ _ _ _ _ _ _ _ _ _ _ _ _ _ _ _ _ _ _ _ _ _ _ _ _ _ _ _ _ _ _ _ w hV hilt h
    · exact vmp_neg ca cl cc k xs ra rl rc R P2 P4 g K fin W0 hin hf hk hg Q i rs f _ _ _ _ _ _ _ _ _ _ _ _ _ _ _ _ _ _ _ _ _ _ _ _ _ _ _ _ _ _ _ _ _ _ _ _ _ _ _ _ _ _ _ _ _ _ _ _ _ _ _ _ _ _ _ _ _ _ _ _ _ _ _ _ _ _ _ _ _ _ _ _ _ _ _ _ _ _ _ _ _ _ _ _ _ _ _ _ _ _ _ _ _ _ _ _ _ _ _ _ _ _ _ _ _ _ _ _ _ _ _ _ _ _ _ _ _ _ _ _ _ _ _ _ _ _ _ _ _ _ _ _ _ _ _ _ _ _ _ _ _ _ _ _ _ _ _ _ _ _ _ _ _ _ _ _ _ _ _ _ _ _ _ _ _ _ _ _ _ _ _ _ _ _ _ _ _ _ _ _ _ _ _ _ _ _ _ _ _ _ _ _ _ _ _ _ _ _ _ _ _ _ _ _ _ _ _ _ _ _ _ _ _ _ _ _ _ _ _ _ _ _ _ _ _ _ _ _ _ _ _ _ _ _ _ _ _ _ _ _ _ _ _ _ _ _ _ _ _ _ _ _ _ _ _ _ _ _ _ w hV hilt h
    · exact vmp_null ca cl cc k xs ra rl rc R P2 P4 g K fin W0 hin hf hk hg Q i rs f _ _ _ _ _ _ _ _ _ _ _ _ _ _ _ _ _ _ _ _ _ _ _ _ _ _ _ _ _ _ _ _ _ _ _ _ _ _ _ _ _ _ _ _ _ _ _ _ _ _ _ _ _ _ _ _ _ _ _ _ _ _ _ _ _ _ _ _ _ _ _ _ _ _ _ _ _ _ _ _ _ _ _ _ _ _ _ _ _ _ _ _ _ _ _ _ _ _ _ _ _ _ _ _ _ _ _ _ _ _ _ _ _ _ _ _ _ _ _ _ _ _ _ _ _ _ _ _ _ _ _ _ _ _ _ _ _ _ _ _ _ _ _ _ _ _ _ _ _ _ _ _ _ _ _ _ _ _ _ _ _ _ _ _ _ _ _ _ _ _ _ _ _ _ _ _ _ _ _ _ _ _ _ _ _ _ _ _ _ _ _ _ _ _ _ _ _ _ _ _ _ _ _ _ _ _ _ _ _ _ _ _ _ _ _ _ _ _ _ _ _ _ _ _ _ _ _ _ _ _ _ _ _ _ _ _ _ _ _ _ _ _ _ _ _ _ _ _ _ _ _ _ _ _ _ _ _ _ _ w hV hilt h
    · exact vmp_some ca cl cc k xs ra rl rc R P2 P4 g K fin W0 hin hf hk hg Q i rs f _ _ _ _ _ _ _ _ _ _ _ _ _ _ _ _ _ _ _ _ _ _ _ _ _ _ _ _ _ _ _ _ _ _ _ _ _ _ _ _ _ _ _ _ _ _ _ _ _ _ _ _ _ _ _ _ _ _ _ _ _ _ _ _ _ _ _ _ _ _ _ _ _ _ _ _ _ _ _ _ _ _ _ _ _ _ _ _ _ _ _ _ _ _ _ _ _ _ _ _ _ _ _ _ _ _ _ _ _ _ _ _ _ _ _ _ _ _ _ _ _ _ _ _ _ _ _ _ _ _ _ _ _ _ _ _ _ _ _ _ _ _ _ _ _ _ _ _ _ _ _ _ _ _ _ _ _ _ _ _ _ _ _ _ _ _ _ _ _ _ _ _ _ _ _ _ _ _ _ _ _ _ _ _ _ _ _ _ _ _ _ _ _ _ _ _ _ _ _ _ _ _ _ _ _ _ _ _ _ _ _ _ _ _ _ _ _ _ _ _ _ _ _ _ _ _ _ _ _ _ _ _ _ _ _ _ _ _ _ _ _ _ _ _ _ _ _ _ _ _ _ _ _ _ _ _ _ _ _ w hV hilt h
    · exact vmp_not ca cl cc k xs ra rl rc R P2 P4 g K fin W0 hin hf hk hg Q i rs f _ _ _ _ _ _ _ _ _ _ _ _ _ _ _ _ _ _ _ _ _ _ _ _ _ _ _ _ _ _ _ _ _ _ _ _ _ _ _ _ _ _ _ _ _ _ _ _ _ _ _ _ _ _ _ _ _ _ _ _ _ _ _ _ _ _ _ _ _ _ _ _ _ _ _ _ _ _ _ _ _ _ _ _ _ _ _ _ _ _ _ _ _ _ _ _ _ _ _ _ _ _ _ _ _ _ _ _ _ _ _ _ _ _ _ _ _ _ _ _ _ _ _ _ _ _ _ _ _ _ _ _ _ _ _ _ _ _ _ _ _ _ _ _ _ _ _ _ _ _ _ _ _ _ _ _ _ _ _ _ _ _ _ _ _ _ _ _ _ _ _ _ _ _ _ _ _ _ _ _ _ _ _ _ _ _ _ _ _ _ _ _ _ _ _ _ _ _ _ _ _ _ _ _ _ _ _ _ _ _ _ _ _ _ _ _ _ _ _ _ _ _ _ _ _ _ _ _ _ _ _ _ _ _ _ _ _ _ _ _ _ _ _ _ _ _ _ _ _ _ _ _ _ _ _ _ _ _ _ w hV hilt h
    · exact vmp_copy ca cl cc k xs ra rl rc R P2 P4 g K fin W0 hin hf hk hg Q i rs f _ _ _ _ _ _ _ _ _ _ _ _ _ _ _ _ _ _ _ _ _ _ _ _ _ _ _ _ _ _ _ _ _ _ _ _ _ _ _ _ _ _ _ _ _ _ _ _ _ _ _ _ _ _ _ _ _ _ _ _ _ _ _ _ _ _ _ _ _ _ _ _ _ _ _ _ _ _ _ _ _ _ _ _ _ _ _ _ _ _ _ _ _ _ _ _ _ _ _ _ _ _ _ _ _ _ _ _ _ _ _ _ _ _ _ _ _ _ _ _ _ _ _ _ _ _ _ _ _ _ _ _ _ _ _ _ _ _ _ _ _ _ _ _ _ _ _ _ _ _ _ _ _ _ _ _ _ _ _ _ _ _ _ _ _ _ _ _ _ _ _ _ _ _ _ _ _ _ _ _ _ _ _ _ _ _ _ _ _ _ _ _ _ _ _ _ _ _ _ _ _ _ _ _ _ _ _ _ _ _ _ _ _ _ _ _ _ _ _ _ _ _ _ _ _ _ _ _ _ _ _ _ _ _ _ _ _ _ _ _ _ _ _ _ _ _ _ _ _ _ _ _ _ _ _ _ _ _ _ w hV hilt h
    · exact vmp_add ca cl cc k xs ra rl rc R P2 P4 g K fin W0 hin hf hk hg Q i rs f _ _ _ _ _ _ _ _ _ _ _ _ _ _ _ _ _ _ _ _ _ _ _ _ _ _ _ _ _ _ _ _ _ _ _ _ _ _ _ _ _ _ _ _ _ _ _ _ _ _ _ _ _ _ _ _ _ _ _ _ _ _ _ _ _ _ _ _ _ _ _ _ _ _ _ _ _ _ _ _ _ _ _ _ _ _ _ _ _ _ _ _ _ _ _ _ _ _ _ _ _ _ _ _ _ _ _ _ _ _ _ _ _ _ _ _ _ _ _ _ _ _ _ _ _ _ _ _ _ _ _ _ _ _ _ _ _ _ _ _ _ _ _ _ _ _ _ _ _ _ _ _ _ _ _ _ _ _ _ _ _ _ _ _ _ _ _ _ _ _ _ _ _ _ _ _ _ _ _ _ _ _ _ _ _ _ _ _ _ _ _ _ _ _ _ _ _ _ _ _ _ _ _ _ _ _ _ _ _ _ _ _ _ _ _ _ _ _ _ _ _ _ _ _ _ _ _ _ _ _ _ _ _ _ _ _ _ _ _ _ _ _ _ _ _ _ _ _ _ _ _ _ _ _ _ _ _ _ _ w hV hilt h
    · exact vmp_sub ca cl cc k xs ra rl rc R P2 P4 g K fin W0 hin hf hk hg Q i rs f _ _ _ _ _ _ _ _ _ _ _ _ _ _ _ _ _ _ _ _ _ _ _ _ _ _ _ _ _ _ _ _ _ _ _ _ _ _ _ _ _ _ _ _ _ _ _ _ _ _ _ _ _ _ _ _ _ _ _ _ _ _ _ _ _ _ _ _ _ _ _ _ _ _ _ _ _ _ _ _ _ _ _ _ _ _ _ _ _ _ _ _ _ _ _ _ _ _ _ _ _ _ _ _ _ _ _ _ _ _ _ _ _ _ _ _ _ _ _ _ _ _ _ _ _ _ _ _ _ _ _ _ _ _ _ _ _ _ _ _ _ _ _ _ _ _ _ _ _ _ _ _ _ _ _ _ _ _ _ _ _ _ _ _ _ _ _ _ _ _ _ _ _ _ _ _ _ _ _ _ _ _ _ _ _ _ _ _ _ _ _ _ _ _ _ _ _ _ _ _ _ _ _ _ _ _ _ _ _ _ _ _ _ _ _ _ _ _ _ _ _ _ _ _ _ _ _ _ _ _ _ _ _ _ _ _ _ _ _ _ _ _ _ _ _ _ _ _ _ _ _ _ _ _ _ _ _ _ _ w hV hilt h
    · exact vmp_mul ca cl cc k xs ra rl rc R P2 P4 g K fin W0 hin hf hk hg Q i rs f _ _ _ _ _ _ _ _ _ _ _ _ _ _ _ _ _ _ _ _ _ _ _ _ _ _ _ _ _ _ _ _ _ _ _ _ _ _ _ _ _ _ _ _ _ _ _ _ _ _ _ _ _ _ _ _ _ _ _ _ _ _ _ _ _ _ _ _ _ _ _ _ _ _ _ _ _ _ _ _ _ _ _ _ _ _ _ _ _ _ _ _ _ _ _ _ _ _ _ _ _ _ _ _ _ _ _ _ _ _ _ _ _ _ _ _ _ _ _ _ _ _ _ _ _ _ _ _ _ _ _ _ _ _ _ _ _ _ _ _ _ _ _ _ _ _ _ _ _ _ _ _ _ _ _ _ _ _ _ _ _ _ _ _ _ _ _ _ _ _ _ _ _ _ _ _ _ _ _ _ _ _ _ _ _ _ _ _ _ _ _ _ _ _ _ _ _ _ _ _ _ _ _ _ _ _ _ _ _ _ _ _ _ _ _ _ _ _ _ _ _ _ _ _ _ _ _ _ _ _ _ _ _ _ _ _ _ _ _ _ _ _ _ _ _ _ _ _ _ _ _ _ _ _ _ _ _ _ _ w hV hilt h
    · exact vmp_eq ca cl cc k xs ra rl rc R P2 P4 g K fin W0 hin hf hk hg Q i rs f _ _ _ _ _ _ _ _ _ _ _ _ _ _ _ _ _ _ _ _ _ _ _ _ _ _ _ _ _ _ _ _ _ _ _ _ _ _ _ _ _ _ _ _ _ _ _ _ _ _ _ _ _ _ _ _ _ _ _ _ _ _ _ _ _ _ _ _ _ _ _ _ _ _ _ _ _ _ _ _ _ _ _ _ _ _ _ _ _ _ _ _ _ _ _ _ _ _ _ _ _ _ _ _ _ _ _ _ _ _ _ _ _ _ _ _ _ _ _ _ _ _ _ _ _ _ _ _ _ _ _ _ _ _ _ _ _ _ _ _ _ _ _ _ _ _ _ _ _ _ _ _ _ _ _ _ _ _ _ _ _ _ _ _ _ _ _ _ _ _ _ _ _ _ _ _ _ _ _ _ _ _ _ _ _ _ _ _ _ _ _ _ _ _ _ _ _ _ _ _ _ _ _ _ _ _ _ _ _ _ _ _ _ _ _ _ _ _ _ _ _ _ _ _ _ _ _ _ _ _ _ _ _ _ _ _ _ _ _ _ _ _ _ _ _ _ _ _ _ _ _ _ _ _ _ _ _ _ _ w hV hilt h
    · exact vmp_ne ca cl cc k xs ra rl rc R P2 P4 g K fin W0 hin hf hk hg Q i rs f _ _ _ _ _ _ _ _ _ _ _ _ _ _ _ _ _ _ _ _ _ _ _ _ _ _ _ _ _ _ _ _ _ _ _ _ _ _ _ _ _ _ _ _ _ _ _ _ _ _ _ _ _ _ _ _ _ _ _ _ _ _ _ _ _ _ _ _ _ _ _ _ _ _ _ _ _ _ _ _ _ _ _ _ _ _ _ _ _ _ _ _ _ _ _ _ _ _ _ _ _ _ _ _ _ _ _ _ _ _ _ _ _ _ _ _ _ _ _ _ _ _ _ _ _ _ _ _ _ _ _ _ _ _ _ _ _ _ _ _ _ _ _ _ _ _ _ _ _ _ _ _ _ _ _ _ _ _ _ _ _ _ _ _ _ _ _ _ _ _ _ _ _ _ _ _ _ _ _ _ _ _ _ _ _ _ _ _ _ _ _ _ _ _ _ _ _ _ _ _ _ _ _ _ _ _ _ _ _ _ _ _ _ _ _ _ _ _ _ _ _ _ _ _ _ _ _ _ _ _ _ _ _ _ _ _ _ _ _ _ _ _ _ _ _ _ _ _ _ _ _ _ _ _ _ _ _ _ _ w hV hilt h
    · exact vmp_lt ca cl cc k xs ra rl rc R P2 P4 g K fin W0 hin hf hk hg Q i rs f _ _ _ _ _ _ _ _ _ _ _ _ _ _ _ _ _ _ _ _ _ _ _ _ _ _ _ _ _ _ _ _ _ _ _ _ _ _ _ _ _ _ _ _ _ _ _ _ _ _ _ _ _ _ _ _ _ _ _ _ _ _ _ _ _ _ _ _ _ _ _ _ _ _ _ _ _ _ _ _ _ _ _ _ _ _ _ _ _ _ _ _ _ _ _ _ _ _ _ _ _ _ _ _ _ _ _ _ _ _ _ _ _ _ _ _ _ _ _ _ _ _ _ _ _ _ _ _ _ _ _ _ _ _ _ _ _ _ _ _ _ _ _ _ _ _ _ _ _ _ _ _ _ _ _ _ _ _ _ _ _ _ _ _ _ _ _ _ _ _ _ _ _ _ _ _ _ _ _ _ _ _ _ _ _ _ _ _ _ _ _ _ _ _ _ _ _ _ _ _ _ _ _ _ _ _ _ _ _ _ _ _ _ _ _ _ _ _ _ _ _ _ _ _ _ _ _ _ _ _ _ _ _ _ _ _ _ _ _ _ _ _ _ _ _ _ _ _ _ _ _ _ _ _ _ _ _ _ _ w hV hilt h
    · exact vmp_le ca cl cc k xs ra rl rc R P2 P4 g K fin W0 hin hf hk hg Q i rs f _ _ _ _ _ _ _ _ _ _ _ _ _ _ _ _ _ _ _ _ _ _ _ _ _ _ _ _ _ _ _ _ _ _ _ _ _ _ _ _ _ _ _ _ _ _ _ _ _ _ _ _ _ _ _ _ _ _ _ _ _ _ _ _ _ _ _ _ _ _ _ _ _ _ _ _ _ _ _ _ _ _ _ _ _ _ _ _ _ _ _ _ _ _ _ _ _ _ _ _ _ _ _ _ _ _ _ _ _ _ _ _ _ _ _ _ _ _ _ _ _ _ _ _ _ _ _ _ _ _ _ _ _ _ _ _ _ _ _ _ _ _ _ _ _ _ _ _ _ _ _ _ _ _ _ _ _ _ _ _ _ _ _ _ _ _ _ _ _ _ _ _ _ _ _ _ _ _ _ _ _ _ _ _ _ _ _ _ _ _ _ _ _ _ _ _ _ _ _ _ _ _ _ _ _ _ _ _ _ _ _ _ _ _ _ _ _ _ _ _ _ _ _ _ _ _ _ _ _ _ _ _ _ _ _ _ _ _ _ _ _ _ _ _ _ _ _ _ _ _ _ _ _ _ _ _ _ _ _ w hV hilt h
    · exact vmp_gt ca cl cc k xs ra rl rc R P2 P4 g K fin W0 hin hf hk hg Q i rs f _ _ _ _ _ _ _ _ _ _ _ _ _ _ _ _ _ _ _ _ _ _ _ _ _ _ _ _ _ _ _ _ _ _ _ _ _ _ _ _ _ _ _ _ _ _ _ _ _ _ _ _ _ _ _ _ _ _ _ _ _ _ _ _ _ _ _ _ _ _ _ _ _ _ _ _ _ _ _ _ _ _ _ _ _ _ _ _ _ _ _ _ _ _ _ _ _ _ _ _ _ _ _ _ _ _ _ _ _ _ _ _ _ _ _ _ _ _ _ _ _ _ _ _ _ _ _ _ _ _ _ _ _ _ _ _ _ _ _ _ _ _ _ _ _ _ _ _ _ _ _ _ _ _ _ _ _ _ _ _ _ _ _ _ _ _ _ _ _ _ _ _ _ _ _ _ _ _ _ _ _ _ _ _ _ _ _ _ _ _ _ _ _ _ _ _ _ _ _ _ _ _ _ _ _ _ _ _ _ _ _ _ _ _ _ _ _ _ _ _ _ _ _ _ _ _ _ _ _ _ _ _ _ _ _ _ _ _ _ _ _ _ _ _ _ _ _ _ _ _ _ _ _ _ _ _ _ _ _ w hV hilt h
    · exact vmp_ge ca cl cc k xs ra rl rc R P2 P4 g K fin W0 hin hf hk hg Q i rs f _ _ _ _ _ _ _ _ _ _ _ _ _ _ _ _ _ _ _ _ _ _ _ _ _ _ _ _ _ _ _ _ _ _ _ _ _ _ _ _ _ _ _ _ _ _ _ _ _ _ _ _ _ _ _ _ _ _ _ _ _ _ _ _ _ _ _ _ _ _ _ _ _ _ _ _ _ _ _ _ _ _ _ _ _ _ _ _ _ _ _ _ _ _ _ _ _ _ _ _ _ _ _ _ _ _ _ _ _ _ _ _ _ _ _ _ _ _ _ _ _ _ _ _ _ _ _ _ _ _ _ _ _ _ _ _ _ _ _ _ _ _ _ _ _ _ _ _ _ _ _ _ _ _ _ _ _ _ _ _ _ _ _ _ _ _ _ _ _ _ _ _ _ _ _ _ _ _ _ _ _ _ _ _ _ _ _ _ _ _ _ _ _ _ _ _ _ _ _ _ _ _ _ _ _ _ _ _ _ _ _ _ _ _ _ _ _ _ _ _ _ _ _ _ _ _ _ _ _ _ _ _ _ _ _ _ _ _ _ _ _ _ _ _ _ _ _ _ _ _ _ _ _ _ _ _ _ _ _ w hV hilt h
    · exact vmp_and ca cl cc k xs ra rl rc R P2 P4 g K fin W0 hin hf hk hg Q i rs f _ _ _ _ _ _ _ _ _ _ _ _ _ _ _ _ _ _ _ _ _ _ _ _ _ _ _ _ _ _ _ _ _ _ _ _ _ _ _ _ _ _ _ _ _ _ _ _ _ _ _ _ _ _ _ _ _ _ _ _ _ _ _ _ _ _ _ _ _ _ _ _ _ _ _ _ _ _ _ _ _ _ _ _ _ _ _ _ _ _ _ _ _ _ _ _ _ _ _ _ _ _ _ _ _ _ _ _ _ _ _ _ _ _ _ _ _ _ _ _ _ _ _ _ _ _ _ _ _ _ _ _ _ _ _ _ _ _ _ _ _ _ _ _ _ _ _ _ _ _ _ _ _ _ _ _ _ _ _ _ _ _ _ _ _ _ _ _ _ _ _ _ _ _ _ _ _ _ _ _ _ _ _ _ _ _ _ _ _ _ _ _ _ _ _ _ _ _ _ _ _ _ _ _ _ _ _ _ _ _ _ _ _ _ _ _ _ _ _ _ _ _ _ _ _ _ _ _ _ _ _ _ _ _ _ _ _ _ _ _ _ _ _ _ _ _ _ _ _ _ _ _ _ _ _ _ _ _ _ w hV hilt h
    · exact vmp_or ca cl cc k xs ra rl rc R P2 P4 g K fin W0 hin hf hk hg Q i rs f _ _ _ _ _ _ _ _ _ _ _ _ _ _ _ _ _ _ _ _ _ _ _ _ _ _ _ _ _ _ _ _ _ _ _ _ _ _ _ _ _ _ _ _ _ _ _ _ _ _ _ _ _ _ _ _ _ _ _ _ _ _ _ _ _ _ _ _ _ _ _ _ _ _ _ _ _ _ _ _ _ _ _ _ _ _ _ _ _ _ _ _ _ _ _ _ _ _ _ _ _ _ _ _ _ _ _ _ _ _ _ _ _ _ _ _ _ _ _ _ _ _ _ _ _ _ _ _ _ _ _ _ _ _ _ _ _ _ _ _ _ _ _ _ _ _ _ _ _ _ _ _ _ _ _ _ _ _ _ _ _ _ _ _ _ _ _ _ _ _ _ _ _ _ _ _ _ _ _ _ _ _ _ _ _ _ _ _ _ _ _ _ _ _ _ _ _ _ _ _ _ _ _ _ _ _ _ _ _ _ _ _ _ _ _ _ _ _ _ _ _ _ _ _ _ _ _ _ _ _ _ _ _ _ _ _ _ _ _ _ _ _ _ _ _ _ _ _ _ _ _ _ _ _ _ _ _ _ _ w hV hilt h
    · exact vmp_false ca cl cc k xs ra rl rc R P2 P4 g K fin W0 hin hf hk hg Q i rs f _ _ _ _ _ _ _ _ _ _ _ _ _ _ _ _ _ _ _ _ _ _ _ _ _ _ _ _ _ _ _ _ _ _ _ _ _ _ _ _ _ _ _ _ _ _ _ _ _ _ _ _ _ _ _ _ _ _ _ _ _ _ _ _ _ _ _ _ _ _ _ _ _ _ _ _ _ _ _ _ _ _ _ _ _ _ _ _ _ _ _ _ _ _ _ _ _ _ _ _ _ _ _ _ _ _ _ _ _ _ _ _ _ _ _ _ _ _ _ _ _ _ _ _ _ _ _ _ _ _ _ _ _ _ _ _ _ _ _ _ _ _ _ _ _ _ _ _ _ _ _ _ _ _ _ _ _ _ _ _ _ _ _ _ _ _ _ _ _ _ _ _ _ _ _ _ _ _ _ _ _ _ _ _ _ _ _ _ _ _ _ _ _ _ _ _ _ _ _ _ _ _ _ _ _ _ _ _ _ _ _ _ _ _ _ _ _ _ _ _ _ _ _ _ _ _ _ _ _ _ _ _ _ _ _ _ _ _ _ _ _ _ _ _ _ _ _ _ _ _ _ _ _ _ _ _ _ _ _ w hV hilt h
    · exact vmp_true ca cl cc k xs ra rl rc R P2 P4 g K fin W0 hin hf hk hg Q i rs f _ _ _ _ _ _ _ _ _ _ _ _ _ _ _ _ _ _ _ _ _ _ _ _ _ _ _ _ _ _ _ _ _ _ _ _ _ _ _ _ _ _ _ _ _ _ _ _ _ _ _ _ _ _ _ _ _ _ _ _ _ _ _ _ _ _ _ _ _ _ _ _ _ _ _ _ _ _ _ _ _ _ _ _ _ _ _ _ _ _ _ _ _ _ _ _ _ _ _ _ _ _ _ _ _ _ _ _ _ _ _ _ _ _ _ _ _ _ _ _ _ _ _ _ _ _ _ _ _ _ _ _ _ _ _ _ _ _ _ _ _ _ _ _ _ _ _ _ _ _ _ _ _ _ _ _ _ _ _ _ _ _ _ _ _ _ _ _ _ _ _ _ _ _ _ _ _ _ _ _ _ _ _ _ _ _ _ _ _ _ _ _ _ _ _ _ _ _ _ _ _ _ _ _ _ _ _ _ _ _ _ _ _ _ _ _ _ _ _ _ _ _ _ _ _ _ _ _ _ _ _ _ _ _ _ _ _ _ _ _ _ _ _ _ _ _ _ _ _ _ _ _ _ _ _ _ _ _ _ w hV hilt h
    · have hOk := (formed_at hf).2 i (by rw [hin.i.1]; exact hilt)
      exact absurd hOk (by
        unfold okI fitsB
        rw [show opClass (xs.getD i noI).op = 5 from class_other _ h0 h1 h2 h3 h4 h5 h6 h7 h8 h9 h10 h11 h12 h13 h14 h15 h16 h17 h18 h19]
        simp)
  have HV := Lib.hid hV
  have HIn := Lib.hid (hin.below hV.bel)
  clear hV
  conv => arg 2; whnf
  dsimp only
  have hlen := HIn.out.i.1
  have hmax := HIn.out.i.2.1
  have hil := HV.out.ile
  have p0 := HIn.out.p0
  have hP4 := HIn.out.p4
  have a0 := cell_of_row _ _ 0 _ _ _ hP4
  have a1 := cell_of_row _ _ 1 _ _ _ hP4
  have a2 := cell_of_row _ _ 2 _ _ _ hP4
  simp only [List.getElem?_toArray, List.getElem?_cons_zero, List.getElem?_cons_succ, noV] at a0 a1 a2
  have fz : ∀ j, w.frozen? ⟨P4, j, none⟩ = false := fun j => frozen_of_row _ _ j _ _ hP4
  have hlt4 : P4 < w.heap.size := (Array.getElem?_eq_some_iff.1 hP4).1
  have HP4 := Lib.hid hP4
  have HQ := Lib.hid hQ
  have Hf := Lib.hid hf
  have Hk := Lib.hid hk
  have Hg := Lib.hid hg
  have HLen := Lib.hid hlen
  have hic : (i : Int) ≤ (cl : Int) := by omega
  clear hP4 hQ hf hk hg hin
  by_cases he : e = 0
  · subst he
    by_cases hi : i = cl
    · subst hi
      have hK0 : 0 < K := by have := (formed_at Hf.out).1; have := Hk.out; omega
      obtain ⟨f, rfl⟩ : ∃ f', f = f' + 1 := ⟨f - 1, by have := HV.out.fuel; omega⟩
      have HF := Lib.hid (runR_end (HV.out.ok rfl) (by rw [HLen.out]; exact Nat.le_refl _))
      go_wp2_with fail
      refine wp_mono (vmr13_any ra rl rc g K P4 rs w _ _ _ _ _ _ _ _ _ _ _ _ _ _ _ _ _ _ _ _ _ _ _ _ _ _ _ _ _ _ _ _ _ _ _ _ _ _ _ _ _ _ _ _ _ _ _ _ _ _ _ _ _ _ _ _ _ _ _ _ _ _ _ _ _ _ _ _ _ _ _ _ _ _ _ _ _ _ _ _ _ _ _ _ _ _ _ _ _ _ _ _ _ _ _ _ _ _ _ _ _ _ _ _ _ _ _ _ _ _ _ _ _ _ _ _ _ _ _ _ _ _ _ _ _ _ _ _ _ _ _ _ _ _ _ _ _ _ _ _ _ _ _ _ _ _ _ _ _ _ _ _ _ _ _ _ _ _ _ _ _ _ _ _ _ _ _ _ _ _ _ _ _ _ _ _ _ _ _ _ _ _ _ _ _ _ _ _ _ _ _ _ _ _ _ _ _ _ _ _ _ _ _ _ _ _ _ _ _ _ _ _ _ _ _ _ _ _ _ _ _ _ _ _ _ _ _ _ _ _ _ _ _ _ _ _ _ _ _ _ _ _ _ _ _ _ _ _ _ _ _ _ _ _ _ _ _ _ _ _ _ _ HV.out.at_ HV.out.len hK0 HP4.out) ?_
      rintro e' a' w' ⟨rfl, ⟨u38, u39, u40, u41, u42, u43, u44, u45, rfl⟩, hR, hS⟩
      have HR := Lib.hid hR
      have HS := Lib.hid hS
      clear hR hS
      go_wp2
      have hfin := HF.out
      subst hfin
      exact HQ.out _ _ w rfl rfl rfl rfl HR.out HV.out.bel HS.out
    · exact absurd ⟨rfl, by omega⟩ hC
  · have he1 : (e == 0) = false := beq_eq_false_iff_ne.2 he
    have he2 : (e != 0) = true := bne_iff_ne.2 he
    have HF := Lib.hid (HV.out.no he)
    have HR := Lib.hid (vbox3 HP4.out (.int .i64 0) (.int .i64 0) (.string ⟨#[]⟩))
    clear he
    go_wp2
    have hfin := HF.out
    subst hfin
    exact HQ.out _ _ w rfl rfl rfl rfl HR.out HV.out.bel ((((Sto.refl P4 w).set _ _).set _ _).set _ _)
end Go.Proofs.Ytafhgilikcablaa
