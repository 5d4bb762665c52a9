/- ExprForms: the region that makes both of the package's expressions. Written by genefr.py. -/
import Derived.Test.YtafhgilikcablaaGreatDoorEtTh
import Derived.Test.YtafhgilikcablaaGreatDoorTkFin
import Derived.Deep.RegionHeld3
namespace Go.Proofs.YtafhgilikcablaaGreatDoor
open Go.RowKit
set_option linter.unusedVariables false
set_option linter.unusedSimpArgs false
set_option maxRecDepth 100000
def regOfE (n : Nat) : Code → Option Code
  | .region id ops b => if id = n then some (.region id ops b) else none
  | .seq a b => match regOfE n a with
    | some c => some c
    | none => regOfE n b
  | .block _ c => regOfE n c
  | .scope c => regOfE n c
  | .loop c => regOfE n c
  | .cond _ a b => match regOfE n a with
    | some c => some c
    | none => regOfE n b
  | _ => none
noncomputable def EfC3 : Code := ((Tryz.f3.body.bind (regOfE 3)).getD .skip)
def opsOf : Code → Array Oper
  | .region _ ops _ => ops
  | _ => #[]
noncomputable def EfOps : Array Oper := opsOf EfC3
/-- both of the package's expressions lie in boxes -/
def Ef3 (e f : ET) (wr w' : World) (B5 B6 : Nat) : Prop := ∃ ra rb rc rd, w'.heap[B5]? = some (.cells #[.int .i64 e.kind, .string e.op, .int .i64 e.vk, .int .i64 e.vn, .string e.vs, .string e.tab, .string e.col, .slice ra e.parts.length rc] 31 (0, 0)) ∧ w'.heap[B6]? = some (.cells #[.int .i64 f.kind, .string f.op, .int .i64 f.vk, .int .i64 f.vn, .string f.vs, .string f.tab, .string f.col, .slice rb f.parts.length rd] 31 (0, 0)) ∧ ERg e ra rc ∧ ERg f rb rd ∧ EL w' (fun _ => True) ra e.parts ∧ EL w' (fun _ => True) rb f.parts ∧ Below wr.heap.size wr w'
theorem EL.ne {w : World} {Q Q' : Nat → Prop} {a : Option Addr} {l : List ET} (h : EL w Q a l) (hq : ∀ b, Q b → b < w.heap.size → Q' b) (o : Obj) : EL (w.alloc o) Q' a l := (h.mono hq).keep (bel0 _ (Below.refl _ _))
theorem at_alloc {w : World} {B : Nat} {x : Obj} (h : w.heap[B]? = some x) (o : Obj) : (w.alloc o).heap[B]? = some x := (Below.heap_alloc w o B (Array.getElem?_eq_some_iff.1 h).1).trans h
theorem at_lt {w : World} {B : Nat} {x : Obj} (h : w.heap[B]? = some x) : B < w.heap.size := (Array.getElem?_eq_some_iff.1 h).1
set_option maxHeartbeats 6400000 in
theorem efs_211 (e f : ET) (pa qa : Option Addr) (pc qc Ba Bb : Nat) (wr : World) (x0 x1 x4 x7 x8 x9 x10 x11 x12 x13 x14 x15 x16 x17 x18 x19 x24 x25 x26 x27 x28 x29 x30 x31 x32 x33 x34 x35 x36 x37 x38 x39 x40 x41 x42 : Value)
    (hTe : ∀ W : World, Below wr.heap.size wr W → Calls Tryz.prog 7 #[.agg #[.int .i64 e.kind, .string e.op, .int .i64 e.vk, .int .i64 e.vn, .string e.vs, .string e.tab, .string e.col, .slice pa e.parts.length pc]] W fun e' w' => (∃ r, e' = .returned r ∧ EV w' (fun b => W.heap.size ≤ b) r e) ∧ Below W.heap.size W w')
    (hTf : ∀ W : World, Below wr.heap.size wr W → Calls Tryz.prog 7 #[.agg #[.int .i64 f.kind, .string f.op, .int .i64 f.vk, .int .i64 f.vn, .string f.vs, .string f.tab, .string f.col, .slice qa f.parts.length qc]] W fun e' w' => (∃ r, e' = .returned r ∧ EV w' (fun b => W.heap.size ≤ b) r f) ∧ Below W.heap.size W w')
    (W : World) (hB : Below wr.heap.size wr W) (B5 : Nat) (h5 : W.heap[B5]? = some (.cells #[.int .i64 0, .string ⟨#[]⟩, .int .i64 0, .int .i64 0, .string ⟨#[]⟩, .string ⟨#[]⟩, .string ⟨#[]⟩, .slice none 0 0] 31 (0, 0))) (n5 : wr.heap.size ≤ B5) (B6 : Nat) (h6 : W.heap[B6]? = some (.cells #[.int .i64 0, .string ⟨#[]⟩, .int .i64 0, .int .i64 0, .string ⟨#[]⟩, .string ⟨#[]⟩, .string ⟨#[]⟩, .slice none 0 0] 31 (0, 0))) (n6 : wr.heap.size ≤ B6) (n56 : B5 ≠ B6) (ra : Option Addr) (rc : Nat) (gx : ERg e ra rc) (lx : EL W (fun g => g ≠ B5 ∧ g ≠ B6) ra e.parts) (rb : Option Addr) (rd : Nat) (gy : ERg f rb rd) (ly : EL W (fun g => g ≠ B5 ∧ g ≠ B6) rb f.parts) :
    wpAnyH Tryz.prog .any EfOps (NoPanic fun e0 a' w' => e0 = .normal ∧ ∃ (B5 B6 : Nat) (u20 u21 u22 u23 : Value), a' = ⟨#[x0, x1, .pointer (some ⟨Ba, 0, none⟩), .pointer (some ⟨Bb, 0, none⟩), x4, .pointer (some ⟨B5, 0, none⟩), .pointer (some ⟨B6, 0, none⟩), x7, x8, x9, x10, x11, x12, x13, x14, x15, x16, x17, x18, x19, u20, u21, u22, u23, x24, x25, x26, x27, x28, x29, x30, x31, x32, x33, x34, x35, x36, x37, x38, x39, x40, x41, x42], []⟩ ∧ Ef3 e f wr w' B5 B6) (fun W => Below wr.heap.size wr W) 2 #[true, true, true, true, true, true, false, false] ⟨#[x0, x1, .pointer (some ⟨Ba, 0, none⟩), .pointer (some ⟨Bb, 0, none⟩), x4, .pointer (some ⟨B5, 0, none⟩), .pointer (some ⟨B6, 0, none⟩), x7, x8, x9, x10, x11, x12, x13, x14, x15, x16, x17, x18, x19, .agg #[.int .i64 e.kind, .string e.op, .int .i64 e.vk, .int .i64 e.vn, .string e.vs, .string e.tab, .string e.col, .slice pa e.parts.length pc], .agg #[.int .i64 e.kind, .string e.op, .int .i64 e.vk, .int .i64 e.vn, .string e.vs, .string e.tab, .string e.col, .slice ra e.parts.length rc], .agg #[.int .i64 f.kind, .string f.op, .int .i64 f.vk, .int .i64 f.vn, .string f.vs, .string f.tab, .string f.col, .slice qa f.parts.length qc], .agg #[.int .i64 f.kind, .string f.op, .int .i64 f.vk, .int .i64 f.vn, .string f.vs, .string f.tab, .string f.col, .slice rb f.parts.length rd], x24, x25, x26, x27, x28, x29, x30, x31, x32, x33, x34, x35, x36, x37, x38, x39, x40, x41, x42], []⟩ W := by
  have HB := Lib.hid hB
  have HTe := Lib.hid hTe
  have HTf := Lib.hid hTf
  have k6 := (setLe_other (B := B5) (M := B6) (fun h => n56 h.symm) [.int .i64 e.kind, .string e.op, .int .i64 e.vk, .int .i64 e.vn, .string e.vs, .string e.tab, .string e.col, .slice ra e.parts.length rc] 0 W).trans h6
  have k5 := wbox8 h5 (.int .i64 e.kind) (.string e.op) (.int .i64 e.vk) (.int .i64 e.vn) (.string e.vs) (.string e.tab) (.string e.col) (.slice ra e.parts.length rc)
  obtain ⟨g0, g1, g2, g3, g4, g5, g6, g7, gz, gN⟩ := row8 h5
  have hB2 := setLe_below n5 [.int .i64 e.kind, .string e.op, .int .i64 e.vk, .int .i64 e.vn, .string e.vs, .string e.tab, .string e.col, .slice ra e.parts.length rc] 0 W hB
  have lx2 := el_store lx (R := B5) (fun _ h => h.1) 0 [.int .i64 e.kind, .string e.op, .int .i64 e.vk, .int .i64 e.vn, .string e.vs, .string e.tab, .string e.col, .slice ra e.parts.length rc]
  have ly2 := el_store ly (R := B5) (fun _ h => h.1) 0 [.int .i64 e.kind, .string e.op, .int .i64 e.vk, .int .i64 e.vn, .string e.vs, .string e.tab, .string e.col, .slice ra e.parts.length rc]
  have K5 := Lib.hid k5
  have K6 := Lib.hid k6
  have HB2 := Lib.hid hB2
  have LX := Lib.hid lx2
  have LY := Lib.hid ly2
  clear hB hTe hTf h5 h6 lx ly k5 k6 hB2 lx2 ly2
  refine wpAnyH_ready (rs := [6]) (by kernel_rfl) (by simp) ?_
  refine AllReadyH.cons (o := { dst := none, op := .store 31 (.tmp 5) (.tmp 21), type := 0, pos := "law.go:40", after := #[{ on := 4, ground := .data }, { on := 1, ground := .data }, { on := 3, ground := .chain }, { on := 0, ground := .phase }, { on := 1, ground := .phase }, { on := 2, ground := .textOnly .lateStores }, { on := 3, ground := .textOnly .lateStoresUnsure }, { on := 4, ground := .phase }, { on := 5, ground := .phase }], guard := none }) (by kernel_rfl) (fun K hK => ?_) AllReadyH.nil
  go_simp
  refine hK.out _ _ HB2.out (fun _ => ?_)
  clear hK K g0 g1 g2 g3 g4 g5 g6 g7 gz gN
  generalize hW2 : (setLe W B5 0 [.int .i64 e.kind, .string e.op, .int .i64 e.vk, .int .i64 e.vn, .string e.vs, .string e.tab, .string e.col, .slice ra e.parts.length rc]) = W2 at *
  have hW3 : (((((((W.setCell ⟨B5, 0, none⟩ (.int .i64 e.kind)).setCell ⟨B5, 1, none⟩ (.string e.op)).setCell ⟨B5, 2, none⟩ (.int .i64 e.vk)).setCell ⟨B5, 3, none⟩ (.int .i64 e.vn)).setCell ⟨B5, 4, none⟩ (.string e.vs)).setCell ⟨B5, 5, none⟩ (.string e.tab)).setCell ⟨B5, 6, none⟩ (.string e.col)).setCell ⟨B5, 7, none⟩ (.slice ra e.parts.length rc) = W2 := hW2
  rw [hW3]
  clear hW2 hW3
  have k7 := (setLe_other (B := B6) (M := B5) n56 [.int .i64 f.kind, .string f.op, .int .i64 f.vk, .int .i64 f.vn, .string f.vs, .string f.tab, .string f.col, .slice rb f.parts.length rd] 0 W2).trans K5.out
  have k8 := wbox8 K6.out (.int .i64 f.kind) (.string f.op) (.int .i64 f.vk) (.int .i64 f.vn) (.string f.vs) (.string f.tab) (.string f.col) (.slice rb f.parts.length rd)
  obtain ⟨g0, g1, g2, g3, g4, g5, g6, g7, gz, gN⟩ := row8 K6.out
  have HB3 := Lib.hid (setLe_below n6 [.int .i64 f.kind, .string f.op, .int .i64 f.vk, .int .i64 f.vn, .string f.vs, .string f.tab, .string f.col, .slice rb f.parts.length rd] 0 W2 HB2.out)
  have LX3 := Lib.hid (el_store LX.out (R := B6) (fun _ h => h.2) 0 [.int .i64 f.kind, .string f.op, .int .i64 f.vk, .int .i64 f.vn, .string f.vs, .string f.tab, .string f.col, .slice rb f.parts.length rd])
  have LY3 := Lib.hid (el_store LY.out (R := B6) (fun _ h => h.2) 0 [.int .i64 f.kind, .string f.op, .int .i64 f.vk, .int .i64 f.vn, .string f.vs, .string f.tab, .string f.col, .slice rb f.parts.length rd])
  have K7 := Lib.hid k7
  have K8 := Lib.hid k8
  clear k7 k8
  refine wpAnyH_ready (rs := [7]) (by kernel_rfl) (by simp) ?_
  refine AllReadyH.cons (o := { dst := none, op := .store 31 (.tmp 6) (.tmp 23), type := 0, pos := "law.go:40", after := #[{ on := 5, ground := .data }, { on := 3, ground := .data }, { on := 6, ground := .chain }, { on := 0, ground := .phase }, { on := 1, ground := .phase }, { on := 2, ground := .phase }, { on := 3, ground := .phase }, { on := 4, ground := .phase }, { on := 5, ground := .phase }, { on := 6, ground := .phase }], guard := none }) (by kernel_rfl) (fun K hK => ?_) AllReadyH.nil
  go_simp
  refine hK.out _ _ HB3.out (fun _ => ?_)
  clear hK K
  refine wpAnyH_done (by kernel_rfl) ?_ _
  refine NoPanic.normal ?_
  exact ⟨rfl, B5, B6, _, _, _, _, rfl, ra, rb, rc, rd, K7.out, K8.out, gx, gy, LX3.out.mono (fun _ _ _ => trivial), LY3.out.mono (fun _ _ _ => trivial), HB3.out⟩
set_option maxHeartbeats 6400000 in
theorem efs_210 (e f : ET) (pa qa : Option Addr) (pc qc Ba Bb : Nat) (wr : World) (x0 x1 x4 x7 x8 x9 x10 x11 x12 x13 x14 x15 x16 x17 x18 x19 x24 x25 x26 x27 x28 x29 x30 x31 x32 x33 x34 x35 x36 x37 x38 x39 x40 x41 x42 : Value)
    (hTe : ∀ W : World, Below wr.heap.size wr W → Calls Tryz.prog 7 #[.agg #[.int .i64 e.kind, .string e.op, .int .i64 e.vk, .int .i64 e.vn, .string e.vs, .string e.tab, .string e.col, .slice pa e.parts.length pc]] W fun e' w' => (∃ r, e' = .returned r ∧ EV w' (fun b => W.heap.size ≤ b) r e) ∧ Below W.heap.size W w')
    (hTf : ∀ W : World, Below wr.heap.size wr W → Calls Tryz.prog 7 #[.agg #[.int .i64 f.kind, .string f.op, .int .i64 f.vk, .int .i64 f.vn, .string f.vs, .string f.tab, .string f.col, .slice qa f.parts.length qc]] W fun e' w' => (∃ r, e' = .returned r ∧ EV w' (fun b => W.heap.size ≤ b) r f) ∧ Below W.heap.size W w')
    (W : World) (hB : Below wr.heap.size wr W) (B5 : Nat) (h5 : W.heap[B5]? = some (.cells #[.int .i64 0, .string ⟨#[]⟩, .int .i64 0, .int .i64 0, .string ⟨#[]⟩, .string ⟨#[]⟩, .string ⟨#[]⟩, .slice none 0 0] 31 (0, 0))) (n5 : wr.heap.size ≤ B5) (ra : Option Addr) (rc : Nat) (gx : ERg e ra rc) (lx : EL W (fun g => g ≠ B5 ∧ True) ra e.parts) (rb : Option Addr) (rd : Nat) (gy : ERg f rb rd) (ly : EL W (fun g => g ≠ B5 ∧ True) rb f.parts) :
    wpAnyH Tryz.prog .any EfOps (NoPanic fun e0 a' w' => e0 = .normal ∧ ∃ (B5 B6 : Nat) (u20 u21 u22 u23 : Value), a' = ⟨#[x0, x1, .pointer (some ⟨Ba, 0, none⟩), .pointer (some ⟨Bb, 0, none⟩), x4, .pointer (some ⟨B5, 0, none⟩), .pointer (some ⟨B6, 0, none⟩), x7, x8, x9, x10, x11, x12, x13, x14, x15, x16, x17, x18, x19, u20, u21, u22, u23, x24, x25, x26, x27, x28, x29, x30, x31, x32, x33, x34, x35, x36, x37, x38, x39, x40, x41, x42], []⟩ ∧ Ef3 e f wr w' B5 B6) (fun W => Below wr.heap.size wr W) 3 #[true, true, true, true, true, false, false, false] ⟨#[x0, x1, .pointer (some ⟨Ba, 0, none⟩), .pointer (some ⟨Bb, 0, none⟩), x4, .pointer (some ⟨B5, 0, none⟩), undef, x7, x8, x9, x10, x11, x12, x13, x14, x15, x16, x17, x18, x19, .agg #[.int .i64 e.kind, .string e.op, .int .i64 e.vk, .int .i64 e.vn, .string e.vs, .string e.tab, .string e.col, .slice pa e.parts.length pc], .agg #[.int .i64 e.kind, .string e.op, .int .i64 e.vk, .int .i64 e.vn, .string e.vs, .string e.tab, .string e.col, .slice ra e.parts.length rc], .agg #[.int .i64 f.kind, .string f.op, .int .i64 f.vk, .int .i64 f.vn, .string f.vs, .string f.tab, .string f.col, .slice qa f.parts.length qc], .agg #[.int .i64 f.kind, .string f.op, .int .i64 f.vk, .int .i64 f.vn, .string f.vs, .string f.tab, .string f.col, .slice rb f.parts.length rd], x24, x25, x26, x27, x28, x29, x30, x31, x32, x33, x34, x35, x36, x37, x38, x39, x40, x41, x42], []⟩ W := by
  have HB := Lib.hid hB
  have HTe := Lib.hid hTe
  have HTf := Lib.hid hTf
  have H5 := Lib.hid h5
  have LX := Lib.hid lx
  have LY := Lib.hid ly
  clear hB hTe hTf h5 lx ly
  refine wpAnyH_ready (rs := [5]) (by kernel_rfl) (by simp) ?_
  refine AllReadyH.cons (o := { dst := some 6, op := .alloc 31, type := 0, pos := "law.go:40", after := #[], guard := none }) (by kernel_rfl) (fun K hK => ?_) AllReadyH.nil
  · go_simp
    have hs := HB.out.size
    refine hK.out _ _ (bel0 (.cells #[.int .i64 0, .string ⟨#[]⟩, .int .i64 0, .int .i64 0, .string ⟨#[]⟩, .string ⟨#[]⟩, .string ⟨#[]⟩, .slice none 0 0] 31 (0, 0)) HB.out) (fun _ => ?_)
    clear hK K
    try simp only [Act.put, List.setIfInBounds_toArray, List.set_cons_zero, List.set_cons_succ]
    have l5 := at_lt H5.out
    exact efs_211 e f pa qa pc qc Ba Bb wr x0 x1 x4 x7 x8 x9 x10 x11 x12 x13 x14 x15 x16 x17 x18 x19 x24 x25 x26 x27 x28 x29 x30 x31 x32 x33 x34 x35 x36 x37 x38 x39 x40 x41 x42 HTe.out HTf.out (W.alloc (.cells #[.int .i64 0, .string ⟨#[]⟩, .int .i64 0, .int .i64 0, .string ⟨#[]⟩, .string ⟨#[]⟩, .string ⟨#[]⟩, .slice none 0 0] 31 (0, 0))) (bel0 _ HB.out) B5 (at_alloc H5.out _) n5 W.heap.size (Go.heap_alloc_new W _) hs (by omega) ra rc gx (LX.out.ne (fun g hq hlt => ⟨hq.1, Nat.ne_of_lt hlt⟩) _) rb rd gy (LY.out.ne (fun g hq hlt => ⟨hq.1, Nat.ne_of_lt hlt⟩) _)
set_option maxHeartbeats 6400000 in
theorem efs_201 (e f : ET) (pa qa : Option Addr) (pc qc Ba Bb : Nat) (wr : World) (x0 x1 x4 x7 x8 x9 x10 x11 x12 x13 x14 x15 x16 x17 x18 x19 x24 x25 x26 x27 x28 x29 x30 x31 x32 x33 x34 x35 x36 x37 x38 x39 x40 x41 x42 : Value)
    (hTe : ∀ W : World, Below wr.heap.size wr W → Calls Tryz.prog 7 #[.agg #[.int .i64 e.kind, .string e.op, .int .i64 e.vk, .int .i64 e.vn, .string e.vs, .string e.tab, .string e.col, .slice pa e.parts.length pc]] W fun e' w' => (∃ r, e' = .returned r ∧ EV w' (fun b => W.heap.size ≤ b) r e) ∧ Below W.heap.size W w')
    (hTf : ∀ W : World, Below wr.heap.size wr W → Calls Tryz.prog 7 #[.agg #[.int .i64 f.kind, .string f.op, .int .i64 f.vk, .int .i64 f.vn, .string f.vs, .string f.tab, .string f.col, .slice qa f.parts.length qc]] W fun e' w' => (∃ r, e' = .returned r ∧ EV w' (fun b => W.heap.size ≤ b) r f) ∧ Below W.heap.size W w')
    (W : World) (hB : Below wr.heap.size wr W) (B6 : Nat) (h6 : W.heap[B6]? = some (.cells #[.int .i64 0, .string ⟨#[]⟩, .int .i64 0, .int .i64 0, .string ⟨#[]⟩, .string ⟨#[]⟩, .string ⟨#[]⟩, .slice none 0 0] 31 (0, 0))) (n6 : wr.heap.size ≤ B6) (ra : Option Addr) (rc : Nat) (gx : ERg e ra rc) (lx : EL W (fun g => True ∧ g ≠ B6) ra e.parts) (rb : Option Addr) (rd : Nat) (gy : ERg f rb rd) (ly : EL W (fun g => True ∧ g ≠ B6) rb f.parts) :
    wpAnyH Tryz.prog .any EfOps (NoPanic fun e0 a' w' => e0 = .normal ∧ ∃ (B5 B6 : Nat) (u20 u21 u22 u23 : Value), a' = ⟨#[x0, x1, .pointer (some ⟨Ba, 0, none⟩), .pointer (some ⟨Bb, 0, none⟩), x4, .pointer (some ⟨B5, 0, none⟩), .pointer (some ⟨B6, 0, none⟩), x7, x8, x9, x10, x11, x12, x13, x14, x15, x16, x17, x18, x19, u20, u21, u22, u23, x24, x25, x26, x27, x28, x29, x30, x31, x32, x33, x34, x35, x36, x37, x38, x39, x40, x41, x42], []⟩ ∧ Ef3 e f wr w' B5 B6) (fun W => Below wr.heap.size wr W) 3 #[true, true, true, true, false, true, false, false] ⟨#[x0, x1, .pointer (some ⟨Ba, 0, none⟩), .pointer (some ⟨Bb, 0, none⟩), x4, undef, .pointer (some ⟨B6, 0, none⟩), x7, x8, x9, x10, x11, x12, x13, x14, x15, x16, x17, x18, x19, .agg #[.int .i64 e.kind, .string e.op, .int .i64 e.vk, .int .i64 e.vn, .string e.vs, .string e.tab, .string e.col, .slice pa e.parts.length pc], .agg #[.int .i64 e.kind, .string e.op, .int .i64 e.vk, .int .i64 e.vn, .string e.vs, .string e.tab, .string e.col, .slice ra e.parts.length rc], .agg #[.int .i64 f.kind, .string f.op, .int .i64 f.vk, .int .i64 f.vn, .string f.vs, .string f.tab, .string f.col, .slice qa f.parts.length qc], .agg #[.int .i64 f.kind, .string f.op, .int .i64 f.vk, .int .i64 f.vn, .string f.vs, .string f.tab, .string f.col, .slice rb f.parts.length rd], x24, x25, x26, x27, x28, x29, x30, x31, x32, x33, x34, x35, x36, x37, x38, x39, x40, x41, x42], []⟩ W := by
  have HB := Lib.hid hB
  have HTe := Lib.hid hTe
  have HTf := Lib.hid hTf
  have H6 := Lib.hid h6
  have LX := Lib.hid lx
  have LY := Lib.hid ly
  clear hB hTe hTf h6 lx ly
  refine wpAnyH_ready (rs := [4]) (by kernel_rfl) (by simp) ?_
  refine AllReadyH.cons (o := { dst := some 5, op := .alloc 31, type := 0, pos := "law.go:40", after := #[], guard := none }) (by kernel_rfl) (fun K hK => ?_) AllReadyH.nil
  · go_simp
    have hs := HB.out.size
    refine hK.out _ _ (bel0 (.cells #[.int .i64 0, .string ⟨#[]⟩, .int .i64 0, .int .i64 0, .string ⟨#[]⟩, .string ⟨#[]⟩, .string ⟨#[]⟩, .slice none 0 0] 31 (0, 0)) HB.out) (fun _ => ?_)
    clear hK K
    try simp only [Act.put, List.setIfInBounds_toArray, List.set_cons_zero, List.set_cons_succ]
    have l6 := at_lt H6.out
    exact efs_211 e f pa qa pc qc Ba Bb wr x0 x1 x4 x7 x8 x9 x10 x11 x12 x13 x14 x15 x16 x17 x18 x19 x24 x25 x26 x27 x28 x29 x30 x31 x32 x33 x34 x35 x36 x37 x38 x39 x40 x41 x42 HTe.out HTf.out (W.alloc (.cells #[.int .i64 0, .string ⟨#[]⟩, .int .i64 0, .int .i64 0, .string ⟨#[]⟩, .string ⟨#[]⟩, .string ⟨#[]⟩, .slice none 0 0] 31 (0, 0))) (bel0 _ HB.out) W.heap.size (Go.heap_alloc_new W _) hs B6 (at_alloc H6.out _) n6 (by omega) ra rc gx (LX.out.ne (fun g hq hlt => ⟨Nat.ne_of_lt hlt, hq.2⟩) _) rb rd gy (LY.out.ne (fun g hq hlt => ⟨Nat.ne_of_lt hlt, hq.2⟩) _)
set_option maxHeartbeats 6400000 in
theorem efs_200 (e f : ET) (pa qa : Option Addr) (pc qc Ba Bb : Nat) (wr : World) (x0 x1 x4 x7 x8 x9 x10 x11 x12 x13 x14 x15 x16 x17 x18 x19 x24 x25 x26 x27 x28 x29 x30 x31 x32 x33 x34 x35 x36 x37 x38 x39 x40 x41 x42 : Value)
    (hTe : ∀ W : World, Below wr.heap.size wr W → Calls Tryz.prog 7 #[.agg #[.int .i64 e.kind, .string e.op, .int .i64 e.vk, .int .i64 e.vn, .string e.vs, .string e.tab, .string e.col, .slice pa e.parts.length pc]] W fun e' w' => (∃ r, e' = .returned r ∧ EV w' (fun b => W.heap.size ≤ b) r e) ∧ Below W.heap.size W w')
    (hTf : ∀ W : World, Below wr.heap.size wr W → Calls Tryz.prog 7 #[.agg #[.int .i64 f.kind, .string f.op, .int .i64 f.vk, .int .i64 f.vn, .string f.vs, .string f.tab, .string f.col, .slice qa f.parts.length qc]] W fun e' w' => (∃ r, e' = .returned r ∧ EV w' (fun b => W.heap.size ≤ b) r f) ∧ Below W.heap.size W w')
    (W : World) (hB : Below wr.heap.size wr W) (ra : Option Addr) (rc : Nat) (gx : ERg e ra rc) (lx : EL W (fun g => True ∧ True) ra e.parts) (rb : Option Addr) (rd : Nat) (gy : ERg f rb rd) (ly : EL W (fun g => True ∧ True) rb f.parts) :
    wpAnyH Tryz.prog .any EfOps (NoPanic fun e0 a' w' => e0 = .normal ∧ ∃ (B5 B6 : Nat) (u20 u21 u22 u23 : Value), a' = ⟨#[x0, x1, .pointer (some ⟨Ba, 0, none⟩), .pointer (some ⟨Bb, 0, none⟩), x4, .pointer (some ⟨B5, 0, none⟩), .pointer (some ⟨B6, 0, none⟩), x7, x8, x9, x10, x11, x12, x13, x14, x15, x16, x17, x18, x19, u20, u21, u22, u23, x24, x25, x26, x27, x28, x29, x30, x31, x32, x33, x34, x35, x36, x37, x38, x39, x40, x41, x42], []⟩ ∧ Ef3 e f wr w' B5 B6) (fun W => Below wr.heap.size wr W) 4 #[true, true, true, true, false, false, false, false] ⟨#[x0, x1, .pointer (some ⟨Ba, 0, none⟩), .pointer (some ⟨Bb, 0, none⟩), x4, undef, undef, x7, x8, x9, x10, x11, x12, x13, x14, x15, x16, x17, x18, x19, .agg #[.int .i64 e.kind, .string e.op, .int .i64 e.vk, .int .i64 e.vn, .string e.vs, .string e.tab, .string e.col, .slice pa e.parts.length pc], .agg #[.int .i64 e.kind, .string e.op, .int .i64 e.vk, .int .i64 e.vn, .string e.vs, .string e.tab, .string e.col, .slice ra e.parts.length rc], .agg #[.int .i64 f.kind, .string f.op, .int .i64 f.vk, .int .i64 f.vn, .string f.vs, .string f.tab, .string f.col, .slice qa f.parts.length qc], .agg #[.int .i64 f.kind, .string f.op, .int .i64 f.vk, .int .i64 f.vn, .string f.vs, .string f.tab, .string f.col, .slice rb f.parts.length rd], x24, x25, x26, x27, x28, x29, x30, x31, x32, x33, x34, x35, x36, x37, x38, x39, x40, x41, x42], []⟩ W := by
  have HB := Lib.hid hB
  have HTe := Lib.hid hTe
  have HTf := Lib.hid hTf
  have LX := Lib.hid lx
  have LY := Lib.hid ly
  clear hB hTe hTf lx ly
  refine wpAnyH_ready (rs := [4, 5]) (by kernel_rfl) (by simp) ?_
  refine AllReadyH.cons (o := { dst := some 5, op := .alloc 31, type := 0, pos := "law.go:40", after := #[], guard := none }) (by kernel_rfl) (fun K hK => ?_) (AllReadyH.cons (o := { dst := some 6, op := .alloc 31, type := 0, pos := "law.go:40", after := #[], guard := none }) (by kernel_rfl) (fun K hK => ?_) AllReadyH.nil)
  · go_simp
    have hs := HB.out.size
    refine hK.out _ _ (bel0 (.cells #[.int .i64 0, .string ⟨#[]⟩, .int .i64 0, .int .i64 0, .string ⟨#[]⟩, .string ⟨#[]⟩, .string ⟨#[]⟩, .slice none 0 0] 31 (0, 0)) HB.out) (fun _ => ?_)
    clear hK K
    try simp only [Act.put, List.setIfInBounds_toArray, List.set_cons_zero, List.set_cons_succ]
    exact efs_210 e f pa qa pc qc Ba Bb wr x0 x1 x4 x7 x8 x9 x10 x11 x12 x13 x14 x15 x16 x17 x18 x19 x24 x25 x26 x27 x28 x29 x30 x31 x32 x33 x34 x35 x36 x37 x38 x39 x40 x41 x42 HTe.out HTf.out (W.alloc (.cells #[.int .i64 0, .string ⟨#[]⟩, .int .i64 0, .int .i64 0, .string ⟨#[]⟩, .string ⟨#[]⟩, .string ⟨#[]⟩, .slice none 0 0] 31 (0, 0))) (bel0 _ HB.out) W.heap.size (Go.heap_alloc_new W _) hs ra rc gx (LX.out.ne (fun g hq hlt => ⟨Nat.ne_of_lt hlt, trivial⟩) _) rb rd gy (LY.out.ne (fun g hq hlt => ⟨Nat.ne_of_lt hlt, trivial⟩) _)
  · go_simp
    have hs := HB.out.size
    refine hK.out _ _ (bel0 (.cells #[.int .i64 0, .string ⟨#[]⟩, .int .i64 0, .int .i64 0, .string ⟨#[]⟩, .string ⟨#[]⟩, .string ⟨#[]⟩, .slice none 0 0] 31 (0, 0)) HB.out) (fun _ => ?_)
    clear hK K
    try simp only [Act.put, List.setIfInBounds_toArray, List.set_cons_zero, List.set_cons_succ]
    exact efs_201 e f pa qa pc qc Ba Bb wr x0 x1 x4 x7 x8 x9 x10 x11 x12 x13 x14 x15 x16 x17 x18 x19 x24 x25 x26 x27 x28 x29 x30 x31 x32 x33 x34 x35 x36 x37 x38 x39 x40 x41 x42 HTe.out HTf.out (W.alloc (.cells #[.int .i64 0, .string ⟨#[]⟩, .int .i64 0, .int .i64 0, .string ⟨#[]⟩, .string ⟨#[]⟩, .string ⟨#[]⟩, .slice none 0 0] 31 (0, 0))) (bel0 _ HB.out) W.heap.size (Go.heap_alloc_new W _) hs ra rc gx (LX.out.ne (fun g hq hlt => ⟨trivial, Nat.ne_of_lt hlt⟩) _) rb rd gy (LY.out.ne (fun g hq hlt => ⟨trivial, Nat.ne_of_lt hlt⟩) _)
set_option maxHeartbeats 6400000 in
theorem efs_111 (e f : ET) (pa qa : Option Addr) (pc qc Ba Bb : Nat) (wr : World) (x0 x1 x4 x7 x8 x9 x10 x11 x12 x13 x14 x15 x16 x17 x18 x19 x24 x25 x26 x27 x28 x29 x30 x31 x32 x33 x34 x35 x36 x37 x38 x39 x40 x41 x42 : Value)
    (hTe : ∀ W : World, Below wr.heap.size wr W → Calls Tryz.prog 7 #[.agg #[.int .i64 e.kind, .string e.op, .int .i64 e.vk, .int .i64 e.vn, .string e.vs, .string e.tab, .string e.col, .slice pa e.parts.length pc]] W fun e' w' => (∃ r, e' = .returned r ∧ EV w' (fun b => W.heap.size ≤ b) r e) ∧ Below W.heap.size W w')
    (hTf : ∀ W : World, Below wr.heap.size wr W → Calls Tryz.prog 7 #[.agg #[.int .i64 f.kind, .string f.op, .int .i64 f.vk, .int .i64 f.vn, .string f.vs, .string f.tab, .string f.col, .slice qa f.parts.length qc]] W fun e' w' => (∃ r, e' = .returned r ∧ EV w' (fun b => W.heap.size ≤ b) r f) ∧ Below W.heap.size W w')
    (W : World) (hB : Below wr.heap.size wr W) (B5 : Nat) (h5 : W.heap[B5]? = some (.cells #[.int .i64 0, .string ⟨#[]⟩, .int .i64 0, .int .i64 0, .string ⟨#[]⟩, .string ⟨#[]⟩, .string ⟨#[]⟩, .slice none 0 0] 31 (0, 0))) (n5 : wr.heap.size ≤ B5) (B6 : Nat) (h6 : W.heap[B6]? = some (.cells #[.int .i64 0, .string ⟨#[]⟩, .int .i64 0, .int .i64 0, .string ⟨#[]⟩, .string ⟨#[]⟩, .string ⟨#[]⟩, .slice none 0 0] 31 (0, 0))) (n6 : wr.heap.size ≤ B6) (n56 : B5 ≠ B6) (ra : Option Addr) (rc : Nat) (gx : ERg e ra rc) (lx : EL W (fun g => g ≠ B5 ∧ g ≠ B6) ra e.parts) :
    wpAnyH Tryz.prog .any EfOps (NoPanic fun e0 a' w' => e0 = .normal ∧ ∃ (B5 B6 : Nat) (u20 u21 u22 u23 : Value), a' = ⟨#[x0, x1, .pointer (some ⟨Ba, 0, none⟩), .pointer (some ⟨Bb, 0, none⟩), x4, .pointer (some ⟨B5, 0, none⟩), .pointer (some ⟨B6, 0, none⟩), x7, x8, x9, x10, x11, x12, x13, x14, x15, x16, x17, x18, x19, u20, u21, u22, u23, x24, x25, x26, x27, x28, x29, x30, x31, x32, x33, x34, x35, x36, x37, x38, x39, x40, x41, x42], []⟩ ∧ Ef3 e f wr w' B5 B6) (fun W => Below wr.heap.size wr W) 3 #[true, true, true, false, true, true, false, false] ⟨#[x0, x1, .pointer (some ⟨Ba, 0, none⟩), .pointer (some ⟨Bb, 0, none⟩), x4, .pointer (some ⟨B5, 0, none⟩), .pointer (some ⟨B6, 0, none⟩), x7, x8, x9, x10, x11, x12, x13, x14, x15, x16, x17, x18, x19, .agg #[.int .i64 e.kind, .string e.op, .int .i64 e.vk, .int .i64 e.vn, .string e.vs, .string e.tab, .string e.col, .slice pa e.parts.length pc], .agg #[.int .i64 e.kind, .string e.op, .int .i64 e.vk, .int .i64 e.vn, .string e.vs, .string e.tab, .string e.col, .slice ra e.parts.length rc], .agg #[.int .i64 f.kind, .string f.op, .int .i64 f.vk, .int .i64 f.vn, .string f.vs, .string f.tab, .string f.col, .slice qa f.parts.length qc], undef, x24, x25, x26, x27, x28, x29, x30, x31, x32, x33, x34, x35, x36, x37, x38, x39, x40, x41, x42], []⟩ W := by
  have HB := Lib.hid hB
  have HTe := Lib.hid hTe
  have HTf := Lib.hid hTf
  have H5 := Lib.hid h5
  have H6 := Lib.hid h6
  have LX := Lib.hid lx
  clear hB hTe hTf h5 h6 lx
  refine wpAnyH_ready (rs := [3]) (by kernel_rfl) (by simp) ?_
  refine AllReadyH.cons (o := { dst := some 23, op := .call { callee := .value (.func 7), args := #[.tmp 22], argTypes := #[26] }, type := 31, pos := "law.go:40", after := #[{ on := 2, ground := .data }, { on := 1, ground := .chain }], guard := none }) (by kernel_rfl) (fun K hK => ?_) AllReadyH.nil
  · go_simp
    go_at_call 7
    refine (HTf.out W HB.out).mono ?_
    rintro e' w4 ⟨⟨vv, rfl, rb, rd, rfl, hg, hl⟩, hb4⟩
    rw [etX_arr]
    have HB4 := Lib.hid (bt HB.out hb4)
    refine hK.out _ _ HB4.out (fun _ => ?_)
    clear hK K
    try simp only [Act.put, List.setIfInBounds_toArray, List.set_cons_zero, List.set_cons_succ]
    have l5 := at_lt H5.out
    have l6 := at_lt H6.out
    exact efs_211 e f pa qa pc qc Ba Bb wr x0 x1 x4 x7 x8 x9 x10 x11 x12 x13 x14 x15 x16 x17 x18 x19 x24 x25 x26 x27 x28 x29 x30 x31 x32 x33 x34 x35 x36 x37 x38 x39 x40 x41 x42 HTe.out HTf.out w4 HB4.out B5 ((hb4.block B5 l5).trans H5.out) n5 B6 ((hb4.block B6 l6).trans H6.out) n6 (by omega) ra rc gx (LX.out.keep hb4) rb rd hg (hl.mono (fun g hg _ => ⟨by omega, by omega⟩))
set_option maxHeartbeats 6400000 in
theorem efs_110 (e f : ET) (pa qa : Option Addr) (pc qc Ba Bb : Nat) (wr : World) (x0 x1 x4 x7 x8 x9 x10 x11 x12 x13 x14 x15 x16 x17 x18 x19 x24 x25 x26 x27 x28 x29 x30 x31 x32 x33 x34 x35 x36 x37 x38 x39 x40 x41 x42 : Value)
    (hTe : ∀ W : World, Below wr.heap.size wr W → Calls Tryz.prog 7 #[.agg #[.int .i64 e.kind, .string e.op, .int .i64 e.vk, .int .i64 e.vn, .string e.vs, .string e.tab, .string e.col, .slice pa e.parts.length pc]] W fun e' w' => (∃ r, e' = .returned r ∧ EV w' (fun b => W.heap.size ≤ b) r e) ∧ Below W.heap.size W w')
    (hTf : ∀ W : World, Below wr.heap.size wr W → Calls Tryz.prog 7 #[.agg #[.int .i64 f.kind, .string f.op, .int .i64 f.vk, .int .i64 f.vn, .string f.vs, .string f.tab, .string f.col, .slice qa f.parts.length qc]] W fun e' w' => (∃ r, e' = .returned r ∧ EV w' (fun b => W.heap.size ≤ b) r f) ∧ Below W.heap.size W w')
    (W : World) (hB : Below wr.heap.size wr W) (B5 : Nat) (h5 : W.heap[B5]? = some (.cells #[.int .i64 0, .string ⟨#[]⟩, .int .i64 0, .int .i64 0, .string ⟨#[]⟩, .string ⟨#[]⟩, .string ⟨#[]⟩, .slice none 0 0] 31 (0, 0))) (n5 : wr.heap.size ≤ B5) (ra : Option Addr) (rc : Nat) (gx : ERg e ra rc) (lx : EL W (fun g => g ≠ B5 ∧ True) ra e.parts) :
    wpAnyH Tryz.prog .any EfOps (NoPanic fun e0 a' w' => e0 = .normal ∧ ∃ (B5 B6 : Nat) (u20 u21 u22 u23 : Value), a' = ⟨#[x0, x1, .pointer (some ⟨Ba, 0, none⟩), .pointer (some ⟨Bb, 0, none⟩), x4, .pointer (some ⟨B5, 0, none⟩), .pointer (some ⟨B6, 0, none⟩), x7, x8, x9, x10, x11, x12, x13, x14, x15, x16, x17, x18, x19, u20, u21, u22, u23, x24, x25, x26, x27, x28, x29, x30, x31, x32, x33, x34, x35, x36, x37, x38, x39, x40, x41, x42], []⟩ ∧ Ef3 e f wr w' B5 B6) (fun W => Below wr.heap.size wr W) 4 #[true, true, true, false, true, false, false, false] ⟨#[x0, x1, .pointer (some ⟨Ba, 0, none⟩), .pointer (some ⟨Bb, 0, none⟩), x4, .pointer (some ⟨B5, 0, none⟩), undef, x7, x8, x9, x10, x11, x12, x13, x14, x15, x16, x17, x18, x19, .agg #[.int .i64 e.kind, .string e.op, .int .i64 e.vk, .int .i64 e.vn, .string e.vs, .string e.tab, .string e.col, .slice pa e.parts.length pc], .agg #[.int .i64 e.kind, .string e.op, .int .i64 e.vk, .int .i64 e.vn, .string e.vs, .string e.tab, .string e.col, .slice ra e.parts.length rc], .agg #[.int .i64 f.kind, .string f.op, .int .i64 f.vk, .int .i64 f.vn, .string f.vs, .string f.tab, .string f.col, .slice qa f.parts.length qc], undef, x24, x25, x26, x27, x28, x29, x30, x31, x32, x33, x34, x35, x36, x37, x38, x39, x40, x41, x42], []⟩ W := by
  have HB := Lib.hid hB
  have HTe := Lib.hid hTe
  have HTf := Lib.hid hTf
  have H5 := Lib.hid h5
  have LX := Lib.hid lx
  clear hB hTe hTf h5 lx
  refine wpAnyH_ready (rs := [3, 5]) (by kernel_rfl) (by simp) ?_
  refine AllReadyH.cons (o := { dst := some 23, op := .call { callee := .value (.func 7), args := #[.tmp 22], argTypes := #[26] }, type := 31, pos := "law.go:40", after := #[{ on := 2, ground := .data }, { on := 1, ground := .chain }], guard := none }) (by kernel_rfl) (fun K hK => ?_) (AllReadyH.cons (o := { dst := some 6, op := .alloc 31, type := 0, pos := "law.go:40", after := #[], guard := none }) (by kernel_rfl) (fun K hK => ?_) AllReadyH.nil)
  · go_simp
    go_at_call 7
    refine (HTf.out W HB.out).mono ?_
    rintro e' w4 ⟨⟨vv, rfl, rb, rd, rfl, hg, hl⟩, hb4⟩
    rw [etX_arr]
    have HB4 := Lib.hid (bt HB.out hb4)
    refine hK.out _ _ HB4.out (fun _ => ?_)
    clear hK K
    try simp only [Act.put, List.setIfInBounds_toArray, List.set_cons_zero, List.set_cons_succ]
    have l5 := at_lt H5.out
    exact efs_210 e f pa qa pc qc Ba Bb wr x0 x1 x4 x7 x8 x9 x10 x11 x12 x13 x14 x15 x16 x17 x18 x19 x24 x25 x26 x27 x28 x29 x30 x31 x32 x33 x34 x35 x36 x37 x38 x39 x40 x41 x42 HTe.out HTf.out w4 HB4.out B5 ((hb4.block B5 l5).trans H5.out) n5 ra rc gx (LX.out.keep hb4) rb rd hg (hl.mono (fun g hg _ => ⟨by omega, trivial⟩))
  · go_simp
    have hs := HB.out.size
    refine hK.out _ _ (bel0 (.cells #[.int .i64 0, .string ⟨#[]⟩, .int .i64 0, .int .i64 0, .string ⟨#[]⟩, .string ⟨#[]⟩, .string ⟨#[]⟩, .slice none 0 0] 31 (0, 0)) HB.out) (fun _ => ?_)
    clear hK K
    try simp only [Act.put, List.setIfInBounds_toArray, List.set_cons_zero, List.set_cons_succ]
    have l5 := at_lt H5.out
    exact efs_111 e f pa qa pc qc Ba Bb wr x0 x1 x4 x7 x8 x9 x10 x11 x12 x13 x14 x15 x16 x17 x18 x19 x24 x25 x26 x27 x28 x29 x30 x31 x32 x33 x34 x35 x36 x37 x38 x39 x40 x41 x42 HTe.out HTf.out (W.alloc (.cells #[.int .i64 0, .string ⟨#[]⟩, .int .i64 0, .int .i64 0, .string ⟨#[]⟩, .string ⟨#[]⟩, .string ⟨#[]⟩, .slice none 0 0] 31 (0, 0))) (bel0 _ HB.out) B5 (at_alloc H5.out _) n5 W.heap.size (Go.heap_alloc_new W _) hs (by omega) ra rc gx (LX.out.ne (fun g hq hlt => ⟨hq.1, Nat.ne_of_lt hlt⟩) _)
set_option maxHeartbeats 6400000 in
theorem efs_101 (e f : ET) (pa qa : Option Addr) (pc qc Ba Bb : Nat) (wr : World) (x0 x1 x4 x7 x8 x9 x10 x11 x12 x13 x14 x15 x16 x17 x18 x19 x24 x25 x26 x27 x28 x29 x30 x31 x32 x33 x34 x35 x36 x37 x38 x39 x40 x41 x42 : Value)
    (hTe : ∀ W : World, Below wr.heap.size wr W → Calls Tryz.prog 7 #[.agg #[.int .i64 e.kind, .string e.op, .int .i64 e.vk, .int .i64 e.vn, .string e.vs, .string e.tab, .string e.col, .slice pa e.parts.length pc]] W fun e' w' => (∃ r, e' = .returned r ∧ EV w' (fun b => W.heap.size ≤ b) r e) ∧ Below W.heap.size W w')
    (hTf : ∀ W : World, Below wr.heap.size wr W → Calls Tryz.prog 7 #[.agg #[.int .i64 f.kind, .string f.op, .int .i64 f.vk, .int .i64 f.vn, .string f.vs, .string f.tab, .string f.col, .slice qa f.parts.length qc]] W fun e' w' => (∃ r, e' = .returned r ∧ EV w' (fun b => W.heap.size ≤ b) r f) ∧ Below W.heap.size W w')
    (W : World) (hB : Below wr.heap.size wr W) (B6 : Nat) (h6 : W.heap[B6]? = some (.cells #[.int .i64 0, .string ⟨#[]⟩, .int .i64 0, .int .i64 0, .string ⟨#[]⟩, .string ⟨#[]⟩, .string ⟨#[]⟩, .slice none 0 0] 31 (0, 0))) (n6 : wr.heap.size ≤ B6) (ra : Option Addr) (rc : Nat) (gx : ERg e ra rc) (lx : EL W (fun g => True ∧ g ≠ B6) ra e.parts) :
    wpAnyH Tryz.prog .any EfOps (NoPanic fun e0 a' w' => e0 = .normal ∧ ∃ (B5 B6 : Nat) (u20 u21 u22 u23 : Value), a' = ⟨#[x0, x1, .pointer (some ⟨Ba, 0, none⟩), .pointer (some ⟨Bb, 0, none⟩), x4, .pointer (some ⟨B5, 0, none⟩), .pointer (some ⟨B6, 0, none⟩), x7, x8, x9, x10, x11, x12, x13, x14, x15, x16, x17, x18, x19, u20, u21, u22, u23, x24, x25, x26, x27, x28, x29, x30, x31, x32, x33, x34, x35, x36, x37, x38, x39, x40, x41, x42], []⟩ ∧ Ef3 e f wr w' B5 B6) (fun W => Below wr.heap.size wr W) 4 #[true, true, true, false, false, true, false, false] ⟨#[x0, x1, .pointer (some ⟨Ba, 0, none⟩), .pointer (some ⟨Bb, 0, none⟩), x4, undef, .pointer (some ⟨B6, 0, none⟩), x7, x8, x9, x10, x11, x12, x13, x14, x15, x16, x17, x18, x19, .agg #[.int .i64 e.kind, .string e.op, .int .i64 e.vk, .int .i64 e.vn, .string e.vs, .string e.tab, .string e.col, .slice pa e.parts.length pc], .agg #[.int .i64 e.kind, .string e.op, .int .i64 e.vk, .int .i64 e.vn, .string e.vs, .string e.tab, .string e.col, .slice ra e.parts.length rc], .agg #[.int .i64 f.kind, .string f.op, .int .i64 f.vk, .int .i64 f.vn, .string f.vs, .string f.tab, .string f.col, .slice qa f.parts.length qc], undef, x24, x25, x26, x27, x28, x29, x30, x31, x32, x33, x34, x35, x36, x37, x38, x39, x40, x41, x42], []⟩ W := by
  have HB := Lib.hid hB
  have HTe := Lib.hid hTe
  have HTf := Lib.hid hTf
  have H6 := Lib.hid h6
  have LX := Lib.hid lx
  clear hB hTe hTf h6 lx
  refine wpAnyH_ready (rs := [3, 4]) (by kernel_rfl) (by simp) ?_
  refine AllReadyH.cons (o := { dst := some 23, op := .call { callee := .value (.func 7), args := #[.tmp 22], argTypes := #[26] }, type := 31, pos := "law.go:40", after := #[{ on := 2, ground := .data }, { on := 1, ground := .chain }], guard := none }) (by kernel_rfl) (fun K hK => ?_) (AllReadyH.cons (o := { dst := some 5, op := .alloc 31, type := 0, pos := "law.go:40", after := #[], guard := none }) (by kernel_rfl) (fun K hK => ?_) AllReadyH.nil)
  · go_simp
    go_at_call 7
    refine (HTf.out W HB.out).mono ?_
    rintro e' w4 ⟨⟨vv, rfl, rb, rd, rfl, hg, hl⟩, hb4⟩
    rw [etX_arr]
    have HB4 := Lib.hid (bt HB.out hb4)
    refine hK.out _ _ HB4.out (fun _ => ?_)
    clear hK K
    try simp only [Act.put, List.setIfInBounds_toArray, List.set_cons_zero, List.set_cons_succ]
    have l6 := at_lt H6.out
    exact efs_201 e f pa qa pc qc Ba Bb wr x0 x1 x4 x7 x8 x9 x10 x11 x12 x13 x14 x15 x16 x17 x18 x19 x24 x25 x26 x27 x28 x29 x30 x31 x32 x33 x34 x35 x36 x37 x38 x39 x40 x41 x42 HTe.out HTf.out w4 HB4.out B6 ((hb4.block B6 l6).trans H6.out) n6 ra rc gx (LX.out.keep hb4) rb rd hg (hl.mono (fun g hg _ => ⟨trivial, by omega⟩))
  · go_simp
    have hs := HB.out.size
    refine hK.out _ _ (bel0 (.cells #[.int .i64 0, .string ⟨#[]⟩, .int .i64 0, .int .i64 0, .string ⟨#[]⟩, .string ⟨#[]⟩, .string ⟨#[]⟩, .slice none 0 0] 31 (0, 0)) HB.out) (fun _ => ?_)
    clear hK K
    try simp only [Act.put, List.setIfInBounds_toArray, List.set_cons_zero, List.set_cons_succ]
    have l6 := at_lt H6.out
    exact efs_111 e f pa qa pc qc Ba Bb wr x0 x1 x4 x7 x8 x9 x10 x11 x12 x13 x14 x15 x16 x17 x18 x19 x24 x25 x26 x27 x28 x29 x30 x31 x32 x33 x34 x35 x36 x37 x38 x39 x40 x41 x42 HTe.out HTf.out (W.alloc (.cells #[.int .i64 0, .string ⟨#[]⟩, .int .i64 0, .int .i64 0, .string ⟨#[]⟩, .string ⟨#[]⟩, .string ⟨#[]⟩, .slice none 0 0] 31 (0, 0))) (bel0 _ HB.out) W.heap.size (Go.heap_alloc_new W _) hs B6 (at_alloc H6.out _) n6 (by omega) ra rc gx (LX.out.ne (fun g hq hlt => ⟨Nat.ne_of_lt hlt, hq.2⟩) _)
set_option maxHeartbeats 6400000 in
theorem efs_100 (e f : ET) (pa qa : Option Addr) (pc qc Ba Bb : Nat) (wr : World) (x0 x1 x4 x7 x8 x9 x10 x11 x12 x13 x14 x15 x16 x17 x18 x19 x24 x25 x26 x27 x28 x29 x30 x31 x32 x33 x34 x35 x36 x37 x38 x39 x40 x41 x42 : Value)
    (hTe : ∀ W : World, Below wr.heap.size wr W → Calls Tryz.prog 7 #[.agg #[.int .i64 e.kind, .string e.op, .int .i64 e.vk, .int .i64 e.vn, .string e.vs, .string e.tab, .string e.col, .slice pa e.parts.length pc]] W fun e' w' => (∃ r, e' = .returned r ∧ EV w' (fun b => W.heap.size ≤ b) r e) ∧ Below W.heap.size W w')
    (hTf : ∀ W : World, Below wr.heap.size wr W → Calls Tryz.prog 7 #[.agg #[.int .i64 f.kind, .string f.op, .int .i64 f.vk, .int .i64 f.vn, .string f.vs, .string f.tab, .string f.col, .slice qa f.parts.length qc]] W fun e' w' => (∃ r, e' = .returned r ∧ EV w' (fun b => W.heap.size ≤ b) r f) ∧ Below W.heap.size W w')
    (W : World) (hB : Below wr.heap.size wr W) (ra : Option Addr) (rc : Nat) (gx : ERg e ra rc) (lx : EL W (fun g => True ∧ True) ra e.parts) :
    wpAnyH Tryz.prog .any EfOps (NoPanic fun e0 a' w' => e0 = .normal ∧ ∃ (B5 B6 : Nat) (u20 u21 u22 u23 : Value), a' = ⟨#[x0, x1, .pointer (some ⟨Ba, 0, none⟩), .pointer (some ⟨Bb, 0, none⟩), x4, .pointer (some ⟨B5, 0, none⟩), .pointer (some ⟨B6, 0, none⟩), x7, x8, x9, x10, x11, x12, x13, x14, x15, x16, x17, x18, x19, u20, u21, u22, u23, x24, x25, x26, x27, x28, x29, x30, x31, x32, x33, x34, x35, x36, x37, x38, x39, x40, x41, x42], []⟩ ∧ Ef3 e f wr w' B5 B6) (fun W => Below wr.heap.size wr W) 5 #[true, true, true, false, false, false, false, false] ⟨#[x0, x1, .pointer (some ⟨Ba, 0, none⟩), .pointer (some ⟨Bb, 0, none⟩), x4, undef, undef, x7, x8, x9, x10, x11, x12, x13, x14, x15, x16, x17, x18, x19, .agg #[.int .i64 e.kind, .string e.op, .int .i64 e.vk, .int .i64 e.vn, .string e.vs, .string e.tab, .string e.col, .slice pa e.parts.length pc], .agg #[.int .i64 e.kind, .string e.op, .int .i64 e.vk, .int .i64 e.vn, .string e.vs, .string e.tab, .string e.col, .slice ra e.parts.length rc], .agg #[.int .i64 f.kind, .string f.op, .int .i64 f.vk, .int .i64 f.vn, .string f.vs, .string f.tab, .string f.col, .slice qa f.parts.length qc], undef, x24, x25, x26, x27, x28, x29, x30, x31, x32, x33, x34, x35, x36, x37, x38, x39, x40, x41, x42], []⟩ W := by
  have HB := Lib.hid hB
  have HTe := Lib.hid hTe
  have HTf := Lib.hid hTf
  have LX := Lib.hid lx
  clear hB hTe hTf lx
  refine wpAnyH_ready (rs := [3, 4, 5]) (by kernel_rfl) (by simp) ?_
  refine AllReadyH.cons (o := { dst := some 23, op := .call { callee := .value (.func 7), args := #[.tmp 22], argTypes := #[26] }, type := 31, pos := "law.go:40", after := #[{ on := 2, ground := .data }, { on := 1, ground := .chain }], guard := none }) (by kernel_rfl) (fun K hK => ?_) (AllReadyH.cons (o := { dst := some 5, op := .alloc 31, type := 0, pos := "law.go:40", after := #[], guard := none }) (by kernel_rfl) (fun K hK => ?_) (AllReadyH.cons (o := { dst := some 6, op := .alloc 31, type := 0, pos := "law.go:40", after := #[], guard := none }) (by kernel_rfl) (fun K hK => ?_) AllReadyH.nil))
  · go_simp
    go_at_call 7
    refine (HTf.out W HB.out).mono ?_
    rintro e' w4 ⟨⟨vv, rfl, rb, rd, rfl, hg, hl⟩, hb4⟩
    rw [etX_arr]
    have HB4 := Lib.hid (bt HB.out hb4)
    refine hK.out _ _ HB4.out (fun _ => ?_)
    clear hK K
    try simp only [Act.put, List.setIfInBounds_toArray, List.set_cons_zero, List.set_cons_succ]
    exact efs_200 e f pa qa pc qc Ba Bb wr x0 x1 x4 x7 x8 x9 x10 x11 x12 x13 x14 x15 x16 x17 x18 x19 x24 x25 x26 x27 x28 x29 x30 x31 x32 x33 x34 x35 x36 x37 x38 x39 x40 x41 x42 HTe.out HTf.out w4 HB4.out ra rc gx (LX.out.keep hb4) rb rd hg (hl.mono (fun g hg _ => ⟨trivial, trivial⟩))
  · go_simp
    have hs := HB.out.size
    refine hK.out _ _ (bel0 (.cells #[.int .i64 0, .string ⟨#[]⟩, .int .i64 0, .int .i64 0, .string ⟨#[]⟩, .string ⟨#[]⟩, .string ⟨#[]⟩, .slice none 0 0] 31 (0, 0)) HB.out) (fun _ => ?_)
    clear hK K
    try simp only [Act.put, List.setIfInBounds_toArray, List.set_cons_zero, List.set_cons_succ]
    exact efs_110 e f pa qa pc qc Ba Bb wr x0 x1 x4 x7 x8 x9 x10 x11 x12 x13 x14 x15 x16 x17 x18 x19 x24 x25 x26 x27 x28 x29 x30 x31 x32 x33 x34 x35 x36 x37 x38 x39 x40 x41 x42 HTe.out HTf.out (W.alloc (.cells #[.int .i64 0, .string ⟨#[]⟩, .int .i64 0, .int .i64 0, .string ⟨#[]⟩, .string ⟨#[]⟩, .string ⟨#[]⟩, .slice none 0 0] 31 (0, 0))) (bel0 _ HB.out) W.heap.size (Go.heap_alloc_new W _) hs ra rc gx (LX.out.ne (fun g hq hlt => ⟨Nat.ne_of_lt hlt, trivial⟩) _)
  · go_simp
    have hs := HB.out.size
    refine hK.out _ _ (bel0 (.cells #[.int .i64 0, .string ⟨#[]⟩, .int .i64 0, .int .i64 0, .string ⟨#[]⟩, .string ⟨#[]⟩, .string ⟨#[]⟩, .slice none 0 0] 31 (0, 0)) HB.out) (fun _ => ?_)
    clear hK K
    try simp only [Act.put, List.setIfInBounds_toArray, List.set_cons_zero, List.set_cons_succ]
    exact efs_101 e f pa qa pc qc Ba Bb wr x0 x1 x4 x7 x8 x9 x10 x11 x12 x13 x14 x15 x16 x17 x18 x19 x24 x25 x26 x27 x28 x29 x30 x31 x32 x33 x34 x35 x36 x37 x38 x39 x40 x41 x42 HTe.out HTf.out (W.alloc (.cells #[.int .i64 0, .string ⟨#[]⟩, .int .i64 0, .int .i64 0, .string ⟨#[]⟩, .string ⟨#[]⟩, .string ⟨#[]⟩, .slice none 0 0] 31 (0, 0))) (bel0 _ HB.out) W.heap.size (Go.heap_alloc_new W _) hs ra rc gx (LX.out.ne (fun g hq hlt => ⟨trivial, Nat.ne_of_lt hlt⟩) _)
set_option maxHeartbeats 6400000 in
theorem efs_011 (e f : ET) (pa qa : Option Addr) (pc qc Ba Bb : Nat) (wr : World) (x0 x1 x4 x7 x8 x9 x10 x11 x12 x13 x14 x15 x16 x17 x18 x19 x24 x25 x26 x27 x28 x29 x30 x31 x32 x33 x34 x35 x36 x37 x38 x39 x40 x41 x42 : Value)
    (hTe : ∀ W : World, Below wr.heap.size wr W → Calls Tryz.prog 7 #[.agg #[.int .i64 e.kind, .string e.op, .int .i64 e.vk, .int .i64 e.vn, .string e.vs, .string e.tab, .string e.col, .slice pa e.parts.length pc]] W fun e' w' => (∃ r, e' = .returned r ∧ EV w' (fun b => W.heap.size ≤ b) r e) ∧ Below W.heap.size W w')
    (hTf : ∀ W : World, Below wr.heap.size wr W → Calls Tryz.prog 7 #[.agg #[.int .i64 f.kind, .string f.op, .int .i64 f.vk, .int .i64 f.vn, .string f.vs, .string f.tab, .string f.col, .slice qa f.parts.length qc]] W fun e' w' => (∃ r, e' = .returned r ∧ EV w' (fun b => W.heap.size ≤ b) r f) ∧ Below W.heap.size W w')
    (W : World) (hB : Below wr.heap.size wr W) (B5 : Nat) (h5 : W.heap[B5]? = some (.cells #[.int .i64 0, .string ⟨#[]⟩, .int .i64 0, .int .i64 0, .string ⟨#[]⟩, .string ⟨#[]⟩, .string ⟨#[]⟩, .slice none 0 0] 31 (0, 0))) (n5 : wr.heap.size ≤ B5) (B6 : Nat) (h6 : W.heap[B6]? = some (.cells #[.int .i64 0, .string ⟨#[]⟩, .int .i64 0, .int .i64 0, .string ⟨#[]⟩, .string ⟨#[]⟩, .string ⟨#[]⟩, .slice none 0 0] 31 (0, 0))) (n6 : wr.heap.size ≤ B6) (n56 : B5 ≠ B6) :
    wpAnyH Tryz.prog .any EfOps (NoPanic fun e0 a' w' => e0 = .normal ∧ ∃ (B5 B6 : Nat) (u20 u21 u22 u23 : Value), a' = ⟨#[x0, x1, .pointer (some ⟨Ba, 0, none⟩), .pointer (some ⟨Bb, 0, none⟩), x4, .pointer (some ⟨B5, 0, none⟩), .pointer (some ⟨B6, 0, none⟩), x7, x8, x9, x10, x11, x12, x13, x14, x15, x16, x17, x18, x19, u20, u21, u22, u23, x24, x25, x26, x27, x28, x29, x30, x31, x32, x33, x34, x35, x36, x37, x38, x39, x40, x41, x42], []⟩ ∧ Ef3 e f wr w' B5 B6) (fun W => Below wr.heap.size wr W) 4 #[true, false, true, false, true, true, false, false] ⟨#[x0, x1, .pointer (some ⟨Ba, 0, none⟩), .pointer (some ⟨Bb, 0, none⟩), x4, .pointer (some ⟨B5, 0, none⟩), .pointer (some ⟨B6, 0, none⟩), x7, x8, x9, x10, x11, x12, x13, x14, x15, x16, x17, x18, x19, .agg #[.int .i64 e.kind, .string e.op, .int .i64 e.vk, .int .i64 e.vn, .string e.vs, .string e.tab, .string e.col, .slice pa e.parts.length pc], undef, .agg #[.int .i64 f.kind, .string f.op, .int .i64 f.vk, .int .i64 f.vn, .string f.vs, .string f.tab, .string f.col, .slice qa f.parts.length qc], undef, x24, x25, x26, x27, x28, x29, x30, x31, x32, x33, x34, x35, x36, x37, x38, x39, x40, x41, x42], []⟩ W := by
  have HB := Lib.hid hB
  have HTe := Lib.hid hTe
  have HTf := Lib.hid hTf
  have H5 := Lib.hid h5
  have H6 := Lib.hid h6
  clear hB hTe hTf h5 h6
  refine wpAnyH_ready (rs := [1]) (by kernel_rfl) (by simp) ?_
  refine AllReadyH.cons (o := { dst := some 21, op := .call { callee := .value (.func 7), args := #[.tmp 20], argTypes := #[26] }, type := 31, pos := "law.go:40", after := #[{ on := 0, ground := .data }], guard := none }) (by kernel_rfl) (fun K hK => ?_) AllReadyH.nil
  · go_simp
    go_at_call 7
    refine (HTe.out W HB.out).mono ?_
    rintro e' w4 ⟨⟨vv, rfl, ra, rc, rfl, hg, hl⟩, hb4⟩
    rw [etX_arr]
    have HB4 := Lib.hid (bt HB.out hb4)
    refine hK.out _ _ HB4.out (fun _ => ?_)
    clear hK K
    try simp only [Act.put, List.setIfInBounds_toArray, List.set_cons_zero, List.set_cons_succ]
    have l5 := at_lt H5.out
    have l6 := at_lt H6.out
    exact efs_111 e f pa qa pc qc Ba Bb wr x0 x1 x4 x7 x8 x9 x10 x11 x12 x13 x14 x15 x16 x17 x18 x19 x24 x25 x26 x27 x28 x29 x30 x31 x32 x33 x34 x35 x36 x37 x38 x39 x40 x41 x42 HTe.out HTf.out w4 HB4.out B5 ((hb4.block B5 l5).trans H5.out) n5 B6 ((hb4.block B6 l6).trans H6.out) n6 (by omega) ra rc hg (hl.mono (fun g hg _ => ⟨by omega, by omega⟩))
set_option maxHeartbeats 6400000 in
theorem efs_010 (e f : ET) (pa qa : Option Addr) (pc qc Ba Bb : Nat) (wr : World) (x0 x1 x4 x7 x8 x9 x10 x11 x12 x13 x14 x15 x16 x17 x18 x19 x24 x25 x26 x27 x28 x29 x30 x31 x32 x33 x34 x35 x36 x37 x38 x39 x40 x41 x42 : Value)
    (hTe : ∀ W : World, Below wr.heap.size wr W → Calls Tryz.prog 7 #[.agg #[.int .i64 e.kind, .string e.op, .int .i64 e.vk, .int .i64 e.vn, .string e.vs, .string e.tab, .string e.col, .slice pa e.parts.length pc]] W fun e' w' => (∃ r, e' = .returned r ∧ EV w' (fun b => W.heap.size ≤ b) r e) ∧ Below W.heap.size W w')
    (hTf : ∀ W : World, Below wr.heap.size wr W → Calls Tryz.prog 7 #[.agg #[.int .i64 f.kind, .string f.op, .int .i64 f.vk, .int .i64 f.vn, .string f.vs, .string f.tab, .string f.col, .slice qa f.parts.length qc]] W fun e' w' => (∃ r, e' = .returned r ∧ EV w' (fun b => W.heap.size ≤ b) r f) ∧ Below W.heap.size W w')
    (W : World) (hB : Below wr.heap.size wr W) (B5 : Nat) (h5 : W.heap[B5]? = some (.cells #[.int .i64 0, .string ⟨#[]⟩, .int .i64 0, .int .i64 0, .string ⟨#[]⟩, .string ⟨#[]⟩, .string ⟨#[]⟩, .slice none 0 0] 31 (0, 0))) (n5 : wr.heap.size ≤ B5) :
    wpAnyH Tryz.prog .any EfOps (NoPanic fun e0 a' w' => e0 = .normal ∧ ∃ (B5 B6 : Nat) (u20 u21 u22 u23 : Value), a' = ⟨#[x0, x1, .pointer (some ⟨Ba, 0, none⟩), .pointer (some ⟨Bb, 0, none⟩), x4, .pointer (some ⟨B5, 0, none⟩), .pointer (some ⟨B6, 0, none⟩), x7, x8, x9, x10, x11, x12, x13, x14, x15, x16, x17, x18, x19, u20, u21, u22, u23, x24, x25, x26, x27, x28, x29, x30, x31, x32, x33, x34, x35, x36, x37, x38, x39, x40, x41, x42], []⟩ ∧ Ef3 e f wr w' B5 B6) (fun W => Below wr.heap.size wr W) 5 #[true, false, true, false, true, false, false, false] ⟨#[x0, x1, .pointer (some ⟨Ba, 0, none⟩), .pointer (some ⟨Bb, 0, none⟩), x4, .pointer (some ⟨B5, 0, none⟩), undef, x7, x8, x9, x10, x11, x12, x13, x14, x15, x16, x17, x18, x19, .agg #[.int .i64 e.kind, .string e.op, .int .i64 e.vk, .int .i64 e.vn, .string e.vs, .string e.tab, .string e.col, .slice pa e.parts.length pc], undef, .agg #[.int .i64 f.kind, .string f.op, .int .i64 f.vk, .int .i64 f.vn, .string f.vs, .string f.tab, .string f.col, .slice qa f.parts.length qc], undef, x24, x25, x26, x27, x28, x29, x30, x31, x32, x33, x34, x35, x36, x37, x38, x39, x40, x41, x42], []⟩ W := by
  have HB := Lib.hid hB
  have HTe := Lib.hid hTe
  have HTf := Lib.hid hTf
  have H5 := Lib.hid h5
  clear hB hTe hTf h5
  refine wpAnyH_ready (rs := [1, 5]) (by kernel_rfl) (by simp) ?_
  refine AllReadyH.cons (o := { dst := some 21, op := .call { callee := .value (.func 7), args := #[.tmp 20], argTypes := #[26] }, type := 31, pos := "law.go:40", after := #[{ on := 0, ground := .data }], guard := none }) (by kernel_rfl) (fun K hK => ?_) (AllReadyH.cons (o := { dst := some 6, op := .alloc 31, type := 0, pos := "law.go:40", after := #[], guard := none }) (by kernel_rfl) (fun K hK => ?_) AllReadyH.nil)
  · go_simp
    go_at_call 7
    refine (HTe.out W HB.out).mono ?_
    rintro e' w4 ⟨⟨vv, rfl, ra, rc, rfl, hg, hl⟩, hb4⟩
    rw [etX_arr]
    have HB4 := Lib.hid (bt HB.out hb4)
    refine hK.out _ _ HB4.out (fun _ => ?_)
    clear hK K
    try simp only [Act.put, List.setIfInBounds_toArray, List.set_cons_zero, List.set_cons_succ]
    have l5 := at_lt H5.out
    exact efs_110 e f pa qa pc qc Ba Bb wr x0 x1 x4 x7 x8 x9 x10 x11 x12 x13 x14 x15 x16 x17 x18 x19 x24 x25 x26 x27 x28 x29 x30 x31 x32 x33 x34 x35 x36 x37 x38 x39 x40 x41 x42 HTe.out HTf.out w4 HB4.out B5 ((hb4.block B5 l5).trans H5.out) n5 ra rc hg (hl.mono (fun g hg _ => ⟨by omega, trivial⟩))
  · go_simp
    have hs := HB.out.size
    refine hK.out _ _ (bel0 (.cells #[.int .i64 0, .string ⟨#[]⟩, .int .i64 0, .int .i64 0, .string ⟨#[]⟩, .string ⟨#[]⟩, .string ⟨#[]⟩, .slice none 0 0] 31 (0, 0)) HB.out) (fun _ => ?_)
    clear hK K
    try simp only [Act.put, List.setIfInBounds_toArray, List.set_cons_zero, List.set_cons_succ]
    have l5 := at_lt H5.out
    exact efs_011 e f pa qa pc qc Ba Bb wr x0 x1 x4 x7 x8 x9 x10 x11 x12 x13 x14 x15 x16 x17 x18 x19 x24 x25 x26 x27 x28 x29 x30 x31 x32 x33 x34 x35 x36 x37 x38 x39 x40 x41 x42 HTe.out HTf.out (W.alloc (.cells #[.int .i64 0, .string ⟨#[]⟩, .int .i64 0, .int .i64 0, .string ⟨#[]⟩, .string ⟨#[]⟩, .string ⟨#[]⟩, .slice none 0 0] 31 (0, 0))) (bel0 _ HB.out) B5 (at_alloc H5.out _) n5 W.heap.size (Go.heap_alloc_new W _) hs (by omega)
set_option maxHeartbeats 6400000 in
theorem efs_001 (e f : ET) (pa qa : Option Addr) (pc qc Ba Bb : Nat) (wr : World) (x0 x1 x4 x7 x8 x9 x10 x11 x12 x13 x14 x15 x16 x17 x18 x19 x24 x25 x26 x27 x28 x29 x30 x31 x32 x33 x34 x35 x36 x37 x38 x39 x40 x41 x42 : Value)
    (hTe : ∀ W : World, Below wr.heap.size wr W → Calls Tryz.prog 7 #[.agg #[.int .i64 e.kind, .string e.op, .int .i64 e.vk, .int .i64 e.vn, .string e.vs, .string e.tab, .string e.col, .slice pa e.parts.length pc]] W fun e' w' => (∃ r, e' = .returned r ∧ EV w' (fun b => W.heap.size ≤ b) r e) ∧ Below W.heap.size W w')
    (hTf : ∀ W : World, Below wr.heap.size wr W → Calls Tryz.prog 7 #[.agg #[.int .i64 f.kind, .string f.op, .int .i64 f.vk, .int .i64 f.vn, .string f.vs, .string f.tab, .string f.col, .slice qa f.parts.length qc]] W fun e' w' => (∃ r, e' = .returned r ∧ EV w' (fun b => W.heap.size ≤ b) r f) ∧ Below W.heap.size W w')
    (W : World) (hB : Below wr.heap.size wr W) (B6 : Nat) (h6 : W.heap[B6]? = some (.cells #[.int .i64 0, .string ⟨#[]⟩, .int .i64 0, .int .i64 0, .string ⟨#[]⟩, .string ⟨#[]⟩, .string ⟨#[]⟩, .slice none 0 0] 31 (0, 0))) (n6 : wr.heap.size ≤ B6) :
    wpAnyH Tryz.prog .any EfOps (NoPanic fun e0 a' w' => e0 = .normal ∧ ∃ (B5 B6 : Nat) (u20 u21 u22 u23 : Value), a' = ⟨#[x0, x1, .pointer (some ⟨Ba, 0, none⟩), .pointer (some ⟨Bb, 0, none⟩), x4, .pointer (some ⟨B5, 0, none⟩), .pointer (some ⟨B6, 0, none⟩), x7, x8, x9, x10, x11, x12, x13, x14, x15, x16, x17, x18, x19, u20, u21, u22, u23, x24, x25, x26, x27, x28, x29, x30, x31, x32, x33, x34, x35, x36, x37, x38, x39, x40, x41, x42], []⟩ ∧ Ef3 e f wr w' B5 B6) (fun W => Below wr.heap.size wr W) 5 #[true, false, true, false, false, true, false, false] ⟨#[x0, x1, .pointer (some ⟨Ba, 0, none⟩), .pointer (some ⟨Bb, 0, none⟩), x4, undef, .pointer (some ⟨B6, 0, none⟩), x7, x8, x9, x10, x11, x12, x13, x14, x15, x16, x17, x18, x19, .agg #[.int .i64 e.kind, .string e.op, .int .i64 e.vk, .int .i64 e.vn, .string e.vs, .string e.tab, .string e.col, .slice pa e.parts.length pc], undef, .agg #[.int .i64 f.kind, .string f.op, .int .i64 f.vk, .int .i64 f.vn, .string f.vs, .string f.tab, .string f.col, .slice qa f.parts.length qc], undef, x24, x25, x26, x27, x28, x29, x30, x31, x32, x33, x34, x35, x36, x37, x38, x39, x40, x41, x42], []⟩ W := by
  have HB := Lib.hid hB
  have HTe := Lib.hid hTe
  have HTf := Lib.hid hTf
  have H6 := Lib.hid h6
  clear hB hTe hTf h6
  refine wpAnyH_ready (rs := [1, 4]) (by kernel_rfl) (by simp) ?_
  refine AllReadyH.cons (o := { dst := some 21, op := .call { callee := .value (.func 7), args := #[.tmp 20], argTypes := #[26] }, type := 31, pos := "law.go:40", after := #[{ on := 0, ground := .data }], guard := none }) (by kernel_rfl) (fun K hK => ?_) (AllReadyH.cons (o := { dst := some 5, op := .alloc 31, type := 0, pos := "law.go:40", after := #[], guard := none }) (by kernel_rfl) (fun K hK => ?_) AllReadyH.nil)
  · go_simp
    go_at_call 7
    refine (HTe.out W HB.out).mono ?_
    rintro e' w4 ⟨⟨vv, rfl, ra, rc, rfl, hg, hl⟩, hb4⟩
    rw [etX_arr]
    have HB4 := Lib.hid (bt HB.out hb4)
    refine hK.out _ _ HB4.out (fun _ => ?_)
    clear hK K
    try simp only [Act.put, List.setIfInBounds_toArray, List.set_cons_zero, List.set_cons_succ]
    have l6 := at_lt H6.out
    exact efs_101 e f pa qa pc qc Ba Bb wr x0 x1 x4 x7 x8 x9 x10 x11 x12 x13 x14 x15 x16 x17 x18 x19 x24 x25 x26 x27 x28 x29 x30 x31 x32 x33 x34 x35 x36 x37 x38 x39 x40 x41 x42 HTe.out HTf.out w4 HB4.out B6 ((hb4.block B6 l6).trans H6.out) n6 ra rc hg (hl.mono (fun g hg _ => ⟨trivial, by omega⟩))
  · go_simp
    have hs := HB.out.size
    refine hK.out _ _ (bel0 (.cells #[.int .i64 0, .string ⟨#[]⟩, .int .i64 0, .int .i64 0, .string ⟨#[]⟩, .string ⟨#[]⟩, .string ⟨#[]⟩, .slice none 0 0] 31 (0, 0)) HB.out) (fun _ => ?_)
    clear hK K
    try simp only [Act.put, List.setIfInBounds_toArray, List.set_cons_zero, List.set_cons_succ]
    have l6 := at_lt H6.out
    exact efs_011 e f pa qa pc qc Ba Bb wr x0 x1 x4 x7 x8 x9 x10 x11 x12 x13 x14 x15 x16 x17 x18 x19 x24 x25 x26 x27 x28 x29 x30 x31 x32 x33 x34 x35 x36 x37 x38 x39 x40 x41 x42 HTe.out HTf.out (W.alloc (.cells #[.int .i64 0, .string ⟨#[]⟩, .int .i64 0, .int .i64 0, .string ⟨#[]⟩, .string ⟨#[]⟩, .string ⟨#[]⟩, .slice none 0 0] 31 (0, 0))) (bel0 _ HB.out) W.heap.size (Go.heap_alloc_new W _) hs B6 (at_alloc H6.out _) n6 (by omega)
set_option maxHeartbeats 6400000 in
theorem efs_000 (e f : ET) (pa qa : Option Addr) (pc qc Ba Bb : Nat) (wr : World) (x0 x1 x4 x7 x8 x9 x10 x11 x12 x13 x14 x15 x16 x17 x18 x19 x24 x25 x26 x27 x28 x29 x30 x31 x32 x33 x34 x35 x36 x37 x38 x39 x40 x41 x42 : Value)
    (hTe : ∀ W : World, Below wr.heap.size wr W → Calls Tryz.prog 7 #[.agg #[.int .i64 e.kind, .string e.op, .int .i64 e.vk, .int .i64 e.vn, .string e.vs, .string e.tab, .string e.col, .slice pa e.parts.length pc]] W fun e' w' => (∃ r, e' = .returned r ∧ EV w' (fun b => W.heap.size ≤ b) r e) ∧ Below W.heap.size W w')
    (hTf : ∀ W : World, Below wr.heap.size wr W → Calls Tryz.prog 7 #[.agg #[.int .i64 f.kind, .string f.op, .int .i64 f.vk, .int .i64 f.vn, .string f.vs, .string f.tab, .string f.col, .slice qa f.parts.length qc]] W fun e' w' => (∃ r, e' = .returned r ∧ EV w' (fun b => W.heap.size ≤ b) r f) ∧ Below W.heap.size W w')
    (W : World) (hB : Below wr.heap.size wr W) :
    wpAnyH Tryz.prog .any EfOps (NoPanic fun e0 a' w' => e0 = .normal ∧ ∃ (B5 B6 : Nat) (u20 u21 u22 u23 : Value), a' = ⟨#[x0, x1, .pointer (some ⟨Ba, 0, none⟩), .pointer (some ⟨Bb, 0, none⟩), x4, .pointer (some ⟨B5, 0, none⟩), .pointer (some ⟨B6, 0, none⟩), x7, x8, x9, x10, x11, x12, x13, x14, x15, x16, x17, x18, x19, u20, u21, u22, u23, x24, x25, x26, x27, x28, x29, x30, x31, x32, x33, x34, x35, x36, x37, x38, x39, x40, x41, x42], []⟩ ∧ Ef3 e f wr w' B5 B6) (fun W => Below wr.heap.size wr W) 6 #[true, false, true, false, false, false, false, false] ⟨#[x0, x1, .pointer (some ⟨Ba, 0, none⟩), .pointer (some ⟨Bb, 0, none⟩), x4, undef, undef, x7, x8, x9, x10, x11, x12, x13, x14, x15, x16, x17, x18, x19, .agg #[.int .i64 e.kind, .string e.op, .int .i64 e.vk, .int .i64 e.vn, .string e.vs, .string e.tab, .string e.col, .slice pa e.parts.length pc], undef, .agg #[.int .i64 f.kind, .string f.op, .int .i64 f.vk, .int .i64 f.vn, .string f.vs, .string f.tab, .string f.col, .slice qa f.parts.length qc], undef, x24, x25, x26, x27, x28, x29, x30, x31, x32, x33, x34, x35, x36, x37, x38, x39, x40, x41, x42], []⟩ W := by
  have HB := Lib.hid hB
  have HTe := Lib.hid hTe
  have HTf := Lib.hid hTf
  clear hB hTe hTf 
  refine wpAnyH_ready (rs := [1, 4, 5]) (by kernel_rfl) (by simp) ?_
  refine AllReadyH.cons (o := { dst := some 21, op := .call { callee := .value (.func 7), args := #[.tmp 20], argTypes := #[26] }, type := 31, pos := "law.go:40", after := #[{ on := 0, ground := .data }], guard := none }) (by kernel_rfl) (fun K hK => ?_) (AllReadyH.cons (o := { dst := some 5, op := .alloc 31, type := 0, pos := "law.go:40", after := #[], guard := none }) (by kernel_rfl) (fun K hK => ?_) (AllReadyH.cons (o := { dst := some 6, op := .alloc 31, type := 0, pos := "law.go:40", after := #[], guard := none }) (by kernel_rfl) (fun K hK => ?_) AllReadyH.nil))
  · go_simp
    go_at_call 7
    refine (HTe.out W HB.out).mono ?_
    rintro e' w4 ⟨⟨vv, rfl, ra, rc, rfl, hg, hl⟩, hb4⟩
    rw [etX_arr]
    have HB4 := Lib.hid (bt HB.out hb4)
    refine hK.out _ _ HB4.out (fun _ => ?_)
    clear hK K
    try simp only [Act.put, List.setIfInBounds_toArray, List.set_cons_zero, List.set_cons_succ]
    exact efs_100 e f pa qa pc qc Ba Bb wr x0 x1 x4 x7 x8 x9 x10 x11 x12 x13 x14 x15 x16 x17 x18 x19 x24 x25 x26 x27 x28 x29 x30 x31 x32 x33 x34 x35 x36 x37 x38 x39 x40 x41 x42 HTe.out HTf.out w4 HB4.out ra rc hg (hl.mono (fun g hg _ => ⟨trivial, trivial⟩))
  · go_simp
    have hs := HB.out.size
    refine hK.out _ _ (bel0 (.cells #[.int .i64 0, .string ⟨#[]⟩, .int .i64 0, .int .i64 0, .string ⟨#[]⟩, .string ⟨#[]⟩, .string ⟨#[]⟩, .slice none 0 0] 31 (0, 0)) HB.out) (fun _ => ?_)
    clear hK K
    try simp only [Act.put, List.setIfInBounds_toArray, List.set_cons_zero, List.set_cons_succ]
    exact efs_010 e f pa qa pc qc Ba Bb wr x0 x1 x4 x7 x8 x9 x10 x11 x12 x13 x14 x15 x16 x17 x18 x19 x24 x25 x26 x27 x28 x29 x30 x31 x32 x33 x34 x35 x36 x37 x38 x39 x40 x41 x42 HTe.out HTf.out (W.alloc (.cells #[.int .i64 0, .string ⟨#[]⟩, .int .i64 0, .int .i64 0, .string ⟨#[]⟩, .string ⟨#[]⟩, .string ⟨#[]⟩, .slice none 0 0] 31 (0, 0))) (bel0 _ HB.out) W.heap.size (Go.heap_alloc_new W _) hs
  · go_simp
    have hs := HB.out.size
    refine hK.out _ _ (bel0 (.cells #[.int .i64 0, .string ⟨#[]⟩, .int .i64 0, .int .i64 0, .string ⟨#[]⟩, .string ⟨#[]⟩, .string ⟨#[]⟩, .slice none 0 0] 31 (0, 0)) HB.out) (fun _ => ?_)
    clear hK K
    try simp only [Act.put, List.setIfInBounds_toArray, List.set_cons_zero, List.set_cons_succ]
    exact efs_001 e f pa qa pc qc Ba Bb wr x0 x1 x4 x7 x8 x9 x10 x11 x12 x13 x14 x15 x16 x17 x18 x19 x24 x25 x26 x27 x28 x29 x30 x31 x32 x33 x34 x35 x36 x37 x38 x39 x40 x41 x42 HTe.out HTf.out (W.alloc (.cells #[.int .i64 0, .string ⟨#[]⟩, .int .i64 0, .int .i64 0, .string ⟨#[]⟩, .string ⟨#[]⟩, .string ⟨#[]⟩, .slice none 0 0] 31 (0, 0))) (bel0 _ HB.out) W.heap.size (Go.heap_alloc_new W _) hs
set_option maxHeartbeats 12800000 in
theorem ef_r3 (e f : ET) (pa qa : Option Addr) (pc qc Ba Bb : Nat) (wr : World) (x0 x1 x4 x7 x8 x9 x10 x11 x12 x13 x14 x15 x16 x17 x18 x19 x24 x25 x26 x27 x28 x29 x30 x31 x32 x33 x34 x35 x36 x37 x38 x39 x40 x41 x42 : Value)
    (hKp : ∀ W : World, Below wr.heap.size wr W → (W.cell? ⟨Ba, 0, none⟩ = some (.int .i64 e.kind) ∧ W.cell? ⟨Ba, 1, none⟩ = some (.string e.op) ∧ W.cell? ⟨Ba, 2, none⟩ = some (.int .i64 e.vk) ∧ W.cell? ⟨Ba, 3, none⟩ = some (.int .i64 e.vn) ∧ W.cell? ⟨Ba, 4, none⟩ = some (.string e.vs) ∧ W.cell? ⟨Ba, 5, none⟩ = some (.string e.tab) ∧ W.cell? ⟨Ba, 6, none⟩ = some (.string e.col) ∧ W.cell? ⟨Ba, 7, none⟩ = some (.slice pa e.parts.length pc)) ∧ (W.cell? ⟨Bb, 0, none⟩ = some (.int .i64 f.kind) ∧ W.cell? ⟨Bb, 1, none⟩ = some (.string f.op) ∧ W.cell? ⟨Bb, 2, none⟩ = some (.int .i64 f.vk) ∧ W.cell? ⟨Bb, 3, none⟩ = some (.int .i64 f.vn) ∧ W.cell? ⟨Bb, 4, none⟩ = some (.string f.vs) ∧ W.cell? ⟨Bb, 5, none⟩ = some (.string f.tab) ∧ W.cell? ⟨Bb, 6, none⟩ = some (.string f.col) ∧ W.cell? ⟨Bb, 7, none⟩ = some (.slice qa f.parts.length qc)))
    (hTe : ∀ W : World, Below wr.heap.size wr W → Calls Tryz.prog 7 #[.agg #[.int .i64 e.kind, .string e.op, .int .i64 e.vk, .int .i64 e.vn, .string e.vs, .string e.tab, .string e.col, .slice pa e.parts.length pc]] W fun e' w' => (∃ r, e' = .returned r ∧ EV w' (fun b => W.heap.size ≤ b) r e) ∧ Below W.heap.size W w')
    (hTf : ∀ W : World, Below wr.heap.size wr W → Calls Tryz.prog 7 #[.agg #[.int .i64 f.kind, .string f.op, .int .i64 f.vk, .int .i64 f.vn, .string f.vs, .string f.tab, .string f.col, .slice qa f.parts.length qc]] W fun e' w' => (∃ r, e' = .returned r ∧ EV w' (fun b => W.heap.size ≤ b) r f) ∧ Below W.heap.size W w') :
    EfC3.wp Tryz.prog (fun e0 a' w' => e0 = .normal ∧ ∃ (B5 B6 : Nat) (u20 u21 u22 u23 : Value), a' = ⟨#[x0, x1, .pointer (some ⟨Ba, 0, none⟩), .pointer (some ⟨Bb, 0, none⟩), x4, .pointer (some ⟨B5, 0, none⟩), .pointer (some ⟨B6, 0, none⟩), x7, x8, x9, x10, x11, x12, x13, x14, x15, x16, x17, x18, x19, u20, u21, u22, u23, x24, x25, x26, x27, x28, x29, x30, x31, x32, x33, x34, x35, x36, x37, x38, x39, x40, x41, x42], []⟩ ∧ Ef3 e f wr w' B5 B6) ⟨#[x0, x1, .pointer (some ⟨Ba, 0, none⟩), .pointer (some ⟨Bb, 0, none⟩), x4, undef, undef, x7, x8, x9, x10, x11, x12, x13, x14, x15, x16, x17, x18, x19, undef, undef, undef, undef, x24, x25, x26, x27, x28, x29, x30, x31, x32, x33, x34, x35, x36, x37, x38, x39, x40, x41, x42], []⟩ wr := by
  have HKp := Lib.hid hKp
  have HTe := Lib.hid hTe
  have HTf := Lib.hid hTf
  have HE := Lib.hid (efs_000 e f pa qa pc qc Ba Bb wr x0 x1 x4 x7 x8 x9 x10 x11 x12 x13 x14 x15 x16 x17 x18 x19 x24 x25 x26 x27 x28 x29 x30 x31 x32 x33 x34 x35 x36 x37 x38 x39 x40 x41 x42 hTe hTf wr.drew (Below.drew (Below.refl _ _)))
  clear hKp hTe hTf
  conv => arg 2; whnf
  dsimp only
  refine wp_region_noPanic ?_
  refine wp_region_held_drew (S := fun W => Below wr.heap.size wr W) (by kernel_rfl) (Below.drew (Below.refl _ _)) (fun hS0 => ?_)
  refine wpAnyH_take (i := 0) (oi := _) (v := .agg #[.int .i64 e.kind, .string e.op, .int .i64 e.vk, .int .i64 e.vn, .string e.vs, .string e.tab, .string e.col, .slice pa e.parts.length pc]) rfl (by kernel_rfl) (by kernel_rfl) (by kernel_rfl) (fun _ _ _ h => h) (Or.inl ⟨by rfl, ?_⟩) hS0 ?_
  · intro w' hSw
    obtain ⟨⟨a0, a1, a2, a3, a4, a5, a6, a7⟩, -⟩ := HKp.out w' hSw
    go_simp
  try simp only [Act.put, List.setIfInBounds_toArray, List.set_cons_zero, List.set_cons_succ]
  refine wpAnyH_take (i := 2) (oi := _) (v := .agg #[.int .i64 f.kind, .string f.op, .int .i64 f.vk, .int .i64 f.vn, .string f.vs, .string f.tab, .string f.col, .slice qa f.parts.length qc]) rfl (by kernel_rfl) (by kernel_rfl) (by kernel_rfl) (fun _ _ _ h => h) (Or.inl ⟨by rfl, ?_⟩) hS0 ?_
  · intro w' hSw
    obtain ⟨-, a0, a1, a2, a3, a4, a5, a6, a7⟩ := HKp.out w' hSw
    go_simp
  try simp only [Act.put, List.setIfInBounds_toArray, List.set_cons_zero, List.set_cons_succ]
  exact HE.out
end Go.Proofs.YtafhgilikcablaaGreatDoor
