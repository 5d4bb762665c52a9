/- The package's reader of statements: expr's region 3. Written by genpsex.py. -/
import Derived.Test.YtknhphcfcpjhiaaGreatDoorPsEx0
import Derived.Deep.RegionHeld3
namespace Go.Proofs.YtknhphcfcpjhiaaGreatDoor
open Go.RowKit
set_option linter.unusedVariables false
set_option linter.unusedSimpArgs false
set_option maxRecDepth 100000
def regOfX (n : Nat) : Code → Option Code
  | .region id ops b => if id = n then some (.region id ops b) else none
  | .seq a b => match regOfX n a with
    | some c => some c
    | none => regOfX n b
  | .block _ c => regOfX n c
  | .scope c => regOfX n c
  | .loop c => regOfX n c
  | .cond _ a b => match regOfX n a with
    | some c => some c
    | none => regOfX n b
  | _ => none
noncomputable def PxC3 : Code := ((Tryz.f56.body.bind (regOfX 3)).getD .skip)
def opsOfX : Code → Array Oper
  | .region _ ops _ => ops
  | _ => #[]
noncomputable def PxOps : Array Oper := opsOfX PxC3
theorem at_lt2 {w : World} {B : Nat} {x : Obj} (h : w.heap[B]? = some x) : B < w.heap.size := (Array.getElem?_eq_some_iff.1 h).1
theorem EL.ne2 {w : World} {Q Q' : Nat → Prop} {a : Option Addr} {l : List ET} (h : EL w Q a l) (hq : ∀ b, Q b → b < w.heap.size → Q' b) (o : Obj) : EL (w.alloc o) Q' a l := (h.mono hq).keep (bel0 _ (Below.refl _ _))
set_option maxHeartbeats 6400000 in
theorem pxs_11 (r : ET × Nat × Int) (b o1 n1 c1 : Nat) (wr : World) (x0 x1 x2 x6 x7 x8 x9 x10 x11 x13 x14 x15 x16 x17 x18 x19 x20 x26 x27 x28 x29 x30 x31 x32 x33 x34 x35 x36 x37 x38 x39 x40 : Value)
    (hT : ∀ W : World, Below wr.heap.size wr W → Calls Tryz.prog 106 #[.slice (some ⟨b, o1, none⟩) n1 c1] W (TakeR W r))
    (p4 p5 : Value) (W : World) (hB : Below wr.heap.size wr W) (B3 : Nat) (h3 : W.heap[B3]? = some (.cells #[.int .i64 0, .string ⟨#[]⟩, .int .i64 0, .int .i64 0, .string ⟨#[]⟩, .string ⟨#[]⟩, .string ⟨#[]⟩, .slice none 0 0] 82 (0, 0))) (n3 : wr.heap.size ≤ B3) (sa : Option Addr) (sc : Nat) (gx : ERg r.1 sa sc) (lx : EL W (fun g => wr.heap.size ≤ g ∧ g ≠ B3) sa r.1.parts) :
    wpAnyH Tryz.prog .any PxOps (NoPanic fun e0 a' w' => e0 = .normal ∧ ∃ (v3 v4 v5 u12 u22 u23 u24 u25 : Value), a' = ⟨#[x0, x1, x2, v3, v4, v5, x6, x7, x8, x9, x10, x11, u12, x13, x14, x15, x16, x17, x18, x19, x20, .slice (some ⟨b, o1, none⟩) n1 c1, u22, u23, u24, u25, x26, x27, x28, x29, x30, x31, x32, x33, x34, x35, x36, x37, x38, x39, x40], []⟩ ∧ ExMid wr r v3 v4 v5 w') (fun W => Below wr.heap.size wr W) 3 #[true, true, true, true, true, true, true, true, true, true, true, true, true, true, true, false, false, false] ⟨#[x0, x1, x2, .pointer (some ⟨B3, 0, none⟩), p4, p5, x6, x7, x8, x9, x10, x11, .tuple #[.agg #[.int .i64 r.1.kind, .string r.1.op, .int .i64 r.1.vk, .int .i64 r.1.vn, .string r.1.vs, .string r.1.tab, .string r.1.col, .slice sa r.1.parts.length sc], .int .i64 (r.2.1 : Int), .int .i64 r.2.2], x13, x14, x15, x16, x17, x18, x19, x20, .slice (some ⟨b, o1, none⟩) n1 c1, .tuple #[.agg #[.int .i64 r.1.kind, .string r.1.op, .int .i64 r.1.vk, .int .i64 r.1.vn, .string r.1.vs, .string r.1.tab, .string r.1.col, .slice sa r.1.parts.length sc], .int .i64 (r.2.1 : Int), .int .i64 r.2.2], .agg #[.int .i64 r.1.kind, .string r.1.op, .int .i64 r.1.vk, .int .i64 r.1.vn, .string r.1.vs, .string r.1.tab, .string r.1.col, .slice sa r.1.parts.length sc], .int .i64 (r.2.1 : Int), .int .i64 r.2.2, x26, x27, x28, x29, x30, x31, x32, x33, x34, x35, x36, x37, x38, x39, x40], []⟩ W := by
  have HB := Lib.hid hB
  have HT := Lib.hid hT
  have H3 := Lib.hid h3
  have LX := Lib.hid lx
  clear hB hT h3 lx
  have K := Lib.hid (wbox8 H3.out (.int .i64 r.1.kind) (.string r.1.op) (.int .i64 r.1.vk) (.int .i64 r.1.vn) (.string r.1.vs) (.string r.1.tab) (.string r.1.col) (.slice sa r.1.parts.length sc))
  obtain ⟨g0, g1, g2, g3, g4, g5, g6, g7, gz, gN⟩ := row8 H3.out
  have HB2 := Lib.hid (setLe_below n3 [.int .i64 r.1.kind, .string r.1.op, .int .i64 r.1.vk, .int .i64 r.1.vn, .string r.1.vs, .string r.1.tab, .string r.1.col, .slice sa r.1.parts.length sc] 0 W HB.out)
  have LX2 := Lib.hid (el_store LX.out (R := B3) (fun _ h => h.2) 0 [.int .i64 r.1.kind, .string r.1.op, .int .i64 r.1.vk, .int .i64 r.1.vn, .string r.1.vs, .string r.1.tab, .string r.1.col, .slice sa r.1.parts.length sc])
  refine wpAnyH_ready (rs := [15]) (by kernel_rfl) (by simp) ?_
  refine AllReadyH.cons (o := { dst := none, op := .store 82 (.tmp 3) (.tmp 23), type := 0, pos := "read.go:93", after := #[{ on := 14, ground := .data }, { on := 11, ground := .data }, { on := 9, ground := .chain }, { on := 0, ground := .phase }, { on := 1, ground := .phase }, { on := 2, ground := .phase }, { on := 3, ground := .phase }, { on := 4, ground := .phase }, { on := 5, ground := .phase }, { on := 6, ground := .phase }, { on := 7, ground := .phase }, { on := 8, ground := .phase }, { on := 9, ground := .phase }, { on := 10, ground := .phase }, { on := 11, ground := .phase }, { on := 12, ground := .textOnly .lateStores }, { on := 13, ground := .textOnly .lateStores }, { on := 14, ground := .phase }], guard := none }) (by kernel_rfl) (fun K1 hK => ?_) AllReadyH.nil
  go_simp
  refine hK.out _ _ HB2.out (fun _ => ?_)
  clear hK K1 g0 g1 g2 g3 g4 g5 g6 g7 gz gN
  generalize hW2 : (setLe W B3 0 [.int .i64 r.1.kind, .string r.1.op, .int .i64 r.1.vk, .int .i64 r.1.vn, .string r.1.vs, .string r.1.tab, .string r.1.col, .slice sa r.1.parts.length sc]) = W2 at *
  have hW3 : (((((((W.setCell ⟨B3, 0, none⟩ (.int .i64 r.1.kind)).setCell ⟨B3, 1, none⟩ (.string r.1.op)).setCell ⟨B3, 2, none⟩ (.int .i64 r.1.vk)).setCell ⟨B3, 3, none⟩ (.int .i64 r.1.vn)).setCell ⟨B3, 4, none⟩ (.string r.1.vs)).setCell ⟨B3, 5, none⟩ (.string r.1.tab)).setCell ⟨B3, 6, none⟩ (.string r.1.col)).setCell ⟨B3, 7, none⟩ (.slice sa r.1.parts.length sc) = W2 := hW2
  rw [hW3]
  clear hW2 hW3
  try simp only [Act.put, List.setIfInBounds_toArray, List.set_cons_zero, List.set_cons_succ]
  refine wpAnyH_take (i := 16) (oi := { dst := some 4, op := .assign (.tmp 24), type := 3, pos := "read.go:93", after := #[{ on := 12, ground := .data }, { on := 15, ground := .chain }, { on := 0, ground := .phase }, { on := 1, ground := .phase }, { on := 2, ground := .phase }, { on := 3, ground := .phase }, { on := 4, ground := .phase }, { on := 5, ground := .phase }, { on := 6, ground := .phase }, { on := 7, ground := .phase }, { on := 8, ground := .phase }, { on := 9, ground := .phase }, { on := 10, ground := .phase }, { on := 11, ground := .phase }, { on := 12, ground := .phase }, { on := 13, ground := .textOnly .lateStores }, { on := 14, ground := .phase }, { on := 15, ground := .phase }], guard := none }) (v := .int .i64 (r.2.1 : Int)) (by kernel_rfl) (by kernel_rfl) (by kernel_rfl) (by kernel_rfl) (fun _ _ _ h => h) (Or.inl ⟨by rfl, ?_⟩) HB2.out ?_
  · intro w' hSw
    go_simp
  try simp only [Act.put, List.setIfInBounds_toArray, List.set_cons_zero, List.set_cons_succ]
  refine wpAnyH_take (i := 17) (oi := { dst := some 5, op := .assign (.tmp 25), type := 46, pos := "read.go:93", after := #[{ on := 13, ground := .data }, { on := 16, ground := .chain }, { on := 0, ground := .phase }, { on := 1, ground := .phase }, { on := 2, ground := .phase }, { on := 3, ground := .phase }, { on := 4, ground := .phase }, { on := 5, ground := .phase }, { on := 6, ground := .phase }, { on := 7, ground := .phase }, { on := 8, ground := .phase }, { on := 9, ground := .phase }, { on := 10, ground := .phase }, { on := 11, ground := .phase }, { on := 12, ground := .phase }, { on := 13, ground := .phase }, { on := 14, ground := .phase }, { on := 15, ground := .phase }, { on := 16, ground := .phase }], guard := none }) (v := .int .i64 r.2.2) (by kernel_rfl) (by kernel_rfl) (by kernel_rfl) (by kernel_rfl) (fun _ _ _ h => h) (Or.inl ⟨by rfl, ?_⟩) HB2.out ?_
  · intro w' hSw
    go_simp
  try simp only [Act.put, List.setIfInBounds_toArray, List.set_cons_zero, List.set_cons_succ]
  refine wpAnyH_done (by kernel_rfl) ?_ _
  refine NoPanic.normal ?_
  exact ⟨rfl, _, _, _, _, _, _, _, _, rfl, B3, sa, sc, rfl, rfl, rfl, n3, K.out, gx, LX2.out.mono (fun _ h _ => h.1), HB2.out⟩
set_option maxHeartbeats 6400000 in
theorem pxs_10 (r : ET × Nat × Int) (b o1 n1 c1 : Nat) (wr : World) (x0 x1 x2 x6 x7 x8 x9 x10 x11 x13 x14 x15 x16 x17 x18 x19 x20 x26 x27 x28 x29 x30 x31 x32 x33 x34 x35 x36 x37 x38 x39 x40 : Value)
    (hT : ∀ W : World, Below wr.heap.size wr W → Calls Tryz.prog 106 #[.slice (some ⟨b, o1, none⟩) n1 c1] W (TakeR W r))
    (x3v p4 p5 : Value) (W : World) (hB : Below wr.heap.size wr W) (sa : Option Addr) (sc : Nat) (gx : ERg r.1 sa sc) (lx : EL W (fun g => wr.heap.size ≤ g ∧ True) sa r.1.parts) :
    wpAnyH Tryz.prog .any PxOps (NoPanic fun e0 a' w' => e0 = .normal ∧ ∃ (v3 v4 v5 u12 u22 u23 u24 u25 : Value), a' = ⟨#[x0, x1, x2, v3, v4, v5, x6, x7, x8, x9, x10, x11, u12, x13, x14, x15, x16, x17, x18, x19, x20, .slice (some ⟨b, o1, none⟩) n1 c1, u22, u23, u24, u25, x26, x27, x28, x29, x30, x31, x32, x33, x34, x35, x36, x37, x38, x39, x40], []⟩ ∧ ExMid wr r v3 v4 v5 w') (fun W => Below wr.heap.size wr W) 4 #[true, true, true, true, true, true, true, true, true, true, true, true, true, true, false, false, false, false] ⟨#[x0, x1, x2, x3v, p4, p5, x6, x7, x8, x9, x10, x11, .tuple #[.agg #[.int .i64 r.1.kind, .string r.1.op, .int .i64 r.1.vk, .int .i64 r.1.vn, .string r.1.vs, .string r.1.tab, .string r.1.col, .slice sa r.1.parts.length sc], .int .i64 (r.2.1 : Int), .int .i64 r.2.2], x13, x14, x15, x16, x17, x18, x19, x20, .slice (some ⟨b, o1, none⟩) n1 c1, .tuple #[.agg #[.int .i64 r.1.kind, .string r.1.op, .int .i64 r.1.vk, .int .i64 r.1.vn, .string r.1.vs, .string r.1.tab, .string r.1.col, .slice sa r.1.parts.length sc], .int .i64 (r.2.1 : Int), .int .i64 r.2.2], .agg #[.int .i64 r.1.kind, .string r.1.op, .int .i64 r.1.vk, .int .i64 r.1.vn, .string r.1.vs, .string r.1.tab, .string r.1.col, .slice sa r.1.parts.length sc], .int .i64 (r.2.1 : Int), .int .i64 r.2.2, x26, x27, x28, x29, x30, x31, x32, x33, x34, x35, x36, x37, x38, x39, x40], []⟩ W := by
  have HB := Lib.hid hB
  have HT := Lib.hid hT
  have LX := Lib.hid lx
  clear hB hT lx
  refine wpAnyH_ready (rs := [14]) (by kernel_rfl) (by simp) ?_
  refine AllReadyH.cons (o := { dst := some 3, op := .alloc 82, type := 0, pos := "read.go:93", after := #[], guard := none }) (by kernel_rfl) (fun K1 hK => ?_) AllReadyH.nil
  · go_simp
    have hs := HB.out.size
    refine hK.out _ _ (bel0 (.cells #[.int .i64 0, .string ⟨#[]⟩, .int .i64 0, .int .i64 0, .string ⟨#[]⟩, .string ⟨#[]⟩, .string ⟨#[]⟩, .slice none 0 0] 82 (0, 0)) HB.out) (fun _ => ?_)
    clear hK K1
    try simp only [Act.put, List.setIfInBounds_toArray, List.set_cons_zero, List.set_cons_succ]
    exact pxs_11 r b o1 n1 c1 wr x0 x1 x2 x6 x7 x8 x9 x10 x11 x13 x14 x15 x16 x17 x18 x19 x20 x26 x27 x28 x29 x30 x31 x32 x33 x34 x35 x36 x37 x38 x39 x40 HT.out p4 p5 (W.alloc (.cells #[.int .i64 0, .string ⟨#[]⟩, .int .i64 0, .int .i64 0, .string ⟨#[]⟩, .string ⟨#[]⟩, .string ⟨#[]⟩, .slice none 0 0] 82 (0, 0))) (bel0 _ HB.out) W.heap.size (Go.heap_alloc_new W _) hs sa sc gx (LX.out.ne2 (fun g hq hlt => ⟨hq.1, Nat.ne_of_lt hlt⟩) _)
set_option maxHeartbeats 6400000 in
theorem pxs_01 (r : ET × Nat × Int) (b o1 n1 c1 : Nat) (wr : World) (x0 x1 x2 x6 x7 x8 x9 x10 x11 x13 x14 x15 x16 x17 x18 x19 x20 x26 x27 x28 x29 x30 x31 x32 x33 x34 x35 x36 x37 x38 x39 x40 : Value)
    (hT : ∀ W : World, Below wr.heap.size wr W → Calls Tryz.prog 106 #[.slice (some ⟨b, o1, none⟩) n1 c1] W (TakeR W r))
    (p4 p5 u12 u22 u23 u24 u25 : Value) (W : World) (hB : Below wr.heap.size wr W) (B3 : Nat) (h3 : W.heap[B3]? = some (.cells #[.int .i64 0, .string ⟨#[]⟩, .int .i64 0, .int .i64 0, .string ⟨#[]⟩, .string ⟨#[]⟩, .string ⟨#[]⟩, .slice none 0 0] 82 (0, 0))) (n3 : wr.heap.size ≤ B3) :
    wpAnyH Tryz.prog .any PxOps (NoPanic fun e0 a' w' => e0 = .normal ∧ ∃ (v3 v4 v5 u12 u22 u23 u24 u25 : Value), a' = ⟨#[x0, x1, x2, v3, v4, v5, x6, x7, x8, x9, x10, x11, u12, x13, x14, x15, x16, x17, x18, x19, x20, .slice (some ⟨b, o1, none⟩) n1 c1, u22, u23, u24, u25, x26, x27, x28, x29, x30, x31, x32, x33, x34, x35, x36, x37, x38, x39, x40], []⟩ ∧ ExMid wr r v3 v4 v5 w') (fun W => Below wr.heap.size wr W) 8 #[true, true, true, true, true, true, true, true, true, false, false, false, false, false, true, false, false, false] ⟨#[x0, x1, x2, .pointer (some ⟨B3, 0, none⟩), p4, p5, x6, x7, x8, x9, x10, x11, u12, x13, x14, x15, x16, x17, x18, x19, x20, .slice (some ⟨b, o1, none⟩) n1 c1, u22, u23, u24, u25, x26, x27, x28, x29, x30, x31, x32, x33, x34, x35, x36, x37, x38, x39, x40], []⟩ W := by
  have HB := Lib.hid hB
  have HT := Lib.hid hT
  have H3 := Lib.hid h3
  clear hB hT h3
  refine wpAnyH_ready (rs := [9]) (by kernel_rfl) (by simp) ?_
  refine AllReadyH.cons (o := { dst := some 22, op := .call { callee := .value (.func 106), args := #[.tmp 21], argTypes := #[71] }, type := 163, pos := "read.go:93", after := #[{ on := 8, ground := .data }], guard := none }) (by kernel_rfl) (fun K1 hK => ?_) AllReadyH.nil
  · go_simp
    go_at_call 106
    refine (HT.out W HB.out).mono ?_
    rintro e' w4 ⟨⟨ev, rfl, sa, sc, rfl, hg, hl⟩, hb4⟩
    rw [etX_arr]
    have HB4 := Lib.hid (bt HB.out hb4)
    have hsz := HB.out.size
    refine hK.out _ _ HB4.out (fun _ => ?_)
    clear hK K1
    try simp only [Act.put, List.setIfInBounds_toArray, List.set_cons_zero, List.set_cons_succ]
    have l3 := at_lt2 H3.out
    refine wpAnyH_take (i := 10) (oi := { dst := some 12, op := .move (.tmp 22), type := 163, pos := "read.go:93", after := #[{ on := 9, ground := .data }], guard := none }) (v := .tuple #[.agg #[.int .i64 r.1.kind, .string r.1.op, .int .i64 r.1.vk, .int .i64 r.1.vn, .string r.1.vs, .string r.1.tab, .string r.1.col, .slice sa r.1.parts.length sc], .int .i64 (r.2.1 : Int), .int .i64 r.2.2]) (by kernel_rfl) (by kernel_rfl) (by kernel_rfl) (by kernel_rfl) (fun _ _ _ h => h) (Or.inl ⟨by rfl, ?_⟩) HB4.out ?_
    · intro w' hSw
      go_simp
    try simp only [Act.put, List.setIfInBounds_toArray, List.set_cons_zero, List.set_cons_succ]
    refine wpAnyH_take (i := 11) (oi := { dst := some 23, op := .extract (.tmp 12) 0, type := 82, pos := "read.go:93", after := #[{ on := 10, ground := .data }], guard := none }) (v := .agg #[.int .i64 r.1.kind, .string r.1.op, .int .i64 r.1.vk, .int .i64 r.1.vn, .string r.1.vs, .string r.1.tab, .string r.1.col, .slice sa r.1.parts.length sc]) (by kernel_rfl) (by kernel_rfl) (by kernel_rfl) (by kernel_rfl) (fun _ _ _ h => h) (Or.inl ⟨by rfl, ?_⟩) HB4.out ?_
    · intro w' hSw
      go_simp
    try simp only [Act.put, List.setIfInBounds_toArray, List.set_cons_zero, List.set_cons_succ]
    refine wpAnyH_take (i := 12) (oi := { dst := some 24, op := .extract (.tmp 12) 1, type := 3, pos := "read.go:93", after := #[{ on := 10, ground := .data }, { on := 15, ground := .gcOnly .lateStores }], guard := none }) (v := .int .i64 (r.2.1 : Int)) (by kernel_rfl) (by kernel_rfl) (by kernel_rfl) (by kernel_rfl) (fun _ _ _ h => h) (Or.inl ⟨by rfl, ?_⟩) HB4.out ?_
    · intro w' hSw
      go_simp
    try simp only [Act.put, List.setIfInBounds_toArray, List.set_cons_zero, List.set_cons_succ]
    refine wpAnyH_take (i := 13) (oi := { dst := some 25, op := .extract (.tmp 12) 2, type := 46, pos := "read.go:93", after := #[{ on := 10, ground := .data }, { on := 16, ground := .gcOnly .lateStores }], guard := none }) (v := .int .i64 r.2.2) (by kernel_rfl) (by kernel_rfl) (by kernel_rfl) (by kernel_rfl) (fun _ _ _ h => h) (Or.inl ⟨by rfl, ?_⟩) HB4.out ?_
    · intro w' hSw
      go_simp
    try simp only [Act.put, List.setIfInBounds_toArray, List.set_cons_zero, List.set_cons_succ]
    exact pxs_11 r b o1 n1 c1 wr x0 x1 x2 x6 x7 x8 x9 x10 x11 x13 x14 x15 x16 x17 x18 x19 x20 x26 x27 x28 x29 x30 x31 x32 x33 x34 x35 x36 x37 x38 x39 x40 HT.out p4 p5 w4 HB4.out B3 ((hb4.block B3 l3).trans H3.out) n3 sa sc hg (hl.mono (fun g hq _ => ⟨by omega, by omega⟩))
set_option maxHeartbeats 6400000 in
theorem pxs_00 (r : ET × Nat × Int) (b o1 n1 c1 : Nat) (wr : World) (x0 x1 x2 x6 x7 x8 x9 x10 x11 x13 x14 x15 x16 x17 x18 x19 x20 x26 x27 x28 x29 x30 x31 x32 x33 x34 x35 x36 x37 x38 x39 x40 : Value)
    (hT : ∀ W : World, Below wr.heap.size wr W → Calls Tryz.prog 106 #[.slice (some ⟨b, o1, none⟩) n1 c1] W (TakeR W r))
    (x3v p4 p5 u12 u22 u23 u24 u25 : Value) (W : World) (hB : Below wr.heap.size wr W) :
    wpAnyH Tryz.prog .any PxOps (NoPanic fun e0 a' w' => e0 = .normal ∧ ∃ (v3 v4 v5 u12 u22 u23 u24 u25 : Value), a' = ⟨#[x0, x1, x2, v3, v4, v5, x6, x7, x8, x9, x10, x11, u12, x13, x14, x15, x16, x17, x18, x19, x20, .slice (some ⟨b, o1, none⟩) n1 c1, u22, u23, u24, u25, x26, x27, x28, x29, x30, x31, x32, x33, x34, x35, x36, x37, x38, x39, x40], []⟩ ∧ ExMid wr r v3 v4 v5 w') (fun W => Below wr.heap.size wr W) 9 #[true, true, true, true, true, true, true, true, true, false, false, false, false, false, false, false, false, false] ⟨#[x0, x1, x2, x3v, p4, p5, x6, x7, x8, x9, x10, x11, u12, x13, x14, x15, x16, x17, x18, x19, x20, .slice (some ⟨b, o1, none⟩) n1 c1, u22, u23, u24, u25, x26, x27, x28, x29, x30, x31, x32, x33, x34, x35, x36, x37, x38, x39, x40], []⟩ W := by
  have HB := Lib.hid hB
  have HT := Lib.hid hT
  clear hB hT
  refine wpAnyH_ready (rs := [9, 14]) (by kernel_rfl) (by simp) ?_
  refine AllReadyH.cons (o := { dst := some 22, op := .call { callee := .value (.func 106), args := #[.tmp 21], argTypes := #[71] }, type := 163, pos := "read.go:93", after := #[{ on := 8, ground := .data }], guard := none }) (by kernel_rfl) (fun K1 hK => ?_) (AllReadyH.cons (o := { dst := some 3, op := .alloc 82, type := 0, pos := "read.go:93", after := #[], guard := none }) (by kernel_rfl) (fun K1 hK => ?_) AllReadyH.nil)
  · go_simp
    go_at_call 106
    refine (HT.out W HB.out).mono ?_
    rintro e' w4 ⟨⟨ev, rfl, sa, sc, rfl, hg, hl⟩, hb4⟩
    rw [etX_arr]
    have HB4 := Lib.hid (bt HB.out hb4)
    have hsz := HB.out.size
    refine hK.out _ _ HB4.out (fun _ => ?_)
    clear hK K1
    try simp only [Act.put, List.setIfInBounds_toArray, List.set_cons_zero, List.set_cons_succ]
    refine wpAnyH_take (i := 10) (oi := { dst := some 12, op := .move (.tmp 22), type := 163, pos := "read.go:93", after := #[{ on := 9, ground := .data }], guard := none }) (v := .tuple #[.agg #[.int .i64 r.1.kind, .string r.1.op, .int .i64 r.1.vk, .int .i64 r.1.vn, .string r.1.vs, .string r.1.tab, .string r.1.col, .slice sa r.1.parts.length sc], .int .i64 (r.2.1 : Int), .int .i64 r.2.2]) (by kernel_rfl) (by kernel_rfl) (by kernel_rfl) (by kernel_rfl) (fun _ _ _ h => h) (Or.inl ⟨by rfl, ?_⟩) HB4.out ?_
    · intro w' hSw
      go_simp
    try simp only [Act.put, List.setIfInBounds_toArray, List.set_cons_zero, List.set_cons_succ]
    refine wpAnyH_take (i := 11) (oi := { dst := some 23, op := .extract (.tmp 12) 0, type := 82, pos := "read.go:93", after := #[{ on := 10, ground := .data }], guard := none }) (v := .agg #[.int .i64 r.1.kind, .string r.1.op, .int .i64 r.1.vk, .int .i64 r.1.vn, .string r.1.vs, .string r.1.tab, .string r.1.col, .slice sa r.1.parts.length sc]) (by kernel_rfl) (by kernel_rfl) (by kernel_rfl) (by kernel_rfl) (fun _ _ _ h => h) (Or.inl ⟨by rfl, ?_⟩) HB4.out ?_
    · intro w' hSw
      go_simp
    try simp only [Act.put, List.setIfInBounds_toArray, List.set_cons_zero, List.set_cons_succ]
    refine wpAnyH_take (i := 12) (oi := { dst := some 24, op := .extract (.tmp 12) 1, type := 3, pos := "read.go:93", after := #[{ on := 10, ground := .data }, { on := 15, ground := .gcOnly .lateStores }], guard := none }) (v := .int .i64 (r.2.1 : Int)) (by kernel_rfl) (by kernel_rfl) (by kernel_rfl) (by kernel_rfl) (fun _ _ _ h => h) (Or.inl ⟨by rfl, ?_⟩) HB4.out ?_
    · intro w' hSw
      go_simp
    try simp only [Act.put, List.setIfInBounds_toArray, List.set_cons_zero, List.set_cons_succ]
    refine wpAnyH_take (i := 13) (oi := { dst := some 25, op := .extract (.tmp 12) 2, type := 46, pos := "read.go:93", after := #[{ on := 10, ground := .data }, { on := 16, ground := .gcOnly .lateStores }], guard := none }) (v := .int .i64 r.2.2) (by kernel_rfl) (by kernel_rfl) (by kernel_rfl) (by kernel_rfl) (fun _ _ _ h => h) (Or.inl ⟨by rfl, ?_⟩) HB4.out ?_
    · intro w' hSw
      go_simp
    try simp only [Act.put, List.setIfInBounds_toArray, List.set_cons_zero, List.set_cons_succ]
    exact pxs_10 r b o1 n1 c1 wr x0 x1 x2 x6 x7 x8 x9 x10 x11 x13 x14 x15 x16 x17 x18 x19 x20 x26 x27 x28 x29 x30 x31 x32 x33 x34 x35 x36 x37 x38 x39 x40 HT.out x3v p4 p5 w4 HB4.out sa sc hg (hl.mono (fun g hq _ => ⟨by omega, trivial⟩))
  · go_simp
    have hs := HB.out.size
    refine hK.out _ _ (bel0 (.cells #[.int .i64 0, .string ⟨#[]⟩, .int .i64 0, .int .i64 0, .string ⟨#[]⟩, .string ⟨#[]⟩, .string ⟨#[]⟩, .slice none 0 0] 82 (0, 0)) HB.out) (fun _ => ?_)
    clear hK K1
    try simp only [Act.put, List.setIfInBounds_toArray, List.set_cons_zero, List.set_cons_succ]
    exact pxs_01 r b o1 n1 c1 wr x0 x1 x2 x6 x7 x8 x9 x10 x11 x13 x14 x15 x16 x17 x18 x19 x20 x26 x27 x28 x29 x30 x31 x32 x33 x34 x35 x36 x37 x38 x39 x40 HT.out p4 p5 u12 u22 u23 u24 u25 (W.alloc (.cells #[.int .i64 0, .string ⟨#[]⟩, .int .i64 0, .int .i64 0, .string ⟨#[]⟩, .string ⟨#[]⟩, .string ⟨#[]⟩, .slice none 0 0] 82 (0, 0))) (bel0 _ HB.out) W.heap.size (Go.heap_alloc_new W _) hs
set_option maxHeartbeats 12800000 in
theorem px_r3 (r : ET × Nat × Int) (N b off wn wc p o1 : Nat) (ho : (wc = p → o1 = off) ∧ (wc ≠ p → o1 = off + p * 3)) (wr : World) (x1 x2 x3 x4 x5 x6 x7 x8 x9 x10 x11 x12 x13 x14 x15 x16 x17 x18 x19 x20 x21 x22 x23 x24 x25 x26 x27 x28 x29 x30 x31 x32 x33 x34 x35 x36 x37 x38 x39 x40 : Value) (hN : N < wr.heap.size) (hp : p ≤ wn) (hcap : wn ≤ wc ∧ wc ≤ maxLen)
    (hKp : ∀ W : World, Below wr.heap.size wr W → W.cell? ⟨N, 0, none⟩ = some (.slice (some ⟨b, off, none⟩) wn wc) ∧ W.cell? ⟨N, 1, none⟩ = some (.int .i64 (p : Int)))
    (hT : ∀ W : World, Below wr.heap.size wr W → Calls Tryz.prog 106 #[.slice (some ⟨b, o1, none⟩) (wn - p) (wc - p)] W (TakeR W r)) :
    PxC3.wp Tryz.prog (fun e0 a' w' => e0 = .normal ∧ ∃ (v3 v4 v5 u12 u22 u23 u24 u25 : Value), a' = ⟨#[.pointer (some ⟨N, 0, none⟩), x1, x2, v3, v4, v5, x6, x7, x8, x9, x10, x11, u12, .pointer (some ⟨N, 0, none⟩), .pointer (some ⟨N, 0, none⟩), .pointer (some ⟨N, 0, none⟩), .slice (some ⟨b, off, none⟩) wn wc, .pointer (some ⟨N, 0, none⟩), .pointer (some ⟨N, 0, none⟩), .pointer (some ⟨N, 1, none⟩), .int .i64 (p : Int), .slice (some ⟨b, o1, none⟩) (wn - p) (wc - p), u22, u23, u24, u25, x26, x27, x28, x29, x30, x31, x32, x33, x34, x35, x36, x37, x38, x39, x40], []⟩ ∧ ExMid wr r v3 v4 v5 w') ⟨#[.pointer (some ⟨N, 0, none⟩), x1, x2, x3, x4, x5, x6, x7, x8, x9, x10, x11, x12, x13, x14, x15, x16, x17, x18, x19, x20, x21, x22, x23, x24, x25, x26, x27, x28, x29, x30, x31, x32, x33, x34, x35, x36, x37, x38, x39, x40], []⟩ wr := by
  have HKp := Lib.hid hKp
  have HE := Lib.hid (pxs_00 r b o1 (wn - p) (wc - p) wr (.pointer (some ⟨N, 0, none⟩)) x1 x2 x6 x7 x8 x9 x10 x11 (.pointer (some ⟨N, 0, none⟩)) (.pointer (some ⟨N, 0, none⟩)) (.pointer (some ⟨N, 0, none⟩)) (.slice (some ⟨b, off, none⟩) wn wc) (.pointer (some ⟨N, 0, none⟩)) (.pointer (some ⟨N, 0, none⟩)) (.pointer (some ⟨N, 1, none⟩)) (.int .i64 (p : Int)) x26 x27 x28 x29 x30 x31 x32 x33 x34 x35 x36 x37 x38 x39 x40 hT x3 x4 x5 x12 x22 x23 x24 x25 wr.drew (Below.drew (Below.refl _ _)))
  have hp0 : (0 : Int) ≤ (p : Int) := by omega
  have hp1 : (p : Int) ≤ (wn : Int) := by omega
  have hp2 : (p : Int) ≤ (wc : Int) := by omega
  have hp3 : (wn : Int) ≤ (wc : Int) := by omega
  clear hKp hT
  conv => arg 2; whnf
  dsimp only
  refine wp_region_noPanic ?_
  refine wp_region_held_drew (S := fun W => Below wr.heap.size wr W) (by kernel_rfl) (Below.drew (Below.refl _ _)) (fun hS0 => ?_)
  refine wpAnyH_take (i := 0) (oi := { dst := some 13, op := .move (.tmp 0), type := 107, pos := "read.go:93", after := #[], guard := none }) (v := .pointer (some ⟨N, 0, none⟩)) (by kernel_rfl) (by kernel_rfl) (by kernel_rfl) (by kernel_rfl) (fun _ _ _ h => h) (Or.inl ⟨by rfl, ?_⟩) hS0 ?_
  · intro w' hSw
    have hb := hSw.size
    obtain ⟨a0, a1⟩ := HKp.out w' hSw
    have hN' : N < w'.heap.size := by omega
    clear hb
    go_simp
  try simp only [Act.put, List.setIfInBounds_toArray, List.set_cons_zero, List.set_cons_succ]
  refine wpAnyH_take (i := 1) (oi := { dst := some 14, op := .nilCheck (.tmp 13), type := 0, pos := "read.go:93", after := #[{ on := 0, ground := .data }], guard := none }) (v := .pointer (some ⟨N, 0, none⟩)) (by kernel_rfl) (by kernel_rfl) (by kernel_rfl) (by kernel_rfl) (fun _ _ _ h => h) (Or.inl ⟨by rfl, ?_⟩) hS0 ?_
  · intro w' hSw
    have hb := hSw.size
    obtain ⟨a0, a1⟩ := HKp.out w' hSw
    have hN' : N < w'.heap.size := by omega
    clear hb
    go_simp
  try simp only [Act.put, List.setIfInBounds_toArray, List.set_cons_zero, List.set_cons_succ]
  refine wpAnyH_take (i := 2) (oi := { dst := some 15, op := .fieldAddr 75 (.tmp 14) 0, type := 0, pos := "read.go:93", after := #[{ on := 1, ground := .data }], guard := none }) (v := .pointer (some ⟨N, 0, none⟩)) (by kernel_rfl) (by kernel_rfl) (by kernel_rfl) (by kernel_rfl) (fun _ _ _ h => h) (Or.inl ⟨by rfl, ?_⟩) hS0 ?_
  · intro w' hSw
    have hb := hSw.size
    obtain ⟨a0, a1⟩ := HKp.out w' hSw
    have hN' : N < w'.heap.size := by omega
    clear hb
    go_simp
  try simp only [Act.put, List.setIfInBounds_toArray, List.set_cons_zero, List.set_cons_succ]
  refine wpAnyH_take (i := 3) (oi := { dst := some 16, op := .load 71 (.tmp 15), type := 71, pos := "read.go:93", after := #[{ on := 2, ground := .data }], guard := none }) (v := .slice (some ⟨b, off, none⟩) wn wc) (by kernel_rfl) (by kernel_rfl) (by kernel_rfl) (by kernel_rfl) (fun _ _ _ h => h) (Or.inl ⟨by rfl, ?_⟩) hS0 ?_
  · intro w' hSw
    have hb := hSw.size
    obtain ⟨a0, a1⟩ := HKp.out w' hSw
    have hN' : N < w'.heap.size := by omega
    clear hb
    go_simp
  try simp only [Act.put, List.setIfInBounds_toArray, List.set_cons_zero, List.set_cons_succ]
  refine wpAnyH_take (i := 4) (oi := { dst := some 17, op := .move (.tmp 0), type := 107, pos := "read.go:93", after := #[], guard := none }) (v := .pointer (some ⟨N, 0, none⟩)) (by kernel_rfl) (by kernel_rfl) (by kernel_rfl) (by kernel_rfl) (fun _ _ _ h => h) (Or.inl ⟨by rfl, ?_⟩) hS0 ?_
  · intro w' hSw
    have hb := hSw.size
    obtain ⟨a0, a1⟩ := HKp.out w' hSw
    have hN' : N < w'.heap.size := by omega
    clear hb
    go_simp
  try simp only [Act.put, List.setIfInBounds_toArray, List.set_cons_zero, List.set_cons_succ]
  refine wpAnyH_take (i := 5) (oi := { dst := some 18, op := .nilCheck (.tmp 17), type := 0, pos := "read.go:93", after := #[{ on := 4, ground := .data }], guard := none }) (v := .pointer (some ⟨N, 0, none⟩)) (by kernel_rfl) (by kernel_rfl) (by kernel_rfl) (by kernel_rfl) (fun _ _ _ h => h) (Or.inl ⟨by rfl, ?_⟩) hS0 ?_
  · intro w' hSw
    have hb := hSw.size
    obtain ⟨a0, a1⟩ := HKp.out w' hSw
    have hN' : N < w'.heap.size := by omega
    clear hb
    go_simp
  try simp only [Act.put, List.setIfInBounds_toArray, List.set_cons_zero, List.set_cons_succ]
  refine wpAnyH_take (i := 6) (oi := { dst := some 19, op := .fieldAddr 75 (.tmp 18) 1, type := 0, pos := "read.go:93", after := #[{ on := 5, ground := .data }], guard := none }) (v := .pointer (some ⟨N, 1, none⟩)) (by kernel_rfl) (by kernel_rfl) (by kernel_rfl) (by kernel_rfl) (fun _ _ _ h => h) (Or.inl ⟨by rfl, ?_⟩) hS0 ?_
  · intro w' hSw
    have hb := hSw.size
    obtain ⟨a0, a1⟩ := HKp.out w' hSw
    have hN' : N < w'.heap.size := by omega
    clear hb
    go_simp
  try simp only [Act.put, List.setIfInBounds_toArray, List.set_cons_zero, List.set_cons_succ]
  refine wpAnyH_take (i := 7) (oi := { dst := some 20, op := .load 3 (.tmp 19), type := 3, pos := "read.go:93", after := #[{ on := 6, ground := .data }], guard := none }) (v := .int .i64 (p : Int)) (by kernel_rfl) (by kernel_rfl) (by kernel_rfl) (by kernel_rfl) (fun _ _ _ h => h) (Or.inl ⟨by rfl, ?_⟩) hS0 ?_
  · intro w' hSw
    have hb := hSw.size
    obtain ⟨a0, a1⟩ := HKp.out w' hSw
    have hN' : N < w'.heap.size := by omega
    clear hb
    go_simp
  try simp only [Act.put, List.setIfInBounds_toArray, List.set_cons_zero, List.set_cons_succ]
  refine wpAnyH_take (i := 8) (oi := { dst := some 21, op := .slice 71 (.tmp 16) (some (.tmp 20)) none none, type := 71, pos := "read.go:93", after := #[{ on := 3, ground := .data }, { on := 7, ground := .data }], guard := none }) (v := .slice (some ⟨b, o1, none⟩) (wn - p) (wc - p)) (by kernel_rfl) (by kernel_rfl) (by kernel_rfl) (by kernel_rfl) (fun _ _ _ h => h) (Or.inl ⟨by rfl, ?_⟩) hS0 ?_
  · intro w' hSw
    have hb := hSw.size
    obtain ⟨a0, a1⟩ := HKp.out w' hSw
    have hN' : N < w'.heap.size := by omega
    clear hb
    by_cases hwc : wc = p
    · obtain rfl := ho.1 hwc
      subst hwc
      go_simp
    · have e := ho.2 hwc
      subst e
      go_simp
  try simp only [Act.put, List.setIfInBounds_toArray, List.set_cons_zero, List.set_cons_succ]
  exact HE.out
end Go.Proofs.YtknhphcfcpjhiaaGreatDoor
