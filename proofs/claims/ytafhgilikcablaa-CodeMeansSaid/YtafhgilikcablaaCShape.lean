/- Contract of the document's shape: every word of an instruction. -/
import Derived.Test.YtafhgilikcablaaCmA
import Derived.Test.YtafhgilikcablaaQTail
import Derived.Test.YtafhgilikcablaaCmI
import Derived.Test.YtafhgilikcablaaVmMach
import Derived.ScopeJumps
import Derived.WalkMore
import Derived.Test.YtafhgilikcablaaCFit4
namespace Go.Proofs.Ytafhgilikcablaa
open Go.RowKit
set_option linter.unusedVariables false
set_option linter.unusedSimpArgs false
/-- nothing but two blocks is another -/
structure Sto2 (g h : Nat) (w w' : World) : Prop where
  os : w'.os = w.os
  tape : w'.tape = w.tape
  output : w'.output = w.output
  size : w.heap.size ≤ w'.heap.size
  block : ∀ i, i < w.heap.size → i ≠ g → i ≠ h → w'.heap[i]? = w.heap[i]?
theorem Sto2.of_below {g h : Nat} {w w' : World} (k : Below w.heap.size w w') : Sto2 g h w w' := ⟨k.os, k.tape, k.output, k.size, fun i hi _ _ => k.block i hi⟩
theorem Sto2.of_heap {g h : Nat} {a b b' : World} (k : Sto2 g h a b) (e : b'.heap = b.heap) (e1 : b'.os = b.os) (e2 : b'.tape = b.tape) (e3 : b'.output = b.output) : Sto2 g h a b' := ⟨e1.trans k.os, e2.trans k.tape, e3.trans k.output, by rw [e]; exact k.size, fun i hi hn hm => by rw [e]; exact k.block i hi hn hm⟩
theorem Sto2.set1 {g h : Nat} {a b : World} (k : Sto2 g h a b) (j : Nat) (u : Value) : Sto2 g h a (b.setCell ⟨g, j, none⟩ u) := ⟨k.os, k.tape, k.output, by simpa using k.size, fun i hi hn hm => (heap_setCell_other b ⟨g, j, none⟩ i u hn).trans (k.block i hi hn hm)⟩
theorem Sto2.set2 {g h : Nat} {a b : World} (k : Sto2 g h a b) (j : Nat) (u : Value) : Sto2 g h a (b.setCell ⟨h, j, none⟩ u) := ⟨k.os, k.tape, k.output, by simpa using k.size, fun i hi hn hm => (heap_setCell_other b ⟨h, j, none⟩ i u hm).trans (k.block i hi hn hm)⟩
theorem Below.sto2 {B g h : Nat} {w a b : World} (k : Below B w a) (s : Sto2 g h a b) (hg : B ≤ g) (hh : B ≤ h) (hB : B ≤ a.heap.size) : Below B w b := ⟨s.os.trans k.os, s.tape.trans k.tape, s.output.trans k.output, Nat.le_trans k.size s.size, fun i hi => (s.block i (by omega) (by omega) (by omega)).trans (k.block i hi)⟩
section
variable {w w' : World} {g : Nat} {rs : List Reg}
theorem ValAt.same (h : ValAt w g rs) {i : Nat} (hi : i < rs.length) (t : Int) : ValAt w g (rs.set i ((rs.getD i noR).1, t)) := by
  unfold ValAt; rw [valC_truth rs i t hi]; exact h
theorem TruAt.same (h : TruAt w g rs) {i : Nat} (hi : i < rs.length) (v : Val) : TruAt w g (rs.set i (v, (rs.getD i noR).2)) := by
  unfold TruAt; rw [truC_value rs i v hi]; exact h
end
end Go.Proofs.Ytafhgilikcablaa
namespace Go.Proofs.Ytafhgilikcablaa
open Go.RowKit
set_option linter.unusedVariables false
set_option linter.unusedSimpArgs false
set_option maxRecDepth 100000

/-- what the first world tells of all later ones -/
structure VmIn (ca : Option Addr) (cl cc : Nat) (k : Int) (xs : List Ins) (ra : Option Addr) (rl : Nat) (R : List (List Val)) (P2 P4 : Nat) (W0 : World) : Prop where
  i : IsI W0 ca cl xs
  r : IsRR W0 ra rl R
  p0 : W0.cell? ⟨P2, 0, none⟩ = some (.slice ca cl cc)
  p1 : W0.cell? ⟨P2, 1, none⟩ = some (.int .i64 k)
  p4 : ResAt W0 P4 noV
  nums : ∀ x ∈ xs, InsR x
  rows : RowsR R
theorem VmIn.below {ca : Option Addr} {cl cc : Nat} {k : Int} {xs : List Ins} {ra : Option Addr} {rl : Nat} {R : List (List Val)} {P2 P4 : Nat} {W0 w' : World} (h : VmIn ca cl cc k xs ra rl R P2 P4 W0) (hb : Below W0.heap.size W0 w') : VmIn ca cl cc k xs ra rl R P2 P4 w' :=
  ⟨h.i.below hb, h.r.below hb, (hb.cell (World.block_lt_of_cell? _ _ h.p0)).trans h.p0, (hb.cell (World.block_lt_of_cell? _ _ h.p1)).trans h.p1, (hb.block P4 (Array.getElem?_eq_some_iff.1 h.p4).1).trans h.p4, h.nums, h.rows⟩
theorem ok_nat {n k i : Int} {x : Ins} (hi : 0 ≤ i) (h : okI n k i x = true) : ∃ A B C : Nat, x.a = A ∧ x.b = B ∧ x.c = C ∧ (opClass x.op = 0 → (A : Int) < k) ∧ (opClass x.op = 1 → (A : Int) < k) ∧ (opClass x.op = 2 → (A : Int) < k ∧ (B : Int) < k) ∧
    (opClass x.op = 3 → (A : Int) < k ∧ (B : Int) < k ∧ (C : Int) < k) ∧ (opClass x.op = 4 → A = 0 ∧ (B : Int) < k ∧ i < (C : Int) ∧ (C : Int) ≤ n) := by
  unfold okI at h
  rw [Bool.and_eq_true] at h
  have h2 := h.2
  unfold fitsB at h2
  rcases hc : opClass x.op with _ | _ | _ | _ | _ | m <;> rw [hc] at h2 <;> simp [hasB] at h2 <;>
    exact ⟨x.a.toNat, x.b.toNat, x.c.toNat, by omega, by omega, by omega, by omega, by omega, by omega, by omega, by omega⟩
theorem results_val3 {fn : Func} {p u t : Tmp} (h : fn.results = #[.cell p 38, .tmp u, .tmp t]) (tmps : Array Value) (w : World) (g : Nat) (v : Val)
    (hp : tmps.getD p undef = .pointer (some ⟨g, 0, none⟩)) (hg : ResAt w g v) :
    (results fn tmps).run Try.prog w = .ok (.tuple #[valV v, tmps.getD u undef, tmps.getD t undef]) w := by
  have hp' : tmps[p]?.getD undef = .pointer (some ⟨g, 0, none⟩) := by simpa using hp
  have hl := run_loadVar_row (P := Try.prog) w g 38 38 #[.int .i64 v.1, .int .i64 v.2.1, .string v.2.2] (0, 0) _ hg Try.underlying38 rfl (by
    have : (Try.prog.info? 38).map (·.size) = some 3 := by kernel_rfl
    exact this)
  simp [results, h, hp', asAddr, hl, valV]
end Go.Proofs.Ytafhgilikcablaa
namespace Go.Proofs.Ytafhgilikcablaa
open Go.RowKit
set_option linter.unusedVariables false
set_option linter.unusedSimpArgs false
set_option maxRecDepth 100000

set_option maxHeartbeats 800000 in
theorem shape_const (w : World) : Calls Try.prog 152 #[.string ⟨#[99, 111, 110, 115, 116]⟩] w fun e w' => e = .returned (.int .i64 0) ∧ w' = w := by
  go_enter Try.func152, Try.ntmps152
  go_wp2
  go_ret
  exact ⟨rfl, rfl⟩

set_option maxHeartbeats 800000 in
theorem shape_col (w : World) : Calls Try.prog 152 #[.string ⟨#[99, 111, 108]⟩] w fun e w' => e = .returned (.int .i64 0) ∧ w' = w := by
  go_enter Try.func152, Try.ntmps152
  go_wp2
  go_ret
  exact ⟨rfl, rfl⟩

set_option maxHeartbeats 800000 in
theorem shape_neg (w : World) : Calls Try.prog 152 #[.string ⟨#[110, 101, 103]⟩] w fun e w' => e = .returned (.int .i64 1) ∧ w' = w := by
  go_enter Try.func152, Try.ntmps152
  go_wp2
  go_ret
  exact ⟨rfl, rfl⟩

set_option maxHeartbeats 800000 in
theorem shape_null (w : World) : Calls Try.prog 152 #[.string ⟨#[110, 117, 108, 108]⟩] w fun e w' => e = .returned (.int .i64 1) ∧ w' = w := by
  go_enter Try.func152, Try.ntmps152
  go_wp2
  go_ret
  exact ⟨rfl, rfl⟩

set_option maxHeartbeats 800000 in
theorem shape_some (w : World) : Calls Try.prog 152 #[.string ⟨#[115, 111, 109, 101]⟩] w fun e w' => e = .returned (.int .i64 1) ∧ w' = w := by
  go_enter Try.func152, Try.ntmps152
  go_wp2
  go_ret
  exact ⟨rfl, rfl⟩

set_option maxHeartbeats 800000 in
theorem shape_not (w : World) : Calls Try.prog 152 #[.string ⟨#[110, 111, 116]⟩] w fun e w' => e = .returned (.int .i64 1) ∧ w' = w := by
  go_enter Try.func152, Try.ntmps152
  go_wp2
  go_ret
  exact ⟨rfl, rfl⟩

set_option maxHeartbeats 800000 in
theorem shape_copy (w : World) : Calls Try.prog 152 #[.string ⟨#[99, 111, 112, 121]⟩] w fun e w' => e = .returned (.int .i64 1) ∧ w' = w := by
  go_enter Try.func152, Try.ntmps152
  go_wp2
  go_ret
  exact ⟨rfl, rfl⟩

set_option maxHeartbeats 800000 in
theorem shape_add (w : World) : Calls Try.prog 152 #[.string ⟨#[43]⟩] w fun e w' => e = .returned (.int .i64 2) ∧ w' = w := by
  go_enter Try.func152, Try.ntmps152
  go_wp2
  go_ret
  exact ⟨rfl, rfl⟩

set_option maxHeartbeats 800000 in
theorem shape_sub (w : World) : Calls Try.prog 152 #[.string ⟨#[45]⟩] w fun e w' => e = .returned (.int .i64 2) ∧ w' = w := by
  go_enter Try.func152, Try.ntmps152
  go_wp2
  go_ret
  exact ⟨rfl, rfl⟩

set_option maxHeartbeats 800000 in
theorem shape_mul (w : World) : Calls Try.prog 152 #[.string ⟨#[42]⟩] w fun e w' => e = .returned (.int .i64 2) ∧ w' = w := by
  go_enter Try.func152, Try.ntmps152
  go_wp2
  go_ret
  exact ⟨rfl, rfl⟩

set_option maxHeartbeats 800000 in
theorem shape_eq (w : World) : Calls Try.prog 152 #[.string ⟨#[61]⟩] w fun e w' => e = .returned (.int .i64 2) ∧ w' = w := by
  go_enter Try.func152, Try.ntmps152
  go_wp2
  go_ret
  exact ⟨rfl, rfl⟩

set_option maxHeartbeats 800000 in
theorem shape_ne (w : World) : Calls Try.prog 152 #[.string ⟨#[60, 62]⟩] w fun e w' => e = .returned (.int .i64 2) ∧ w' = w := by
  go_enter Try.func152, Try.ntmps152
  go_wp2
  go_ret
  exact ⟨rfl, rfl⟩

set_option maxHeartbeats 800000 in
theorem shape_lt (w : World) : Calls Try.prog 152 #[.string ⟨#[60]⟩] w fun e w' => e = .returned (.int .i64 2) ∧ w' = w := by
  go_enter Try.func152, Try.ntmps152
  go_wp2
  go_ret
  exact ⟨rfl, rfl⟩

set_option maxHeartbeats 800000 in
theorem shape_le (w : World) : Calls Try.prog 152 #[.string ⟨#[60, 61]⟩] w fun e w' => e = .returned (.int .i64 2) ∧ w' = w := by
  go_enter Try.func152, Try.ntmps152
  go_wp2
  go_ret
  exact ⟨rfl, rfl⟩

set_option maxHeartbeats 800000 in
theorem shape_gt (w : World) : Calls Try.prog 152 #[.string ⟨#[62]⟩] w fun e w' => e = .returned (.int .i64 2) ∧ w' = w := by
  go_enter Try.func152, Try.ntmps152
  go_wp2
  go_ret
  exact ⟨rfl, rfl⟩

set_option maxHeartbeats 800000 in
theorem shape_ge (w : World) : Calls Try.prog 152 #[.string ⟨#[62, 61]⟩] w fun e w' => e = .returned (.int .i64 2) ∧ w' = w := by
  go_enter Try.func152, Try.ntmps152
  go_wp2
  go_ret
  exact ⟨rfl, rfl⟩

set_option maxHeartbeats 800000 in
theorem shape_and (w : World) : Calls Try.prog 152 #[.string ⟨#[97, 110, 100]⟩] w fun e w' => e = .returned (.int .i64 2) ∧ w' = w := by
  go_enter Try.func152, Try.ntmps152
  go_wp2
  go_ret
  exact ⟨rfl, rfl⟩

set_option maxHeartbeats 800000 in
theorem shape_or (w : World) : Calls Try.prog 152 #[.string ⟨#[111, 114]⟩] w fun e w' => e = .returned (.int .i64 2) ∧ w' = w := by
  go_enter Try.func152, Try.ntmps152
  go_wp2
  go_ret
  exact ⟨rfl, rfl⟩

set_option maxHeartbeats 800000 in
theorem shape_false (w : World) : Calls Try.prog 152 #[.string ⟨#[102, 97, 108, 115, 101]⟩] w fun e w' => e = .returned (.int .i64 (-1)) ∧ w' = w := by
  go_enter Try.func152, Try.ntmps152
  go_wp2
  go_ret
  exact ⟨rfl, rfl⟩

set_option maxHeartbeats 800000 in
theorem shape_true (w : World) : Calls Try.prog 152 #[.string ⟨#[116, 114, 117, 101]⟩] w fun e w' => e = .returned (.int .i64 (-1)) ∧ w' = w := by
  go_enter Try.func152, Try.ntmps152
  go_wp2
  go_ret
  exact ⟨rfl, rfl⟩

set_option maxHeartbeats 1600000 in
theorem shape_other (op : ByteArray) (h0 : (op.toList == [99, 111, 110, 115, 116]) = false) (h1 : (op.toList == [99, 111, 108]) = false) (h2 : (op.toList == [110, 101, 103]) = false) (h3 : (op.toList == [110, 117, 108, 108]) = false) (h4 : (op.toList == [115, 111, 109, 101]) = false) (h5 : (op.toList == [110, 111, 116]) = false) (h6 : (op.toList == [99, 111, 112, 121]) = false) (h7 : (op.toList == [43]) = false) (h8 : (op.toList == [45]) = false) (h9 : (op.toList == [42]) = false) (h10 : (op.toList == [61]) = false) (h11 : (op.toList == [60, 62]) = false) (h12 : (op.toList == [60]) = false) (h13 : (op.toList == [60, 61]) = false) (h14 : (op.toList == [62]) = false) (h15 : (op.toList == [62, 61]) = false) (h16 : (op.toList == [97, 110, 100]) = false) (h17 : (op.toList == [111, 114]) = false) (h18 : (op.toList == [102, 97, 108, 115, 101]) = false) (h19 : (op.toList == [116, 114, 117, 101]) = false) (w : World) : Calls Try.prog 152 #[.string op] w fun e w' => e = .returned (.int .i64 (-1)) ∧ w' = w := by
  go_enter Try.func152, Try.ntmps152
  go_wp2
  go_ret
  exact ⟨rfl, rfl⟩

/-- how many more registers a class takes -/
def shapeN : Nat → Int
  | 0 => 0
  | 1 => 0
  | 2 => 1
  | 3 => 2
  | _ => -1
theorem codeShape_any (op : ByteArray) (w : World) : Calls Try.prog 152 #[.string op] w fun e w' => e = .returned (.int .i64 (shapeN (opClass op))) ∧ w' = w := by
  rcases op_cases op with rfl | rfl | rfl | rfl | rfl | rfl | rfl | rfl | rfl | rfl | rfl | rfl | rfl | rfl | rfl | rfl | rfl | rfl | rfl | rfl | ⟨h0, h1, h2, h3, h4, h5, h6, h7, h8, h9, h10, h11, h12, h13, h14, h15, h16, h17, h18, h19⟩
  · rw [class_const]; exact shape_const w
  · rw [class_col]; exact shape_col w
  · rw [class_neg]; exact shape_neg w
  · rw [class_null]; exact shape_null w
  · rw [class_some]; exact shape_some w
  · rw [class_not]; exact shape_not w
  · rw [class_copy]; exact shape_copy w
  · rw [class_add]; exact shape_add w
  · rw [class_sub]; exact shape_sub w
  · rw [class_mul]; exact shape_mul w
  · rw [class_eq]; exact shape_eq w
  · rw [class_ne]; exact shape_ne w
  · rw [class_lt]; exact shape_lt w
  · rw [class_le]; exact shape_le w
  · rw [class_gt]; exact shape_gt w
  · rw [class_ge]; exact shape_ge w
  · rw [class_and]; exact shape_and w
  · rw [class_or]; exact shape_or w
  · rw [class_false]; exact shape_false w
  · rw [class_true]; exact shape_true w
  · rw [class_other op h0 h1 h2 h3 h4 h5 h6 h7 h8 h9 h10 h11 h12 h13 h14 h15 h16 h17 h18 h19]
    exact shape_other op h0 h1 h2 h3 h4 h5 h6 h7 h8 h9 h10 h11 h12 h13 h14 h15 h16 h17 h18 h19 w

/-- what the document's tests of a word say, by its class -/
theorem class_facts (op : ByteArray) :
    (opClass op = 0 ∧ (op.toList == [99, 111, 110, 115, 116]) = true ∧ (op.toList == [102, 97, 108, 115, 101]) = false ∧ (op.toList == [116, 114, 117, 101]) = false ∧ (op.toList == [99, 111, 108]) = false) ∨
    (opClass op = 1 ∧ (op.toList == [99, 111, 110, 115, 116]) = false ∧ (op.toList == [102, 97, 108, 115, 101]) = false ∧ (op.toList == [116, 114, 117, 101]) = false ∧ (op.toList == [99, 111, 108]) = true) ∨
    ((opClass op = 2 ∨ opClass op = 3 ∨ opClass op = 5) ∧ (op.toList == [99, 111, 110, 115, 116]) = false ∧ (op.toList == [102, 97, 108, 115, 101]) = false ∧ (op.toList == [116, 114, 117, 101]) = false ∧ (op.toList == [99, 111, 108]) = false) ∨
    (opClass op = 4 ∧ (op.toList == [99, 111, 110, 115, 116]) = false ∧ (op.toList == [102, 97, 108, 115, 101]) = true) ∨
    (opClass op = 4 ∧ (op.toList == [99, 111, 110, 115, 116]) = false ∧ (op.toList == [102, 97, 108, 115, 101]) = false ∧ (op.toList == [116, 114, 117, 101]) = true) := by
  rcases op_cases op with rfl | rfl | rfl | rfl | rfl | rfl | rfl | rfl | rfl | rfl | rfl | rfl | rfl | rfl | rfl | rfl | rfl | rfl | rfl | rfl | ⟨h0, h1, h2, h3, h4, h5, h6, h7, h8, h9, h10, h11, h12, h13, h14, h15, h16, h17, h18, h19⟩
  · simp only [ByteArray.toList_eq]; exact .inl ⟨class_const, rfl, rfl, rfl, rfl⟩
  · simp only [ByteArray.toList_eq]; exact .inr (.inl ⟨class_col, rfl, rfl, rfl, rfl⟩)
  · simp only [ByteArray.toList_eq]; exact .inr (.inr (.inl ⟨.inl class_neg, rfl, rfl, rfl, rfl⟩))
  · simp only [ByteArray.toList_eq]; exact .inr (.inr (.inl ⟨.inl class_null, rfl, rfl, rfl, rfl⟩))
  · simp only [ByteArray.toList_eq]; exact .inr (.inr (.inl ⟨.inl class_some, rfl, rfl, rfl, rfl⟩))
  · simp only [ByteArray.toList_eq]; exact .inr (.inr (.inl ⟨.inl class_not, rfl, rfl, rfl, rfl⟩))
  · simp only [ByteArray.toList_eq]; exact .inr (.inr (.inl ⟨.inl class_copy, rfl, rfl, rfl, rfl⟩))
  · simp only [ByteArray.toList_eq]; exact .inr (.inr (.inl ⟨.inr (.inl class_add), rfl, rfl, rfl, rfl⟩))
  · simp only [ByteArray.toList_eq]; exact .inr (.inr (.inl ⟨.inr (.inl class_sub), rfl, rfl, rfl, rfl⟩))
  · simp only [ByteArray.toList_eq]; exact .inr (.inr (.inl ⟨.inr (.inl class_mul), rfl, rfl, rfl, rfl⟩))
  · simp only [ByteArray.toList_eq]; exact .inr (.inr (.inl ⟨.inr (.inl class_eq), rfl, rfl, rfl, rfl⟩))
  · simp only [ByteArray.toList_eq]; exact .inr (.inr (.inl ⟨.inr (.inl class_ne), rfl, rfl, rfl, rfl⟩))
  · simp only [ByteArray.toList_eq]; exact .inr (.inr (.inl ⟨.inr (.inl class_lt), rfl, rfl, rfl, rfl⟩))
  · simp only [ByteArray.toList_eq]; exact .inr (.inr (.inl ⟨.inr (.inl class_le), rfl, rfl, rfl, rfl⟩))
  · simp only [ByteArray.toList_eq]; exact .inr (.inr (.inl ⟨.inr (.inl class_gt), rfl, rfl, rfl, rfl⟩))
  · simp only [ByteArray.toList_eq]; exact .inr (.inr (.inl ⟨.inr (.inl class_ge), rfl, rfl, rfl, rfl⟩))
  · simp only [ByteArray.toList_eq]; exact .inr (.inr (.inl ⟨.inr (.inl class_and), rfl, rfl, rfl, rfl⟩))
  · simp only [ByteArray.toList_eq]; exact .inr (.inr (.inl ⟨.inr (.inl class_or), rfl, rfl, rfl, rfl⟩))
  · simp only [ByteArray.toList_eq]; exact .inr (.inr (.inr (.inl ⟨class_false, rfl, rfl⟩)))
  · simp only [ByteArray.toList_eq]; exact .inr (.inr (.inr (.inr ⟨class_true, rfl, rfl, rfl⟩)))
  · exact .inr (.inr (.inl ⟨.inr (.inr (class_other op h0 h1 h2 h3 h4 h5 h6 h7 h8 h9 h10 h11 h12 h13 h14 h15 h16 h17 h18 h19)), h0, h18, h19, h1⟩))
end Go.Proofs.Ytafhgilikcablaa
