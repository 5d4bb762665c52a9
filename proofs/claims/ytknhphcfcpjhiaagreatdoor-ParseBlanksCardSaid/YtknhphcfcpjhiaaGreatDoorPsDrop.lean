/- The package's reader of statements: drop. Written by genpq.py. -/
import Derived.Test.YtknhphcfcpjhiaaGreatDoorEtTh
import Derived.Deep.MidRow
import Derived.Deep.WholeRow
import Derived.Great.Walk
import Derived.Great.BuildSlice
import Derived.Test.YtknhphcfcpjhiaaGreatDoorPsQ
namespace Go.Proofs.YtknhphcfcpjhiaaGreatDoor
open Go.RowKit Go.Great
set_option linter.unusedVariables false
set_option linter.unusedSimpArgs false
theorem setCells_setLe (B : Nat) : ∀ (vs : List Value) (k : Nat) (w : World), w.setCells B k vs = setLe w B k vs
  | [], _, _ => rfl
  | v :: vs, k, w => setCells_setLe B vs (k + 1) _
theorem there_row {w : World} {g : Nat} {cur : Array Value} {T : TypeId} (h : w.heap[g]? = some (.cells cur T (0, 0))) : w.there g 0 cur.size := fun j hj => by
  rw [Nat.zero_add]
  exact ⟨by rw [cell_of_row w g j cur T (0, 0) h]; simp [hj], frozen_of_row _ _ j _ _ h⟩
section
variable {P : Program} {ops : Array Oper} {Q : Exit → Act → World → Prop}
/-- a struct's value into a box -/
theorem wpl_store {rest : List Oper} {o : Oper} {a : Act} {w : World} (hgd : o.guard = none) (ty : TypeId) (x y : Operand) (ho : o.op = .store ty x y) (d : Option Tmp) (hd : o.dst = d)
    (g : Nat) (cs : List Value) (hx : a.eval x = .pointer (some ⟨g, 0, none⟩)) (hy : a.eval y = .agg cs.toArray) (old : Array Value) (T : TypeId) (hw : w.heap[g]? = some (.cells old T (0, 0)))
    (hi : (P.info? ty).map (·.size) = some cs.length) (hold : old.size = cs.length) (h1 : cs.all (·.oneCell') = true)
    (h : wpList P ops Q rest (a.put d undef) (setLe w g 0 cs)) : wpList P ops Q (o :: rest) a w := by
  subst hd
  refine wpList_store_mid hgd ty x y ho g 0 cs.toArray hx hy ?_ ?_ ?_ ?_
  · have := there_row hw
    rw [hold] at this
    simpa using this
  · simpa using hi
  · rw [← h1]; simp
  · rw [setCells_setLe]
    simpa using h
/-- a struct's literal into a box: build, store -/
theorem wpl_lit {rest : List Oper} {o1 o2 : Oper} {a : Act} {w : World} (hg1 : o1.guard = none) (t : TypeId) (parts : Array (Nat × Operand)) (ho1 : o1.op = .build t parts) (d : Option Tmp) (hd : o1.dst = d) (cs : List Value)
    (hf : P.built t (parts.map fun (i, x) => (i, a.eval x)).toList = some cs.toArray)
    (hg2 : o2.guard = none) (ty : TypeId) (x y : Operand) (ho2 : o2.op = .store ty x y) (d2 : Option Tmp) (hd2 : o2.dst = d2) (g : Nat) (hx : (a.put d (.agg cs.toArray)).eval x = .pointer (some ⟨g, 0, none⟩)) (hy : (a.put d (.agg cs.toArray)).eval y = .agg cs.toArray)
    (old : Array Value) (T : TypeId) (hw : w.heap[g]? = some (.cells old T (0, 0))) (hi : (P.info? ty).map (·.size) = some cs.length) (hold : old.size = cs.length) (h1 : cs.all (·.oneCell') = true)
    (h : wpList P ops Q rest ((a.put d (.agg cs.toArray)).put d2 undef) (setLe w g 0 cs)) : wpList P ops Q (o1 :: o2 :: rest) a w :=
  wpList_buildTo hg1 t parts ho1 d hd cs.toArray hf (wpl_store hg2 ty x y ho2 d2 hd2 g cs hx hy old T hw hi hold h1 h)
theorem run_alloc_z {w : World} {ρ : Operand → Value} {o : Oper} (t : TypeId) (ho : o.op = .alloc t) (zs : Array Value) (hz : (P.info? t).bind (·.zero) = some (.agg zs)) :
    (execOp ρ o).run P w = .ok (.value (.pointer (some ⟨w.heap.size, 0, none⟩))) (w.alloc (.cells zs t (0, 0))) := by
  cases hq : P.info? t with
  | none => rw [hq] at hz; cases hz
  | some i =>
    rw [hq] at hz
    have hz' : i.zero = some (.agg zs) := hz
    unfold execOp
    simp [ho, Instr.alloc, zeroValue, typeInfo, hq, hz', newVar, newRow, Value.cells]
/-- a struct's literal in a box of its own: build, alloc, store -/
theorem wpl_box {rest : List Oper} {o1 o2 o3 : Oper} {a : Act} {w : World} (hg1 : o1.guard = none) (t : TypeId) (parts : Array (Nat × Operand)) (ho1 : o1.op = .build t parts) (d : Option Tmp) (hd : o1.dst = d) (cs : List Value)
    (hf : P.built t (parts.map fun (i, x) => (i, a.eval x)).toList = some cs.toArray)
    (hg2 : o2.guard = none) (ty2 : TypeId) (ho2 : o2.op = .alloc ty2) (d2 : Option Tmp) (hd2 : o2.dst = d2) (zs : Array Value) (hz : (P.info? ty2).bind (·.zero) = some (.agg zs))
    (hg3 : o3.guard = none) (ty : TypeId) (x y : Operand) (ho3 : o3.op = .store ty x y) (d3 : Option Tmp) (hd3 : o3.dst = d3)
    (hx : ((a.put d (.agg cs.toArray)).put d2 (.pointer (some ⟨w.heap.size, 0, none⟩))).eval x = .pointer (some ⟨w.heap.size, 0, none⟩)) (hy : ((a.put d (.agg cs.toArray)).put d2 (.pointer (some ⟨w.heap.size, 0, none⟩))).eval y = .agg cs.toArray)
    (hi : (P.info? ty).map (·.size) = some cs.length) (hold : zs.size = cs.length) (h1 : cs.all (·.oneCell') = true)
    (h : wpList P ops Q rest (((a.put d (.agg cs.toArray)).put d2 (.pointer (some ⟨w.heap.size, 0, none⟩))).put d3 undef) (w.alloc (.cells cs.toArray ty2 (0, 0)))) : wpList P ops Q (o1 :: o2 :: o3 :: rest) a w := by
  subst hd3
  refine wpList_buildTo hg1 t parts ho1 d hd cs.toArray hf (wpList_allocTo hg2 d2 hd2 _ _ (run_alloc_z ty2 ho2 zs hz) ?_)
  refine wpList_store_row hg3 ty x y ho3 w.heap.size cs.toArray hx hy ty2 zs (Go.heap_alloc_new w _) (by simpa using hi) (by simpa using hold) (by rw [← h1]; simp) ?_
  rw [World.setRow_alloc_new]
  exact h
/-- a struct's value in a box of its own: alloc, store -/
theorem wpl_keep {rest : List Oper} {o2 o3 : Oper} {a : Act} {w : World} (hg2 : o2.guard = none) (ty2 : TypeId) (ho2 : o2.op = .alloc ty2) (d2 : Option Tmp) (hd2 : o2.dst = d2) (zs : Array Value) (hz : (P.info? ty2).bind (·.zero) = some (.agg zs))
    (hg3 : o3.guard = none) (ty : TypeId) (x y : Operand) (ho3 : o3.op = .store ty x y) (d3 : Option Tmp) (hd3 : o3.dst = d3) (cs : List Value)
    (hx : (a.put d2 (.pointer (some ⟨w.heap.size, 0, none⟩))).eval x = .pointer (some ⟨w.heap.size, 0, none⟩)) (hy : (a.put d2 (.pointer (some ⟨w.heap.size, 0, none⟩))).eval y = .agg cs.toArray)
    (hi : (P.info? ty).map (·.size) = some cs.length) (hold : zs.size = cs.length) (h1 : cs.all (·.oneCell') = true)
    (h : wpList P ops Q rest ((a.put d2 (.pointer (some ⟨w.heap.size, 0, none⟩))).put d3 undef) (w.alloc (.cells cs.toArray ty2 (0, 0)))) : wpList P ops Q (o2 :: o3 :: rest) a w := by
  subst hd3
  refine wpList_allocTo hg2 d2 hd2 _ _ (run_alloc_z ty2 ho2 zs hz) ?_
  refine wpList_store_row hg3 ty x y ho3 w.heap.size cs.toArray hx hy ty2 zs (Go.heap_alloc_new w _) (by simpa using hi) (by simpa using hold) (by rw [← h1]; simp) ?_
  rw [World.setRow_alloc_new]
  exact h
/-- a box's struct into another box: load, store -/
theorem wpl_copy {rest : List Oper} {o1 o2 : Oper} {a : Act} {w : World} (hg1 : o1.guard = none) (t : TypeId) (x0 : Operand) (ho1 : o1.op = .load t x0) (d : Option Tmp) (hd : o1.dst = d) (g0 : Nat) (hx0 : a.eval x0 = .pointer (some ⟨g0, 0, none⟩)) (cs : List Value) (T0 : TypeId) (hw0 : w.heap[g0]? = some (.cells cs.toArray T0 (0, 0)))
    (ds : TypeDesc) (hu : P.underlying t = some ds) (hr : (match ds with | .struct _ | .array _ _ => true | _ => false) = true) (hi0 : (P.info? t).map (·.size) = some cs.length)
    (hg2 : o2.guard = none) (ty : TypeId) (x y : Operand) (ho2 : o2.op = .store ty x y) (d2 : Option Tmp) (hd2 : o2.dst = d2) (g : Nat) (hx : (a.put d (.agg cs.toArray)).eval x = .pointer (some ⟨g, 0, none⟩)) (hy : (a.put d (.agg cs.toArray)).eval y = .agg cs.toArray)
    (old : Array Value) (T : TypeId) (hw : w.heap[g]? = some (.cells old T (0, 0))) (hi : (P.info? ty).map (·.size) = some cs.length) (hold : old.size = cs.length) (h1 : cs.all (·.oneCell') = true)
    (h : wpList P ops Q rest ((a.put d (.agg cs.toArray)).put d2 undef) (setLe w g 0 cs)) : wpList P ops Q (o1 :: o2 :: rest) a w := by
  subst hd
  exact wpList_load_row hg1 t x0 ho1 g0 hx0 T0 cs.toArray (0, 0) ds hw0 hu hr (by simpa using hi0) (wpl_store hg2 ty x y ho2 d2 hd2 g cs hx hy old T hw hi hold h1 h)
end
end Go.Proofs.YtknhphcfcpjhiaaGreatDoor
namespace Go.Proofs.YtknhphcfcpjhiaaGreatDoor
open Go.RowKit
set_option linter.unusedVariables false
set_option linter.unusedSimpArgs false
set_option maxRecDepth 100000
theorem results_sm {fn : Func} {p : Tmp} (h : fn.results = #[.cell p 45]) (tmps : Array Value) (w : World) (g : Nat) (x0 x1 x2 x3 x4 x5 x6 x7 x8 x9 x10 x11 x12 x13 x14 x15 x16 : Value)
    (hp : tmps.getD p undef = .pointer (some ⟨g, 0, none⟩)) (hg : w.heap[g]? = some (.cells #[x0, x1, x2, x3, x4, x5, x6, x7, x8, x9, x10, x11, x12, x13, x14, x15, x16] 45 (0, 0))) :
    (results fn tmps).run Tryz.prog w = .ok (.agg #[x0, x1, x2, x3, x4, x5, x6, x7, x8, x9, x10, x11, x12, x13, x14, x15, x16]) w := by
  have hp' : tmps[p]?.getD undef = .pointer (some ⟨g, 0, none⟩) := by simpa using hp
  have hl := run_loadVar_row (P := Tryz.prog) w g 45 45 #[x0, x1, x2, x3, x4, x5, x6, x7, x8, x9, x10, x11, x12, x13, x14, x15, x16] (0, 0) _ hg Tryz.underlying45 rfl (by
    have : (Tryz.prog.info? 45).map (·.size) = some 17 := by kernel_rfl
    exact this)
  simp [results, h, hp', asAddr, hl]
theorem rowc_sm {w : World} {N : Nat} {x0 x1 x2 x3 x4 x5 x6 x7 x8 x9 x10 x11 x12 x13 x14 x15 x16 : Value} {T : TypeId} (h : w.heap[N]? = some (.cells #[x0, x1, x2, x3, x4, x5, x6, x7, x8, x9, x10, x11, x12, x13, x14, x15, x16] T (0, 0))) :
    w.cell? ⟨N, 0, none⟩ = some x0 ∧ w.cell? ⟨N, 1, none⟩ = some x1 ∧ w.cell? ⟨N, 2, none⟩ = some x2 ∧ w.cell? ⟨N, 3, none⟩ = some x3 ∧ w.cell? ⟨N, 4, none⟩ = some x4 ∧ w.cell? ⟨N, 5, none⟩ = some x5 ∧ w.cell? ⟨N, 6, none⟩ = some x6 ∧ w.cell? ⟨N, 7, none⟩ = some x7 ∧ w.cell? ⟨N, 8, none⟩ = some x8 ∧ w.cell? ⟨N, 9, none⟩ = some x9 ∧ w.cell? ⟨N, 10, none⟩ = some x10 ∧ w.cell? ⟨N, 11, none⟩ = some x11 ∧ w.cell? ⟨N, 12, none⟩ = some x12 ∧ w.cell? ⟨N, 13, none⟩ = some x13 ∧ w.cell? ⟨N, 14, none⟩ = some x14 ∧ w.cell? ⟨N, 15, none⟩ = some x15 ∧ w.cell? ⟨N, 16, none⟩ = some x16 ∧ (∀ j, w.frozen? ⟨N, j, none⟩ = false) ∧ N < w.heap.size :=
  ⟨cell_of_row _ _ 0 _ _ _ h, cell_of_row _ _ 1 _ _ _ h, cell_of_row _ _ 2 _ _ _ h, cell_of_row _ _ 3 _ _ _ h, cell_of_row _ _ 4 _ _ _ h, cell_of_row _ _ 5 _ _ _ h, cell_of_row _ _ 6 _ _ _ h, cell_of_row _ _ 7 _ _ _ h, cell_of_row _ _ 8 _ _ _ h, cell_of_row _ _ 9 _ _ _ h, cell_of_row _ _ 10 _ _ _ h, cell_of_row _ _ 11 _ _ _ h, cell_of_row _ _ 12 _ _ _ h, cell_of_row _ _ 13 _ _ _ h, cell_of_row _ _ 14 _ _ _ h, cell_of_row _ _ 15 _ _ _ h, cell_of_row _ _ 16 _ _ _ h, fun j => frozen_of_row _ _ j _ _ h, (Array.getElem?_eq_some_iff.1 h).1⟩
theorem wbox_sm {w : World} {N : Nat} {x0 x1 x2 x3 x4 x5 x6 x7 x8 x9 x10 x11 x12 x13 x14 x15 x16 : Value} {T : TypeId} (h : w.heap[N]? = some (.cells #[x0, x1, x2, x3, x4, x5, x6, x7, x8, x9, x10, x11, x12, x13, x14, x15, x16] T (0, 0))) (a0 a1 a2 a3 a4 a5 a6 a7 a8 a9 a10 a11 a12 a13 a14 a15 a16 : Value) :
    (setLe w N 0 [a0, a1, a2, a3, a4, a5, a6, a7, a8, a9, a10, a11, a12, a13, a14, a15, a16]).heap[N]? = some (.cells #[a0, a1, a2, a3, a4, a5, a6, a7, a8, a9, a10, a11, a12, a13, a14, a15, a16] T (0, 0)) :=
  heap_setLe [a0, a1, a2, a3, a4, a5, a6, a7, a8, a9, a10, a11, a12, a13, a14, a15, a16] [] [x0, x1, x2, x3, x4, x5, x6, x7, x8, x9, x10, x11, x12, x13, x14, x15, x16] w (by simp) h
set_option maxHeartbeats 6400000 in
theorem pdrop_any (N : Nat) (w : World) (b off : Nat) (wn wc : Nat) (ws : List Wd) (s0 : PS) (h : RdS N w (some ⟨b, off, none⟩) wn wc ws s0) (hr : RCx b off wn wc ws) :
    Calls Tryz.prog 50 #[.pointer (some ⟨N, 0, none⟩)] w (PsV (AgV smS) N w (some ⟨b, off, none⟩) wn wc ws (dropR ws s0)) := by
  have HRc := Lib.hid hr
  have HN := Lib.hid h.low
  have HIt := Lib.hid (show dropR ws s0 = (if (takeR ws 1 kTABLE s0).1 = true then ({ zST with kind := 4, name := (nameR ws (takeR ws 1 kTABLE s0).2).1 }, (nameR ws (takeR ws 1 kTABLE s0).2).2) else (if (takeR ws 1 kINDEX (takeR ws 1 kTABLE s0).2).1 = true then ({ zST with kind := 5, name := (nameR ws (takeR ws 1 kINDEX (takeR ws 1 kTABLE s0).2).2).1 }, (nameR ws (takeR ws 1 kINDEX (takeR ws 1 kTABLE s0).2).2).2) else ({ zST with kind := 6, name := (nameR ws (mustK ws [kVIEW] (takeR ws 1 kINDEX (takeR ws 1 kTABLE s0).2).2)).1 }, (nameR ws (mustK ws [kVIEW] (takeR ws 1 kINDEX (takeR ws 1 kTABLE s0).2).2)).2))) from rfl)
  have HB := Lib.hid (bel0 (.cells #[.int .i64 0, .string ⟨#[]⟩, .string ⟨#[]⟩, .bool false, .slice none 0 0, .slice none 0 0, .slice none 0 0, .slice none 0 0, .slice none 0 0, .bool false, .bool false, .slice none 0 0, .slice none 0 0, .slice none 0 0, .slice none 0 0, .slice none 0 0, .int .i64 0] 45) (Below.refl w.heap.size w))
  have HX1 := Lib.hid (Go.heap_alloc_new w (.cells #[.int .i64 0, .string ⟨#[]⟩, .string ⟨#[]⟩, .bool false, .slice none 0 0, .slice none 0 0, .slice none 0 0, .slice none 0 0, .slice none 0 0, .bool false, .bool false, .slice none 0 0, .slice none 0 0, .slice none 0 0, .slice none 0 0, .slice none 0 0, .int .i64 0] 45 (0, 0)))
  have HS1 := Lib.hid (h.below HB.out)
  have HT1 := Lib.hid (RTo.of_below (N := N) HB.out (Nat.le_of_lt h.low))
  have HW1 := Lib.hid (show w.heap.size < (w.alloc (.cells #[.int .i64 0, .string ⟨#[]⟩, .string ⟨#[]⟩, .bool false, .slice none 0 0, .slice none 0 0, .slice none 0 0, .slice none 0 0, .slice none 0 0, .bool false, .bool false, .slice none 0 0, .slice none 0 0, .slice none 0 0, .slice none 0 0, .slice none 0 0, .int .i64 0] 45)).heap.size from (Array.getElem?_eq_some_iff.1 HX1.out).1)
  clear h hr
  go_enter Tryz.func50, Tryz.ntmps50
  go_upto_region 1 with (fail)
  generalize w.alloc (.cells #[.int .i64 0, .string ⟨#[]⟩, .string ⟨#[]⟩, .bool false, .slice none 0 0, .slice none 0 0, .slice none 0 0, .slice none 0 0, .slice none 0 0, .bool false, .bool false, .slice none 0 0, .slice none 0 0, .slice none 0 0, .slice none 0 0, .slice none 0 0, .int .i64 0] 45) = w1 at *
  have HL1 := Lib.hid (Nat.le_refl w1.heap.size)
  have HKw := Lib.hid (pkeyword_any kTABLE N w1 _ wn wc ws s0 HS1.out)
  obtain ⟨r, hrr⟩ : ∃ r, r = takeR ws 1 kTABLE s0 := ⟨_, rfl⟩
  rw [← hrr] at HKw HIt
  clear hrr
  obtain ⟨tb, s1⟩ := r
  dsimp only at HKw HIt
  rw [show bs kTABLE = ⟨#[84, 65, 66, 76, 69]⟩ from rfl] at HKw
  go_wp2_with fail
  refine HKw.out.mono ?_
  rintro e w2 ⟨rfl, h1, h2⟩
  have HS2 := Lib.hid h1
  have HT2 := Lib.hid (HT1.out.trans h2)
  have HX2 := Lib.hid ((h2.block _ (Array.getElem?_eq_some_iff.1 HX1.out).1 (by have := HN.out; omega)).trans HX1.out)
  have HL2 := Lib.hid (Nat.le_trans HL1.out h2.size)
  clear h1 h2
  cases tb with
  | true =>
    replace HIt := Lib.hid (show dropR ws s0 = ({ zST with kind := 4, name := (nameR ws s1).1 }, (nameR ws s1).2) from HIt.out)
    have HNs := Lib.hid (nameR_le ws s1)
    have HNm := Lib.hid (pname_any2 N w2 _ wn wc ws s1 HS2.out HRc.out.z)
    obtain ⟨q, hq⟩ : ∃ q, q = nameR ws s1 := ⟨_, rfl⟩
    rw [← hq] at HIt HNm HNs
    clear hq
    obtain ⟨nm, s2⟩ := q
    dsimp only at HIt HNm HNs
    have HNsnm := Lib.hid HNs.out
    go_wp2_with fail
    refine HNm.out.mono ?_
    rintro e w3 ⟨rfl, h1, h2⟩
    have HS3 := Lib.hid h1
    have HT3 := Lib.hid (HT2.out.trans h2)
    have HX3 := Lib.hid ((h2.block _ (Array.getElem?_eq_some_iff.1 HX2.out).1 (by have := HN.out; omega)).trans HX2.out)
    have HL3 := Lib.hid (Nat.le_trans HL2.out h2.size)
    clear h1 h2
    have HR := Lib.hid (show dropR ws s0 = ({ zST with kind := 4, name := nm }, s2) from HIt.out)
    have HFin := Lib.hid (wbox_sm HX3.out (.int .i64 4) (.string nm) (.string ⟨#[]⟩) (.bool false) (.slice none 0 0) (.slice none 0 0) (.slice none 0 0) (.slice none 0 0) (.slice none 0 0) (.bool false) (.bool false) (.slice none 0 0) (.slice none 0 0) (.slice none 0 0) (.slice none 0 0) (.slice none 0 0) (.int .i64 0))
    have HF1 := Lib.hid (HS3.out.setLe (R := w.heap.size) HN.out 0 [.int .i64 4, .string nm, .string ⟨#[]⟩, .bool false, .slice none 0 0, .slice none 0 0, .slice none 0 0, .slice none 0 0, .slice none 0 0, .bool false, .bool false, .slice none 0 0, .slice none 0 0, .slice none 0 0, .slice none 0 0, .slice none 0 0, .int .i64 0])
    have HF2 := Lib.hid (HT3.out.setLe (R := w.heap.size) (Nat.le_of_lt HN.out) (Nat.le_refl _) 0 [.int .i64 4, .string nm, .string ⟨#[]⟩, .bool false, .slice none 0 0, .slice none 0 0, .slice none 0 0, .slice none 0 0, .slice none 0 0, .bool false, .bool false, .slice none 0 0, .slice none 0 0, .slice none 0 0, .slice none 0 0, .slice none 0 0, .int .i64 0])
    rename_i K hK
    dsimp only
    refine hK _ _ ?_
    refine wpl_lit rfl _ _ rfl _ rfl [.int .i64 4, .string nm, .string ⟨#[]⟩, .bool false, .slice none 0 0, .slice none 0 0, .slice none 0 0, .slice none 0 0, .slice none 0 0, .bool false, .bool false, .slice none 0 0, .slice none 0 0, .slice none 0 0, .slice none 0 0, .slice none 0 0, .int .i64 0] (by kernel_rfl) rfl _ _ _ rfl _ rfl w.heap.size rfl rfl _ _ HX3.out (by kernel_rfl) rfl rfl ?_
    refine wpList_nil ?_
    go_wp2
    refine bodyPost_ret (results_sm rfl _ _ w.heap.size _ _ _ _ _ _ _ _ _ _ _ _ _ _ _ _ _ rfl HFin.out) rfl ?_
    rw [HR.out]
    exact ⟨⟨_, rfl, _, rfl, nm_lies _ _ 4 nm rfl HNsnm.out⟩, HF1.out, HF2.out⟩
  | false =>
    replace HIt := Lib.hid (show dropR ws s0 = (if (takeR ws 1 kINDEX s1).1 = true then ({ zST with kind := 5, name := (nameR ws (takeR ws 1 kINDEX s1).2).1 }, (nameR ws (takeR ws 1 kINDEX s1).2).2) else ({ zST with kind := 6, name := (nameR ws (mustK ws [kVIEW] (takeR ws 1 kINDEX s1).2)).1 }, (nameR ws (mustK ws [kVIEW] (takeR ws 1 kINDEX s1).2)).2)) from HIt.out)
    have HKw := Lib.hid (pkeyword_any kINDEX N w2 _ wn wc ws s1 HS2.out)
    obtain ⟨r, hrr⟩ : ∃ r, r = takeR ws 1 kINDEX s1 := ⟨_, rfl⟩
    rw [← hrr] at HKw HIt
    clear hrr
    obtain ⟨tc, s2⟩ := r
    dsimp only at HKw HIt
    rw [show bs kINDEX = ⟨#[73, 78, 68, 69, 88]⟩ from rfl] at HKw
    go_wp2_with fail
    refine HKw.out.mono ?_
    rintro e w3 ⟨rfl, h1, h2⟩
    have HS3 := Lib.hid h1
    have HT3 := Lib.hid (HT2.out.trans h2)
    have HX3 := Lib.hid ((h2.block _ (Array.getElem?_eq_some_iff.1 HX2.out).1 (by have := HN.out; omega)).trans HX2.out)
    have HL3 := Lib.hid (Nat.le_trans HL2.out h2.size)
    clear h1 h2
    cases tc with
    | true =>
      replace HIt := Lib.hid (show dropR ws s0 = ({ zST with kind := 5, name := (nameR ws s2).1 }, (nameR ws s2).2) from HIt.out)
      have HNs := Lib.hid (nameR_le ws s2)
      have HNm := Lib.hid (pname_any2 N w3 _ wn wc ws s2 HS3.out HRc.out.z)
      obtain ⟨q, hq⟩ : ∃ q, q = nameR ws s2 := ⟨_, rfl⟩
      rw [← hq] at HIt HNm HNs
      clear hq
      obtain ⟨nm, s3⟩ := q
      dsimp only at HIt HNm HNs
      have HNsnm := Lib.hid HNs.out
      go_wp2_with fail
      refine HNm.out.mono ?_
      rintro e w4 ⟨rfl, h1, h2⟩
      have HS4 := Lib.hid h1
      have HT4 := Lib.hid (HT3.out.trans h2)
      have HX4 := Lib.hid ((h2.block _ (Array.getElem?_eq_some_iff.1 HX3.out).1 (by have := HN.out; omega)).trans HX3.out)
      have HL4 := Lib.hid (Nat.le_trans HL3.out h2.size)
      clear h1 h2
      have HR := Lib.hid (show dropR ws s0 = ({ zST with kind := 5, name := nm }, s3) from HIt.out)
      have HFin := Lib.hid (wbox_sm HX4.out (.int .i64 5) (.string nm) (.string ⟨#[]⟩) (.bool false) (.slice none 0 0) (.slice none 0 0) (.slice none 0 0) (.slice none 0 0) (.slice none 0 0) (.bool false) (.bool false) (.slice none 0 0) (.slice none 0 0) (.slice none 0 0) (.slice none 0 0) (.slice none 0 0) (.int .i64 0))
      have HF1 := Lib.hid (HS4.out.setLe (R := w.heap.size) HN.out 0 [.int .i64 5, .string nm, .string ⟨#[]⟩, .bool false, .slice none 0 0, .slice none 0 0, .slice none 0 0, .slice none 0 0, .slice none 0 0, .bool false, .bool false, .slice none 0 0, .slice none 0 0, .slice none 0 0, .slice none 0 0, .slice none 0 0, .int .i64 0])
      have HF2 := Lib.hid (HT4.out.setLe (R := w.heap.size) (Nat.le_of_lt HN.out) (Nat.le_refl _) 0 [.int .i64 5, .string nm, .string ⟨#[]⟩, .bool false, .slice none 0 0, .slice none 0 0, .slice none 0 0, .slice none 0 0, .slice none 0 0, .bool false, .bool false, .slice none 0 0, .slice none 0 0, .slice none 0 0, .slice none 0 0, .slice none 0 0, .int .i64 0])
      rename_i K hK
      dsimp only
      refine hK _ _ ?_
      refine wpl_lit rfl _ _ rfl _ rfl [.int .i64 5, .string nm, .string ⟨#[]⟩, .bool false, .slice none 0 0, .slice none 0 0, .slice none 0 0, .slice none 0 0, .slice none 0 0, .bool false, .bool false, .slice none 0 0, .slice none 0 0, .slice none 0 0, .slice none 0 0, .slice none 0 0, .int .i64 0] (by kernel_rfl) rfl _ _ _ rfl _ rfl w.heap.size rfl rfl _ _ HX4.out (by kernel_rfl) rfl rfl ?_
      refine wpList_nil ?_
      go_wp2
      refine bodyPost_ret (results_sm rfl _ _ w.heap.size _ _ _ _ _ _ _ _ _ _ _ _ _ _ _ _ _ rfl HFin.out) rfl ?_
      rw [HR.out]
      exact ⟨⟨_, rfl, _, rfl, nm_lies _ _ 5 nm rfl HNsnm.out⟩, HF1.out, HF2.out⟩
    | false =>
      replace HIt := Lib.hid (show dropR ws s0 = ({ zST with kind := 6, name := (nameR ws (mustK ws [kVIEW] s2)).1 }, (nameR ws (mustK ws [kVIEW] s2)).2) from HIt.out)
      have HBk := Lib.hid (bel0 (.cells #[.string ⟨#[86, 73, 69, 87]⟩] 9) (Below.refl w3.heap.size w3))
      have HKx := Lib.hid (Go.heap_alloc_new w3 (.cells #[.string ⟨#[86, 73, 69, 87]⟩] 9 (0, 0)))
      have HMu := Lib.hid (must_any [kVIEW] (by decide) N (w3.alloc (.cells #[.string ⟨#[86, 73, 69, 87]⟩] 9)) _ wn wc ws s2 (HS3.out.below HBk.out) (some ⟨w3.heap.size, 0, none⟩) 1 ⟨w3.heap.size, 0, rfl, by have := HS3.out.low; omega, (Array.getElem?_eq_some_iff.1 HKx.out).1, fun q hq => by
        have h0 : q = 0 := by simpa using hq
        subst h0
        exact cell_of_row _ _ 0 _ _ _ HKx.out⟩)
      obtain ⟨s3, hsm⟩ : ∃ q, q = mustK ws [kVIEW] s2 := ⟨_, rfl⟩
      rw [← hsm] at HMu HIt
      clear hsm
      have h2k := RTo.of_below (N := N) HBk.out (Nat.le_of_lt HS3.out.low)
      go_wp2_with fail
      refine HMu.out.mono ?_
      rintro e w4 ⟨rfl, h1, h2x⟩
      have h2 := h2k.trans h2x
      have HS4 := Lib.hid h1
      have HT4 := Lib.hid (HT3.out.trans h2)
      have HX4 := Lib.hid ((h2.block _ (Array.getElem?_eq_some_iff.1 HX3.out).1 (by have := HN.out; omega)).trans HX3.out)
      have HL4 := Lib.hid (Nat.le_trans HL3.out h2.size)
      clear h1 h2 h2k h2x
      replace HIt := Lib.hid (show dropR ws s0 = ({ zST with kind := 6, name := (nameR ws s3).1 }, (nameR ws s3).2) from HIt.out)
      have HNs := Lib.hid (nameR_le ws s3)
      have HNm := Lib.hid (pname_any2 N w4 _ wn wc ws s3 HS4.out HRc.out.z)
      obtain ⟨q, hq⟩ : ∃ q, q = nameR ws s3 := ⟨_, rfl⟩
      rw [← hq] at HIt HNm HNs
      clear hq
      obtain ⟨nm, s4⟩ := q
      dsimp only at HIt HNm HNs
      have HNsnm := Lib.hid HNs.out
      go_wp2_with fail
      refine HNm.out.mono ?_
      rintro e w5 ⟨rfl, h1, h2⟩
      have HS5 := Lib.hid h1
      have HT5 := Lib.hid (HT4.out.trans h2)
      have HX5 := Lib.hid ((h2.block _ (Array.getElem?_eq_some_iff.1 HX4.out).1 (by have := HN.out; omega)).trans HX4.out)
      have HL5 := Lib.hid (Nat.le_trans HL4.out h2.size)
      clear h1 h2
      have HR := Lib.hid (show dropR ws s0 = ({ zST with kind := 6, name := nm }, s4) from HIt.out)
      have HFin := Lib.hid (wbox_sm HX5.out (.int .i64 6) (.string nm) (.string ⟨#[]⟩) (.bool false) (.slice none 0 0) (.slice none 0 0) (.slice none 0 0) (.slice none 0 0) (.slice none 0 0) (.bool false) (.bool false) (.slice none 0 0) (.slice none 0 0) (.slice none 0 0) (.slice none 0 0) (.slice none 0 0) (.int .i64 0))
      have HF1 := Lib.hid (HS5.out.setLe (R := w.heap.size) HN.out 0 [.int .i64 6, .string nm, .string ⟨#[]⟩, .bool false, .slice none 0 0, .slice none 0 0, .slice none 0 0, .slice none 0 0, .slice none 0 0, .bool false, .bool false, .slice none 0 0, .slice none 0 0, .slice none 0 0, .slice none 0 0, .slice none 0 0, .int .i64 0])
      have HF2 := Lib.hid (HT5.out.setLe (R := w.heap.size) (Nat.le_of_lt HN.out) (Nat.le_refl _) 0 [.int .i64 6, .string nm, .string ⟨#[]⟩, .bool false, .slice none 0 0, .slice none 0 0, .slice none 0 0, .slice none 0 0, .slice none 0 0, .bool false, .bool false, .slice none 0 0, .slice none 0 0, .slice none 0 0, .slice none 0 0, .slice none 0 0, .int .i64 0])
      rename_i K hK
      dsimp only
      refine hK _ _ ?_
      refine wpl_lit rfl _ _ rfl _ rfl [.int .i64 6, .string nm, .string ⟨#[]⟩, .bool false, .slice none 0 0, .slice none 0 0, .slice none 0 0, .slice none 0 0, .slice none 0 0, .bool false, .bool false, .slice none 0 0, .slice none 0 0, .slice none 0 0, .slice none 0 0, .slice none 0 0, .int .i64 0] (by kernel_rfl) rfl _ _ _ rfl _ rfl w.heap.size rfl rfl _ _ HX5.out (by kernel_rfl) rfl rfl ?_
      refine wpList_nil ?_
      go_wp2
      refine bodyPost_ret (results_sm rfl _ _ w.heap.size _ _ _ _ _ _ _ _ _ _ _ _ _ _ _ _ _ rfl HFin.out) rfl ?_
      rw [HR.out]
      exact ⟨⟨_, rfl, _, rfl, nm_lies _ _ 6 nm rfl HNsnm.out⟩, HF1.out, HF2.out⟩
end Go.Proofs.YtknhphcfcpjhiaaGreatDoor
