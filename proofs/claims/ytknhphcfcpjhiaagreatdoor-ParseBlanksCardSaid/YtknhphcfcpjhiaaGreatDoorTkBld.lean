/- expr.build: parts beneath a head. -/
import Derived.Test.YtknhphcfcpjhiaaGreatDoorEtTh
namespace Go.Proofs.YtknhphcfcpjhiaaGreatDoor
open Go.RowKit
set_option linter.unusedVariables false
set_option linter.unusedSimpArgs false
set_option maxRecDepth 100000
/-- an append to a list of expressions, in a plain region -/
theorem wpl_et {W : World} {ops : Array Oper} {rest : List Oper} {o : Oper} {a : Act} {Q : Exit → Act → World → Prop} (hgd : o.guard = none) (s x : Operand) (ho : o.op = .call { callee := .builtin .append, args := #[s, x], argTypes := #[38, 38] })
    (B : Nat) (v : Value) (pl : List (ET × Option Addr × Nat)) (b : Nat) (y : ET × Option Addr × Nat) (hs : a.eval s = v) (hx : a.eval x = .slice (some ⟨b, 0, none⟩) 1 1)
    (hown : W.ownsRow B 82 8 v pl.length (plOf pl)) (hc : W.heap[b]? = some (.cells (etX y.1 y.2.1 y.2.2).toArray 82 (0, 0))) (hlen : pl.length ≤ 100000) (hbase : B ≤ W.heap.size)
    (h : ∀ g cap w', w'.ownsRow B 82 8 (.slice (some ⟨g, 0, none⟩) (pl.length + 1) cap) (pl ++ [y]).length (plOf (pl ++ [y])) → W.grownBy w' v.ownBlock → wpList Tryz.prog ops Q rest (a.put o.dst (.slice (some ⟨g, 0, none⟩) (pl.length + 1) cap)) w') :
    wpList Tryz.prog ops Q (o :: rest) a W := by
  obtain ⟨i0, hi, hz0, hz1, hz2⟩ := info_parts infoE
  refine wpList_append_lies W hgd s x 38 ho B 82 i0 _ 8 112 Tryz.underlying38 hi hz0 hz1 hz2 rfl (by decide) v pl.length _ hs hown ⟨b, 0, none⟩ 1 1 (etX y.1 y.2.1 y.2.2) hx rfl ?_ ?_ (by omega) (by unfold maxLen; omega) (by omega) hbase _ rfl ?_
  · exact World.news_of_block hc
  · intro u hu; simp [etX] at hu; rcases hu with rfl | rfl | rfl | rfl | rfl | rfl | rfl | rfl <;> rfl
  · intro g cap w' h1 h2 h3 h4
    refine h g cap w' ?_ h2
    rw [plOf_append, List.length_append]
    simpa [plOf] using h1
/-- parts in memory -/
def PsAt (w : World) (Q : Nat → Prop) (pa : Option Addr) (n : Nat) (ps : List Pt) : Prop :=
  ps.length = n ∧ n ≤ 1000 ∧ (n = 0 ∨ ∃ b off, pa = some ⟨b, off, none⟩ ∧ b < w.heap.size ∧ ∀ i (h : i < ps.length), ∃ sa sc, (∀ j, j < 10 → w.cell? ⟨b, off + i * 10 + j, none⟩ = (ptX (ps[i]) sa sc)[j]?) ∧ PRg (ps[i]) sa sc ∧ EL w Q sa (ps[i]).e.parts)
theorem PsAt.keep {w w' : World} {Q : Nat → Prop} {pa : Option Addr} {n : Nat} {ps : List Pt} (h : PsAt w Q pa n ps) (hb : Below w.heap.size w w') : PsAt w' Q pa n ps := by
  obtain ⟨h1, h2, h3⟩ := h
  refine ⟨h1, h2, h3.imp id ?_⟩
  rintro ⟨b, off, ha, hlt, hc⟩
  refine ⟨b, off, ha, Nat.lt_of_lt_of_le hlt hb.size, fun i hi => ?_⟩
  obtain ⟨sa, sc, g1, g2, g3⟩ := hc i hi
  exact ⟨sa, sc, fun j hj => (hb.cell (p := ⟨b, off + i * 10 + j, none⟩) hlt).trans (g1 j hj), g2, g3.keep hb⟩
theorem maxD_take {ps : List Pt} {k : Nat} (h : k < ps.length) : maxD (ps.take (k + 1)) = max (maxD (ps.take k)) (ps[k]).dp := by
  unfold maxD
  rw [List.take_succ_eq_append_getElem h, List.foldl_append]; rfl
theorem maxD_le {ps : List Pt} {m : Int} (hm : 0 ≤ m) (h : ∀ p ∈ ps, p.dp ≤ m) : maxD ps ≤ m := by
  unfold maxD
  have : ∀ (l : List Pt) (d : Int), d ≤ m → (∀ p ∈ l, p.dp ≤ m) → l.foldl (fun d p => max d p.dp) d ≤ m := by
    intro l
    induction l with
    | nil => intro d hd _; exact hd
    | cons p l ih => intro d hd hl; exact ih _ (by have := hl p (List.mem_cons_self ..); show max d p.dp ≤ m; omega) (fun q hq => hl q (List.mem_cons_of_mem _ hq))
  exact this ps 0 hm h
theorem maxD_ge (ps : List Pt) : 0 ≤ maxD ps := by
  unfold maxD
  have : ∀ (l : List Pt) (d : Int), d ≤ l.foldl (fun d p => max d p.dp) d := by
    intro l
    induction l with
    | nil => intro d; exact Int.le_refl _
    | cons p l ih => intro d; exact Int.le_trans (show d ≤ max d p.dp by omega) (ih _)
  exact this ps 0
theorem heap_setLe {T : TypeId} {B : Nat} : ∀ (vs pre olds : List Value) (w : World), vs.length ≤ olds.length → w.heap[B]? = some (.cells (pre ++ olds).toArray T (0, 0)) → (setLe w B pre.length vs).heap[B]? = some (.cells (pre ++ (vs ++ olds.drop vs.length)).toArray T (0, 0))
  | [], pre, olds, w, _, h => by simpa [setLe] using h
  | v :: vs, pre, [], w, hl, h => by simp at hl
  | v :: vs, pre, o :: olds, w, hl, h => by
    have h1 : (w.setCell ⟨B, pre.length, none⟩ v).heap[B]? = some (.cells ((pre ++ [v]) ++ olds).toArray T (0, 0)) := by
      rw [Go.heap_setCell_same w B pre.length _ _ _ h, List.setIfInBounds_toArray, List.set_append_right _ _ (Nat.le_refl _)]
      simp
    have := heap_setLe vs (pre ++ [v]) olds (w.setCell ⟨B, pre.length, none⟩ v) (by simpa using hl) h1
    rw [List.length_append] at this
    simpa [setLe] using this
theorem vbox10 {w : World} {N : Nat} {x0 x1 x2 x3 x4 x5 x6 x7 x8 x9 : Value} {T : TypeId} (h : w.heap[N]? = some (.cells #[x0, x1, x2, x3, x4, x5, x6, x7, x8, x9] T (0, 0))) (a0 a1 a2 a3 a4 a5 a6 a7 a8 a9 : Value) :
    (setLe w N 0 [a0, a1, a2, a3, a4, a5, a6, a7, a8, a9]).heap[N]? = some (.cells #[a0, a1, a2, a3, a4, a5, a6, a7, a8, a9] T (0, 0)) :=
  heap_setLe [a0, a1, a2, a3, a4, a5, a6, a7, a8, a9] [] [x0, x1, x2, x3, x4, x5, x6, x7, x8, x9] w (by simp) h
theorem vbox8 {w : World} {N : Nat} {x0 x1 x2 x3 x4 x5 x6 x7 x8 x9 : Value} {T : TypeId} (h : w.heap[N]? = some (.cells #[x0, x1, x2, x3, x4, x5, x6, x7, x8, x9] T (0, 0))) (a0 a1 a2 a3 a4 a5 a6 a7 : Value) :
    (setLe w N 0 [a0, a1, a2, a3, a4, a5, a6, a7]).heap[N]? = some (.cells #[a0, a1, a2, a3, a4, a5, a6, a7, x8, x9] T (0, 0)) :=
  heap_setLe [a0, a1, a2, a3, a4, a5, a6, a7] [] [x0, x1, x2, x3, x4, x5, x6, x7, x8, x9] w (by simp) h
/-- ten cells of a block -/
theorem row10 {w : World} {N : Nat} {x0 x1 x2 x3 x4 x5 x6 x7 x8 x9 : Value} {T : TypeId} (h : w.heap[N]? = some (.cells #[x0, x1, x2, x3, x4, x5, x6, x7, x8, x9] T (0, 0))) :
    w.cell? ⟨N, 0, none⟩ = some x0 ∧ w.cell? ⟨N, 1, none⟩ = some x1 ∧ w.cell? ⟨N, 2, none⟩ = some x2 ∧ w.cell? ⟨N, 3, none⟩ = some x3 ∧ w.cell? ⟨N, 4, none⟩ = some x4 ∧ w.cell? ⟨N, 5, none⟩ = some x5 ∧ w.cell? ⟨N, 6, none⟩ = some x6 ∧ w.cell? ⟨N, 7, none⟩ = some x7 ∧ w.cell? ⟨N, 8, none⟩ = some x8 ∧ w.cell? ⟨N, 9, none⟩ = some x9 ∧ (∀ j, w.frozen? ⟨N, j, none⟩ = false) ∧ N < w.heap.size :=
  ⟨cell_of_row _ _ 0 _ _ _ h, cell_of_row _ _ 1 _ _ _ h, cell_of_row _ _ 2 _ _ _ h, cell_of_row _ _ 3 _ _ _ h, cell_of_row _ _ 4 _ _ _ h, cell_of_row _ _ 5 _ _ _ h, cell_of_row _ _ 6 _ _ _ h, cell_of_row _ _ 7 _ _ _ h, cell_of_row _ _ 8 _ _ _ h, cell_of_row _ _ 9 _ _ _ h, fun j => frozen_of_row _ _ j _ _ h, (Array.getElem?_eq_some_iff.1 h).1⟩
theorem row8 {w : World} {N : Nat} {x0 x1 x2 x3 x4 x5 x6 x7 : Value} {T : TypeId} (h : w.heap[N]? = some (.cells #[x0, x1, x2, x3, x4, x5, x6, x7] T (0, 0))) :
    w.cell? ⟨N, 0, none⟩ = some x0 ∧ w.cell? ⟨N, 1, none⟩ = some x1 ∧ w.cell? ⟨N, 2, none⟩ = some x2 ∧ w.cell? ⟨N, 3, none⟩ = some x3 ∧ w.cell? ⟨N, 4, none⟩ = some x4 ∧ w.cell? ⟨N, 5, none⟩ = some x5 ∧ w.cell? ⟨N, 6, none⟩ = some x6 ∧ w.cell? ⟨N, 7, none⟩ = some x7 ∧ (∀ j, w.frozen? ⟨N, j, none⟩ = false) ∧ N < w.heap.size :=
  ⟨cell_of_row _ _ 0 _ _ _ h, cell_of_row _ _ 1 _ _ _ h, cell_of_row _ _ 2 _ _ _ h, cell_of_row _ _ 3 _ _ _ h, cell_of_row _ _ 4 _ _ _ h, cell_of_row _ _ 5 _ _ _ h, cell_of_row _ _ 6 _ _ _ h, cell_of_row _ _ 7 _ _ _ h, fun j => frozen_of_row _ _ j _ _ h, (Array.getElem?_eq_some_iff.1 h).1⟩
/-- a result that lies in a box of ten cells -/
theorem results_pt {fn : Func} {p : Tmp} (h : fn.results = #[.cell p 202]) (tmps : Array Value) (w : World) (g : Nat) (x0 x1 x2 x3 x4 x5 x6 x7 x8 x9 : Value)
    (hp : tmps.getD p undef = .pointer (some ⟨g, 0, none⟩)) (hg : w.heap[g]? = some (.cells #[x0, x1, x2, x3, x4, x5, x6, x7, x8, x9] 202 (0, 0))) :
    (results fn tmps).run Tryz.prog w = .ok (.agg #[x0, x1, x2, x3, x4, x5, x6, x7, x8, x9]) w := by
  have hp' : tmps[p]?.getD undef = .pointer (some ⟨g, 0, none⟩) := by simpa using hp
  have hl := run_loadVar_row (P := Tryz.prog) w g 202 202 #[x0, x1, x2, x3, x4, x5, x6, x7, x8, x9] (0, 0) _ hg Tryz.underlying202 rfl (by
    have : (Tryz.prog.info? 202).map (·.size) = some 10 := by kernel_rfl
    exact this)
  simp [results, h, hp', asAddr, hl]
theorem results_pt2 {fn : Func} {p u : Tmp} (h : fn.results = #[.cell p 202, .tmp u]) (tmps : Array Value) (w : World) (g : Nat) (x0 x1 x2 x3 x4 x5 x6 x7 x8 x9 : Value)
    (hp : tmps.getD p undef = .pointer (some ⟨g, 0, none⟩)) (hg : w.heap[g]? = some (.cells #[x0, x1, x2, x3, x4, x5, x6, x7, x8, x9] 202 (0, 0))) :
    (results fn tmps).run Tryz.prog w = .ok (.tuple #[.agg #[x0, x1, x2, x3, x4, x5, x6, x7, x8, x9], tmps.getD u undef]) w := by
  have hp' : tmps[p]?.getD undef = .pointer (some ⟨g, 0, none⟩) := by simpa using hp
  have hl := run_loadVar_row (P := Tryz.prog) w g 202 202 #[x0, x1, x2, x3, x4, x5, x6, x7, x8, x9] (0, 0) _ hg Tryz.underlying202 rfl (by
    have : (Tryz.prog.info? 202).map (·.size) = some 10 := by kernel_rfl
    exact this)
  simp [results, h, hp', asAddr, hl]
theorem results_pt3 {fn : Func} {p u z : Tmp} (h : fn.results = #[.cell p 202, .tmp u, .tmp z]) (tmps : Array Value) (w : World) (g : Nat) (x0 x1 x2 x3 x4 x5 x6 x7 x8 x9 : Value)
    (hp : tmps.getD p undef = .pointer (some ⟨g, 0, none⟩)) (hg : w.heap[g]? = some (.cells #[x0, x1, x2, x3, x4, x5, x6, x7, x8, x9] 202 (0, 0))) :
    (results fn tmps).run Tryz.prog w = .ok (.tuple #[.agg #[x0, x1, x2, x3, x4, x5, x6, x7, x8, x9], tmps.getD u undef, tmps.getD z undef]) w := by
  have hp' : tmps[p]?.getD undef = .pointer (some ⟨g, 0, none⟩) := by simpa using hp
  have hl := run_loadVar_row (P := Tryz.prog) w g 202 202 #[x0, x1, x2, x3, x4, x5, x6, x7, x8, x9] (0, 0) _ hg Tryz.underlying202 rfl (by
    have : (Tryz.prog.info? 202).map (·.size) = some 10 := by kernel_rfl
    exact this)
  simp [results, h, hp', asAddr, hl]
/-- the second loop: so many parts are in the head's list -/
structure BdRel (w : World) (Q : Nat → Prop) (e : ET) (R O B2 : Nat) (out : Array Value) (pl : List (ET × Option Addr × Nat)) (v : Value) (wr : World) : Prop where
  below : Below w.heap.size w wr
  size : B2 ≤ wr.heap.size
  res : wr.heap[R]? = some (.cells #[.int .i64 0, .string ⟨#[]⟩, .int .i64 0, .int .i64 0, .string ⟨#[]⟩, .string ⟨#[]⟩, .string ⟨#[]⟩, .slice none 0 0, .int .i64 0, .int .i64 0] 202 (0, 0))
  out : wr.heap[O]? = some (.cells out 202 (0, 0))
  box : wr.heap[w.heap.size]? = some (.cells (etC e v) 82 (0, 0))
  row : wr.ownsRow B2 82 8 v pl.length (plOf pl)
  rg : ∀ q ∈ pl, ERg q.1 q.2.1 q.2.2 ∧ EL w (fun b => Q b ∧ b < w.heap.size) q.2.1 q.1.parts
theorem BdRel.next {w wr W w4 : World} {Q : Nat → Prop} {e : ET} {R O B2 g cap : Nat} {out : Array Value} {pl : List (ET × Option Addr × Nat)} {v : Value} {y : ET × Option Addr × Nat} (h : BdRel w Q e R O B2 out pl v wr) (hR : R < B2 ∧ R ≠ w.heap.size) (hO : O < B2 ∧ O ≠ w.heap.size) (hE : w.heap.size < B2)
    (hW : Below wr.heap.size wr W) (hrg : ERg y.1 y.2.1 y.2.2) (hel : EL w (fun b => Q b ∧ b < w.heap.size) y.2.1 y.1.parts)
    (hown : w4.ownsRow B2 82 8 (.slice (some ⟨g, 0, none⟩) (pl.length + 1) cap) (pl ++ [y]).length (plOf (pl ++ [y]))) (hg : W.grownBy w4 v.ownBlock) :
    BdRel w Q e R O B2 out (pl ++ [y]) (.slice (some ⟨g, 0, none⟩) (pl.length + 1) cap) (w4.setCell ⟨w.heap.size, 7, none⟩ (.slice (some ⟨g, 0, none⟩) (pl.length + 1) cap)) := by
  have hkeep : ∀ i, i < B2 → w4.heap[i]? = wr.heap[i]? := fun i hi => (hg.block i (Nat.lt_of_lt_of_le (Nat.lt_of_lt_of_le hi h.size) hW.size) (fun he => by
    have := (h.row.lt i he.symm).1
    omega)).trans (hW.block i (Nat.lt_of_lt_of_le hi h.size))
  have hb4 : Below w.heap.size w w4 := ⟨hg.os.trans (hW.os.trans h.below.os), hg.tape.trans (hW.tape.trans h.below.tape), hg.output.trans (hW.output.trans h.below.output), Nat.le_trans h.below.size (Nat.le_trans hW.size hg.size), fun i hi => (hkeep i (by omega)).trans (h.below.block i hi)⟩
  have hs4 : B2 ≤ w4.heap.size := Nat.le_trans h.size (Nat.le_trans hW.size hg.size)
  refine ⟨hb4.setCell (p := ⟨w.heap.size, 7, none⟩) (Nat.le_refl _) _, by simpa using hs4, ?_, ?_, ?_, ?_, ?_⟩
  · exact (heap_setCell_other w4 ⟨w.heap.size, 7, none⟩ R _ hR.2).trans ((hkeep R hR.1).trans h.res)
  · exact (heap_setCell_other w4 ⟨w.heap.size, 7, none⟩ O _ hO.2).trans ((hkeep O hO.1).trans h.out)
  · exact Go.heap_setCell_same w4 _ 7 _ _ _ ((hkeep _ hE).trans h.box)
  · have : ∀ {B : Nat} {e : TypeId} {size : Nat} {v : Value} {n : Nat} {xs : List Value} (h : w4.ownsRow B e size v n xs) (hN : w.heap.size < B) (x : Value), (w4.setCell ⟨w.heap.size, 7, none⟩ x).ownsRow B e size v n xs := by
      intro B e size v n xs h hN x
      refine ⟨h.1, ?_⟩
      rcases h.2 with h0 | ⟨g, cap, cur, a, b, hg, r⟩
      · exact .inl h0
      · refine .inr ⟨g, cap, cur, a, b, ?_, r⟩
        rw [heap_setCell_other _ _ _ _ (by show g ≠ w.heap.size; omega)]
        exact hg
    exact this hown hE _
  · intro q hq
    rcases List.mem_append.1 hq with hq | hq
    · exact h.rg q hq
    · obtain rfl := List.mem_singleton.1 hq
      exact ⟨hrg, hel⟩
theorem BdRel.keepE {w wr W w4 : World} {Q : Nat → Prop} {e : ET} {R O B2 : Nat} {out : Array Value} {pl : List (ET × Option Addr × Nat)} {v : Value} (h : BdRel w Q e R O B2 out pl v wr) (hE : w.heap.size < B2) (hW : Below wr.heap.size wr W) (hg : W.grownBy w4 v.ownBlock) :
    w4.heap[w.heap.size]? = some (.cells (etC e v) 82 (0, 0)) :=
  ((hg.block _ (Nat.lt_of_lt_of_le (Nat.lt_of_lt_of_le hE h.size) hW.size) (fun he => by
    have := (h.row.lt _ he.symm).1
    omega)).trans (hW.block _ (Nat.lt_of_lt_of_le hE h.size))).trans h.box
/-- when all parts are in the list -/
theorem BdRel.done {w wr : World} {Q : Nat → Prop} {e : ET} {R O B2 : Nat} {out : Array Value} {pl : List (ET × Option Addr × Nat)} {v : Value} (h : BdRel w Q e R O B2 out pl v wr) (hw : w.heap.size ≤ B2) :
    ∃ a cap, v = .slice a pl.length cap ∧ EL wr (fun b => (Q b ∧ b < w.heap.size) ∨ B2 ≤ b) a (pl.map (·.1)) ∧ (a = none → pl.length = 0 ∧ cap = 0) ∧ pl.length ≤ cap ∧ cap ≤ maxLen :=
  own_el h.row (fun b hb => .inr (h.row.lt b hb).1) (fun q hq => ⟨(h.rg q hq).1, ((h.rg q hq).2.keep h.below).mono (fun b hb _ => .inl hb)⟩)
end Go.Proofs.YtknhphcfcpjhiaaGreatDoor
