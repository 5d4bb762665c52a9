/- A block of eight cells that holds a zero cell, at a glance; results in a cell (the document's). -/
import Derived.Test.YtafhgilikcablaaSvIdx
import Derived.Test.YtafhgilikcablaaCl
import Derived.Test.YtafhgilikcablaaQTail
namespace Go.Proofs.Ytafhgilikcablaa
open Go.RowKit
set_option linter.unusedVariables false
set_option linter.unusedSimpArgs false
set_option maxRecDepth 100000

structure FnD where
  tabs : List TB
  srcs : List Nat
  names : List ByteArray
instance coInh : Inhabited CO := ⟨⟨⟨#[]⟩, 0, false, false⟩⟩
instance tbInh : Inhabited TB := ⟨⟨⟨#[]⟩, false, []⟩⟩
def FnD.tab (F : FnD) (i : Nat) : TB := F.tabs.getD (F.srcs.getD i 0) default
structure FnAt (w : World) (F : FnD) (ta sa na : Option Addr) : Prop where
  tabs : TabsAt w ta F.tabs
  srcs : IntsAt w sa (F.srcs.map Int.ofNat)
  names : StrsAt w na F.names
  ok : ∀ s ∈ F.srcs, s < F.tabs.length
  nl : F.names.length = F.srcs.length
  tl : F.tabs.length ≤ 9223372036854775807
  sl : F.srcs.length ≤ 9223372036854775807
theorem FnAt.keep {w w' : World} {F : FnD} {ta sa na : Option Addr} (h : FnAt w F ta sa na) (hb : Below w.heap.size w w') : FnAt w' F ta sa na :=
  ⟨h.tabs.keep hb, h.srcs.keep hb, h.names.keep hb, h.ok, h.nl, h.tl, h.sl⟩
/-- a source: its number, its table, its name -/
theorem FnAt.at {w : World} {F : FnD} {ta sa na : Option Addr} (h : FnAt w F ta sa na) {i : Nat} (hi : i < F.srcs.length) :
    ∃ tb tf sb sf nb nf ca cc s m, ta = some ⟨tb, tf, none⟩ ∧ sa = some ⟨sb, sf, none⟩ ∧ na = some ⟨nb, nf, none⟩ ∧ tb < w.heap.size ∧ sb < w.heap.size ∧ nb < w.heap.size ∧ s < F.tabs.length ∧ w.cell? ⟨sb, sf + i, none⟩ = some (.int .i64 (s : Int)) ∧ w.cell? ⟨nb, nf + i, none⟩ = some (.string m) ∧ F.names[i]? = some m ∧ TBAt w tb (tf + s * 3) (F.tab i) ca cc := by
  obtain ⟨sb, sf, hs1, hs2, hs3⟩ := h.srcs.at (i := i) (by simpa using hi)
  obtain ⟨nb, nf, hn1, hn2, hn3⟩ := h.names.at (i := i) (by rw [h.nl]; exact hi)
  have hm := h.ok _ (List.getElem_mem hi)
  obtain ⟨tb, tf, ca, cc, ht1, ht2, ht3⟩ := h.tabs.at hm
  rw [List.getElem_map] at hs3
  refine ⟨tb, tf, sb, sf, nb, nf, ca, cc, F.srcs[i], F.names[i]'(by rw [h.nl]; exact hi), ht1, hs1, hn1, ht2, hs2, hn2, hm, hs3, hn3, List.getElem?_eq_getElem _, ?_⟩
  have : F.tab i = F.tabs[F.srcs[i]] := by
    unfold FnD.tab
    rw [List.getD_eq_getElem?_getD, List.getD_eq_getElem?_getD, List.getElem?_eq_getElem hi]
    show (F.tabs[F.srcs[i]]?).getD default = _
    rw [List.getElem?_eq_getElem hm]
    rfl
  rw [this]
  exact ht3
def hitC (F : FnD) (col : ByteArray) (i : Nat) : Bool := decide (0 ≤ posI (coP col) (F.tab i).cols)
def nmP (t : ByteArray) (m : ByteArray) : Bool := m.toList == t.toList
def oneOf : List Nat → Option Nat
  | [i] => some i
  | _ => none
def colI (F : FnD) (t col : ByteArray) : Option Nat := if t.toList = [] then oneOf ((List.range F.srcs.length).filter (hitC F col)) else F.names.findIdx? (nmP t)
def ctZ : CT := .mk 0 ⟨#[]⟩ 0 0 ⟨#[]⟩ 0 0 []
def colR (F : FnD) (col : ByteArray) (i : Nat) : CT × Int × Int :=
  let n := posI (coP col) (F.tab i).cols
  if n < 0 then (ctZ, 0, 6) else (.mk 2 ⟨#[]⟩ 0 0 ⟨#[]⟩ i n [], ((F.tab i).cols.getD n.toNat default).kind, 0)
def colV (F : FnD) (t col : ByteArray) : CT × Int × Int := match colI F t col with | none => (ctZ, 0, 6) | some i => colR F col i
theorem colV_hit {F : FnD} {t col : ByteArray} {i : Nat} (h : colI F t col = some i) : colV F t col = colR F col i := by unfold colV; rw [h]
theorem colV_none {F : FnD} {t col : ByteArray} (h : colI F t col = none) : colV F t col = (ctZ, 0, 6) := by unfold colV; rw [h]
theorem colR_neg {F : FnD} {col : ByteArray} {i : Nat} (h : posI (coP col) (F.tab i).cols < 0) : colR F col i = (ctZ, 0, 6) := by unfold colR; exact if_pos h
theorem colR_pos {F : FnD} {col : ByteArray} {i n : Nat} (h : posI (coP col) (F.tab i).cols = (n : Int)) : colR F col i = (.mk 2 ⟨#[]⟩ 0 0 ⟨#[]⟩ i n [], ((F.tab i).cols.getD n default).kind, 0) := by unfold colR; dsimp only; rw [h, if_neg (by omega)]; rfl
/-- the first name that fits -/
theorem colI_t {F : FnD} {t col : ByteArray} (ht : t.toList ≠ []) {k : Nat} (hk : k < F.names.length) (h0 : (F.names.take k).any (nmP t) = false) (h : nmP t (F.names[k]) = true) : colI F t col = some k := by
  unfold colI
  rw [if_neg ht, List.findIdx?_eq_some_iff_getElem]
  refine ⟨hk, h, fun j hj => ?_⟩
  have h1 := List.any_eq_false.1 h0 (F.names[j]'(by omega)) (List.mem_take_iff_getElem.2 ⟨j, by omega, rfl⟩)
  simpa using h1
theorem colI_t0 {F : FnD} {t col : ByteArray} (ht : t.toList ≠ []) (h0 : F.names.any (nmP t) = false) : colI F t col = none := by
  unfold colI
  rw [if_neg ht, List.findIdx?_eq_none_iff]
  exact fun x hx => by have := List.any_eq_false.1 h0 x hx; simpa using this
/-- what was found so far, where no name is said -/
def FndE (F : FnD) (col : ByteArray) (k : Nat) (f : Int) : Prop := (f = -1 ∧ (List.range k).filter (hitC F col) = []) ∨ ∃ i : Nat, f = (i : Int) ∧ i < k ∧ (List.range k).filter (hitC F col) = [i]
theorem fndE_0 (F : FnD) (col : ByteArray) : FndE F col 0 (-1) := .inl ⟨rfl, rfl⟩
theorem fndE_no {F : FnD} {col : ByteArray} {k : Nat} {f : Int} (h : FndE F col k f) (hn : hitC F col k = false) : FndE F col (k + 1) f := by
  have e : (List.range (k + 1)).filter (hitC F col) = (List.range k).filter (hitC F col) := by rw [List.range_succ, List.filter_append]; simp [hn]
  rcases h with ⟨h1, h2⟩ | ⟨i, h1, h2, h3⟩
  · exact .inl ⟨h1, by rw [e]; exact h2⟩
  · exact .inr ⟨i, h1, by omega, by rw [e]; exact h3⟩
theorem fndE_yes {F : FnD} {col : ByteArray} {k : Nat} {f : Int} (h : FndE F col k f) (hn : hitC F col k = true) (hf : f < 0) : FndE F col (k + 1) (k : Int) := by
  have e : (List.range (k + 1)).filter (hitC F col) = (List.range k).filter (hitC F col) ++ [k] := by rw [List.range_succ, List.filter_append]; simp [hn]
  rcases h with ⟨h1, h2⟩ | ⟨i, h1, h2, h3⟩
  · exact .inr ⟨k, rfl, by omega, by rw [e, h2]; rfl⟩
  · omega
theorem fndE_two {F : FnD} {t col : ByteArray} {k : Nat} {f : Int} (ht : t.toList = []) (h : FndE F col k f) (hn : hitC F col k = true) (hf : 0 ≤ f) (hk : k < F.srcs.length) : colI F t col = none := by
  have e : (List.range (k + 1)).filter (hitC F col) = (List.range k).filter (hitC F col) ++ [k] := by rw [List.range_succ, List.filter_append]; simp [hn]
  rcases h with ⟨h1, h2⟩ | ⟨i, h1, h2, h3⟩
  · omega
  · unfold colI
    rw [if_pos ht]
    obtain ⟨m, hm⟩ : ∃ m, F.srcs.length = (k + 1) + m := ⟨F.srcs.length - (k + 1), by omega⟩
    rw [hm, List.range_add, List.filter_append, e, h3]
    rfl
theorem fndE_end {F : FnD} {t col : ByteArray} {f : Int} (ht : t.toList = []) (h : FndE F col F.srcs.length f) : (f < 0 ∧ colI F t col = none) ∨ ∃ i : Nat, f = (i : Int) ∧ i < F.srcs.length ∧ colI F t col = some i := by
  unfold colI
  rw [if_pos ht]
  rcases h with ⟨h1, h2⟩ | ⟨i, h1, h2, h3⟩
  · exact .inl ⟨by omega, by rw [h2]; rfl⟩
  · exact .inr ⟨i, h1, h2, by rw [h3]; rfl⟩
end Go.Proofs.Ytafhgilikcablaa
namespace Go.Proofs.Ytafhgilikcablaa
open Go.RowKit
set_option linter.unusedVariables false
set_option linter.unusedSimpArgs false
set_option maxRecDepth 100000

theorem results_cellP {fn : Func} {p u v : Tmp} (h : fn.results = #[.cell p 46, .tmp u, .tmp v]) (tmps : Array Value) (w : World) (g : Nat) (cs : Array Value) (hz : cs.size = 8)
    (hp : tmps.getD p undef = .pointer (some ⟨g, 0, none⟩)) (hg : w.heap[g]? = some (.cells cs 46 (0, 0))) :
    (results fn tmps).run Try.prog w = .ok (.tuple #[.agg cs, tmps.getD u undef, tmps.getD v undef]) w := by
  have hp' : tmps[p]?.getD undef = .pointer (some ⟨g, 0, none⟩) := by simpa using hp
  have hl := run_loadVar_row (P := Try.prog) w g 46 46 cs (0, 0) _ hg Try.underlying46 rfl (by
    have : (Try.prog.info? 46).map (·.size) = some 8 := by kernel_rfl
    rw [hz]
    exact this)
  simp [results, h, hp', asAddr, hl]
theorem st8_0 {w : World} {N : Nat} {x0 x1 x2 x3 x4 x5 x6 x7 : Value} {T : TypeId} (h : w.heap[N]? = some (.cells #[x0, x1, x2, x3, x4, x5, x6, x7] T (0, 0))) (a : Value) : (w.setCell ⟨N, 0, none⟩ a).heap[N]? = some (.cells #[a, x1, x2, x3, x4, x5, x6, x7] T (0, 0)) := Go.heap_setCell_same w N 0 _ _ _ h
theorem st8_1 {w : World} {N : Nat} {x0 x1 x2 x3 x4 x5 x6 x7 : Value} {T : TypeId} (h : w.heap[N]? = some (.cells #[x0, x1, x2, x3, x4, x5, x6, x7] T (0, 0))) (a : Value) : (w.setCell ⟨N, 1, none⟩ a).heap[N]? = some (.cells #[x0, a, x2, x3, x4, x5, x6, x7] T (0, 0)) := Go.heap_setCell_same w N 1 _ _ _ h
theorem st8_2 {w : World} {N : Nat} {x0 x1 x2 x3 x4 x5 x6 x7 : Value} {T : TypeId} (h : w.heap[N]? = some (.cells #[x0, x1, x2, x3, x4, x5, x6, x7] T (0, 0))) (a : Value) : (w.setCell ⟨N, 2, none⟩ a).heap[N]? = some (.cells #[x0, x1, a, x3, x4, x5, x6, x7] T (0, 0)) := Go.heap_setCell_same w N 2 _ _ _ h
theorem st8_3 {w : World} {N : Nat} {x0 x1 x2 x3 x4 x5 x6 x7 : Value} {T : TypeId} (h : w.heap[N]? = some (.cells #[x0, x1, x2, x3, x4, x5, x6, x7] T (0, 0))) (a : Value) : (w.setCell ⟨N, 3, none⟩ a).heap[N]? = some (.cells #[x0, x1, x2, a, x4, x5, x6, x7] T (0, 0)) := Go.heap_setCell_same w N 3 _ _ _ h
theorem st8_4 {w : World} {N : Nat} {x0 x1 x2 x3 x4 x5 x6 x7 : Value} {T : TypeId} (h : w.heap[N]? = some (.cells #[x0, x1, x2, x3, x4, x5, x6, x7] T (0, 0))) (a : Value) : (w.setCell ⟨N, 4, none⟩ a).heap[N]? = some (.cells #[x0, x1, x2, x3, a, x5, x6, x7] T (0, 0)) := Go.heap_setCell_same w N 4 _ _ _ h
theorem st8_5 {w : World} {N : Nat} {x0 x1 x2 x3 x4 x5 x6 x7 : Value} {T : TypeId} (h : w.heap[N]? = some (.cells #[x0, x1, x2, x3, x4, x5, x6, x7] T (0, 0))) (a : Value) : (w.setCell ⟨N, 5, none⟩ a).heap[N]? = some (.cells #[x0, x1, x2, x3, x4, a, x6, x7] T (0, 0)) := Go.heap_setCell_same w N 5 _ _ _ h
theorem st8_6 {w : World} {N : Nat} {x0 x1 x2 x3 x4 x5 x6 x7 : Value} {T : TypeId} (h : w.heap[N]? = some (.cells #[x0, x1, x2, x3, x4, x5, x6, x7] T (0, 0))) (a : Value) : (w.setCell ⟨N, 6, none⟩ a).heap[N]? = some (.cells #[x0, x1, x2, x3, x4, x5, a, x7] T (0, 0)) := Go.heap_setCell_same w N 6 _ _ _ h
theorem st8_7 {w : World} {N : Nat} {x0 x1 x2 x3 x4 x5 x6 x7 : Value} {T : TypeId} (h : w.heap[N]? = some (.cells #[x0, x1, x2, x3, x4, x5, x6, x7] T (0, 0))) (a : Value) : (w.setCell ⟨N, 7, none⟩ a).heap[N]? = some (.cells #[x0, x1, x2, x3, x4, x5, x6, a] T (0, 0)) := Go.heap_setCell_same w N 7 _ _ _ h
theorem box8 {w : World} {N : Nat} {x0 x1 x2 x3 x4 x5 x6 x7 : Value} {T : TypeId} (h : w.heap[N]? = some (.cells #[x0, x1, x2, x3, x4, x5, x6, x7] T (0, 0))) (a0 a1 a2 a3 a4 a5 a6 a7 : Value) :
    ((((((((w.setCell ⟨N, 0, none⟩ a0).setCell ⟨N, 1, none⟩ a1).setCell ⟨N, 2, none⟩ a2).setCell ⟨N, 3, none⟩ a3).setCell ⟨N, 4, none⟩ a4).setCell ⟨N, 5, none⟩ a5).setCell ⟨N, 6, none⟩ a6).setCell ⟨N, 7, none⟩ a7).heap[N]? = some (.cells #[a0, a1, a2, a3, a4, a5, a6, a7] T (0, 0)) :=
  st8_7 (st8_6 (st8_5 (st8_4 (st8_3 (st8_2 (st8_1 (st8_0 h a0) a1) a2) a3) a4) a5) a6) a7
theorem drew_at (w : World) (N : Nat) : w.drew.heap[N]? = w.heap[N]? := rfl
theorem box8d {w : World} {N : Nat} {x0 x1 x2 x3 x4 x5 x6 x7 : Value} {T : TypeId} (h : w.heap[N]? = some (.cells #[x0, x1, x2, x3, x4, x5, x6, x7] T (0, 0))) (a0 a1 a2 a3 a4 a5 a6 a7 : Value) :
    ((((((((w.setCell ⟨N, 0, none⟩ a0).setCell ⟨N, 1, none⟩ a1).setCell ⟨N, 2, none⟩ a2).setCell ⟨N, 3, none⟩ a3).setCell ⟨N, 4, none⟩ a4).setCell ⟨N, 5, none⟩ a5).setCell ⟨N, 6, none⟩ a6).setCell ⟨N, 7, none⟩ a7).drew.heap[N]? = some (.cells #[a0, a1, a2, a3, a4, a5, a6, a7] T (0, 0)) := (drew_at _ _).trans (box8 h a0 a1 a2 a3 a4 a5 a6 a7)
theorem box8_below {w w1 : World} {K N : Nat} (hK : K ≤ N) (h : Below K w w1) (a0 a1 a2 a3 a4 a5 a6 a7 : Value) :
    Below K w ((((((((w1.setCell ⟨N, 0, none⟩ a0).setCell ⟨N, 1, none⟩ a1).setCell ⟨N, 2, none⟩ a2).setCell ⟨N, 3, none⟩ a3).setCell ⟨N, 4, none⟩ a4).setCell ⟨N, 5, none⟩ a5).setCell ⟨N, 6, none⟩ a6).setCell ⟨N, 7, none⟩ a7) :=
  (((((((h.setCell hK _).setCell hK _).setCell hK _).setCell hK _).setCell hK _).setCell hK _).setCell hK _).setCell hK _
theorem drewB {w : World} {n : Nat} : Below w.heap.size w (w.drewN n) := ⟨rfl, rfl, rfl, Nat.le_refl _, fun _ _ => rfl⟩
theorem alloc_old3 (w : World) (o : Obj) {i : Nat} (hi : i < w.heap.size) : (w.alloc o).heap[i]? = w.heap[i]? := (World.grownBy_alloc w o none).block i hi (fun e => by cases e)
theorem boxes3 (w : World) (A B C : Obj) : ((((w.alloc A).alloc B).alloc C).heap[w.heap.size]? = some A ∧ (((w.alloc A).alloc B).alloc C).heap[w.heap.size + 1]? = some B ∧ (((w.alloc A).alloc B).alloc C).heap[w.heap.size + 1 + 1]? = some C) ∧ (((w.alloc A).alloc B).alloc C).heap.size = w.heap.size + 1 + 1 + 1 := by
  refine ⟨⟨(alloc_old3 _ C (by simp; omega)).trans ((alloc_old3 _ B (by simp)).trans (Go.heap_alloc_new w A)), ?_, ?_⟩, by simp⟩
  · have := Go.heap_alloc_new (w.alloc A) B
    exact (alloc_old3 _ C (by simp)).trans (by simpa using this)
  · have := Go.heap_alloc_new ((w.alloc A).alloc B) C
    simpa using this
theorem cell8 {w : World} {N b o : Nat} (h : b ≠ N) {a0 a1 a2 a3 a4 a5 a6 a7 : Value} : ((((((((w.setCell ⟨N, 0, none⟩ a0).setCell ⟨N, 1, none⟩ a1).setCell ⟨N, 2, none⟩ a2).setCell ⟨N, 3, none⟩ a3).setCell ⟨N, 4, none⟩ a4).setCell ⟨N, 5, none⟩ a5).setCell ⟨N, 6, none⟩ a6).setCell ⟨N, 7, none⟩ a7).cell? ⟨b, o, none⟩ = w.cell? ⟨b, o, none⟩ :=
  World.cell?_of_block ((heap_setCell_other _ _ _ _ h).trans ((heap_setCell_other _ _ _ _ h).trans ((heap_setCell_other _ _ _ _ h).trans ((heap_setCell_other _ _ _ _ h).trans ((heap_setCell_other _ _ _ _ h).trans ((heap_setCell_other _ _ _ _ h).trans ((heap_setCell_other _ _ _ _ h).trans (heap_setCell_other _ _ _ _ h))))))))
theorem drew_cell (w : World) (p : Addr) : w.drew.cell? p = w.cell? p := rfl
theorem cell8d {w : World} {N b o : Nat} (h : b ≠ N) {a0 a1 a2 a3 a4 a5 a6 a7 : Value} : ((((((((w.setCell ⟨N, 0, none⟩ a0).setCell ⟨N, 1, none⟩ a1).setCell ⟨N, 2, none⟩ a2).setCell ⟨N, 3, none⟩ a3).setCell ⟨N, 4, none⟩ a4).setCell ⟨N, 5, none⟩ a5).setCell ⟨N, 6, none⟩ a6).setCell ⟨N, 7, none⟩ a7).drew.cell? ⟨b, o, none⟩ = w.cell? ⟨b, o, none⟩ := (drew_cell _ _).trans (cell8 h)
/-- what a cell's finder answers -/
def CellAns (w : World) (r : CT × Int × Int) (e' : Ending) (w' : World) : Prop := (∃ v, e' = .returned (.tuple #[v, .int .i64 r.2.1, .int .i64 r.2.2]) ∧ CV w' (fun b => w.heap.size ≤ b) v r.1) ∧ Below w.heap.size w w'
theorem rgZ : CRg ctZ none 0 := ⟨by decide, by decide, by decide, by decide, by decide, by decide, by decide, fun _ => ⟨rfl, rfl⟩, Nat.le_refl _, by decide⟩
theorem wf64 {k : Int} (h0 : -9223372036854775808 ≤ k) (h1 : k ≤ 9223372036854775807) : (Lit.int .i64 k).wf = true := by
  have e1 : IntKind.i64.min = -9223372036854775808 := by decide
  have e2 : IntKind.i64.max = 9223372036854775807 := by decide
  simp only [Lit.wf, e1, e2, Bool.and_eq_true, decide_eq_true_eq]
  exact ⟨h0, h1⟩
theorem rgC {k n : Nat} (hk : k ≤ 9223372036854775807) (hn : n ≤ 9223372036854775807) : CRg (.mk 2 ⟨#[]⟩ 0 0 ⟨#[]⟩ k n []) none 0 :=
  ⟨(by decide : (Lit.int .i64 2).wf = true), (by decide : (Lit.int .i64 0).wf = true), (by decide : (Lit.int .i64 0).wf = true), Nat.zero_le _, Nat.zero_le _, wf64 (show _ ≤ (k : Int) by omega) (show (k : Int) ≤ _ by omega), wf64 (show _ ≤ (n : Int) by omega) (show (n : Int) ≤ _ by omega), fun _ => ⟨rfl, rfl⟩, Nat.le_refl _, Nat.zero_le _⟩
set_option maxHeartbeats 6400000 in
theorem pcolumn_t (w : World) (F : FnD) (ta sa na : Option Addr) (tn tc sn sc nn nc : Nat) (hF : FnAt w F ta sa na) (htn : tn = F.tabs.length) (hsn : sn = F.srcs.length) (hnn : nn = F.names.length)
    (kd : Int) (op : ByteArray) (vk vn : Int) (vs t col : ByteArray) (pa : Option Addr) (pn pc : Nat) (ht : t.toList ≠ []) :
    Calls Try.prog 133 #[.agg #[.slice ta tn tc, .slice sa sn sc, .slice na nn nc], .agg #[.int .i64 kd, .string op, .int .i64 vk, .int .i64 vn, .string vs, .string t, .string col, .slice pa pn pc]] w (CellAns w (colV F t col)) := by
  have HF := Lib.hid hF
  have HTn := Lib.hid htn
  have HSn := Lib.hid hsn
  have HNn := Lib.hid hnn
  have HT := Lib.hid ht
  have ht1 : t.toList.isEmpty = false := by cases h : t.toList with | nil => exact absurd h ht | cons => rfl
  have hsl : sn ≤ 9223372036854775807 := by rw [hsn]; exact hF.sl
  have hnl : nn = sn := by rw [hnn, hsn, hF.nl]
  have htl : tn ≤ 9223372036854775807 := by rw [htn]; exact hF.tl
  subst hnl
  have HB := Lib.hid (bel0 (.cells #[.int .i64 0, .string ⟨#[]⟩, .int .i64 0, .int .i64 0, .string ⟨#[]⟩, .int .i64 0, .int .i64 0, .slice none 0 0] 46) (bel0 (.cells #[.int .i64 kd, .string op, .int .i64 vk, .int .i64 vn, .string vs, .string t, .string col, .slice pa pn pc] 52) (bel0 (.cells #[.slice ta tn tc, .slice sa nn sc, .slice na nn nc] 115) (Below.refl w.heap.size w))))
  clear hF htn hsn hnn ht
  have HBX := Lib.hid (boxes3 w (.cells #[.slice ta tn tc, .slice sa nn sc, .slice na nn nc] 115 (0, 0)) (.cells #[.int .i64 kd, .string op, .int .i64 vk, .int .i64 vn, .string vs, .string t, .string col, .slice pa pn pc] 52 (0, 0)) (.cells #[.int .i64 0, .string ⟨#[]⟩, .int .i64 0, .int .i64 0, .string ⟨#[]⟩, .int .i64 0, .int .i64 0, .slice none 0 0] 46 (0, 0)))
  go_enter Try.func133, Try.ntmps133
  go_upto_region 1 with (fail)
  generalize (((w.alloc (.cells #[.slice ta tn tc, .slice sa nn sc, .slice na nn nc] 115)).alloc (.cells #[.int .i64 kd, .string op, .int .i64 vk, .int .i64 vn, .string vs, .string t, .string col, .slice pa pn pc] 52)).alloc (.cells #[.int .i64 0, .string ⟨#[]⟩, .int .i64 0, .int .i64 0, .string ⟨#[]⟩, .int .i64 0, .int .i64 0, .slice none 0 0] 46)) = w1 at *
  have HC := Lib.hid (show ∀ W : World, Below w1.heap.size w1 W → (W.cell? ⟨w.heap.size, 0, none⟩ = some (.slice ta tn tc) ∧ W.cell? ⟨w.heap.size, 1, none⟩ = some (.slice sa nn sc) ∧ W.cell? ⟨w.heap.size, 2, none⟩ = some (.slice na nn nc) ∧ W.cell? ⟨w.heap.size + 1, 5, none⟩ = some (.string t) ∧ W.cell? ⟨w.heap.size + 1, 6, none⟩ = some (.string col) ∧ W.heap[w.heap.size + 1 + 1]? = some (.cells #[.int .i64 0, .string ⟨#[]⟩, .int .i64 0, .int .i64 0, .string ⟨#[]⟩, .int .i64 0, .int .i64 0, .slice none 0 0] 46 (0, 0)) ∧ w.heap.size + 1 + 1 < W.heap.size) from fun W h => by
    obtain ⟨⟨h0, h1, h2⟩, hz⟩ := HBX.out
    have k0 := (h.block w.heap.size (by omega)).trans h0
    have k1 := (h.block (w.heap.size + 1) (by omega)).trans h1
    have k2 := (h.block (w.heap.size + 1 + 1) (by omega)).trans h2
    exact ⟨cell_of_row W _ 0 _ _ _ k0, cell_of_row W _ 1 _ _ _ k0, cell_of_row W _ 2 _ _ _ k0, cell_of_row W _ 5 _ _ _ k1, cell_of_row W _ 6 _ _ _ k1, k2, (Array.getElem?_eq_some_iff.1 k2).1⟩)
  obtain ⟨c0, c1, c2, c3, c4, c5, c6⟩ := HC.out w1 (Below.refl _ _)
  have HC5 := Lib.hid c5
  clear c5
  go_wp2_with fail
  clear c0 c1 c2 c3 c4 c6 HC5
  go_loopw [7, 15] (fun f i wr => ∃ (k : Nat), k ≤ nn ∧ i = .int .i64 (k : Int) ∧ f = .int .i64 (-1) ∧ Hid ((F.names.take k).any (nmP t) = false ∧ Below w1.heap.size w1 wr)) (fun _ i _ => nn - (intOf i).toNat)
  case atStart => exact ⟨0, by omega, rfl, rfl, Lib.hid ⟨rfl, Below.refl _ _⟩⟩
  case round =>
    obtain ⟨k, hk, rfl, rfl, HR⟩ := hrel
    have hk0 : (0 : Int) ≤ (k : Int) := by omega
    have HBw := Lib.hid (bt HB.out (show Below w1.heap.size w1 wr from HR.out.2))
    obtain ⟨c0, c1, c2, c3, c4, c5, c6⟩ := HC.out wr HR.out.2
    have HC5 := Lib.hid c5
    clear c5
    by_cases hlt : k < nn
    · have hki : (k : Int) < (nn : Int) := by omega
      have HLt := Lib.hid hlt
      have hks : k < F.srcs.length := by rw [← HSn.out]; exact hlt
      obtain ⟨tb, tf, sb, sf, nb, nf, ca, cc, s, m, rfl, rfl, rfl, htb, hsb, hnb, hsl2, hsc, hmc, hmm, htab⟩ := HF.out.at hks
      have hkn : k < F.names.length := by rw [HF.out.nl]; exact hks
      have HD := Lib.hid (show ∀ W : World, Below w.heap.size w W → (W.cell? ⟨sb, sf + k, none⟩ = some (.int .i64 (s : Int)) ∧ W.cell? ⟨tb, tf + s * 3, none⟩ = some (.string (F.tab k).name) ∧ W.cell? ⟨tb, tf + s * 3 + 1, none⟩ = some (.bool (F.tab k).view) ∧ W.cell? ⟨tb, tf + s * 3 + 2, none⟩ = some (.slice ca (F.tab k).cols.length cc) ∧ W.cell? ⟨nb, nf + k, none⟩ = some (.string m) ∧ tb < W.heap.size ∧ sb < W.heap.size ∧ nb < W.heap.size) from fun W h =>
        ⟨(h.cell (p := ⟨sb, sf + k, none⟩) hsb).trans hsc, (htab.below htb h).c0, (htab.below htb h).c1, (htab.below htb h).c2, (h.cell (p := ⟨nb, nf + k, none⟩) hnb).trans hmc, Nat.lt_of_lt_of_le htb h.size, Nat.lt_of_lt_of_le hsb h.size, Nat.lt_of_lt_of_le hnb h.size⟩)
      have HCo := Lib.hid htab.cols
      have HCl := Lib.hid htab.le
      have hmm' : F.names[k] = m := by rw [List.getElem?_eq_getElem hkn] at hmm; exact Option.some.inj hmm
      cases hr : nmP t m with
      | true =>
        have HCI := Lib.hid (colV_hit (colI_t (col := col) HT.out hkn HR.out.1 (by rw [hmm']; exact hr)))
        have hr' : (m.toList == t.toList) = true := hr
        have HS2 := Lib.hid hsl2
        clear hr hmm hmm' hkn hks htab hsl2 hsc hmc htb hsb hnb
        have hst : (s : Int) < (tn : Int) := by rw [HTn.out]; have := HS2.out; omega
        have hs0 : (0 : Int) ≤ (s : Int) := by omega
        obtain ⟨hsc, e0, e1, e2, hmc, htb, hsb, hnb⟩ := HD.out wr HBw.out
        go_wp2_with fail
        go_quiet (fail)
        obtain ⟨w2, hw2⟩ : ∃ w2, w2 = wr.drewN nq := ⟨_, rfl⟩
        rw [← hw2]
        have hb2 : Below wr.heap.size wr w2 := by rw [hw2]; exact drewB
        have HB2 := Lib.hid hb2
        have HBw2 := Lib.hid (bt HBw.out hb2)
        have HB12 := Lib.hid (show Below w1.heap.size w1 w2 from bt HR.out.2 hb2)
        clear hw2 hb2 c0 c1 c2 c3 c4 c6 HC5 e0 e1 e2 hsc hmc htb hsb hnb
        obtain ⟨c0, c1, c2, c3, c4, c5, c6⟩ := HC.out w2 HB12.out
        clear c5
        go_wp2_with fail
        obtain ⟨d0, d1, d2, d3, -, d5, d6, -⟩ := HD.out w2 HBw2.out
        have HS := Lib.hid (show ∀ W : World, Below w2.heap.size w2 W → (W.cell? ⟨w.heap.size, 0, none⟩ = some (.slice (some ⟨tb, tf, none⟩) tn tc) ∧ W.cell? ⟨w.heap.size, 1, none⟩ = some (.slice (some ⟨sb, sf, none⟩) nn sc) ∧ W.cell? ⟨sb, sf + k, none⟩ = some (.int .i64 (s : Int)) ∧ W.cell? ⟨tb, tf + s * 3, none⟩ = some (.string (F.tab k).name) ∧ W.cell? ⟨tb, tf + s * 3 + 1, none⟩ = some (.bool (F.tab k).view) ∧ W.cell? ⟨tb, tf + s * 3 + 2, none⟩ = some (.slice ca (F.tab k).cols.length cc)) from fun W h =>
          ⟨(h.cell (World.block_lt_of_cell? w2 _ c0)).trans c0, (h.cell (World.block_lt_of_cell? w2 _ c1)).trans c1, (h.cell (World.block_lt_of_cell? w2 _ d0)).trans d0, (h.cell (World.block_lt_of_cell? w2 _ d1)).trans d1, (h.cell (World.block_lt_of_cell? w2 _ d2)).trans d2, (h.cell (World.block_lt_of_cell? w2 _ d3)).trans d3⟩)
        clear c2 c3 c4
        go_region_held3 (fun W => W.cell? ⟨w.heap.size, 0, none⟩ = some (.slice (some ⟨tb, tf, none⟩) tn tc) ∧ W.cell? ⟨w.heap.size, 1, none⟩ = some (.slice (some ⟨sb, sf, none⟩) nn sc) ∧ W.cell? ⟨sb, sf + k, none⟩ = some (.int .i64 (s : Int)) ∧ W.cell? ⟨tb, tf + s * 3, none⟩ = some (.string (F.tab k).name) ∧ W.cell? ⟨tb, tf + s * 3 + 1, none⟩ = some (.bool (F.tab k).view) ∧ W.cell? ⟨tb, tf + s * 3 + 2, none⟩ = some (.slice ca (F.tab k).cols.length cc))
          (first | exact HS.out _ (Below.refl _ _).drew | exact HS.out _ (bel0 _ (Below.refl _ _).drew) | exact HS.out _ (bel0 _ (Below.refl _ _)))
          (fail)
        obtain ⟨w3, hw3⟩ : ∃ w3, w3 = (w2.alloc (.cells #[.string (F.tab k).name, .bool (F.tab k).view, .slice ca (F.tab k).cols.length cc] 109)).drew := ⟨_, rfl⟩
        rw [← hw3]
        have hb3 : Below w2.heap.size w2 w3 := by rw [hw3]; exact (bel0 _ (Below.refl _ _)).drew
        have HB13 := Lib.hid (show Below w1.heap.size w1 w3 from bt HB12.out hb3)
        have HBw3 := Lib.hid (bt HBw2.out hb3)
        have HXa := Lib.hid (show w3.heap[w2.heap.size]? = some (.cells #[.string (F.tab k).name, .bool (F.tab k).view, .slice ca (F.tab k).cols.length cc] 109 (0, 0)) by rw [hw3]; exact Go.heap_alloc_new w2 _)
        obtain ⟨-, -, -, -, c4, -, c6⟩ := HC.out w3 HB13.out
        have c8 : w2.heap.size < w3.heap.size := (Array.getElem?_eq_some_iff.1 HXa.out).1
        have x0 := cell_of_row w3 _ 0 _ _ _ HXa.out
        have x1 := cell_of_row w3 _ 1 _ _ _ HXa.out
        have x2 := cell_of_row w3 _ 2 _ _ _ HXa.out
        have HSz := Lib.hid c8
        simp only [List.getElem?_toArray, List.getElem?_cons_zero, List.getElem?_cons_succ] at x0 x1 x2
        clear hw3 hb3 d0 d1 d2 d3 d5 d6 hst hs0 c0 c1
        go_wp2_with fail
        refine (columnOf_any _ (F.tab k) ca cc col (HCo.out.keep HBw3.out) HCl.out).mono ?_
        rintro e4 w4 ⟨rfl, hb4⟩
        have HB14 := Lib.hid (bt HB13.out hb4)
        have HBw4 := Lib.hid (bt HBw3.out hb4)
        have HB34 := Lib.hid (show Below w3.heap.size w3 w4 from hb4)
        have HPl := Lib.hid (posI_lt (p := coP col) (l := (F.tab k).cols))
        have HRn := Lib.hid (colR_neg (F := F) (col := col) (i := k))
        have HRp := Lib.hid (fun n => colR_pos (F := F) (col := col) (i := k) (n := n))
        have HT4 := Lib.hid (cell_of_row w4 w2.heap.size 2 _ _ _ ((hb4.block w2.heap.size HSz.out).trans HXa.out))
        obtain ⟨-, -, -, -, -, HX4, c6⟩ := HC.out w4 HB14.out
        obtain ⟨y, hy⟩ : ∃ y, y = posI (coP col) (F.tab k).cols := ⟨_, rfl⟩
        rw [← hy] at HPl HRn HRp ⊢
        clear hy hb4 c4 c8 x0 x1 x2
        by_cases hy0 : y < 0
        · have HQ := Lib.hid (show colV F t col = (ctZ, 0, 6) from HCI.out.trans (HRn.out hy0))
          have HX9 := Lib.hid (box8 HX4 (.int .i64 0) (.string ⟨#[]⟩) (.int .i64 0) (.int .i64 0) (.string ⟨#[]⟩) (.int .i64 0) (.int .i64 0) (.slice none 0 0))
          have HB9 := Lib.hid (box8_below (K := w.heap.size) (N := w.heap.size + 1 + 1) (by omega) HBw4.out (.int .i64 0) (.string ⟨#[]⟩) (.int .i64 0) (.int .i64 0) (.string ⟨#[]⟩) (.int .i64 0) (.int .i64 0) (.slice none 0 0))
          have HX4' := Lib.hid HX4
          have y0 : w4.cell? ⟨w.heap.size + 1 + 1, 0, none⟩ = some (.int .i64 0) := cell_of_row w4 _ 0 _ _ _ HX4
          have y1 : w4.cell? ⟨w.heap.size + 1 + 1, 1, none⟩ = some (.string ⟨#[]⟩) := cell_of_row w4 _ 1 _ _ _ HX4
          have y2 : w4.cell? ⟨w.heap.size + 1 + 1, 2, none⟩ = some (.int .i64 0) := cell_of_row w4 _ 2 _ _ _ HX4
          have y3 : w4.cell? ⟨w.heap.size + 1 + 1, 3, none⟩ = some (.int .i64 0) := cell_of_row w4 _ 3 _ _ _ HX4
          have y4 : w4.cell? ⟨w.heap.size + 1 + 1, 4, none⟩ = some (.string ⟨#[]⟩) := cell_of_row w4 _ 4 _ _ _ HX4
          have y5 : w4.cell? ⟨w.heap.size + 1 + 1, 5, none⟩ = some (.int .i64 0) := cell_of_row w4 _ 5 _ _ _ HX4
          have y6 : w4.cell? ⟨w.heap.size + 1 + 1, 6, none⟩ = some (.int .i64 0) := cell_of_row w4 _ 6 _ _ _ HX4
          have y7 : w4.cell? ⟨w.heap.size + 1 + 1, 7, none⟩ = some (.slice none 0 0) := cell_of_row w4 _ 7 _ _ _ HX4
          have z0 := frozen_of_row w4 _ 0 _ _ HX4
          have z1 := frozen_of_row w4 _ 1 _ _ HX4
          have z2 := frozen_of_row w4 _ 2 _ _ HX4
          have z3 := frozen_of_row w4 _ 3 _ _ HX4
          have z4 := frozen_of_row w4 _ 4 _ _ HX4
          have z5 := frozen_of_row w4 _ 5 _ _ HX4
          have z6 := frozen_of_row w4 _ 6 _ _ HX4
          have z7 := frozen_of_row w4 _ 7 _ _ HX4
          clear HX4
          go_wp2
          refine bodyPost_ret (results_cellP rfl _ _ (w.heap.size + 1 + 1) _ rfl rfl HX9.out) rfl ?_
          rw [HQ.out]
          exact ⟨⟨_, rfl, none, 0, rfl, rgZ, .nil _⟩, HB9.out⟩
        · obtain ⟨n, rfl⟩ : ∃ n : Nat, y = (n : Int) := ⟨y.toNat, by omega⟩
          have hn0 : (0 : Int) ≤ (n : Int) := by omega
          have HX4' := Lib.hid HX4
          clear HX4
          go_upto_region 18 with (fail)
          have HX4 := HX4'.out
          have hnl : n < (F.tab k).cols.length := by have := HPl.out.2; omega
          have hnI : (n : Int) < ((F.tab k).cols.length : Int) := HPl.out.2
          obtain ⟨cb, cf, rfl, hcb, hco⟩ := HCo.out.at hnl
          have g0 : w4.cell? ⟨w2.heap.size, 2, none⟩ = some (.slice (some ⟨cb, cf, none⟩) (F.tab k).cols.length cc) := HT4.out
          have g1 := (hco.below hcb HBw4.out).c1
          have HQ := Lib.hid (HCI.out.trans (HRp.out n rfl))
          have hgd : (F.tab k).cols.getD n default = (F.tab k).cols[n] := by rw [List.getD_eq_getElem?_getD, List.getElem?_eq_getElem hnl]; rfl
          rw [hgd] at HQ
          obtain ⟨kk, hkk⟩ : ∃ kk, kk = ((F.tab k).cols[n]).kind := ⟨_, rfl⟩
          rw [← hkk] at HQ g1
          have HKs := Lib.hid (show k < F.srcs.length by rw [← HSn.out]; exact HLt.out)
          have HSlk := Lib.hid HF.out.sl
          have HX9 := Lib.hid (box8d HX4 (.int .i64 2) (.string ⟨#[]⟩) (.int .i64 0) (.int .i64 0) (.string ⟨#[]⟩) (.int .i64 (k : Int)) (.int .i64 (n : Int)) (.slice none 0 0))
          have HB9 := Lib.hid (box8_below (K := w.heap.size) (N := w.heap.size + 1 + 1) (by omega) HBw4.out (.int .i64 2) (.string ⟨#[]⟩) (.int .i64 0) (.int .i64 0) (.string ⟨#[]⟩) (.int .i64 (k : Int)) (.int .i64 (n : Int)) (.slice none 0 0))
          have HNe := Lib.hid (show w2.heap.size ≠ w.heap.size + 1 + 1 by have := HBX.out.2; have := HB12.out.size; omega)
          have HNf := Lib.hid (show cb ≠ w.heap.size + 1 + 1 by omega)
          have y0 : w4.cell? ⟨w.heap.size + 1 + 1, 0, none⟩ = some (.int .i64 0) := cell_of_row w4 _ 0 _ _ _ HX4
          have y1 : w4.cell? ⟨w.heap.size + 1 + 1, 1, none⟩ = some (.string ⟨#[]⟩) := cell_of_row w4 _ 1 _ _ _ HX4
          have y2 : w4.cell? ⟨w.heap.size + 1 + 1, 2, none⟩ = some (.int .i64 0) := cell_of_row w4 _ 2 _ _ _ HX4
          have y3 : w4.cell? ⟨w.heap.size + 1 + 1, 3, none⟩ = some (.int .i64 0) := cell_of_row w4 _ 3 _ _ _ HX4
          have y4 : w4.cell? ⟨w.heap.size + 1 + 1, 4, none⟩ = some (.string ⟨#[]⟩) := cell_of_row w4 _ 4 _ _ _ HX4
          have y5 : w4.cell? ⟨w.heap.size + 1 + 1, 5, none⟩ = some (.int .i64 0) := cell_of_row w4 _ 5 _ _ _ HX4
          have y6 : w4.cell? ⟨w.heap.size + 1 + 1, 6, none⟩ = some (.int .i64 0) := cell_of_row w4 _ 6 _ _ _ HX4
          have y7 : w4.cell? ⟨w.heap.size + 1 + 1, 7, none⟩ = some (.slice none 0 0) := cell_of_row w4 _ 7 _ _ _ HX4
          have z0 := frozen_of_row w4 _ 0 _ _ HX4
          have z1 := frozen_of_row w4 _ 1 _ _ HX4
          have z2 := frozen_of_row w4 _ 2 _ _ HX4
          have z3 := frozen_of_row w4 _ 3 _ _ HX4
          have z4 := frozen_of_row w4 _ 4 _ _ HX4
          have z5 := frozen_of_row w4 _ 5 _ _ HX4
          have z6 := frozen_of_row w4 _ 6 _ _ HX4
          have z7 := frozen_of_row w4 _ 7 _ _ HX4
          have g0d : w4.drew.cell? ⟨w2.heap.size, 2, none⟩ = some (.slice (some ⟨cb, cf, none⟩) (F.tab k).cols.length cc) := g0
          have g1d : w4.drew.cell? ⟨cb, cf + n * 4 + 1, none⟩ = some (.int .i64 kk) := g1
          obtain ⟨cl, hcl⟩ : ∃ cl, cl = (F.tab k).cols.length := ⟨_, rfl⟩
          rw [← hcl] at g0 g0d hnI
          obtain ⟨ad, had⟩ : ∃ ad, ad = cf + n * 4 + 1 := ⟨_, rfl⟩
          have HAd := Lib.hid had
          clear HX4 hco hkk hgd hnl hcl hr' hki hcb had
          go_region_held3 (fun W => W.cell? ⟨w2.heap.size, 2, none⟩ = some (.slice (some ⟨cb, cf, none⟩) cl cc) ∧ W.cell? ⟨cb, cf + n * 4 + 1, none⟩ = some (.int .i64 kk))
            (first | (with_reducible exact ⟨g0, g1⟩) | (with_reducible exact ⟨g0d, g1d⟩) | (with_reducible exact ⟨(cell8d HNe.out).trans g0, (cell8d HNf.out).trans g1⟩) | (with_reducible exact ⟨(cell8 HNe.out).trans g0, (cell8 HNf.out).trans g1⟩))
            (fail)
          go_wp2
          refine bodyPost_ret (results_cellP rfl _ _ (w.heap.size + 1 + 1) _ rfl rfl HX9.out) rfl ?_
          rw [HQ.out]
          exact ⟨⟨_, rfl, none, 0, rfl, rgC (by have := HKs.out; have := HSlk.out; omega) (by have := HCl.out; have := HPl.out.2; omega), .nil _⟩, HB9.out.drew⟩
      | false =>
        have HM := Lib.hid (any_more (p := nmP t) hkn HR.out.1 (by rw [hmm']; exact hr))
        have hr' : (m.toList == t.toList) = false := hr
        clear hr hmm hmm' hkn hks htab hsl2 hsc hmc htb hsb hnb
        obtain ⟨hsc, e0, e1, e2, hmc, htb, hsb, hnb⟩ := HD.out wr HBw.out
        clear e0 e1 e2
        go_wp2_with fail
        go_quiet (fail)
        obtain ⟨w2, hw2⟩ : ∃ w2, w2 = wr.drewN nq := ⟨_, rfl⟩
        rw [← hw2]
        have hb2 : Below wr.heap.size wr w2 := by rw [hw2]; exact drewB
        have HB12 := Lib.hid (show Below w1.heap.size w1 w2 from bt HR.out.2 hb2)
        clear hw2 hb2 c0 c1 c2 c3 c4 c6 HC5 hsc hmc htb hsb hnb
        obtain ⟨c0, c1, c2, c3, c4, c5, c6⟩ := HC.out w2 HB12.out
        clear c5
        go_upto_region 7 with (fail)
        go_quiet (fail)
        obtain ⟨w3, hw3⟩ : ∃ w3, w3 = w2.drewN nq := ⟨_, rfl⟩
        rw [← hw3]
        have hb3 : Below w2.heap.size w2 w3 := by rw [hw3]; exact drewB
        have HB13 := Lib.hid (show Below w1.heap.size w1 w3 from bt HB12.out hb3)
        clear hw3 hb3 c0 c1 c2 c3 c4 c6
        go_wp2
        go_roundw
        case rel => exact ⟨k + 1, HLt.out, by go_num, rfl, Lib.hid ⟨HM.out, HB13.out⟩⟩
        case measure => have := HLt.out; simp [intOf]; omega
    · have hkk : ¬ ((k : Int) < (nn : Int)) := by omega
      have HQ := Lib.hid (show colV F t col = (ctZ, 0, 6) from colV_none (colI_t0 HT.out (by
        have h1 := HR.out.1
        rw [List.take_of_length_le (by rw [HF.out.nl, ← HSn.out]; omega)] at h1
        exact h1)))
      have HX5 := HC5.out
      clear c0 c1 c2 c3 c4 HC5
      have HX9 := Lib.hid (box8 HX5 (.int .i64 0) (.string ⟨#[]⟩) (.int .i64 0) (.int .i64 0) (.string ⟨#[]⟩) (.int .i64 0) (.int .i64 0) (.slice none 0 0))
      have HB9 := Lib.hid (box8_below (K := w.heap.size) (N := w.heap.size + 1 + 1) (by omega) HBw.out (.int .i64 0) (.string ⟨#[]⟩) (.int .i64 0) (.int .i64 0) (.string ⟨#[]⟩) (.int .i64 0) (.int .i64 0) (.slice none 0 0))
      have HX5' := Lib.hid HX5
      have y0 : wr.cell? ⟨w.heap.size + 1 + 1, 0, none⟩ = some (.int .i64 0) := cell_of_row wr _ 0 _ _ _ HX5
      have y1 : wr.cell? ⟨w.heap.size + 1 + 1, 1, none⟩ = some (.string ⟨#[]⟩) := cell_of_row wr _ 1 _ _ _ HX5
      have y2 : wr.cell? ⟨w.heap.size + 1 + 1, 2, none⟩ = some (.int .i64 0) := cell_of_row wr _ 2 _ _ _ HX5
      have y3 : wr.cell? ⟨w.heap.size + 1 + 1, 3, none⟩ = some (.int .i64 0) := cell_of_row wr _ 3 _ _ _ HX5
      have y4 : wr.cell? ⟨w.heap.size + 1 + 1, 4, none⟩ = some (.string ⟨#[]⟩) := cell_of_row wr _ 4 _ _ _ HX5
      have y5 : wr.cell? ⟨w.heap.size + 1 + 1, 5, none⟩ = some (.int .i64 0) := cell_of_row wr _ 5 _ _ _ HX5
      have y6 : wr.cell? ⟨w.heap.size + 1 + 1, 6, none⟩ = some (.int .i64 0) := cell_of_row wr _ 6 _ _ _ HX5
      have y7 : wr.cell? ⟨w.heap.size + 1 + 1, 7, none⟩ = some (.slice none 0 0) := cell_of_row wr _ 7 _ _ _ HX5
      have z0 := frozen_of_row wr _ 0 _ _ HX5
      have z1 := frozen_of_row wr _ 1 _ _ HX5
      have z2 := frozen_of_row wr _ 2 _ _ HX5
      have z3 := frozen_of_row wr _ 3 _ _ HX5
      have z4 := frozen_of_row wr _ 4 _ _ HX5
      have z5 := frozen_of_row wr _ 5 _ _ HX5
      have z6 := frozen_of_row wr _ 6 _ _ HX5
      have z7 := frozen_of_row wr _ 7 _ _ HX5
      clear HX5
      go_wp2
      refine bodyPost_ret (results_cellP rfl _ _ (w.heap.size + 1 + 1) _ rfl rfl HX9.out) rfl ?_
      rw [HQ.out]
      exact ⟨⟨_, rfl, none, 0, rfl, rgZ, .nil _⟩, HB9.out⟩
end Go.Proofs.Ytafhgilikcablaa
namespace Go.Proofs.Ytafhgilikcablaa
open Go.RowKit
set_option linter.unusedVariables false
set_option linter.unusedSimpArgs false
set_option maxRecDepth 100000
theorem z8 {w : World} {N : Nat} {T : TypeId} (h : w.heap[N]? = some (.cells #[.int .i64 0, .string ⟨#[]⟩, .int .i64 0, .int .i64 0, .string ⟨#[]⟩, .int .i64 0, .int .i64 0, .slice none 0 0] T (0, 0))) : w.cell? ⟨N, 0, none⟩ = some (.int .i64 0) ∧ w.cell? ⟨N, 1, none⟩ = some (.string ⟨#[]⟩) ∧ w.cell? ⟨N, 2, none⟩ = some (.int .i64 0) ∧ w.cell? ⟨N, 3, none⟩ = some (.int .i64 0) ∧ w.cell? ⟨N, 4, none⟩ = some (.string ⟨#[]⟩) ∧ w.cell? ⟨N, 5, none⟩ = some (.int .i64 0) ∧ w.cell? ⟨N, 6, none⟩ = some (.int .i64 0) ∧ w.cell? ⟨N, 7, none⟩ = some (.slice none 0 0) ∧ w.frozen? ⟨N, 0, none⟩ = false ∧ w.frozen? ⟨N, 1, none⟩ = false ∧ w.frozen? ⟨N, 2, none⟩ = false ∧ w.frozen? ⟨N, 3, none⟩ = false ∧ w.frozen? ⟨N, 4, none⟩ = false ∧ w.frozen? ⟨N, 5, none⟩ = false ∧ w.frozen? ⟨N, 6, none⟩ = false ∧ w.frozen? ⟨N, 7, none⟩ = false ∧ N < w.heap.size :=
  ⟨cell_of_row w _ 0 _ _ _ h, cell_of_row w _ 1 _ _ _ h, cell_of_row w _ 2 _ _ _ h, cell_of_row w _ 3 _ _ _ h, cell_of_row w _ 4 _ _ _ h, cell_of_row w _ 5 _ _ _ h, cell_of_row w _ 6 _ _ _ h, cell_of_row w _ 7 _ _ _ h, frozen_of_row w _ 0 _ _ h, frozen_of_row w _ 1 _ _ h, frozen_of_row w _ 2 _ _ h, frozen_of_row w _ 3 _ _ h, frozen_of_row w _ 4 _ _ h, frozen_of_row w _ 5 _ _ h, frozen_of_row w _ 6 _ _ h, frozen_of_row w _ 7 _ _ h, (Array.getElem?_eq_some_iff.1 h).1⟩
theorem results_cellR {fn : Func} {p u v : Tmp} (h : fn.results = #[.cell p 56, .tmp u, .tmp v]) (tmps : Array Value) (w : World) (g : Nat) (cs : Array Value) (hz : cs.size = 8)
    (hp : tmps.getD p undef = .pointer (some ⟨g, 0, none⟩)) (hg : w.heap[g]? = some (.cells cs 56 (0, 0))) :
    (results fn tmps).run Try.prog w = .ok (.tuple #[.agg cs, tmps.getD u undef, tmps.getD v undef]) w := by
  have hp' : tmps[p]?.getD undef = .pointer (some ⟨g, 0, none⟩) := by simpa using hp
  have hl := run_loadVar_row (P := Try.prog) w g 56 56 cs (0, 0) _ hg Try.underlying56 rfl (by
    have : (Try.prog.info? 56).map (·.size) = some 8 := by kernel_rfl
    rw [hz]
    exact this)
  simp [results, h, hp', asAddr, hl]
theorem boxes2 (w : World) (A B : Obj) : (((w.alloc A).alloc B).heap[w.heap.size]? = some A ∧ ((w.alloc A).alloc B).heap[w.heap.size + 1]? = some B) ∧ ((w.alloc A).alloc B).heap.size = w.heap.size + 1 + 1 := by
  refine ⟨⟨(alloc_old3 _ B (by simp)).trans (Go.heap_alloc_new w A), ?_⟩, by simp⟩
  have := Go.heap_alloc_new (w.alloc A) B
  simpa using this
end Go.Proofs.Ytafhgilikcablaa
