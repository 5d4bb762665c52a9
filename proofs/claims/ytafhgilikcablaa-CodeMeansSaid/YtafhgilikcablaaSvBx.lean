/- A block of eight cells that holds a zero cell, at a glance; results in a cell (the document's). -/
import Derived.Test.YtafhgilikcablaaSvIdx
import Derived.Test.YtafhgilikcablaaEtTh
import Derived.Test.YtafhgilikcablaaQTail
namespace Go.Proofs.Ytafhgilikcablaa
open Go.RowKit
set_option linter.unusedVariables false
set_option linter.unusedSimpArgs false
set_option maxRecDepth 100000

structure FnD where
  tabs : List TB
  srcs : List Nat
  names : List ByteArray
instance coInh : Inhabited CO := ⟨⟨⟨#[]⟩, 0, false, false⟩⟩
instance tbInh : Inhabited TB := ⟨⟨⟨#[]⟩, false, []⟩⟩
def FnD.tab (F : FnD) (i : Nat) : TB := F.tabs.getD (F.srcs.getD i 0) default
structure FnAt (w : World) (F : FnD) (ta sa na : Option Addr) : Prop where
  tabs : TabsAt w ta F.tabs
  srcs : IntsAt w sa (F.srcs.map Int.ofNat)
  names : StrsAt w na F.names
  ok : ∀ s ∈ F.srcs, s < F.tabs.length
  nl : F.names.length = F.srcs.length
  tl : F.tabs.length ≤ 9223372036854775807
  sl : F.srcs.length ≤ 9223372036854775807
theorem FnAt.keep {w w' : World} {F : FnD} {ta sa na : Option Addr} (h : FnAt w F ta sa na) (hb : Below w.heap.size w w') : FnAt w' F ta sa na :=
  ⟨h.tabs.keep hb, h.srcs.keep hb, h.names.keep hb, h.ok, h.nl, h.tl, h.sl⟩
/-- a source: its number, its table, its name -/
theorem FnAt.at {w : World} {F : FnD} {ta sa na : Option Addr} (h : FnAt w F ta sa na) {i : Nat} (hi : i < F.srcs.length) :
    ∃ tb tf sb sf nb nf ca cc s m, ta = some ⟨tb, tf, none⟩ ∧ sa = some ⟨sb, sf, none⟩ ∧ na = some ⟨nb, nf, none⟩ ∧ tb < w.heap.size ∧ sb < w.heap.size ∧ nb < w.heap.size ∧ s < F.tabs.length ∧ w.cell? ⟨sb, sf + i, none⟩ = some (.int .i64 (s : Int)) ∧ w.cell? ⟨nb, nf + i, none⟩ = some (.string m) ∧ F.names[i]? = some m ∧ TBAt w tb (tf + s * 3) (F.tab i) ca cc := by
  obtain ⟨sb, sf, hs1, hs2, hs3⟩ := h.srcs.at (i := i) (by simpa using hi)
  obtain ⟨nb, nf, hn1, hn2, hn3⟩ := h.names.at (i := i) (by rw [h.nl]; exact hi)
  have hm := h.ok _ (List.getElem_mem hi)
  obtain ⟨tb, tf, ca, cc, ht1, ht2, ht3⟩ := h.tabs.at hm
  rw [List.getElem_map] at hs3
  refine ⟨tb, tf, sb, sf, nb, nf, ca, cc, F.srcs[i], F.names[i]'(by rw [h.nl]; exact hi), ht1, hs1, hn1, ht2, hs2, hn2, hm, hs3, hn3, List.getElem?_eq_getElem _, ?_⟩
  have : F.tab i = F.tabs[F.srcs[i]] := by
    unfold FnD.tab
    rw [List.getD_eq_getElem?_getD, List.getD_eq_getElem?_getD, List.getElem?_eq_getElem hi]
    show (F.tabs[F.srcs[i]]?).getD default = _
    rw [List.getElem?_eq_getElem hm]
    rfl
  rw [this]
  exact ht3
def hitC (F : FnD) (col : ByteArray) (i : Nat) : Bool := decide (0 ≤ posI (coP col) (F.tab i).cols)
def nmP (t : ByteArray) (m : ByteArray) : Bool := m.toList == t.toList
def oneOf : List Nat → Option Nat
  | [i] => some i
  | _ => none
def colI (F : FnD) (t col : ByteArray) : Option Nat := if t.toList = [] then oneOf ((List.range F.srcs.length).filter (hitC F col)) else F.names.findIdx? (nmP t)
def ctZ : CT := .mk 0 ⟨#[]⟩ 0 0 ⟨#[]⟩ 0 0 []
def colR (F : FnD) (col : ByteArray) (i : Nat) : CT × Int × Int :=
  let n := posI (coP col) (F.tab i).cols
  if n < 0 then (ctZ, 0, 6) else (.mk 2 ⟨#[]⟩ 0 0 ⟨#[]⟩ i n [], ((F.tab i).cols.getD n.toNat default).kind, 0)
def colV (F : FnD) (t col : ByteArray) : CT × Int × Int := match colI F t col with | none => (ctZ, 0, 6) | some i => colR F col i
theorem colV_hit {F : FnD} {t col : ByteArray} {i : Nat} (h : colI F t col = some i) : colV F t col = colR F col i := by unfold colV; rw [h]
theorem colV_none {F : FnD} {t col : ByteArray} (h : colI F t col = none) : colV F t col = (ctZ, 0, 6) := by unfold colV; rw [h]
theorem colR_neg {F : FnD} {col : ByteArray} {i : Nat} (h : posI (coP col) (F.tab i).cols < 0) : colR F col i = (ctZ, 0, 6) := by unfold colR; exact if_pos h
theorem colR_pos {F : FnD} {col : ByteArray} {i n : Nat} (h : posI (coP col) (F.tab i).cols = (n : Int)) : colR F col i = (.mk 2 ⟨#[]⟩ 0 0 ⟨#[]⟩ i n [], ((F.tab i).cols.getD n default).kind, 0) := by unfold colR; dsimp only; rw [h, if_neg (by omega)]; rfl
/-- the first name that fits -/
theorem colI_t {F : FnD} {t col : ByteArray} (ht : t.toList ≠ []) {k : Nat} (hk : k < F.names.length) (h0 : (F.names.take k).any (nmP t) = false) (h : nmP t (F.names[k]) = true) : colI F t col = some k := by
  unfold colI
  rw [if_neg ht, List.findIdx?_eq_some_iff_getElem]
  refine ⟨hk, h, fun j hj => ?_⟩
  have h1 := List.any_eq_false.1 h0 (F.names[j]'(by omega)) (List.mem_take_iff_getElem.2 ⟨j, by omega, rfl⟩)
  simpa using h1
theorem colI_t0 {F : FnD} {t col : ByteArray} (ht : t.toList ≠ []) (h0 : F.names.any (nmP t) = false) : colI F t col = none := by
  unfold colI
  rw [if_neg ht, List.findIdx?_eq_none_iff]
  exact fun x hx => by have := List.any_eq_false.1 h0 x hx; simpa using this
/-- what was found so far, where no name is said -/
def FndE (F : FnD) (col : ByteArray) (k : Nat) (f : Int) : Prop := (f = -1 ∧ (List.range k).filter (hitC F col) = []) ∨ ∃ i : Nat, f = (i : Int) ∧ i < k ∧ (List.range k).filter (hitC F col) = [i]
theorem fndE_0 (F : FnD) (col : ByteArray) : FndE F col 0 (-1) := .inl ⟨rfl, rfl⟩
theorem fndE_no {F : FnD} {col : ByteArray} {k : Nat} {f : Int} (h : FndE F col k f) (hn : hitC F col k = false) : FndE F col (k + 1) f := by
  have e : (List.range (k + 1)).filter (hitC F col) = (List.range k).filter (hitC F col) := by rw [List.range_succ, List.filter_append]; simp [hn]
  rcases h with ⟨h1, h2⟩ | ⟨i, h1, h2, h3⟩
  · exact .inl ⟨h1, by rw [e]; exact h2⟩
  · exact .inr ⟨i, h1, by omega, by rw [e]; exact h3⟩
theorem fndE_yes {F : FnD} {col : ByteArray} {k : Nat} {f : Int} (h : FndE F col k f) (hn : hitC F col k = true) (hf : f < 0) : FndE F col (k + 1) (k : Int) := by
  have e : (List.range (k + 1)).filter (hitC F col) = (List.range k).filter (hitC F col) ++ [k] := by rw [List.range_succ, List.filter_append]; simp [hn]
  rcases h with ⟨h1, h2⟩ | ⟨i, h1, h2, h3⟩
  · exact .inr ⟨k, rfl, by omega, by rw [e, h2]; rfl⟩
  · omega
theorem fndE_two {F : FnD} {t col : ByteArray} {k : Nat} {f : Int} (ht : t.toList = []) (h : FndE F col k f) (hn : hitC F col k = true) (hf : 0 ≤ f) (hk : k < F.srcs.length) : colI F t col = none := by
  have e : (List.range (k + 1)).filter (hitC F col) = (List.range k).filter (hitC F col) ++ [k] := by rw [List.range_succ, List.filter_append]; simp [hn]
  rcases h with ⟨h1, h2⟩ | ⟨i, h1, h2, h3⟩
  · omega
  · unfold colI
    rw [if_pos ht]
    obtain ⟨m, hm⟩ : ∃ m, F.srcs.length = (k + 1) + m := ⟨F.srcs.length - (k + 1), by omega⟩
    rw [hm, List.range_add, List.filter_append, e, h3]
    rfl
theorem fndE_end {F : FnD} {t col : ByteArray} {f : Int} (ht : t.toList = []) (h : FndE F col F.srcs.length f) : (f < 0 ∧ colI F t col = none) ∨ ∃ i : Nat, f = (i : Int) ∧ i < F.srcs.length ∧ colI F t col = some i := by
  unfold colI
  rw [if_pos ht]
  rcases h with ⟨h1, h2⟩ | ⟨i, h1, h2, h3⟩
  · exact .inl ⟨by omega, by rw [h2]; rfl⟩
  · exact .inr ⟨i, h1, h2, by rw [h3]; rfl⟩
end Go.Proofs.Ytafhgilikcablaa
namespace Go.Proofs.Ytafhgilikcablaa
open Go.RowKit
set_option linter.unusedVariables false
set_option linter.unusedSimpArgs false
set_option maxRecDepth 100000

theorem st8_0 {w : World} {N : Nat} {x0 x1 x2 x3 x4 x5 x6 x7 : Value} {T : TypeId} (h : w.heap[N]? = some (.cells #[x0, x1, x2, x3, x4, x5, x6, x7] T (0, 0))) (a : Value) : (w.setCell ⟨N, 0, none⟩ a).heap[N]? = some (.cells #[a, x1, x2, x3, x4, x5, x6, x7] T (0, 0)) := Go.heap_setCell_same w N 0 _ _ _ h
theorem st8_1 {w : World} {N : Nat} {x0 x1 x2 x3 x4 x5 x6 x7 : Value} {T : TypeId} (h : w.heap[N]? = some (.cells #[x0, x1, x2, x3, x4, x5, x6, x7] T (0, 0))) (a : Value) : (w.setCell ⟨N, 1, none⟩ a).heap[N]? = some (.cells #[x0, a, x2, x3, x4, x5, x6, x7] T (0, 0)) := Go.heap_setCell_same w N 1 _ _ _ h
theorem st8_2 {w : World} {N : Nat} {x0 x1 x2 x3 x4 x5 x6 x7 : Value} {T : TypeId} (h : w.heap[N]? = some (.cells #[x0, x1, x2, x3, x4, x5, x6, x7] T (0, 0))) (a : Value) : (w.setCell ⟨N, 2, none⟩ a).heap[N]? = some (.cells #[x0, x1, a, x3, x4, x5, x6, x7] T (0, 0)) := Go.heap_setCell_same w N 2 _ _ _ h
theorem st8_3 {w : World} {N : Nat} {x0 x1 x2 x3 x4 x5 x6 x7 : Value} {T : TypeId} (h : w.heap[N]? = some (.cells #[x0, x1, x2, x3, x4, x5, x6, x7] T (0, 0))) (a : Value) : (w.setCell ⟨N, 3, none⟩ a).heap[N]? = some (.cells #[x0, x1, x2, a, x4, x5, x6, x7] T (0, 0)) := Go.heap_setCell_same w N 3 _ _ _ h
theorem st8_4 {w : World} {N : Nat} {x0 x1 x2 x3 x4 x5 x6 x7 : Value} {T : TypeId} (h : w.heap[N]? = some (.cells #[x0, x1, x2, x3, x4, x5, x6, x7] T (0, 0))) (a : Value) : (w.setCell ⟨N, 4, none⟩ a).heap[N]? = some (.cells #[x0, x1, x2, x3, a, x5, x6, x7] T (0, 0)) := Go.heap_setCell_same w N 4 _ _ _ h
theorem st8_5 {w : World} {N : Nat} {x0 x1 x2 x3 x4 x5 x6 x7 : Value} {T : TypeId} (h : w.heap[N]? = some (.cells #[x0, x1, x2, x3, x4, x5, x6, x7] T (0, 0))) (a : Value) : (w.setCell ⟨N, 5, none⟩ a).heap[N]? = some (.cells #[x0, x1, x2, x3, x4, a, x6, x7] T (0, 0)) := Go.heap_setCell_same w N 5 _ _ _ h
theorem st8_6 {w : World} {N : Nat} {x0 x1 x2 x3 x4 x5 x6 x7 : Value} {T : TypeId} (h : w.heap[N]? = some (.cells #[x0, x1, x2, x3, x4, x5, x6, x7] T (0, 0))) (a : Value) : (w.setCell ⟨N, 6, none⟩ a).heap[N]? = some (.cells #[x0, x1, x2, x3, x4, x5, a, x7] T (0, 0)) := Go.heap_setCell_same w N 6 _ _ _ h
theorem st8_7 {w : World} {N : Nat} {x0 x1 x2 x3 x4 x5 x6 x7 : Value} {T : TypeId} (h : w.heap[N]? = some (.cells #[x0, x1, x2, x3, x4, x5, x6, x7] T (0, 0))) (a : Value) : (w.setCell ⟨N, 7, none⟩ a).heap[N]? = some (.cells #[x0, x1, x2, x3, x4, x5, x6, a] T (0, 0)) := Go.heap_setCell_same w N 7 _ _ _ h
theorem box8 {w : World} {N : Nat} {x0 x1 x2 x3 x4 x5 x6 x7 : Value} {T : TypeId} (h : w.heap[N]? = some (.cells #[x0, x1, x2, x3, x4, x5, x6, x7] T (0, 0))) (a0 a1 a2 a3 a4 a5 a6 a7 : Value) :
    ((((((((w.setCell ⟨N, 0, none⟩ a0).setCell ⟨N, 1, none⟩ a1).setCell ⟨N, 2, none⟩ a2).setCell ⟨N, 3, none⟩ a3).setCell ⟨N, 4, none⟩ a4).setCell ⟨N, 5, none⟩ a5).setCell ⟨N, 6, none⟩ a6).setCell ⟨N, 7, none⟩ a7).heap[N]? = some (.cells #[a0, a1, a2, a3, a4, a5, a6, a7] T (0, 0)) :=
  st8_7 (st8_6 (st8_5 (st8_4 (st8_3 (st8_2 (st8_1 (st8_0 h a0) a1) a2) a3) a4) a5) a6) a7
theorem drew_at (w : World) (N : Nat) : w.drew.heap[N]? = w.heap[N]? := rfl
theorem box8d {w : World} {N : Nat} {x0 x1 x2 x3 x4 x5 x6 x7 : Value} {T : TypeId} (h : w.heap[N]? = some (.cells #[x0, x1, x2, x3, x4, x5, x6, x7] T (0, 0))) (a0 a1 a2 a3 a4 a5 a6 a7 : Value) :
    ((((((((w.setCell ⟨N, 0, none⟩ a0).setCell ⟨N, 1, none⟩ a1).setCell ⟨N, 2, none⟩ a2).setCell ⟨N, 3, none⟩ a3).setCell ⟨N, 4, none⟩ a4).setCell ⟨N, 5, none⟩ a5).setCell ⟨N, 6, none⟩ a6).setCell ⟨N, 7, none⟩ a7).drew.heap[N]? = some (.cells #[a0, a1, a2, a3, a4, a5, a6, a7] T (0, 0)) := (drew_at _ _).trans (box8 h a0 a1 a2 a3 a4 a5 a6 a7)
theorem box8_below {w w1 : World} {K N : Nat} (hK : K ≤ N) (h : Below K w w1) (a0 a1 a2 a3 a4 a5 a6 a7 : Value) :
    Below K w ((((((((w1.setCell ⟨N, 0, none⟩ a0).setCell ⟨N, 1, none⟩ a1).setCell ⟨N, 2, none⟩ a2).setCell ⟨N, 3, none⟩ a3).setCell ⟨N, 4, none⟩ a4).setCell ⟨N, 5, none⟩ a5).setCell ⟨N, 6, none⟩ a6).setCell ⟨N, 7, none⟩ a7) :=
  (((((((h.setCell hK _).setCell hK _).setCell hK _).setCell hK _).setCell hK _).setCell hK _).setCell hK _).setCell hK _
theorem drewB {w : World} {n : Nat} : Below w.heap.size w (w.drewN n) := ⟨rfl, rfl, rfl, Nat.le_refl _, fun _ _ => rfl⟩
theorem alloc_old3 (w : World) (o : Obj) {i : Nat} (hi : i < w.heap.size) : (w.alloc o).heap[i]? = w.heap[i]? := (World.grownBy_alloc w o none).block i hi (fun e => by cases e)
theorem boxes3 (w : World) (A B C : Obj) : ((((w.alloc A).alloc B).alloc C).heap[w.heap.size]? = some A ∧ (((w.alloc A).alloc B).alloc C).heap[w.heap.size + 1]? = some B ∧ (((w.alloc A).alloc B).alloc C).heap[w.heap.size + 1 + 1]? = some C) ∧ (((w.alloc A).alloc B).alloc C).heap.size = w.heap.size + 1 + 1 + 1 := by
  refine ⟨⟨(alloc_old3 _ C (by simp; omega)).trans ((alloc_old3 _ B (by simp)).trans (Go.heap_alloc_new w A)), ?_, ?_⟩, by simp⟩
  · have := Go.heap_alloc_new (w.alloc A) B
    exact (alloc_old3 _ C (by simp)).trans (by simpa using this)
  · have := Go.heap_alloc_new ((w.alloc A).alloc B) C
    simpa using this
theorem cell8 {w : World} {N b o : Nat} (h : b ≠ N) {a0 a1 a2 a3 a4 a5 a6 a7 : Value} : ((((((((w.setCell ⟨N, 0, none⟩ a0).setCell ⟨N, 1, none⟩ a1).setCell ⟨N, 2, none⟩ a2).setCell ⟨N, 3, none⟩ a3).setCell ⟨N, 4, none⟩ a4).setCell ⟨N, 5, none⟩ a5).setCell ⟨N, 6, none⟩ a6).setCell ⟨N, 7, none⟩ a7).cell? ⟨b, o, none⟩ = w.cell? ⟨b, o, none⟩ :=
  World.cell?_of_block ((heap_setCell_other _ _ _ _ h).trans ((heap_setCell_other _ _ _ _ h).trans ((heap_setCell_other _ _ _ _ h).trans ((heap_setCell_other _ _ _ _ h).trans ((heap_setCell_other _ _ _ _ h).trans ((heap_setCell_other _ _ _ _ h).trans ((heap_setCell_other _ _ _ _ h).trans (heap_setCell_other _ _ _ _ h))))))))
theorem drew_cell (w : World) (p : Addr) : w.drew.cell? p = w.cell? p := rfl
theorem cell8d {w : World} {N b o : Nat} (h : b ≠ N) {a0 a1 a2 a3 a4 a5 a6 a7 : Value} : ((((((((w.setCell ⟨N, 0, none⟩ a0).setCell ⟨N, 1, none⟩ a1).setCell ⟨N, 2, none⟩ a2).setCell ⟨N, 3, none⟩ a3).setCell ⟨N, 4, none⟩ a4).setCell ⟨N, 5, none⟩ a5).setCell ⟨N, 6, none⟩ a6).setCell ⟨N, 7, none⟩ a7).drew.cell? ⟨b, o, none⟩ = w.cell? ⟨b, o, none⟩ := (drew_cell _ _).trans (cell8 h)
/-- what a cell's finder answers -/
def CellAns (w : World) (r : CT × Int × Int) (e' : Ending) (w' : World) : Prop := (∃ v, e' = .returned (.tuple #[v, .int .i64 r.2.1, .int .i64 r.2.2]) ∧ CV w' (fun b => w.heap.size ≤ b) v r.1) ∧ Below w.heap.size w w'
theorem rgZ : CRg ctZ none 0 := ⟨by decide, by decide, by decide, by decide, by decide, by decide, by decide, fun _ => ⟨rfl, rfl⟩, Nat.le_refl _, by decide⟩
theorem wf64 {k : Int} (h0 : -9223372036854775808 ≤ k) (h1 : k ≤ 9223372036854775807) : (Lit.int .i64 k).wf = true := by
  have e1 : IntKind.i64.min = -9223372036854775808 := by decide
  have e2 : IntKind.i64.max = 9223372036854775807 := by decide
  simp only [Lit.wf, e1, e2, Bool.and_eq_true, decide_eq_true_eq]
  exact ⟨h0, h1⟩
theorem rgC {k n : Nat} (hk : k ≤ 9223372036854775807) (hn : n ≤ 9223372036854775807) : CRg (.mk 2 ⟨#[]⟩ 0 0 ⟨#[]⟩ k n []) none 0 :=
  ⟨(by decide : (Lit.int .i64 2).wf = true), (by decide : (Lit.int .i64 0).wf = true), (by decide : (Lit.int .i64 0).wf = true), Nat.zero_le _, Nat.zero_le _, wf64 (show _ ≤ (k : Int) by omega) (show (k : Int) ≤ _ by omega), wf64 (show _ ≤ (n : Int) by omega) (show (n : Int) ≤ _ by omega), fun _ => ⟨rfl, rfl⟩, Nat.le_refl _, Nat.zero_le _⟩
end Go.Proofs.Ytafhgilikcablaa
namespace Go.Proofs.Ytafhgilikcablaa
open Go.RowKit
set_option linter.unusedVariables false
set_option linter.unusedSimpArgs false
set_option maxRecDepth 100000
theorem z8 {w : World} {N : Nat} {T : TypeId} (h : w.heap[N]? = some (.cells #[.int .i64 0, .string ⟨#[]⟩, .int .i64 0, .int .i64 0, .string ⟨#[]⟩, .int .i64 0, .int .i64 0, .slice none 0 0] T (0, 0))) : w.cell? ⟨N, 0, none⟩ = some (.int .i64 0) ∧ w.cell? ⟨N, 1, none⟩ = some (.string ⟨#[]⟩) ∧ w.cell? ⟨N, 2, none⟩ = some (.int .i64 0) ∧ w.cell? ⟨N, 3, none⟩ = some (.int .i64 0) ∧ w.cell? ⟨N, 4, none⟩ = some (.string ⟨#[]⟩) ∧ w.cell? ⟨N, 5, none⟩ = some (.int .i64 0) ∧ w.cell? ⟨N, 6, none⟩ = some (.int .i64 0) ∧ w.cell? ⟨N, 7, none⟩ = some (.slice none 0 0) ∧ w.frozen? ⟨N, 0, none⟩ = false ∧ w.frozen? ⟨N, 1, none⟩ = false ∧ w.frozen? ⟨N, 2, none⟩ = false ∧ w.frozen? ⟨N, 3, none⟩ = false ∧ w.frozen? ⟨N, 4, none⟩ = false ∧ w.frozen? ⟨N, 5, none⟩ = false ∧ w.frozen? ⟨N, 6, none⟩ = false ∧ w.frozen? ⟨N, 7, none⟩ = false ∧ N < w.heap.size :=
  ⟨cell_of_row w _ 0 _ _ _ h, cell_of_row w _ 1 _ _ _ h, cell_of_row w _ 2 _ _ _ h, cell_of_row w _ 3 _ _ _ h, cell_of_row w _ 4 _ _ _ h, cell_of_row w _ 5 _ _ _ h, cell_of_row w _ 6 _ _ _ h, cell_of_row w _ 7 _ _ _ h, frozen_of_row w _ 0 _ _ h, frozen_of_row w _ 1 _ _ h, frozen_of_row w _ 2 _ _ h, frozen_of_row w _ 3 _ _ h, frozen_of_row w _ 4 _ _ h, frozen_of_row w _ 5 _ _ h, frozen_of_row w _ 6 _ _ h, frozen_of_row w _ 7 _ _ h, (Array.getElem?_eq_some_iff.1 h).1⟩
theorem results_cellR {fn : Func} {p u v : Tmp} (h : fn.results = #[.cell p 56, .tmp u, .tmp v]) (tmps : Array Value) (w : World) (g : Nat) (cs : Array Value) (hz : cs.size = 8)
    (hp : tmps.getD p undef = .pointer (some ⟨g, 0, none⟩)) (hg : w.heap[g]? = some (.cells cs 56 (0, 0))) :
    (results fn tmps).run Try.prog w = .ok (.tuple #[.agg cs, tmps.getD u undef, tmps.getD v undef]) w := by
  have hp' : tmps[p]?.getD undef = .pointer (some ⟨g, 0, none⟩) := by simpa using hp
  have hl := run_loadVar_row (P := Try.prog) w g 56 56 cs (0, 0) _ hg Try.underlying56 rfl (by
    have : (Try.prog.info? 56).map (·.size) = some 8 := by kernel_rfl
    rw [hz]
    exact this)
  simp [results, h, hp', asAddr, hl]
theorem boxes2 (w : World) (A B : Obj) : (((w.alloc A).alloc B).heap[w.heap.size]? = some A ∧ ((w.alloc A).alloc B).heap[w.heap.size + 1]? = some B) ∧ ((w.alloc A).alloc B).heap.size = w.heap.size + 1 + 1 := by
  refine ⟨⟨(alloc_old3 _ B (by simp)).trans (Go.heap_alloc_new w A), ?_⟩, by simp⟩
  have := Go.heap_alloc_new (w.alloc A) B
  simpa using this
end Go.Proofs.Ytafhgilikcablaa
