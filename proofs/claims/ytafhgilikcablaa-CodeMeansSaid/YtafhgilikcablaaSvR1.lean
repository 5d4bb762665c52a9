/- The program's resolve of a literal, of a column. -/
import Derived.Test.YtafhgilikcablaaSvSt
import Derived.Test.YtafhgilikcablaaSvKd
import Derived.Test.YtafhgilikcablaaSvRd
namespace Go.Proofs.Ytafhgilikcablaa
open Go.RowKit
set_option linter.unusedVariables false
set_option linter.unusedSimpArgs false
set_option maxRecDepth 100000

abbrev PL := List (CT × Option Addr × Nat)
theorem own_elG {w : World} {B T : Nat} {Q : Nat → Prop} {v : Value} {pl : PL} (h : w.ownsRow B T 8 v pl.length (plOfT pl)) (hq : ∀ b, v.ownBlock = some b → Q b) (hs : ∀ q ∈ pl, CRg q.1 q.2.1 q.2.2 ∧ CL w Q q.2.1 q.1.parts) :
    ∃ a cap, v = .slice a pl.length cap ∧ CL w Q a (pl.map (·.1)) ∧ (a = none → pl.length = 0 ∧ cap = 0) ∧ pl.length ≤ cap ∧ cap ≤ maxLen := by
  rcases h.2 with ⟨rfl, h0⟩ | ⟨g, cap, cur, rfl, hB, hg, h1, h2, hsz, ht⟩
  · have hz := List.eq_nil_of_length_eq_zero h0
    subst hz
    exact ⟨none, 0, rfl, .nil _, fun _ => ⟨rfl, rfl⟩, Nat.le_refl _, Nat.zero_le _⟩
  · refine ⟨_, cap, rfl, ?_, fun h => (by cases h), h1, h2⟩
    have hl : (pl.map (·.1)).length = pl.length := List.length_map _
    refine .row g 0 _ (fun i => (pl.getD i (default, none, 0)).2.1) (fun i => (pl.getD i (default, none, 0)).2.2) (hq g rfl) (Array.getElem?_eq_some_iff.1 hg).1 (fun i hi => ?_) (fun i hi => ?_) (fun i hi => ?_)
    all_goals
      have hip : i < pl.length := by rw [← hl]; exact hi
      have hgd : pl.getD i (default, none, 0) = pl[i] := by rw [List.getD_eq_getElem?_getD, List.getElem?_eq_getElem hip]; rfl
      simp only [hgd, List.getElem_map]
    · have e : ∀ j, j < 8 → w.cell? ⟨g, 0 + i * 8 + j, none⟩ = (ctX (pl[i]).1 (pl[i]).2.1 (pl[i]).2.2)[j]? := fun j hj => by
        rw [Nat.zero_add, h.cellAt (i * 8 + j) (by omega), plOf_atT pl i j hip hj]
      exact ⟨e 0 (by omega), e 1 (by omega), e 2 (by omega), e 3 (by omega), e 4 (by omega), e 5 (by omega), e 6 (by omega), e 7 (by omega)⟩
    · exact (hs _ (List.getElem_mem hip)).1
    · exact (hs _ (List.getElem_mem hip)).2
/-- the blocks of the call itself, but one, are as they were; what the call has made -/
structure RvRel (w w1 : World) (C T : Nat) (k : Int) (op : ByteArray) (pl : PL) (v : Value) (ks : List Int) (kv : Value) (wr : World) : Prop where
  below : Below w.heap.size w wr
  size : w1.heap.size ≤ wr.heap.size
  low : ∀ i, i < w1.heap.size → i ≠ C → wr.heap[i]? = w1.heap[i]?
  hC : w.heap.size ≤ C ∧ C < w1.heap.size
  box : wr.heap[C]? = some (.cells #[.int .i64 k, .string op, .int .i64 0, .int .i64 0, .string ⟨#[]⟩, .int .i64 0, .int .i64 0, v] T (0, 0))
  row : wr.ownsRow w1.heap.size T 8 v pl.length (plOfT pl)
  kinds : wr.ownsRow w1.heap.size 3 1 kv ks.length (ks.map (Value.int .i64))
  ne : ∀ b, v.ownBlock = some b → kv.ownBlock ≠ some b
  sub : ∀ q ∈ pl, CRg q.1 q.2.1 q.2.2 ∧ CL wr (fun b => w1.heap.size ≤ b ∧ v.ownBlock ≠ some b ∧ kv.ownBlock ≠ some b) q.2.1 q.1.parts
theorem ownsRow_far {w w' : World} {B T m n : Nat} {v : Value} {xs : List Value} (h : w.ownsRow B T m v n xs) (hb : ∀ g, v.ownBlock = some g → w'.heap[g]? = w.heap[g]?) : w'.ownsRow B T m v n xs := by
  refine ⟨h.1, ?_⟩
  rcases h.2 with h0 | ⟨g, cap, cur, e, b, hg, r⟩
  · exact .inl h0
  · exact .inr ⟨g, cap, cur, e, b, (hb g (by rw [e]; rfl)).trans hg, r⟩
theorem RvRel.next {w w1 wr w3 w4 w5 : World} {C T : Nat} {k : Int} {op : ByteArray} {pl : PL} {v : Value} {ks : List Int} {kv : Value} {y : CT × Option Addr × Nat} {kd : Int} {o : Obj} {g cap g2 cap2 : Nat} (h : RvRel w w1 C T k op pl v ks kv wr)
    (hb3 : Below wr.heap.size wr w3) (hrg : CRg y.1 y.2.1 y.2.2) (hel : CL w3 (fun b => wr.heap.size ≤ b) y.2.1 y.1.parts)
    (hown : w4.ownsRow w1.heap.size T 8 (.slice (some ⟨g, 0, none⟩) (pl.length + 1) cap) (pl ++ [y]).length (plOfT (pl ++ [y]))) (hg : w3.grownBy w4 v.ownBlock) (hat : v.ownBlock = some g ∨ g = w3.heap.size)
    (hown2 : w5.ownsRow w1.heap.size 3 1 (.slice (some ⟨g2, 0, none⟩) (ks.length + 1) cap2) (ks.length + 1) ((ks.map (Value.int .i64)) ++ [.int .i64 kd])) (hg2 : (w4.alloc o).grownBy w5 kv.ownBlock) (hat2 : kv.ownBlock = some g2 ∨ g2 = (w4.alloc o).heap.size) :
    RvRel w w1 C T k op (pl ++ [y]) (.slice (some ⟨g, 0, none⟩) (pl.length + 1) cap) (ks ++ [kd]) (.slice (some ⟨g2, 0, none⟩) (ks.length + 1) cap2) (w5.setCell ⟨C, 7, none⟩ (.slice (some ⟨g, 0, none⟩) (pl.length + 1) cap)) := by
  have ha : (w4.alloc o).heap.size = w4.heap.size + 1 := by simp
  have hs3 := hb3.size
  have hs4 := hg.size
  have hs5 := hg2.size
  have hsz := h.size
  have vlt : ∀ b, v.ownBlock = some b → w1.heap.size ≤ b ∧ b < wr.heap.size := fun b hb => h.row.lt b hb
  have klt : ∀ b, kv.ownBlock = some b → w1.heap.size ≤ b ∧ b < wr.heap.size := fun b hb => h.kinds.lt b hb
  have hwb := h.below.size
  have hC := h.hC
  -- a block of wr that is neither row's own
  have keep5 : ∀ i, i < wr.heap.size → v.ownBlock ≠ some i → kv.ownBlock ≠ some i → w5.heap[i]? = wr.heap[i]? := fun i hi hv hk =>
    (hg2.block i (by omega) (fun e => hk e.symm)).trans ((alloc_old3 w4 o (by omega)).trans ((hg.block i (by omega) (fun e => hv e.symm)).trans (hb3.block i hi)))
  have keep53 : ∀ i, i < w3.heap.size → v.ownBlock ≠ some i → kv.ownBlock ≠ some i → w5.heap[i]? = w3.heap[i]? := fun i hi hv hk =>
    (hg2.block i (by omega) (fun e => hk e.symm)).trans ((alloc_old3 w4 o (by omega)).trans (hg.block i (by omega) (fun e => hv e.symm)))
  have st : ∀ i, i ≠ C → (w5.setCell ⟨C, 7, none⟩ (.slice (some ⟨g, 0, none⟩) (pl.length + 1) cap)).heap[i]? = w5.heap[i]? := fun i hi => heap_setCell_other _ _ _ _ hi
  have hv1 : ∀ i, i < w1.heap.size → v.ownBlock ≠ some i := fun i hi e => by have := (vlt i e).1; omega
  have hk1 : ∀ i, i < w1.heap.size → kv.ownBlock ≠ some i := fun i hi e => by have := (klt i e).1; omega
  have hgB : w1.heap.size ≤ g := by
    rcases hat with hat | hat
    · exact (vlt g hat).1
    · omega
  have hg2B : w1.heap.size ≤ g2 := by
    rcases hat2 with hat2 | hat2
    · exact (klt g2 hat2).1
    · omega
  have hgk : kv.ownBlock ≠ some g := fun e => by
    rcases hat with hat | hat
    · exact h.ne g hat e
    · have := (klt g e).2; omega
  have hg4 : g < w4.heap.size := (hown.lt g rfl).2
  have hgg : g2 ≠ g := fun e => by
    subst e
    rcases hat2 with hat2 | hat2
    · exact hgk hat2
    · omega
  have hx := Go.heap_setCell_same w5 C 7 _ _ (.slice (some ⟨g, 0, none⟩) (pl.length + 1) cap) ((keep5 C (by omega) (hv1 C (by omega)) (hk1 C (by omega))).trans h.box)
  refine ⟨?_, by simp; omega, fun i hi hne => (st i hne).trans ((keep5 i (by omega) (hv1 i hi) (hk1 i hi)).trans (h.low i hi hne)), hC, hx, ?_, ?_, fun b hb e => ?_, fun q hq => ?_⟩
  · have hb := h.below
    refine ⟨hg2.os.trans (hg.os.trans (hb3.os.trans hb.os)), hg2.tape.trans (hg.tape.trans (hb3.tape.trans hb.tape)), hg2.output.trans (hg.output.trans (hb3.output.trans hb.output)), by simp; omega, fun i hi => (st i (by omega)).trans ((keep5 i (by omega) (hv1 i (by omega)) (hk1 i (by omega))).trans (hb.block i hi))⟩
  · refine ownsRow_far hown (fun b hb => ?_)
    have hb : g = b := by simpa [Value.ownBlock] using hb
    subst hb
    exact (st g (by omega)).trans ((hg2.block g (by omega) (fun e => hgk e.symm)).trans (alloc_old3 w4 o hg4))
  · have hl : (ks ++ [kd]).length = ks.length + 1 := by simp
    rw [hl, List.map_append]
    refine ownsRow_far hown2 (fun b hb => ?_)
    have hb : g2 = b := by simpa [Value.ownBlock] using hb
    subst hb
    exact st g2 (by omega)
  · have e1 : g = b := by simpa [Value.ownBlock] using hb
    have e2 : g2 = b := by simpa [Value.ownBlock] using e
    exact hgg (e2.trans e1.symm)
  · have hne : ∀ b, b < w3.heap.size → v.ownBlock ≠ some b → (Value.slice (some ⟨g, 0, none⟩) (pl.length + 1) cap).ownBlock ≠ some b := fun b h2 h3 e => by
      have e : g = b := by simpa [Value.ownBlock] using e
      subst e
      rcases hat with hat | hat
      · exact h3 hat
      · omega
    have hne2 : ∀ b, b < w3.heap.size → kv.ownBlock ≠ some b → (Value.slice (some ⟨g2, 0, none⟩) (ks.length + 1) cap2).ownBlock ≠ some b := fun b h2 h3 e => by
      have e : g2 = b := by simpa [Value.ownBlock] using e
      subst e
      rcases hat2 with hat2 | hat2
      · exact h3 hat2
      · omega
    have hs : w3.heap.size ≤ (w5.setCell ⟨C, 7, none⟩ (.slice (some ⟨g, 0, none⟩) (pl.length + 1) cap)).heap.size := by simp; omega
    rcases List.mem_append.1 hq with hq | hq
    · obtain ⟨q1, q2⟩ := h.sub q hq
      have q3 := (q2.mono (Q' := fun b => (w1.heap.size ≤ b ∧ v.ownBlock ≠ some b ∧ kv.ownBlock ≠ some b) ∧ b < wr.heap.size) (fun b hb hlt => ⟨hb, hlt⟩)).keep hb3
      have q4 := q3.far hs (fun b hb hlt => (st b (by omega)).trans (keep53 b hlt hb.1.2.1 hb.1.2.2))
      exact ⟨q1, q4.mono (fun b hb _ => ⟨hb.1.1, hne b (by omega) hb.1.2.1, hne2 b (by omega) hb.1.2.2⟩)⟩
    · obtain rfl := List.mem_singleton.1 hq
      have nv : ∀ b, wr.heap.size ≤ b → v.ownBlock ≠ some b := fun b hb e => by have := (vlt b e).2; omega
      have nk : ∀ b, wr.heap.size ≤ b → kv.ownBlock ≠ some b := fun b hb e => by have := (klt b e).2; omega
      have q3 := (hel.mono (Q' := fun b => wr.heap.size ≤ b ∧ b < w3.heap.size) (fun b hb hlt => ⟨hb, hlt⟩)).far hs (fun b hb hlt => (st b (by omega)).trans (keep53 b hlt (nv b hb.1) (nk b hb.1)))
      exact ⟨hrg, q3.mono (fun b hb _ => ⟨by omega, hne b hb.2 (nv b hb.1), hne2 b hb.2 (nk b hb.1)⟩)⟩
/-! an expression's cell -/
def finV (k : Int) (op : ByteArray) (may : Bool) (rs : List (CT × Int × Int)) : CT × Int × Int :=
  match rs.find? (fun r => r.2.2 != 0) with
  | some r => (ctZ, 0, r.2.2)
  | none => if (((k == 6) && !may) || !(fitD k op (rs.map (·.2.1))).2) = true then (ctZ, 0, 7) else (.mk k op 0 0 ⟨#[]⟩ 0 0 (rs.map (·.1)), (fitD k op (rs.map (·.2.1))).1, 0)
mutual
def resV (F : FnD) : Bool → ET → CT × Int × Int
  | may, .mk k op vk vn vs t c ps => if k = 1 then (.mk 1 ⟨#[]⟩ vk vn vs 0 0 [], vk, 0) else if k = 2 then colV F t c else finV k op may (resM F (may && (k != 6)) ps)
def resM (F : FnD) : Bool → List ET → List (CT × Int × Int)
  | _, [] => []
  | may, p :: ps => resV F may p :: resM F may ps
end
theorem resM_map (F : FnD) (may : Bool) : ∀ l : List ET, resM F may l = l.map (resV F may)
  | [] => rfl
  | p :: l => by show _ :: resM F may l = _; rw [resM_map F may l]; rfl
theorem resV_1 (F : FnD) (may : Bool) (e : ET) (h : e.kind = 1) : resV F may e = (.mk 1 ⟨#[]⟩ e.vk e.vn e.vs 0 0 [], e.vk, 0) := by cases e; exact if_pos h
theorem resV_2 (F : FnD) (may : Bool) (e : ET) (h : e.kind = 2) : resV F may e = colV F e.tab e.col := by
  obtain ⟨k, op, vk, vn, vs, t, c, ps⟩ := e
  have h : k = 2 := h
  subst h
  have h3 : resV F may (.mk 2 op vk vn vs t c ps) = if (2 : Int) = 1 then (.mk 1 ⟨#[]⟩ vk vn vs 0 0 [], vk, 0) else if (2 : Int) = 2 then colV F t c else finV 2 op may (resM F (may && ((2 : Int) != 6)) ps) := rfl
  rw [h3, if_neg (by decide), if_pos rfl]
  rfl
theorem resV_n (F : FnD) (may : Bool) (e : ET) (h1 : e.kind ≠ 1) (h2 : e.kind ≠ 2) : resV F may e = finV e.kind e.op may (e.parts.map (resV F (may && (e.kind != 6)))) := by
  obtain ⟨k, op, vk, vn, vs, t, c, ps⟩ := e
  have h1 : ¬ k = 1 := h1
  have h2 : ¬ k = 2 := h2
  have h3 : resV F may (.mk k op vk vn vs t c ps) = finV k op may (resM F (may && (k != 6)) ps) := (if_neg h1).trans (if_neg h2)
  rw [h3, resM_map]
  rfl
/-- a part that is refused -/
theorem finV_err {k : Int} {op : ByteArray} {may : Bool} {rs : List (CT × Int × Int)} {i : Nat} (hi : i < rs.length) (h0 : ∀ j, (h : j < i) → (rs[j]'(by omega)).2.2 = 0) (h1 : (rs[i]).2.2 ≠ 0) : finV k op may rs = (ctZ, 0, (rs[i]).2.2) := by
  unfold finV
  have : rs.find? (fun r => r.2.2 != 0) = some (rs[i]) := by
    rw [List.find?_eq_some_iff_getElem]
    exact ⟨by simp [h1], i, hi, rfl, fun j hj => by simp [h0 j hj]⟩
  rw [this]
theorem finV_none {k : Int} {op : ByteArray} {may : Bool} {rs : List (CT × Int × Int)} (h0 : ∀ r ∈ rs, r.2.2 = 0) : finV k op may rs = if (((k == 6) && !may) || !(fitD k op (rs.map (·.2.1))).2) = true then (ctZ, 0, 7) else (.mk k op 0 0 ⟨#[]⟩ 0 0 (rs.map (·.1)), (fitD k op (rs.map (·.2.1))).1, 0) := by
  unfold finV
  have : rs.find? (fun r => r.2.2 != 0) = none := by
    rw [List.find?_eq_none]
    exact fun r hr => by simp [h0 r hr]
  rw [this]
/-- the end of resolve: the cell that was made -/
theorem RvRel.done {w w1 wr : World} {C T : Nat} {k : Int} {op : ByteArray} {pl : PL} {v : Value} {ks : List Int} {kv : Value} (h : RvRel w w1 C T k op pl v ks kv wr) (hk : (Lit.int .i64 k).wf = true) (ho : op.size ≤ maxLen) :
    ∃ a cap, v = .slice a pl.length cap ∧ CRg (.mk k op 0 0 ⟨#[]⟩ 0 0 (pl.map (·.1))) a cap ∧ CL wr (fun b => w1.heap.size ≤ b) a (pl.map (·.1)) := by
  obtain ⟨a, cap, rfl, hel, hz, hle, hcap⟩ := own_elG (Q := fun b => w1.heap.size ≤ b) h.row (fun b hb => (h.row.lt b hb).1) (fun q hq => ⟨(h.sub q hq).1, (h.sub q hq).2.mono fun b hb _ => hb.1⟩)
  have hl : (pl.map (·.1)).length = pl.length := List.length_map _
  exact ⟨a, cap, rfl, ⟨hk, by show (Lit.int .i64 0).wf = true; decide, by show (Lit.int .i64 0).wf = true; decide, ho, Nat.zero_le _, by show (Lit.int .i64 0).wf = true; decide, by show (Lit.int .i64 0).wf = true; decide, fun h0 => by show (pl.map (·.1)).length = 0 ∧ _; rw [hl]; exact hz h0, by show (pl.map (·.1)).length ≤ _; rw [hl]; exact hle, hcap⟩, hel⟩
end Go.Proofs.Ytafhgilikcablaa
namespace Go.Proofs.Ytafhgilikcablaa
open Go.RowKit
set_option linter.unusedVariables false
set_option linter.unusedSimpArgs false
set_option maxRecDepth 100000
theorem cellsE {w : World} {N : Nat} {T : TypeId} {a0 a1 a2 a3 a4 a5 a6 a7 : Value} (h : w.heap[N]? = some (.cells #[a0, a1, a2, a3, a4, a5, a6, a7] T (0, 0))) : w.cell? ⟨N, 0, none⟩ = some a0 ∧ w.cell? ⟨N, 1, none⟩ = some a1 ∧ w.cell? ⟨N, 2, none⟩ = some a2 ∧ w.cell? ⟨N, 3, none⟩ = some a3 ∧ w.cell? ⟨N, 4, none⟩ = some a4 ∧ w.cell? ⟨N, 5, none⟩ = some a5 ∧ w.cell? ⟨N, 6, none⟩ = some a6 ∧ w.cell? ⟨N, 7, none⟩ = some a7 :=
  ⟨cell_of_row w _ 0 _ _ _ h, cell_of_row w _ 1 _ _ _ h, cell_of_row w _ 2 _ _ _ h, cell_of_row w _ 3 _ _ _ h, cell_of_row w _ 4 _ _ _ h, cell_of_row w _ 5 _ _ _ h, cell_of_row w _ 6 _ _ _ h, cell_of_row w _ 7 _ _ _ h⟩
theorem cells3 {w : World} {N : Nat} {T : TypeId} {a0 a1 a2 : Value} (h : w.heap[N]? = some (.cells #[a0, a1, a2] T (0, 0))) : w.cell? ⟨N, 0, none⟩ = some a0 ∧ w.cell? ⟨N, 1, none⟩ = some a1 ∧ w.cell? ⟨N, 2, none⟩ = some a2 :=
  ⟨cell_of_row w _ 0 _ _ _ h, cell_of_row w _ 1 _ _ _ h, cell_of_row w _ 2 _ _ _ h⟩
theorem block8 {w : World} {N b : Nat} (h : b ≠ N) (a0 a1 a2 a3 a4 a5 a6 a7 : Value) : ((((((((w.setCell ⟨N, 0, none⟩ a0).setCell ⟨N, 1, none⟩ a1).setCell ⟨N, 2, none⟩ a2).setCell ⟨N, 3, none⟩ a3).setCell ⟨N, 4, none⟩ a4).setCell ⟨N, 5, none⟩ a5).setCell ⟨N, 6, none⟩ a6).setCell ⟨N, 7, none⟩ a7).heap[b]? = w.heap[b]? :=
  (heap_setCell_other _ _ _ _ h).trans ((heap_setCell_other _ _ _ _ h).trans ((heap_setCell_other _ _ _ _ h).trans ((heap_setCell_other _ _ _ _ h).trans ((heap_setCell_other _ _ _ _ h).trans ((heap_setCell_other _ _ _ _ h).trans ((heap_setCell_other _ _ _ _ h).trans (heap_setCell_other _ _ _ _ h)))))))
theorem size8 (w : World) (N : Nat) (a0 a1 a2 a3 a4 a5 a6 a7 : Value) : ((((((((w.setCell ⟨N, 0, none⟩ a0).setCell ⟨N, 1, none⟩ a1).setCell ⟨N, 2, none⟩ a2).setCell ⟨N, 3, none⟩ a3).setCell ⟨N, 4, none⟩ a4).setCell ⟨N, 5, none⟩ a5).setCell ⟨N, 6, none⟩ a6).setCell ⟨N, 7, none⟩ a7).heap.size = w.heap.size := by simp
/-- cells that lie elsewhere are there still -/
theorem cl_set8 {w : World} {N K : Nat} {a : Option Addr} {l : List CT} (hK : N < K) (h : CL w (fun b => K ≤ b) a l) (a0 a1 a2 a3 a4 a5 a6 a7 : Value) : CL ((((((((w.setCell ⟨N, 0, none⟩ a0).setCell ⟨N, 1, none⟩ a1).setCell ⟨N, 2, none⟩ a2).setCell ⟨N, 3, none⟩ a3).setCell ⟨N, 4, none⟩ a4).setCell ⟨N, 5, none⟩ a5).setCell ⟨N, 6, none⟩ a6).setCell ⟨N, 7, none⟩ a7) (fun b => K ≤ b) a l :=
  h.far (Nat.le_of_eq (size8 w N a0 a1 a2 a3 a4 a5 a6 a7).symm) (fun b hb _ => block8 (show b ≠ N by have : K ≤ b := hb; omega) a0 a1 a2 a3 a4 a5 a6 a7)
end Go.Proofs.Ytafhgilikcablaa
