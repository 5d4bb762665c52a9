/- Contract of the law's Theirs: an expression of the document's, made the package's. -/
import Derived.Test.YtpinalpigefenaaGreatDoorEtIn
import Derived.Deep.AppendLies
import Derived.Deep.RegionHeldLaw
import Derived.Deep.RegionHeld3
import Derived.Deep.RegionLawGrows
import Derived.Deep.QuietTactic
import Derived.OwnWalk
namespace Go.Proofs.YtpinalpigefenaaGreatDoor
open Go.RowKit
set_option linter.unusedVariables false
set_option linter.unusedSimpArgs false
set_option maxRecDepth 100000

theorem infoE : (Tryz.prog.info? 34).map (fun i => (i.zero, i.size, i.bytes)) = some (some (.agg #[.int .i64 0, .string ⟨#[]⟩, .int .i64 0, .int .i64 0, .string ⟨#[]⟩, .string ⟨#[]⟩, .string ⟨#[]⟩, .slice none 0 0]), 8, 112) := by kernel_rfl
/-- parts that were made, with where their own parts lie -/
def plOf (pl : List (ET × Option Addr × Nat)) : List Value := pl.flatMap fun q => etX q.1 q.2.1 q.2.2
theorem plOf_append (a b : List (ET × Option Addr × Nat)) : plOf (a ++ b) = plOf a ++ plOf b := by unfold plOf; rw [List.flatMap_append]
theorem plOf_at : ∀ (pl : List (ET × Option Addr × Nat)) (i j : Nat) (h : i < pl.length), j < 8 → (plOf pl)[i * 8 + j]? = (etX (pl[i]).1 (pl[i]).2.1 (pl[i]).2.2)[j]?
  | q :: pl, 0, j, _, hj => by
    show (etX q.1 q.2.1 q.2.2 ++ plOf pl)[0 * 8 + j]? = _
    rw [Nat.zero_mul, Nat.zero_add, List.getElem?_append_left (by rw [etX_length]; exact hj)]
    rfl
  | q :: pl, i + 1, j, h, hj => by
    show (etX q.1 q.2.1 q.2.2 ++ plOf pl)[(i + 1) * 8 + j]? = _
    rw [List.getElem?_append_right (by rw [etX_length]; omega), etX_length, show (i + 1) * 8 + j - 8 = i * 8 + j by omega, plOf_at pl i j (by simpa using h) hj]
    rfl
theorem own_el {w : World} {B : Nat} {Q : Nat → Prop} {v : Value} {pl : List (ET × Option Addr × Nat)} (h : w.ownsRow B 34 8 v pl.length (plOf pl)) (hq : ∀ b, v.ownBlock = some b → Q b) (hs : ∀ q ∈ pl, ERg q.1 q.2.1 q.2.2 ∧ EL w Q q.2.1 q.1.parts) :
    ∃ a cap, v = .slice a pl.length cap ∧ EL w Q a (pl.map (·.1)) ∧ (a = none → pl.length = 0 ∧ cap = 0) ∧ pl.length ≤ cap ∧ cap ≤ maxLen := by
  rcases h.2 with ⟨rfl, h0⟩ | ⟨g, cap, cur, rfl, hB, hg, h1, h2, hsz, ht⟩
  · have hz := List.eq_nil_of_length_eq_zero h0
    subst hz
    exact ⟨none, 0, rfl, .nil _, fun _ => ⟨rfl, rfl⟩, Nat.le_refl _, Nat.zero_le _⟩
  · refine ⟨_, cap, rfl, ?_, fun h => (by cases h), h1, h2⟩
    have hl : (pl.map (·.1)).length = pl.length := List.length_map _
    refine .row g 0 _ (fun i => (pl.getD i (default, none, 0)).2.1) (fun i => (pl.getD i (default, none, 0)).2.2) (hq g rfl) (Array.getElem?_eq_some_iff.1 hg).1 (fun i hi => ?_) (fun i hi => ?_) (fun i hi => ?_)
    all_goals
      have hip : i < pl.length := by rw [← hl]; exact hi
      have hgd : pl.getD i (default, none, 0) = pl[i] := by rw [List.getD_eq_getElem?_getD, List.getElem?_eq_getElem hip]; rfl
      simp only [hgd, List.getElem_map]
    · have e : ∀ j, j < 8 → w.cell? ⟨g, 0 + i * 8 + j, none⟩ = (etX (pl[i]).1 (pl[i]).2.1 (pl[i]).2.2)[j]? := fun j hj => by
        rw [Nat.zero_add, h.cellAt (i * 8 + j) (by omega), plOf_at pl i j hip hj]
      exact ⟨e 0 (by omega), e 1 (by omega), e 2 (by omega), e 3 (by omega), e 4 (by omega), e 5 (by omega), e 6 (by omega), e 7 (by omega)⟩
    · exact (hs _ (List.getElem_mem hip)).1
    · exact (hs _ (List.getElem_mem hip)).2
section
variable {W : World} {ops : Array Oper} {rest : List Oper} {o : Oper} {a : Act} {K : Act → World → Prop} {Q : Exit → Act → World → Prop} {E : Prop}
theorem step_et (hgd : o.guard = none) (s x : Operand) (ho : o.op = .call { callee := .builtin .append, args := #[s, x], argTypes := #[32, 32] })
    (B : Nat) (v : Value) (pl : List (ET × Option Addr × Nat)) (b : Nat) (y : ET × Option Addr × Nat) (hs : a.eval s = v) (hx : a.eval x = .slice (some ⟨b, 0, none⟩) 1 1)
    (hown : W.ownsRow B 34 8 v pl.length (plOf pl)) (hc : W.heap[b]? = some (.cells (etX y.1 y.2.1 y.2.2).toArray 34 (0, 0))) (hlen : pl.length ≤ 100000) (hbase : B ≤ W.heap.size)
    (h : ∀ g cap w', w'.ownsRow B 34 8 (.slice (some ⟨g, 0, none⟩) (pl.length + 1) cap) (pl ++ [y]).length (plOf (pl ++ [y])) → W.grownBy w' v.ownBlock → (v.ownBlock = some g ∨ g = W.heap.size) → K (a.put o.dst (.slice (some ⟨g, 0, none⟩) (pl.length + 1) cap)) w') :
    if Region.wanted o (yielded ops a.tmps) = true then Oper.wp Tryz.prog o a W K Q else E := by
  have hw : Region.wanted o (yielded ops a.tmps) = true := by simp [Region.wanted, hgd]
  rw [if_pos hw]
  obtain ⟨i0, hi, hz0, hz1, hz2⟩ := info_parts infoE
  refine wp_append_lies W s x 32 ho B 34 i0 _ 8 112 Tryz.underlying32 hi hz0 hz1 hz2 rfl (by decide) v pl.length _ hs hown ⟨b, 0, none⟩ 1 1 (etX y.1 y.2.1 y.2.2) hx rfl ?_ ?_ (by omega) (by unfold maxLen; omega) (by omega) hbase _ rfl ?_
  · exact World.news_of_block hc
  · intro u hu; simp [etX] at hu; rcases hu with rfl | rfl | rfl | rfl | rfl | rfl | rfl | rfl <;> rfl
  · intro g cap w' h1 h2 h3 h4
    refine h g cap w' ?_ h2 h3
    rw [plOf_append, List.length_append]
    simpa [plOf] using h1
end
theorem alloc_old (w : World) (o : Obj) {i : Nat} (hi : i < w.heap.size) : (w.alloc o).heap[i]? = w.heap[i]? := (World.grownBy_alloc w o none).block i hi (fun e => by cases e)
/-- an expression's cells, its parts in v -/
def etC (e : ET) (v : Value) : Array Value := #[.int .i64 e.kind, .string e.op, .int .i64 e.vk, .int .i64 e.vn, .string e.vs, .string e.tab, .string e.col, v]
/-- within Theirs -/
structure ThRel (w : World) (e : ET) (sa : Option Addr) (n sc : Nat) (pl : List (ET × Option Addr × Nat)) (v : Value) (wr : World) : Prop where
  below : Below w.heap.size w wr
  size : w.heap.size + 3 ≤ wr.heap.size
  arg : wr.heap[w.heap.size]? = some (.cells (etC e (.slice sa n sc)) 26 (0, 0))
  res : wr.heap[w.heap.size + 1]? = some (.cells #[.int .i64 0, .string ⟨#[]⟩, .int .i64 0, .int .i64 0, .string ⟨#[]⟩, .string ⟨#[]⟩, .string ⟨#[]⟩, .slice none 0 0] 34 (0, 0))
  out : wr.heap[w.heap.size + 1 + 1]? = some (.cells (etC e v) 34 (0, 0))
  row : wr.ownsRow (w.heap.size + 3) 34 8 v pl.length (plOf pl)
  sub : ∀ q ∈ pl, ERg q.1 q.2.1 q.2.2 ∧ EL wr (fun b => w.heap.size + 3 ≤ b ∧ v.ownBlock ≠ some b) q.2.1 q.1.parts
/-- a part more: behind the call, the new part's block, the append and the store -/
theorem ThRel.next {w wr w3 w4 : World} {e : ET} {sa : Option Addr} {n sc g cap : Nat} {pl : List (ET × Option Addr × Nat)} {v : Value} {y : ET × Option Addr × Nat} {o : Obj} (h : ThRel w e sa n sc pl v wr) (hb3 : Below wr.heap.size wr w3) (hrg : ERg y.1 y.2.1 y.2.2) (hel : EL w3 (fun b => wr.heap.size ≤ b) y.2.1 y.1.parts)
    (hown : w4.ownsRow (w.heap.size + 3) 34 8 (.slice (some ⟨g, 0, none⟩) (pl.length + 1) cap) (pl ++ [y]).length (plOf (pl ++ [y]))) (hg : (w3.alloc o).grownBy w4 v.ownBlock) (hat : v.ownBlock = some g ∨ g = (w3.alloc o).heap.size) :
    ThRel w e sa n sc (pl ++ [y]) (.slice (some ⟨g, 0, none⟩) (pl.length + 1) cap) (w4.setCell ⟨w.heap.size + 1 + 1, 7, none⟩ (.slice (some ⟨g, 0, none⟩) (pl.length + 1) cap)) := by
  have ha : (w3.alloc o).heap.size = w3.heap.size + 1 := by simp
  have hao : ∀ i, i < w3.heap.size → (w3.alloc o).heap[i]? = w3.heap[i]? := fun i hi => (World.grownBy_alloc w3 o none).block i hi (fun e => by cases e)
  have hlt : ∀ b, v.ownBlock = some b → w.heap.size + 3 ≤ b := fun b hb => (h.row.lt b hb).1
  have hs3 := hb3.size
  have hsz := h.size
  have hs4 := hg.size
  have hgw : wr.heap.size ≤ w4.heap.size := by omega
  have k1 : ∀ i, i < wr.heap.size → v.ownBlock ≠ some i → w4.heap[i]? = wr.heap[i]? := fun i hi hn => (hg.block i (by omega) (fun e => hn e.symm)).trans ((hao i (by omega)).trans (hb3.block i hi))
  have low : ∀ i, i < w.heap.size + 3 → w4.heap[i]? = wr.heap[i]? := fun i hi => k1 i (by omega) (fun e => by have := hlt i e; omega)
  have st : ∀ i, i ≠ w.heap.size + 1 + 1 → (w4.setCell ⟨w.heap.size + 1 + 1, 7, none⟩ (.slice (some ⟨g, 0, none⟩) (pl.length + 1) cap)).heap[i]? = w4.heap[i]? := fun i hi => heap_setCell_other _ _ _ _ hi
  have hx := Go.heap_setCell_same w4 (w.heap.size + 1 + 1) 7 _ _ (.slice (some ⟨g, 0, none⟩) (pl.length + 1) cap) ((low _ (by omega)).trans h.out)
  have hgb : w.heap.size + 3 ≤ g := by
    rcases hat with hat | hat
    · exact hlt g hat
    · omega
  refine ⟨?_, by simpa using Nat.le_trans hsz hgw, (st _ (by omega)).trans ((low _ (by omega)).trans h.arg), (st _ (by omega)).trans ((low _ (by omega)).trans h.res), hx, ?_, fun q hq => ?_⟩
  · have hb := h.below
    exact ⟨hg.os.trans (hb3.os.trans hb.os), hg.tape.trans (hb3.tape.trans hb.tape), hg.output.trans (hb3.output.trans hb.output), by simpa using Nat.le_trans hb.size hgw, fun i hi => (st i (by omega)).trans ((low i (by omega)).trans (hb.block i hi))⟩
  · refine ⟨hown.1, ?_⟩
    rcases hown.2 with ⟨e, _⟩ | ⟨g', c', cur, e, hb, hg', r⟩
    · cases e
    · exact .inr ⟨g', c', cur, e, hb, (st g' (by omega)).trans hg', r⟩
  · have far : ∀ b, w.heap.size + 3 ≤ b → b < w3.heap.size → v.ownBlock ≠ some b → (w4.setCell ⟨w.heap.size + 1 + 1, 7, none⟩ (.slice (some ⟨g, 0, none⟩) (pl.length + 1) cap)).heap[b]? = w3.heap[b]? := fun b h1 h2 h3 => (st b (by omega)).trans ((hg.block b (by omega) (fun e => h3 e.symm)).trans (hao b h2))
    have hgn : ∀ b, b < w3.heap.size → v.ownBlock ≠ some b → (Value.slice (some ⟨g, 0, none⟩) (pl.length + 1) cap).ownBlock ≠ some b := fun b h2 h3 e => by
      have e : g = b := by simpa [Value.ownBlock] using e
      subst e
      rcases hat with hat | hat
      · exact h3 hat
      · omega
    have hsz4 : w3.heap.size ≤ (w4.setCell ⟨w.heap.size + 1 + 1, 7, none⟩ (.slice (some ⟨g, 0, none⟩) (pl.length + 1) cap)).heap.size := by simp; omega
    rcases List.mem_append.1 hq with hq | hq
    · obtain ⟨q1, q2⟩ := h.sub q hq
      have q3 : EL w3 (fun b => (w.heap.size + 3 ≤ b ∧ v.ownBlock ≠ some b) ∧ b < wr.heap.size) q.2.1 q.1.parts := (q2.mono (Q' := fun b => (w.heap.size + 3 ≤ b ∧ v.ownBlock ≠ some b) ∧ b < wr.heap.size) (fun b hb hlt => ⟨hb, hlt⟩)).keep hb3
      have q4 := q3.far hsz4 (fun b hb hlt => far b hb.1.1 hlt hb.1.2)
      exact ⟨q1, q4.mono (fun b hb _ => ⟨hb.1.1, hgn b (by omega) hb.1.2⟩)⟩
    · obtain rfl := List.mem_singleton.1 hq
      have hnb : ∀ b, wr.heap.size ≤ b → v.ownBlock ≠ some b := fun b hb e => by have := (h.row.lt b e).2; omega
      have q3 := (hel.mono (Q' := fun b => wr.heap.size ≤ b ∧ b < w3.heap.size) (fun b hb hlt => ⟨hb, hlt⟩)).far hsz4 (fun b hb hlt => far b (by omega) hlt (hnb b hb.1))
      exact ⟨hrg, q3.mono (fun b hb _ => ⟨by omega, hgn b hb.2 (hnb b hb.1)⟩)⟩
theorem own_keep3 {w wr w3 : World} {n : Nat} {v : Value} {xs : List Value} (h : wr.ownsRow (w.heap.size + 3) 34 8 v n xs) (hb : Below wr.heap.size wr w3) : w3.ownsRow (w.heap.size + 3) 34 8 v n xs := by
  refine ⟨h.1, ?_⟩
  rcases h.2 with h0 | ⟨g, cap, cur, e, b, hg, r⟩
  · exact .inl h0
  · exact .inr ⟨g, cap, cur, e, b, (hb.block g (Array.getElem?_eq_some_iff.1 hg).1).trans hg, r⟩
theorem size3 {a b : Nat} {w3 : World} (h1 : a ≤ b) (h2 : b ≤ w3.heap.size) (o : Obj) : a ≤ (w3.alloc o).heap.size := by simp; omega
theorem low4 {w wr w3 w4 : World} {o : Obj} {v : Value} (hl : ∀ W : World, Below wr.heap.size wr W → ∀ i, i < w.heap.size + 3 → W.heap[i]? = wr.heap[i]?) (hb : Below wr.heap.size wr w3) (hv : ∀ g, v.ownBlock = some g → w.heap.size + 3 ≤ g ∧ g < wr.heap.size) (hs : w.heap.size + 3 ≤ wr.heap.size) (hg : (w3.alloc o).grownBy w4 v.ownBlock) : ∀ i, i < w.heap.size + 3 → w4.heap[i]? = wr.heap[i]? := fun i hi => by
  have h1 := hb.size
  have ha : (w3.alloc o).heap.size = w3.heap.size + 1 := by simp
  exact (hg.block i (by omega) (fun e => by have := (hv i e.symm).1; omega)).trans ((alloc_old w3 o (by omega)).trans (hl w3 hb i hi))
def setLe (w : World) (B : Nat) : Nat → List Value → World
  | _, [] => w
  | k, v :: vs => setLe (w.setCell ⟨B, k, none⟩ v) B (k + 1) vs
theorem setLe_other {B M : Nat} (hM : M ≠ B) : ∀ (vs : List Value) (k : Nat) (w : World), (setLe w B k vs).heap[M]? = w.heap[M]?
  | [], k, w => rfl
  | v :: vs, k, w => (setLe_other hM vs (k + 1) _).trans (heap_setCell_other _ _ _ _ (by exact hM))
theorem setLe_size {B : Nat} : ∀ (vs : List Value) (k : Nat) (w : World), (setLe w B k vs).heap.size = w.heap.size
  | [], k, w => rfl
  | v :: vs, k, w => (setLe_size vs (k + 1) _).trans (by simp)
theorem setLe_below {w0 : World} {K B : Nat} (hK : K ≤ B) : ∀ (vs : List Value) (k : Nat) (w : World), Below K w0 w → Below K w0 (setLe w B k vs)
  | [], k, w, h => h
  | v :: vs, k, w, h => setLe_below hK vs (k + 1) _ (h.setCell (p := ⟨B, k, none⟩) hK v)
theorem etX_arr (e : ET) (sa : Option Addr) (sc : Nat) : (etX e sa sc).toArray = #[.int .i64 e.kind, .string e.op, .int .i64 e.vk, .int .i64 e.vn, .string e.vs, .string e.tab, .string e.col, .slice sa e.parts.length sc] := rfl
theorem take_snoc {l : List ET} {k : Nat} (h : k < l.length) : l.take (k + 1) = l.take k ++ [l[k]] := by rw [List.take_succ_eq_append_getElem h]
/-- the end of Theirs: the copy in the result's block -/
theorem th_done {w wr : World} {e : ET} {sa : Option Addr} {n sc : Nat} {pl : List (ET × Option Addr × Nat)} {v : Value} (h : ThRel w e sa n sc pl v wr) (hm : pl.map (·.1) = e.parts.take pl.length) (hn : n = e.parts.length) (hk : n = pl.length) (hr : ERg e sa sc) :
    ∃ a cap, v = .slice a n cap ∧ ERg e a cap ∧ ∀ vs k, EL (setLe wr (w.heap.size + 1) k vs) (fun b => w.heap.size ≤ b) a e.parts ∧ Below w.heap.size w (setLe wr (w.heap.size + 1) k vs) := by
  have he : pl.map (·.1) = e.parts := by rw [hm, ← hk, hn, List.take_length]
  obtain ⟨a, cap, rfl, hel, hz, hle, hcap⟩ := own_el (Q := fun b => w.heap.size + 3 ≤ b) h.row (fun b hb => (h.row.lt b hb).1) (fun q hq => ⟨(h.sub q hq).1, (h.sub q hq).2.mono fun b hb _ => hb.1⟩)
  rw [he] at hel
  refine ⟨a, cap, by rw [hk], ⟨hr.k, hr.a, hr.n, hr.o, hr.s, hr.t, hr.c, fun h0 => by rw [← hn, hk]; exact hz h0, by rw [← hn, hk]; exact hle, hcap⟩, fun vs k => ⟨?_, setLe_below (by omega) vs k wr h.below⟩⟩
  exact (hel.far (by rw [setLe_size]; exact Nat.le_refl _) (fun b hb _ => setLe_other (by omega) vs k wr)).mono fun b hb _ => by omega
set_option maxHeartbeats 6400000 in
theorem etheirs_any : ∀ (N : Nat) (e : ET), etSz e ≤ N → N ≤ 1000 → ∀ (w : World) (Q : Nat → Prop) (v : Value), EV w Q v e →
    Calls Tryz.prog 12 #[v] w fun e' w' => (∃ r, e' = .returned r ∧ EV w' (fun b => w.heap.size ≤ b) r e) ∧ Below w.heap.size w w' := by
  intro N
  induction N with
  | zero => intro e h; rw [etSz_is] at h; omega
  | succ N ih =>
    intro e hN hN1 w Q v hv
    obtain ⟨sa, sc, rfl, hrg, hel⟩ := hv
    have hpl : e.parts.length ≤ 1000 := by
      have h1 : ∀ l : List ET, l.length ≤ elSz l := fun l => by
        induction l with
        | nil => exact Nat.le_refl _
        | cons p l il => show _ + 1 ≤ etSz p + elSz l; rw [etSz_is p]; omega
      have := h1 e.parts
      rw [etSz_is] at hN
      omega
    have HN := Lib.hid hN
    have HR := Lib.hid hrg
    have HE := Lib.hid hel
    have HIH := Lib.hid (fun p hp => ih p hp (by omega))
    obtain ⟨n, hn⟩ : ∃ n, n = e.parts.length := ⟨_, rfl⟩
    have HNl := Lib.hid hn
    have e0 : (etX e sa sc).toArray = #[.int .i64 e.kind, .string e.op, .int .i64 e.vk, .int .i64 e.vn, .string e.vs, .string e.tab, .string e.col, .slice sa n sc] := by rw [hn]; rfl
    rw [e0]
    rw [← hn] at hpl
    have h0 : ThRel w e sa n sc [] (.slice none 0 0) (((w.alloc (.cells #[.int .i64 e.kind, .string e.op, .int .i64 e.vk, .int .i64 e.vn, .string e.vs, .string e.tab, .string e.col, .slice sa n sc] 26)).alloc (.cells #[.int .i64 0, .string ⟨#[]⟩, .int .i64 0, .int .i64 0, .string ⟨#[]⟩, .string ⟨#[]⟩, .string ⟨#[]⟩, .slice none 0 0] 34)).alloc (.cells #[.int .i64 e.kind, .string e.op, .int .i64 e.vk, .int .i64 e.vn, .string e.vs, .string e.tab, .string e.col, .slice none 0 0] 34)) := by
      refine ⟨bel0 _ (bel0 _ (bel0 _ (Below.refl _ _))), by simp, ?_, ?_, ?_, World.ownsRow_nil _ _ _ _, fun q hq => (by cases hq)⟩
      · exact (alloc_old _ _ (by simp; omega)).trans ((alloc_old _ _ (by simp)).trans (Go.heap_alloc_new w _))
      · refine (alloc_old _ _ (by simp)).trans ?_
        have := Go.heap_alloc_new (w.alloc (.cells #[.int .i64 e.kind, .string e.op, .int .i64 e.vk, .int .i64 e.vn, .string e.vs, .string e.tab, .string e.col, .slice sa n sc] 26)) (.cells #[.int .i64 0, .string ⟨#[]⟩, .int .i64 0, .int .i64 0, .string ⟨#[]⟩, .string ⟨#[]⟩, .string ⟨#[]⟩, .slice none 0 0] 34)
        simpa using this
      · have := Go.heap_alloc_new ((w.alloc (.cells #[.int .i64 e.kind, .string e.op, .int .i64 e.vk, .int .i64 e.vn, .string e.vs, .string e.tab, .string e.col, .slice sa n sc] 26)).alloc (.cells #[.int .i64 0, .string ⟨#[]⟩, .int .i64 0, .int .i64 0, .string ⟨#[]⟩, .string ⟨#[]⟩, .string ⟨#[]⟩, .slice none 0 0] 34)) (.cells #[.int .i64 e.kind, .string e.op, .int .i64 e.vk, .int .i64 e.vn, .string e.vs, .string e.tab, .string e.col, .slice none 0 0] 34)
        simpa [etC] using this
    have H0 := Lib.hid h0
    clear hrg hel ih hn hN e0 h0
    go_enter Tryz.func12, Tryz.ntmps12
    go_wp2_with fail
    go_loopw [19] (fun i wr => ∃ (pl : List (ET × Option Addr × Nat)) (v : Value), i = .int .i64 (pl.length : Int) ∧ Hid (pl.map (·.1) = e.parts.take pl.length ∧ pl.length ≤ n ∧ ThRel w e sa n sc pl v wr)) (fun i _ => n - (intOf i).toNat)
    case atStart => exact ⟨[], _, rfl, Lib.hid ⟨rfl, Nat.zero_le _, H0.out⟩⟩
    case round =>
      obtain ⟨pl, v, rfl, HL⟩ := hrel
      obtain ⟨k, hk⟩ : ∃ k, k = pl.length := ⟨_, rfl⟩
      have HKl := Lib.hid hk
      have HT := Lib.hid HL.out.2.2
      rw [← hk]
      have hkn : k ≤ n := by rw [hk]; exact HL.out.2.1
      have hk0 : (0 : Int) ≤ (k : Int) := by omega
      by_cases hlt : k < n
      · have hki : (k : Int) < (n : Int) := by omega
        have hkp : k < e.parts.length := by rw [← HNl.out]; exact hlt
        obtain ⟨b, off, pa, pc, hsa, hbl, hat, hprg, hpl2⟩ := HE.out.at (i := k) hkp
        subst hsa
        have HTk := Lib.hid (show e.parts.take (k + 1) = e.parts.take k ++ [e.parts[k]] from take_snoc hkp)
        have hpm : e.parts[k] ∈ e.parts := List.getElem_mem _
        obtain ⟨p, hp⟩ : ∃ p, p = e.parts[k] := ⟨_, rfl⟩
        rw [← hp] at hat hprg hpl2 hpm HTk
        have HSz := Lib.hid (show etSz p ≤ N by have := etSz_part hpm; have := HN.out; omega)
        have HEv := Lib.hid (fun (W : World) (hW : Below w.heap.size w W) => (show EV W Q (.agg (etX p pa pc).toArray) p from ⟨pa, pc, rfl, hprg, hpl2.keep hW⟩))
        have HS := Lib.hid (show ∀ W : World, (∀ i, i < w.heap.size + 3 → W.heap[i]? = wr.heap[i]?) →
            (W.cell? ⟨w.heap.size + 1 + 1, 7, none⟩ = some v ∧ W.frozen? ⟨w.heap.size + 1 + 1, 7, none⟩ = false ∧ W.cell? ⟨w.heap.size, 7, none⟩ = some (.slice (some ⟨b, off, none⟩) n sc) ∧ W.cell? ⟨b, off + k * 8, none⟩ = some (.int .i64 p.kind) ∧ W.cell? ⟨b, off + k * 8 + 1, none⟩ = some (.string p.op) ∧ W.cell? ⟨b, off + k * 8 + 2, none⟩ = some (.int .i64 p.vk) ∧ W.cell? ⟨b, off + k * 8 + 3, none⟩ = some (.int .i64 p.vn) ∧ W.cell? ⟨b, off + k * 8 + 4, none⟩ = some (.string p.vs) ∧ W.cell? ⟨b, off + k * 8 + 5, none⟩ = some (.string p.tab) ∧ W.cell? ⟨b, off + k * 8 + 6, none⟩ = some (.string p.col) ∧ W.cell? ⟨b, off + k * 8 + 7, none⟩ = some (.slice pa p.parts.length pc)) from fun W hW => by
          have h1 := (hW _ (by omega)).trans HT.out.out
          have h2 := (hW _ (by omega)).trans HT.out.arg
          have h3 := hat.far ((hW b (by omega)).trans (HT.out.below.block b hbl))
          exact ⟨cell_of_row W _ 7 _ _ _ h1, frozen_of_row W _ 7 _ _ h1, cell_of_row W _ 7 _ _ _ h2, h3.c0, h3.c1, h3.c2, h3.c3, h3.c4, h3.c5, h3.c6, h3.c7⟩)
        have HS0 := Lib.hid (HS.out wr (fun _ _ => rfl))
        have HLow := Lib.hid (show ∀ W : World, Below wr.heap.size wr W → ∀ i, i < w.heap.size + 3 → W.heap[i]? = wr.heap[i]? from fun W hW i hi => hW.block i (Nat.lt_of_lt_of_le hi HT.out.size))
        have HPm := Lib.hid (show ∀ ra rc, (pl ++ [(p, ra, rc)]).map (·.1) = e.parts.take (pl ++ [(p, ra, rc)]).length from fun ra rc => by rw [List.length_append, ← HKl.out]; show _ = e.parts.take (k + 1); rw [List.map_append, HL.out.1, ← HKl.out, HTk.out]; rfl)
        have HRow := Lib.hid HT.out.row
        have HKb := Lib.hid (show pl.length ≤ 100000 by rw [← HKl.out]; omega)
        have HVlt := Lib.hid (show ∀ g, v.ownBlock = some g → w.heap.size + 3 ≤ g ∧ g < wr.heap.size from fun g hg => HT.out.row.lt g hg)
        have HSzw := Lib.hid HT.out.size
        have HLt := Lib.hid hlt
        obtain ⟨s0, s1, s2, s3, s4, s5, s6, s7, s8, s9, s10⟩ := HS0.out
        have hbs : b < wr.heap.size := by have := HSzw.out; omega
        clear hat hprg hpl2 hpm hp hkp hk hlt hkn
        have hsw0 : w.heap.size + 1 + 1 < wr.heap.size := by have := HSzw.out; omega
        have hsw1 : w.heap.size < wr.heap.size := by have := HSzw.out; omega
        go_upto_region 5 with (fail)
        go_region_law (first
            | (refine step_et rfl (.tmp 23) (.tmp 30) rfl (w.heap.size + 3) v pl w3.heap.size (p, ra, rc) rfl rfl (by exact (own_keep3 HRow.out HB3.out).alloc _) (by exact Go.heap_alloc_new w3 _) HKb.out (by exact HSz3.out _) ?_; intro g cap w4 hown hgrow hat; have HOwn := Lib.hid hown; have HGr := Lib.hid hgrow; have HAt := Lib.hid hat; obtain ⟨u0, u1, u2, u3, u4, u5, u6, u7, u8, u9, u10⟩ := HS.out w4 (low4 HLow.out HB3.out HVlt.out HSzw.out hgrow); clear hown hgrow hat)
            | (go_simp; go_at_call 12; refine (HIH.out p HSz.out _ Q _ (by exact HEv.out _ HT.out.below.drew)).mono ?_; rintro e' w3 ⟨⟨r, rfl, ra, rc, rfl, hrrg, hrel⟩, hb3⟩; rw [etX_arr]; have HRg := Lib.hid hrrg; have HEl := Lib.hid hrel; have HB3 := Lib.hid (show Below wr.heap.size wr w3 from ⟨hb3.os, hb3.tape, hb3.output, hb3.size, hb3.block⟩); have HSz3 := Lib.hid (fun (o : Obj) => (show w.heap.size + 3 ≤ (w3.alloc o).heap.size from size3 HSzw.out hb3.size o)); obtain ⟨t0, t1, t2, t3, t4, t5, t6, t7, t8, t9, t10⟩ := HS.out w3 (HLow.out w3 HB3.out); have t11 := Nat.lt_of_lt_of_le hsw0 HB3.out.size; have t12 := Nat.lt_of_lt_of_le hsw1 HB3.out.size; have t13 := Nat.lt_of_lt_of_le hbs HB3.out.size; clear hrrg hrel hb3))
        all_goals
          have HNx := Lib.hid (HT.out.next (y := (p, ra, rc)) (o := .cells (etX p ra rc).toArray 34 (0, 0)) HB3.out HRg.out HEl.out HOwn.out HGr.out HAt.out)
          go_wp2_with fail
          go_roundw
          case rel =>
            refine ⟨pl ++ [(p, ra, rc)], _, by rw [List.length_append, ← HKl.out]; go_num, Lib.hid ⟨?_, ?_, HNx.out⟩⟩
            · exact HPm.out ra rc
            · rw [List.length_append, ← HKl.out]; exact HLt.out
          case measure => simp [intOf]; have := HLt.out; omega
      · obtain rfl : k = n := by omega
        have HF := Lib.hid (th_done HT.out HL.out.1 HNl.out HKl.out HR.out)
        obtain ⟨a, cap, rfl, hbig⟩ := HF.out
        have HG := Lib.hid hbig
        have h1 := HT.out.out
        have h2 := HT.out.res
        have p0 : wr.cell? ⟨w.heap.size + 1 + 1, 0, none⟩ = some (.int .i64 e.kind) := cell_of_row wr _ 0 _ _ _ h1
        have p1 : wr.cell? ⟨w.heap.size + 1 + 1, 1, none⟩ = some (.string e.op) := cell_of_row wr _ 1 _ _ _ h1
        have p2 : wr.cell? ⟨w.heap.size + 1 + 1, 2, none⟩ = some (.int .i64 e.vk) := cell_of_row wr _ 2 _ _ _ h1
        have p3 : wr.cell? ⟨w.heap.size + 1 + 1, 3, none⟩ = some (.int .i64 e.vn) := cell_of_row wr _ 3 _ _ _ h1
        have p4 : wr.cell? ⟨w.heap.size + 1 + 1, 4, none⟩ = some (.string e.vs) := cell_of_row wr _ 4 _ _ _ h1
        have p5 : wr.cell? ⟨w.heap.size + 1 + 1, 5, none⟩ = some (.string e.tab) := cell_of_row wr _ 5 _ _ _ h1
        have p6 : wr.cell? ⟨w.heap.size + 1 + 1, 6, none⟩ = some (.string e.col) := cell_of_row wr _ 6 _ _ _ h1
        have p7 : wr.cell? ⟨w.heap.size + 1 + 1, 7, none⟩ = some (.slice a k cap) := cell_of_row wr _ 7 _ _ _ h1
        have r0 : wr.cell? ⟨w.heap.size + 1, 0, none⟩ = some (.int .i64 0) := cell_of_row wr _ 0 _ _ _ h2
        have r1 : wr.cell? ⟨w.heap.size + 1, 1, none⟩ = some (.string ⟨#[]⟩) := cell_of_row wr _ 1 _ _ _ h2
        have r2 : wr.cell? ⟨w.heap.size + 1, 2, none⟩ = some (.int .i64 0) := cell_of_row wr _ 2 _ _ _ h2
        have r3 : wr.cell? ⟨w.heap.size + 1, 3, none⟩ = some (.int .i64 0) := cell_of_row wr _ 3 _ _ _ h2
        have r4 : wr.cell? ⟨w.heap.size + 1, 4, none⟩ = some (.string ⟨#[]⟩) := cell_of_row wr _ 4 _ _ _ h2
        have r5 : wr.cell? ⟨w.heap.size + 1, 5, none⟩ = some (.string ⟨#[]⟩) := cell_of_row wr _ 5 _ _ _ h2
        have r6 : wr.cell? ⟨w.heap.size + 1, 6, none⟩ = some (.string ⟨#[]⟩) := cell_of_row wr _ 6 _ _ _ h2
        have r7 : wr.cell? ⟨w.heap.size + 1, 7, none⟩ = some (.slice none 0 0) := cell_of_row wr _ 7 _ _ _ h2
        have z0 : wr.frozen? ⟨w.heap.size + 1, 0, none⟩ = false := frozen_of_row wr _ 0 _ _ h2
        have z1 : wr.frozen? ⟨w.heap.size + 1, 1, none⟩ = false := frozen_of_row wr _ 1 _ _ h2
        have z2 : wr.frozen? ⟨w.heap.size + 1, 2, none⟩ = false := frozen_of_row wr _ 2 _ _ h2
        have z3 : wr.frozen? ⟨w.heap.size + 1, 3, none⟩ = false := frozen_of_row wr _ 3 _ _ h2
        have z4 : wr.frozen? ⟨w.heap.size + 1, 4, none⟩ = false := frozen_of_row wr _ 4 _ _ h2
        have z5 : wr.frozen? ⟨w.heap.size + 1, 5, none⟩ = false := frozen_of_row wr _ 5 _ _ h2
        have z6 : wr.frozen? ⟨w.heap.size + 1, 6, none⟩ = false := frozen_of_row wr _ 6 _ _ h2
        have z7 : wr.frozen? ⟨w.heap.size + 1, 7, none⟩ = false := frozen_of_row wr _ 7 _ _ h2
        have hsz := HT.out.size
        have hz1 : w.heap.size + 1 < wr.heap.size := by omega
        have hz2 : w.heap.size + 1 + 1 < wr.heap.size := by omega
        have hkk : ¬ ((k : Int) < (k : Int)) := by omega
        clear h1 h2 hbig hsz hk hkn hlt
        go_wp2_with fail
        have HD := HG.out.2 [.int .i64 e.kind, .string e.op, .int .i64 e.vk, .int .i64 e.vn, .string e.vs, .string e.tab, .string e.col, .slice a k cap] 0
        exact bodyPost_ret (v := .agg #[.int .i64 e.kind, .string e.op, .int .i64 e.vk, .int .i64 e.vn, .string e.vs, .string e.tab, .string e.col, .slice a k cap]) (by simp [results, Tryz.results12, go_sem, r0, r1, r2, r3, r4, r5, r6, r7, hz1]) rfl ⟨⟨_, rfl, a, cap, by rw [etX_arr, ← HNl.out], HG.out.1, HD.1⟩, HD.2⟩
end Go.Proofs.YtpinalpigefenaaGreatDoor
