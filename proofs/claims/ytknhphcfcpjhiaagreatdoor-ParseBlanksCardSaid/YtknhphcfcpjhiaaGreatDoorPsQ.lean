/- How a query and a statement lie. Written by genpq.py. -/
import Derived.Test.YtknhphcfcpjhiaaGreatDoorPsP2
import Derived.Deep.AppendLies
namespace Go.Proofs.YtknhphcfcpjhiaaGreatDoor
open Go.RowKit
set_option linter.unusedVariables false
set_option linter.unusedSimpArgs false
set_option maxRecDepth 100000
/-- a list in a row of its own, blocks from B on -/
structure LsO {α : Type} (S : Shp α) (T : TypeId) (B : Nat) (w : World) (v : Value) (l : List α) (css : List (List Value)) : Prop where
  own : w.ownsRow B T S.n v l.length css.flatten
  len : css.length = l.length
  el : ∀ i (h : i < l.length), S.R w (fun b => B ≤ b ∧ v.ownBlock ≠ some b) (css.getD i []) l[i]
theorem LsO.rto {α : Type} {S : Shp α} {T : TypeId} {B N : Nat} {w w' : World} {v : Value} {l : List α} {css : List (List Value)} (h : LsO S T B w v l css) (t : RTo N w w') (hN : N < B) : LsO S T B w' v l css := by
  refine ⟨⟨h.own.1, ?_⟩, h.len, fun i hi => S.far (h.el i hi) t.size (fun b hb hlt => t.block b hlt (by omega))⟩
  rcases h.own.2 with h0 | ⟨g, cap, cur, a, b, hg, r⟩
  · exact .inl h0
  · exact .inr ⟨g, cap, cur, a, b, (t.block g (Array.getElem?_eq_some_iff.1 hg).1 (by omega)).trans hg, r⟩
/-- the first one -/
theorem LsO.one {α : Type} {S : Shp α} {T : TypeId} {B : Nat} {w : World} {cs : List Value} {x : α} (hx : S.R w (fun b => B ≤ b) cs x) (hB : B ≤ w.heap.size) : LsO S T B (w.alloc (.cells cs.toArray T (0, 0))) (.slice (some ⟨w.heap.size, 0, none⟩) 1 1) [x] [cs] := by
  have hl := S.len hx
  refine ⟨⟨by simp [hl], .inr ⟨w.heap.size, 1, cs.toArray, rfl, hB, Go.heap_alloc_new w _, Nat.le_refl _, by unfold maxLen; omega, by simp [hl], ?_⟩⟩, rfl, fun i hi => ?_⟩
  · simp only [List.length_cons, List.length_nil, List.flatten_cons, List.flatten_nil, List.append_nil]
    rw [List.take_of_length_le (by simp [hl])]
  · have h0 : i = 0 := by simpa using hi
    subst h0
    have hb := bel0 (.cells cs.toArray T (0, 0)) (Below.refl w.heap.size w)
    refine S.far (w := w) (S.mono hx (fun b hb hlt => ⟨hb, fun e => ?_⟩)) hb.size (fun b _ hlt => hb.block b hlt)
    have : w.heap.size = b := by simpa [Value.ownBlock] using e
    omega
/-- one more -/
theorem LsO.push {α : Type} {S : Shp α} {T : TypeId} {B : Nat} {W w' : World} {v : Value} {l : List α} {css : List (List Value)} {cs : List Value} {x : α} {g cap : Nat} (h : LsO S T B W v l css) (hx : S.R W (fun b => B ≤ b ∧ v.ownBlock ≠ some b) cs x) (hg : W.grownBy w' v.ownBlock) (hor : v.ownBlock = some g ∨ g = W.heap.size)
    (hown : w'.ownsRow B T S.n (.slice (some ⟨g, 0, none⟩) (l.length + 1) cap) (l.length + 1) (css.flatten ++ cs)) : LsO S T B w' (.slice (some ⟨g, 0, none⟩) (l.length + 1) cap) (l ++ [x]) (css ++ [cs]) := by
  have hq : ∀ b, (B ≤ b ∧ v.ownBlock ≠ some b) → b < W.heap.size → B ≤ b ∧ (Value.slice (some ⟨g, 0, none⟩) (l.length + 1) cap).ownBlock ≠ some b := by
    rintro b ⟨h1, h2⟩ hlt
    refine ⟨h1, fun e => ?_⟩
    have : g = b := by simpa [Value.ownBlock] using e
    subst this
    rcases hor with hor | hor
    · exact h2 hor
    · omega
  have hf : ∀ {cs x}, S.R W (fun b => B ≤ b ∧ v.ownBlock ≠ some b) cs x → S.R w' (fun b => B ≤ b ∧ (Value.slice (some ⟨g, 0, none⟩) (l.length + 1) cap).ownBlock ≠ some b) cs x := fun {cs x} hr =>
    S.mono (S.far (S.mono (Q' := fun b => (B ≤ b ∧ v.ownBlock ≠ some b) ∧ (B ≤ b ∧ (Value.slice (some ⟨g, 0, none⟩) (l.length + 1) cap).ownBlock ≠ some b)) hr (fun b hb hlt => ⟨hb, hq b hb hlt⟩)) hg.size (fun b hb hlt => hg.block b hlt (fun e => hb.1.2 e.symm))) (fun b hb _ => hb.2)
  refine ⟨by rw [List.length_append]; simpa using hown, by rw [List.length_append, List.length_append, h.len]; rfl, fun i hi => ?_⟩
  by_cases hil : i < l.length
  · have e1 : (css ++ [cs]).getD i [] = css.getD i [] := by
      rw [List.getD_eq_getElem?_getD, List.getD_eq_getElem?_getD, List.getElem?_append_left (by rw [h.len]; exact hil)]
    rw [e1, List.getElem_append_left hil]
    exact hf (h.el i hil)
  · have hie : i = l.length := by simp at hi; omega
    subst hie
    have e1 : (css ++ [cs]).getD l.length [] = cs := by
      rw [List.getD_eq_getElem?_getD, List.getElem?_append_right (by rw [h.len]; exact Nat.le_refl _), h.len]
      simp
    have e2 : (l ++ [x])[l.length] = x := by simp
    rw [e1, e2]
    exact hf hx
theorem flat_at {n : Nat} : ∀ (css : List (List Value)), (∀ c ∈ css, c.length = n) → ∀ i j, i < css.length → j < n → css.flatten[i * n + j]? = (css.getD i [])[j]?
  | [], _, i, j, hi, _ => by simp at hi
  | c :: css, h, 0, j, _, hj => by
    rw [List.flatten_cons, Nat.zero_mul, Nat.zero_add, List.getElem?_append_left (by rw [h c List.mem_cons_self]; exact hj)]
    rfl
  | c :: css, h, i + 1, j, hi, hj => by
    have hc := h c List.mem_cons_self
    rw [List.flatten_cons, List.getElem?_append_right (by rw [hc, Nat.add_mul]; omega), hc, show (i + 1) * n + j - n = i * n + j by rw [Nat.add_mul]; omega]
    rw [flat_at css (fun x hx => h x (List.mem_cons_of_mem _ hx)) i j (by simpa using hi) hj]
    simp
/-- as a slice of things -/
theorem LsO.sl {α : Type} {S : Shp α} {T : TypeId} {B : Nat} {w : World} {v : Value} {l : List α} {css : List (List Value)} (h : LsO S T B w v l css) (h0 : 0 < l.length) : SlV S w (fun b => B ≤ b) v l := by
  obtain ⟨g, cap, rfl, hB, hlt⟩ := h.own.form h0
  have hcap : l.length ≤ cap ∧ cap ≤ maxLen := by
    rcases h.own.2 with ⟨_, e⟩ | ⟨g', cap', cur, e, _, _, h1, h2, _⟩
    · omega
    · cases e; exact ⟨h1, h2⟩
  refine ⟨_, cap, rfl, hcap.1, hcap.2, .inr ⟨g, 0, rfl, hB, hlt, fun i hi => ⟨css.getD i [], S.mono (h.el i hi) (fun b hb _ => hb.1), fun j c hc => ?_⟩⟩⟩
  have hle := S.len (h.el i hi)
  have hj : j < S.n := by
    rcases Nat.lt_or_ge j S.n with hj | hj
    · exact hj
    · rw [List.getElem?_eq_none (by omega)] at hc; cases hc
  have hall : ∀ c ∈ css, c.length = S.n := fun c hc => by
    obtain ⟨k, hk, rfl⟩ := List.mem_iff_getElem.1 hc
    have := S.len (h.el k (by rw [← h.len]; exact hk))
    rw [List.getD_eq_getElem?_getD, List.getElem?_eq_getElem hk] at this
    exact this
  rw [Nat.zero_add, h.own.cellAt (i * S.n + j) (by
    have h1 : (i + 1) * S.n ≤ l.length * S.n := Nat.mul_le_mul_right _ hi
    rw [Nat.add_mul] at h1
    omega), flat_at css hall i j (by rw [h.len]; exact hi) hj]
  exact hc
theorem RTo.grown {N B : Nat} {w W w' : World} {v : Value} {T : TypeId} {sz n : Nat} {xs : List Value} (h : RTo N w W) (hN : N ≤ W.heap.size) (hB : w.heap.size ≤ B) (hNB : N ≤ B) (hown : W.ownsRow B T sz v n xs) (hg : W.grownBy w' v.ownBlock) : RTo N w w' :=
  ⟨h.below.trans ((Below.refl N W).grown hg hN (fun k hk => Nat.le_trans hNB (hown.lt k hk).1)), fun i hi hn => (hg.block i (Nat.lt_of_lt_of_le hi h.size) (fun e => by
    have := (hown.lt i e.symm).1
    omega)).trans (h.block i hi hn)⟩
theorem RdS.grown {N B : Nat} {W w' : World} {wa : Option Addr} {wn wc : Nat} {ws : List Wd} {s : PS} {v : Value} {T : TypeId} {sz n : Nat} {xs : List Value} (h : RdS N W wa wn wc ws s) (hNB : N < B) (hown : W.ownsRow B T sz v n xs) (hg : W.grownBy w' v.ownBlock) : RdS N w' wa wn wc ws s := by
  have hne : ∀ i, i ≤ N → some i ≠ v.ownBlock := fun i hi e => by
    have := (hown.lt i e.symm).1
    omega
  refine ⟨(hg.block N h.low (hne N (Nat.le_refl _))).trans h.rd, h.words.keep ((Below.refl N W).grown hg (Nat.le_of_lt h.low) (fun k hk => by have := (hown.lt k hk).1; omega)), h.pos, h.met⟩
end Go.Proofs.YtknhphcfcpjhiaaGreatDoor
namespace Go.Proofs.YtknhphcfcpjhiaaGreatDoor
open Go.RowKit
set_option linter.unusedVariables false
set_option linter.unusedSimpArgs false
set_option maxRecDepth 100000
theorem more_yes {α : Type} {ws : List Wd} {one : PS → α × PS} {f : Nat} {l : List α} {s s1 : PS} (h : takeR ws 4 [44] s = (true, s1)) : moreR ws one (f + 1) l s = moreR ws one f (l ++ [(one s1).1]) (one s1).2 ∧ s1.1 = s.1 + 1 ∧ s.1 < ws.length := by
  unfold takeR at h
  obtain ⟨h1, h2⟩ := Prod.mk.inj h
  rw [h1] at h2
  have hlt : s.1 < ws.length := by
    unfold tkS at h1
    rw [Bool.and_eq_true] at h1
    exact isW_lt h1.2
  subst h2
  refine ⟨?_, rfl, hlt⟩
  conv => lhs; unfold moreR
  rw [if_pos h1]
theorem more_no {α : Type} {ws : List Wd} {one : PS → α × PS} {f : Nat} {l : List α} {s s1 : PS} (h : takeR ws 4 [44] s = (false, s1)) : moreR ws one f l s = (l, s1) := by
  unfold takeR at h
  obtain ⟨h1, h2⟩ := Prod.mk.inj h
  rw [h1] at h2
  have h3 : s1 = s := by rw [← h2]; rfl
  subst h3
  cases f with
  | zero => rfl
  | succ f =>
    unfold moreR
    rw [if_neg (by rw [h1]; simp)]
def MonoP {α : Type} (one : PS → α × PS) : Prop := ∀ s, s.1 ≤ (one s).2.1
theorem fl_pos (e : Int) (s : PS) : (fl e s).1 = s.1 := by unfold fl; split <;> rfl
theorem take_mono (ws : List Wd) (k : Int) (t : Bs) (s : PS) : s.1 ≤ (takeR ws k t s).2.1 := by
  unfold takeR goS
  dsimp only
  split
  · exact Nat.le_succ _
  · exact Nat.le_refl _
theorem name_mono (ws : List Wd) : MonoP (nameR ws) := fun s => by
  unfold nameR
  split
  · exact Nat.le_succ _
  · exact Nat.le_of_eq (fl_pos _ _).symm
theorem expr_mono (ws : List Wd) : MonoP (exprR ws) := fun s => by
  unfold exprR
  split
  · exact Nat.le_refl _
  · split
    · exact Nat.le_of_eq (fl_pos _ _).symm
    · exact Nat.le_add_right _ _
theorem mustG_mono (ws : List Wd) (t : Bs) (s : PS) : s.1 ≤ (mustG ws t s).1 := by
  unfold mustG goS
  split
  · exact Nat.le_succ _
  · exact Nat.le_of_eq (fl_pos _ _).symm
theorem mustK_mono (ws : List Wd) : ∀ (l : List Bs) (s : PS), s.1 ≤ (mustK ws l s).1
  | [], s => Nat.le_refl _
  | k :: l, s => by
    refine Nat.le_trans ?_ (mustK_mono ws l _)
    split
    · exact Nat.le_succ _
    · exact Nat.le_of_eq (fl_pos _ _).symm
theorem item_mono (ws : List Wd) : MonoP (itemR ws) := fun s => by
  have h1 := expr_mono ws s
  have h2 := take_mono ws 1 kAS (exprR ws s).2
  unfold itemR
  dsimp only
  split
  · exact Nat.le_trans (Nat.le_trans h1 h2) (name_mono ws _)
  · exact Nat.le_trans h1 h2
theorem assign_mono (ws : List Wd) : MonoP (assignR ws) := fun s => Nat.le_trans (Nat.le_trans (name_mono ws s) (mustG_mono ws [61] _)) (expr_mono ws _)
theorem order_mono (ws : List Wd) : MonoP (orderR ws) := fun s => by
  have h1 := expr_mono ws s
  have h2 := take_mono ws 1 kDESC (exprR ws s).2
  unfold orderR
  dsimp only
  split
  · exact Nat.le_trans h1 h2
  · exact Nat.le_trans (Nat.le_trans h1 h2) (take_mono ws 1 kASC _)
theorem column_mono (ws : List Wd) : MonoP (columnR ws) := fun s => by
  rw [columnR_eq]
  have h1 := name_mono ws s
  have h2 := take_mono ws 1 kINT (nameR ws s).2
  have hd : ∀ nm k c s, s.1 ≤ (colD ws nm k c s).2.1 := fun nm k c s => take_mono ws 1 kUNIQUE s
  have hc : ∀ nm k s, s.1 ≤ (colC ws nm k s).2.1 := fun nm k s => by
    unfold colC
    split
    · exact Nat.le_trans (Nat.le_trans (take_mono ws 1 kNOT s) (mustK_mono ws _ _)) (hd _ _ _ _)
    · exact Nat.le_trans (take_mono ws 1 kNOT s) (hd _ _ _ _)
  split
  · exact Nat.le_trans (Nat.le_trans h1 h2) (hc _ _ _)
  · exact Nat.le_trans (Nat.le_trans (Nat.le_trans h1 h2) (mustK_mono ws _ _)) (hc _ _ _)
theorem more_mono {α : Type} (ws : List Wd) {one : PS → α × PS} (h : MonoP one) : ∀ (f : Nat) (l : List α) (s : PS), s.1 ≤ (moreR ws one f l s).2.1
  | 0, l, s => Nat.le_refl _
  | f + 1, l, s => by
    unfold moreR
    split
    · exact Nat.le_trans (Nat.le_trans (show s.1 ≤ (goS true s).1 from Nat.le_succ s.1) (h _)) (more_mono ws h f _ _)
    · exact Nat.le_refl _
theorem list_mono {α : Type} (ws : List Wd) {one : PS → α × PS} (h : MonoP one) : MonoP (listR ws one) := fun s => Nat.le_trans (h s) (more_mono ws h _ _ _)
theorem brack_mono {α : Type} (ws : List Wd) {one : PS → α × PS} (h : MonoP one) : MonoP (brackR ws one) := fun s => Nat.le_trans (Nat.le_trans (mustG_mono ws [40] s) (list_mono ws h _)) (mustG_mono ws [41] _)
theorem RdS.posOf {N : Nat} {w : World} {wa : Option Addr} {wn wc : Nat} {ws : List Wd} {s : PS} (h : RdS N w wa wn wc ws s) : posOf N w = s.1 := by
  unfold Go.Proofs.YtknhphcfcpjhiaaGreatDoor.posOf
  rw [h.cells.2.1]
  simp [intOf]
end Go.Proofs.YtknhphcfcpjhiaaGreatDoor
namespace Go.Proofs.YtknhphcfcpjhiaaGreatDoor
open Go.RowKit
set_option linter.unusedVariables false
set_option linter.unusedSimpArgs false
set_option maxRecDepth 100000
theorem SlV.rto {α : Type} {S : Shp α} {N B : Nat} {w w' : World} {v : Value} {l : List α} (h : SlV S w (fun b => B ≤ b) v l) (t : RTo N w w') (hN : N < B) : SlV S w' (fun b => B ≤ b) v l := by
  obtain ⟨a, cap, rfl, h1, h2, h3⟩ := h
  refine ⟨a, cap, rfl, h1, h2, h3.imp id ?_⟩
  rintro ⟨b, off, rfl, hb, hlt, hel⟩
  refine ⟨b, off, rfl, hb, Nat.lt_of_lt_of_le hlt t.size, fun i hi => ?_⟩
  obtain ⟨cs, hc, hj⟩ := hel i hi
  exact ⟨cs, S.far hc t.size (fun b' hb' hlt' => t.block b' hlt' (by omega)), fun j c hjc => (World.cell?_of_block (by exact t.block b hlt (by omega))).trans (hj j c hjc)⟩
theorem SlV.mono {α : Type} {S : Shp α} {Q Q' : Nat → Prop} {w : World} {v : Value} {l : List α} (h : SlV S w Q v l) (hq : ∀ b, Q b → b < w.heap.size → Q' b) : SlV S w Q' v l := by
  obtain ⟨a, cap, rfl, h1, h2, h3⟩ := h
  refine ⟨a, cap, rfl, h1, h2, h3.imp id ?_⟩
  rintro ⟨b, off, rfl, hb, hlt, hel⟩
  refine ⟨b, off, rfl, hq b hb hlt, hlt, fun i hi => ?_⟩
  obtain ⟨cs, hc, hj⟩ := hel i hi
  exact ⟨cs, S.mono hc hq, hj⟩
theorem SlV.el {Q : Nat → Prop} {w : World} {v : Value} {l : List ET} (h : SlV exS w Q v l) : ∃ a cap, v = .slice a l.length cap ∧ EL w Q a l ∧ l.length ≤ cap ∧ cap ≤ maxLen := by
  obtain ⟨a, cap, rfl, h1, h2, h3⟩ := h
  refine ⟨a, cap, rfl, ?_, h1, h2⟩
  rcases h3 with rfl | ⟨b, off, rfl, hb, hlt, hel⟩
  · exact .nil _
  have hx : ∀ i, ∃ p : Option Addr × Nat, ∀ h : i < l.length, ERg l[i] p.1 p.2 ∧ EL w Q p.1 l[i].parts ∧ ∀ j c, (etX l[i] p.1 p.2)[j]? = some c → w.cell? ⟨b, off + i * 8 + j, none⟩ = some c := fun i => by
    by_cases h : i < l.length
    · obtain ⟨cs, ⟨sa, sc, rfl, hr, he⟩, hj⟩ := hel i h
      exact ⟨(sa, sc), fun _ => ⟨hr, he, hj⟩⟩
    · exact ⟨(none, 0), fun h' => (h h').elim⟩
  obtain ⟨f, hf⟩ := Classical.axiomOfChoice hx
  exact .row b off l (fun i => (f i).1) (fun i => (f i).2) hb hlt (fun i h => ⟨(hf i h).2.2 0 _ rfl, (hf i h).2.2 1 _ rfl, (hf i h).2.2 2 _ rfl, (hf i h).2.2 3 _ rfl, (hf i h).2.2 4 _ rfl, (hf i h).2.2 5 _ rfl, (hf i h).2.2 6 _ rfl, (hf i h).2.2 7 _ rfl⟩) (fun i h => (hf i h).1) (fun i h => (hf i h).2.1)
end Go.Proofs.YtknhphcfcpjhiaaGreatDoor
namespace Go.Proofs.YtknhphcfcpjhiaaGreatDoor
open Go.RowKit
set_option linter.unusedVariables false
set_option linter.unusedSimpArgs false
set_option maxRecDepth 100000
theorem SlV.far {α : Type} {S : Shp α} {Q : Nat → Prop} {w w' : World} {v : Value} {l : List α} (h : SlV S w Q v l) (hs : w.heap.size ≤ w'.heap.size) (hb : ∀ b, Q b → b < w.heap.size → w'.heap[b]? = w.heap[b]?) : SlV S w' Q v l := by
  obtain ⟨a, cap, rfl, h1, h2, h3⟩ := h
  refine ⟨a, cap, rfl, h1, h2, h3.imp id ?_⟩
  rintro ⟨b, off, rfl, hq, hlt, hel⟩
  refine ⟨b, off, rfl, hq, Nat.lt_of_lt_of_le hlt hs, fun i hi => ?_⟩
  obtain ⟨cs, hc, hj⟩ := hel i hi
  exact ⟨cs, S.far hc hs hb, fun j c hjc => (World.cell?_of_block (by exact hb b hq hlt)).trans (hj j c hjc)⟩
theorem SlV.nil {α : Type} (S : Shp α) (w : World) (Q : Nat → Prop) : SlV S w Q (.slice none 0 0) [] := ⟨none, 0, rfl, Nat.le_refl _, by unfold maxLen; omega, .inl rfl⟩
theorem LeV.far {Q : Nat → Prop} {w w' : World} {v : Value} {l : List ET} (h : LeV w Q v l) (hs : w.heap.size ≤ w'.heap.size) (hb : ∀ b, Q b → b < w.heap.size → w'.heap[b]? = w.heap[b]?) : LeV w' Q v l := by
  obtain ⟨a, cap, h1, h2, h3⟩ := h
  exact ⟨a, cap, h1, h2.far hs hb, h3⟩
theorem LeV.mono {Q Q' : Nat → Prop} {w : World} {v : Value} {l : List ET} (h : LeV w Q v l) (hq : ∀ b, Q b → b < w.heap.size → Q' b) : LeV w Q' v l := by
  obtain ⟨a, cap, h1, h2, h3⟩ := h
  exact ⟨a, cap, h1, h2.mono hq, h3⟩
theorem LeV.nil (w : World) (Q : Nat → Prop) : LeV w Q (.slice none 0 0) [] := ⟨none, 0, rfl, .nil none, Nat.le_refl _, by unfold maxLen; omega⟩
/-- the cells of a query -/
def quS : Shp QT := ⟨8, fun w Q cs q => ∃ vi vs vw vg vo, cs = [.bool q.dist, .bool q.star, vi, vs, vw, vg, vo, .int .i64 q.lim] ∧ SlV itS w Q vi q.items ∧ SlV soS w Q vs q.src ∧ LeV w Q vw q.whr ∧ LeV w Q vg q.group ∧ SlV odS w Q vo q.ord ∧ (Lit.int .i64 q.lim).wf = true,
  fun ⟨_, _, _, _, _, h, _⟩ => by rw [h]; rfl,
  fun ⟨vi, vs, vw, vg, vo, h0, h1, h2, h3, h4, h5, h6⟩ hs hb => ⟨vi, vs, vw, vg, vo, h0, h1.far hs hb, h2.far hs hb, h3.far hs hb, h4.far hs hb, h5.far hs hb, h6⟩,
  fun ⟨vi, vs, vw, vg, vo, h0, h1, h2, h3, h4, h5, h6⟩ hq => ⟨vi, vs, vw, vg, vo, h0, h1.mono hq, h2.mono hq, h3.mono hq, h4.mono hq, h5.mono hq, h6⟩⟩
/-- the cells of a statement -/
def smS : Shp ST := ⟨17, fun w Q cs s => ∃ vc vk vr vs vw cq, cs = .int .i64 s.kind :: .string s.name :: .string s.on :: .bool s.uniq :: vc :: vk :: vr :: vs :: vw :: cq ∧ SlV coS w Q vc s.cols ∧ SlV stS w Q vk s.keys ∧ SlV roS w Q vr s.rows ∧ SlV asS w Q vs s.sets ∧ LeV w Q vw s.whr ∧ quS.R w Q cq s.q ∧ (Lit.int .i64 s.kind).wf = true ∧ s.name.size ≤ maxLen ∧ s.on.size ≤ maxLen,
  fun ⟨_, _, _, _, _, _, h, _, _, _, _, _, hq, _⟩ => by rw [h]; simp [show _ = 8 from quS.len hq],
  fun ⟨vc, vk, vr, vs, vw, cq, h0, h1, h2, h3, h4, h5, h6, h7⟩ hs hb => ⟨vc, vk, vr, vs, vw, cq, h0, h1.far hs hb, h2.far hs hb, h3.far hs hb, h4.far hs hb, h5.far hs hb, quS.far h6 hs hb, h7⟩,
  fun ⟨vc, vk, vr, vs, vw, cq, h0, h1, h2, h3, h4, h5, h6, h7⟩ hq => ⟨vc, vk, vr, vs, vw, cq, h0, h1.mono hq, h2.mono hq, h3.mono hq, h4.mono hq, h5.mono hq, quS.mono h6 hq, h7⟩⟩
theorem zQ_lies (w : World) (Q : Nat → Prop) : quS.R w Q [.bool false, .bool false, .slice none 0 0, .slice none 0 0, .slice none 0 0, .slice none 0 0, .slice none 0 0, .int .i64 0] zQ :=
  ⟨_, _, _, _, _, rfl, SlV.nil _ _ _, SlV.nil _ _ _, LeV.nil _ _, LeV.nil _ _, SlV.nil _ _ _, rfl⟩
/-- a statement that bears a kind and a name only -/
theorem nm_lies (w : World) (Q : Nat → Prop) (k : Int) (n : ByteArray) (hk : (Lit.int .i64 k).wf = true) (hn : n.size ≤ maxLen) :
    smS.R w Q [.int .i64 k, .string n, .string ⟨#[]⟩, .bool false, .slice none 0 0, .slice none 0 0, .slice none 0 0, .slice none 0 0, .slice none 0 0, .bool false, .bool false, .slice none 0 0, .slice none 0 0, .slice none 0 0, .slice none 0 0, .slice none 0 0, .int .i64 0] { zST with kind := k, name := n } :=
  ⟨_, _, _, _, _, _, rfl, SlV.nil _ _ _, SlV.nil _ _ _, SlV.nil _ _ _, SlV.nil _ _ _, LeV.nil _ _, zQ_lies _ _, hk, hn, eB_le⟩
end Go.Proofs.YtknhphcfcpjhiaaGreatDoor
