/- The package's taker: what close rests on: the last one is taken off; a part more behind a left one. -/
import Derived.Test.YtafhgilikcablaaGreatDoorTkTest
import Derived.Test.YtafhgilikcablaaGreatDoorTkWt
import Derived.Deep.RegionHeldLaw
namespace Go.Proofs.YtafhgilikcablaaGreatDoor
open Go.RowKit
set_option linter.unusedVariables false
set_option linter.unusedSimpArgs false
set_option maxRecDepth 100000
theorem own_pop {w : World} {B g k c : Nat} {ms : List PM} {m : PM} (h : w.ownsRow B 96 12 (.slice (some ⟨g, 0, none⟩) (k + 1) c) (k + 1) (pmsX (ms ++ [m]))) (hk : ms.length = k) : w.ownsRow B 96 12 (.slice (some ⟨g, 0, none⟩) k c) k (pmsX ms) := by
  refine ⟨by rw [pmsX_length, hk], .inr ?_⟩
  rcases h.2 with ⟨h', _⟩ | ⟨g', cap', cur, he, hb, hg, h1, h2, hs, ht⟩
  · cases h'
  · simp only [Value.slice.injEq, Option.some.injEq, Addr.mk.injEq] at he
    obtain ⟨⟨rfl, _⟩, _, rfl⟩ := he
    refine ⟨g, c, cur, rfl, hb, hg, by omega, h2, hs, ?_⟩
    have h3 : (cur.toList.take ((k + 1) * 12)).take (k * 12) = cur.toList.take (k * 12) := by rw [List.take_take]; congr 1; omega
    rw [← h3, ht, pmsX_snoc, List.take_append_of_le_length (by rw [pmsX_length, hk]; exact Nat.le_refl _), List.take_of_length_le (by rw [pmsX_length, hk]; exact Nat.le_refl _)]
theorem own_last {w : World} {B g k c : Nat} {ms : List PM} {m : PM} (h : w.ownsRow B 96 12 (.slice (some ⟨g, 0, none⟩) (k + 1) c) (k + 1) (pmsX (ms ++ [m]))) (hk : ms.length = k) : ∀ j, j < 12 → w.cell? ⟨g, k * 12 + j, none⟩ = (pmX m)[j]? := by
  intro j hj
  rw [h.cellAt (k * 12 + j) (by omega), pmsX_at (ms ++ [m]) k j (by simp; omega) hj]
  simp [← hk]
theorem own_sliceP {w : World} {B n size : Nat} {e : TypeId} {v : Value} {xs : List Value} (h : w.ownsRow B e size v n xs) (hn : n ≠ 0) : ∃ g c, v = .slice (some ⟨g, 0, none⟩) n c ∧ B ≤ g ∧ n ≤ c ∧ c ≤ maxLen ∧ g < w.heap.size := by
  rcases h.2 with ⟨rfl, h0⟩ | ⟨g, cap, cur, rfl, hb, hg, h1, h2, _⟩
  · exact absurd h0 hn
  · exact ⟨g, cap, rfl, hb, h1, h2, (Array.getElem?_eq_some_iff.1 hg).1⟩
/-- the state behind a pop -/
theorem TSt.pop {A : Nat → Prop} {N : Nat} {w : World} {wa : Option Addr} {wn wc g k c : Nat} {ws : List Wd} {s : Tk} {ms : List PM} {m : PM} (h : TSt A N w wa wn wc ws (.slice (some ⟨g, 0, none⟩) (k + 1) c) s (ms ++ [m])) (hk : ms.length = k) :
    TSt A N (w.setCell ⟨N, 3, none⟩ (.slice (some ⟨g, 0, none⟩) k c)) wa wn wc ws (.slice (some ⟨g, 0, none⟩) k c) ⟨s.pos, s.least, ms.map (·.1)⟩ ms ∧ TTo N (.slice (some ⟨g, 0, none⟩) (k + 1) c) (.slice (some ⟨g, 0, none⟩) k c) w (w.setCell ⟨N, 3, none⟩ (.slice (some ⟨g, 0, none⟩) k c)) := by
  have hr := h.restN 3 (.slice (some ⟨g, 0, none⟩) k c)
  have hlen : (ms ++ [m]).length = k + 1 := by simp [hk]
  have ho := h.own
  rw [hlen] at ho
  have hf := h.few
  rw [← h.are] at hf
  have t := (TTo.refl N (.slice (some ⟨g, 0, none⟩) (k + 1) c) w).setN 3 (.slice (some ⟨g, 0, none⟩) k c)
  refine ⟨⟨Go.heap_setCell_same w N 3 _ _ _ h.rd, ?_, hr.1, rfl, fun m' hm => h.one m' (List.mem_append_left _ hm), fun m' hm => hr.2 m' (List.mem_append_left _ hm), h.pos, ?_, h.least⟩, t.below, t.block, fun i e => .inl e⟩
  · rw [hk]
    exact own_setT (own_pop ho hk) _ _
  · simp at hf
    show (ms.map (·.1)).length ≤ s.pos
    rw [List.length_map]; omega
theorem own_lastN {w : World} {B g k n c : Nat} {ms : List PM} {m : PM} (hn : n = k + 1) (h : w.ownsRow B 96 12 (.slice (some ⟨g, 0, none⟩) n c) n (pmsX (ms ++ [m]))) (hk : ms.length = k) : ∀ j, j < 12 → w.cell? ⟨g, k * 12 + j, none⟩ = (pmX m)[j]? := by
  subst hn
  exact own_last h hk
theorem TSt.popN {A : Nat → Prop} {N : Nat} {w : World} {wa : Option Addr} {wn wc g k n c : Nat} {ws : List Wd} {s : Tk} {ms : List PM} {m : PM} (hn : n = k + 1) (h : TSt A N w wa wn wc ws (.slice (some ⟨g, 0, none⟩) n c) s (ms ++ [m])) (hk : ms.length = k) :
    TSt A N (w.setCell ⟨N, 3, none⟩ (.slice (some ⟨g, 0, none⟩) k c)) wa wn wc ws (.slice (some ⟨g, 0, none⟩) k c) ⟨s.pos, s.least, ms.map (·.1)⟩ ms ∧ TTo N (.slice (some ⟨g, 0, none⟩) n c) (.slice (some ⟨g, 0, none⟩) k c) w (w.setCell ⟨N, 3, none⟩ (.slice (some ⟨g, 0, none⟩) k c)) := by
  subst hn
  exact h.pop hk
/-- cells of parts, one behind the other -/
def ptsX (pl : List (Pt × Option Addr × Nat)) : List Value := pl.flatMap fun q => ptX q.1 q.2.1 q.2.2
theorem ptsX_length : ∀ pl : List (Pt × Option Addr × Nat), (ptsX pl).length = pl.length * 10
  | [] => rfl
  | q :: pl => by show (ptX q.1 q.2.1 q.2.2 ++ ptsX pl).length = _; rw [List.length_append, ptsX_length pl]; simp [ptX]; omega
theorem ptsX_at : ∀ (pl : List (Pt × Option Addr × Nat)) (i j : Nat) (h : i < pl.length), j < 10 → (ptsX pl)[i * 10 + j]? = (ptX (pl[i]).1 (pl[i]).2.1 (pl[i]).2.2)[j]?
  | q :: pl, 0, j, _, hj => by
    show (ptX q.1 q.2.1 q.2.2 ++ ptsX pl)[0 * 10 + j]? = _
    rw [Nat.zero_mul, Nat.zero_add, List.getElem?_append_left (by simp [ptX]; omega)]; rfl
  | q :: pl, i + 1, j, hi, hj => by
    show (ptX q.1 q.2.1 q.2.2 ++ ptsX pl)[(i + 1) * 10 + j]? = _
    rw [List.getElem?_append_right (by simp [ptX]; omega), show (i + 1) * 10 + j - (ptX q.1 q.2.1 q.2.2).length = i * 10 + j by simp [ptX]; omega]
    exact ptsX_at pl i j (by simpa using hi) hj
theorem psAt_own {w : World} {B g n cap : Nat} {Q : Nat → Prop} {pl : List (Pt × Option Addr × Nat)} (h : w.ownsRow B 73 10 (.slice (some ⟨g, 0, none⟩) n cap) n (ptsX pl)) (hn : pl.length = n) (h1 : n ≤ 1000) (hs : ∀ q ∈ pl, PRg q.1 q.2.1 q.2.2 ∧ EL w Q q.2.1 q.1.e.parts) : PsAt w Q (some ⟨g, 0, none⟩) n (pl.map (·.1)) := by
  refine ⟨by rw [List.length_map]; exact hn, h1, .inr ⟨g, 0, rfl, (h.lt g rfl).2, fun i hi => ?_⟩⟩
  have hip : i < pl.length := by simpa using hi
  refine ⟨(pl[i]).2.1, (pl[i]).2.2, fun j hj => ?_, ?_, ?_⟩
  · rw [Nat.zero_add, h.cellAt (i * 10 + j) (by omega), ptsX_at pl i j hip hj, List.getElem_map]
  · rw [List.getElem_map]; exact (hs _ (List.getElem_mem hip)).1
  · rw [List.getElem_map]; exact (hs _ (List.getElem_mem hip)).2
theorem infoPt : (Tryz.prog.info? 73).map (fun i => (i.zero, i.size, i.bytes)) = some (some (.agg #[.int .i64 0, .string ⟨#[]⟩, .int .i64 0, .int .i64 0, .string ⟨#[]⟩, .string ⟨#[]⟩, .string ⟨#[]⟩, .slice none 0 0, .int .i64 0, .int .i64 0]), 10, 128) := by kernel_rfl
section
variable {W : World} {ops : Array Oper} {rest : List Oper} {o : Oper} {a : Act} {K : Act → World → Prop} {Q : Exit → Act → World → Prop} {E : Prop}
theorem step_pt (hgd : o.guard = none) (s x : Operand) (ho : o.op = .call { callee := .builtin .append, args := #[s, x], argTypes := #[94, 94] })
    (ao : Option Addr) (n : Nat) (pl : List (Pt × Option Addr × Nat)) (hs : a.eval s = .slice ao n n) (hpl : pl.length = n) (hn : n ≤ 10) (hnone : ao = none → n = 0) (hold : ∀ b, ao = some b → ∀ j u, (ptsX pl)[j]? = some u → W.cell? (b.add j) = some u)
    (b : Nat) (p : Pt) (sa : Option Addr) (sc : Nat) (hx : a.eval x = .slice (some ⟨b, 0, none⟩) 1 1) (hc : W.heap[b]? = some (.cells (ptX p sa sc).toArray 73 (0, 0)))
    (h : ∀ g cap w', w'.ownsRow W.heap.size 73 10 (.slice (some ⟨g, 0, none⟩) (n + 1) cap) (n + 1) (ptsX (pl ++ [(p, sa, sc)])) → Below W.heap.size W w' → K (a.put o.dst (.slice (some ⟨g, 0, none⟩) (n + 1) cap)) w') :
    if Region.wanted o (yielded ops a.tmps) = true then Oper.wp Tryz.prog o a W K Q else E := by
  obtain ⟨i0, hi, hz0, hz1, hz2⟩ := info_parts infoPt
  refine step_append_grows hgd s x 94 ho 73 i0 _ 10 128 Tryz.underlying94 hi hz0 hz1 hz2 rfl (by decide) ao n n (ptsX pl) hs (fun h => ⟨hnone h, hnone h⟩) (by rw [ptsX_length, hpl]) hold ⟨b, 0, none⟩ 1 1 (ptX p sa sc) hx rfl (World.news_of_block hc) ?_ (by omega) (by unfold maxLen; omega) (by omega) ?_
  · intro u hu
    simp only [ptX, List.mem_cons, List.not_mem_nil, or_false] at hu
    rcases hu with rfl | rfl | rfl | rfl | rfl | rfl | rfl | rfl | rfl | rfl <;> rfl
  · intro v' w' h1 h2
    obtain ⟨g, cap, rfl, -⟩ := own_sliceP h1 (by omega)
    refine h g cap w' ?_ ⟨h2.os, h2.tape, h2.output, h2.size, fun k hk => h2.block k hk (by simp)⟩
    rw [show ptsX (pl ++ [(p, sa, sc)]) = ptsX pl ++ ptX p sa sc by simp [ptsX]]
    exact h1
end
end Go.Proofs.YtafhgilikcablaaGreatDoor
