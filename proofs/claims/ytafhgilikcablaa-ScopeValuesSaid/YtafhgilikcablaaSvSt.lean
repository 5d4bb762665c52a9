/- append of a cell onto cells of the call's own, of a text onto texts: in plain regions and in those that draw. -/
import Derived.Test.YtafhgilikcablaaClThT
import Derived.Test.YtafhgilikcablaaClThO
namespace Go.Proofs.Ytafhgilikcablaa
open Go.RowKit
set_option linter.unusedVariables false
set_option linter.unusedSimpArgs false
set_option maxRecDepth 100000
theorem infoIntS : (Try.prog.info? 3).map (fun i => (i.zero, i.size, i.bytes)) = some (some (.int .i64 0), 1, 8) := by kernel_rfl
theorem infoStr : (Try.prog.info? 9).map (fun i => (i.zero, i.size, i.bytes)) = some (some (.string ⟨#[]⟩), 1, 16) := by kernel_rfl
section
variable {W : World} {ops : Array Oper} {rest : List Oper} {o : Oper} {a : Act} {K : Act → World → Prop} {Q : Exit → Act → World → Prop} {E : Prop}
theorem wp_etT (s x : Operand) (ho : o.op = .call { callee := .builtin .append, args := #[s, x], argTypes := #[44, 44] })
    (B : Nat) (v : Value) (pl : List (CT × Option Addr × Nat)) (b : Nat) (y : CT × Option Addr × Nat) (hs : a.eval s = v) (hx : a.eval x = .slice (some ⟨b, 0, none⟩) 1 1)
    (hown : W.ownsRow B 46 8 v pl.length (plOfT pl)) (hc : W.heap[b]? = some (.cells (ctX y.1 y.2.1 y.2.2).toArray 46 (0, 0))) (hlen : pl.length ≤ 100000) (hbase : B ≤ W.heap.size)
    (h : ∀ g cap w', w'.ownsRow B 46 8 (.slice (some ⟨g, 0, none⟩) (pl.length + 1) cap) (pl ++ [y]).length (plOfT (pl ++ [y])) → W.grownBy w' v.ownBlock → (v.ownBlock = some g ∨ g = W.heap.size) → K (a.put o.dst (.slice (some ⟨g, 0, none⟩) (pl.length + 1) cap)) w') : o.wp Try.prog a W K Q := by
  obtain ⟨i0, hi, hz0, hz1, hz2⟩ := info_parts infoET
  refine wp_append_lies W s x 44 ho B 46 i0 _ 8 96 Try.underlying44 hi hz0 hz1 hz2 rfl (by decide) v pl.length _ hs hown ⟨b, 0, none⟩ 1 1 (ctX y.1 y.2.1 y.2.2) hx rfl ?_ ?_ (by omega) (by unfold maxLen; omega) (by omega) hbase _ rfl ?_
  · exact World.news_of_block hc
  · intro u hu; simp [ctX] at hu; rcases hu with rfl | rfl | rfl | rfl | rfl | rfl | rfl | rfl <;> rfl
  · intro g cap w' h1 h2 h3 h4
    refine h g cap w' ?_ h2 h3
    rw [plOf_appendT, List.length_append]
    simpa [plOfT] using h1
theorem wpList_etT (hgd : o.guard = none) (s x : Operand) (ho : o.op = .call { callee := .builtin .append, args := #[s, x], argTypes := #[44, 44] })
    (B : Nat) (v : Value) (pl : List (CT × Option Addr × Nat)) (b : Nat) (y : CT × Option Addr × Nat) (hs : a.eval s = v) (hx : a.eval x = .slice (some ⟨b, 0, none⟩) 1 1)
    (hown : W.ownsRow B 46 8 v pl.length (plOfT pl)) (hc : W.heap[b]? = some (.cells (ctX y.1 y.2.1 y.2.2).toArray 46 (0, 0))) (hlen : pl.length ≤ 100000) (hbase : B ≤ W.heap.size)
    (h : ∀ g cap w', w'.ownsRow B 46 8 (.slice (some ⟨g, 0, none⟩) (pl.length + 1) cap) (pl ++ [y]).length (plOfT (pl ++ [y])) → W.grownBy w' v.ownBlock → (v.ownBlock = some g ∨ g = W.heap.size) → wpList Try.prog ops Q rest (a.put o.dst (.slice (some ⟨g, 0, none⟩) (pl.length + 1) cap)) w') : wpList Try.prog ops Q (o :: rest) a W :=
  wpList_plain hgd fun _ hK => wp_etT s x ho B v pl b y hs hx hown hc hlen hbase fun g cap w' h1 h2 h3 => hK _ _ (h g cap w' h1 h2 h3)
theorem wp_etO (s x : Operand) (ho : o.op = .call { callee := .builtin .append, args := #[s, x], argTypes := #[54, 54] })
    (B : Nat) (v : Value) (pl : List (CT × Option Addr × Nat)) (b : Nat) (y : CT × Option Addr × Nat) (hs : a.eval s = v) (hx : a.eval x = .slice (some ⟨b, 0, none⟩) 1 1)
    (hown : W.ownsRow B 56 8 v pl.length (plOfO pl)) (hc : W.heap[b]? = some (.cells (ctX y.1 y.2.1 y.2.2).toArray 56 (0, 0))) (hlen : pl.length ≤ 100000) (hbase : B ≤ W.heap.size)
    (h : ∀ g cap w', w'.ownsRow B 56 8 (.slice (some ⟨g, 0, none⟩) (pl.length + 1) cap) (pl ++ [y]).length (plOfO (pl ++ [y])) → W.grownBy w' v.ownBlock → (v.ownBlock = some g ∨ g = W.heap.size) → K (a.put o.dst (.slice (some ⟨g, 0, none⟩) (pl.length + 1) cap)) w') : o.wp Try.prog a W K Q := by
  obtain ⟨i0, hi, hz0, hz1, hz2⟩ := info_parts infoEO
  refine wp_append_lies W s x 54 ho B 56 i0 _ 8 96 Try.underlying54 hi hz0 hz1 hz2 rfl (by decide) v pl.length _ hs hown ⟨b, 0, none⟩ 1 1 (ctX y.1 y.2.1 y.2.2) hx rfl ?_ ?_ (by omega) (by unfold maxLen; omega) (by omega) hbase _ rfl ?_
  · exact World.news_of_block hc
  · intro u hu; simp [ctX] at hu; rcases hu with rfl | rfl | rfl | rfl | rfl | rfl | rfl | rfl <;> rfl
  · intro g cap w' h1 h2 h3 h4
    refine h g cap w' ?_ h2 h3
    rw [plOf_appendO, List.length_append]
    simpa [plOfO] using h1
theorem wpList_etO (hgd : o.guard = none) (s x : Operand) (ho : o.op = .call { callee := .builtin .append, args := #[s, x], argTypes := #[54, 54] })
    (B : Nat) (v : Value) (pl : List (CT × Option Addr × Nat)) (b : Nat) (y : CT × Option Addr × Nat) (hs : a.eval s = v) (hx : a.eval x = .slice (some ⟨b, 0, none⟩) 1 1)
    (hown : W.ownsRow B 56 8 v pl.length (plOfO pl)) (hc : W.heap[b]? = some (.cells (ctX y.1 y.2.1 y.2.2).toArray 56 (0, 0))) (hlen : pl.length ≤ 100000) (hbase : B ≤ W.heap.size)
    (h : ∀ g cap w', w'.ownsRow B 56 8 (.slice (some ⟨g, 0, none⟩) (pl.length + 1) cap) (pl ++ [y]).length (plOfO (pl ++ [y])) → W.grownBy w' v.ownBlock → (v.ownBlock = some g ∨ g = W.heap.size) → wpList Try.prog ops Q rest (a.put o.dst (.slice (some ⟨g, 0, none⟩) (pl.length + 1) cap)) w') : wpList Try.prog ops Q (o :: rest) a W :=
  wpList_plain hgd fun _ hK => wp_etO s x ho B v pl b y hs hx hown hc hlen hbase fun g cap w' h1 h2 h3 => hK _ _ (h g cap w' h1 h2 h3)
theorem wp_int1S (s x : Operand) (ho : o.op = .call { callee := .builtin .append, args := #[s, x], argTypes := #[31, 31] })
    (B : Nat) (v : Value) (n : Nat) (xs : List Value) (b : Nat) (y : Int) (hs : a.eval s = v) (hx : a.eval x = .slice (some ⟨b, 0, none⟩) 1 1)
    (hown : W.ownsRow B 3 1 v n xs) (hc : W.cell? ⟨b, 0, none⟩ = some (.int .i64 y)) (hlen : n ≤ 17592186044000) (hbase : B ≤ W.heap.size)
    (h : ∀ g cap w', w'.ownsRow B 3 1 (.slice (some ⟨g, 0, none⟩) (n + 1) cap) (n + 1) (xs ++ [.int .i64 y]) → W.grownBy w' v.ownBlock → (v.ownBlock = some g ∨ g = W.heap.size) → g < w'.heap.size → K (a.put o.dst (.slice (some ⟨g, 0, none⟩) (n + 1) cap)) w') : o.wp Try.prog a W K Q := by
  obtain ⟨i0, hi, hz0, hz1, hz2⟩ := info_parts infoIntS
  refine wp_append_lies W s x 31 ho B 3 i0 (.int .i64 0) 1 8 Try.underlying31 hi hz0 hz1 hz2 rfl (by decide) v n xs hs hown ⟨b, 0, none⟩ 1 1 [.int .i64 y] hx rfl ?_ ?_ (by omega) (by unfold maxLen; omega) (by omega) hbase _ rfl h
  · intro j u hu
    match j, hu with
    | 0, hu => simp at hu; subst hu; exact hc
    | j + 1, hu => simp at hu
  · intro u hu; simp at hu; subst hu; rfl
theorem wpList_int1S (hgd : o.guard = none) (s x : Operand) (ho : o.op = .call { callee := .builtin .append, args := #[s, x], argTypes := #[31, 31] })
    (B : Nat) (v : Value) (n : Nat) (xs : List Value) (b : Nat) (y : Int) (hs : a.eval s = v) (hx : a.eval x = .slice (some ⟨b, 0, none⟩) 1 1)
    (hown : W.ownsRow B 3 1 v n xs) (hc : W.cell? ⟨b, 0, none⟩ = some (.int .i64 y)) (hlen : n ≤ 17592186044000) (hbase : B ≤ W.heap.size)
    (h : ∀ g cap w', w'.ownsRow B 3 1 (.slice (some ⟨g, 0, none⟩) (n + 1) cap) (n + 1) (xs ++ [.int .i64 y]) → W.grownBy w' v.ownBlock → (v.ownBlock = some g ∨ g = W.heap.size) → g < w'.heap.size → wpList Try.prog ops Q rest (a.put o.dst (.slice (some ⟨g, 0, none⟩) (n + 1) cap)) w') : wpList Try.prog ops Q (o :: rest) a W :=
  wpList_plain hgd fun _ hK => wp_int1S s x ho B v n xs b y hs hx hown hc hlen hbase fun g cap w' h1 h2 h3 h4 => hK _ _ (h g cap w' h1 h2 h3 h4)
theorem step_int1S (hgd : o.guard = none) (s x : Operand) (ho : o.op = .call { callee := .builtin .append, args := #[s, x], argTypes := #[31, 31] })
    (B : Nat) (v : Value) (n : Nat) (xs : List Value) (b : Nat) (y : Int) (hs : a.eval s = v) (hx : a.eval x = .slice (some ⟨b, 0, none⟩) 1 1)
    (hown : W.ownsRow B 3 1 v n xs) (hc : W.cell? ⟨b, 0, none⟩ = some (.int .i64 y)) (hlen : n ≤ 17592186044000) (hbase : B ≤ W.heap.size)
    (h : ∀ g cap w', w'.ownsRow B 3 1 (.slice (some ⟨g, 0, none⟩) (n + 1) cap) (n + 1) (xs ++ [.int .i64 y]) → W.grownBy w' v.ownBlock → (v.ownBlock = some g ∨ g = W.heap.size) → g < w'.heap.size → K (a.put o.dst (.slice (some ⟨g, 0, none⟩) (n + 1) cap)) w') :
    if Region.wanted o (yielded ops a.tmps) = true then Oper.wp Try.prog o a W K Q else E := by
  have hw : Region.wanted o (yielded ops a.tmps) = true := by simp [Region.wanted, hgd]
  rw [if_pos hw]
  exact wp_int1S s x ho B v n xs b y hs hx hown hc hlen hbase h
theorem wp_str1 (s x : Operand) (ho : o.op = .call { callee := .builtin .append, args := #[s, x], argTypes := #[113, 113] })
    (B : Nat) (v : Value) (n : Nat) (xs : List Value) (b : Nat) (y : ByteArray) (hs : a.eval s = v) (hx : a.eval x = .slice (some ⟨b, 0, none⟩) 1 1)
    (hown : W.ownsRow B 9 1 v n xs) (hc : W.cell? ⟨b, 0, none⟩ = some (.string y)) (hlen : n ≤ 8796093022000) (hbase : B ≤ W.heap.size)
    (h : ∀ g cap w', w'.ownsRow B 9 1 (.slice (some ⟨g, 0, none⟩) (n + 1) cap) (n + 1) (xs ++ [.string y]) → W.grownBy w' v.ownBlock → (v.ownBlock = some g ∨ g = W.heap.size) → g < w'.heap.size → K (a.put o.dst (.slice (some ⟨g, 0, none⟩) (n + 1) cap)) w') : o.wp Try.prog a W K Q := by
  obtain ⟨i0, hi, hz0, hz1, hz2⟩ := info_parts infoStr
  refine wp_append_lies W s x 113 ho B 9 i0 (.string ⟨#[]⟩) 1 16 Try.underlying113 hi hz0 hz1 hz2 rfl (by decide) v n xs hs hown ⟨b, 0, none⟩ 1 1 [.string y] hx rfl ?_ ?_ (by omega) (by unfold maxLen; omega) (by omega) hbase _ rfl h
  · intro j u hu
    match j, hu with
    | 0, hu => simp at hu; subst hu; exact hc
    | j + 1, hu => simp at hu
  · intro u hu; simp at hu; subst hu; rfl
theorem step_str1 (hgd : o.guard = none) (s x : Operand) (ho : o.op = .call { callee := .builtin .append, args := #[s, x], argTypes := #[113, 113] })
    (B : Nat) (v : Value) (n : Nat) (xs : List Value) (b : Nat) (y : ByteArray) (hs : a.eval s = v) (hx : a.eval x = .slice (some ⟨b, 0, none⟩) 1 1)
    (hown : W.ownsRow B 9 1 v n xs) (hc : W.cell? ⟨b, 0, none⟩ = some (.string y)) (hlen : n ≤ 8796093022000) (hbase : B ≤ W.heap.size)
    (h : ∀ g cap w', w'.ownsRow B 9 1 (.slice (some ⟨g, 0, none⟩) (n + 1) cap) (n + 1) (xs ++ [.string y]) → W.grownBy w' v.ownBlock → (v.ownBlock = some g ∨ g = W.heap.size) → g < w'.heap.size → K (a.put o.dst (.slice (some ⟨g, 0, none⟩) (n + 1) cap)) w') :
    if Region.wanted o (yielded ops a.tmps) = true then Oper.wp Try.prog o a W K Q else E := by
  have hw : Region.wanted o (yielded ops a.tmps) = true := by simp [Region.wanted, hgd]
  rw [if_pos hw]
  exact wp_str1 s x ho B v n xs b y hs hx hown hc hlen hbase h
end
end Go.Proofs.Ytafhgilikcablaa
