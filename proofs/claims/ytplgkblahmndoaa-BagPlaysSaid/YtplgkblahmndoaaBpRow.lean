/- Lists of rows in memory, one more appended. -/
import Derived.Test.YtplgkblahmndoaaBrPure
import Derived.Test.YtplgkblahmndoaaBsSame
namespace Go.Proofs.Ytplgkblahmndoaa
open Go.RowKit
set_option linter.unusedVariables false

/-- how many rows there are -/
def sumB : List Ent → Int
  | [] => 0
  | e :: L => e.2 + sumB L
/-- each row as often as it is there -/
def repB (L : List Ent) : List (List Val) := L.flatMap fun e => List.replicate e.2.toNat e.1
def negB (L : List Ent) : Bool := L.any fun e => decide (e.2 < 0)
/-- what Rows answers: the rows, the error -/
def rowsB (L : List Ent) : List (List Val) × Int := if negB L = true then ([], 12) else if 100000 < sumB L then ([], 14) else (repB L, 0)
/-- how many rows there are of the entries that were met -/
def metB (p : Ent → Bool) : List Ent → Int
  | [] => 0
  | e :: L => (if p e = true then e.2 else 0) + metB p L
theorem metB_all {p : Ent → Bool} : ∀ {L : List Ent}, (∀ e ∈ L, p e = true) → metB p L = sumB L
  | [], _ => rfl
  | e :: L, h => by rw [metB, sumB, if_pos (h e (by simp)), metB_all (fun x hx => h x (by simp [hx]))]
theorem metB_none {p : Ent → Bool} : ∀ {L : List Ent}, (∀ e ∈ L, p e = false) → metB p L = 0
  | [], _ => rfl
  | e :: L, h => by rw [metB, if_neg (by rw [h e (by simp)]; simp), metB_none (fun x hx => h x (by simp [hx]))]; rfl
theorem metB_congr {p q : Ent → Bool} : ∀ {L : List Ent}, (∀ e ∈ L, p e = q e) → metB p L = metB q L
  | [], _ => rfl
  | e :: L, h => by rw [metB, metB, h e (by simp), metB_congr (fun x hx => h x (by simp [hx]))]
/-- one more was met -/
theorem metB_more {p q : Ent → Bool} {e : Ent} : ∀ {L : List Ent}, L.Nodup → e ∈ L → p e = false → q e = true → (∀ x ∈ L, x ≠ e → q x = p x) → metB q L = metB p L + e.2
  | [], _, h, _, _, _ => by cases h
  | x :: L, hn, he, hp, hq, ho => by
    have hn' := List.nodup_cons.1 hn
    rw [metB, metB]
    rcases List.mem_cons.1 he with rfl | he
    · rw [hp, hq, metB_congr (p := q) (q := p) (fun y hy => ho y (by simp [hy]) (fun e => hn'.1 (by rw [← e]; exact hy)))]
      simp
      omega
    · have hxe : x ≠ e := fun h => hn'.1 (by rw [h]; exact he)
      rw [ho x (by simp) hxe, metB_more hn'.2 he hp hq (fun y hy => ho y (by simp [hy]))]
      omega
theorem nodup_of_sort {L : List Ent} (h : SortB L) : L.Nodup := by
  refine List.Pairwise.imp (fun {a b} hab e => ?_) h
  rw [e, lessI_irr] at hab
  cases hab
/-- a sum that stops at what is too much -/
def SatB (t f : Int) : Prop := 0 ≤ t ∧ t ≤ 200002 ∧ (t ≤ 100000 → t = f) ∧ (100000 < t → 100000 < f)
theorem SatB.zero : SatB 0 0 := ⟨by omega, by omega, fun _ => rfl, fun h => by omega⟩
theorem SatB.more {t f n : Int} (h : SatB t f) (hf : 0 ≤ f) (hn : 0 ≤ n) : SatB (min t 100001 + min n 100001) (f + n) := by
  obtain ⟨h1, h2, h3, h4⟩ := h
  unfold SatB
  omega
theorem metB_nn {p : Ent → Bool} : ∀ {L : List Ent}, (∀ e ∈ L, 0 ≤ e.2) → 0 ≤ metB p L
  | [], _ => by simp [metB]
  | e :: L, h => by
    have := metB_nn (p := p) (L := L) (fun x hx => h x (by simp [hx]))
    have := h e (by simp)
    rw [metB]
    split <;> omega
theorem negB_no {L : List Ent} (h : negB L = false) : ∀ e ∈ L, 0 ≤ e.2 := fun e he => by
  unfold negB at h
  have := List.any_eq_false.1 h e he
  simp at this
  exact this
theorem sumB_append (L M : List Ent) : sumB (L ++ M) = sumB L + sumB M := by
  induction L with
  | nil => simp [sumB]
  | cons e L ih => rw [List.cons_append, sumB, sumB, ih]; omega
theorem repB_append (L M : List Ent) : repB (L ++ M) = repB L ++ repB M := by unfold repB; rw [List.flatMap_append]
theorem repB_len {L : List Ent} (h : ∀ e ∈ L, 0 ≤ e.2) : ((repB L).length : Int) = sumB L := by
  induction L with
  | nil => rfl
  | cons e L ih =>
    have h1 := h e (by simp)
    have h2 := ih (fun x hx => h x (by simp [hx]))
    unfold repB at *
    rw [List.flatMap_cons, List.length_append, List.length_replicate, sumB]
    omega
theorem sumB_take {L : List Ent} (h : ∀ e ∈ L, 0 ≤ e.2) (k : Nat) : sumB (L.take k) ≤ sumB L := by
  have e : sumB L = sumB (L.take k) + sumB (L.drop k) := by rw [← sumB_append, List.take_append_drop]
  have h2 : 0 ≤ sumB (L.drop k) := by
    rw [← repB_len (fun x hx => h x (List.mem_of_mem_drop hx))]
    omega
  omega
end Go.Proofs.Ytplgkblahmndoaa
namespace Go.Proofs.Ytplgkblahmndoaa
open Go.RowKit
set_option linter.unusedVariables false
set_option maxRecDepth 100000

def hdX (x : SlN) : Value := .slice (adA x.1) x.2.1 x.2.2.1
def noX : SlN := (none, 0, 0, 0)
/-- rows in memory: their headers in a row of the call's own -/
def RowsAt (w : World) (B : Nat) (v : Value) (R : List (List Val)) : Prop :=
  ∃ X : List SlN, X.length = R.length ∧ w.ownsRow B 23 1 v R.length (X.map hdX) ∧ ∀ i, i < R.length → RowAt w B (X.getD i noX) (R.getD i []) ∧ (∀ b o, (X.getD i noX).1 = some (b, o) → v.ownBlock ≠ some b) ∧ (X.getD i noX).2.1 ≤ (X.getD i noX).2.2.1
theorem RowsAt.nil (w : World) (B : Nat) : RowsAt w B (.slice none 0 0) [] := ⟨[], rfl, World.ownsRow_nil _ _ _ _, fun i h => by simp at h⟩
theorem RowsAt.below {w w' : World} {B : Nat} {v : Value} {R : List (List Val)} (h : RowsAt w B v R) (hb : Below w.heap.size w w') : RowsAt w' B v R := by
  obtain ⟨X, h1, h2, h3⟩ := h
  exact ⟨X, h1, own_below h2 hb, fun i hi => ⟨(h3 i hi).1.below hb, (h3 i hi).2⟩⟩
theorem infoVs : (Try.prog.info? 23).map (fun i => (i.zero, i.size, i.bytes)) = some (some (.slice none 0 0), 1, 24) := by kernel_rfl
/-- one header more -/
theorem wpList_append_hd (w : World) {ops : Array Oper} {rest : List Oper} {o : Oper} {a : Act} {Q : Exit → Act → World → Prop} (hgd : o.guard = none) (s x : Operand)
    (ho : o.op = .call { callee := .builtin .append, args := #[s, x], argTypes := #[32, 32] })
    (base : Nat) (v : Value) (n : Nat) (xs : List Value) (hs : a.eval s = v) (hown : w.ownsRow base 23 1 v n xs)
    (b : Nat) (y : SlN) (hx : a.eval x = .slice (some ⟨b, 0, none⟩) 1 1) (hb : w.heap[b]? = some (.cells #[hdX y] 23 (0, 0))) (hn : n ≤ 200000) (hbase : base ≤ w.heap.size)
    (h : ∀ g cap w', w'.ownsRow base 23 1 (.slice (some ⟨g, 0, none⟩) (n + 1) cap) (n + 1) (xs ++ [hdX y]) → w.grownBy w' v.ownBlock → (v.ownBlock = some g ∨ g = w.heap.size) → g < w'.heap.size → wpList Try.prog ops Q rest (a.put o.dst (.slice (some ⟨g, 0, none⟩) (n + 1) cap)) w') : wpList Try.prog ops Q (o :: rest) a w := by
  obtain ⟨i0, hi, hz0, hz1, hz2⟩ := info_parts infoVs
  refine wpList_append_lies w hgd s x 32 ho base 23 i0 (.slice none 0 0) 1 24 Try.underlying32 hi hz0 hz1 hz2 rfl (by decide) v n xs hs hown ⟨b, 0, none⟩ 1 1 [hdX y] hx rfl ?_ ?_ (by omega) (by unfold maxLen; omega) (by omega) hbase _ rfl h
  · intro j u hu
    match j, hu with
    | 0, hu => simp at hu; subst hu; exact cell_of_row _ _ 0 _ _ _ hb
    | j + 1, hu => simp at hu
  · intro u hu; simp at hu; subst hu; rfl
/-- a row more -/
theorem RowsAt.push {wr wc w9 : World} {B g c n : Nat} {v : Value} {R : List (List Val)} {X : List SlN} {x : SlN} {r : List Val}
    (h : ∀ i, i < R.length → RowAt wr B (X.getD i noX) (R.getD i []) ∧ (∀ b o, (X.getD i noX).1 = some (b, o) → v.ownBlock ≠ some b) ∧ (X.getD i noX).2.1 ≤ (X.getD i noX).2.2.1) (hX : X.length = R.length) (hv : ∀ k, v.ownBlock = some k → k < wr.heap.size)
    (hb : Below wr.heap.size wr wc) (hx : RowAt wc wr.heap.size x r) (hxl : x.2.1 ≤ x.2.2.1) (hB : B ≤ wr.heap.size) (hn : n = R.length)
    (hown : w9.ownsRow B 23 1 (.slice (some ⟨g, 0, none⟩) (n + 1) c) (n + 1) (X.map hdX ++ [hdX x])) (hg : wc.grownBy w9 v.ownBlock) (hor : v.ownBlock = some g ∨ g = wc.heap.size) :
    RowsAt w9 B (.slice (some ⟨g, 0, none⟩) (n + 1) c) (R ++ [r]) := by
  subst hn
  have ho : Only (fun i => v.ownBlock = some i) wc w9 := ⟨hg.os, hg.tape, hg.output, hg.size, fun i hi hS => hg.block i hi (fun e => hS e.symm)⟩
  refine ⟨X ++ [x], by simp [hX], ?_, fun i hi => ?_⟩
  · rw [List.map_append, List.length_append]
    exact hown
  · rw [List.length_append, List.length_singleton] at hi
    have hown2 : ∀ b, b < wc.heap.size → v.ownBlock ≠ some b → (Value.slice (some ⟨g, 0, none⟩) (R.length + 1) c).ownBlock ≠ some b := fun b hb1 hb2 e => by
      have e2 : g = b := by simpa [Value.ownBlock] using e
      rcases hor with h3 | h3
      · exact hb2 (by rw [h3, e2])
      · omega
    rcases Nat.lt_or_ge i R.length with h1 | h1
    · obtain ⟨k1, k2, k3⟩ := h i h1
      have e1 : (X ++ [x]).getD i noX = X.getD i noX := by simp only [List.getD_eq_getElem?_getD]; rw [List.getElem?_append_left (by omega)]
      have e2 : (R ++ [r]).getD i [] = R.getD i [] := by simp only [List.getD_eq_getElem?_getD]; rw [List.getElem?_append_left h1]
      rw [e1, e2]
      refine ⟨(k1.below hb).only ho (fun b o e _ => k2 b o e), fun b o e => hown2 b ?_ (k2 b o e), k3⟩
      exact Nat.lt_of_lt_of_le ((k1.2.2 b o e).2) hb.size
    · obtain rfl : i = R.length := by omega
      have e1 : (X ++ [x]).getD R.length noX = x := by simp only [List.getD_eq_getElem?_getD]; rw [List.getElem?_append_right (by omega), hX]; simp
      have e2 : (R ++ [r]).getD R.length [] = r := by simp only [List.getD_eq_getElem?_getD]; rw [List.getElem?_append_right (by omega)]; simp
      rw [e1, e2]
      have hne : ∀ b o, x.1 = some (b, o) → v.ownBlock ≠ some b := fun b o e e3 => by
        have := (hx.2.2 b o e).1
        have := hv b e3
        omega
      have hx9 := hx.only ho (fun b o e _ => hne b o e)
      exact ⟨⟨hx9.1, hx9.2.1, fun b o e => ⟨Nat.le_trans hB (hx9.2.2 b o e).1, (hx9.2.2 b o e).2⟩⟩, fun b o e => hown2 b (hx.2.2 b o e).2 (hne b o e), hxl⟩
end Go.Proofs.Ytplgkblahmndoaa
