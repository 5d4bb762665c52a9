/- What a journal's bytes tell: the best of its heads, its records. Plain mathematics. -/
import Derived.Test.YtbcjhngpcodaoaaJHead
namespace Go.Proofs.Ytbcjhngpcodaoaa
open Go.RowKit
set_option linter.unusedVariables false

/-- the bytes of head k -/
def hAt (z : List Int) (k : Nat) : List Int := (z.drop (64 * k)).take 64
/-- is there one, of the first k, and what the best one says -/
def bK (z : List Int) : Nat → Bool × Int × Int × Int
  | 0 => (false, 0, 0, 0)
  | k + 1 => if 64 * (k + 1) ≤ z.length ∧ hOk (hAt z k) = true ∧ ((bK z k).1 = false ∨ (bK z k).2.2.2 < hR (hAt z k)) then (true, hS (hAt z k), hP (hAt z k), hR (hAt z k)) else bK z k
theorem hAt_range {z : List Int} (hz : ∀ x ∈ z, 0 ≤ x ∧ x ≤ 255) (k : Nat) : ∀ x ∈ hAt z k, 0 ≤ x ∧ x ≤ 255 := fun x hx => hz x (List.mem_of_mem_drop (List.mem_of_mem_take hx))
theorem hAt_len {z : List Int} {k : Nat} (h : 64 * (k + 1) ≤ z.length) : (hAt z k).length = 64 := by unfold hAt; simp; omega
theorem hOk_le {z : List Int} (h : hOk z = true) : hP z ≤ 10000 ∧ hR z ≤ 10000 := by
  unfold hOk at h
  simp at h
  exact h.1
theorem bK_bd {z : List Int} (hz : ∀ x ∈ z, 0 ≤ x ∧ x ≤ 255) : ∀ k, (0 ≤ (bK z k).2.1 ∧ (bK z k).2.1 ≤ 18446744073709551615) ∧ (0 ≤ (bK z k).2.2.1 ∧ (bK z k).2.2.1 ≤ 10000) ∧ (0 ≤ (bK z k).2.2.2 ∧ (bK z k).2.2.2 ≤ 10000)
  | 0 => by simp [bK]
  | k + 1 => by
    unfold bK
    split
    · rename_i h
      have hl := hAt_len h.1
      have h1 := hS_bd (hAt_range hz k) (by omega)
      have h2 := hP_bd (hAt_range hz k) (by omega)
      have h3 := hR_bd (hAt_range hz k) (by omega)
      have h4 := hOk_le h.2.1
      exact ⟨h1, ⟨h2.1, h4.1⟩, ⟨h3.1, h4.2⟩⟩
    · exact bK_bd hz k
theorem bK_some {z : List Int} {k : Nat} (h1 : 64 * (k + 1) ≤ z.length) (h2 : hOk (hAt z k) = true) (h3 : (bK z k).1 = false ∨ (bK z k).2.2.2 < hR (hAt z k)) : bK z (k + 1) = (true, hS (hAt z k), hP (hAt z k), hR (hAt z k)) := by
  conv => lhs; unfold bK
  rw [if_pos ⟨h1, h2, h3⟩]
theorem bK_less {z : List Int} {k : Nat} (h : ¬ 64 * (k + 1) ≤ z.length) : bK z (k + 1) = bK z k := by
  conv => lhs; unfold bK
  rw [if_neg (fun a => h a.1)]
theorem bK_bad {z : List Int} {k : Nat} (h : hOk (hAt z k) = false) : bK z (k + 1) = bK z k := by
  conv => lhs; unfold bK
  rw [if_neg (fun a => by rw [h] at a; exact absurd a.2.1 (by simp))]
theorem bK_not {z : List Int} {k : Nat} (h1 : (bK z k).1 = true) (h2 : hR (hAt z k) ≤ (bK z k).2.2.2) : bK z (k + 1) = bK z k := by
  conv => lhs; unfold bK
  rw [if_neg (fun a => by rcases a.2.2 with h | h; rw [h1] at h; cases h; omega)]

/-- the bytes of record i, and what they say -/
def rAt (z : List Int) (i : Nat) : List Int := (z.drop (128 + 576 * i)).take 576
def rN (y : List Int) : Int := numN (y.take 4)
def rD (y : List Int) : List Int := (y.drop 4).take 512
def rOk (s : Int) (y : List Int) : Bool := decide (rN y ≤ 10000) && decide (recK s (rN y) (rD y) = y)
def goodR (s : Int) (z : List Int) (i : Nat) : Bool := decide (128 + 576 * (i + 1) ≤ z.length) && rOk s (rAt z i)
def nsK (z : List Int) (k : Nat) : List Int := (List.range k).map fun i => rN (rAt z i)
def dsK (z : List Int) (k : Nat) : List (List Int) := (List.range k).map fun i => rD (rAt z i)
theorem nsK_len (z : List Int) (k : Nat) : (nsK z k).length = k := by simp [nsK]
theorem dsK_len (z : List Int) (k : Nat) : (dsK z k).length = k := by simp [dsK]
theorem nsK_succ (z : List Int) (k : Nat) : nsK z (k + 1) = nsK z k ++ [rN (rAt z k)] := by simp [nsK, List.range_succ]
theorem dsK_succ (z : List Int) (k : Nat) : dsK z (k + 1) = dsK z k ++ [rD (rAt z k)] := by simp [dsK, List.range_succ]
theorem rAt_range {z : List Int} (hz : ∀ x ∈ z, 0 ≤ x ∧ x ≤ 255) (k : Nat) : ∀ x ∈ rAt z k, 0 ≤ x ∧ x ≤ 255 := fun x hx => hz x (List.mem_of_mem_drop (List.mem_of_mem_take hx))
theorem rAt_len {z : List Int} {k : Nat} (h : 128 + 576 * (k + 1) ≤ z.length) : (rAt z k).length = 576 := by unfold rAt; simp; omega
theorem rN_bd {y : List Int} (hy : ∀ x ∈ y, 0 ≤ x ∧ x ≤ 255) (hl : 4 ≤ y.length) : 0 ≤ rN y ∧ rN y ≤ 4294967295 := by
  have := numN_bd (getD_part y hy 0 4) 4 (by rw [part_len y 0 4 (by omega)]; exact Nat.le_refl _)
  rw [List.take_of_length_le (by rw [part_len y 0 4 (by omega)]; exact Nat.le_refl _)] at this
  rw [List.drop_zero] at this
  exact ⟨this.1, by have := this.2; unfold rN; omega⟩
theorem rD_len {y : List Int} (h : y.length = 576) : (rD y).length = 512 := by unfold rD; simp; omega
theorem rD_range {y : List Int} (hy : ∀ x ∈ y, 0 ≤ x ∧ x ≤ 255) : ∀ x ∈ rD y, 0 ≤ x ∧ x ≤ 255 := fun x hx => hy x (List.mem_of_mem_drop (List.mem_of_mem_take hx))

/-- all records that are told are right -/
def allR (z : List Int) : Bool := (bK z 2).1 && (List.range (bK z 2).2.2.2.toNat).all (goodR (bK z 2).2.1 z)
def tS (z : List Int) : Int := if allR z then (bK z 2).2.1 else 0
def tP (z : List Int) : Int := if allR z then (bK z 2).2.2.1 else 0
def tN (z : List Int) : List Int := if allR z then nsK z (bK z 2).2.2.2.toNat else []
def tD (z : List Int) : List (List Int) := if allR z then dsK z (bK z 2).2.2.2.toNat else []
theorem allR_yes {z : List Int} (h : (bK z 2).1 = true) (k : Nat) (hk : (bK z 2).2.2.2 = (k : Int)) (hg : ∀ i, i < k → goodR (bK z 2).2.1 z i = true) : allR z = true := by
  unfold allR
  rw [h, hk]
  simp only [Bool.true_and, Int.toNat_natCast, List.all_eq_true, List.mem_range]
  exact hg
theorem allR_no {z : List Int} (i : Nat) (hi : (i : Int) < (bK z 2).2.2.2) (hg : goodR (bK z 2).2.1 z i = false) : allR z = false := by
  unfold allR
  rw [Bool.and_eq_false_iff]
  right
  rw [List.all_eq_false]
  exact ⟨i, List.mem_range.2 (by omega), by rw [hg]; simp⟩
theorem allR_none {z : List Int} (h : (bK z 2).1 = false) : allR z = false := by unfold allR; rw [h]; rfl

/-- rows of five hundred and twelve bytes each, of the call's own -/
def DataRow (w : World) (B : Nat) (xs : List Value) (ds : List (List Int)) : Prop :=
  xs.length = ds.length ∧ ∀ i, i < ds.length → ∃ g c, xs[i]? = some (.slice (some ⟨g, 0, none⟩) 512 c) ∧ IsB w (some ⟨g, 0, none⟩) 512 (ds.getD i []) ∧ B ≤ g ∧ g < w.heap.size
theorem DataRow.nil (w : World) (B : Nat) : DataRow w B [] [] := ⟨rfl, fun i hi => absurd hi (Nat.not_lt_zero _)⟩
theorem DataRow.below {w w' : World} {B : Nat} {xs : List Value} {ds : List (List Int)} (h : DataRow w B xs ds) (hb : Below w.heap.size w w') : DataRow w' B xs ds :=
  ⟨h.1, fun i hi => by
    obtain ⟨g, c, h1, h2, h3, h4⟩ := h.2 i hi
    exact ⟨g, c, h1, h2.below hb (fun x _ hx => by cases hx; exact h4), h3, Nat.lt_of_lt_of_le h4 hb.size⟩⟩
/-- what was found, in a world -/
def FoundIs (w : World) (B : Nat) (f : Value) (s p : Int) (ns : List Int) (ds : List (List Int)) : Prop :=
  ∃ v1 v2 xs, f = .agg #[.int .u64 s, .int .i64 p, v1, v2] ∧ w.ownsRow B 3 1 v1 ns.length (ns.map (Value.int .i64)) ∧ w.ownsRow B 26 1 v2 ds.length xs ∧ DataRow w B xs ds
theorem FoundIs.below {w w' : World} {B : Nat} {f : Value} {s p : Int} {ns : List Int} {ds : List (List Int)} (h : FoundIs w B f s p ns ds) (hb : Below w.heap.size w w') : FoundIs w' B f s p ns ds := by
  obtain ⟨v1, v2, xs, h1, h2, h3, h4⟩ := h
  exact ⟨v1, v2, xs, h1, own_below h2 hb, own_below h3 hb, h4.below hb⟩
def found0 : Value := .agg #[.int .u64 0, .int .i64 0, .slice none 0 0, .slice none 0 0]
theorem found_none (w : World) (B : Nat) {z : List Int} (h : allR z = false) : FoundIs w B found0 (tS z) (tP z) (tN z) (tD z) := by
  unfold tS tP tN tD
  rw [h]
  exact ⟨_, _, [], rfl, World.ownsRow_nil _ _ _ _, World.ownsRow_nil _ _ _ _, DataRow.nil _ _⟩
end Go.Proofs.Ytbcjhngpcodaoaa
