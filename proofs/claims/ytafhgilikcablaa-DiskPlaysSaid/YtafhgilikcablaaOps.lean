/- A script of calls of a disk that came in: what it reads as. No program. -/
import Derived.Test.YtafhgilikcablaaBase
namespace Go.Proofs.Ytafhgilikcablaa
open Go.RowKit
set_option linter.unusedVariables false

/-- a call -/
structure OpD where
  kind : Int
  file : Int
  pos : Int
  num : Int
  ba : Option Addr
  bl : Nat
  bc : Nat
  bz : List Int
  ka : Option Addr
  kl : Nat
  kc : Nat
  kz : List Int
/-- its cells -/
structure OpAt (w : World) (b o : Nat) (x : OpD) : Prop where
  c0 : w.cell? ⟨b, o, none⟩ = some (.int .i64 x.kind)
  c1 : w.cell? ⟨b, o + 1, none⟩ = some (.int .i64 x.file)
  c2 : w.cell? ⟨b, o + 2, none⟩ = some (.int .i64 x.pos)
  c3 : w.cell? ⟨b, o + 3, none⟩ = some (.int .i64 x.num)
  c4 : w.cell? ⟨b, o + 4, none⟩ = some (.slice x.ba x.bl x.bc)
  c5 : w.cell? ⟨b, o + 5, none⟩ = some (.slice x.ka x.kl x.kc)
  r1 : -9223372036854775808 ≤ x.file ∧ x.file ≤ 9223372036854775807
  r2 : -9223372036854775808 ≤ x.pos ∧ x.pos ≤ 9223372036854775807
  r3 : -9223372036854775808 ≤ x.num ∧ x.num ≤ 9223372036854775807
  r0 : -9223372036854775808 ≤ x.kind ∧ x.kind ≤ 9223372036854775807
  bs : IsRow .u8 w x.ba x.bl x.bc x.bz
  ks : IsRow .i64 w x.ka x.kl x.kc x.kz
  rb : x.bl ≤ 140737488351232 ∧ x.kl ≤ 140737488351232
/-- a slice of calls -/
def IsOps (w : World) (a : Option Addr) (len : Nat) (f : Nat → OpD) : Prop :=
  len ≤ 9223372036854775807 ∧ (len = 0 ∨ ∃ b off, a = some ⟨b, off, none⟩ ∧ b < w.heap.size ∧ ∀ i, i < len → OpAt w b (off + i * 6) (f i))
theorem IsRow.below {k : IntKind} {w w' : World} {a : Option Addr} {len cap : Nat} {zs : List Int} (h : IsRow k w a len cap zs) (hb : Below w.heap.size w w') : IsRow k w' a len cap zs := by
  rcases h with h | ⟨x, rfl, hl, hm, hz, hc, hw⟩
  · exact .inl h
  · refine .inr ⟨x, rfl, hl, hm, hz, fun i hi => ?_, hw⟩
    have hlt := World.block_lt_of_cell? w _ (hc i hi)
    exact (hb.cell hlt).trans (hc i hi)
theorem OpAt.below {w w' : World} {b o : Nat} {x : OpD} (h : OpAt w b o x) (hb : Below w.heap.size w w') : OpAt w' b o x := by
  have hlt : b < w.heap.size := World.block_lt_of_cell? w _ h.c0
  exact ⟨(hb.cell (p := ⟨b, o, none⟩) hlt).trans h.c0, (hb.cell (p := ⟨b, o + 1, none⟩) hlt).trans h.c1, (hb.cell (p := ⟨b, o + 2, none⟩) hlt).trans h.c2, (hb.cell (p := ⟨b, o + 3, none⟩) hlt).trans h.c3, (hb.cell (p := ⟨b, o + 4, none⟩) hlt).trans h.c4, (hb.cell (p := ⟨b, o + 5, none⟩) hlt).trans h.c5, h.r1, h.r2, h.r3, h.r0, h.bs.below hb, h.ks.below hb, h.rb⟩
theorem IsOps.below {w w' : World} {a : Option Addr} {len : Nat} {f : Nat → OpD} (h : IsOps w a len f) (hb : Below w.heap.size w w') : IsOps w' a len f := by
  refine ⟨h.1, ?_⟩
  rcases h.2 with h0 | ⟨b, off, rfl, hlt, hc⟩
  · exact .inl h0
  · exact .inr ⟨b, off, rfl, Nat.lt_of_lt_of_le hlt hb.size, fun i hi => (hc i hi).below hb⟩
theorem IsRow.nilB {k : IntKind} {w : World} {a : Option Addr} {len cap : Nat} {zs : List Int} (h : IsRow k w a len cap zs) : a = none → len = 0 ∧ cap = 0 := by
  rcases h with ⟨rfl, rfl, rfl, rfl⟩ | ⟨x, rfl, _⟩
  · exact fun _ => ⟨rfl, rfl⟩
  · intro h; cases h
theorem IsRow.leB {k : IntKind} {w : World} {a : Option Addr} {len cap : Nat} {zs : List Int} (h : IsRow k w a len cap zs) : len ≤ cap ∧ cap ≤ 9223372036854775807 := by
  rcases h with ⟨_, h1, h2, _⟩ | ⟨x, _, h, h', _⟩
  · omega
  · unfold maxLen at h'; omega
/-- the bytes of the calls ahead of the i-th, together -/
def bulk (f : Nat → OpD) : Nat → Nat
  | 0 => 0
  | i + 1 => bulk f i + (f i).bl
theorem bulk_le (f : Nat → OpD) {i j : Nat} (h : i ≤ j) : bulk f i ≤ bulk f j := by
  induction h with
  | refl => exact Nat.le_refl _
  | step _ ih => exact Nat.le_trans ih (Nat.le_add_right _ _)
/-- few enough -/
def fewB (f : Nat → OpD) (n : Nat) : Bool := decide (∀ i, i < n → i < 100 ∧ bulk f (i + 1) ≤ 20000 ∧ (f i).kl ≤ 200)
theorem fewB_iff {f : Nat → OpD} {n : Nat} : fewB f n = true ↔ ∀ i, i < n → i < 100 ∧ bulk f (i + 1) ≤ 20000 ∧ (f i).kl ≤ 200 := by unfold fewB; exact decide_eq_true_iff
theorem fewB_bulk {f : Nat → OpD} {n : Nat} (h : fewB f n = true) : n ≤ 100 ∧ ∀ i, i ≤ n → bulk f i ≤ 20000 := by
  have h := fewB_iff.1 h
  refine ⟨?_, fun i hi => ?_⟩
  · by_cases h0 : n = 0
    · omega
    · have := (h (n - 1) (by omega)).1; omega
  · cases i with
    | zero => exact Nat.zero_le _
    | succ i => exact (h i (by omega)).2.1
theorem fewB_no {f : Nat → OpD} {n i : Nat} (hi : i < n) (h : 100 ≤ i ∨ 20000 < bulk f (i + 1) ∨ 200 < (f i).kl) : fewB f n = false := by
  rw [← Bool.not_eq_true, fewB_iff]
  intro k
  have := k i hi
  omega
end Go.Proofs.Ytafhgilikcablaa
