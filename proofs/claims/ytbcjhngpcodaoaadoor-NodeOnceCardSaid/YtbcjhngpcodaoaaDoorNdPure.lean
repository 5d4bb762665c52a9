/- Nodes: when they are formed, and their bytes. Plain mathematics. -/
import Derived.Test.YtbcjhngpcodaoaaDoorIsBs
import Derived.Test.YtbcjhngpcodaoaaDoorAftPure
import Derived.Test.YtbcjhngpcodaoaaDoorEncPure
import Derived.Test.YtbcjhngpcodaoaaDoorRecPure
namespace Go.Proofs.YtbcjhngpcodaoaaDoor
open Go.RowKit
set_option linter.unusedVariables false

/-- a slice of ints -/
def IsN (w : World) (a : Option Addr) (len : Nat) (zs : List Int) : Prop :=
  zs.length = len ∧ len ≤ 9223372036854775807 ∧ (len = 0 ∨ ∃ b off, a = some ⟨b, off, none⟩ ∧ b < w.heap.size ∧ ∀ i, i < len → w.cell? ⟨b, off + i, none⟩ = some (.int .i64 (zs.getD i 0))) ∧ ∀ i, i < len → -9223372036854775808 ≤ zs.getD i 0 ∧ zs.getD i 0 ≤ 9223372036854775807
theorem IsN.below {w w' : World} {a : Option Addr} {len : Nat} {zs : List Int} (h : IsN w a len zs) (hb : Below w.heap.size w w') : IsN w' a len zs := by
  obtain ⟨h1, h2, h3, h4⟩ := h
  refine ⟨h1, h2, ?_, h4⟩
  rcases h3 with h3 | ⟨b, off, rfl, hlt, hc⟩
  · exact .inl h3
  · exact .inr ⟨b, off, rfl, Nat.lt_of_lt_of_le hlt hb.size, fun i hi => (hb.cell (p := ⟨b, off + i, none⟩) hlt).trans (hc i hi)⟩
/-- a node's three slices -/
structure Nd (w : World) (ka : Option Addr) (kl : Nat) (va : Option Addr) (vl : Nat) (ia : Option Addr) (il : Nat) (ks vs : List (List Int)) (is : List Int) : Prop where
  keys : IsBs w ka kl ks
  vals : IsBs w va vl vs
  kids : IsN w ia il is
theorem Nd.below {w w' : World} {ka va ia : Option Addr} {kl vl il : Nat} {ks vs : List (List Int)} {is : List Int} (h : Nd w ka kl va vl ia il ks vs is) (hb : Below w.heap.size w w') : Nd w' ka kl va vl ia il ks vs is := ⟨h.keys.below hb, h.vals.below hb, h.kids.below hb⟩

theorem all_range {n : Nat} {f : Nat → Bool} (h : ∀ j, j < n → f j = true) : (List.range n).all f = true := List.all_eq_true.2 fun j hj => h j (List.mem_range.1 hj)
theorem all_not {n k : Nat} {f : Nat → Bool} (hk : k < n) (h : f k = false) : (List.range n).all f = false := by
  rw [Bool.eq_false_iff]
  intro ha
  have := List.all_eq_true.1 ha k (List.mem_range.2 hk)
  rw [h] at this; cases this
theorem range_all {n : Nat} {f : Nat → Bool} (h : (List.range n).all f = true) {j : Nat} (hj : j < n) : f j = true := List.all_eq_true.1 h j (List.mem_range.2 hj)

def keyOk (ks : List (List Int)) (i : Nat) : Bool := decide (1 ≤ (ks.getD i []).length) && decide ((ks.getD i []).length ≤ 120) && (decide (i = 0) || lessI (ks.getD (i - 1) []) (ks.getD i []))
def keysOk (ks : List (List Int)) : Bool := (List.range ks.length).all (keyOk ks)
def cellOk (ks vs : List (List Int)) (i : Nat) : Bool := decide ((ks.getD i []).length + (vs.getD i []).length ≤ 160)
def cellsOk (ks vs : List (List Int)) : Bool := decide (vs.length = ks.length) && (List.range vs.length).all (cellOk ks vs)
def kidOk (z : Int) : Bool := decide (1 ≤ z) && decide (z ≤ 9999)
def kidsOk (is : List Int) : Bool := (List.range is.length).all fun i => kidOk (is.getD i 0)
/-- a node as it should be -/
def nFormB (lf : Bool) (ks vs : List (List Int)) (is : List Int) : Bool :=
  keysOk ks && (if lf then decide (is.length = 0) && cellsOk ks vs else decide (0 < ks.length) && decide (vs.length = 0) && decide (is.length = ks.length + 1) && kidsOk is)

/-- bytes with their number ahead -/
def pieceB (b : List Int) : List Int := enc b.length ++ b
/-- the i-th key, and what belongs to it -/
def entB (lf : Bool) (ks vs : List (List Int)) (is : List Int) (i : Nat) : List Int :=
  pieceB (ks.getD i []) ++ (if lf then pieceB (vs.getD i []) else enc (is.getD (i + 1) 0))
def entsB (lf : Bool) (ks vs : List (List Int)) (is : List Int) (k : Nat) : List Int := (List.range k).flatMap (entB lf ks vs is)
/-- what stands ahead of the keys -/
def headB (lf : Bool) (n : Nat) (is : List Int) : List Int := (if lf then 1 else 2) :: (enc n ++ (if lf then [] else enc (is.getD 0 0)))
/-- a node's bytes -/
def nodeB (lf : Bool) (ks vs : List (List Int)) (is : List Int) : List Int := headB lf ks.length is ++ entsB lf ks vs is ks.length
theorem entsB_succ (lf : Bool) (ks vs : List (List Int)) (is : List Int) (k : Nat) : entsB lf ks vs is (k + 1) = entsB lf ks vs is k ++ entB lf ks vs is k := by
  unfold entsB
  rw [List.range_succ, List.flatMap_append]
  simp
theorem enc_le (n : Int) : (enc n).length ≤ 10 := by rw [enc_length]; exact (groups_bd n).2
theorem pieceB_len (b : List Int) : (pieceB b).length ≤ 10 + b.length := by unfold pieceB; rw [List.length_append]; have := enc_le b.length; omega
/-- the i-th key and what belongs to it aren't too long -/
def shortB (lf : Bool) (ks vs : List (List Int)) (i : Nat) : Prop := (ks.getD i []).length ≤ 1000 ∧ (lf = true → (vs.getD i []).length ≤ 1000)
theorem entB_len {lf : Bool} {ks vs : List (List Int)} (is : List Int) {i : Nat} (h : shortB lf ks vs i) : (entB lf ks vs is i).length ≤ 2020 := by
  unfold entB
  rw [List.length_append]
  have h1 := pieceB_len (ks.getD i [])
  have := h.1
  cases lf with
  | true =>
    have h2 := pieceB_len (vs.getD i [])
    have := h.2 rfl
    show _ + (pieceB _).length ≤ _
    omega
  | false =>
    have h2 := enc_le (is.getD (i + 1) 0)
    show _ + (enc _).length ≤ _
    omega
theorem entsB_len {lf : Bool} {ks vs : List (List Int)} (is : List Int) : ∀ {k : Nat}, (∀ i, i < k → shortB lf ks vs i) → (entsB lf ks vs is k).length ≤ 2020 * k
  | 0, _ => by simp [entsB]
  | k + 1, h => by
    rw [entsB_succ, List.length_append]
    have h1 := entsB_len is (k := k) fun i hi => h i (by omega)
    have h2 := entB_len is (h k (by omega))
    omega
theorem headB_len (lf : Bool) (n : Nat) (is : List Int) : (headB lf n is).length ≤ 30 := by
  unfold headB
  have h1 := enc_le n
  have h2 := enc_le (is.getD 0 0)
  rw [List.length_cons, List.length_append]
  cases lf with
  | true => rw [if_pos rfl]; simp; omega
  | false => rw [if_neg (by decide)]; omega
theorem formed_short {lf : Bool} {ks vs : List (List Int)} {is : List Int} (h : nFormB lf ks vs is = true) : ∀ i, i < ks.length → shortB lf ks vs i := by
  intro i hi
  unfold nFormB at h
  rw [Bool.and_eq_true] at h
  have hk := range_all h.1 hi
  unfold keyOk at hk
  simp only [Bool.and_eq_true, decide_eq_true_eq] at hk
  refine ⟨by omega, fun hl => ?_⟩
  have h2 := h.2
  rw [if_pos hl, Bool.and_eq_true] at h2
  have h3 := h2.2
  unfold cellsOk at h3
  rw [Bool.and_eq_true, decide_eq_true_eq] at h3
  have := range_all h3.2 (j := i) (by omega)
  unfold cellOk at this
  rw [decide_eq_true_eq] at this
  omega
theorem formed_kids {ks vs : List (List Int)} {is : List Int} (h : nFormB false ks vs is = true) : is.length = ks.length + 1 ∧ 0 < ks.length ∧ vs.length = 0 ∧ ∀ i, i < is.length → 1 ≤ is.getD i 0 ∧ is.getD i 0 ≤ 9999 := by
  unfold nFormB at h
  simp only [Bool.and_eq_true, Bool.false_eq_true, if_false, decide_eq_true_eq] at h
  refine ⟨h.2.1.2, h.2.1.1.1, h.2.1.1.2, fun i hi => ?_⟩
  have := range_all h.2.2 hi
  unfold kidOk at this
  simpa using this
theorem formed_cells {ks vs : List (List Int)} {is : List Int} (h : nFormB true ks vs is = true) : is.length = 0 ∧ vs.length = ks.length := by
  unfold nFormB cellsOk at h
  simp only [Bool.and_eq_true, if_true, decide_eq_true_eq] at h
  exact ⟨h.2.1, h.2.2.1⟩
end Go.Proofs.YtbcjhngpcodaoaaDoor
