/- What bytes are decoded as. Plain mathematics. -/
import Derived.Test.YtbcjhngpcodaoaaDoorNdSt
import Derived.Test.YtbcjhngpcodaoaaDoorNdTrim
namespace Go.Proofs.YtbcjhngpcodaoaaDoor
open Go.RowKit
set_option linter.unusedVariables false

/-- what is read is bounded -/
structure NBd (s : NSt) : Prop where
  k : ∀ x ∈ s.ks, x.length ≤ 160
  v : ∀ x ∈ s.vs, x.length ≤ 160
  i : ∀ x ∈ s.is, 0 ≤ x ∧ x ≤ 10000
  l : ∀ z ∈ s.l, 0 ≤ z ∧ z ≤ 255
theorem numS_mem {most : Int} {l : List Int} {ok : Bool} (h : ∀ z ∈ l, 0 ≤ z ∧ z ≤ 255) : ∀ z ∈ (numS most l ok).2.1, 0 ≤ z ∧ z ≤ 255 := by
  unfold numS
  split
  · exact fun z hz => h z (List.mem_of_mem_drop hz)
  · exact h
theorem bytS_mem {l : List Int} {ok : Bool} (h : ∀ z ∈ l, 0 ≤ z ∧ z ≤ 255) : ∀ z ∈ (bytS l ok).2.1, 0 ≤ z ∧ z ≤ 255 := by
  unfold bytS
  split
  · exact numS_mem h
  · exact fun z hz => numS_mem h z (List.mem_of_mem_drop hz)
theorem bytS_len {l : List Int} {ok : Bool} (h : ∀ z ∈ l, 0 ≤ z ∧ z ≤ 255) : (bytS l ok).1.length ≤ 160 := by
  have hb := numS_bd (most := 160) (ok := ok) (by omega) h
  unfold bytS
  split
  · simp
  · rw [List.length_take]; omega
theorem snoc_all {α : Type} {p : α → Prop} {xs : List α} {x : α} (h : ∀ y ∈ xs, p y) (hx : p x) : ∀ y ∈ xs ++ [x], p y := fun y hy => by
  rcases List.mem_append.1 hy with h1 | h1
  · exact h y h1
  · simp at h1; subst h1; exact hx
theorem NBd.step {lf : Bool} {s : NSt} (h : NBd s) : NBd (stepS lf s) := by
  unfold stepS
  cases lf with
  | true => exact ⟨snoc_all h.k (bytS_len h.l), snoc_all h.v (bytS_len (bytS_mem h.l)), h.i, bytS_mem (bytS_mem h.l)⟩
  | false => exact ⟨snoc_all h.k (bytS_len h.l), h.v, snoc_all h.i (numS_bd (by omega) (bytS_mem h.l)), numS_mem (bytS_mem h.l)⟩
theorem NBd.loop {lf : Bool} : ∀ (n : Nat) {s : NSt}, NBd s → NBd (loopS lf n s) ∧ (loopS lf n s).ks.length ≤ s.ks.length + n ∧ (loopS lf n s).vs.length ≤ s.vs.length + n
  | 0, s, h => ⟨h, Nat.le_refl _, Nat.le_refl _⟩
  | n + 1, s, h => by
    unfold loopS
    split
    · obtain ⟨h1, h2, h3⟩ := NBd.loop (lf := lf) n (h.step (lf := lf))
      have hk : (stepS lf s).ks.length = s.ks.length + 1 := by unfold stepS; cases lf <;> simp
      have hv : (stepS lf s).vs.length ≤ s.vs.length + 1 := by unfold stepS; cases lf <;> simp
      exact ⟨h1, by omega, by omega⟩
    · exact ⟨h, by omega, by omega⟩
theorem NBd.head {lf : Bool} {l : List Int} (h : ∀ z ∈ l, 0 ≤ z ∧ z ≤ 255) : NBd (headS lf l) ∧ (headS lf l).ks = [] ∧ (headS lf l).vs = [] := by
  unfold headS
  cases lf with
  | true => exact ⟨⟨by simp, by simp, by simp, numS_mem h⟩, rfl, rfl⟩
  | false => exact ⟨⟨by simp, by simp, by
      intro x hx
      simp at hx
      subst hx
      exact numS_bd (by omega) (numS_mem h), numS_mem (numS_mem h)⟩, rfl, rfl⟩
theorem nodeS_bd {lf : Bool} {l : List Int} (h : ∀ z ∈ l, 0 ≤ z ∧ z ≤ 255) : NBd (nodeS lf l) ∧ (nodeS lf l).ks.length ≤ l.length ∧ (nodeS lf l).vs.length ≤ l.length := by
  have hc : countS l ≤ l.length := by
    have := numS_bd (most := (l.length : Int)) (ok := true) (by omega) h
    unfold countS
    omega
  obtain ⟨h1, h2, h3⟩ := NBd.head (lf := lf) h
  obtain ⟨k1, k2, k3⟩ := NBd.loop (lf := lf) (countS l) h1
  rw [h2] at k2
  rw [h3] at k3
  unfold nodeS
  exact ⟨k1, by simpa using Nat.le_trans k2 (by simpa using hc), by simpa using Nat.le_trans k3 (by simpa using hc)⟩
theorem getD_all {α : Type} {p : α → Prop} {xs : List α} {d : α} (h : ∀ y ∈ xs, p y) {i : Nat} (hi : i < xs.length) : p (xs.getD i d) := by
  rw [List.getD_eq_getElem?_getD, List.getElem?_eq_getElem hi]
  exact h _ (List.getElem_mem _)

/-- a node and an error -/
structure NAns where
  lf : Bool
  ks : List (List Int)
  vs : List (List Int)
  is : List Int
  er : Int
def noNode : NAns := ⟨false, [], [], [], 2⟩
def ofS (lf : Bool) (s : NSt) : NAns := if (s.ok && zl s.l && nFormB lf s.ks s.vs s.is) = true then ⟨lf, s.ks, s.vs, s.is, 0⟩ else noNode
/-- what bytes are decoded as -/
def decA (l : List Int) : NAns :=
  if l = [] then noNode else if l.getD 0 0 = 1 then ofS true (nodeS true (l.drop 1)) else if l.getD 0 0 = 2 then ofS false (nodeS false (l.drop 1)) else noNode
theorem isN_of_own {w : World} {B : Nat} {v : Value} {is : List Int} (h : w.ownsRow B 3 1 v is.length (is.map (Value.int .i64))) (hb : ∀ x ∈ is, 0 ≤ x ∧ x ≤ 10000) : ∃ a L c, v = .slice a L c ∧ IsN w a L is ∧ (a = none → L = 0 ∧ c = 0) ∧ L ≤ c := by
  have hB : ∀ i, -9223372036854775808 ≤ is.getD i 0 ∧ is.getD i 0 ≤ 9223372036854775807 := fun i => by
    by_cases hi : i < is.length
    · have := getD_all (d := 0) hb hi; omega
    · rw [List.getD_eq_getElem?_getD, List.getElem?_eq_none (by omega)]; simp
  rcases h.2 with ⟨rfl, h0⟩ | ⟨g, cap, cur, rfl, hg, hgg, hn, hm, hs, ht⟩
  · have : is = [] := List.eq_nil_of_length_eq_zero h0
    subst this
    exact ⟨none, 0, 0, rfl, ⟨rfl, by omega, .inl rfl, fun i hi => absurd hi (Nat.not_lt_zero _)⟩, fun _ => ⟨rfl, rfl⟩, Nat.le_refl _⟩
  · unfold maxLen at hm
    refine ⟨_, _, _, rfl, ⟨rfl, by omega, .inr ⟨g, 0, rfl, (Array.getElem?_eq_some_iff.1 hgg).1, fun i hi => ?_⟩, fun i _ => hB i⟩, fun h => by (cases h), hn⟩
    rw [Nat.zero_add, h.cellAt i (by omega), List.getElem?_map, List.getElem?_eq_getElem hi, List.getD_eq_getElem?_getD, List.getElem?_eq_getElem hi]
    rfl
/-- a node that is answered can be read -/
theorem Nr.nd {w : World} {B : Nat} {v1 v2 v3 : Value} {ks vs : List (List Int)} {is : List Int} {xs ys : List Value} (h : Nr w B v1 v2 v3 ks vs is xs ys) (hb : ∀ x ∈ is, 0 ≤ x ∧ x ≤ 10000) :
    ∃ ka kl kc va vl vc ia il ic, v1 = .slice ka kl kc ∧ v2 = .slice va vl vc ∧ v3 = .slice ia il ic ∧ Nd w ka kl va vl ia il ks vs is := by
  obtain ⟨ka, kl, kc, e1, _, h1, _⟩ := h.o1.isBs
  obtain ⟨va, vl, vc, e2, _, h2, _⟩ := h.o2.isBs
  obtain ⟨ia, il, ic, e3, h3, _⟩ := isN_of_own h.o3 hb
  exact ⟨_, _, _, _, _, _, _, _, _, e1, e2, e3, h1, h2, h3⟩
theorem IsB.low {w : World} {a : Option Addr} {L : Nat} {l : List Int} (h : IsB w a L l) : ∀ x, L ≠ 0 → a = some x → x.block < w.heap.size := fun x hx hy => by
  rcases h.2.2.1 with h | ⟨b, off, rfl, hc⟩
  · exact absurd h hx
  · cases hy
    exact World.block_lt_of_cell? w _ (hc 0 (by omega))
end Go.Proofs.YtbcjhngpcodaoaaDoor
