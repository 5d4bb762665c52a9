/- What JournalBack's two journals tell. Plain mathematics. -/
import Derived.Test.YtbcjhngpcodaoaaJBkR
namespace Go.Proofs.Ytbcjhngpcodaoaa
open Go.RowKit
set_option linter.unusedVariables false

theorem partN_bd (n : Int) : 0 ≤ partN n ∧ partN n ≤ 10000 := num100 n
/-- the first k parts, as records -/
def psK (f : Nat → Int × Int × Int × Int) (k : Nat) : List (Int × Int) := (List.range k).map fun i => (partN (f i).2.1, (f i).2.2.2)
theorem psK_len (f : Nat → Int × Int × Int × Int) (k : Nat) : (psK f k).length = k := by simp [psK]
theorem recsB_succ (s : Int) (f : Nat → Int × Int × Int × Int) (k : Nat) : recsB s (psK f (k + 1)) = recsB s (psK f k) ++ recK s (partN (f k).2.1) (pageB (f k).2.2.2) := by
  unfold psK recsB
  rw [List.range_succ, List.map_append, List.flatMap_append]
  simp
theorem psK_bd (f : Nat → Int × Int × Int × Int) (k : Nat) : ∀ q ∈ psK f k, 0 ≤ q.1 ∧ q.1 ≤ 10000 := by
  intro q hq
  obtain ⟨i, _, rfl⟩ := List.mem_map.1 hq
  exact partN_bd _
theorem hAt_two {x y t : List Int} (hx : x.length = 64) (hy : y.length = 64) : hAt (x ++ (y ++ t)) 0 = x ∧ hAt (x ++ (y ++ t)) 1 = y := by
  constructor
  · unfold hAt
    rw [Nat.mul_zero, List.drop_zero, take_app hx.symm]
  · unfold hAt
    rw [Nat.mul_one, drop_app hx.symm, take_app hy.symm]
/-- of two heads, one that tells m and one that is none or tells fewer, the first is taken -/
theorem tells_of {s p : Int} {m N : Nat} {x y tail : List Int} {f : Nat → Int × Int × Int × Int} (hs : 0 ≤ s ∧ s ≤ 18446744073709551615) (hp : 0 ≤ p ∧ p ≤ 10000) (hm : m ≤ N) (hN : N ≤ 12) (hx : x.length = 64) (hy : y.length = 64)
    (h : (x = headK s p m ∧ (hOk y = false ∨ (hOk y = true ∧ hR y ≤ m))) ∨ (y = headK s p m ∧ (hOk x = false ∨ (hOk x = true ∧ hR x < m))) ∨ (x = headK s p m ∧ y = headK s p m)) :
    TellsB (x ++ (y ++ (recsB s (psK f N) ++ tail))) s p f m := by
  have hb : bK (x ++ (y ++ (recsB s (psK f N) ++ tail))) 2 = (true, s, p, (m : Int)) := by
    obtain ⟨e0, e1⟩ := hAt_two (t := recsB s (psK f N) ++ tail) hx hy
    rw [bK_two (by rw [List.length_append, List.length_append, hx, hy]; omega), e0, e1]
    have hk := headK_ok s p m hs hp (by omega)
    have hS := headK_S s p m hs.1 hs.2
    have hP := headK_P s p m hp.1 (by omega)
    have hR' := headK_R s p m (by omega) (by omega)
    rcases h with ⟨rfl, h⟩ | ⟨rfl, h⟩ | ⟨rfl, rfl⟩
    · rw [if_neg, if_pos hk, hS, hP, hR']
      intro hh
      rcases h with h | ⟨_, h⟩
      · rw [h] at hh; cases hh.1
      · rcases hh.2 with h2 | h2
        · rw [hk] at h2; cases h2
        · rw [hR'] at h2; omega
    · rw [if_pos, hS, hP, hR']
      refine ⟨hk, ?_⟩
      rcases h with h | ⟨_, h⟩
      · exact .inl h
      · right; rw [hR']; exact h
    · rw [if_neg, if_pos hk, hS, hP, hR']
      intro hh
      rcases hh.2 with h2 | h2
      · rw [hk] at h2; cases h2
      · omega
  obtain ⟨t1, t2, t3, t4, t5⟩ := told hx hy hb (by rw [psK_len]; exact hm) (psK_bd f N)
  refine ⟨t1, t2, t3, by rw [t4]; simp [psK_len]; omega, by rw [t5]; simp [psK_len]; omega, fun i hi => ?_⟩
  have hl : i < (psK f N).length := by rw [psK_len]; omega
  have hg : (psK f N)[i] = (partN (f i).2.1, (f i).2.2.2) := by simp [psK]
  constructor
  · rw [t4, List.getD_eq_getElem?_getD, List.getElem?_map, List.getElem?_take_of_lt hi, List.getElem?_eq_getElem hl, hg]
    rfl
  · rw [t5, List.getD_eq_getElem?_getD, List.getElem?_map, List.getElem?_take_of_lt hi, List.getElem?_eq_getElem hl, hg]
    rfl
/-- a byte more of sixty-four that are set to one value -/
def turnK (zb : List Int) (a k : Nat) (t : Int) : List Int := zb.take a ++ (List.replicate k t ++ zb.drop (a + k))
theorem turnK_len {zb : List Int} {a k : Nat} (t : Int) (h : a + k ≤ zb.length) : (turnK zb a k t).length = zb.length := by
  unfold turnK
  rw [List.length_append, List.length_append, List.length_take, List.length_replicate, List.length_drop]; omega
theorem turnK_set {zb : List Int} {a k : Nat} (t : Int) (h : a + k < zb.length) : (turnK zb a k t).set (a + k) t = turnK zb a (k + 1) t := by
  unfold turnK
  have ha : (zb.take a).length = a := by rw [List.length_take]; omega
  rw [List.set_append_right _ _ (by omega), ha, show a + k - a = k by omega, List.set_append_right _ _ (by simp), List.length_replicate, Nat.sub_self, List.drop_eq_getElem_cons h, List.set_cons_zero, List.replicate_succ', List.append_assoc]
  rfl
end Go.Proofs.Ytbcjhngpcodaoaa
