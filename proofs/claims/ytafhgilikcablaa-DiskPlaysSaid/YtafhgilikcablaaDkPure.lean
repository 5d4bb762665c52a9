/- A file of the disk: its bytes, and the sectors that were written. Plain mathematics. -/
import Derived.Test.YtafhgilikcablaaBase
import Derived.Maps.OwnSet
namespace Go.Proofs.Ytafhgilikcablaa
open Go.RowKit Go.Maps
set_option linter.unusedVariables false

/-- b stands in a file from that place on -/
def wrB (zs b : List Int) (p : Nat) : List Int := zs.take p ++ b ++ zs.drop (p + b.length)
theorem wrB_length {zs b : List Int} {p : Nat} (hp : p ≤ zs.length) : (wrB zs b p).length = Nat.max zs.length (p + b.length) := by
  unfold wrB
  rw [List.length_append, List.length_append, List.length_take, List.length_drop]
  show _ = Max.max _ _
  omega
/-- in two pieces -/
theorem wrB_two {zs b : List Int} {p k : Nat} (hp : p ≤ zs.length) (hk : k ≤ b.length) : wrB (wrB zs (b.take k) p) (b.drop k) (p + k) = wrB zs b p := by
  have h1 : (zs.take p ++ b.take k).length = p + k := by rw [List.length_append, List.length_take, List.length_take]; omega
  have hl : (b.take k).length = k := by rw [List.length_take]; omega
  unfold wrB
  rw [hl, List.take_left' h1, List.length_drop]
  have h2 : (zs.take p ++ b.take k ++ zs.drop (p + k)).drop (p + k + (b.length - k)) = zs.drop (p + b.length) := by
    rw [← List.drop_drop, List.drop_left' h1, List.drop_drop]
    congr 1
    omega
  rw [h2, List.append_assoc (zs.take p), List.take_append_drop]
/-- as the program does it: over what is there, then behind it -/
theorem wrB_code {zs b : List Int} {p c : Nat} (hp : p ≤ zs.length) (hc : c = Nat.min b.length (zs.length - p)) : (zs.take p ++ (b.take c ++ zs.drop (p + c))) ++ b.drop c = wrB zs b p := by
  unfold wrB
  have hc' : c = Min.min b.length (zs.length - p) := hc
  by_cases h : b.length ≤ zs.length - p
  · have e : c = b.length := by omega
    rw [e, List.take_of_length_le (Nat.le_refl _), List.drop_of_length_le (Nat.le_refl _)]
    simp
  · have e : c = zs.length - p := by omega
    have d1 : zs.drop (p + c) = [] := List.drop_of_length_le (by omega)
    have d2 : zs.drop (p + b.length) = [] := List.drop_of_length_le (by omega)
    rw [d1, d2]
    simp

/-- a sector's key -/
def sk (s : Nat) : Lit := .int .i64 (s : Int)
/-- the sectors of so many bytes from there on -/
def secs (p n : Nat) : List Lit := if n = 0 then [] else (List.range' (p / 64) ((p + n - 1) / 64 - p / 64 + 1)).map sk
theorem addKey_again (L : List Lit) (s : Nat) : addKey (addKey L (sk s)) (sk s) = addKey L (sk s) := by
  have hs : (sk s).sameKey (sk s) = true := by simp [sk, Lit.sameKey]
  unfold addKey
  by_cases h : L.any (fun y => y.sameKey (sk s)) = true
  · rw [if_pos h, if_pos h]
  · rw [if_neg h, if_pos (by rw [List.any_append]; simp [hs])]
theorem fold_again (L : List Lit) (a n s : Nat) (hs : s = a + n) : ((List.range' a (n + 1)).map sk ++ [sk s]).foldl addKey L = ((List.range' a (n + 1)).map sk).foldl addKey L := by
  subst hs
  rw [List.foldl_append, List.range'_concat]
  simp only [Nat.one_mul, List.map_append, List.foldl_append, List.map_cons, List.map_nil, List.foldl_cons, List.foldl_nil]
  exact addKey_again _ _
/-- in two pieces -/
theorem secs_two (L : List Lit) {p n k : Nat} (hk : k ≤ n) : (secs (p + k) (n - k)).foldl addKey ((secs p k).foldl addKey L) = (secs p n).foldl addKey L := by
  rw [← List.foldl_append]
  unfold secs
  by_cases h0 : k = 0
  · subst h0; simp
  by_cases h1 : n - k = 0
  · have : n = k := by omega
    subst this
    simp [h0]
  rw [if_neg h0, if_neg h1, if_neg (by omega), ← List.map_append]
  have e0 : p + k + (n - k) - 1 = p + n - 1 := by omega
  rw [e0]
  obtain ⟨a, ha⟩ : ∃ a, a = p / 64 := ⟨_, rfl⟩
  obtain ⟨m, hm⟩ : ∃ m, m = (p + k - 1) / 64 := ⟨_, rfl⟩
  obtain ⟨z, hz⟩ : ∃ z, z = (p + n - 1) / 64 := ⟨_, rfl⟩
  have h2 : (p + k) / 64 = m ∨ (p + k) / 64 = m + 1 := by omega
  have h3 : (p + k) / 64 ≤ z := by omega
  have h4 : a ≤ m := by omega
  rw [← ha, ← hm, ← hz]
  rcases h2 with h2 | h2
  · rw [h2] at h3 ⊢
    have hr : List.range' m (z - m + 1) = m :: List.range' (m + 1) (z - m) := List.range'_succ
    rw [hr, List.map_append, List.map_cons]
    have hsplit : (List.range' a (m - a + 1)).map sk ++ sk m :: (List.range' (m + 1) (z - m)).map sk = ((List.range' a (m - a + 1)).map sk ++ [sk m]) ++ (List.range' (m + 1) (z - m)).map sk := by simp
    rw [hsplit, List.foldl_append, fold_again L a (m - a) m (by omega), ← List.foldl_append, ← List.map_append]
    have happ : List.range' a (m - a + 1) ++ List.range' (m + 1) (z - m) = List.range' a (z - a + 1) := by
      have := List.range'_append (s := a) (m := m - a + 1) (n := z - m) (step := 1)
      rw [Nat.one_mul, show a + (m - a + 1) = m + 1 by omega, show m - a + 1 + (z - m) = z - a + 1 by omega] at this
      exact this
    rw [happ]
  · rw [h2] at h3 ⊢
    have happ : List.range' a (m - a + 1) ++ List.range' (m + 1) (z - (m + 1) + 1) = List.range' a (z - a + 1) := by
      have := List.range'_append (s := a) (m := m - a + 1) (n := z - (m + 1) + 1) (step := 1)
      rw [Nat.one_mul, show a + (m - a + 1) = m + 1 by omega, show m - a + 1 + (z - (m + 1) + 1) = z - a + 1 by omega] at this
      exact this
    rw [happ]
end Go.Proofs.Ytafhgilikcablaa
