/- The registers in memory: the program's row of four cells each, the document's two rows. Plain. -/
import Derived.Test.YtplgkblahmndoaaVmCol
import Derived.Laws.MakeOwn
import Derived.Laws.OwnMore
namespace Go.Proofs.Ytplgkblahmndoaa
open Go.RowKit
set_option linter.unusedVariables false
/-- a register's four cells -/
def regX (r : Reg) : List Value := [.int .i64 r.1.1, .int .i64 r.1.2.1, .string r.1.2.2, .int .i64 r.2]
def regC (rs : List Reg) : List Value := rs.flatMap regX
theorem regC_cons (r : Reg) (rs : List Reg) : regC (r :: rs) = .int .i64 r.1.1 :: .int .i64 r.1.2.1 :: .string r.1.2.2 :: .int .i64 r.2 :: regC rs := by simp [regC, regX]
theorem regC_length : ∀ rs : List Reg, (regC rs).length = rs.length * 4
  | [] => rfl
  | r :: rs => by rw [regC_cons]; simp [regC_length rs]; omega
theorem regC_at : ∀ (rs : List Reg) (i : Nat), i < rs.length → (regC rs)[i * 4]? = some (.int .i64 (rs.getD i noR).1.1) ∧ (regC rs)[i * 4 + 1]? = some (.int .i64 (rs.getD i noR).1.2.1) ∧ (regC rs)[i * 4 + 2]? = some (.string (rs.getD i noR).1.2.2) ∧ (regC rs)[i * 4 + 3]? = some (.int .i64 (rs.getD i noR).2)
  | [], i, h => by simp at h
  | r :: rs, 0, _ => by rw [regC_cons]; simp
  | r :: rs, i + 1, h => by
    have ih := regC_at rs i (by simpa using h)
    rw [regC_cons]
    have e : (i + 1) * 4 = i * 4 + 4 := by omega
    simp only [e, Nat.add_right_comm _ 4, List.getElem?_cons_succ, List.getD_cons_succ]
    simpa using ih
theorem regC_truth : ∀ (rs : List Reg) (i : Nat) (t : Int), i < rs.length → (regC rs).set (i * 4 + 3) (.int .i64 t) = regC (rs.set i ((rs.getD i noR).1, t))
  | [], i, _, h => by simp at h
  | r :: rs, 0, t, _ => by simp [regC_cons]
  | r :: rs, i + 1, t, h => by
    have ih := regC_truth rs i t (by simpa using h)
    have e : (i + 1) * 4 + 3 = i * 4 + 3 + 1 + 1 + 1 + 1 := by omega
    simp only [regC_cons, e, List.set_cons_succ, List.getD_cons_succ, ih]
theorem regC_value : ∀ (rs : List Reg) (i : Nat) (v : Val), i < rs.length → (((regC rs).set (i * 4) (.int .i64 v.1)).set (i * 4 + 1) (.int .i64 v.2.1)).set (i * 4 + 2) (.string v.2.2) = regC (rs.set i (v, (rs.getD i noR).2))
  | [], i, _, h => by simp at h
  | r :: rs, 0, v, _ => by simp [regC_cons]
  | r :: rs, i + 1, v, h => by
    have ih := regC_value rs i v (by simpa using h)
    have e0 : (i + 1) * 4 = i * 4 + 1 + 1 + 1 + 1 := by omega
    have e1 : (i + 1) * 4 + 1 = i * 4 + 1 + 1 + 1 + 1 + 1 := by omega
    have e2 : (i + 1) * 4 + 2 = i * 4 + 2 + 1 + 1 + 1 + 1 := by omega
    rw [e1, e2, e0]
    simp only [regC_cons, List.set_cons_succ, List.getD_cons_succ, ih]
theorem regC_copy (rs : List Reg) (i : Nat) (r : Reg) (h : i < rs.length) : ((((regC rs).set (i * 4) (.int .i64 r.1.1)).set (i * 4 + 1) (.int .i64 r.1.2.1)).set (i * 4 + 2) (.string r.1.2.2)).set (i * 4 + 3) (.int .i64 r.2) = regC (rs.set i r) := by
  rw [regC_value rs i r.1 h, regC_truth _ i r.2 (by simpa using h)]
  congr 1
  simp [List.getElem?_set, h]
theorem regC_made (n : Nat) : (madeCells #[.int .i64 0, .int .i64 0, .string ⟨#[]⟩, .int .i64 0] (n * 4)).toList = regC (List.replicate n (noV, 0)) := by
  apply List.ext_getElem?
  intro j
  obtain ⟨i, r, hr, rfl⟩ : ∃ i r, r < 4 ∧ j = i * 4 + r := ⟨j / 4, j % 4, by omega, by omega⟩
  by_cases hi : i < n
  · obtain ⟨h0, h1, h2, h3⟩ := regC_at (List.replicate n (noV, 0)) i (by simpa using hi)
    have e : (List.replicate n ((noV, 0) : Reg)).getD i noR = (noV, 0) := by simp [List.getElem?_replicate, hi]
    rw [e] at h0 h1 h2 h3
    have hlt : i * 4 + r < n * 4 := by omega
    have hm : (i * 4 + r) % 4 = r := by omega
    have hq : (madeCells #[.int .i64 0, .int .i64 0, .string ⟨#[]⟩, .int .i64 0] (n * 4)).toList[i * 4 + r]? = some (#[Value.int .i64 0, .int .i64 0, .string ⟨#[]⟩, .int .i64 0][r]!) := by
      simp [madeCells, hlt, hm]
    rw [hq]
    match r, hr with
    | 0, _ => exact h0.symm
    | 1, _ => exact h1.symm
    | 2, _ => exact h2.symm
    | 3, _ => exact h3.symm
  · rw [List.getElem?_eq_none (by rw [Array.length_toList, size_madeCells]; omega), List.getElem?_eq_none (by rw [regC_length, List.length_replicate]; omega)]
/-- the values alone -/
def valX (r : Reg) : List Value := [.int .i64 r.1.1, .int .i64 r.1.2.1, .string r.1.2.2]
def valC (rs : List Reg) : List Value := rs.flatMap valX
theorem valC_cons (r : Reg) (rs : List Reg) : valC (r :: rs) = .int .i64 r.1.1 :: .int .i64 r.1.2.1 :: .string r.1.2.2 :: valC rs := by simp [valC, valX]
theorem valC_length : ∀ rs : List Reg, (valC rs).length = rs.length * 3
  | [] => rfl
  | r :: rs => by rw [valC_cons]; simp [valC_length rs]; omega
theorem valC_at : ∀ (rs : List Reg) (i : Nat), i < rs.length → (valC rs)[i * 3]? = some (.int .i64 (rs.getD i noR).1.1) ∧ (valC rs)[i * 3 + 1]? = some (.int .i64 (rs.getD i noR).1.2.1) ∧ (valC rs)[i * 3 + 2]? = some (.string (rs.getD i noR).1.2.2)
  | [], i, h => by simp at h
  | r :: rs, 0, _ => by rw [valC_cons]; simp
  | r :: rs, i + 1, h => by
    have ih := valC_at rs i (by simpa using h)
    rw [valC_cons]
    have e : (i + 1) * 3 = i * 3 + 3 := by omega
    simp only [e, Nat.add_right_comm _ 3, List.getElem?_cons_succ, List.getD_cons_succ]
    simpa using ih
theorem valC_value : ∀ (rs : List Reg) (i : Nat) (r : Reg), i < rs.length → (((valC rs).set (i * 3) (.int .i64 r.1.1)).set (i * 3 + 1) (.int .i64 r.1.2.1)).set (i * 3 + 2) (.string r.1.2.2) = valC (rs.set i r)
  | [], i, _, h => by simp at h
  | r :: rs, 0, v, _ => by simp [valC_cons]
  | r :: rs, i + 1, v, h => by
    have ih := valC_value rs i v (by simpa using h)
    have e0 : (i + 1) * 3 = i * 3 + 1 + 1 + 1 := by omega
    have e1 : (i + 1) * 3 + 1 = i * 3 + 1 + 1 + 1 + 1 := by omega
    have e2 : (i + 1) * 3 + 2 = i * 3 + 2 + 1 + 1 + 1 := by omega
    rw [e1, e2, e0]
    simp only [valC_cons, List.set_cons_succ, ih]
theorem valC_truth (rs : List Reg) (i : Nat) (t : Int) (h : i < rs.length) : valC (rs.set i ((rs.getD i noR).1, t)) = valC rs := by
  rw [← valC_value rs i _ h]
  obtain ⟨h0, h1, h2⟩ := valC_at rs i h
  have e : ∀ (l : List Value) (k : Nat) (v : Value), l[k]? = some v → l.set k v = l := fun l k v hk => by
    obtain ⟨hk', rfl⟩ := List.getElem?_eq_some_iff.1 hk
    simp
  rw [e _ _ _ h0, e _ _ _ h1, e _ _ _ h2]
theorem valC_made (n : Nat) : (madeCells #[.int .i64 0, .int .i64 0, .string ⟨#[]⟩] (n * 3)).toList = valC (List.replicate n noR) := by
  apply List.ext_getElem?
  intro j
  obtain ⟨i, r, hr, rfl⟩ : ∃ i r, r < 3 ∧ j = i * 3 + r := ⟨j / 3, j % 3, by omega, by omega⟩
  by_cases hi : i < n
  · obtain ⟨h0, h1, h2⟩ := valC_at (List.replicate n noR) i (by simpa using hi)
    have e : (List.replicate n noR).getD i noR = noR := by simp [List.getElem?_replicate, hi]
    rw [e] at h0 h1 h2
    have hlt : i * 3 + r < n * 3 := by omega
    have hm : (i * 3 + r) % 3 = r := by omega
    have hq : (madeCells #[.int .i64 0, .int .i64 0, .string ⟨#[]⟩] (n * 3)).toList[i * 3 + r]? = some (#[Value.int .i64 0, .int .i64 0, .string ⟨#[]⟩][r]!) := by
      simp [madeCells, hlt, hm]
    rw [hq]
    match r, hr with
    | 0, _ => exact h0.symm
    | 1, _ => exact h1.symm
    | 2, _ => exact h2.symm
  · rw [List.getElem?_eq_none (by rw [Array.length_toList, size_madeCells]; omega), List.getElem?_eq_none (by rw [valC_length, List.length_replicate]; omega)]
/-- the truths alone -/
def truC (rs : List Reg) : List Value := rs.map fun r => .int .i64 r.2
theorem truC_length (rs : List Reg) : (truC rs).length = rs.length := by simp [truC]
theorem truC_at (rs : List Reg) (i : Nat) (h : i < rs.length) : (truC rs)[i]? = some (.int .i64 (rs.getD i noR).2) := by simp [truC, h]
theorem truC_set (rs : List Reg) (i : Nat) (r : Reg) : (truC rs).set i (.int .i64 r.2) = truC (rs.set i r) := by simp [truC, List.map_set]
theorem truC_value (rs : List Reg) (i : Nat) (v : Val) (h : i < rs.length) : truC (rs.set i (v, (rs.getD i noR).2)) = truC rs := by
  rw [← truC_set]
  have := truC_at rs i h
  obtain ⟨hk', e⟩ := List.getElem?_eq_some_iff.1 this
  simp only
  rw [← e]; simp
/-- registers set one behind the other -/
def upTo (n k : Nat) : List Reg := List.replicate k noR ++ List.replicate (n - k) (noV, 0)
theorem upTo_length {n k : Nat} (h : k ≤ n) : (upTo n k).length = n := by simp [upTo]; omega
theorem upTo_zero (n : Nat) : upTo n 0 = List.replicate n (noV, 0) := by simp [upTo]
theorem upTo_all (n : Nat) : upTo n n = List.replicate n noR := by simp [upTo]
theorem upTo_get {n k : Nat} (h : k < n) : (upTo n k).getD k noR = (noV, 0) := by
  unfold upTo
  rw [List.getD_eq_getElem?_getD, List.getElem?_append_right (by simp)]
  have : 0 < n - k := by omega
  simp [List.getElem?_replicate, this]
theorem upTo_set {n k : Nat} (h : k < n) : (upTo n k).set k noR = upTo n (k + 1) := by
  obtain ⟨m, rfl⟩ : ∃ m, n = k + 1 + m := ⟨n - k - 1, by omega⟩
  unfold upTo
  rw [show k + 1 + m - k = m + 1 by omega, show k + 1 + m - (k + 1) = m by omega, List.set_append_right _ _ (by simp), List.length_replicate, Nat.sub_self, List.replicate_succ, List.set_cons_zero, List.replicate_succ', List.append_assoc]
  rfl
theorem valC_zero (n : Nat) : valC (List.replicate n (noV, 0)) = valC (List.replicate n noR) := by
  simp [valC, List.flatMap_replicate, valX, noR]
theorem truC_made (n : Nat) : (madeCells #[.int .i64 0] n).toList = truC (upTo n 0) := by
  rw [toList_madeCells_one, upTo_zero]
  simp [truC]
end Go.Proofs.Ytplgkblahmndoaa
