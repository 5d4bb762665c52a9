/- Contracts of code's fits: const, col, those of one more register. -/
import Derived.Test.YtafhgilikcablaaLwLet
import Derived.Laws.MakeOwn
import Derived.Laws.OwnMore
import Derived.Test.YtafhgilikcablaaVRecV
import Derived.Test.YtafhgilikcablaaIns
import Derived.Test.YtafhgilikcablaaFormV
namespace Go.Proofs.Ytafhgilikcablaa
open Go.RowKit
set_option linter.unusedVariables false
set_option linter.unusedSimpArgs false
/-- a register's four cells -/
def regX (r : Reg) : List Value := [.int .i64 r.1.1, .int .i64 r.1.2.1, .string r.1.2.2, .int .i64 r.2]
def regC (rs : List Reg) : List Value := rs.flatMap regX
theorem regC_cons (r : Reg) (rs : List Reg) : regC (r :: rs) = .int .i64 r.1.1 :: .int .i64 r.1.2.1 :: .string r.1.2.2 :: .int .i64 r.2 :: regC rs := by simp [regC, regX]
theorem regC_at : ∀ (rs : List Reg) (i : Nat), i < rs.length → (regC rs)[i * 4]? = some (.int .i64 (rs.getD i noR).1.1) ∧ (regC rs)[i * 4 + 1]? = some (.int .i64 (rs.getD i noR).1.2.1) ∧ (regC rs)[i * 4 + 2]? = some (.string (rs.getD i noR).1.2.2) ∧ (regC rs)[i * 4 + 3]? = some (.int .i64 (rs.getD i noR).2)
  | [], i, h => by simp at h
  | r :: rs, 0, _ => by rw [regC_cons]; simp
  | r :: rs, i + 1, h => by
    have ih := regC_at rs i (by simpa using h)
    rw [regC_cons]
    have e : (i + 1) * 4 = i * 4 + 4 := by omega
    simp only [e, Nat.add_right_comm _ 4, List.getElem?_cons_succ, List.getD_cons_succ]
    simpa using ih
theorem regC_truth : ∀ (rs : List Reg) (i : Nat) (t : Int), i < rs.length → (regC rs).set (i * 4 + 3) (.int .i64 t) = regC (rs.set i ((rs.getD i noR).1, t))
  | [], i, _, h => by simp at h
  | r :: rs, 0, t, _ => by simp [regC_cons]
  | r :: rs, i + 1, t, h => by
    have ih := regC_truth rs i t (by simpa using h)
    have e : (i + 1) * 4 + 3 = i * 4 + 3 + 1 + 1 + 1 + 1 := by omega
    simp only [regC_cons, e, List.set_cons_succ, List.getD_cons_succ, ih]
theorem regC_value : ∀ (rs : List Reg) (i : Nat) (v : Val), i < rs.length → (((regC rs).set (i * 4) (.int .i64 v.1)).set (i * 4 + 1) (.int .i64 v.2.1)).set (i * 4 + 2) (.string v.2.2) = regC (rs.set i (v, (rs.getD i noR).2))
  | [], i, _, h => by simp at h
  | r :: rs, 0, v, _ => by simp [regC_cons]
  | r :: rs, i + 1, v, h => by
    have ih := regC_value rs i v (by simpa using h)
    have e0 : (i + 1) * 4 = i * 4 + 1 + 1 + 1 + 1 := by omega
    have e1 : (i + 1) * 4 + 1 = i * 4 + 1 + 1 + 1 + 1 + 1 := by omega
    have e2 : (i + 1) * 4 + 2 = i * 4 + 2 + 1 + 1 + 1 + 1 := by omega
    rw [e1, e2, e0]
    simp only [regC_cons, List.set_cons_succ, List.getD_cons_succ, ih]
/-- the values alone -/
def valX (r : Reg) : List Value := [.int .i64 r.1.1, .int .i64 r.1.2.1, .string r.1.2.2]
def valC (rs : List Reg) : List Value := rs.flatMap valX
theorem valC_cons (r : Reg) (rs : List Reg) : valC (r :: rs) = .int .i64 r.1.1 :: .int .i64 r.1.2.1 :: .string r.1.2.2 :: valC rs := by simp [valC, valX]
theorem valC_length : ∀ rs : List Reg, (valC rs).length = rs.length * 3
  | [] => rfl
  | r :: rs => by rw [valC_cons]; simp [valC_length rs]; omega
theorem valC_at : ∀ (rs : List Reg) (i : Nat), i < rs.length → (valC rs)[i * 3]? = some (.int .i64 (rs.getD i noR).1.1) ∧ (valC rs)[i * 3 + 1]? = some (.int .i64 (rs.getD i noR).1.2.1) ∧ (valC rs)[i * 3 + 2]? = some (.string (rs.getD i noR).1.2.2)
  | [], i, h => by simp at h
  | r :: rs, 0, _ => by rw [valC_cons]; simp
  | r :: rs, i + 1, h => by
    have ih := valC_at rs i (by simpa using h)
    rw [valC_cons]
    have e : (i + 1) * 3 = i * 3 + 3 := by omega
    simp only [e, Nat.add_right_comm _ 3, List.getElem?_cons_succ, List.getD_cons_succ]
    simpa using ih
theorem valC_value : ∀ (rs : List Reg) (i : Nat) (r : Reg), i < rs.length → (((valC rs).set (i * 3) (.int .i64 r.1.1)).set (i * 3 + 1) (.int .i64 r.1.2.1)).set (i * 3 + 2) (.string r.1.2.2) = valC (rs.set i r)
  | [], i, _, h => by simp at h
  | r :: rs, 0, v, _ => by simp [valC_cons]
  | r :: rs, i + 1, v, h => by
    have ih := valC_value rs i v (by simpa using h)
    have e0 : (i + 1) * 3 = i * 3 + 1 + 1 + 1 := by omega
    have e1 : (i + 1) * 3 + 1 = i * 3 + 1 + 1 + 1 + 1 := by omega
    have e2 : (i + 1) * 3 + 2 = i * 3 + 2 + 1 + 1 + 1 := by omega
    rw [e1, e2, e0]
    simp only [valC_cons, List.set_cons_succ, ih]
theorem valC_truth (rs : List Reg) (i : Nat) (t : Int) (h : i < rs.length) : valC (rs.set i ((rs.getD i noR).1, t)) = valC rs := by
  rw [← valC_value rs i _ h]
  obtain ⟨h0, h1, h2⟩ := valC_at rs i h
  have e : ∀ (l : List Value) (k : Nat) (v : Value), l[k]? = some v → l.set k v = l := fun l k v hk => by
    obtain ⟨hk', rfl⟩ := List.getElem?_eq_some_iff.1 hk
    simp
  rw [e _ _ _ h0, e _ _ _ h1, e _ _ _ h2]
theorem valC_made (n : Nat) : (madeCells #[.int .i64 0, .int .i64 0, .string ⟨#[]⟩] (n * 3)).toList = valC (List.replicate n noR) := by
  apply List.ext_getElem?
  intro j
  obtain ⟨i, r, hr, rfl⟩ : ∃ i r, r < 3 ∧ j = i * 3 + r := ⟨j / 3, j % 3, by omega, by omega⟩
  by_cases hi : i < n
  · obtain ⟨h0, h1, h2⟩ := valC_at (List.replicate n noR) i (by simpa using hi)
    have e : (List.replicate n noR).getD i noR = noR := by simp [List.getElem?_replicate, hi]
    rw [e] at h0 h1 h2
    have hlt : i * 3 + r < n * 3 := by omega
    have hm : (i * 3 + r) % 3 = r := by omega
    have hq : (madeCells #[.int .i64 0, .int .i64 0, .string ⟨#[]⟩] (n * 3)).toList[i * 3 + r]? = some (#[Value.int .i64 0, .int .i64 0, .string ⟨#[]⟩][r]!) := by
      simp [madeCells, hlt, hm]
    rw [hq]
    match r, hr with
    | 0, _ => exact h0.symm
    | 1, _ => exact h1.symm
    | 2, _ => exact h2.symm
  · rw [List.getElem?_eq_none (by rw [Array.length_toList, size_madeCells]; omega), List.getElem?_eq_none (by rw [valC_length, List.length_replicate]; omega)]
/-- the truths alone -/
def truC (rs : List Reg) : List Value := rs.map fun r => .int .i64 r.2
theorem truC_at (rs : List Reg) (i : Nat) (h : i < rs.length) : (truC rs)[i]? = some (.int .i64 (rs.getD i noR).2) := by simp [truC, h]
theorem truC_set (rs : List Reg) (i : Nat) (r : Reg) : (truC rs).set i (.int .i64 r.2) = truC (rs.set i r) := by simp [truC, List.map_set]
theorem truC_value (rs : List Reg) (i : Nat) (v : Val) (h : i < rs.length) : truC (rs.set i (v, (rs.getD i noR).2)) = truC rs := by
  rw [← truC_set]
  have := truC_at rs i h
  obtain ⟨hk', e⟩ := List.getElem?_eq_some_iff.1 this
  simp only
  rw [← e]; simp
/-- registers set one behind the other -/
def upTo (n k : Nat) : List Reg := List.replicate k noR ++ List.replicate (n - k) (noV, 0)
theorem upTo_length {n k : Nat} (h : k ≤ n) : (upTo n k).length = n := by simp [upTo]; omega
theorem upTo_zero (n : Nat) : upTo n 0 = List.replicate n (noV, 0) := by simp [upTo]
theorem upTo_all (n : Nat) : upTo n n = List.replicate n noR := by simp [upTo]
theorem upTo_set {n k : Nat} (h : k < n) : (upTo n k).set k noR = upTo n (k + 1) := by
  obtain ⟨m, rfl⟩ : ∃ m, n = k + 1 + m := ⟨n - k - 1, by omega⟩
  unfold upTo
  rw [show k + 1 + m - k = m + 1 by omega, show k + 1 + m - (k + 1) = m by omega, List.set_append_right _ _ (by simp), List.length_replicate, Nat.sub_self, List.replicate_succ, List.set_cons_zero, List.replicate_succ', List.append_assoc]
  rfl
theorem truC_made (n : Nat) : (madeCells #[.int .i64 0] n).toList = truC (upTo n 0) := by
  rw [toList_madeCells_one, upTo_zero]
  simp [truC]
end Go.Proofs.Ytafhgilikcablaa
namespace Go.Proofs.Ytafhgilikcablaa
open Go.RowKit
set_option linter.unusedVariables false
set_option linter.unusedSimpArgs false
def RowsR (R : List (List Val)) : Prop := ∀ l ∈ R, ∀ v ∈ l, InR v.2.1
theorem colF_inR {R : List (List Val)} (h : RowsR R) (i j : Int) : InR (colF R i j).1.2.1 := by
  unfold colF
  split
  · rename_i hc
    obtain ⟨_, _, hi, hj, _⟩ := hc
    have e1 : R.getD i.toNat [] = R[i.toNat] := by rw [List.getD_eq_getElem?_getD, List.getElem?_eq_getElem hi]; rfl
    rw [e1] at hj ⊢
    have e2 : (R[i.toNat]).getD j.toNat noV = (R[i.toNat])[j.toNat] := by rw [List.getD_eq_getElem?_getD, List.getElem?_eq_getElem hj]; rfl
    show InR ((R[i.toNat]).getD j.toNat noV).2.1
    rw [e2]
    exact h _ (List.getElem_mem hi) _ (List.getElem_mem hj)
  · exact ⟨by decide, by decide⟩
end Go.Proofs.Ytafhgilikcablaa
namespace Go.Proofs.Ytafhgilikcablaa
open Go.RowKit
set_option linter.unusedVariables false
set_option linter.unusedSimpArgs false
set_option maxRecDepth 100000

set_option maxHeartbeats 800000 in
theorem has_any (sl : Value) (hsl : sl.oneCell' = true) (R r : Int) (w : World) : Calls Try.prog 150 #[.agg #[sl, .int .i64 R], .int .i64 r] w fun e w' => e = .returned (.bool (hasB R r)) ∧ w' = w.alloc (.cells #[sl, .int .i64 R] 76) := by
  by_cases h0 : 0 ≤ r
  · by_cases h1 : r < R
    · rw [show hasB R r = true from decide_eq_true ⟨h0, h1⟩]
      go_enter Try.func150, Try.ntmps150
      go_wp2
      go_ret
      exact ⟨by simp, rfl⟩
    · rw [show hasB R r = false from decide_eq_false (fun h => h1 h.2)]
      go_enter Try.func150, Try.ntmps150
      go_wp2
      go_ret
      exact ⟨by simp, rfl⟩
  · rw [show hasB R r = false from decide_eq_false (fun h => h0 h.1)]
    go_enter Try.func150, Try.ntmps150
    go_wp2
    go_ret
    exact ⟨by simp, rfl⟩

end Go.Proofs.Ytafhgilikcablaa
namespace Go.Proofs.Ytafhgilikcablaa
open Go.RowKit
set_option linter.unusedVariables false
set_option linter.unusedSimpArgs false
set_option maxRecDepth 100000

theorem class_const : opClass ⟨#[99, 111, 110, 115, 116]⟩ = 0 := by unfold opClass; rw [ByteArray.toList_eq]; rfl
set_option maxHeartbeats 1600000 in
theorem fits_const (ca : Option Addr) (cl cc : Nat) (R i a b c k n : Int) (s : ByteArray) (w : World) (hcl : cl ≤ 9223372036854775807) :
    Calls Try.prog 116 #[.agg #[.slice ca cl cc, .int .i64 R], .int .i64 i, .agg #[.string ⟨#[99, 111, 110, 115, 116]⟩, .int .i64 a, .int .i64 b, .int .i64 c, .int .i64 k, .int .i64 n, .string s]] w fun e w' => e = .returned (.bool (fitsB cl R i ⟨⟨#[99, 111, 110, 115, 116]⟩, a, b, c, (k, n, s)⟩)) ∧ Below w.heap.size w w' := by
  have HE := Lib.hid (show fitsB cl R i ⟨⟨#[99, 111, 110, 115, 116]⟩, a, b, c, (k, n, s)⟩ = (hasB R a && decide (b = 0) && decide (c = 0) && formedB k n s) by unfold fitsB; rw [class_const]; rfl)
  rw [HE.out]
  clear HE
  go_enter Try.func116, Try.ntmps116
  go_wp2_with (first | (go_at_call 150; refine (has_any _ rfl _ _ _).mono ?_; rintro e w' ⟨rfl, rfl⟩) | (go_at_call 122; refine (formed_any _ _ _ _).mono ?_; rintro e w' ⟨rfl, rfl⟩))
  all_goals go_ret
  all_goals refine ⟨ret_bool ?_, by repeat (first | exact Below.refl _ _ | refine bel0 _ ?_)⟩
  all_goals first | (simp_all; done) | (simp_all; rfl) | (simp_all; omega)

theorem class_col : opClass ⟨#[99, 111, 108]⟩ = 1 := by unfold opClass; rw [ByteArray.toList_eq]; rfl
set_option maxHeartbeats 1600000 in
theorem fits_col (ca : Option Addr) (cl cc : Nat) (R i a b c k n : Int) (s : ByteArray) (w : World) (hcl : cl ≤ 9223372036854775807) :
    Calls Try.prog 116 #[.agg #[.slice ca cl cc, .int .i64 R], .int .i64 i, .agg #[.string ⟨#[99, 111, 108]⟩, .int .i64 a, .int .i64 b, .int .i64 c, .int .i64 k, .int .i64 n, .string s]] w fun e w' => e = .returned (.bool (fitsB cl R i ⟨⟨#[99, 111, 108]⟩, a, b, c, (k, n, s)⟩)) ∧ Below w.heap.size w w' := by
  have HE := Lib.hid (show fitsB cl R i ⟨⟨#[99, 111, 108]⟩, a, b, c, (k, n, s)⟩ = (hasB R a && decide (0 ≤ b) && decide (0 ≤ c)) by unfold fitsB; rw [class_col]; rfl)
  rw [HE.out]
  clear HE
  go_enter Try.func116, Try.ntmps116
  go_wp2_with (go_at_call 150; refine (has_any _ rfl _ _ _).mono ?_; rintro e w' ⟨rfl, rfl⟩)
  all_goals go_ret
  all_goals refine ⟨ret_bool ?_, by repeat (first | exact Below.refl _ _ | refine bel0 _ ?_)⟩
  all_goals first | (simp_all; done) | (simp_all; rfl) | (simp_all; omega)

theorem class_neg : opClass ⟨#[110, 101, 103]⟩ = 2 := by unfold opClass; rw [ByteArray.toList_eq]; rfl
set_option maxHeartbeats 1600000 in
theorem fits_neg (ca : Option Addr) (cl cc : Nat) (R i a b c k n : Int) (s : ByteArray) (w : World) (hcl : cl ≤ 9223372036854775807) :
    Calls Try.prog 116 #[.agg #[.slice ca cl cc, .int .i64 R], .int .i64 i, .agg #[.string ⟨#[110, 101, 103]⟩, .int .i64 a, .int .i64 b, .int .i64 c, .int .i64 k, .int .i64 n, .string s]] w fun e w' => e = .returned (.bool (fitsB cl R i ⟨⟨#[110, 101, 103]⟩, a, b, c, (k, n, s)⟩)) ∧ Below w.heap.size w w' := by
  have HE := Lib.hid (show fitsB cl R i ⟨⟨#[110, 101, 103]⟩, a, b, c, (k, n, s)⟩ = (hasB R a && hasB R b && decide (c = 0)) by unfold fitsB; rw [class_neg]; rfl)
  rw [HE.out]
  clear HE
  go_enter Try.func116, Try.ntmps116
  go_wp2_with (go_at_call 150; refine (has_any _ rfl _ _ _).mono ?_; rintro e w' ⟨rfl, rfl⟩)
  all_goals go_ret
  all_goals refine ⟨ret_bool ?_, by repeat (first | exact Below.refl _ _ | refine bel0 _ ?_)⟩
  all_goals first | (simp_all; done) | (simp_all; rfl) | (simp_all; omega)

theorem class_null : opClass ⟨#[110, 117, 108, 108]⟩ = 2 := by unfold opClass; rw [ByteArray.toList_eq]; rfl
set_option maxHeartbeats 1600000 in
theorem fits_null (ca : Option Addr) (cl cc : Nat) (R i a b c k n : Int) (s : ByteArray) (w : World) (hcl : cl ≤ 9223372036854775807) :
    Calls Try.prog 116 #[.agg #[.slice ca cl cc, .int .i64 R], .int .i64 i, .agg #[.string ⟨#[110, 117, 108, 108]⟩, .int .i64 a, .int .i64 b, .int .i64 c, .int .i64 k, .int .i64 n, .string s]] w fun e w' => e = .returned (.bool (fitsB cl R i ⟨⟨#[110, 117, 108, 108]⟩, a, b, c, (k, n, s)⟩)) ∧ Below w.heap.size w w' := by
  have HE := Lib.hid (show fitsB cl R i ⟨⟨#[110, 117, 108, 108]⟩, a, b, c, (k, n, s)⟩ = (hasB R a && hasB R b && decide (c = 0)) by unfold fitsB; rw [class_null]; rfl)
  rw [HE.out]
  clear HE
  go_enter Try.func116, Try.ntmps116
  go_wp2_with (go_at_call 150; refine (has_any _ rfl _ _ _).mono ?_; rintro e w' ⟨rfl, rfl⟩)
  all_goals go_ret
  all_goals refine ⟨ret_bool ?_, by repeat (first | exact Below.refl _ _ | refine bel0 _ ?_)⟩
  all_goals first | (simp_all; done) | (simp_all; rfl) | (simp_all; omega)

theorem class_some : opClass ⟨#[115, 111, 109, 101]⟩ = 2 := by unfold opClass; rw [ByteArray.toList_eq]; rfl
set_option maxHeartbeats 1600000 in
theorem fits_some (ca : Option Addr) (cl cc : Nat) (R i a b c k n : Int) (s : ByteArray) (w : World) (hcl : cl ≤ 9223372036854775807) :
    Calls Try.prog 116 #[.agg #[.slice ca cl cc, .int .i64 R], .int .i64 i, .agg #[.string ⟨#[115, 111, 109, 101]⟩, .int .i64 a, .int .i64 b, .int .i64 c, .int .i64 k, .int .i64 n, .string s]] w fun e w' => e = .returned (.bool (fitsB cl R i ⟨⟨#[115, 111, 109, 101]⟩, a, b, c, (k, n, s)⟩)) ∧ Below w.heap.size w w' := by
  have HE := Lib.hid (show fitsB cl R i ⟨⟨#[115, 111, 109, 101]⟩, a, b, c, (k, n, s)⟩ = (hasB R a && hasB R b && decide (c = 0)) by unfold fitsB; rw [class_some]; rfl)
  rw [HE.out]
  clear HE
  go_enter Try.func116, Try.ntmps116
  go_wp2_with (go_at_call 150; refine (has_any _ rfl _ _ _).mono ?_; rintro e w' ⟨rfl, rfl⟩)
  all_goals go_ret
  all_goals refine ⟨ret_bool ?_, by repeat (first | exact Below.refl _ _ | refine bel0 _ ?_)⟩
  all_goals first | (simp_all; done) | (simp_all; rfl) | (simp_all; omega)

theorem class_not : opClass ⟨#[110, 111, 116]⟩ = 2 := by unfold opClass; rw [ByteArray.toList_eq]; rfl
set_option maxHeartbeats 1600000 in
theorem fits_not (ca : Option Addr) (cl cc : Nat) (R i a b c k n : Int) (s : ByteArray) (w : World) (hcl : cl ≤ 9223372036854775807) :
    Calls Try.prog 116 #[.agg #[.slice ca cl cc, .int .i64 R], .int .i64 i, .agg #[.string ⟨#[110, 111, 116]⟩, .int .i64 a, .int .i64 b, .int .i64 c, .int .i64 k, .int .i64 n, .string s]] w fun e w' => e = .returned (.bool (fitsB cl R i ⟨⟨#[110, 111, 116]⟩, a, b, c, (k, n, s)⟩)) ∧ Below w.heap.size w w' := by
  have HE := Lib.hid (show fitsB cl R i ⟨⟨#[110, 111, 116]⟩, a, b, c, (k, n, s)⟩ = (hasB R a && hasB R b && decide (c = 0)) by unfold fitsB; rw [class_not]; rfl)
  rw [HE.out]
  clear HE
  go_enter Try.func116, Try.ntmps116
  go_wp2_with (go_at_call 150; refine (has_any _ rfl _ _ _).mono ?_; rintro e w' ⟨rfl, rfl⟩)
  all_goals go_ret
  all_goals refine ⟨ret_bool ?_, by repeat (first | exact Below.refl _ _ | refine bel0 _ ?_)⟩
  all_goals first | (simp_all; done) | (simp_all; rfl) | (simp_all; omega)

theorem class_copy : opClass ⟨#[99, 111, 112, 121]⟩ = 2 := by unfold opClass; rw [ByteArray.toList_eq]; rfl
set_option maxHeartbeats 1600000 in
theorem fits_copy (ca : Option Addr) (cl cc : Nat) (R i a b c k n : Int) (s : ByteArray) (w : World) (hcl : cl ≤ 9223372036854775807) :
    Calls Try.prog 116 #[.agg #[.slice ca cl cc, .int .i64 R], .int .i64 i, .agg #[.string ⟨#[99, 111, 112, 121]⟩, .int .i64 a, .int .i64 b, .int .i64 c, .int .i64 k, .int .i64 n, .string s]] w fun e w' => e = .returned (.bool (fitsB cl R i ⟨⟨#[99, 111, 112, 121]⟩, a, b, c, (k, n, s)⟩)) ∧ Below w.heap.size w w' := by
  have HE := Lib.hid (show fitsB cl R i ⟨⟨#[99, 111, 112, 121]⟩, a, b, c, (k, n, s)⟩ = (hasB R a && hasB R b && decide (c = 0)) by unfold fitsB; rw [class_copy]; rfl)
  rw [HE.out]
  clear HE
  go_enter Try.func116, Try.ntmps116
  go_wp2_with (go_at_call 150; refine (has_any _ rfl _ _ _).mono ?_; rintro e w' ⟨rfl, rfl⟩)
  all_goals go_ret
  all_goals refine ⟨ret_bool ?_, by repeat (first | exact Below.refl _ _ | refine bel0 _ ?_)⟩
  all_goals first | (simp_all; done) | (simp_all; rfl) | (simp_all; omega)
end Go.Proofs.Ytafhgilikcablaa
