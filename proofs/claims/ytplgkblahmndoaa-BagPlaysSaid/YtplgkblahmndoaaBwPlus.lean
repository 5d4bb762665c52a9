/- The document's Plus, of any two numbers. -/
import Derived.Test.YtplgkblahmndoaaBwSt
namespace Go.Proofs.Ytplgkblahmndoaa
open Go.RowKit
set_option linter.unusedVariables false

theorem rows_lt {a b : List Val} (ha : ∀ v ∈ a, okV v) (hb : ∀ v ∈ b, okV v) : rowsF a b < 0 ↔ lessI (keyVs a) (keyVs b) = true := by
  rw [keys_less a b ha hb]; simp
theorem rows_eq0 {a b : List Val} (ha : ∀ v ∈ a, okV v) (hb : ∀ v ∈ b, okV v) : rowsF a b = 0 ↔ keyVs a = keyVs b := by
  constructor
  · intro h; rw [rowsF_zero h]
  · intro h; rw [key_inj ha hb h]; exact rowsF_self _
theorem posB_step {L : List Ent} {k : Nat} {key : List Int} {e : Ent} (h : posB L key = k + posB (L.drop k) key) (he : L[k]? = some e) (hl : lessI (kE e) key = true) : posB L key = (k + 1) + posB (L.drop (k + 1)) key := by
  have hd : L.drop k = e :: L.drop (k + 1) := List.drop_eq_getElem?_toList_append.trans (by rw [he]; rfl)
  rw [hd] at h
  rw [posB, if_pos hl] at h
  omega
theorem posB_stop {L : List Ent} {k : Nat} {key : List Int} {e : Ent} (h : posB L key = k + posB (L.drop k) key) (he : L[k]? = some e) (hl : ¬ lessI (kE e) key = true) : posB L key = k := by
  have hd : L.drop k = e :: L.drop (k + 1) := List.drop_eq_getElem?_toList_append.trans (by rw [he]; rfl)
  rw [hd] at h
  rw [posB, if_neg hl] at h
  omega
theorem posB_end {L : List Ent} {k : Nat} {key : List Int} (h : posB L key = k + posB (L.drop k) key) (hk : L.length ≤ k) : posB L key = k := by
  rw [List.drop_eq_nil_of_le hk] at h
  exact h
theorem hitB_is {L : List Ent} {key : List Int} {e : Ent} (he : L[posB L key]? = some e) : hitB L key = decide (kE e = key) := by
  unfold hitB; rw [he]
theorem hitB_end {L : List Ent} {key : List Int} (hk : L.length ≤ posB L key) : hitB L key = false := by
  unfold hitB; rw [List.getElem?_eq_none hk]
theorem cntB_is {L : List Ent} {key : List Int} {e : Ent} (he : L[posB L key]? = some e) (hh : hitB L key = true) : cntB L key = e.2 := by
  rw [hitB_is he] at hh
  unfold cntB
  rw [he]
  exact if_pos (of_decide_eq_true hh)
theorem hitB_lt {L : List Ent} {key : List Int} (hh : hitB L key = true) : posB L key < L.length := by
  obtain ⟨e, he, _⟩ := hit_at hh
  exact (List.getElem?_eq_some_iff.1 he).1
theorem map_get {S : List EntD} {k : Nat} (h : k < S.length) : (S.map entOf)[k]? = some (entOf (S.getD k noE)) := by
  rw [List.getElem?_map, List.getElem?_eq_getElem h, List.getD_eq_getElem?_getD, List.getElem?_eq_getElem h]
  rfl
/-- what Add makes of the entries -/
def putS (S : List EntD) (x : EntD) : List EntD := S.take (posB (S.map entOf) (keyVs x.rv)) ++ (if x.n = 0 then [] else [x]) ++ S.drop (posB (S.map entOf) (keyVs x.rv) + (hitB (S.map entOf) (keyVs x.rv)).toNat)
theorem putS_map (S : List EntD) (x : EntD) : (putS S x).map entOf = putB (S.map entOf) x.rv x.n := by
  unfold putS putB
  rw [List.map_append, List.map_append, List.map_take, List.map_drop]
  congr 2
  by_cases h : x.n = 0
  · rw [if_pos h, if_pos h]; rfl
  · rw [if_neg h, if_neg h]; rfl
theorem putS_length (S : List EntD) (x : EntD) : (putS S x).length ≤ S.length + 1 := by
  unfold putS
  rw [List.length_append, List.length_append, List.length_take, List.length_drop]
  split <;> simp <;> omega
theorem putS_mem {S : List EntD} {x y : EntD} (h : y ∈ putS S x) : y ∈ S ∨ y = x := by
  unfold putS at h
  rcases List.mem_append.1 h with h | h
  · rcases List.mem_append.1 h with h | h
    · exact .inl (List.mem_of_mem_take h)
    · split at h
      · cases h
      · exact .inr (List.mem_singleton.1 h)
  · exact .inl (List.mem_of_mem_drop h)
end Go.Proofs.Ytplgkblahmndoaa
namespace Go.Proofs.Ytplgkblahmndoaa
open Go.RowKit
set_option linter.unusedVariables false
set_option maxRecDepth 100000

/-- a sum, or none -/
def sumV (r : Int) : Int := if in64 r then r else 0
def sumE (r : Int) : Ending := .returned (.tuple #[.int .i64 (sumV r), .bool (decide (in64 r))])
theorem sumE_yes {r : Int} (h : in64 r) : Ending.returned (.tuple #[.int .i64 (wrap64 r), .bool true]) = sumE r := by
  unfold sumE sumV
  rw [decide_eq_true h, if_pos h, IntWalk.wrap64_in r h]
theorem sumE_no {r : Int} (h : ¬ in64 r) : Ending.returned (.tuple #[.int .i64 0, .bool false]) = sumE r := by
  unfold sumE sumV
  rw [decide_eq_false h, if_neg h]
theorem bP1 {a b : Int} (ha : in64 a) (hb : in64 b) (h : 0 < b) (h2 : wrap64 (9223372036854775807 - b) < a) : Ending.returned (.tuple #[.int .i64 0, .bool false]) = sumE (a + b) :=
  sumE_no (by unfold in64 at *; rw [IntWalk.wrap64_in _ (by omega)] at h2; omega)
theorem bP2 {a b : Int} (ha : in64 a) (hb : in64 b) (h : 0 < b) (h2 : a ≤ wrap64 (9223372036854775807 - b)) : Ending.returned (.tuple #[.int .i64 (wrap64 (a + b)), .bool true]) = sumE (a + b) :=
  sumE_yes (by unfold in64 at *; rw [IntWalk.wrap64_in _ (by omega)] at h2; omega)
theorem bP3 {a b : Int} (ha : in64 a) (hb : in64 b) (h : b < 0) (h2 : a < wrap64 (-9223372036854775808 - b)) : Ending.returned (.tuple #[.int .i64 0, .bool false]) = sumE (a + b) :=
  sumE_no (by unfold in64 at *; rw [IntWalk.wrap64_in _ (by omega)] at h2; omega)
theorem bP4 {a b : Int} (ha : in64 a) (hb : in64 b) (h : b < 0) (h2 : wrap64 (-9223372036854775808 - b) ≤ a) : Ending.returned (.tuple #[.int .i64 (wrap64 (a + b)), .bool true]) = sumE (a + b) :=
  sumE_yes (by unfold in64 at *; rw [IntWalk.wrap64_in _ (by omega)] at h2; omega)
theorem bP5 {a b : Int} (ha : in64 a) (h : 0 ≤ b) (h2 : b ≤ 0) : Ending.returned (.tuple #[.int .i64 (wrap64 (a + b)), .bool true]) = sumE (a + b) :=
  sumE_yes (by unfold in64 at *; omega)
theorem dplus_any (a b : Int) (ha : Hid (in64 a)) (hb : Hid (in64 b)) (w : World) : Calls Try.prog 114 #[.int .i64 a, .int .i64 b] w fun e w' => e = sumE (a + b) ∧ w = w' := by
  go_enter Try.func114, Try.ntmps114
  go_wp2
  all_goals go_ret2
  all_goals first
    | exact ⟨bP1 ha.out hb.out (by assumption) (by assumption), rfl⟩
    | exact ⟨bP2 ha.out hb.out (by assumption) (by assumption), rfl⟩
    | exact ⟨bP3 ha.out hb.out (by assumption) (by assumption), rfl⟩
    | exact ⟨bP4 ha.out hb.out (by assumption) (by assumption), rfl⟩
    | exact ⟨bP5 ha.out (by assumption) (by assumption), rfl⟩
end Go.Proofs.Ytplgkblahmndoaa
