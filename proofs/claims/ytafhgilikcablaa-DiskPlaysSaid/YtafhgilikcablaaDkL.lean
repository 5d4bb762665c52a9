/- A disk's New, Left, Unsynced. -/
import Derived.Test.YtafhgilikcablaaDkPw
import Derived.Lib.MinMaxS
import Derived.StillTailTactics
namespace Go.Proofs.Ytafhgilikcablaa
open Go.RowKit Go.Maps
set_option linter.unusedVariables false
set_option maxRecDepth 100000

/-- so many sectors -/
def nKeys (L : List Lit) : Nat := (L.foldl addKey []).length
set_option maxHeartbeats 800000 in
theorem dnewB (w : World) : Calls Try.prog 10 #[.int .i64 1073741824] w fun e w' => e = .returned (.pointer (some ⟨w.heap.size, 0, none⟩)) ∧
    w' = w.alloc (.cells #[.slice none 0 0, .slice none 0 0, .map none, .slice none 0 0, .slice none 0 0, .map none, .int .i64 1073741824, .bool false, .int .i64 0, .bool false] 94) := by
  go_enter Try.func10, Try.ntmps10
  go_wp2
  go_ret
  exact ⟨rfl, rfl⟩
theorem map_len {w : World} {B : Nat} {zs : List Int} {L : List Lit} {v m : Value} (h : FSt w B zs L v m) (hk : ∀ k ∈ L, WideAt.IsKeyLit k) (ty : TypeId) : (Builtin.len_ #[89] ty #[m]).run Try.prog w = .ok (.int .i64 (nKeys L : Int)) w := by
  rcases h.mp with ⟨rfl, rfl⟩ | ⟨M, rfl, _, hs⟩
  · exact Maps.len_nil Try.underlying89 ty
  · have := World.ownsMap.len hs Try.underlying89 ty
    rw [Maps.size_setOf _ _ hk] at this
    exact this
theorem addKeys_len : ∀ (L A : List Lit), (L.foldl addKey A).length ≤ A.length + L.length
  | [], A => by simp
  | k :: L, A => by
    have := addKeys_len L (addKey A k)
    have h : (addKey A k).length ≤ A.length + 1 := by unfold addKey; split <;> simp
    simp only [List.foldl_cons, List.length_cons]
    omega
set_option maxHeartbeats 1600000 in
theorem pleft {w : World} {D E B : Nat} {x y : Hold} (h : Pair w D E B x y) (hx : x.few 1000000) : Calls Try.prog 41 #[.pointer (some ⟨D, 0, none⟩)] w fun e w' => e = .returned (.int .i64 (1073741824 - (x.z0.length : Int) - (x.z1.length : Int))) ∧ ∃ n, w' = w.drewN n := by
  obtain ⟨hne, v0, s0, m0, v1, s1, m1, u0, t0, n0, u1, t1, n1, d, e, r⟩ := h
  obtain ⟨a0, c0, hv0⟩ := size_of d.f0
  obtain ⟨a1, c1, hv1⟩ := size_of d.f1
  obtain ⟨hx0, hx1, _, _⟩ := hx
  have d0 : w.cell? ⟨D, 0, none⟩ = some (.slice a0 x.z0.length c0) := by rw [cell_of_row w D 0 _ _ _ d.box]; simpa using hv0
  have d3 : w.cell? ⟨D, 3, none⟩ = some (.slice a1 x.z1.length c1) := by rw [cell_of_row w D 3 _ _ _ d.box]; simpa using hv1
  have d6 : w.cell? ⟨D, 6, none⟩ = some (.int .i64 1073741824) := by rw [cell_of_row w D 6 _ _ _ d.box]; rfl
  obtain ⟨p, hp⟩ : ∃ p, p = x.z0.length := ⟨_, rfl⟩
  obtain ⟨q, hq⟩ : ∃ q, q = x.z1.length := ⟨_, rfl⟩
  rw [← hp] at d0 hx0 ⊢
  rw [← hq] at d3 hx1 ⊢
  clear hp hq hv0 hv1 r d e hne
  have k0 := fun n => Calls.quiet_of_same (size0 D a0 p c0 (w.drewN n) d0)
  have k1 := fun n => Calls.quiet_of_same (size1 D a1 q c1 (w.drewN n) d3)
  have d6n : ∀ n, (w.drewN n).cell? ⟨D, 6, none⟩ = some (.int .i64 1073741824) := fun n => d6
  have e1 : IntKind.i64.wrap (1073741824 - (p : Int)) = 1073741824 - (p : Int) := by rw [IntKind.wrap_i64]; omega
  have e2 : IntKind.i64.wrap (1073741824 - (p : Int) - (q : Int)) = 1073741824 - (p : Int) - (q : Int) := by rw [IntKind.wrap_i64]; omega
  have e3 : decide ((0 : Int) < 1073741824 - (p : Int) - (q : Int)) = true := decide_eq_true (by omega)
  have e4 : decide (1073741824 - (p : Int) - (q : Int) < 0) = false := decide_eq_false (by omega)
  go_enter Try.func41, Try.ntmps41
  go_wp2_with fail
  go_quiet ((go_at_call 40; with_reducible first | exact k0 _ | exact k1 _))
  have e5 : max (0 : Int) (1073741824 - (p : Int) - (q : Int)) = 1073741824 - (p : Int) - (q : Int) := by omega
  rw [e5]
  clear e1 e2 e3 e4 e5
  go_wp2
  go_ret
  exact ⟨rfl, _, rfl⟩
set_option maxHeartbeats 1600000 in
theorem punsynced {w : World} {D E B : Nat} {x y : Hold} (h : Pair w D E B x y) (hx : x.few 1000000) (hk : x.keys) : Calls Try.prog 56 #[.pointer (some ⟨D, 0, none⟩)] w fun e w' => e = .returned (.int .i64 ((nKeys x.L0 : Int) + (nKeys x.L1 : Int))) ∧ ∃ n, w' = w.drewN n := by
  obtain ⟨hne, v0, s0, m0, v1, s1, m1, u0, t0, n0, u1, t1, n1, d, e, r⟩ := h
  obtain ⟨hk0, hk1⟩ := hk
  obtain ⟨_, _, hx2, hx3⟩ := hx
  have d2 : w.cell? ⟨D, 2, none⟩ = some m0 := by rw [cell_of_row w D 2 _ _ _ d.box]; rfl
  have d5 : w.cell? ⟨D, 5, none⟩ = some m1 := by rw [cell_of_row w D 5 _ _ _ d.box]; rfl
  have d2n : ∀ n, (w.drewN n).cell? ⟨D, 2, none⟩ = some m0 := fun n => d2
  have d5n : ∀ n, (w.drewN n).cell? ⟨D, 5, none⟩ = some m1 := fun n => d5
  have l0 : ∀ n ty, (Builtin.len_ #[89] ty #[m0]).run Try.prog (w.drewN n) = .ok (.int .i64 (nKeys x.L0 : Int)) (w.drewN n) := fun n ty => map_len (dst_draw d n).f0 hk0 ty
  have l1 : ∀ n ty, (Builtin.len_ #[89] ty #[m1]).run Try.prog (w.drewN n) = .ok (.int .i64 (nKeys x.L1 : Int)) (w.drewN n) := fun n ty => map_len (dst_draw d n).f1 hk1 ty
  have b0 : nKeys x.L0 ≤ 1000000 := Nat.le_trans (addKeys_len _ []) (by simpa using hx2)
  have b1 : nKeys x.L1 ≤ 1000000 := Nat.le_trans (addKeys_len _ []) (by simpa using hx3)
  obtain ⟨p, hp⟩ : ∃ p, p = nKeys x.L0 := ⟨_, rfl⟩
  obtain ⟨q, hq⟩ : ∃ q, q = nKeys x.L1 := ⟨_, rfl⟩
  rw [← hp] at b0 l0 ⊢
  rw [← hq] at b1 l1 ⊢
  have e1 : IntKind.i64.wrap ((p : Int) + (q : Int)) = (p : Int) + (q : Int) := by rw [IntKind.wrap_i64]; omega
  clear hp hq r d e hne hk0 hk1 hx2 hx3
  go_enter Try.func56, Try.ntmps56
  go_wp2_with fail
  go_quiet (fail)
  go_wp2
  go_ret
  exact ⟨rfl, _, rfl⟩
end Go.Proofs.Ytafhgilikcablaa
