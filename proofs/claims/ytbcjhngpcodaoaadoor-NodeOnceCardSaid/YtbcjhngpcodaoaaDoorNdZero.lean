/- append of so many noughts onto a row of the call's own, or onto nothing. -/
import Derived.Test.YtbcjhngpcodaoaaDoorApp1
import Derived.Lib.AppendZerosOnto
namespace Go.Proofs.YtbcjhngpcodaoaaDoor
open Go.RowKit
set_option linter.unusedVariables false
set_option maxRecDepth 100000

def nou (k : Nat) : List Int := List.replicate k 0
theorem nou_length (k : Nat) : (nou k).length = k := List.length_replicate
theorem zeroCells_nou (k : Nat) : (Builtin.zeroCells #[Value.int .u8 0] k).toList = (nou k).map (Value.int .u8) := by
  apply List.ext_getElem
  · simp [Builtin.zeroCells, nou]
  · intro i h1 h2
    simp [Builtin.zeroCells, nou, Nat.mod_one]

theorem zeros_room (w : World) (ty : TypeId) (g n cap k : Nat) (cur : Array Value) (hg : w.heap[g]? = some (.cells cur 5 (0, 0))) (hroom : n + k ≤ cap) (hcs : cur.size = cap) (k0 : 0 < k) (hk : k ≤ 1000) :
    (Builtin.append_ #[29, 3] ty #[.slice (some ⟨g, 0, none⟩) n cap, .int .i64 (k : Int)]).run Tryd.prog w =
      .ok (.slice (some ⟨g, 0, none⟩) (n + k) cap) (w.setRow g (cur.toList.take n ++ (nou k).map (Value.int .u8) ++ cur.toList.drop (n + k)).toArray) := by
  obtain ⟨i0, hi, hz0, hz1, hz2⟩ := info_parts info5
  have hst := run_storeCells_at Tryd.prog g n 5 ((nou k).map (Value.int .u8)) 0 cur w hg (by simp [nou_length]; omega) (by intro u hu; obtain ⟨_, _, rfl⟩ := List.mem_map.1 hu; rfl)
  simp only [Nat.add_zero, List.length_map, nou_length] at hst
  have hw : IntKind.i64.wrap (k : Int) = k := by rw [IntKind.wrap_i64]; omega
  have hneg : ¬ ((k : Int) < 0) := by omega
  have h48i : ¬ (281474976710656 < (k : Int)) := by omega
  have hk0 : k ≠ 0 := by omega
  have hzc : (Builtin.zeroCells (Value.int .u8 0).cells k).toList = (nou k).map (Value.int .u8) := zeroCells_nou k
  simp [Builtin.append_, run_underlying Tryd.underlying29, run_underlying Tryd.underlying3, sizeOf, typeInfo, zeroValue, hi, hz0, hz1, hz2, asInt, asIntOf, hw, hneg, h48i, hk0, hroom, Addr.add_lit, hzc, hst, -List.append_assoc]

theorem zeros_none (w : World) (ty : TypeId) (v : Value) (a : Option Addr) (n cap : Nat) (hv : v = .slice a n cap) (hle : n ≤ cap) : (Builtin.append_ #[29, 3] ty #[v, .int .i64 0]).run Tryd.prog w = .ok v w := by
  subst hv
  obtain ⟨i0, hi, hz0, hz1, hz2⟩ := info_parts info5
  have hw : IntKind.i64.wrap 0 = 0 := by decide
  simp [Builtin.append_, run_underlying Tryd.underlying29, run_underlying Tryd.underlying3, sizeOf, typeInfo, zeroValue, hi, hz0, hz1, hz2, asInt, asIntOf, hw, hle]
  cases a with
  | none => rfl
  | some x => simp [storeCells]

theorem run_zeros_any (w : World) (B : Nat) (ty : TypeId) (v : Value) (zs : List Int) (k : Nat) (hown : w.ownsRow B 5 1 v zs.length (zs.map (Value.int .u8))) (hk : k ≤ 1000) (hl : zs.length ≤ 1000) (hB : B ≤ w.heap.size) :
    ∃ v' w', (Builtin.append_ #[29, 3] ty #[v, .int .i64 (k : Int)]).run Tryd.prog w = .ok v' w' ∧ w'.ownsRow B 5 1 v' (zs ++ nou k).length ((zs ++ nou k).map (Value.int .u8)) ∧ w.grownBy w' v.ownBlock := by
  obtain ⟨i0, hi, hz0, hz1, hz2⟩ := info_parts info5
  have hlen : (zs ++ nou k).length = zs.length + k := by rw [List.length_append, nou_length]
  rw [hlen]
  by_cases k0 : k = 0
  · subst k0
    have h1 : ∃ a n cap, v = .slice a n cap ∧ n ≤ cap := by
      rcases hown.2 with ⟨h, _⟩ | ⟨g, cap, cur, rfl, hbg, hg, hnc, hcm, hcs, htake⟩
      · exact ⟨_, _, _, h, Nat.le_refl _⟩
      · exact ⟨_, _, _, rfl, hnc⟩
    obtain ⟨a, n, cap, h1, h2⟩ := h1
    refine ⟨v, w, zeros_none w ty v a n cap h1 h2, by simpa [nou] using hown, World.grownBy.refl w _⟩
  have k0 : 0 < k := by omega
  rcases hown.2 with ⟨rfl, h⟩ | ⟨g, cap, cur, rfl, hbg, hg, hnc, hcm, hcs, htake⟩
  · have hz := List.eq_nil_of_length_eq_zero h
    subst hz
    have hr := Lib.run_append_nil_zeros (P := Tryd.prog) w 29 3 ty 5 i0 (.int .u8 0) .i64 .i64 Tryd.underlying29 Tryd.underlying3 hi hz0 k k0 (by omega) (by omega) (by rw [hz2]; omega)
    have hge := grownCap_ge w k 0 5
    have hcm' := grownCap_le_maxLen w k 0 5 (by unfold maxLen; omega)
    refine ⟨_, _, hr, ⟨by simp [nou_length], .inr ⟨w.heap.size, _, _, by simp, hB, heap_alloc_new w.drew _, by simpa using hge, hcm', ?_, ?_⟩⟩, grown_alloc (grown_drew (World.grownBy.refl w _)) _⟩
    · simp [size_zeroCells, show (Value.int .u8 0).cells.size = 1 from rfl]; omega
    · have hzc : (Builtin.zeroCells (Value.int .u8 0).cells k).toList = (nou k).map (Value.int .u8) := zeroCells_nou k
      rw [Array.toList_append, hzc, Nat.mul_one]
      simp only [List.nil_append, List.length_nil, Nat.zero_add]
      exact List.take_left' (by simp [nou_length])
  rw [Nat.mul_one] at hcs htake
  by_cases hroom : zs.length + k ≤ cap
  · refine ⟨_, _, zeros_room w ty g zs.length cap k cur hg hroom hcs k0 hk, ⟨by simp [nou_length], .inr ⟨g, cap, _, rfl, hbg, setRow_heap w g cur _ 5 _ hg, hroom, hcm, ?_, ?_⟩⟩, ⟨rfl, rfl, rfl, by simp, fun j _ hj => setRow_other w g j _ (fun e => hj (by simp [Value.ownBlock, e]))⟩⟩
    · simp [nou_length, hcs]; omega
    · rw [htake, Nat.mul_one, ← List.map_append]
      exact List.take_left' (by simp [nou_length])
  · have holds := run_firstCells_some (P := Tryd.prog) w.drew i0.size zs.length ⟨g, 0, none⟩ zs.length cap (zs.map (Value.int .u8)) (by rw [hz1]; simp) (fun j u hu => hown.cells (g := g) rfl j u hu)
    have hr := Lib.run_append_grow_zeros (P := Tryd.prog) w 29 3 ty 5 i0 (.int .u8 0) .i64 .i64 Tryd.underlying29 Tryd.underlying3 hi hz0 (some ⟨g, 0, none⟩) zs.length cap (zs.map (Value.int .u8)) holds k k0 (by omega) (by omega) (by omega) (by rw [hz2]; omega) (growslice_fits (by omega) (by rw [hz2]; omega))
    have hge := grownCap_ge w (zs.length + k) cap 5
    have hcm' := grownCap_le_maxLen w (zs.length + k) cap 5 (by unfold maxLen; omega)
    refine ⟨_, _, hr, ⟨by simp [nou_length], .inr ⟨w.heap.size, _, _, rfl, hB, heap_alloc_new w.drew _, hge, hcm', ?_, ?_⟩⟩, grown_alloc (grown_drew (World.grownBy.refl w _)) _⟩
    · simp [size_zeroCells, show (Value.int .u8 0).cells.size = 1 from rfl]; omega
    · have hzc : (Builtin.zeroCells (Value.int .u8 0).cells k).toList = (nou k).map (Value.int .u8) := zeroCells_nou k
      rw [Array.toList_append, Array.toList_append, hzc, ← List.map_append, Nat.mul_one]
      exact List.take_left' (by simp [nou_length])
end Go.Proofs.YtbcjhngpcodaoaaDoor
