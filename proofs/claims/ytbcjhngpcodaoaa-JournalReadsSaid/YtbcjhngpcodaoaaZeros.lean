/- append of so many noughts onto a row of the call's own. -/
import Derived.Test.YtbcjhngpcodaoaaBeFull
import Derived.Lib.AppendZerosOnto
namespace Go.Proofs.Ytbcjhngpcodaoaa
open Go.RowKit
set_option linter.unusedVariables false
set_option maxRecDepth 100000

theorem zeroCells_noughts (k : Nat) : (Builtin.zeroCells #[Value.int .u8 0] k).toList = (noughts k).map (Value.int .u8) := by
  have : Builtin.zeroCells #[Value.int .u8 0] k = madeCells #[Value.int .u8 0] k := by simp [Builtin.zeroCells, madeCells]
  rw [this, made_noughts]

theorem zeros_room (w : World) (ty : TypeId) (g n cap k : Nat) (cur : Array Value) (hg : w.heap[g]? = some (.cells cur 5 (0, 0))) (hroom : n + k ≤ cap) (hcs : cur.size = cap) (k0 : 0 < k) (hk : k ≤ 1000) :
    (Builtin.append_ #[26, 3] ty #[.slice (some ⟨g, 0, none⟩) n cap, .int .i64 (k : Int)]).run Try.prog w =
      .ok (.slice (some ⟨g, 0, none⟩) (n + k) cap) (w.setRow g (cur.toList.take n ++ (noughts k).map (Value.int .u8) ++ cur.toList.drop (n + k)).toArray) := by
  obtain ⟨i0, hi, hz0, hz1, hz2⟩ := info_parts info5
  have hst := run_storeCells_at Try.prog g n 5 ((noughts k).map (Value.int .u8)) 0 cur w hg (by simp [noughts_length]; omega) (by intro u hu; obtain ⟨_, _, rfl⟩ := List.mem_map.1 hu; rfl)
  simp only [Nat.add_zero, List.length_map, noughts_length] at hst
  have hw : IntKind.i64.wrap (k : Int) = k := by rw [IntKind.wrap_i64]; omega
  have hneg : ¬ ((k : Int) < 0) := by omega
  have h48i : ¬ (281474976710656 < (k : Int)) := by omega
  have hk0 : k ≠ 0 := by omega
  have hzc : (Builtin.zeroCells (Value.int .u8 0).cells k).toList = (noughts k).map (Value.int .u8) := zeroCells_noughts k
  simp [Builtin.append_, run_underlying Try.underlying26, run_underlying Try.underlying3, sizeOf, typeInfo, zeroValue, hi, hz0, hz1, hz2, asInt, asIntOf, hw, hneg, h48i, hk0, hroom, Addr.add_lit, hzc, hst, -List.append_assoc]

theorem run_zeros_own (w : World) (B : Nat) (ty : TypeId) (v : Value) (zs : List Int) (k : Nat) (hown : w.ownsRow B 5 1 v zs.length (zs.map (Value.int .u8))) (hz : 0 < zs.length) (k0 : 0 < k) (hk : k ≤ 1000) (hl : zs.length ≤ 1000) (hB : B ≤ w.heap.size) :
    ∃ v' w', (Builtin.append_ #[26, 3] ty #[v, .int .i64 (k : Int)]).run Try.prog w = .ok v' w' ∧ w'.ownsRow B 5 1 v' (zs ++ noughts k).length ((zs ++ noughts k).map (Value.int .u8)) ∧ w.grownBy w' v.ownBlock := by
  obtain ⟨i0, hi, hz0, hz1, hz2⟩ := info_parts info5
  have hlen : (zs ++ noughts k).length = zs.length + k := by rw [List.length_append, noughts_length]
  rw [hlen]
  rcases hown.2 with ⟨_, h⟩ | ⟨g, cap, cur, rfl, hbg, hg, hnc, hcm, hcs, htake⟩
  · omega
  rw [Nat.mul_one] at hcs htake
  by_cases hroom : zs.length + k ≤ cap
  · refine ⟨_, _, zeros_room w ty g zs.length cap k cur hg hroom hcs k0 hk, ⟨by simp [noughts_length], .inr ⟨g, cap, _, rfl, hbg, setRow_heap w g cur _ 5 _ hg, hroom, hcm, ?_, ?_⟩⟩, ⟨rfl, rfl, rfl, by simp, fun j _ hj => setRow_other w g j _ (fun e => hj (by simp [Value.ownBlock, e]))⟩⟩
    · simp [noughts_length, hcs]; omega
    · rw [htake, Nat.mul_one, ← List.map_append]
      exact List.take_left' (by simp [noughts_length])
  · have holds := run_firstCells_some (P := Try.prog) w.drew i0.size zs.length ⟨g, 0, none⟩ zs.length cap (zs.map (Value.int .u8)) (by rw [hz1]; simp) (fun j u hu => hown.cells (g := g) rfl j u hu)
    have hr := Lib.run_append_grow_zeros (P := Try.prog) w 26 3 ty 5 i0 (.int .u8 0) .i64 .i64 Try.underlying26 Try.underlying3 hi hz0 (some ⟨g, 0, none⟩) zs.length cap (zs.map (Value.int .u8)) holds k k0 (by omega) (by omega) (by omega) (by rw [hz2]; omega) (growslice_fits (by omega) (by rw [hz2]; omega))
    have hge := grownCap_ge w (zs.length + k) cap 5
    have hcm' := grownCap_le_maxLen w (zs.length + k) cap 5 (by unfold maxLen; omega)
    refine ⟨_, _, hr, ⟨by simp [noughts_length], .inr ⟨w.heap.size, _, _, rfl, hB, heap_alloc_new w.drew _, hge, hcm', ?_, ?_⟩⟩, grown_alloc (grown_drew (World.grownBy.refl w _)) _⟩
    · simp [size_zeroCells, show (Value.int .u8 0).cells.size = 1 from rfl]; omega
    · have hzc : (Builtin.zeroCells (Value.int .u8 0).cells k).toList = (noughts k).map (Value.int .u8) := zeroCells_noughts k
      rw [Array.toList_append, Array.toList_append, hzc, ← List.map_append, Nat.mul_one]
      exact List.take_left' (by simp [noughts_length])

theorem beN_join (n : Int) : beN (n / 4294967296) 4 ++ beN (n % 4294967296) 4 = beN n 8 := by
  simp only [beN, List.cons_append, List.nil_append]
  congr 1
  · omega
  · congr 1
    · omega
    · congr 1
      · omega
      · congr 1
        · omega
        · congr 1
          · omega
          · congr 1
            · omega
            · congr 1
              · omega
              · congr 1
                omega

theorem four_any (n : Int) (w : World) (h0 : 0 ≤ n) (h1 : n ≤ 4294967295) :
    Calls Try.prog 121 #[.int .u32 n] w fun e w' => e = .returned (.slice (some ⟨w.heap.size, 0, none⟩) 4 4) ∧ w' = w.alloc (.cells ((beN n 4).map (Value.int .u8)).toArray 5) := by
  go_enter Try.func121, Try.ntmps121
  go_wp2
  go_ret
  refine ⟨rfl, ?_⟩
  have e : n / 16777216 % 256 = n / 16777216 := by omega
  simp [beN, e]

/-- what four leaves -/
def FourPost (w : World) (n : Int) (e : Ending) (w' : World) : Prop :=
  ∃ g, e = .returned (.slice (some ⟨g, 0, none⟩) 4 4) ∧ w'.ownsRow w.heap.size 5 1 (.slice (some ⟨g, 0, none⟩) 4 4) 4 ((beN n 4).map (Value.int .u8)) ∧ w.grownBy w' none
theorem four_own (n : Int) (w : World) (h0 : 0 ≤ n) (h1 : n ≤ 4294967295) : Calls Try.prog 121 #[.int .u32 n] w (FourPost w n) := by
  refine (four_any n w h0 h1).mono ?_
  rintro e w' ⟨rfl, rfl⟩
  refine ⟨w.heap.size, rfl, ?_, grown_alloc (World.grownBy.refl w none) _⟩
  exact own_whole (Nat.le_refl _) (by unfold maxLen; omega) (beN_length _ _) (heap_alloc_new w _)
end Go.Proofs.Ytbcjhngpcodaoaa
