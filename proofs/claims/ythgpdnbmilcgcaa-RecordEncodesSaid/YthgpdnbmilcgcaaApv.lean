/- Contract of record's appendValue: onto a row of the call's own, every formed value. -/
import Derived.Test.YthgpdnbmilcgcaaZigW
import Derived.Test.YthgpdnbmilcgcaaFormW
import Derived.Test.YthgpdnbmilcgcaaRecPure
import Derived.Test.YthgpdnbmilcgcaaApp1
import Derived.Deep.RegionHeld3
namespace Go.Proofs.Ythgpdnbmilcgcaa
open Go.RowKit
set_option linter.unusedVariables false

/-- what an appending function leaves: a row of the call's own, with so much more -/
def OwnPost (w : World) (B : Nat) (zs : List Int) (e : Ending) (w' : World) : Prop :=
  ∃ v : Value, e = .returned v ∧ w'.ownsRow B 5 1 v zs.length (zs.map (Value.int .u8)) ∧ Below B w w'

theorem keepHL {w w' : World} {p : Addr} {x : Value} {n : Nat} (h : w.cell? p = some x ∧ n < w.heap.size) (hb : Below w.heap.size w w') : w'.cell? p = some x ∧ n < w'.heap.size :=
  ⟨cell_later hb h.1, Nat.lt_of_lt_of_le h.2 hb.size⟩
theorem ownsRow_len {w : World} {B n : Nat} {v : Value} {xs : List Int} (h : w.ownsRow B 5 1 v n (xs.map (Value.int .u8))) : w.ownsRow B 5 1 v xs.length (xs.map (Value.int .u8)) := by
  have := h.1
  rw [List.length_map, Nat.mul_one] at this
  rw [this]; exact h
theorem keepG {w w' : World} {p : Addr} {x : Value} {n : Nat} {row : Option Nat} (h : w.cell? p = some x ∧ n < w.heap.size) (hg : w.grownBy w' row) (hne : some p.block ≠ row) : w'.cell? p = some x ∧ n < w'.heap.size :=
  ⟨hg.cell h.1 hne, Nat.lt_of_lt_of_le h.2 hg.size⟩
/-- a frame over a step of the call's own -/
theorem grown_below {w W w' : World} {B : Nat} {row : Option Nat} (h : Below B w W) (hg : W.grownBy w' row) (hB : B ≤ w.heap.size) (hr : ∀ k, row = some k → B ≤ k) : Below B w w' := h.grown hg (Nat.le_trans hB h.size) hr

set_option maxHeartbeats 1600000 in
theorem appendValue_int (B : Nat) (v : Value) (zs : List Int) (n : Int) (h0 : -9223372036854775808 ≤ n) (h1 : n ≤ 9223372036854775807) (w : World) (hz : ∀ z ∈ zs, 0 ≤ z ∧ z ≤ 255) (hlen : zs.length ≤ 1000000) (hB : B ≤ w.heap.size)
    (hown : w.ownsRow B 5 1 v zs.length (zs.map (Value.int .u8))) :
    Calls Try.prog 25 #[v, .agg #[.int .i64 1, .int .i64 n, .string ⟨#[]⟩]] w (OwnPost w B (zs ++ encV (1, n, ⟨#[]⟩))) := by
  obtain ⟨i0, hi, hz0, hz1, hz2⟩ := info_parts info5
  have HO := Lib.hid hown
  have HZ := Lib.hid hz
  clear hown hz
  go_enter Try.func25, Try.ntmps25
  go_wp2
  have hlow : ∀ k, v.ownBlock = some k → k < w.heap.size := fun k hk => (HO.out.lt k hk).2
  have HLow := Lib.hid hlow
  clear hlow
  go_region_held3 (fun w' => w'.cell? ⟨w.heap.size, 1, none⟩ = some (.int .i64 n) ∧ w.heap.size < w'.heap.size)
    (first
      | exact ⟨by simp [go_sem], by first | (simp; done) | (simp; omega)⟩
      | exact ⟨(World.cell?_of_block (hgrow.block _ (by simp; try omega) (fun h => absurd (HLow.out _ h.symm) (Nat.lt_irrefl _)))).trans (by simp [go_sem]), by have := hgrow.size; simp at this; omega⟩
      | (refine keepHL ?_ hb; assumption))
    (first
      | (refine step_byte ?a0 (.tmp 9) (.tmp 10) ?a1 B v zs (w.heap.size + 1) 1 ?a2 ?a3 ?a4 ?a5 ?a6 ?a7 ?_; exact rfl; exact rfl; exact rfl; exact rfl; exact (HO.out.alloc _).alloc _; simp [go_sem]; omega; (simp; omega); intro g cap w1 hown2 hgrow hat hlt)
      | (go_at_call 15; refine (vsigned_any (some ⟨g, 0, none⟩) (zs.length + 1) cap (zs ++ [1]) n h0 h1 w1 (own_isB hown2 (by simp) (by intro z hz; rcases List.mem_append.1 hz with h | h; exact HZ.out z h; simp at h; omega)) (fun x _ hx => by cases hx; exact hlt) (by omega) (fun h => by cases h)).mono ?_; rintro e w2 ⟨rfl, hown3, hb⟩))
  go_wp2
  go_ret
  have hBw : Below B w w1 := (((Below.refl B w).alloc hB _).alloc (by simp; omega) _).drew.grown hgrow (by simp; omega) (fun k hk => (HO.out.lt k hk).1)
  have e : zs ++ encV (1, n, ⟨#[]⟩) = (zs ++ [1]) ++ encG (zz n) (groups (zz n)) := by
    unfold encV; rw [if_pos rfl]; simp [enc]
  have hl := enc_length (zz n)
  have hl2 : (zs ++ encV (1, n, ⟨#[]⟩)).length = zs.length + 1 + groups (zz n) := by
    rw [e, List.length_append, List.length_append, show (encG (zz n) (groups (zz n))).length = groups (zz n) from hl]; rfl
  refine ⟨_, rfl, ?_, hBw.trans (hb.mono (Nat.le_trans hB hBw.size))⟩
  rw [hl2, e]
  exact ownsRow_base hown3 (Nat.le_trans hB hBw.size)

set_option maxHeartbeats 1600000 in
theorem appendValue_text (B : Nat) (v : Value) (zs : List Int) (t : ByteArray) (ht : t.size ≤ 100) (w : World) (hz : ∀ z ∈ zs, 0 ≤ z ∧ z ≤ 255) (hlen : zs.length ≤ 1000000) (hB : B ≤ w.heap.size)
    (hown : w.ownsRow B 5 1 v zs.length (zs.map (Value.int .u8))) :
    Calls Try.prog 25 #[v, .agg #[.int .i64 2, .int .i64 0, .string t]] w (OwnPost w B (zs ++ encV (2, 0, t))) := by
  have HO := Lib.hid hown
  have HZ := Lib.hid hz
  have hlow : ∀ k, v.ownBlock = some k → k < w.heap.size := fun k hk => (HO.out.lt k hk).2
  have HLow := Lib.hid hlow
  have t0 : (0 : Int) ≤ (t.size : Int) := by omega
  have t1 : (t.size : Int) ≤ 18446744073709551615 := by omega
  have hg := groups_bd (t.size : Int)
  have hl := enc_length (t.size : Int)
  have HL := Lib.hid hl
  clear hlow hown hz hl
  go_enter Try.func25, Try.ntmps25
  have hw : IntKind.u64.wrap (t.size : Int) = (t.size : Int) := by rw [IntKind.wrap_u64]; omega
  go_wp2
  go_region_held3 (fun w' => w'.cell? ⟨w.heap.size, 2, none⟩ = some (.string t) ∧ w.heap.size < w'.heap.size)
    (first
      | exact ⟨by simp [go_sem], by first | (simp; done) | (simp; omega)⟩
      | (refine keepHL ?_ hb; assumption)
      | (refine keepG ?_ hgrow5 ?_; assumption; (simp only [Value.ownBlock]; have := hgrow.size; simp at this ⊢; omega))
      | exact ⟨(World.cell?_of_block (hgrow.block _ (by simp; try omega) (fun h => absurd (HLow.out _ h.symm) (Nat.lt_irrefl _)))).trans (by simp [go_sem]), by have := hgrow.size; simp at this; omega⟩)
    (first
      | (refine step_byte ?a0 (.tmp 17) (.tmp 18) ?a1 B v zs (w.heap.size + 1) 2 ?a2 ?a3 ?a4 ?a5 ?a6 ?a7 ?_; exact rfl; exact rfl; exact rfl; exact rfl; exact (HO.out.alloc _).alloc _; simp [go_sem]; omega; (simp; omega); intro g cap w1 hown2 hgrow hat hlt)
      | (go_at_call 14; refine (append_any (some ⟨g, 0, none⟩) (zs.length + 1) cap (zs ++ [2]) t.size t0 t1 w1 (own_isB hown2 (by simp) (by intro z hz; rcases List.mem_append.1 hz with h | h; exact HZ.out z h; simp at h; omega)) (fun x _ hx => by cases hx; exact hlt) (by omega) (fun h => by cases h)).mono ?_; rintro e w2 ⟨rfl, hown3, hb⟩; have hown4 := ownsRow_len hown3; clear hown3)
      | (refine step_text ?b0 (.tmp 24) (.tmp 26) ?b1 w1.heap.size (.slice (some ⟨w1.heap.size, 0, none⟩) (zs.length + 1 + groups (t.size : Int)) (zs.length + 1 + groups (t.size : Int))) (zs ++ [2] ++ encG t.size (groups t.size)) t ?b2 ?b3 ?b4 ?b5 ?b6 ?_; exact rfl; exact rfl; exact rfl; exact rfl; exact hown4; (simp; rw [show (encG t.size (groups t.size)).length = groups t.size from HL.out]; omega); exact hb.size; intro v5 w5 hown5 hgrow5))
  go_wp2
  go_ret
  have hBw : Below B w w1 := (((Below.refl B w).alloc hB _).alloc (by simp; omega) _).drew.grown hgrow (by simp; omega) (fun k hk => (HO.out.lt k hk).1)
  have hB2 : Below B w w2 := hBw.trans (hb.mono (Nat.le_trans hB hBw.size))
  have e : zs ++ encV (2, 0, t) = zs ++ [2] ++ encG (t.size : Int) (groups (t.size : Int)) ++ txt t := by
    unfold encV; rw [if_neg (by simp), if_pos rfl]; simp [enc]
  refine ⟨v5, rfl, ?_, hB2.grown hgrow5 (Nat.le_trans hB hB2.size) (fun k hk => by simp [Value.ownBlock] at hk; have := hBw.size; omega)⟩
  rw [e]
  exact ownsRow_base hown5 (Nat.le_trans hB hBw.size)

theorem appendValue_null (B : Nat) (v : Value) (zs : List Int) (w : World) (hlen : zs.length ≤ 1000000) (hB : B ≤ w.heap.size)
    (hown : w.ownsRow B 5 1 v zs.length (zs.map (Value.int .u8))) :
    Calls Try.prog 25 #[v, .agg #[.int .i64 0, .int .i64 0, .string ⟨#[]⟩]] w (OwnPost w B (zs ++ encV noV)) := by
  have HO := Lib.hid hown
  clear hown
  go_enter Try.func25, Try.ntmps25
  go_wp2_with (at_builtin; refine wpList_byte rfl (.tmp 28) (.tmp 29) rfl B v zs (w.heap.size + 1) 0 rfl rfl ((HO.out.alloc _).alloc _) ?c1 ?c2 ?c3 ?_)
  case c1 => simp [go_sem]
  case c2 => omega
  case c3 => simp; omega
  intro g cap w1 hown2 hgrow hat hlt
  have HO2 := Lib.hid hown2
  clear hown2
  go_wp2
  go_ret
  refine ⟨_, rfl, ?_, (((Below.refl B w).alloc hB _).alloc (by simp; omega) _).grown hgrow (by simp; omega) (fun k hk => (HO.out.lt k hk).1)⟩
  have e : encV noV = [0] := rfl
  rw [e, List.length_append]
  rw [List.map_append]
  exact HO2.out

theorem appendValue_any (B : Nat) (v : Value) (zs : List Int) (x : Val) (hx : okV x) (w : World) (hz : ∀ z ∈ zs, 0 ≤ z ∧ z ≤ 255) (hlen : zs.length ≤ 1000000) (hB : B ≤ w.heap.size)
    (hown : w.ownsRow B 5 1 v zs.length (zs.map (Value.int .u8))) :
    Calls Try.prog 25 #[v, .agg #[.int .i64 x.1, .int .i64 x.2.1, .string x.2.2]] w (OwnPost w B (zs ++ encV x)) := by
  obtain ⟨hf, h0, h1⟩ := hx
  rcases formed_cases hf with rfl | ⟨n, rfl⟩ | ⟨t, rfl, ht⟩
  · exact appendValue_null B v zs w hlen hB hown
  · exact appendValue_int B v zs n h0 h1 w hz hlen hB hown
  · exact appendValue_text B v zs t ht w hz hlen hB hown
end Go.Proofs.Ythgpdnbmilcgcaa
