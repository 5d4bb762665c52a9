/- Contract of Append: every slice of bytes (of at most 2^47 bytes), every number. -/
import Derived.Test.YtbcjhngpcodaoaaDoorBytes
import Derived.Test.YtbcjhngpcodaoaaDoorAppPure
import Derived.Test.YtbcjhngpcodaoaaDoorLen
import Derived.OwnWalk
namespace Go.Proofs.YtbcjhngpcodaoaaDoor
open Go.RowKit
set_option linter.unusedVariables false
theorem len64 (n : Int) (w : World) (h0 : 0 ≤ n) (h1 : n ≤ 18446744073709551615) :
    Calls Tryd.prog 53 #[.int .u64 n] w fun e w' => e = .returned (.int .i64 (Lib.bitLen n.toNat)) ∧ w = w' := (Tryd.bits_Len64 n w h0 h1).mono fun _ _ h => ⟨h.1, h.2.symm⟩

/-- what Append leaves: a row of its own -/
def AppPost (w : World) (B len : Nat) (zs : List Int) (n : Int) (G : Nat) (e : Ending) (w' : World) : Prop :=
  e = .returned (.slice (some ⟨B, 0, none⟩) (len + G) (len + G)) ∧
  w'.ownsRow B 5 1 (.slice (some ⟨B, 0, none⟩) (len + G) (len + G)) (len + G) ((zs ++ encG n G).map (Value.int .u8)) ∧ Below w.heap.size w w'

set_option maxHeartbeats 1600000 in
theorem append_core (a : Option Addr) (len cap : Nat) (zs : List Int) (n : Int) (h0 : 0 ≤ n) (h1 : n ≤ 18446744073709551615) (w : World) (h : IsB w a len zs) (ha : ∀ x, len ≠ 0 → a = some x → x.block < w.heap.size) (hlen : len ≤ 140737488355328) (hn : a = none → len = 0 ∧ cap = 0)
    (G : Nat) (hbl : Lib.bitLen n.toNat ≤ 64) (HG : max 1 (((Lib.bitLen n.toNat : Int) + 6) / 7) = (G : Int)) (hG : 1 ≤ G) (hG2 : G ≤ 10) :
    Calls Tryd.prog 36 #[.slice a len cap, .int .u64 n] w (AppPost w w.heap.size len zs n G) := by
  obtain ⟨i0, hi, hz0, hz1, hz2⟩ := info_parts info5
  have H := Lib.hid h
  have HA := Lib.hid ha
  have HN := Lib.hid hn
  have HL := Lib.hid h.1
  clear h ha hn
  go_enter Tryd.func36, Tryd.ntmps36
  go_wp2_with fail
  refine (len64 n _ h0 h1).mono ?_
  rintro e w' ⟨rfl, rfl⟩
  go_wp2_with (at_make; refine wpList_make_own _ rfl _ _ 29 rfl w.heap.size 5 i0 (.int .u8 0) 1 Tryd.underlying29 hi hz0 hz1 _ _ _ (len + G) rfl rfl (by omega) ?b2 ?b3 (Nat.le_refl _) ?_)
  case b2 => rw [hz2]; omega
  case b3 => unfold maxLen; omega
  intro w1 hown1 hgrow1
  have hb1 : Below w.heap.size w w1 := (Below.refl _ _).grown hgrow1 (Nat.le_refl _) (fun k hk => by cases hk)
  have H1 := Lib.hid (H.out.below hb1 HA.out)
  go_wp2_with (at_builtin; refine wpList_append_fits_any _ rfl _ _ 29 rfl w.heap.size 5 i0 1 Tryd.underlying29 hi hz1 w.heap.size 0 (len + G) [] rfl hown1 a len cap (zs.map (Value.int .u8)) rfl ?c1 ?c2 ?c3 ?c4 ?c5 ?_)
  case c1 => simp [HL.out]
  case c2 => exact HN.out
  case c3 => exact H1.out.cells
  case c4 => intro u hu; obtain ⟨x, _, rfl⟩ := List.mem_map.1 hu; rfl
  case c5 => omega
  intro w2 hown2 hgrow2
  have hb2 : Below w.heap.size w w2 := hb1.grown hgrow2 hb1.size (fun k hk => by cases hk; exact Nat.le_refl _)
  have HO2 := Lib.hid hown2
  clear hown1 hown2 hgrow1 hgrow2 hb1 H1
  go_wp2_with fail
  go_loopw [6, 7] (fun v i wr => ∃ j c : Nat, Hid (c + j + 1 = G) ∧ i = .int .i64 j ∧ v = .slice (some ⟨w.heap.size, 0, none⟩) (len + c) (len + G) ∧ Hid (wr.ownsRow w.heap.size 5 1 (.slice (some ⟨w.heap.size, 0, none⟩) (len + c) (len + G)) (len + c) ((zs ++ digs n (G - 1) c).map (Value.int .u8))) ∧ Below w.heap.size w wr) (fun _ i _ => (intOf i).toNat)
  case atStart => exact ⟨G - 1, 0, Lib.hid (by omega), by go_num, rfl, Lib.hid (by simpa [digs] using HO2.out), hb2⟩
  case round =>
    obtain ⟨j, c, HJ, rfl, rfl, hown, hb⟩ := hrel
    have hcG : c < G := by have := HJ.out; omega
    by_cases hj : 0 < j
    · have hj9 : (j : Int) ≤ 9 := by have := HJ.out; omega
      have hj0 : (0 : Int) < (j : Int) := by omega
      go_wp2_with (at_builtin; refine wpList_append_fits _ rfl _ _ 29 rfl w.heap.size 5 i0 1 Tryd.underlying29 hi hz1 w.heap.size (len + c) (len + G) ((zs ++ digs n (G - 1) c).map (Value.int .u8)) rfl (hown.out.alloc _) ⟨wr.heap.size, 0, none⟩ 1 1 [.int .u8 (bits .or .u8 128 (n / 2 ^ (7 * j) % 256))] rfl rfl ?c1 ?c2 ?c3 ?_)
      case c1 => exact cell_one_new _ _ _
      case c2 => intro u hu; simp at hu; subst hu; rfl
      case c3 => omega
      intro w3 hown3 hgrow3
      rw [rel_dig h0 HJ.out] at hown3
      have hb3 : Below w.heap.size w w3 := (bel0 _ hb).grown hgrow3 (by have := hb.size; simp; omega) (fun k hk => by cases hk; exact Nat.le_refl _)
      have HO3 := Lib.hid hown3
      clear hown hown3 hgrow3 hb
      go_wp2
      go_roundw
      case rel => exact ⟨j - 1, c + 1, Lib.hid (by have := HJ.out; omega), by go_num, by rfl, HO3, hb3⟩
      case measure => simp [intOf]; omega
    · obtain rfl : j = 0 := by omega
      go_wp2_with (at_builtin; refine wpList_append_fits _ rfl _ _ 29 rfl w.heap.size 5 i0 1 Tryd.underlying29 hi hz1 w.heap.size (len + c) (len + G) ((zs ++ digs n (G - 1) c).map (Value.int .u8)) rfl (hown.out.alloc _) ⟨wr.heap.size, 0, none⟩ 1 1 [.int .u8 (bits .and .u8 (n % 256) 127)] rfl rfl ?c1 ?c2 ?c3 ?_)
      case c1 => exact cell_one_new _ _ _
      case c2 => intro u hu; simp at hu; subst hu; rfl
      case c3 => omega
      intro w3 hown3 hgrow3
      rw [rel_end h0 HJ.out] at hown3
      have hb3 : Below w.heap.size w w3 := (bel0 _ hb).grown hgrow3 (by have := hb.size; simp; omega) (fun k hk => by cases hk; exact Nat.le_refl _)
      have HO3 := Lib.hid hown3
      clear hown hown3 hgrow3 hb
      go_wp2
      go_ret
      have he : len + c + 1 = len + G := by have := HJ.out; omega
      rw [he]
      have := HO3.out
      rw [he] at this
      exact ⟨rfl, this, hb3⟩

theorem append_any (a : Option Addr) (len cap : Nat) (zs : List Int) (n : Int) (h0 : 0 ≤ n) (h1 : n ≤ 18446744073709551615) (w : World) (h : IsB w a len zs) (ha : ∀ x, len ≠ 0 → a = some x → x.block < w.heap.size) (hlen : len ≤ 140737488355328) (hn : a = none → len = 0 ∧ cap = 0) :
    Calls Tryd.prog 36 #[.slice a len cap, .int .u64 n] w (AppPost w w.heap.size len zs n (groups n)) :=
  append_core a len cap zs n h0 h1 w h ha hlen hn (groups n) (bitLen_le _) (groups_cast n) (groups_bd n).1 (groups_bd n).2
end Go.Proofs.YtbcjhngpcodaoaaDoor
