/- Contract of a disk's Read. (Written by gendprd.py.) -/
import Derived.Test.YtafhgilikcablaaDpCh
import Derived.Test.YtafhgilikcablaaDkR
import Derived.Test.YtafhgilikcablaaDkC
namespace Go.Proofs.Ytafhgilikcablaa
open Go.RowKit
set_option linter.unusedVariables false
set_option maxRecDepth 100000

set_option maxHeartbeats 1600000 in
theorem preadat0 (w : World) (D B : Nat) (a0 : Option Addr) (c0 at_ n : Nat) (zs : List Int) (hd : w.cell? ⟨D, 0, none⟩ = some (.slice a0 zs.length c0)) (hdn : w.cell? ⟨D, 9, none⟩ = some (.bool false))
    (ho : w.ownsRow B 5 1 (.slice a0 zs.length c0) zs.length (zs.map (Value.int .u8))) (hr : ∀ z ∈ zs, 0 ≤ z ∧ z ≤ 255) (hl : zs.length ≤ 1000000) (hn : at_ + n ≤ zs.length) :
    Calls Try.prog 51 #[.pointer (some ⟨D, 0, none⟩), .int .i64 0, .int .i64 (at_ : Int), .int .i64 (n : Int)] w fun e w' => ∃ v, e = .returned (.tuple #[v, .int .i64 0]) ∧ w'.ownsRow w.heap.size 5 1 v n (((zs.drop at_).take n).map (Value.int .u8)) ∧ Below w.heap.size w w' := by
  obtain ⟨a, L, c, he, hL, hI, hlo, hni, hle, _⟩ := own_any ho hr
  cases he
  obtain ⟨q, hq⟩ : ∃ q, q = at_ + n := ⟨_, rfl⟩
  have hIb := isB_take (k := q - at_) (isB_off (cap := c0) (k := at_) hI (by omega) hle) (by omega)
  have e1 : q - at_ = n := by omega
  rw [e1] at hIb
  have HI := Lib.hid hIb
  have HN := Lib.hid (show offA a0 c0 at_ = none → n = 0 ∧ c0 - at_ = 0 from fun h => by have := offA_nil (cap := c0) (k := at_) hni h; omega)
  have hsl := slice_lh a0 zs.length c0 at_ q (by omega) (by omega) .i64 .i64
  rw [e1] at hsl
  have hqi : (q : Int) = (at_ : Int) + (n : Int) := by omega
  simp only [hqi] at hsl
  have hw1 : wrap64 ((at_ : Int) + (n : Int)) = (at_ : Int) + (n : Int) := by unfold wrap64; omega
  have hw2 : wrap64 ((zs.length : Int) - (at_ : Int)) = (zs.length : Int) - (at_ : Int) := by unfold wrap64; omega
  have i1 : (0 : Int) ≤ (at_ : Int) := by omega
  have i2 : (0 : Int) ≤ (n : Int) := by omega
  have i3 : (at_ : Int) ≤ (zs.length : Int) := by omega
  have i4 : (n : Int) ≤ (zs.length : Int) - (at_ : Int) := by omega
  have HL := Lib.hid (show ((zs.drop at_).take n).length = n by rw [List.length_take, List.length_drop]; omega)
  have HM := Lib.hid (show min n (zs.length - at_) = n by omega)
  have HN1 := Lib.hid (show n ≤ 1000000 by omega)
  clear ho hI hlo hni hIb hqi hq e1 hn hle
  go_enter Try.func51, Try.ntmps51
  go_wp2_with fail
  refine (ready_ok D 0 (.inl rfl) _ hdn).mono ?_
  rintro e w1 ⟨rfl, hw⟩
  subst hw
  go_wp2_with (at_builtin; refine wpList_slice rfl (.const (.slice none 0 0)) (.tmp 50) rfl w1.heap.size (.slice none 0 0) [] (offA a0 c0 at_) n (c0 - at_) ((zs.drop at_).take n) rfl rfl (World.ownsRow_nil _ _ _ _) HI.out HN.out (by have := HN1.out; show 0 + n ≤ _; omega) (Nat.le_refl _) ?_)
  intro v w2 hown hgr
  have HO := Lib.hid (show w2.ownsRow w1.heap.size 5 1 v n (((zs.drop at_).take n).map (Value.int .u8)) by simpa [HM.out] using hown)
  have HB := Lib.hid (grown_belowB hgr (Nat.le_refl _) (fun k hk => by cases hk))
  obtain ⟨a2, L2, c2, rfl⟩ := own_slice HO.out
  clear hown hgr
  go_wp2
  go_ret2
  exact ⟨_, rfl, HO.out, HB.out⟩

set_option maxHeartbeats 1600000 in
theorem preadat1 (w : World) (D B : Nat) (a0 : Option Addr) (c0 at_ n : Nat) (zs : List Int) (hd : w.cell? ⟨D, 3, none⟩ = some (.slice a0 zs.length c0)) (hdn : w.cell? ⟨D, 9, none⟩ = some (.bool false))
    (ho : w.ownsRow B 5 1 (.slice a0 zs.length c0) zs.length (zs.map (Value.int .u8))) (hr : ∀ z ∈ zs, 0 ≤ z ∧ z ≤ 255) (hl : zs.length ≤ 1000000) (hn : at_ + n ≤ zs.length) :
    Calls Try.prog 51 #[.pointer (some ⟨D, 0, none⟩), .int .i64 1, .int .i64 (at_ : Int), .int .i64 (n : Int)] w fun e w' => ∃ v, e = .returned (.tuple #[v, .int .i64 0]) ∧ w'.ownsRow w.heap.size 5 1 v n (((zs.drop at_).take n).map (Value.int .u8)) ∧ Below w.heap.size w w' := by
  obtain ⟨a, L, c, he, hL, hI, hlo, hni, hle, _⟩ := own_any ho hr
  cases he
  obtain ⟨q, hq⟩ : ∃ q, q = at_ + n := ⟨_, rfl⟩
  have hIb := isB_take (k := q - at_) (isB_off (cap := c0) (k := at_) hI (by omega) hle) (by omega)
  have e1 : q - at_ = n := by omega
  rw [e1] at hIb
  have HI := Lib.hid hIb
  have HN := Lib.hid (show offA a0 c0 at_ = none → n = 0 ∧ c0 - at_ = 0 from fun h => by have := offA_nil (cap := c0) (k := at_) hni h; omega)
  have hsl := slice_lh a0 zs.length c0 at_ q (by omega) (by omega) .i64 .i64
  rw [e1] at hsl
  have hqi : (q : Int) = (at_ : Int) + (n : Int) := by omega
  simp only [hqi] at hsl
  have hw1 : wrap64 ((at_ : Int) + (n : Int)) = (at_ : Int) + (n : Int) := by unfold wrap64; omega
  have hw2 : wrap64 ((zs.length : Int) - (at_ : Int)) = (zs.length : Int) - (at_ : Int) := by unfold wrap64; omega
  have i1 : (0 : Int) ≤ (at_ : Int) := by omega
  have i2 : (0 : Int) ≤ (n : Int) := by omega
  have i3 : (at_ : Int) ≤ (zs.length : Int) := by omega
  have i4 : (n : Int) ≤ (zs.length : Int) - (at_ : Int) := by omega
  have HL := Lib.hid (show ((zs.drop at_).take n).length = n by rw [List.length_take, List.length_drop]; omega)
  have HM := Lib.hid (show min n (zs.length - at_) = n by omega)
  have HN1 := Lib.hid (show n ≤ 1000000 by omega)
  clear ho hI hlo hni hIb hqi hq e1 hn hle
  go_enter Try.func51, Try.ntmps51
  go_wp2_with fail
  refine (ready_ok D 1 (.inr rfl) _ hdn).mono ?_
  rintro e w1 ⟨rfl, hw⟩
  subst hw
  go_wp2_with (at_builtin; refine wpList_slice rfl (.const (.slice none 0 0)) (.tmp 50) rfl w1.heap.size (.slice none 0 0) [] (offA a0 c0 at_) n (c0 - at_) ((zs.drop at_).take n) rfl rfl (World.ownsRow_nil _ _ _ _) HI.out HN.out (by have := HN1.out; show 0 + n ≤ _; omega) (Nat.le_refl _) ?_)
  intro v w2 hown hgr
  have HO := Lib.hid (show w2.ownsRow w1.heap.size 5 1 v n (((zs.drop at_).take n).map (Value.int .u8)) by simpa [HM.out] using hown)
  have HB := Lib.hid (grown_belowB hgr (Nat.le_refl _) (fun k hk => by cases hk))
  obtain ⟨a2, L2, c2, rfl⟩ := own_slice HO.out
  clear hown hgr
  go_wp2
  go_ret2
  exact ⟨_, rfl, HO.out, HB.out⟩
end Go.Proofs.Ytafhgilikcablaa
