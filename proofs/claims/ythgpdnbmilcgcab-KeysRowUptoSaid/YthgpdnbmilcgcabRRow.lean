/- Contract of the document's Row of a key: every slice of bytes. -/
import Derived.Test.YthgpdnbmilcgcabROne2
import Derived.Test.YthgpdnbmilcgcabKeyR3
namespace Go.Proofs.Ythgpdnbmilcgcab
open Go.RowKit
set_option linter.unusedVariables false

set_option maxRecDepth 100000 in
set_option maxHeartbeats 1600000 in
theorem rrow_any (a : Option Addr) (len cap : Nat) (zs : List Int) (w : World) (h : IsB w a len zs) (ha : ∀ x, len ≠ 0 → a = some x → x.block < w.heap.size) (hc : len ≤ cap) (hr : len ≤ 4398046511000) :
    Calls Try.prog 14 #[.slice a len cap] w (RowPost w zs) := by
  have H := Lib.hid h
  have HA := Lib.hid ha
  have hl := h.1
  have HL := Lib.hid hl
  clear h ha hl
  go_enter Try.func14, Try.ntmps14
  go_wp2
  go_loopw [0, 4] (fun b r wr => ∃ (a' : Option Addr) (l' c' : Nat), b = .slice a' l' c' ∧ Hid (RInv w zs a' l' c' r wr)) (fun b _ _ => match b with | .slice _ l _ => l | _ => 0)
  case atStart =>
    refine ⟨a, len, cap, rfl, Lib.hid ⟨[], zs, World.ownsRow_nil _ _ _ _, Below.refl _ _, H.out, HA.out, hc, by rw [HL.out]; simp, ?_⟩⟩
    cases rowK zs <;> simp
  case round =>
    obtain ⟨a', l', c', rfl, HI⟩ := hrel
    obtain ⟨r, rfl⟩ : ∃ r, r = u4 := ⟨_, rfl⟩
    obtain ⟨vs, zj, hown, hbel, hisb, hlow, hlc, hle, hR⟩ := HI.out
    have HO := Lib.hid hown
    have HBel := Lib.hid hbel
    have HIsb := Lib.hid hisb
    have HLow := Lib.hid hlow
    have HRr := Lib.hid hR
    have HLe := Lib.hid (show vs.length + l' ≤ len by rw [← HL.out]; exact hle)
    clear HI hown hbel hisb hlow hle hR
    by_cases h0 : l' = 0
    · have hzj : zj = [] := List.eq_nil_of_length_eq_zero (by rw [HIsb.out.1]; exact h0)
      have HE := Lib.hid (show rowK zs = some vs by rw [HRr.out, hzj]; simp [rowK_nil])
      subst h0
      clear hzj
      go_wp2
      go_ret2
      exact ⟨HBel.out, .inl ⟨vs, _, HE.out, rfl, HO.out⟩⟩
    · have hl0 : (0 : Int) < (l' : Int) := by omega
      have hne : zj ≠ [] := fun h => h0 (by rw [← HIsb.out.1, h]; rfl)
      have HNE := Lib.hid hne
      clear hne
      go_wp2_with fail
      refine (one_any a' l' c' zj _ HIsb.out (by omega) hlc (by have := HLe.out; omega)).mono ?_
      rintro e w2 ⟨hb2, hh⟩
      have HB2 := Lib.hid hb2
      clear hb2
      rcases hh with ⟨v, u, hr2, rfl⟩ | ⟨hr2, v, b', l2, c2, rfl⟩
      · have hu := takeV_le hr2
        have hu2 : u ≤ l' := by have := HIsb.out.1; omega
        have HE := Lib.hid (show rowK zs = (rowK (zj.drop u)).map ((vs ++ [v]) ++ ·) by
          rw [HRr.out, rowK_some hr2]
          cases rowK (zj.drop u) <;> simp)
        have HU := Lib.hid hu
        have HO2 := Lib.hid (own_below HO.out HB2.out)
        have hlowr : ∀ k, r.ownBlock = some k → k < w2.heap.size := fun k hk => (HO2.out.lt k hk).2
        have HLowR := Lib.hid hlowr
        clear hr2 hu hlowr
        go_wp2_with (at_builtin; refine wpList_val rfl (.tmp 19) (.tmp 21) rfl w.heap.size r vs (w2.heap.size + 1) v rfl rfl ((HO2.out.alloc _).alloc _) ?a1 ?a2 ?a3 ?_)
        case a1 => exact ⟨by simp [go_sem], by simp [go_sem], by simp [go_sem]⟩
        case a2 => have := HLe.out; omega
        case a3 => have := HBel.out.size; have := HB2.out.size; simp; omega
        intro g cap w3 hown3 hgrow hat hlt
        have HO3 := Lib.hid hown3
        have hb23 : Below w.heap.size w2 w3 := (((Below.refl _ w2).alloc (Nat.le_trans HBel.out.size HB2.out.size) _).alloc (by have := HBel.out.size; have := HB2.out.size; simp; omega) _).grown hgrow (by have := HBel.out.size; have := HB2.out.size; simp; omega) (fun k hk => (HO2.out.lt k hk).1)
        have hbx : Below w.heap.size wr w3 := (HB2.out.mono HBel.out.size).trans hb23
        have HBX := Lib.hid hbx
        clear hown3 hgrow hat hlt hb23 hbx
        go_wp2
        go_roundw
        case rel =>
          refine ⟨offA a' c' u, l' - u, c' - u, rfl, Lib.hid ⟨vs ++ [v], zj.drop u, (by rw [List.length_append]; exact HO3.out), HBel.out.trans HBX.out, (isB_off HIsb.out hu2 hlc).belowB HBX.out ?_, ?_, by omega, ?_, HE.out⟩⟩
          · exact offA_lowB HLow.out
          · exact offA_lowB HLow.out
          · have := HLe.out; have := HU.out; rw [HL.out]; simp; omega
        case measure => have := HU.out; simp; omega
      · have HE := Lib.hid (show rowK zs = none by rw [HRr.out, rowK_none HNE.out hr2]; rfl)
        clear hr2
        go_wp2
        go_ret2
        refine ⟨?_, .inr ⟨HE.out, rfl⟩⟩
        exact (HBel.out.trans (HB2.out.mono HBel.out.size)).alloc (Nat.le_trans HBel.out.size HB2.out.size) _
end Go.Proofs.Ythgpdnbmilcgcab
