/- bag.Same: just if both lists are one. -/
import Derived.Test.YtplgkblahmndoaaBrEq
namespace Go.Proofs.Ytplgkblahmndoaa
open Go.RowKit Go.WideMaps Go.Maps Go.Sort
set_option linter.unusedVariables false
set_option maxRecDepth 100000

theorem strKeys_length (D : DataW Unit) : (strKeys D).length = Maps.size D := by cases D <;> simp [strKeys, Maps.size]
theorem BagR.size {w : World} {D B n : Nat} {mo : Option Nat} {Dm : DataW Unit} {t : Lit → Option SlN} {L : List Ent} (h : BagR w D B n mo Dm t L) : Maps.size Dm = L.length := by
  rw [← strKeys_length, ← h.keys.length_eq, List.length_map]
theorem BagR.lenOf {w : World} {D B n : Nat} {mo : Option Nat} {Dm : DataW Unit} {t : Lit → Option SlN} {L : List Ent} (h : BagR w D B n mo Dm t L) (ty : TypeId) : (Builtin.len_ #[109] ty #[.map mo]).run Try.prog w = .ok (.int .i64 (L.length : Int)) w := by
  rw [← h.size]
  rcases h.mp with ⟨rfl, rfl⟩ | ⟨M, rfl, _, ho⟩
  · exact Maps.len_nil Try.underlying109 ty
  · exact ho.len Try.underlying109 ty
set_option maxHeartbeats 800000 in
theorem blenR (w : World) (D B n : Nat) (mo : Option Nat) (Dm : DataW Unit) (t : Lit → Option SlN) (L : List Ent) (h : BagR w D B n mo Dm t L) : Calls Try.prog 52 #[.pointer (some ⟨D, 0, none⟩)] w fun e w' => e = .returned (.int .i64 (L.length : Int)) ∧ w' = w := by
  have hl := h.lenOf
  have h0 : w.cell? ⟨D, 0, none⟩ = some (.map mo) := cell_of_row w D 0 _ _ _ h.box
  clear h
  go_enter Try.func52, Try.ntmps52
  go_wp2
  go_ret
  exact ⟨rfl, rfl⟩
theorem allIn_iff {w w2 : World} {D B n E C m : Nat} {mo me : Option Nat} {Dm De : DataW Unit} {t s : Lit → Option SlN} {L M : List Ent} (hD : BagR w D B n mo Dm t L) (hE : BagR w2 E C m me De s M) (oL : OkL L) (oM : OkL M) (hl : L.length = M.length) : AllIn t s ↔ L = M := by
  constructor
  · intro h
    refine same_of_cnt oL oM hl (fun e he => ?_)
    obtain ⟨x, hx, hn, _⟩ := hD.ent e he
    obtain ⟨y, hy, hxy⟩ := h _ x hx
    have := (hE.cntOf e.1).1 y hy
    rw [← hn, hxy]
    exact this
  · rintro rfl k x hk
    obtain ⟨e, he, rfl⟩ := hD.all k x hk
    obtain ⟨x', hx', hn', _⟩ := hD.ent e he
    rw [hk] at hx'
    obtain rfl := Option.some.inj hx'
    obtain ⟨y, hy, hn, _⟩ := hE.ent e he
    exact ⟨y, hy, by rw [hn', hn]⟩
set_option maxHeartbeats 3200000 in
theorem bsame_full (w : World) (D E B C n m : Nat) (mo me : Option Nat) (Dm De : DataW Unit) (t s : Lit → Option SlN) (L M : List Ent) (hD : BagR w D B n mo Dm t L) (hE : BagR w E C m me De s M) (oL : OkL L) (oM : OkL M) :
    Calls Try.prog 17 #[.pointer (some ⟨D, 0, none⟩), .pointer (some ⟨E, 0, none⟩)] w fun e w' => e = .returned (.bool (decide (L = M))) ∧ Below w.heap.size w w' := by
  have HD := Lib.hid hD
  have HE := Lib.hid hE
  have HL := Lib.hid oL
  have HM := Lib.hid oM
  have d0 : w.cell? ⟨D, 0, none⟩ = some (.map mo) := cell_of_row w D 0 _ _ _ hD.box
  have e0 : w.cell? ⟨E, 0, none⟩ = some (.map me) := cell_of_row w E 0 _ _ _ hE.box
  clear hD hE oL oM
  obtain ⟨z, hz⟩ : ∃ z, z = L.length := ⟨_, rfl⟩
  obtain ⟨y, hy⟩ : ∃ y, y = M.length := ⟨_, rfl⟩
  have HZ := Lib.hid hz.symm
  have HY := Lib.hid hy.symm
  by_cases hzy : z = y
  · subst hzy
    by_cases hz0 : z = 0
    · subst hz0
      have HR := Lib.hid (show decide (L = M) = true from decide_eq_true (by rw [List.eq_nil_of_length_eq_zero HZ.out, List.eq_nil_of_length_eq_zero HY.out]))
      rw [HR.out]
      clear hz hy
      go_enter Try.func17, Try.ntmps17
      go_wp2_with fail
      refine (blenR _ D B n mo Dm t L HD.out).mono ?_
      rintro e w1 ⟨rfl, hw⟩
      subst hw
      rw [HZ.out]
      go_wp2_with fail
      refine (blenR _ E C m me De s M HE.out).mono ?_
      rintro e w1 ⟨rfl, hw⟩
      subst hw
      rw [HY.out]
      go_wp2_with fail
      refine (blenR _ D B n mo Dm t L HD.out).mono ?_
      rintro e w1 ⟨rfl, hw⟩
      subst hw
      rw [HZ.out]
      go_wp2
      go_ret
      exact ⟨rfl, Below.refl _ _⟩
    · rcases HD.out.mp with ⟨_, h0⟩ | ⟨K, rfl, _, ho⟩
      · have := HD.out.size; rw [h0] at this; exact absurd (hz.trans this.symm) hz0
      rcases HE.out.mp with ⟨_, h0⟩ | ⟨N, rfl, _, ho2⟩
      · have := HE.out.size; rw [h0] at this; exact absurd (hy.trans this.symm) hz0
      have HO := Lib.hid ho
      have HO2 := Lib.hid ho2
      have hzb : ((z : Int) == 0) = false := beq_eq_false_iff_ne.2 (by omega)
      have hzp : (0 : Int) < (z : Int) := by omega
      have HI := Lib.hid (allIn_iff HD.out HE.out HL.out HM.out (hz.symm.trans hy))
      have HSz := Lib.hid (show Maps.size Dm = Maps.size De by rw [HD.out.size, HE.out.size, HZ.out, HY.out])
      clear hz0 hz hy ho ho2
      go_enter Try.func17, Try.ntmps17
      go_wp2_with fail
      refine (blenR _ D B n _ Dm t L HD.out).mono ?_
      rintro e w1 ⟨rfl, hw⟩
      subst hw
      rw [HZ.out]
      go_wp2_with fail
      refine (blenR _ E C m _ De s M HE.out).mono ?_
      rintro e w1 ⟨rfl, hw⟩
      subst hw
      rw [HY.out]
      go_wp2_with fail
      refine (blenR _ D B n _ Dm t L HD.out).mono ?_
      rintro e w1 ⟨rfl, hw⟩
      subst hw
      rw [HZ.out]
      go_upto_region 5 with (fail)
      refine wp_region_noPanic ?_
      go_region_held3 (fun W => W.cell? ⟨D, 0, none⟩ = some (.map (some K)) ∧ W.cell? ⟨E, 0, none⟩ = some (.map (some N)))
        (first | exact ⟨d0, e0⟩ | exact hS7)
        ((go_at_call 59; refine (equal_gen _ K N n m Dm De t s (by exact HO.out) (by exact HO2.out) HD.out.bal HE.out.bal HSz.out).mono ?_; rintro e w7 ⟨⟨bb, rfl, hbb⟩, hb7⟩; have hb8 : Below w1.heap.size w1 w7 := ⟨hb7.os, hb7.tape, hb7.output, hb7.size, hb7.block⟩; have HB7 := Lib.hid hb8; have HBb := Lib.hid hbb; have hS7 : w7.cell? ⟨D, 0, none⟩ = some (.map (some K)) ∧ w7.cell? ⟨E, 0, none⟩ = some (.map (some N)) := ⟨cell_of_row w7 D 0 _ _ _ (HD.out.below hb8).box, cell_of_row w7 E 0 _ _ _ (HE.out.below hb8).box⟩; clear hb7 hb8 hbb))
      refine NoPanic.normal ?_
      clear hS7
      go_wp2
      go_ret
      refine ⟨?_, HB7.out⟩
      have hx := HBb.out.trans HI.out
      cases bb with
      | true => rw [decide_eq_true (hx.1 rfl)]; rfl
      | false => rw [decide_eq_false (fun h => by have := hx.2 h; cases this)]; rfl
  · have HR := Lib.hid (show decide (L = M) = false from decide_eq_false (fun h => hzy (by rw [hz, hy, h])))
    rw [HR.out]
    have hzy1 : ((z : Int) == (y : Int)) = false := beq_eq_false_iff_ne.2 (by omega)
    have hzy2 : ((z : Int) != (y : Int)) = true := bne_iff_ne.2 (by omega)
    clear hzy hz hy
    go_enter Try.func17, Try.ntmps17
    go_wp2_with fail
    refine (blenR _ D B n mo Dm t L HD.out).mono ?_
    rintro e w1 ⟨rfl, hw⟩
    subst hw
    rw [HZ.out]
    go_wp2_with fail
    refine (blenR _ E C m me De s M HE.out).mono ?_
    rintro e w1 ⟨rfl, hw⟩
    subst hw
    rw [HY.out]
    go_wp2
    go_ret
    exact ⟨rfl, Below.refl _ _⟩
end Go.Proofs.Ytplgkblahmndoaa
