/- Contracts of keys' takeValue, Row: every slice of bytes. -/
import Derived.Test.YthgpdnbmilcgcabKeyR2
import Derived.Test.YthgpdnbmilcgcabVal1
import Derived.Deep.RegionHeld3
namespace Go.Proofs.Ythgpdnbmilcgcab
open Go.RowKit
set_option linter.unusedVariables false

theorem takeV_drop {zs : List Int} (h : 1 ≤ zs.length) : takeV zs = takeC (zs.getD 0 0) (zs.drop 1) := by
  cases zs with
  | nil => simp at h
  | cons y l => rfl

set_option maxHeartbeats 1600000 in
theorem takeValue_any (a : Option Addr) (len cap : Nat) (zs : List Int) (w : World) (h : IsB w a len zs) (ha : ∀ x, len ≠ 0 → a = some x → x.block < w.heap.size) (hc : len ≤ cap) (h1 : 1 ≤ len) (hr : len ≤ 140737488351232) :
    Calls Try.prog 32 #[.slice a len cap] w (TkPost w (takeV zs)) := by
  have hl := h.1
  have HR := takeV_drop (zs := zs) (by omega)
  have hp : (0 : Int) < (len : Int) := by omega
  have H := Lib.hid h
  have HA := Lib.hid ha
  have b1 := bel0 (.cells #[.int .i64 0, .int .i64 0, .string ⟨#[]⟩] 54) (Below.refl w.heap.size w)
  have HI := Lib.hid (h.below b1 ha)
  have HA1 := Lib.hid (show ∀ x, len ≠ 0 → a = some x → x.block < (w.alloc (.cells #[.int .i64 0, .int .i64 0, .string ⟨#[]⟩] 54)).heap.size from fun x hx hy => by have := HA.out x hx hy; simp; omega)
  obtain ⟨_, _, hcell, hbn⟩ := h
  rcases hcell with hcell | ⟨b, off, rfl, hcell⟩
  · omega
  have hc0 := hcell 0 (by omega)
  rw [Nat.add_zero] at hc0
  obtain ⟨hx0, hx1⟩ := hbn 0
  generalize zs.getD 0 0 = y at hc0 hx0 hx1 HR
  have hlt0 : b < w.heap.size := World.block_lt_of_cell? w _ hc0
  clear hcell hbn ha
  by_cases y0 : y = 5
  · subst y0
    have HR0 := Lib.hid (HR.trans (show takeC 5 (zs.drop 1) = some (noV, 1) from rfl))
    clear HR hl
    go_enter Try.func32, Try.ntmps32
    go_wp2
    refine bodyPost_ret (v := .tuple #[.agg #[.int .i64 0, .int .i64 0, .string ⟨#[]⟩], .int .i64 1]) (by simp [results, Try.results32, go_sem]) rfl ⟨?_, .inl ⟨_, _, HR0.out, rfl⟩⟩
    repeat (first | exact Below.refl _ _ | refine Below.drew ?_ | refine bel _ ?_)
  have ey0 : (y == 5) = false := by rw [beq_eq_false_iff_ne]; exact y0
  by_cases y1 : y = 16
  · subst y1
    have HRx := Lib.hid HR
    clear HR hl
    go_enter Try.func32, Try.ntmps32
    go_wp2_with fail
    refine (takeInt_any _ _ _ zs _ HI.out HA1.out h1 hc).mono ?_
    rintro e w2 ⟨hb2, hh⟩
    have HB2 := Lib.hid (bt b1 hb2)
    obtain ⟨hcw, hfw⟩ := bcell hb2
    have q0 : w2.cell? ⟨w.heap.size, 0, none⟩ = some (.int .i64 0) := by rw [hcw _ _ (by simp)]; simp
    have q1 : w2.cell? ⟨w.heap.size, 1, none⟩ = some (.int .i64 0) := by rw [hcw _ _ (by simp)]; simp
    have q2 : w2.cell? ⟨w.heap.size, 2, none⟩ = some (.string ⟨#[]⟩) := by rw [hcw _ _ (by simp)]; simp
    have f0 : w2.frozen? ⟨w.heap.size, 0, none⟩ = false := by rw [hfw _ _ (by simp)]; simp
    have f1 : w2.frozen? ⟨w.heap.size, 1, none⟩ = false := by rw [hfw _ _ (by simp)]; simp
    have f2 : w2.frozen? ⟨w.heap.size, 2, none⟩ = false := by rw [hfw _ _ (by simp)]; simp
    clear hcw hfw hb2
    rcases hh with ⟨v, u, hr, rfl⟩ | ⟨hr, rfl⟩
    · have HR2 := Lib.hid hr
      clear hr
      go_wp2
      refine bodyPost_ret (v := .tuple #[.agg #[.int .i64 v.1, .int .i64 v.2.1, .string v.2.2], .int .i64 (u : Int)]) (by simp [results, Try.results32, go_sem, q0, q1, q2]) rfl ⟨?_, .inl ⟨_, _, HRx.out.trans HR2.out, rfl⟩⟩
      exact ((HB2.out.setCell (Nat.le_refl _) _).setCell (Nat.le_refl _) _).setCell (Nat.le_refl _) _
    · have HR2 := Lib.hid hr
      clear hr
      go_wp2
      refine bodyPost_ret (v := .tuple #[.agg #[.int .i64 0, .int .i64 0, .string ⟨#[]⟩], .int .i64 0]) (by simp [results, Try.results32, go_sem, q0, q1, q2]) rfl ⟨?_, .inr ⟨HRx.out.trans HR2.out, rfl⟩⟩
      exact ((HB2.out.setCell (Nat.le_refl _) _).setCell (Nat.le_refl _) _).setCell (Nat.le_refl _) _
  have ey1 : (y == 16) = false := by rw [beq_eq_false_iff_ne]; exact y1
  by_cases y2 : y = 32
  · subst y2
    have HRx := Lib.hid HR
    clear HR hl
    go_enter Try.func32, Try.ntmps32
    go_wp2_with fail
    refine (takeText_any _ _ _ zs _ HI.out HA1.out h1 hr).mono ?_
    rintro e w2 ⟨hb2, hh⟩
    have HB2 := Lib.hid (bt b1 hb2)
    obtain ⟨hcw, hfw⟩ := bcell hb2
    have q0 : w2.cell? ⟨w.heap.size, 0, none⟩ = some (.int .i64 0) := by rw [hcw _ _ (by simp)]; simp
    have q1 : w2.cell? ⟨w.heap.size, 1, none⟩ = some (.int .i64 0) := by rw [hcw _ _ (by simp)]; simp
    have q2 : w2.cell? ⟨w.heap.size, 2, none⟩ = some (.string ⟨#[]⟩) := by rw [hcw _ _ (by simp)]; simp
    have f0 : w2.frozen? ⟨w.heap.size, 0, none⟩ = false := by rw [hfw _ _ (by simp)]; simp
    have f1 : w2.frozen? ⟨w.heap.size, 1, none⟩ = false := by rw [hfw _ _ (by simp)]; simp
    have f2 : w2.frozen? ⟨w.heap.size, 2, none⟩ = false := by rw [hfw _ _ (by simp)]; simp
    clear hcw hfw hb2
    rcases hh with ⟨v, u, hr, rfl⟩ | ⟨hr, rfl⟩
    · have HR2 := Lib.hid hr
      clear hr
      go_wp2
      refine bodyPost_ret (v := .tuple #[.agg #[.int .i64 v.1, .int .i64 v.2.1, .string v.2.2], .int .i64 (u : Int)]) (by simp [results, Try.results32, go_sem, q0, q1, q2]) rfl ⟨?_, .inl ⟨_, _, HRx.out.trans HR2.out, rfl⟩⟩
      exact ((HB2.out.setCell (Nat.le_refl _) _).setCell (Nat.le_refl _) _).setCell (Nat.le_refl _) _
    · have HR2 := Lib.hid hr
      clear hr
      go_wp2
      refine bodyPost_ret (v := .tuple #[.agg #[.int .i64 0, .int .i64 0, .string ⟨#[]⟩], .int .i64 0]) (by simp [results, Try.results32, go_sem, q0, q1, q2]) rfl ⟨?_, .inr ⟨HRx.out.trans HR2.out, rfl⟩⟩
      exact ((HB2.out.setCell (Nat.le_refl _) _).setCell (Nat.le_refl _) _).setCell (Nat.le_refl _) _
  · have ey2 : (y == 32) = false := by rw [beq_eq_false_iff_ne]; exact y2
    have HR1 := Lib.hid (HR.trans (show takeC y (zs.drop 1) = none from by
      unfold takeC
      rw [if_neg y0, if_neg y1, if_neg y2]))
    clear HR hl y0 y1 y2
    go_enter Try.func32, Try.ntmps32
    go_wp2
    refine bodyPost_ret (v := .tuple #[.agg #[.int .i64 0, .int .i64 0, .string ⟨#[]⟩], .int .i64 0]) (by simp [results, Try.results32, go_sem]) rfl ⟨?_, .inr ⟨HR1.out, rfl⟩⟩
    repeat (first | exact Below.refl _ _ | refine Below.drew ?_ | refine bel _ ?_)

/-- what Row answers -/
def RowPost (w : World) (zs : List Int) (e : Ending) (w' : World) : Prop :=
  Below w.heap.size w w' ∧
  ((∃ vs v, rowK zs = some vs ∧ e = .returned (.tuple #[v, .int .i64 0]) ∧ w'.ownsRow w.heap.size 54 3 v vs.length (valsOf vs)) ∨
   (rowK zs = none ∧ e = .returned (.tuple #[.slice none 0 0, .int .i64 2])))
/-- what holds at the head of a round of Row -/
def RInv (w : World) (zs : List Int) (a : Option Addr) (l c : Nat) (r : Value) (wr : World) : Prop :=
  ∃ (vs : List Val) (zj : List Int), wr.ownsRow w.heap.size 54 3 r vs.length (valsOf vs) ∧ Below w.heap.size w wr ∧ IsB wr a l zj ∧ (∀ x, l ≠ 0 → a = some x → x.block < w.heap.size) ∧ l ≤ c ∧ vs.length + l ≤ zs.length ∧ rowK zs = (rowK zj).map (vs ++ ·)

set_option maxHeartbeats 1600000 in
theorem row_any (a : Option Addr) (len cap : Nat) (zs : List Int) (w : World) (h : IsB w a len zs) (ha : ∀ x, len ≠ 0 → a = some x → x.block < w.heap.size) (hc : len ≤ cap) (hr : len ≤ 4398046511000) :
    Calls Try.prog 12 #[.slice a len cap] w (RowPost w zs) := by
  have H := Lib.hid h
  have HA := Lib.hid ha
  have hl := h.1
  have HL := Lib.hid hl
  clear h ha hl
  go_enter Try.func12, Try.ntmps12
  go_wp2
  go_loopw [0, 4] (fun b r wr => ∃ (a' : Option Addr) (l' c' : Nat), b = .slice a' l' c' ∧ Hid (RInv w zs a' l' c' r wr)) (fun b _ _ => match b with | .slice _ l _ => l | _ => 0)
  case atStart =>
    refine ⟨a, len, cap, rfl, Lib.hid ⟨[], zs, World.ownsRow_nil _ _ _ _, Below.refl _ _, H.out, HA.out, hc, by rw [HL.out]; simp, ?_⟩⟩
    cases rowK zs <;> simp
  case round =>
    obtain ⟨a', l', c', rfl, HI⟩ := hrel
    obtain ⟨r, rfl⟩ : ∃ r, r = u4 := ⟨_, rfl⟩
    obtain ⟨vs, zj, hown, hbel, hisb, hlow, hlc, hle, hR⟩ := HI.out
    have HO := Lib.hid hown
    have HBel := Lib.hid hbel
    have HIsb := Lib.hid hisb
    have HLow := Lib.hid hlow
    have HRr := Lib.hid hR
    have HLe := Lib.hid (show vs.length + l' ≤ len by rw [← HL.out]; exact hle)
    clear HI hown hbel hisb hlow hle hR
    by_cases h0 : l' = 0
    · have hzj : zj = [] := List.eq_nil_of_length_eq_zero (by rw [HIsb.out.1]; exact h0)
      have HE := Lib.hid (show rowK zs = some vs by rw [HRr.out, hzj]; simp [rowK_nil])
      subst h0
      clear hzj
      go_wp2
      go_ret2
      exact ⟨HBel.out, .inl ⟨vs, _, HE.out, rfl, HO.out⟩⟩
    · have hl0 : (0 : Int) < (l' : Int) := by omega
      have hne : zj ≠ [] := fun h => h0 (by rw [← HIsb.out.1, h]; rfl)
      have HNE := Lib.hid hne
      clear hne
      go_wp2_with fail
      refine (takeValue_any a' l' c' zj _ HIsb.out (fun x hx hy => Nat.lt_of_lt_of_le (HLow.out x hx hy) HBel.out.size) hlc (by omega) (by have := HLe.out; omega)).mono ?_
      rintro e w2 ⟨hb2, hh⟩
      have HB2 := Lib.hid hb2
      clear hb2
      rcases hh with ⟨v, u, hr2, rfl⟩ | ⟨hr2, rfl⟩
      · have hu := takeV_le hr2
        have hu2 : u ≤ l' := by have := HIsb.out.1; omega
        have hu1 : ((u : Int) == 0) = false := by rw [beq_eq_false_iff_ne]; omega
        have HE := Lib.hid (show rowK zs = (rowK (zj.drop u)).map ((vs ++ [v]) ++ ·) by
          rw [HRr.out, rowK_some hr2]
          cases rowK (zj.drop u) <;> simp)
        have HU := Lib.hid hu
        have hs4 : ∀ W, (Instr.slice 24 (.slice a' l' c') (some (.int .i64 (u : Int))) none none).run Try.prog W = .ok (.slice (offA a' c' u) (l' - u) (c' - u)) W := fun W => slice_l a' l' c' u hu2 .i64 W
        have HO2 := Lib.hid (own_below HO.out HB2.out)
        have hlowr : ∀ k, r.ownBlock = some k → k < w2.heap.size := fun k hk => (HO2.out.lt k hk).2
        have HLowR := Lib.hid hlowr
        clear hr2 hu hlowr
        go_wp2_with fail
        go_region_held3 (fun w' => w'.cell? ⟨w2.heap.size, 0, none⟩ = some (.int .i64 v.1) ∧ w'.cell? ⟨w2.heap.size, 1, none⟩ = some (.int .i64 v.2.1) ∧ w'.cell? ⟨w2.heap.size, 2, none⟩ = some (.string v.2.2))
          (first
            | exact ⟨by simp [go_sem], by simp [go_sem], by simp [go_sem]⟩
            | exact Box.grown (x := v) ⟨by simp [go_sem], by simp [go_sem], by simp [go_sem]⟩ hgrow (fun h => absurd (HLowR.out _ h.symm) (Nat.lt_irrefl _)))
          (first
            | (refine step_val ?a0 (.tmp 17) (.tmp 19) ?a1 w.heap.size r vs (w2.heap.size + 1) v ?a2 ?a3 ?a4 ?a5 ?a6 ?a7 ?_; exact rfl; exact rfl; exact rfl; exact rfl; exact (HO2.out.alloc _).alloc _; exact ⟨by simp [go_sem], by simp [go_sem], by simp [go_sem]⟩; (have := HLe.out; omega); (have := HBel.out.size; have := HB2.out.size; simp; omega); intro g cap w3 hown3 hgrow hat hlt; have HO3 := Lib.hid hown3))
        have hb23 : Below w.heap.size w2 w3 := (((Below.refl _ w2).alloc (Nat.le_trans HBel.out.size HB2.out.size) _).alloc (by have := HBel.out.size; have := HB2.out.size; simp; omega) _).drew.grown hgrow (by have := HBel.out.size; have := HB2.out.size; simp; omega) (fun k hk => (HO2.out.lt k hk).1)
        have hbx : Below w.heap.size wr w3 := (HB2.out.mono HBel.out.size).trans hb23
        have HBX := Lib.hid hbx
        clear hown3 hgrow hat hlt hb23 hbx
        go_wp2
        go_roundw
        case rel =>
          refine ⟨offA a' c' u, l' - u, c' - u, rfl, Lib.hid ⟨vs ++ [v], zj.drop u, HO3.out, HBel.out.trans HBX.out, (isB_off HIsb.out hu2 hlc).belowB HBX.out ?_, ?_, by omega, ?_, HE.out⟩⟩
          · exact offA_lowB HLow.out
          · exact offA_lowB HLow.out
          · have := HLe.out; have := HU.out; rw [HL.out]; simp; omega
        case measure => have := HU.out; simp; omega
      · have HE := Lib.hid (show rowK zs = none by rw [HRr.out, rowK_none HNE.out hr2]; rfl)
        clear hr2
        go_wp2
        go_ret2
        refine ⟨?_, .inr ⟨HE.out, rfl⟩⟩
        exact (HBel.out.trans (HB2.out.mono HBel.out.size)).alloc (Nat.le_trans HBel.out.size HB2.out.size) _
end Go.Proofs.Ythgpdnbmilcgcab
