/- A disk's Crash. -/
import Derived.Test.YtafhgilikcablaaDkDF
namespace Go.Proofs.Ytafhgilikcablaa
open Go.RowKit Go.Maps
set_option linter.unusedVariables false
set_option maxRecDepth 100000

theorem only_set_same {w : World} {D j : Nat} {cs : Array Value} {T : TypeId} {x : Value} (hbox : w.heap[D]? = some (.cells cs T (0, 0))) (he : cs[j]? = some x) : Only (fun _ => False) w (w.setCell ⟨D, j, none⟩ x) := by
  refine ⟨rfl, rfl, rfl, by simp, fun i hi _ => ?_⟩
  by_cases e : i = D
  · subst e
    rw [Go.heap_setCell_same w i j cs T x hbox, setIf_same he, hbox]
  · exact heap_setCell_other w ⟨D, j, none⟩ i x e
/-- what is left of a file -/
def leftOf (kz ys zs : List Int) (t : Nat) (xs : List Int) : List Int := (foldC kz ys zs t xs).1.take (foldC kz ys zs t xs).2.1
/-- a disk within Crash: so many files are left -/
def CrSt (D B : Nat) (v0 s0 m0 v1 s1 m1 : Value) (z0 y0 : List Int) (L0 : List Lit) (z1 y1 : List Int) (L1 : List Lit) (kz : List Int) : Nat → Nat → World → Prop
  | 0, tk, wr => tk = 0 ∧ DF wr D B v0 s0 m0 v1 s1 m1 z0 y0 L0 z1 y1 L1
  | 1, tk, wr => ∃ v0' s0' xs, SrtOf m0 L0 xs ∧ tk = xs.length ∧ DF wr D B v0' s0' (.map none) v1 s1 m1 (leftOf kz y0 z0 0 xs) (leftOf kz y0 z0 0 xs) [] z1 y1 L1
  | _, tk, wr => ∃ v0' s0' v1' s1' xs xs1, SrtOf m0 L0 xs ∧ SrtOf m1 L1 xs1 ∧ DF wr D B v0' s0' (.map none) v1' s1' (.map none) (leftOf kz y0 z0 0 xs) (leftOf kz y0 z0 0 xs) [] (leftOf kz y1 z1 xs.length xs1) (leftOf kz y1 z1 xs.length xs1) []
theorem only_below0 {W0 w w' : World} {D B : Nat} {zs : List Int} {L : List Lit} {v m : Value} (h : FSt w B zs L v m) (hb : Below W0.heap.size W0 w) (hD : W0.heap.size ≤ D) (hDB : D < B) (k : Only (ofFile D v m) w w') : Below W0.heap.size W0 w' :=
  hb.trans (below_of_only h k hD (by omega) hb.size)

/-- the blocks that are a disk's -/
def ofTwo (D : Nat) (v0 m0 v1 m1 : Value) (i : Nat) : Prop := ofFile D v0 m0 i ∨ ofFile D v1 m1 i
set_option maxHeartbeats 3200000 in
theorem dcrash_any (W0 w : World) (D B : Nat) (v0 s0 m0 v1 s1 m1 : Value) (z0 y0 : List Int) (L0 : List Lit) (z1 y1 : List Int) (L1 : List Lit) (ka : Option Addr) (kl kc : Nat) (kz : List Int) (h : DF w D B v0 s0 m0 v1 s1 m1 z0 y0 L0 z1 y1 L1) (hK : IsK W0 ka kl kz) (hb : Below W0.heap.size W0 w) (hD : W0.heap.size ≤ D)
    (hy0 : y0.length ≤ z0.length) (hy1 : y1.length ≤ z1.length) (hz0 : z0.length ≤ 1000000) (hz1 : z1.length ≤ 1000000) (hl0 : L0.length ≤ 1000000) (hl1 : L1.length ≤ 1000000) (hkl : kl ≤ 200) :
    Calls Try.prog 49 #[.pointer (some ⟨D, 0, none⟩), .slice ka kl kc] w fun e w' => e = .returned (.tuple #[]) ∧ ∃ tk, CrSt D B v0 s0 m0 v1 s1 m1 z0 y0 L0 z1 y1 L1 kz 2 tk w' ∧ Below W0.heap.size W0 w' ∧ Only (ofTwo D v0 m0 v1 m1) w w' := by
  have hDl := (Array.getElem?_eq_some_iff.1 h.d.box).1
  have c7 := cell_of_row w D 7 _ _ _ h.d.box
  have c8 := cell_of_row w D 8 _ _ _ h.d.box
  have c9 := cell_of_row w D 9 _ _ _ h.d.box
  simp only [List.getElem?_toArray, List.getElem?_cons_zero, List.getElem?_cons_succ] at c7 c8 c9
  have f7 := frozen_of_row w D 7 _ _ h.d.box
  have f8 := frozen_of_row w D 8 _ _ h.d.box
  have f9 := frozen_of_row w D 9 _ _ h.d.box
  have o1 := only_set_same (j := 9) (x := .bool false) h.d.box rfl
  have h1 := h.only o1 (fun _ => id)
  have o2 := only_set_same (j := 7) (x := .bool false) h1.d.box rfl
  have h2 := h1.only o2 (fun _ => id)
  have o3 := only_set_same (j := 8) (x := .int .i64 0) h2.d.box rfl
  have h3 := h2.only o3 (fun _ => id)
  have H3 := Lib.hid h3
  have hb3 : Below W0.heap.size W0 (((w.setCell ⟨D, 9, none⟩ (.bool false)).setCell ⟨D, 7, none⟩ (.bool false)).setCell ⟨D, 8, none⟩ (.int .i64 0)) := by
    have o := (o1.trans o2).trans o3
    exact ⟨o.os.trans hb.os, o.tape.trans hb.tape, o.output.trans hb.output, Nat.le_trans hb.size o.size, fun i hi => (o.block i (Nat.lt_of_lt_of_le hi hb.size) id).trans (hb.block i hi)⟩
  have HB3 := Lib.hid hb3
  have HO3 := Lib.hid (((o1.trans o2).trans o3).mono (S' := ofTwo D v0 m0 v1 m1) (fun _ => False.elim))
  have HK := Lib.hid hK
  have HD := Lib.hid hD
  clear h h1 h2 h3 o1 o2 o3 hb hb3 hK hD
  go_enter Try.func49, Try.ntmps49
  go_wp2_with fail
  go_loopw [4, 17] (fun tk i wr => ∃ k t : Nat, k ≤ 2 ∧ i = .int .i64 (k : Int) ∧ tk = .int .i64 (t : Int) ∧ Hid (CrSt D B v0 s0 m0 v1 s1 m1 z0 y0 L0 z1 y1 L1 kz k t wr ∧ Below W0.heap.size W0 wr ∧ Only (ofTwo D v0 m0 v1 m1) w wr)) (fun _ i _ => 2 - (intOf i).toNat)
  case atStart => exact ⟨0, 0, by omega, rfl, rfl, Lib.hid ⟨⟨rfl, H3.out⟩, HB3.out, HO3.out⟩⟩
  case round =>
    obtain ⟨k, t, hk, rfl, rfl, HR⟩ := hrel
    have hk3 : k = 0 ∨ k = 1 ∨ k = 2 := by omega
    rcases hk3 with rfl | rfl | rfl
    · obtain ⟨⟨rfl, hdf⟩, hbr, hor⟩ := HR.out
      have HOr := Lib.hid hor
      have HF := Lib.hid hdf
      have HBr := Lib.hid hbr
      clear hdf hbr hor HR hk
      go_wp2_with fail
      refine (crash_any W0 _ D 0 B _ _ v0 s0 m0 z0 y0 L0 ka kl kc kz 0 (by exact HF.out.rows0) rfl (by exact HF.out.d.f0) HF.out.k0 HK.out (by exact HBr.out) HD.out hy0 hz0 hl0 (by omega) hkl).mono ?_
      rintro e w3 ⟨xs, hxs, rfl, hcr⟩
      obtain ⟨v0', s0', hdf2, hon⟩ := crashed0 HF.out hcr
      have HX := Lib.hid hxs
      have HF2 := Lib.hid hdf2
      have HB2 := Lib.hid (only_below0 HF.out.d.f0 HBr.out HD.out HF.out.d.lt hon)
      have HO2 := Lib.hid (HOr.out.trans (hon.mono (fun i hi => (.inl hi : ofTwo D v0 m0 v1 m1 i))))
      clear hcr hdf2 hon hxs
      go_wp2
      go_roundw
      case rel =>
        exact ⟨1, xs.length, by omega, by go_num, by first | rfl | go_num, Lib.hid ⟨⟨v0', s0', xs, HX.out, rfl, HF2.out⟩, HB2.out, HO2.out⟩⟩
      case measure => simp [intOf]
    · obtain ⟨⟨v0', s0', xs, hxs, rfl, hdf⟩, hbr, hor⟩ := HR.out
      have HOr := Lib.hid hor
      have HF := Lib.hid hdf
      have HBr := Lib.hid hbr
      have HX := Lib.hid hxs
      have HXl := Lib.hid (show xs.length ≤ 1000000 from Nat.le_trans (srt_len H3.out.d.f0 hxs) hl0)
      clear hdf hbr hor HR hk hxs
      go_wp2_with fail
      refine (crash_any W0 _ D 3 B _ _ v1 s1 m1 z1 y1 L1 ka kl kc kz xs.length (by exact HF.out.rows1) rfl (by exact HF.out.d.f1) HF.out.k1 HK.out (by exact HBr.out) HD.out hy1 hz1 hl1 (by have := HXl.out; omega) hkl).mono ?_
      rintro e w3 ⟨xs1, hxs1, rfl, hcr⟩
      obtain ⟨v1', s1', hdf2, hon⟩ := crashed1 HF.out hcr
      have HX1 := Lib.hid hxs1
      have HF2 := Lib.hid hdf2
      have HB2 := Lib.hid (only_below0 HF.out.d.f1 HBr.out HD.out HF.out.d.lt hon)
      have HO2 := Lib.hid (HOr.out.trans (hon.mono (fun i hi => (.inr hi : ofTwo D v0 m0 v1 m1 i))))
      clear hcr hdf2 hon hxs1
      go_wp2
      go_roundw
      case rel =>
        exact ⟨2, xs.length + xs1.length, by omega, by go_num, by first | rfl | go_num | (congr 1; omega), Lib.hid ⟨⟨v0', s0', v1', s1', xs, xs1, HX.out, HX1.out, HF2.out⟩, HB2.out, HO2.out⟩⟩
      case measure => simp [intOf]
    · go_wp2
      go_end0
      exact ⟨rfl, t, HR.out.1, HR.out.2.1, HR.out.2.2⟩
end Go.Proofs.Ytafhgilikcablaa
