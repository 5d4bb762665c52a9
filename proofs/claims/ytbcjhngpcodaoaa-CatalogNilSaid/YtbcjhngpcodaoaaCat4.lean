/- CatalogNil: clone of the first table. -/
import Derived.Test.YtbcjhngpcodaoaaCat3
import Derived.BigRegion
import Derived.Deep.DeepCutAuto
namespace Go.Proofs.Ytbcjhngpcodaoaa
open Go.RowKit
set_option linter.unusedVariables false
set_option maxRecDepth 100000

theorem ColA.set {w : World} {h : Nat} {p : Addr} (hp : p.block ≠ h) (v : Value) (hc : ColA w h) : ColA (w.setCell p v) h := by
  have e : ∀ j, (w.setCell p v).cell? ⟨h, j, none⟩ = w.cell? ⟨h, j, none⟩ := fun j => World.cell?_setCell_other _ _ _ _ (fun q => hp (by rw [q]))
  exact ⟨(e 0).trans hc.1, (e 1).trans hc.2.1, (e 2).trans hc.2.2.1, (e 3).trans hc.2.2.2⟩
theorem ColA.drew {w : World} {h : Nat} (hc : ColA w h) : ColA w.drew h := hc
/-- the first table with any capacity of its columns -/
def tabC (g c : Nat) : Value := .agg #[.int .i64 1, .string ⟨#[116]⟩, .string ⟨#[]⟩, .slice (some ⟨g, 0, none⟩) 1 c, .slice none 0 0, .bool false, .string ⟨#[]⟩, .slice none 0 0, .int .i64 1]
def tabX (x3 x4 x7 : Value) : Array Value := #[.int .i64 1, .string ⟨#[116]⟩, .string ⟨#[]⟩, x3, x4, .bool false, .string ⟨#[]⟩, x7, .int .i64 1]
def zeroX : Array Value := #[.int .i64 0, .string ⟨#[]⟩, .string ⟨#[]⟩, .slice none 0 0, .slice none 0 0, .bool false, .string ⟨#[]⟩, .slice none 0 0, .int .i64 0]
/-- the world amid clone: the object's box, the result's box, the new column -/
def Mid (w : World) (h : Nat) (x3 x4 x7 : Value) (wx : World) : Prop :=
  wx.heap[w.heap.size]? = some (.cells (tabX x3 x4 x7) 89 (0, 0)) ∧ wx.heap[w.heap.size + 1]? = some (.cells zeroX 89 (0, 0)) ∧ ColA wx h ∧ w.heap.size + 1 < h ∧ h < wx.heap.size ∧ Below w.heap.size w wx
theorem Mid.s {w wx : World} {h : Nat} {x3 x4 x7 y3 y4 y7 : Value} (hm : Mid w h x3 x4 x7 wx) (j : Nat) (v : Value) (he : (tabX x3 x4 x7).setIfInBounds j v = tabX y3 y4 y7) : Mid w h y3 y4 y7 (wx.setCell ⟨w.heap.size, j, none⟩ v) := by
  obtain ⟨h1, h2, h3, h4, h5, h6⟩ := hm
  refine ⟨?_, ?_, h3.set (by show w.heap.size ≠ h; omega) _, h4, by simpa using h5, h6.setCell (Nat.le_refl _) _⟩
  · have := Go.heap_setCell_same wx w.heap.size j _ _ v h1
    rw [he] at this
    exact this
  · rw [heap_setCell_other wx _ _ v (by show w.heap.size + 1 ≠ w.heap.size; omega)]
    exact h2
theorem Mid.s3 {w wx : World} {h : Nat} {x3 x4 x7 : Value} (hm : Mid w h x3 x4 x7 wx) (v : Value) : Mid w h v x4 x7 (wx.setCell ⟨w.heap.size, 3, none⟩ v) := hm.s 3 v rfl
theorem Mid.s4 {w wx : World} {h : Nat} {x3 x4 x7 : Value} (hm : Mid w h x3 x4 x7 wx) (v : Value) : Mid w h x3 v x7 (wx.setCell ⟨w.heap.size, 4, none⟩ v) := hm.s 4 v rfl
theorem Mid.s7 {w wx : World} {h : Nat} {x3 x4 x7 : Value} (hm : Mid w h x3 x4 x7 wx) (v : Value) : Mid w h x3 x4 v (wx.setCell ⟨w.heap.size, 7, none⟩ v) := hm.s 7 v rfl
theorem two_boxes (w : World) (o1 o2 : Obj) : ((w.alloc o1).alloc o2).heap[w.heap.size]? = some o1 ∧ ((w.alloc o1).alloc o2).heap[w.heap.size + 1]? = some o2 := by
  constructor
  · exact (Below.heap_alloc (w.alloc o1) o2 _ (by simp)).trans (Go.heap_alloc_new w o1)
  · have := Go.heap_alloc_new (w.alloc o1) o2
    rwa [show (w.alloc o1).heap.size = w.heap.size + 1 by simp] at this
theorem set9 (w : World) (N : Nat) (T : TypeId) (c0 c1 c2 c3 c4 c5 c6 c7 c8 v0 v1 v2 v3 v4 v5 v6 v7 v8 : Value) (h : w.heap[N]? = some (.cells #[c0, c1, c2, c3, c4, c5, c6, c7, c8] T (0, 0))) :
    (((((((((w.setCell ⟨N, 0, none⟩ v0).setCell ⟨N, 1, none⟩ v1).setCell ⟨N, 2, none⟩ v2).setCell ⟨N, 3, none⟩ v3).setCell ⟨N, 4, none⟩ v4).setCell ⟨N, 5, none⟩ v5).setCell ⟨N, 6, none⟩ v6).setCell ⟨N, 7, none⟩ v7).setCell ⟨N, 8, none⟩ v8).heap[N]? = some (.cells #[v0, v1, v2, v3, v4, v5, v6, v7, v8] T (0, 0)) := by
  have h0 : (w.setCell ⟨N, 0, none⟩ v0).heap[N]? = some (.cells #[v0, c1, c2, c3, c4, c5, c6, c7, c8] T (0, 0)) := Go.heap_setCell_same _ N 0 _ _ v0 h
  have h1 : ((w.setCell ⟨N, 0, none⟩ v0).setCell ⟨N, 1, none⟩ v1).heap[N]? = some (.cells #[v0, v1, c2, c3, c4, c5, c6, c7, c8] T (0, 0)) := Go.heap_setCell_same _ N 1 _ _ v1 h0
  have h2 : (((w.setCell ⟨N, 0, none⟩ v0).setCell ⟨N, 1, none⟩ v1).setCell ⟨N, 2, none⟩ v2).heap[N]? = some (.cells #[v0, v1, v2, c3, c4, c5, c6, c7, c8] T (0, 0)) := Go.heap_setCell_same _ N 2 _ _ v2 h1
  have h3 : ((((w.setCell ⟨N, 0, none⟩ v0).setCell ⟨N, 1, none⟩ v1).setCell ⟨N, 2, none⟩ v2).setCell ⟨N, 3, none⟩ v3).heap[N]? = some (.cells #[v0, v1, v2, v3, c4, c5, c6, c7, c8] T (0, 0)) := Go.heap_setCell_same _ N 3 _ _ v3 h2
  have h4 : (((((w.setCell ⟨N, 0, none⟩ v0).setCell ⟨N, 1, none⟩ v1).setCell ⟨N, 2, none⟩ v2).setCell ⟨N, 3, none⟩ v3).setCell ⟨N, 4, none⟩ v4).heap[N]? = some (.cells #[v0, v1, v2, v3, v4, c5, c6, c7, c8] T (0, 0)) := Go.heap_setCell_same _ N 4 _ _ v4 h3
  have h5 : ((((((w.setCell ⟨N, 0, none⟩ v0).setCell ⟨N, 1, none⟩ v1).setCell ⟨N, 2, none⟩ v2).setCell ⟨N, 3, none⟩ v3).setCell ⟨N, 4, none⟩ v4).setCell ⟨N, 5, none⟩ v5).heap[N]? = some (.cells #[v0, v1, v2, v3, v4, v5, c6, c7, c8] T (0, 0)) := Go.heap_setCell_same _ N 5 _ _ v5 h4
  have h6 : (((((((w.setCell ⟨N, 0, none⟩ v0).setCell ⟨N, 1, none⟩ v1).setCell ⟨N, 2, none⟩ v2).setCell ⟨N, 3, none⟩ v3).setCell ⟨N, 4, none⟩ v4).setCell ⟨N, 5, none⟩ v5).setCell ⟨N, 6, none⟩ v6).heap[N]? = some (.cells #[v0, v1, v2, v3, v4, v5, v6, c7, c8] T (0, 0)) := Go.heap_setCell_same _ N 6 _ _ v6 h5
  have h7 : ((((((((w.setCell ⟨N, 0, none⟩ v0).setCell ⟨N, 1, none⟩ v1).setCell ⟨N, 2, none⟩ v2).setCell ⟨N, 3, none⟩ v3).setCell ⟨N, 4, none⟩ v4).setCell ⟨N, 5, none⟩ v5).setCell ⟨N, 6, none⟩ v6).setCell ⟨N, 7, none⟩ v7).heap[N]? = some (.cells #[v0, v1, v2, v3, v4, v5, v6, v7, c8] T (0, 0)) := Go.heap_setCell_same _ N 7 _ _ v7 h6
  have h8 : (((((((((w.setCell ⟨N, 0, none⟩ v0).setCell ⟨N, 1, none⟩ v1).setCell ⟨N, 2, none⟩ v2).setCell ⟨N, 3, none⟩ v3).setCell ⟨N, 4, none⟩ v4).setCell ⟨N, 5, none⟩ v5).setCell ⟨N, 6, none⟩ v6).setCell ⟨N, 7, none⟩ v7).setCell ⟨N, 8, none⟩ v8).heap[N]? = some (.cells #[v0, v1, v2, v3, v4, v5, v6, v7, v8] T (0, 0)) := Go.heap_setCell_same _ N 8 _ _ v8 h7
  exact h8
/-- .. its parts cloned -/
def Cloned (w : World) (wx : World) : Prop := ∃ h c, Mid w h (.slice (some ⟨h, 0, none⟩) 1 c) (.slice none 0 0) (.slice none 0 0) wx

set_option maxHeartbeats 3200000 in
theorem clone_t (g c : Nat) (w : World) (hc : ColA w g) (hg : g < w.heap.size) :
    Calls Try.prog 104 #[tabC g c] w fun e w' => (∃ h c', e = .returned (tabC h c') ∧ ColA w' h ∧ w.heap.size ≤ h ∧ h < w'.heap.size) ∧ Below w.heap.size w w' := by
  have HU : ∀ g c, Hid (tabC g c = .agg #[.int .i64 1, .string ⟨#[116]⟩, .string ⟨#[]⟩, .slice (some ⟨g, 0, none⟩) 1 c, .slice none 0 0, .bool false, .string ⟨#[]⟩, .slice none 0 0, .int .i64 1]) := fun _ _ => Lib.hid rfl
  rw [(HU g c).out]
  have HU2 := Lib.hid HU
  have HC := Lib.hid hc
  clear HU hc
  go_enter Try.func104, Try.ntmps104
  go_upto_region 1 with (fail)
  obtain ⟨W0, hW0⟩ : ∃ W0, W0 = (w.alloc (.cells #[.int .i64 1, .string ⟨#[116]⟩, .string ⟨#[]⟩, .slice (some ⟨g, 0, none⟩) 1 c, .slice none 0 0, .bool false, .string ⟨#[]⟩, .slice none 0 0, .int .i64 1] 89)).alloc (.cells #[.int .i64 0, .string ⟨#[]⟩, .string ⟨#[]⟩, .slice none 0 0, .slice none 0 0, .bool false, .string ⟨#[]⟩, .slice none 0 0, .int .i64 0] 89) := ⟨_, rfl⟩
  have q3 : W0.cell? ⟨w.heap.size, 3, none⟩ = some (.slice (some ⟨g, 0, none⟩) 1 c) := by rw [hW0]; simp [go_sem]
  have q4 : W0.cell? ⟨w.heap.size, 4, none⟩ = some (.slice none 0 0) := by rw [hW0]; simp [go_sem]
  have q7 : W0.cell? ⟨w.heap.size, 7, none⟩ = some (.slice none 0 0) := by rw [hW0]; simp [go_sem]
  have z : ∀ j, W0.frozen? ⟨w.heap.size, j, none⟩ = false := fun j => by rw [hW0]; simp [go_sem]
  have z3 := z 3
  have z4 := z 4
  have z7 := z 7
  have HS := Lib.hid (show W0.heap.size = w.heap.size + 2 by rw [hW0]; simp)
  have hb0 : Below w.heap.size w W0 := by rw [hW0]; exact bel0 _ (bel0 _ (Below.refl _ _))
  have HC0 := Lib.hid (HC.out.below hg hb0)
  have HG0 := Lib.hid (Nat.lt_of_lt_of_le hg hb0.size)
  have HB0 := Lib.hid hb0
  have HP := Lib.hid (show W0.heap[w.heap.size]? = some (.cells (tabX (.slice (some ⟨g, 0, none⟩) 1 c) (.slice none 0 0) (.slice none 0 0)) 89 (0, 0)) ∧ W0.heap[w.heap.size + 1]? = some (.cells zeroX 89 (0, 0)) by rw [hW0]; exact two_boxes w _ _)
  have HK := Lib.hid (show ∀ w8 h8, Below W0.heap.size W0 w8 → ColA w8 h8 → W0.heap.size ≤ h8 → h8 < w8.heap.size → Mid w h8 (.slice (some ⟨g, 0, none⟩) 1 c) (.slice none 0 0) (.slice none 0 0) w8 from fun w8 h8 hb ha h1 h2 => ⟨(hb.block _ (by rw [HS.out]; omega)).trans HP.out.1, (hb.block _ (by rw [HS.out]; omega)).trans HP.out.2, ha, by have := HS.out; omega, h2, bt HB0.out hb⟩)
  have HJ := Lib.hid (show ∀ w8, Below W0.heap.size W0 w8 → (∀ j, w8.cell? ⟨w.heap.size, j, none⟩ = W0.cell? ⟨w.heap.size, j, none⟩) ∧ (∀ j, w8.frozen? ⟨w.heap.size, j, none⟩ = W0.frozen? ⟨w.heap.size, j, none⟩) from fun w8 hb => ⟨fun j => hb.cell (p := ⟨w.heap.size, j, none⟩) (by show w.heap.size < _; rw [HS.out]; omega), fun j => hb.frozen (p := ⟨w.heap.size, j, none⟩) (by show w.heap.size < _; rw [HS.out]; omega)⟩)
  have HQ := Lib.hid (show W0.cell? ⟨w.heap.size, 3, none⟩ = some (.slice (some ⟨g, 0, none⟩) 1 c) ∧ W0.cell? ⟨w.heap.size, 4, none⟩ = some (.slice none 0 0) ∧ W0.cell? ⟨w.heap.size, 7, none⟩ = some (.slice none 0 0) from ⟨q3, q4, q7⟩)
  have HZ := Lib.hid z
  rw [← hW0]
  clear hW0 z hb0
  go_cut [] from 3 to 14 (fun wx => Cloned w wx)
  case first =>
    go_region_law (first
      | (go_simp; go_at_call 147; refine (cclone g c _ (by exact HC0.out) (by exact HG0.out)).mono ?_; rintro e w8 ⟨⟨h8, c8, rfl, hA8, hh8⟩, hb8⟩; have hb9 : Below W0.heap.size W0 w8 := ⟨hb8.os, hb8.tape, hb8.output, hb8.size, hb8.block⟩; obtain ⟨k1, k2⟩ := HJ.out w8 hb9; have s3 := (k1 3).trans HQ.out.1; have s4 := (k1 4).trans HQ.out.2.1; have s7 := (k1 7).trans HQ.out.2.2; have y3 := (k2 3).trans (HZ.out 3); have y4 := (k2 4).trans (HZ.out 4); have y7 := (k2 7).trans (HZ.out 7); have HM8 := Lib.hid (HK.out w8 h8 hb9 hA8 hh8.1 hh8.2); clear hb8 hb9 hA8 hh8 k1 k2)
      | (go_simp; go_at_call 148; refine (iclone _).mono ?_; rintro e w' ⟨rfl, hw⟩; subst hw)
      | (go_simp; go_at_call 149; refine (sclone _).mono ?_; rintro e w' ⟨rfl, hw⟩; subst hw))
    all_goals
      go_wp2_with fail
      go_meet
      exact ⟨h8, c8, ((HM8.out.s3 _).s4 _).s7 _⟩
  case rest =>
    obtain ⟨h8, c8, hm⟩ := hcut
    obtain ⟨b0, b1, hA, hn, hlt, hB⟩ := hm
    have t : ∀ j, wc.cell? ⟨w.heap.size, j, none⟩ = (tabX (.slice (some ⟨h8, 0, none⟩) 1 c8) (.slice none 0 0) (.slice none 0 0))[j]? := fun j => cell_of_row _ _ j _ _ _ b0
    have u : ∀ j, wc.cell? ⟨w.heap.size + 1, j, none⟩ = zeroX[j]? := fun j => cell_of_row _ _ j _ _ _ b1
    have v : ∀ j, wc.frozen? ⟨w.heap.size + 1, j, none⟩ = false := fun j => frozen_of_row _ _ j _ _ b1
    have t0 := t 0
    have t1 := t 1
    have t2 := t 2
    have t3 := t 3
    have t4 := t 4
    have t5 := t 5
    have t6 := t 6
    have t7 := t 7
    have t8 := t 8
    have u0 := u 0
    have u1 := u 1
    have u2 := u 2
    have u3 := u 3
    have u4 := u 4
    have u5 := u 5
    have u6 := u 6
    have u7 := u 7
    have u8 := u 8
    simp only [tabX, zeroX, List.getElem?_toArray, List.getElem?_cons_zero, List.getElem?_cons_succ] at t0 t1 t2 t3 t4 t5 t6 t7 t8 u0 u1 u2 u3 u4 u5 u6 u7 u8
    have v0 := v 0
    have v1 := v 1
    have v2 := v 2
    have v3 := v 3
    have v4 := v 4
    have v5 := v 5
    have v6 := v 6
    have v7 := v 7
    have v8 := v 8
    have HH := Lib.hid (show ColA wc h8 ∧ w.heap.size + 1 < h8 ∧ h8 < wc.heap.size ∧ Below w.heap.size w wc from ⟨hA, hn, hlt, hB⟩)
    have HN1 := Lib.hid b1
    clear t u v b0 b1 hA hn hlt hB
    go_wp2
    have hN := HN1.out
    obtain ⟨WF, hWF⟩ : ∃ WF, WF = (((((((((wc.setCell ⟨w.heap.size + 1, 0, none⟩ (.int .i64 1)).setCell ⟨w.heap.size + 1, 1, none⟩ (.string ⟨#[116]⟩)).setCell ⟨w.heap.size + 1, 2, none⟩ (.string ⟨#[]⟩)).setCell ⟨w.heap.size + 1, 3, none⟩ (.slice (some ⟨h8, 0, none⟩) 1 c8)).setCell ⟨w.heap.size + 1, 4, none⟩ (.slice none 0 0)).setCell ⟨w.heap.size + 1, 5, none⟩ (.bool false)).setCell ⟨w.heap.size + 1, 6, none⟩ (.string ⟨#[]⟩)).setCell ⟨w.heap.size + 1, 7, none⟩ (.slice none 0 0)).setCell ⟨w.heap.size + 1, 8, none⟩ (.int .i64 1)) := ⟨_, rfl⟩
    have hf := set9 wc (w.heap.size + 1) 89 _ _ _ _ _ _ _ _ _ (.int .i64 1) (.string ⟨#[116]⟩) (.string ⟨#[]⟩) (.slice (some ⟨h8, 0, none⟩) 1 c8) (.slice none 0 0) (.bool false) (.string ⟨#[]⟩) (.slice none 0 0) (.int .i64 1) hN
    rw [← hWF] at hf
    have hC : ColA WF h8 ∧ h8 < WF.heap.size ∧ Below w.heap.size w WF := by
      have hne : w.heap.size + 1 ≠ h8 := by have := HH.out.2.1; omega
      rw [hWF]
      refine ⟨?_, by simpa using HH.out.2.2.1, ?_⟩
      · iterate 9 (refine ColA.set hne _ ?_)
        exact HH.out.1
      · iterate 9 (refine Below.setCell ?_ (by simp) _)
        exact HH.out.2.2.2
    rw [← hWF]
    clear hWF hN t0 t1 t2 t3 t4 t5 t6 t7 t8 u0 u1 u2 u3 u4 u5 u6 u7 u8 v0 v1 v2 v3 v4 v5 v6 v7 v8
    have f : ∀ j, WF.cell? ⟨w.heap.size + 1, j, none⟩ = (tabX (.slice (some ⟨h8, 0, none⟩) 1 c8) (.slice none 0 0) (.slice none 0 0))[j]? := fun j => cell_of_row _ _ j _ _ _ hf
    have f0 := f 0
    have f1 := f 1
    have f2 := f 2
    have f3 := f 3
    have f4 := f 4
    have f5 := f 5
    have f6 := f 6
    have f7 := f 7
    have f8 := f 8
    simp only [tabX, List.getElem?_toArray, List.getElem?_cons_zero, List.getElem?_cons_succ] at f0 f1 f2 f3 f4 f5 f6 f7 f8
    clear f hf
    refine bodyPost_ret (v := tabC h8 c8) (by rw [(HU2.out _ _).out]; simp [results, Try.results104, go_sem, f0, f1, f2, f3, f4, f5, f6, f7, f8]) rfl ⟨⟨h8, c8, rfl, hC.1, by have := HH.out.2.1; omega, hC.2.1⟩, hC.2.2⟩
end Go.Proofs.Ytbcjhngpcodaoaa
