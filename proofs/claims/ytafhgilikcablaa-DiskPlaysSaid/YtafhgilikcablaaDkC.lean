/- Contract: leave. -/
import Derived.Test.YtafhgilikcablaaDkL
namespace Go.Proofs.Ytafhgilikcablaa
open Go.RowKit Go.Maps
set_option linter.unusedVariables false
set_option maxRecDepth 100000

/-- what a byte becomes -/
def lvV (zs ys : List Int) (kept : Int) (i : Nat) : Int := if kept = 0 then (if i < ys.length then ys.getD i 0 else 0) else if kept = 1 then zs.getD i 0 else kept % 256
/-- what a sector's bytes become -/
def lvB (zs ys : List Int) (a b : Nat) (kept : Int) : List Int := (List.range zs.length).map fun i => if a ≤ i ∧ i < b then lvV zs ys kept i else zs.getD i 0
theorem lvB_length (zs ys : List Int) (a b : Nat) (kept : Int) : (lvB zs ys a b kept).length = zs.length := by simp [lvB]
theorem lvB_at {zs ys : List Int} {a b : Nat} {kept : Int} {i : Nat} (h : i < zs.length) : (lvB zs ys a b kept).getD i 0 = if a ≤ i ∧ i < b then lvV zs ys kept i else zs.getD i 0 := by
  rw [List.getD_eq_getElem?_getD, lvB, List.getElem?_map, List.getElem?_range h]
  rfl
theorem ext_getD {a b : List Int} (hl : a.length = b.length) (h : ∀ i, i < a.length → a.getD i 0 = b.getD i 0) : a = b := by
  apply List.ext_getElem hl
  intro i h1 h2
  have := h i h1
  rw [List.getD_eq_getElem?_getD, List.getD_eq_getElem?_getD, List.getElem?_eq_getElem h1, List.getElem?_eq_getElem h2] at this
  exact this
theorem lvB_none {zs ys : List Int} {a b : Nat} {kept : Int} (h : b ≤ a) : lvB zs ys a b kept = zs := by
  apply ext_getD (lvB_length _ _ _ _ _)
  intro i hi
  rw [lvB_length] at hi
  rw [lvB_at hi, if_neg (by omega)]
theorem set_getD (l : List Int) (j i : Nat) (x : Int) (hi : i < l.length) : (l.set j x).getD i 0 = if j = i then x else l.getD i 0 := by
  rw [List.getD_eq_getElem?_getD, List.getElem?_set]
  split
  · rename_i e
    subst e
    rw [if_pos hi]; rfl
  · rw [List.getD_eq_getElem?_getD]
theorem lvB_step {zs ys : List Int} {a j : Nat} {kept : Int} (ha : a ≤ j) (hj : j < zs.length) : lvB zs ys a (j + 1) kept = (lvB zs ys a j kept).set j (lvV zs ys kept j) := by
  apply ext_getD (by simp [lvB_length])
  intro i hi
  rw [lvB_length] at hi
  rw [lvB_at hi, set_getD _ _ _ _ (by rw [lvB_length]; exact hi), lvB_at hi]
  by_cases e : j = i
  · subst e
    rw [if_pos ⟨ha, by omega⟩, if_pos rfl]
  · rw [if_neg e]
    by_cases h : a ≤ i ∧ i < j
    · rw [if_pos h, if_pos ⟨h.1, by omega⟩]
    · rw [if_neg h, if_neg (by omega)]
theorem lvB_keep {zs ys : List Int} {a j : Nat} {kept : Int} (h : lvV zs ys kept j = zs.getD j 0) (ha : a ≤ j) (hj : j < zs.length) : lvB zs ys a (j + 1) kept = lvB zs ys a j kept := by
  apply ext_getD (by simp [lvB_length])
  intro i hi
  rw [lvB_length] at hi
  rw [lvB_at hi, lvB_at hi]
  by_cases e : i = j
  · subst e
    rw [if_pos ⟨ha, by omega⟩, if_neg (by omega), h]
  · by_cases h' : a ≤ i ∧ i < j
    · rw [if_pos h', if_pos ⟨h'.1, by omega⟩]
    · rw [if_neg h', if_neg (by omega)]
theorem lvV_range {zs ys : List Int} (hz : ∀ z ∈ zs, 0 ≤ z ∧ z ≤ 255) (hy : ∀ z ∈ ys, 0 ≤ z ∧ z ≤ 255) (kept : Int) (i : Nat) : 0 ≤ lvV zs ys kept i ∧ lvV zs ys kept i ≤ 255 := by
  have g : ∀ {l : List Int}, (∀ z ∈ l, 0 ≤ z ∧ z ≤ 255) → 0 ≤ l.getD i 0 ∧ l.getD i 0 ≤ 255 := fun {l} hl => by
    rw [List.getD_eq_getElem?_getD]
    cases e : l[i]? with
    | none => simp
    | some x => exact hl x (List.mem_of_getElem? e)
  unfold lvV
  split
  · split
    · exact g hy
    · omega
  · split
    · exact g hz
    · omega
theorem lvB_range {zs ys : List Int} (hz : ∀ z ∈ zs, 0 ≤ z ∧ z ≤ 255) (hy : ∀ z ∈ ys, 0 ≤ z ∧ z ≤ 255) (a b : Nat) (kept : Int) : ∀ z ∈ lvB zs ys a b kept, 0 ≤ z ∧ z ≤ 255 := fun z h => by
  unfold lvB at h
  obtain ⟨i, hi, rfl⟩ := List.mem_map.1 h
  split
  · exact lvV_range hz hy kept i
  · rw [List.getD_eq_getElem?_getD]
    cases e : zs[i]? with
    | none => simp
    | some x => exact hz x (List.mem_of_getElem? e)

/-- a file and what was synced of it, and no sector yet: both rows, in their cells -/
structure Rows2 (w : World) (D off B : Nat) (cs : Array Value) (T : TypeId) (v s : Value) (zs ys : List Int) : Prop where
  box : w.heap[D]? = some (.cells cs T (0, 0))
  cv : cs[off]? = some v
  cs1 : cs[off + 1]? = some s
  lt : D < B
  now : w.ownsRow B 5 1 v zs.length (zs.map (Value.int .u8))
  syn : w.ownsRow B 5 1 s ys.length (ys.map (Value.int .u8))
  rz : ∀ z ∈ zs, 0 ≤ z ∧ z ≤ 255
  ry : ∀ z ∈ ys, 0 ≤ z ∧ z ≤ 255
  apart : ∀ g, v.ownBlock = some g → s.ownBlock ≠ some g
/-- one byte is written -/
theorem Rows2.put {w : World} {D off B : Nat} {cs : Array Value} {T : TypeId} {g n c : Nat} {s : Value} {zs ys : List Int} (h : Rows2 w D off B cs T (.slice (some ⟨g, 0, none⟩) n c) s zs ys) (j : Nat) (x : Int) (hx : 0 ≤ x ∧ x ≤ 255) :
    Rows2 (w.setCell ⟨g, j, none⟩ (.int .u8 x)) D off B cs T (.slice (some ⟨g, 0, none⟩) n c) s (zs.set j x) ys ∧ Only (fun i => i = g) w (w.setCell ⟨g, j, none⟩ (.int .u8 x)) := by
  have hn : n = zs.length := by
    rcases h.now.2 with ⟨e, _⟩ | ⟨_, _, _, e, _⟩
    · cases e
    · cases e; rfl
  subst hn
  obtain ⟨h1, h2⟩ := World.ownsRow.stored h.now j (.int .u8 x)
  have hD : D ≠ g := fun e => by have := (own_at (g := g) h.now rfl).1; have := h.lt; omega
  refine ⟨⟨(h2.block D (Array.getElem?_eq_some_iff.1 h.box).1 (fun e => hD (Option.some.inj e))).trans h.box, h.cv, h.cs1, h.lt, ?_, ?_, fun z hz => ?_, h.ry, h.apart⟩, Only.of h2 (fun K hK => (Option.some.inj hK).symm)⟩
  · rw [List.length_set, List.map_set]
    exact h1
  · exact h.syn.kept h2 (.inr (fun e => h.apart g rfl e))
  · rcases List.mem_or_eq_of_mem_set hz with h' | h'
    · exact h.rz z h'
    · rw [h']; exact hx
/-- behind leave -/
def Left (w : World) (D off B : Nat) (cs : Array Value) (T : TypeId) (v s : Value) (zs ys : List Int) (w' : World) : Prop := Rows2 w' D off B cs T v s zs ys ∧ Only (fun i => v.ownBlock = some i) w w'

theorem Left.draw {w W : World} {D off B : Nat} {cs : Array Value} {T : TypeId} {v s : Value} {zs ys : List Int} (h : Left w D off B cs T v s zs ys W) : Left w D off B cs T v s zs ys W.drew :=
  ⟨⟨h.1.box, h.1.cv, h.1.cs1, h.1.lt, h.1.now, h.1.syn, h.1.rz, h.1.ry, h.1.apart⟩, ⟨h.2.os, h.2.tape, h.2.output, h.2.size, h.2.block⟩⟩
set_option maxHeartbeats 3200000 in
theorem leave_any (w : World) (D off B : Nat) (cs : Array Value) (T : TypeId) (v s : Value) (zs ys : List Int) (a b : Nat) (kept : Int) (h : Rows2 w D off B cs T v s zs ys) (hab : a ≤ b) (hb : b ≤ zs.length) (hzl : zs.length ≤ 2000000) (hyl : ys.length ≤ 2000000) (hk : -9223372036854775808 ≤ kept ∧ kept ≤ 9223372036854775807) :
    Calls Try.prog 131 #[.pointer (some ⟨D, off, none⟩), .int .i64 (a : Int), .int .i64 (b : Int), .int .i64 kept] w fun e w' => e = .returned (.tuple #[]) ∧ Left w D off B cs T v s (lvB zs ys a b kept) ys w' := by
  have H := Lib.hid h
  have HAB := Lib.hid (And.intro hab hb)
  have HYl := Lib.hid hyl
  have hbi : (b : Int) ≤ 2000000 := by omega
  clear h hab hb hyl
  go_enter Try.func131, Try.ntmps131
  go_wp2
  go_loopw [8] (fun i wr => ∃ j : Nat, a ≤ j ∧ j ≤ b ∧ i = .int .i64 (j : Int) ∧ Hid (Left w D off B cs T v s (lvB zs ys a j kept) ys wr)) (fun i _ => b - (intOf i).toNat)
  case atStart => exact ⟨a, Nat.le_refl _, HAB.out.1, rfl, Lib.hid (by rw [lvB_none (Nat.le_refl _)]; exact ⟨H.out, Only.refl _ _⟩)⟩
  case round =>
    obtain ⟨j, haj, hjb, rfl, HR⟩ := hrel
    have hj0 : (0 : Int) ≤ (j : Int) := by omega
    have hj2 : (j : Int) ≤ 2000000 := by omega
    by_cases hlt : j < b
    · have hji : (j : Int) < (b : Int) := by omega
      have hjz : j < zs.length := by have := HAB.out; omega
      obtain ⟨va, vL, vc, hve, hvL, hvI, hvlo, hvn, hvle, hvB⟩ := own_any HR.out.1.now HR.out.1.rz
      rw [lvB_length] at hvL
      subst hve
      subst hvL
      obtain ⟨g, rfl⟩ : ∃ g, va = some ⟨g, 0, none⟩ := by
        rcases HR.out.1.now.2 with ⟨e, _⟩ | ⟨g, _, _, e, _⟩
        · injection e with _ e2 _; omega
        · injection e with e1 _ _; exact ⟨g, e1⟩
      obtain ⟨sa, sL, sc, hse, hsL, hsI, hslo, hsn, hsle, hsB⟩ := own_any HR.out.1.syn HR.out.1.ry
      subst hse
      subst hsL
      have q0 := cell_of_row wr D off cs T _ HR.out.1.box
      have q1 := cell_of_row wr D (off + 1) cs T _ HR.out.1.box
      rw [HR.out.1.cv] at q0
      rw [HR.out.1.cs1] at q1
      have hnow := HR.out.1.now
      rw [lvB_length] at hnow
      have fz := World.ownsRow.frozenAt hnow j
      have cz0 := hnow.cellAt j (by omega)
      have cz : ∃ cur : Int, wr.cell? ⟨g, j, none⟩ = some (.int .u8 cur) := by
        rw [List.getElem?_map, List.getElem?_eq_getElem (by rw [lvB_length]; exact hjz)] at cz0
        exact ⟨_, cz0⟩
      obtain ⟨cur, cz⟩ := cz
      clear cz0
      have hW : ∀ x, 0 ≤ x ∧ x ≤ 255 → x = lvV zs ys kept j → Left w D off B cs T (.slice (some ⟨g, 0, none⟩) zs.length vc) (.slice sa ys.length sc) (lvB zs ys a (j + 1) kept) ys (wr.setCell ⟨g, j, none⟩ (.int .u8 x)) := fun x hx e => by
        obtain ⟨h1, h2⟩ := HR.out.1.put j x hx
        rw [lvB_step haj hjz, ← e]
        exact ⟨h1, HR.out.2.trans (h2.mono (fun i hi => by rw [hi]; rfl))⟩
      have HW := Lib.hid hW
      clear hnow hW
      have hjz2 : (j : Int) < (zs.length : Int) := by omega
      have HJ := Lib.hid (And.intro hlt (And.intro haj hjz))
      have HSy := Lib.hid HR.out.1.syn
      have HRy := Lib.hid HR.out.1.ry
      have HKeep := Lib.hid (show lvV zs ys kept j = zs.getD j 0 → Left w D off B cs T (.slice (some ⟨g, 0, none⟩) zs.length vc) (.slice sa ys.length sc) (lvB zs ys a (j + 1) kept) ys wr from fun e => by rw [lvB_keep e haj hjz]; exact HR.out)
      clear hvI hvlo hvn hvle hvB hsI hslo hsn hsle hsB hlt haj hjz hjb HR
      by_cases hk0 : kept = 0
      · subst hk0
        by_cases hjy : j < ys.length
        · have hjy2 : (j : Int) < (ys.length : Int) := by omega
          obtain ⟨g2, rfl⟩ : ∃ g2, sa = some ⟨g2, 0, none⟩ := by
            rcases HSy.out.2 with ⟨e, _⟩ | ⟨g', _, _, e, _⟩
            · injection e with _ e2 _; omega
            · injection e with e1 _ _; exact ⟨g', e1⟩
          have cy := HSy.out.cellAt j (by omega)
          rw [List.getElem?_map, List.getElem?_eq_getElem hjy] at cy
          have HY := Lib.hid (show ys[j] = lvV zs ys 0 j ∧ 0 ≤ ys[j] ∧ ys[j] ≤ 255 from ⟨by unfold lvV; rw [if_pos rfl, if_pos hjy, List.getD_eq_getElem?_getD, List.getElem?_eq_getElem hjy]; rfl, HRy.out _ (List.getElem_mem hjy)⟩)
          generalize ys[j] = y at *
          replace cy : wr.cell? ⟨g2, j, none⟩ = some (.int .u8 y) := cy
          have HNew := Lib.hid (HW.out y HY.out.2 HY.out.1)
          clear hjy HKeep
          go_upto_region 4 with (fail)
          go_region_law (fail)
          all_goals
            go_wp2
            go_roundw
            case rel => exact ⟨j + 1, by have := HJ.out; omega, by have := HJ.out; omega, by go_num, Lib.hid HNew.out.draw⟩
            case measure => have := HJ.out; simp [intOf]; omega
        · have hjy2 : (ys.length : Int) ≤ (j : Int) := by omega
          have HNew := Lib.hid (HW.out 0 (by omega) (by unfold lvV; rw [if_pos rfl, if_neg hjy]))
          clear hjy HKeep
          go_wp2
          go_roundw
          case rel => exact ⟨j + 1, by have := HJ.out; omega, by have := HJ.out; omega, by go_num, HNew⟩
          case measure => have := HJ.out; simp [intOf]; omega
      · have hk0b : (kept == 0) = false := beq_eq_false_iff_ne.2 hk0
        by_cases hk1 : kept = 1
        · subst hk1
          have HNew := Lib.hid (HKeep.out (by unfold lvV; rw [if_neg (by omega), if_pos rfl]))
          clear hk0 hk0b HKeep
          go_wp2
          go_roundw
          case rel => exact ⟨j + 1, by have := HJ.out; omega, by have := HJ.out; omega, by go_num, HNew⟩
          case measure => have := HJ.out; simp [intOf]; omega
        · have hk1b : (kept == 1) = false := beq_eq_false_iff_ne.2 hk1
          have hk1c : (kept != 1) = true := by simp [hk1]
          have HNew := Lib.hid (HW.out (kept % 256) (by omega) (by unfold lvV; rw [if_neg hk0, if_neg hk1]))
          clear hk0 hk1 HKeep
          go_wp2
          go_roundw
          case rel => exact ⟨j + 1, by have := HJ.out; omega, by have := HJ.out; omega, by go_num, HNew⟩
          case measure => have := HJ.out; simp [intOf]; omega
    · have hkk : (b : Int) ≤ (j : Int) := by omega
      have hjb' : j = b := by omega
      have HE := Lib.hid (show Left w D off B cs T v s (lvB zs ys a b kept) ys wr from by rw [← hjb']; exact HR.out)
      clear hjb' hlt hjb haj HR
      go_wp2
      go_end0
      exact ⟨rfl, HE.out⟩
end Go.Proofs.Ytafhgilikcablaa
