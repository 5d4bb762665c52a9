/- The laws' own functions on words: awake, Ours, Same. -/
import Derived.Test.YtplgkblahmndoaaDoorLwWords
namespace Go.Proofs.YtplgkblahmndoaaDoor
open Go.RowKit Go.Lib
set_option linter.unusedVariables false
set_option maxRecDepth 100000

theorem infoR : (Tryd.prog.info? 41).map (fun i => (i.zero, i.size, i.bytes)) = some (some (.agg #[.int .i64 0, .string ⟨#[]⟩, .int .i64 0]), 3, 32) := by kernel_rfl
def noW : Wd := (0, [], 0)
theorem wsX_len (ws : List Wd) : (wsX ws).length = ws.length * 3 := by
  induction ws with
  | nil => rfl
  | cons x t ih =>
    show (wordX _ _ _ ++ wsX t).length = _
    rw [List.length_append, ih, List.length_cons]
    simp [wordX]
    omega
theorem wsX_at : ∀ (ws : List Wd) (i : Nat), i < ws.length → ∀ j, j < 3 → (wsX ws)[i * 3 + j]? = (wordX (ws.getD i noW).1 ⟨(ws.getD i noW).2.1.toArray⟩ (ws.getD i noW).2.2)[j]?
  | [], i, h, _, _ => by simp at h
  | x :: t, 0, h, j, hj => by
    show (wordX _ _ _ ++ wsX t)[0 * 3 + j]? = _
    rw [List.getElem?_append_left (by simp [wordX]; omega)]
    simp
  | x :: t, i + 1, h, j, hj => by
    show (wordX _ _ _ ++ wsX t)[(i + 1) * 3 + j]? = _
    rw [List.getElem?_append_right (by simp [wordX]; omega)]
    have e : (i + 1) * 3 + j - (wordX x.1 ⟨x.2.1.toArray⟩ x.2.2).length = i * 3 + j := by simp [wordX]; omega
    rw [e, wsX_at t i (by simp at h; omega) j hj]
    simp
/-- a word's cells -/
structure WdAt (w : World) (g o : Nat) (x : Wd) : Prop where
  c0 : w.cell? ⟨g, o, none⟩ = some (.int .i64 x.1)
  c1 : w.cell? ⟨g, o + 1, none⟩ = some (.string ⟨x.2.1.toArray⟩)
  c2 : w.cell? ⟨g, o + 2, none⟩ = some (.int .i64 x.2.2)
theorem WdAt.below {w w' : World} {g o N : Nat} {x : Wd} (h : WdAt w g o x) (hg : g < N) (hb : Below N w w') : WdAt w' g o x :=
  ⟨(World.cell?_of_block (hb.block g hg)).trans h.c0, (World.cell?_of_block (hb.block g hg)).trans h.c1, (World.cell?_of_block (hb.block g hg)).trans h.c2⟩
theorem wd_at {w : World} {B n : Nat} {T : TypeId} {v : Value} {ws : List Wd} (h : w.ownsRow B T 3 v n (wsX ws)) {i : Nat} (hi : i < n) :
    ∃ g cap, v = .slice (some ⟨g, 0, none⟩) n cap ∧ g < w.heap.size ∧ B ≤ g ∧ ∀ i, i < n → WdAt w g (i * 3) (ws.getD i noW) := by
  have hl := h.1
  rw [wsX_len] at hl
  have hl : ws.length = n := by omega
  obtain ⟨g, cap, hv, hb, hlt⟩ := h.form (by omega)
  subst hv
  refine ⟨g, cap, rfl, hlt, hb, fun i hi => ?_⟩
  have hc : ∀ j, j < 3 → w.cell? ⟨g, i * 3 + j, none⟩ = (wordX (ws.getD i noW).1 ⟨(ws.getD i noW).2.1.toArray⟩ (ws.getD i noW).2.2)[j]? := fun j hj => by
    rw [h.cellAt (i * 3 + j) (by omega), wsX_at ws i (by omega) j hj]
  exact ⟨hc 0 (by omega), hc 1 (by omega), hc 2 (by omega)⟩
theorem take_more (ws : List Wd) {i : Nat} (h : i < ws.length) : ws.take (i + 1) = ws.take i ++ [ws.getD i noW] := by
  rw [List.take_add_one]
  congr 1
  rw [List.getD_eq_getElem?_getD, List.getElem?_eq_getElem h]
  rfl
theorem own_len {w : World} {B n : Nat} {T : TypeId} {v : Value} {ws : List Wd} (h : w.ownsRow B T 3 v n (wsX ws)) : ws.length = n := by
  have hl := h.1
  rw [wsX_len] at hl
  omega

def awX : List Wd := [(1, [97], 0), (4, [60, 61], 0), (2, [49], 1)]
theorem awA : wordsA (⟨#[97, 60, 61, 49]⟩ : ByteArray).data.toList = .ok awX := by rfl
set_option maxHeartbeats 3200000 in
theorem awake_all (w : World) (hv : VOk w) (hN : gMax < w.heap.size ∧ gErr < w.heap.size) : Calls Tryd.prog 6 #[] w fun e w' => e = .returned (.bool true) ∧ Below w.heap.size w w' := by
  have HW := Lib.hid (words_any ⟨#[97, 60, 61, 49]⟩ w hv hN (by decide))
  clear hv
  go_enter Tryd.func6, Tryd.ntmps6
  go_wp2_with fail
  refine HW.out.mono ?_
  rintro e w1 hp
  rw [awA] at hp
  obtain ⟨v, rfl, ho, hb⟩ := hp
  have ho : w1.ownsRow w.heap.size 33 3 v 3 (wsX awX) := ho
  obtain ⟨g, cap, rfl, hg, hB, hc⟩ := wd_at ho (i := 0) (by decide)
  have c := (hc 1 (by decide)).c1
  have c : w1.cell? ⟨g, 4, none⟩ = some (.string ⟨#[60, 61]⟩) := c
  have HB := Lib.hid hb
  clear ho hc HW hb
  go_wp2
  go_ret
  exact ⟨rfl, HB.out⟩

set_option maxHeartbeats 6400000 in
/-- Ours: the same words, in a row of its own -/
theorem ours_any (v : Value) (B : Nat) (ws : List Wd) (w : World) (ho : w.ownsRow B 33 3 v ws.length (wsX ws)) (hl : ws.length ≤ 4000) :
    Calls Tryd.prog 10 #[v] w fun e w' => ∃ u, e = .returned u ∧ w'.ownsRow w.heap.size 41 3 u ws.length (wsX ws) ∧ Below w.heap.size w w' := by
  obtain ⟨a, c, rfl⟩ := own_slice3 ho
  have HO := Lib.hid ho
  have hli : (ws.length : Int) ≤ 4000 := by omega
  obtain ⟨i0, hi, hz0, hz1, hz2⟩ := info_parts infoR
  clear ho
  have H0 := Lib.hid (World.ownsRow_nil w w.heap.size 41 3)
  go_enter Tryd.func10, Tryd.ntmps10
  go_wp2_with fail
  go_loopw [3, 7] (fun u i wr => ∃ k : Nat, k ≤ ws.length ∧ i = .int .i64 (k : Int) ∧ Hid (wr.ownsRow w.heap.size 41 3 u k (wsX (ws.take k)) ∧ Below w.heap.size w wr)) (fun _ i _ => ws.length - (RowKit.intOf i).toNat)
  case atStart => exact ⟨0, by omega, rfl, Lib.hid ⟨H0.out, Below.refl _ _⟩⟩
  case round =>
    obtain ⟨k, hk, rfl, HR⟩ := hrel
    have hk0 : (0 : Int) ≤ (k : Int) := by omega
    obtain ⟨au, cu, rfl⟩ := own_slice3 HR.out.1
    by_cases hlt : k < ws.length
    · have hki : (k : Int) < (ws.length : Int) := by omega
      obtain ⟨g, cap, he, hg, hB, hc⟩ := wd_at HO.out hlt
      cases he
      have hx := (hc k hlt).below hg HR.out.2
      obtain ⟨c0, c1, c2⟩ := hx
      have HT := Lib.hid (take_more ws hlt)
      generalize ws.getD k noW = x at *
      obtain ⟨x1, x2, x3⟩ := x
      simp only at c0 c1 c2
      clear hc
      go_wp2_with (at_builtin; refine wpList_append_lies _ rfl (.tmp 10) (.tmp 15) 27 rfl w.heap.size 41 i0 (.agg #[.int .i64 0, .string ⟨#[]⟩, .int .i64 0]) 3 32 Tryd.underlying27 hi hz0 hz1 hz2 rfl (by decide) (.slice au k cu) k (wsX (ws.take k)) rfl (own_below HR.out.1 (bel0 _ (Below.refl _ _))) ⟨wr.heap.size, 0, none⟩ 1 1 (wordX x1 ⟨x2.toArray⟩ x3) rfl rfl ?c1 ?c2 (by omega) (by unfold maxLen; omega) (by omega) (by have := HR.out.2.size; simp; omega) _ rfl ?_)
      case c1 =>
        intro j u hu
        have hh := Go.heap_alloc_new wr (Obj.cells #[.int .i64 x1, .string ⟨x2.toArray⟩, .int .i64 x3] 41)
        match j, hu with
        | 0, hu => simp [wordX] at hu; subst hu; exact cell_of_row _ _ 0 _ _ _ hh
        | 1, hu => simp [wordX] at hu; subst hu; exact cell_of_row _ _ 1 _ _ _ hh
        | 2, hu => simp [wordX] at hu; subst hu; exact cell_of_row _ _ 2 _ _ _ hh
        | j + 3, hu => simp [wordX] at hu
      case c2 => intro u hu; simp [wordX] at hu; rcases hu with rfl | rfl | rfl <;> rfl
      intro g3 c3 w9 hown9 hg9 hor9 hlt9
      have HN := Lib.hid (show w9.ownsRow w.heap.size 41 3 (.slice (some ⟨g3, 0, none⟩) (k + 1) c3) (k + 1) (wsX (ws.take (k + 1))) ∧ Below w.heap.size w w9 from by
        refine ⟨?_, ?_⟩
        · rw [HT.out]
          have := wsX_snoc (ws.take k) x1 ⟨x2.toArray⟩ x3
          rw [this] at hown9
          exact hown9
        · refine (bt HR.out.2 (bel0 _ (Below.refl _ _))).grown hg9 (by have := HR.out.2.size; simp; omega) (fun q hq => (HR.out.1.lt q hq).1))
      clear hown9 hg9 hor9 hlt9
      go_wp2
      go_roundw
      case rel => exact ⟨k + 1, by omega, rfl, HN⟩
      case measure =>
        simp [go_sem, RowKit.intOf]
        omega
    · obtain rfl : k = ws.length := by omega
      have HE := Lib.hid (show wr.ownsRow w.heap.size 41 3 (.slice au ws.length cu) ws.length (wsX ws) by
        have := HR.out.1
        rwa [List.take_length] at this)
      clear hlt
      go_wp2
      go_ret
      exact ⟨_, rfl, HE.out, HR.out.2⟩
end Go.Proofs.YtplgkblahmndoaaDoor
