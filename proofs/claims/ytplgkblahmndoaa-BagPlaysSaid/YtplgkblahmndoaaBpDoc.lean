/- The document's Rows: each row as often as it is there. -/
import Derived.Test.YtplgkblahmndoaaBpRow
import Derived.Deep.CutBlock
namespace Go.Proofs.Ytplgkblahmndoaa
open Go.RowKit
set_option linter.unusedVariables false
set_option maxRecDepth 100000

/-- what Rows answers -/
def RowsP (w : World) (y : List (List Val) × Int) (e : Ending) (w' : World) : Prop := ∃ v, e = .returned (.tuple #[v, .int .i64 y.2]) ∧ RowsAt w' w.heap.size v y.1 ∧ Below w.heap.size w w'
theorem take_ent {S : List EntD} {k : Nat} (h : k < S.length) : (S.map entOf).take (k + 1) = (S.map entOf).take k ++ [entOf (S.getD k noE)] := by
  rw [← List.map_take, take_snocS h, List.map_append, List.map_take]; rfl
theorem mem_ent {S : List EntD} {k : Nat} (h : k < S.length) : entOf (S.getD k noE) ∈ S.map entOf := List.mem_map_of_mem (getD_mem h)
theorem neg_yes {L : List Ent} {e : Ent} (h : e ∈ L) (hn : e.2 < 0) : rowsB L = ([], 12) := by
  unfold rowsB
  rw [if_pos]
  unfold negB
  rw [List.any_eq_true]
  exact ⟨e, h, decide_eq_true hn⟩
theorem neg_no {L : List Ent} (h : ∀ e ∈ L, 0 ≤ e.2) : negB L = false := by
  unfold negB
  rw [List.any_eq_false]
  intro e he
  have := h e he
  simp; omega
theorem sum_one (e : Ent) : sumB [e] = e.2 := by simp [sumB]
theorem rep_one (e : Ent) : repB [e] = List.replicate e.2.toNat e.1 := by simp [repB]
theorem mem_takeS {S : List EntD} {k : Nat} (h : ∀ i, i < k → 0 ≤ (S.getD i noE).n) (hk : S.length ≤ k) : ∀ e ∈ S.map entOf, 0 ≤ e.2 := by
  intro e he
  obtain ⟨x, hx, rfl⟩ := List.mem_map.1 he
  obtain ⟨i, hi, rfl⟩ := List.mem_iff_getElem.1 hx
  have := h i (by omega)
  rw [List.getD_eq_getElem?_getD, List.getElem?_eq_getElem hi] at this
  exact this
set_option maxHeartbeats 12800000 in
theorem drows_any (w : World) (E : Nat) (S : List EntD) (h : DocB w E S) (hl2 : S.length ≤ 2000) :
    Calls Try.prog 16 #[.pointer (some ⟨E, 0, none⟩)] w (RowsP w (rowsB (S.map entOf))) := by
  obtain ⟨a, l, c, hbx, hI, hlc, hn⟩ := h.bx
  have hE := h.lt
  have hfz := frozen_of_row w E 0 _ _ hbx
  have e0 : w.cell? ⟨E, 0, none⟩ = some (.slice a l c) := cell_of_row w E 0 _ _ _ hbx
  have HSl := Lib.hid hI.1
  have hm := hI.2.1
  have hli : (l : Int) ≤ 2000 := by have := hI.1; omega
  rcases hI.2.2 with rfl | ⟨b, off, rfl, hbl, hc⟩
  · have HF := Lib.hid (show rowsB (S.map entOf) = ([], 0) by rw [List.eq_nil_of_length_eq_zero hI.1]; rfl)
    clear hbx hI hn h
    go_enter Try.func16, Try.ntmps16
    go_wp2_with fail
    go_loopw [14] (fun i wr => i = .int .i64 0 ∧ wr = w) (fun _ _ => 0)
    case atStart => exact ⟨rfl, rfl⟩
    case round =>
      obtain ⟨rfl, rfl⟩ := hrel
      go_wp2_with fail
      go_loopw [32] (fun i w3 => i = .int .i64 0 ∧ w3 = wr) (fun _ _ => 0)
      case atStart => exact ⟨rfl, rfl⟩
      case round =>
        obtain ⟨rfl, hw⟩ := hrel
        subst hw
        go_wp2_with fail
        go_loopw [6, 62] (fun u i w3 => u = .slice none 0 0 ∧ i = .int .i64 0 ∧ w3 = wr) (fun _ _ _ => 0)
        case atStart => exact ⟨rfl, rfl, rfl⟩
        case round =>
          obtain ⟨rfl, rfl, hw⟩ := hrel
          subst hw
          go_wp2
          go_ret2
          rw [HF.out]
          exact ⟨_, rfl, RowsAt.nil _ _, Below.refl _ _⟩
  · have hS1 := hI.1
    have HC := Lib.hid hc
    have HDoc := Lib.hid h
    have hbE : E < w.heap.size := hE
    clear hbx hI hn h hc
    go_enter Try.func16, Try.ntmps16
    go_wp2_with fail
    go_loopw [14] (fun i wr => ∃ k : Nat, k ≤ l ∧ i = .int .i64 (k : Int) ∧ wr = w ∧ Hid (∀ j, j < k → 0 ≤ (S.getD j noE).n)) (fun i _ => l - (intOf i).toNat)
    case atStart => exact ⟨0, by omega, rfl, rfl, Lib.hid (fun j hj => by omega)⟩
    case round =>
      obtain ⟨k, hk, rfl, hwr, HNn⟩ := hrel
      subst hwr
      have hk0 : (0 : Int) ≤ (k : Int) := by omega
      by_cases hlt : k < l
      · have hki : (k : Int) < (l : Int) := by omega
        have hx := HC.out k hlt
        have c1 := hx.c1
        have HMem := Lib.hid (mem_ent (S := S) (k := k) (by omega))
        by_cases hneg : (S.getD k noE).n < 0
        · have HF := Lib.hid (neg_yes HMem.out hneg)
          generalize S.getD k noE = X at *
          clear hx
          go_wp2
          go_ret2
          rw [HF.out]
          exact ⟨_, rfl, RowsAt.nil _ _, Below.refl _ _⟩
        · have hnn : decide ((S.getD k noE).n < 0) = false := decide_eq_false hneg
          have HN2 := Lib.hid (show ∀ j, j < k + 1 → 0 ≤ (S.getD j noE).n from fun j hj => by
            rcases Nat.lt_or_ge j k with h | h
            · exact HNn.out j h
            · obtain rfl : j = k := by omega
              omega)
          have hng : 0 ≤ (S.getD k noE).n := by omega
          clear hneg HMem
          generalize S.getD k noE = X at *
          clear hx
          go_wp2
          go_roundw
          case rel => exact ⟨k + 1, by omega, by go_num, trivial, HN2⟩
          case measure => simp [intOf]; omega
      · obtain rfl : k = l := by omega
        have HAll := Lib.hid (mem_takeS HNn.out (by omega))
        have HNo := Lib.hid (neg_no HAll.out)
        clear hlt
        go_wp2_with fail
        go_loopw [4, 32] (fun t i w3 => ∃ k2 : Nat, k2 ≤ k ∧ i = .int .i64 (k2 : Int) ∧ w3 = wr ∧ ∃ n : Int, t = .int .i64 n ∧ 0 ≤ n ∧ n ≤ 100000 ∧ Hid (n = sumB ((S.map entOf).take k2))) (fun _ i _ => k - (intOf i).toNat)
        case atStart => exact ⟨0, by omega, rfl, rfl, 0, rfl, by omega, by omega, Lib.hid rfl⟩
        case round =>
          obtain ⟨k2, hk2, rfl, hwr, n, rfl, hn0, hn1, HSum⟩ := hrel
          subst hwr
          have hk20 : (0 : Int) ≤ (k2 : Int) := by omega
          by_cases hlt : k2 < k
          · have hki2 : (k2 : Int) < (k : Int) := by omega
            have hx := HC.out k2 hlt
            have c1 := hx.c1
            have HTk := Lib.hid (take_ent (S := S) (k := k2) (by omega))
            have hnn : 0 ≤ (S.getD k2 noE).n := HAll.out _ (mem_ent (S := S) (k := k2) (by omega))
            have hns := hx.num
            have HSm := Lib.hid (show sumB ((S.map entOf).take (k2 + 1)) = n + (S.getD k2 noE).n by rw [HTk.out, sumB_append, sum_one, ← HSum.out]; rfl)
            have HTot := Lib.hid (sumB_take HAll.out (k2 + 1))
            clear hx
            generalize (S.getD k2 noE).n = N at *
            by_cases hbig : N > 100000 - n
            · have HF := Lib.hid (show rowsB (S.map entOf) = ([], 14) by
                unfold rowsB
                rw [HNo.out, if_neg (by simp), if_pos]
                have := HTot.out
                rw [HSm.out] at this
                omega)
              have hbi : 100000 - n < N := hbig
              clear hbig
              go_wp2
              go_ret2
              rw [HF.out]
              exact ⟨_, rfl, RowsAt.nil _ _, Below.refl _ _⟩
            · have hbi : decide (100000 - n < N) = false := decide_eq_false hbig
              have hbj : n + N ≤ 100000 := by omega
              clear hbig
              go_wp2
              go_roundw
              case rel => exact ⟨k2 + 1, by omega, by go_num, trivial, n + N, rfl, by omega, by omega, Lib.hid HSm.out.symm⟩
              case measure => simp [intOf]; omega
          · obtain rfl : k2 = k := by omega
            have hsum : sumB (S.map entOf) ≤ 100000 := by
              have := HSum.out
              rw [List.take_of_length_le (by rw [List.length_map]; omega)] at this
              omega
            have HSumL := Lib.hid hsum
            have HF := Lib.hid (show rowsB (S.map entOf) = (repB (S.map entOf), 0) by
              unfold rowsB
              rw [HNo.out, if_neg (by simp), if_neg (by omega)])
            clear hlt hsum
            go_wp2_with fail
            obtain ⟨W0, rfl⟩ : ∃ x, x = wr := ⟨_, rfl⟩
            go_loopw [6, 62] (fun u i w3 => ∃ k3 : Nat, k3 ≤ k2 ∧ i = .int .i64 (k3 : Int) ∧ Hid (RowsAt w3 W0.heap.size u (repB ((S.map entOf).take k3)) ∧ Below W0.heap.size W0 w3)) (fun _ i _ => k2 - (intOf i).toNat)
            case atStart => exact ⟨0, by omega, rfl, Lib.hid ⟨RowsAt.nil _ _, Below.refl _ _⟩⟩
            case round =>
              obtain ⟨w3, rfl⟩ : ∃ x, x = wr := ⟨_, rfl⟩
              obtain ⟨k3, hk3, rfl, HR⟩ := hrel
              have hk30 : (0 : Int) ≤ (k3 : Int) := by omega
              by_cases hlt : k3 < k2
              · have hki3 : (k3 : Int) < (k2 : Int) := by omega
                have hx := (HC.out k3 hlt).below HR.out.2
                have c1 := hx.c1
                have e0' : w3.cell? ⟨E, 0, none⟩ = some (.slice (some ⟨b, off, none⟩) k2 c) := (HR.out.2.cell (p := ⟨E, 0, none⟩) hbE).trans e0
                have HX := Lib.hid (HC.out k3 hlt)
                have hrl : (S.getD k3 noE).rl ≤ 50 := by
                  have h1 := (HDoc.out.ok.okr _ (mem_ent (S := S) (k := k3) (by omega))).2
                  have h2 := hx.row.1
                  have h3 : (entOf (S.getD k3 noE)).1.length = (S.getD k3 noE).rv.length := rfl
                  omega
                have hN0 : 0 ≤ (S.getD k3 noE).n := HAll.out _ (mem_ent (S := S) (k := k3) (by omega))
                have HTk := Lib.hid (show repB ((S.map entOf).take (k3 + 1)) = repB ((S.map entOf).take k3) ++ List.replicate (S.getD k3 noE).n.toNat (S.getD k3 noE).rv by rw [take_ent (by omega), repB_append, rep_one]; rfl)
                have HLen := Lib.hid (show (repB ((S.map entOf).take k3)).length + (S.getD k3 noE).n.toNat ≤ 100000 by
                  have h1 := sumB_take HAll.out (k3 + 1)
                  have h2 := repB_len (L := (S.map entOf).take (k3 + 1)) (fun e he => HAll.out e (List.mem_of_mem_take he))
                  rw [HTk.out, List.length_append, List.length_replicate] at h2
                  have := HSumL.out
                  omega)
                have hns := hx.num
                generalize S.getD k3 noE = X at *
                generalize repB ((S.map entOf).take k3) = R0 at *
                clear hx
                go_wp2_with fail
                go_loopw [6, 73] (fun u i w4 => ∃ j : Nat, j ≤ X.n.toNat ∧ i = .int .i64 (j : Int) ∧ Hid (RowsAt w4 W0.heap.size u (R0 ++ List.replicate j X.rv) ∧ Below W0.heap.size W0 w4)) (fun _ i _ => X.n.toNat - (intOf i).toNat)
                case atStart => exact ⟨0, by omega, rfl, Lib.hid ⟨by simpa using HR.out.1, HR.out.2⟩⟩
                case round =>
                  obtain ⟨w4, rfl⟩ : ∃ x, x = wr := ⟨_, rfl⟩
                  obtain ⟨j, hj, rfl, HJ⟩ := hrel
                  have hj0 : (0 : Int) ≤ (j : Int) := by omega
                  by_cases hjl : j < X.n.toNat
                  · have hji : (j : Int) < X.n := by omega
                    have hx4 := HX.out.below HJ.out.2
                    have d0 := hx4.c0
                    have d1 := hx4.c1
                    have e4 : w4.cell? ⟨E, 0, none⟩ = some (.slice (some ⟨b, off, none⟩) k2 c) := (HJ.out.2.cell (p := ⟨E, 0, none⟩) hbE).trans e0
                    have hE4 : E < w4.heap.size := Nat.lt_of_lt_of_le hbE HJ.out.2.size
                    have hb4 : b < w4.heap.size := Nat.lt_of_lt_of_le hbl HJ.out.2.size
                    have e4a : ∀ o, (w4.alloc o).cell? ⟨E, 0, none⟩ = some (.slice (some ⟨b, off, none⟩) k2 c) := fun o => ((bel0 o (Below.refl w4.heap.size w4)).cell (p := ⟨E, 0, none⟩) hE4).trans e4
                    have d0a : ∀ o, (w4.alloc o).cell? ⟨b, off + k3 * 2, none⟩ = some (.slice X.ra X.rl X.rc) := fun o => ((bel0 o (Below.refl w4.heap.size w4)).cell (p := ⟨b, off + k3 * 2, none⟩) hb4).trans d0
                    have HV := Lib.hid hx4.row
                    have HNl := Lib.hid hx4.nil
                    obtain ⟨XS, hXl, hown, hat⟩ := HJ.out.1
                    obtain ⟨au, cu, rfl⟩ := own_slice3 hown
                    have HOw := Lib.hid hown
                    have HXl := Lib.hid hXl
                    have hRl : (R0 ++ List.replicate j X.rv).length ≤ 100000 := by rw [List.length_append, List.length_replicate]; have := HLen.out; omega
                    obtain ⟨RN, hRN⟩ : ∃ RN, RN = (R0 ++ List.replicate j X.rv).length := ⟨_, rfl⟩
                    have hRn : RN ≤ 100000 := by rw [hRN]; exact hRl
                    have HAt := Lib.hid (show ∀ i, i < (R0 ++ List.replicate j X.rv).length → RowAt w4 W0.heap.size (XS.getD i noX) ((R0 ++ List.replicate j X.rv).getD i []) ∧ (∀ b o, (XS.getD i noX).1 = some (b, o) → (Value.slice au RN cu).ownBlock ≠ some b) ∧ (XS.getD i noX).2.1 ≤ (XS.getD i noX).2.2.1 by rw [hRN]; exact hat)
                    rw [← hRN] at hown HOw ⊢
                    have HRN := Lib.hid hRN
                    clear hRl
                    clear hx4 hown hat hXl hRN
                    go_wp2_with (first
                      | (at_builtin; refine wpList_append_vals _ rfl (.tmp 76) (.tmp 84) rfl w4.heap.size _ 0 [] rfl (World.ownsRow_lit (base := w4.heap.size) (e := 46) (size := 3) w4 #[] 0 (Nat.le_refl _) (by unfold maxLen; omega) rfl) X.ra X.rl X.rc X.rv rfl (HV.out.below (bel0 _ (Below.refl _ _))) HNl.out (by omega) (by simp) ?_; intro v2 w5 hown2 hg2; obtain ⟨x2, rfl, hra2, hlc2⟩ := row_of_own (show w5.ownsRow w4.heap.size 46 3 v2 (0 + X.rl) (flatX X.rv) by simpa using hown2); have hb5 : Below w4.heap.size w4 w5 := (bel0 (.cells #[] 46) (Below.refl w4.heap.size w4)).grown hg2 (by simp) (fun k hk => by cases hk; exact Nat.le_refl _); have HB5 := Lib.hid hb5; have HRa := Lib.hid hra2; have HLc := Lib.hid hlc2; have HO2 := Lib.hid (own_past HOw.out hg2); clear hown2 hg2 hb5 hra2 hlc2)
                      | (at_builtin; refine wpList_append_hd _ rfl (.tmp 75) (.tmp 86) rfl W0.heap.size _ RN (XS.map hdX) rfl (HO2.out.alloc _) w5.heap.size x2 rfl (Go.heap_alloc_new _ _) (by omega) (by have := HJ.out.2.size; have := HB5.out.size; simp; omega) ?_; intro g3 c3 w9 hown9 hg9 hor9 hlt9))
                    have HN := Lib.hid (show RowsAt w9 W0.heap.size (.slice (some ⟨g3, 0, none⟩) (RN + 1) c3) (R0 ++ List.replicate (j + 1) X.rv) ∧ Below W0.heap.size W0 w9 from by
                      have hbc : Below w4.heap.size w4 (w5.alloc (.cells #[hdX x2] 23)) := bt HB5.out (bel0 _ (Below.refl _ _))
                      refine ⟨?_, (HJ.out.2.trans (hbc.mono HJ.out.2.size)).grown hg9 (by have := HJ.out.2.size; have := hbc.size; omega) (fun k hk => (HOw.out.lt k hk).1)⟩
                      rw [List.replicate_succ', ← List.append_assoc]
                      exact RowsAt.push (wr := w4) (wc := w5.alloc (.cells #[hdX x2] 23)) HAt.out HXl.out (fun k hk => (HOw.out.lt k hk).2) hbc (HRa.out.below (bel0 _ (Below.refl _ _))) HLc.out HJ.out.2.size HRN.out hown9 hg9 hor9)
                    clear hown9 hg9 hor9 hlt9
                    go_wp2
                    go_roundw
                    case rel => exact ⟨j + 1, by omega, by go_num, HN⟩
                    case measure => simp [intOf]; omega
                  · have hje : j = X.n.toNat := by omega
                    have HN := Lib.hid (show RowsAt w4 W0.heap.size _ (repB ((S.map entOf).take (k3 + 1))) ∧ Below W0.heap.size W0 w4 from ⟨by rw [HTk.out, ← hje]; exact HJ.out.1, HJ.out.2⟩)
                    have hjd : decide ((j : Int) < X.n) = false := decide_eq_false (by omega)
                    have hjn : X.n ≤ (j : Int) := by omega
                    clear hjl hje
                    go_wp2
                    go_roundw
                    case rel => exact ⟨k3 + 1, by omega, by go_num, HN⟩
                    case measure => simp [intOf]; omega
              · obtain rfl : k3 = k2 := by omega
                have hR := HR.out.1
                rw [List.take_of_length_le (by rw [List.length_map]; omega)] at hR
                have HRw := Lib.hid hR
                clear hlt hR
                go_wp2
                go_ret2
                rw [HF.out]
                exact ⟨_, rfl, HRw.out, HR.out.2⟩
end Go.Proofs.Ytplgkblahmndoaa
