/- VmRuns and VmMeans: the laws' awake. (Cut out of XVmL.) -/
import Derived.Test.YtafhgilikcablaaVmRun
import Derived.Test.YtafhgilikcablaaCmF
import Derived.Test.YtafhgilikcablaaForm1
namespace Go.Proofs.Ytafhgilikcablaa
open Go.RowKit
set_option linter.unusedVariables false
set_option linter.unusedSimpArgs false
set_option maxRecDepth 100000

theorem infoReg : (Try.prog.info? 148).map (fun i => (i.zero, i.size, i.bytes)) = some (some (.agg #[.int .i64 0, .int .i64 0, .string ⟨#[]⟩, .int .i64 0]), 4, 40) := by kernel_rfl
theorem jump_mono {l : Nat} {J J' : Act → World → Prop} {Q : Exit → Act → World → Prop} (h : ∀ a w, J a w → J' a w) : ∀ e a w, Exit.jump l J Q e a w → Exit.jump l J' Q e a w := fun e a w hh => by
  cases e <;> first | exact hh | exact ⟨hh.1, h _ _ hh.2⟩
/-- what holds at the label, whatever world the first part left -/
def VmJJ (ca : Option Addr) (cl cc : Nat) (k : Int) (xs : List Ins) (ra : Option Addr) (rl rc : Nat) (R : List (List Val)) (P2 P4 K : Nat) (ws : World) (a' : Act) (w' : World) : Prop :=
  ∃ g W0, W0.heap.size ≤ g ∧ VmIn ca cl cc k xs ra rl R P2 P4 W0 ∧ Below ws.heap.size ws W0 ∧ VmJ ra rl rc P2 P4 g K R xs (runP R k xs) W0 a' w'
def RunP (w : World) (y : Val × Int × Int) (e : Ending) (w' : World) : Prop := e = .returned (.tuple #[valV y.1, .int .i64 y.2.1, .int .i64 y.2.2]) ∧ Below w.heap.size w w'

/-- the end of a run -/
theorem run_end {w W1 : World} {y : Val × Int × Int} (hb : Below w.heap.size w W1) : ∀ (a' : Act) (w' w2 : World), a'.defers = [] → a'.tmps.getD 4 undef = .pointer (some ⟨w.heap.size + 1, 0, none⟩) → a'.tmps.getD 5 undef = .int .i64 y.2.1 → a'.tmps.getD 6 undef = .int .i64 y.2.2 → ResAt w' (w.heap.size + 1) y.1 → Below W1.heap.size W1 w2 → Sto (w.heap.size + 1) w2 w' →
    bodyPost Try.prog Try.f37 (RunP w y) .ret a' w' := by
  intro a3 w3 w2 hd h4 h5 h6 hR hb2 hS
  refine bodyPost_ret (results_val3 rfl _ _ (w.heap.size + 1) y.1 h4 hR) hd ?_
  rw [h5, h6]
  exact ⟨rfl, Below.sto (bt hb hb2) hS (by omega) (bt hb hb2).size⟩
set_option maxHeartbeats 12800000 in
theorem vmrun_any (ca : Option Addr) (cl cc : Nat) (k : Int) (xs : List Ins) (ra : Option Addr) (rl rc : Nat) (R : List (List Val)) (w : World) (hI : IsI w ca cl xs) (hN : ∀ x ∈ xs, InsR x) (hR : IsRR w ra rl R) (hRr : RowsR R) :
    Calls Try.prog 37 #[.agg #[.slice ca cl cc, .int .i64 k], .slice ra rl rc] w (RunP w (runP R k xs)) := by
  obtain ⟨W0, hW0⟩ : ∃ W0, W0 = (w.alloc (.cells #[.slice ca cl cc, .int .i64 k] 76)).alloc (.cells #[.int .i64 0, .int .i64 0, .string ⟨#[]⟩] 38) := ⟨_, rfl⟩
  have hb0 : Below w.heap.size w W0 := by rw [hW0]; exact bel0 _ (bel0 _ (Below.refl _ _))
  have hs0 : W0.heap.size = w.heap.size + 2 := by rw [hW0]; simp
  have p0 : W0.cell? ⟨w.heap.size, 0, none⟩ = some (.slice ca cl cc) := by rw [hW0]; simp [go_sem]
  have p1 : W0.cell? ⟨w.heap.size, 1, none⟩ = some (.int .i64 k) := by rw [hW0]; simp [go_sem]
  have p4 : ResAt W0 (w.heap.size + 1) noV := by
    have := Go.heap_alloc_new (w.alloc (.cells #[.slice ca cl cc, .int .i64 k] 76)) (.cells #[.int .i64 0, .int .i64 0, .string ⟨#[]⟩] 38)
    rw [hW0]
    unfold ResAt
    simpa [noV] using this
  have HIn := Lib.hid (show VmIn ca cl cc k xs ra rl R w.heap.size (w.heap.size + 1) W0 from ⟨hI.below hb0, hR.below hb0, p0, p1, p4, hN, hRr⟩)
  have HB0 := Lib.hid hb0
  have HW := Lib.hid hW0
  have HS := Lib.hid hs0
  clear hI hR hb0 hs0 hN hRr p4
  by_cases hf : formedP k xs = true
  · obtain ⟨K, rfl⟩ : ∃ K : Nat, k = (K : Int) := ⟨k.toNat, by have := (formed_at hf).1; omega⟩
    have HF := Lib.hid hf
    have hK : 1 ≤ K ∧ K ≤ 1000 := by have := (formed_at hf).1; omega
    have hK1 : (1 : Int) ≤ (K : Int) := by omega
    have hK2 : (K : Int) ≤ 1000 := by omega
    have HK := Lib.hid hK
    have hfin : runP R (K : Int) xs = runR R xs (xs.length + 1) 0 (List.replicate K noR) := by unfold runP; rw [if_pos hf]; rfl
    have HFin := Lib.hid hfin
    clear hf hK hfin
    go_enter Try.func37, Try.ntmps37
    go_wp2_with fail
    rw [← HW.out]
    clear hW0
    refine wp_scope_jumps 0 (VmJJ ca cl cc (K : Int) xs ra rl rc R w.heap.size (w.heap.size + 1) K w) (fun a' _ => cl - atOf a') rfl ?_ ?_
    · go_wp2_with fail
      refine (cform_any ca cl cc (K : Int) xs _ HIn.out.i).mono ?_
      rintro e w1 ⟨rfl, hb1⟩
      rw [HF.out]
      have HB1 := Lib.hid hb1
      have HIn1 := Lib.hid (HIn.out.below hb1)
      have p1 := (HIn.out.below hb1).p1
      clear hb1 p0
      obtain ⟨i0, hi, hz0, hz1, hz2⟩ := info_parts infoReg
      go_wp2_with (at_make; refine wpList_make_full _ rfl _ _ 146 rfl w1.heap.size 148 i0 (.agg #[.int .i64 0, .int .i64 0, .string ⟨#[]⟩, .int .i64 0]) 4 Try.underlying146 hi hz0 hz1 _ _ _ _ K rfl rfl rfl rfl ?b2 ?b3 (Nat.le_refl _) ?_)
      case b2 => rw [hz2]; omega
      case b3 => unfold maxLen; omega
      intro w2 hown hgrow
      have hb2 : Below w1.heap.size w1 w2 := (Below.refl _ w1).grown hgrow (Nat.le_refl _) (fun j hj => by cases hj)
      have hreg : RegAt w2 w1.heap.size (upTo K 0) := by
        have h := (own_full hown).2
        unfold RegAt
        rw [h, upTo_zero, ← regC_made]
      have HB2 := Lib.hid (bt HB1.out hb2)
      have HIn2 := Lib.hid (HIn1.out.below hb2)
      have HR2 := Lib.hid hreg
      clear hown hgrow hreg p1 hi hz0 hz1 hz2
      obtain ⟨g, hgd⟩ : ∃ g, g = w1.heap.size := ⟨_, rfl⟩
      rw [← hgd] at HR2 ⊢
      have HGd := Lib.hid hgd
      have HBw := Lib.hid (show Below w1.heap.size w1 w2 from hb2)
      clear hgd hb2
      go_wp2_with fail
      go_loopw [21] (fun i wr => ∃ j : Nat, j ≤ K ∧ i = .int .i64 (j : Int) ∧ Hid (RegAt wr g (upTo K j)) ∧ Hid (Below w1.heap.size w1 wr)) (fun i _ => K - (intOf i).toNat)
      case atStart => exact ⟨0, by omega, rfl, HR2, HBw⟩
      case round =>
        obtain ⟨j, hj, rfl, HR, HB⟩ := hrel
        have hj0 : (0 : Int) ≤ (j : Int) := by omega
        by_cases hlt : j < K
        · have hj1 : (j : Int) < (K : Int) := by omega
          obtain ⟨c0, c1, c2, c3⟩ := HR.out.cells (i := j) (by rw [upTo_length hj]; exact hlt)
          have fz := HR.out.frozen
          have hgl := HR.out.lt
          have hq := HR.out.truth (i := j) (by rw [upTo_length hj]; exact hlt) 2
          rw [upTo_get hlt] at hq
          have hq2 : RegAt (wr.setCell ⟨g, j * 4 + 3, none⟩ (.int .i64 2)) g (upTo K (j + 1)) := by
            rw [← upTo_set hlt]
            exact hq
          have HQ := Lib.hid hq2
          have HBs := Lib.hid (show Below w1.heap.size w1 (wr.setCell ⟨g, j * 4 + 3, none⟩ (.int .i64 2)) from HB.out.setCell (by rw [HGd.out]; exact Nat.le_refl _) _)
          clear hq hq2
          go_wp2
          go_roundw
          case rel => exact ⟨j + 1, by omega, by go_num, HQ, HBs⟩
          case measure => simp [intOf]; omega
        · obtain rfl : j = K := by omega
          clear hlt
          have HR3 := Lib.hid (show RegAt wr g (List.replicate j noR) from by rw [← upTo_all]; exact HR.out)
          have HV := Lib.hid (VmV.mk (R := R) (xs := xs) (fin := runP R (j : Int) xs) (W0 := w1) (g := g) (K := j) (i := 0) (e := 0) (rs := List.replicate j noR) (f := xs.length + 1) (w' := wr) (Nat.zero_le _) (Nat.le_refl _) (by simp) (RegR.rep j) HR3.out HB.out (fun _ => HFin.out.symm) (fun h => absurd rfl h))
          have HGe := Lib.hid (show w1.heap.size ≤ g from by rw [HGd.out]; exact Nat.le_refl _)
          have HBa := Lib.hid (bt HB0.out HB1.out)
          go_wp2_with fail
          refine wp_label ?_
          rename_i KK hKK
          refine hKK _ _ ?_
          refine wp_mono ?_ (jump_mono (J := fun a'' w'' => VmJ ra rl rc w.heap.size (w.heap.size + 1) g j R xs (runP R (j : Int) xs) w1 a'' w'' ∧ cl - atOf a'' < cl - 0) (fun a'' w'' h => ⟨g, w1, HGe.out, HIn1.out, HBa.out, h.1⟩))
          exact vmpass ca cl cc (j : Int) xs ra rl rc R w.heap.size (w.heap.size + 1) g j (runP R (j : Int) xs) w1 HIn1.out HF.out rfl HGe.out _ (run_end HBa.out) _ wr ⟨0, 0, List.replicate j noR, xs.length + 1, _, _, _, _, _, _, _, _, _, _, _, _, _, _, _, _, _, _, _, _, _, _, _, _, _, _, _, _, _, _, _, _, _, _, _, _, _, _, _, _, _, _, _, _, _, _, _, _, _, _, _, _, _, _, _, _, _, _, _, _, _, _, _, _, _, _, _, _, _, _, _, _, _, _, _, _, _, _, _, _, _, _, _, _, _, _, _, _, _, _, _, _, _, _, _, _, _, _, _, _, _, _, _, _, _, _, _, _, _, _, _, _, _, _, _, _, _, _, _, _, _, _, _, _, _, _, _, _, _, _, _, _, _, _, _, _, _, _, _, _, _, _, _, _, _, _, _, _, _, _, _, _, _, _, _, _, _, _, _, _, _, _, _, _, _, _, _, _, _, _, _, _, _, _, _, _, _, _, _, _, _, _, _, _, _, _, _, _, _, _, _, _, _, _, _, _, _, _, _, _, _, _, _, _, _, _, _, _, _, _, _, _, _, _, _, _, _, _, _, _, _, _, _, _, _, _, _, _, _, _, _, _, _, _, _, _, _, _, _, _, _, _, _, _, _, _, _, _, _, _, _, _, _, _, _, _, _, _, _, rfl, HV.out⟩
    · intro a w' hJ
      obtain ⟨g, W1, hg, hin, hb, hJ⟩ := hJ
      refine wp_mono ?_ (jump_mono (J := fun a'' w'' => VmJ ra rl rc w.heap.size (w.heap.size + 1) g K R xs (runP R (K : Int) xs) W1 a'' w'' ∧ cl - atOf a'' < cl - atOf a) (fun a'' w'' h => ⟨⟨g, W1, hg, hin, hb, h.1⟩, h.2⟩))
      refine wp_seq ?_
      refine wp_skip ?_
      exact vmpass ca cl cc (K : Int) xs ra rl rc R w.heap.size (w.heap.size + 1) g K (runP R (K : Int) xs) W1 hin HF.out rfl hg _ (run_end hb) a w' hJ
  · have hfin : runP R k xs = (noV, 0, 1) := by unfold runP; rw [if_neg hf]
    rw [hfin]
    have hff : formedP k xs = false := Bool.eq_false_iff.2 hf
    have HF := Lib.hid hff
    clear hf hfin hff
    go_enter Try.func37, Try.ntmps37
    go_wp2_with fail
    rw [← HW.out]
    clear hW0
    go_step3
    go_wp2_with fail
    refine (cform_any ca cl cc k xs _ HIn.out.i).mono ?_
    rintro e w1 ⟨rfl, hb1⟩
    rw [HF.out]
    have hp4 := (HIn.out.below hb1).p4
    have HP4 := Lib.hid hp4
    have a0 := cell_of_row _ _ 0 _ _ _ hp4
    have a1 := cell_of_row _ _ 1 _ _ _ hp4
    have a2 := cell_of_row _ _ 2 _ _ _ hp4
    simp only [List.getElem?_toArray, List.getElem?_cons_zero, List.getElem?_cons_succ, noV] at a0 a1 a2
    have fz : ∀ j, w1.frozen? ⟨w.heap.size + 1, j, none⟩ = false := fun j => frozen_of_row _ _ j _ _ hp4
    have hlt4 : w.heap.size + 1 < w1.heap.size := (Array.getElem?_eq_some_iff.1 hp4).1
    have HRes := Lib.hid (show ResAt (((w1.setCell ⟨w.heap.size + 1, 0, none⟩ (.int .i64 0)).setCell ⟨w.heap.size + 1, 1, none⟩ (.int .i64 0)).setCell ⟨w.heap.size + 1, 2, none⟩ (.string ⟨#[]⟩)) (w.heap.size + 1) noV from vbox3 HP4.out (.int .i64 0) (.int .i64 0) (.string ⟨#[]⟩))
    have HBf := Lib.hid (show Below w.heap.size w (((w1.setCell ⟨w.heap.size + 1, 0, none⟩ (.int .i64 0)).setCell ⟨w.heap.size + 1, 1, none⟩ (.int .i64 0)).setCell ⟨w.heap.size + 1, 2, none⟩ (.string ⟨#[]⟩)) from (((bt HB0.out hb1).setCell (Nat.le_succ _) _).setCell (Nat.le_succ _) _).setCell (Nat.le_succ _) _)
    clear hb1 hp4 p0 p1
    go_wp2
    generalize ((w1.setCell ⟨w.heap.size + 1, 0, none⟩ (.int .i64 0)).setCell ⟨w.heap.size + 1, 1, none⟩ (.int .i64 0)).setCell ⟨w.heap.size + 1, 2, none⟩ (.string ⟨#[]⟩) = w9 at *
    (try simp only [Exit.inBlock, Exit.then])
    (try rw [Exit.noGoto_ret])
    refine bodyPost_ret (results_val3 rfl _ _ (w.heap.size + 1) noV rfl HRes.out) rfl ?_
    exact ⟨rfl, HBf.out⟩
end Go.Proofs.Ytafhgilikcablaa
namespace Go.Proofs.Ytafhgilikcablaa
open Go.RowKit
set_option linter.unusedVariables false
set_option linter.unusedSimpArgs false
set_option maxRecDepth 100000
def insA : Ins := ⟨⟨#[99, 111, 110, 115, 116]⟩, 0, 0, 0, (1, 7, ⟨#[]⟩)⟩
theorem formed_insA : formedP 1 [insA] = true := by
  refine formedP_all (by simp) (fun j hj => ?_)
  obtain rfl : j = 0 := by simpa using hj
  exact ok_const (N := 1) (Rg := 1) (i := 0) (a := 0) (by decide) (by show formedB 1 7 ⟨#[]⟩ = true; unfold formedB; simp [ByteArray.toList_eq])
theorem run_insA (R : List (List Val)) : runP R 1 [insA] = ((1, 7, ⟨#[]⟩), 2, 0) := by
  have e : runP R 1 [insA] = runR R [insA] 2 0 [noR] := by unfold runP; rw [if_pos formed_insA]; rfl
  rw [e]
  have h := (runR_step (rfl : runR R [insA] (1 + 1) 0 [noR] = runR R [insA] 2 0 [noR]) (by simp) (step_const R 0 0 0 (1, 7, ⟨#[]⟩) [noR] 0)).1 rfl
  exact runR_end (f := 0) h (by simp)
theorem isRR_nil (w : World) : IsRR w none 0 [] := ⟨rfl, by omega, .inl rfl⟩

set_option maxHeartbeats 1600000 in
theorem vmawake_any (w : World) : Calls Try.prog 36 #[] w fun e w' => e = .returned (.bool true) ∧ Below w.heap.size w w' := by
  obtain ⟨w0, hw0⟩ : ∃ w0, w0 = w.alloc (.cells #[.string ⟨#[99, 111, 110, 115, 116]⟩, .int .i64 0, .int .i64 0, .int .i64 0, .int .i64 1, .int .i64 7, .string ⟨#[]⟩] 138) := ⟨_, rfl⟩
  have HI := Lib.hid (show IsI w0 (some ⟨w.heap.size, 0, none⟩) 1 [insA] from ⟨rfl, by omega, .inr ⟨w.heap.size, 0, rfl, by rw [hw0]; simp, fun i hi => by
    obtain rfl : i = 0 := by omega
    rw [hw0]
    exact cells7_new w insA _⟩⟩)
  have HB0 := Lib.hid (show Below w.heap.size w w0 from by rw [hw0]; exact bel0 _ (Below.refl _ _))
  have HW := Lib.hid hw0
  clear hw0
  go_enter Try.func36, Try.ntmps36
  go_wp2_with fail
  rw [← HW.out]
  refine (vmrun_any (some ⟨w.heap.size, 0, none⟩) 1 1 1 [insA] none 0 0 [] _ HI.out (fun x hx => by
    obtain rfl : x = insA := by simpa using hx
    exact ⟨⟨by decide, by decide⟩, InR.zero, InR.zero⟩) (isRR_nil _) (by simp [RowsR])).mono ?_
  rintro e w1 ⟨rfl, hb1⟩
  rw [run_insA]
  have HB1 := Lib.hid (bt HB0.out hb1)
  clear hb1
  simp only [valV]
  go_wp2
  go_ret
  exact ⟨rfl, by first | exact bel0 _ HB1.out | exact (bel0 _ HB1.out).setCell (Nat.le_trans HB1.out.size (Nat.le_refl _)) _⟩

end Go.Proofs.Ytafhgilikcablaa
