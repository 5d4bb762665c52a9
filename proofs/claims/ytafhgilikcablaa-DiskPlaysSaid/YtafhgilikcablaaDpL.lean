/- DiskPlays: both disks new; the law's walk. -/
import Derived.Test.YtafhgilikcablaaDpDo
import Derived.Test.YtafhgilikcablaaDkAwk
import Derived.Test.YtafhgilikcablaaDkFew
namespace Go.Proofs.Ytafhgilikcablaa
open Go.RowKit Go.Maps
set_option linter.unusedVariables false
set_option maxRecDepth 100000

set_option maxHeartbeats 800000 in
theorem pnew_any (w : World) (r : Int) : Calls Try.prog 10 #[.int .i64 r] w fun e w' => e = .returned (.pointer (some ⟨w.heap.size, 0, none⟩)) ∧
    w' = w.alloc (.cells #[.slice none 0 0, .slice none 0 0, .map none, .slice none 0 0, .slice none 0 0, .map none, .int .i64 (max 0 r), .bool false, .int .i64 0, .bool false] 94) := by
  go_enter Try.func10, Try.ntmps10
  go_wp2
  go_ret
  exact ⟨rfl, rfl⟩
theorem pc_new (w : World) (r : Int) : PC (w.alloc (.cells #[.slice none 0 0, .slice none 0 0, .map none, .slice none 0 0, .slice none 0 0, .map none, .int .i64 (max 0 r), .bool false, .int .i64 0, .bool false] 94)) w.heap.size (w.heap.size + 1) (.slice none 0 0) (.slice none 0 0) (.map none) (.slice none 0 0) (.slice none 0 0) (.map none) (DA.new r) := by
  have nn : ∀ v, Ap (.slice none 0 0) v := fun v g h => (by cases h)
  have hb := Go.heap_alloc_new w (.cells #[.slice none 0 0, .slice none 0 0, .map none, .slice none 0 0, .slice none 0 0, .map none, .int .i64 (max 0 r), .bool false, .int .i64 0, .bool false] 94)
  have hm : max 0 r = max r 0 := by omega
  refine ⟨by rw [hb, hm]; rfl, by omega, by simp, ⟨World.ownsRow_nil _ _ _ _, by simp [DA.new], .inl ⟨rfl, rfl⟩⟩, ⟨World.ownsRow_nil _ _ _ _, by simp [DA.new], .inl ⟨rfl, rfl⟩⟩, World.ownsRow_nil _ _ _ _, World.ownsRow_nil _ _ _ _, nn _, nn _, nn _, nn _, nn _, nn _, fun g h => (by cases h)⟩
/-- the document's disk while it is made -/
def NwB (w : World) (r : Int) (m0 m1 : Value) (wr : World) : Prop := wr.heap[w.heap.size]? = some (.cells #[.slice none 0 0, .slice none 0 0, m0, .slice none 0 0, .slice none 0 0, m1, .int .i64 (max r 0), .int .i64 (-1), .bool false] 100 (0, 0)) ∧ Only (fun _ => False) w wr
def Nw (w : World) (r : Int) : Nat → World → Prop
  | 0, wr => NwB w r (.map none) (.map none) wr
  | 1, wr => ∃ M0, TIn wr M0 [] ∧ w.heap.size < M0 ∧ NwB w r (.map (some M0)) (.map none) wr
  | _, wr => ∃ M0 M1, TIn wr M0 [] ∧ TIn wr M1 [] ∧ w.heap.size < M0 ∧ w.heap.size < M1 ∧ M0 ≠ M1 ∧ NwB w r (.map (some M0)) (.map (some M1)) wr
theorem nwB_step {w wr : World} {r : Int} {m0 m1 : Value} (h : NwB w r m0 m1 wr) (j : Nat) (cs : Array Value) (hcs : (#[.slice none 0 0, .slice none 0 0, m0, .slice none 0 0, .slice none 0 0, m1, .int .i64 (max r 0), .int .i64 (-1), .bool false] : Array Value).setIfInBounds j (.map (some wr.heap.size)) = cs) :
    w.heap.size < wr.heap.size ∧ TIn ((wr.setCell ⟨w.heap.size, j, none⟩ (.map (some wr.heap.size))).alloc (.map #[] 0)) wr.heap.size [] ∧ (∀ M L, M ≠ w.heap.size → TIn wr M L → TIn ((wr.setCell ⟨w.heap.size, j, none⟩ (.map (some wr.heap.size))).alloc (.map #[] 0)) M L) ∧
      ((wr.setCell ⟨w.heap.size, j, none⟩ (.map (some wr.heap.size))).alloc (.map #[] 0)).heap[w.heap.size]? = some (.cells cs 100 (0, 0)) ∧ Only (fun _ => False) w ((wr.setCell ⟨w.heap.size, j, none⟩ (.map (some wr.heap.size))).alloc (.map #[] 0)) := by
  obtain ⟨hb, hk⟩ := h
  have hE : w.heap.size < wr.heap.size := (Array.getElem?_eq_some_iff.1 hb).1
  have hx := Go.heap_setCell_same wr w.heap.size j _ _ (.map (some wr.heap.size)) hb
  rw [hcs] at hx
  have hsz : (wr.setCell ⟨w.heap.size, j, none⟩ (.map (some wr.heap.size))).heap.size = wr.heap.size := by simp
  have ht := TIn.made (wr.setCell ⟨w.heap.size, j, none⟩ (.map (some wr.heap.size)))
  rw [hsz] at ht
  have ka := only_alloc (fun _ => False) (wr.setCell ⟨w.heap.size, j, none⟩ (.map (some wr.heap.size))) (.map #[] 0)
  refine ⟨hE, ht, fun M L hM hT => (hT.far (heap_setCell_other _ _ _ _ hM)).far (ka.block M (by rw [hsz]; exact hT.lt) id), (ka.block _ (by rw [hsz]; exact hE) id).trans hx, ⟨ka.os.trans hk.os, ka.tape.trans hk.tape, ka.output.trans hk.output, by have := hk.size; have := ka.size; omega, fun i hi _ => (ka.block i (by rw [hsz]; omega) id).trans ((heap_setCell_other wr ⟨w.heap.size, j, none⟩ i _ (by show i ≠ w.heap.size; omega)).trans (hk.block i hi id))⟩⟩
set_option maxHeartbeats 1600000 in
theorem rnew_any (w : World) (r : Int) : Calls Try.prog 11 #[.int .i64 r] w fun e w' => e = .returned (.pointer (some ⟨w.heap.size, 0, none⟩)) ∧ Nw w r 2 w' := by
  have h0 : Nw w r 0 (w.alloc (.cells #[.slice none 0 0, .slice none 0 0, .map none, .slice none 0 0, .slice none 0 0, .map none, .int .i64 (max r 0), .int .i64 (-1), .bool false] 100)) := ⟨Go.heap_alloc_new w _, only_alloc _ w _⟩
  have H0 := Lib.hid h0
  have hmm := @run_makeMap Try.prog
  clear h0
  go_enter Try.func11, Try.ntmps11
  go_wp2_with fail
  go_loopw [9] (fun i wr => ∃ k : Nat, k ≤ 2 ∧ i = .int .i64 (k : Int) ∧ Hid (Nw w r k wr)) (fun i _ => 2 - (intOf i).toNat)
  case atStart => exact ⟨0, by omega, rfl, H0⟩
  case round =>
    obtain ⟨k, hk, rfl, HR⟩ := hrel
    have hk3 : k = 0 ∨ k = 1 ∨ k = 2 := by omega
    rcases hk3 with rfl | rfl | rfl
    · have hn := HR.out
      have c2 := cell_of_row wr w.heap.size 2 _ _ _ hn.1
      have f2 := frozen_of_row wr w.heap.size 2 _ _ hn.1
      simp only [List.getElem?_toArray, List.getElem?_cons_zero, List.getElem?_cons_succ] at c2
      obtain ⟨hE, t1, t2, t3, t4⟩ := nwB_step hn 2 _ rfl
      have HN := Lib.hid (show Nw w r 1 ((wr.setCell ⟨w.heap.size, 2, none⟩ (.map (some wr.heap.size))).alloc (.map #[] 0)) from ⟨_, t1, hE, t3, t4⟩)
      clear hn t1 t2 t3 t4 HR hk
      go_wp2
      go_roundw
      case rel => exact ⟨1, by omega, by go_num, HN⟩
      case measure => simp [intOf]
    · obtain ⟨M0, hT, hlt, hn⟩ := HR.out
      have c5 := cell_of_row wr w.heap.size 5 _ _ _ hn.1
      have f5 := frozen_of_row wr w.heap.size 5 _ _ hn.1
      simp only [List.getElem?_toArray, List.getElem?_cons_zero, List.getElem?_cons_succ] at c5
      obtain ⟨hE, t1, t2, t3, t4⟩ := nwB_step hn 5 _ rfl
      have HN := Lib.hid (show Nw w r 2 ((wr.setCell ⟨w.heap.size, 5, none⟩ (.map (some wr.heap.size))).alloc (.map #[] 0)) from ⟨M0, _, t2 M0 _ (by omega) hT, t1, hlt, hE, by have := hT.lt; omega, t3, t4⟩)
      clear hn t1 t2 t3 t4 HR hk hT hlt
      go_wp2
      go_roundw
      case rel => exact ⟨2, by omega, by go_num, HN⟩
      case measure => simp [intOf]
    · go_wp2
      go_ret
      exact ⟨rfl, HR.out⟩
/-- both are new -/
theorem mix_new {W0 w w' : World} {r : Int} (hb : Below W0.heap.size W0 w) (h : Nw (w.alloc (.cells #[.slice none 0 0, .slice none 0 0, .map none, .slice none 0 0, .slice none 0 0, .map none, .int .i64 (max 0 r), .bool false, .int .i64 0, .bool false] 94)) r 2 w') :
    Mix W0 w' w.heap.size (w.heap.size + 1) (w.heap.size + 1) (w.heap.size + 2) (fun _ => False) (DA.new r) (DA.new r) := by
  obtain ⟨M0, M1, t0, t1, l0, l1, hne, hbx, hk⟩ := h
  have hp := pc_new w r
  have hsz : (w.alloc (.cells #[.slice none 0 0, .slice none 0 0, .map none, .slice none 0 0, .slice none 0 0, .map none, .int .i64 (max 0 r), .bool false, .int .i64 0, .bool false] 94)).heap.size = w.heap.size + 1 := by simp
  have hkw : Below w.heap.size w w' := below_only ((only_alloc (fun _ => False) w _).trans hk)
  rw [hsz] at hbx l0 l1
  refine ⟨hb.size, Nat.le_succ_of_le hb.size, hb.trans ⟨hkw.os, hkw.tape, hkw.output, hkw.size, fun i hi => hkw.block i (Nat.lt_of_lt_of_le hi hb.size)⟩, fun i hi => hi.elim, _, _, _, _, _, _, .slice none 0 0, .slice none 0 0, M0, .slice none 0 0, .slice none 0 0, M1, hp.only hk (fun _ _ => id),
    ⟨hbx, by omega, ?_, World.ownsRow_nil _ _ _ _, World.ownsRow_nil _ _ _ _, World.ownsRow_nil _ _ _ _, World.ownsRow_nil _ _ _ _, t0, t1, by omega, by omega, hne⟩, fun i hi hS => ?_, fun _ _ => id, fun _ _ => id⟩
  · have := (Array.getElem?_eq_some_iff.1 hbx).1; omega
  · have h1 : i = w.heap.size := by
      rcases hi with e | e | e | e | e | e | e
      · exact e
      all_goals cases e
    rcases hS with e | e | e | e | e | e | e
    · omega
    · cases e
    · cases e
    · omega
    · cases e
    · cases e
    · omega
set_option maxHeartbeats 6400000 in
theorem diskPlays_walk (r : Int) (la : Option Addr) (ln lc : Nat) (f : Nat → OpD) (w : World) (hL : IsOps w la ln f) (hr : r ≤ 9223372036854775807) :
    Calls Try.prog 3 #[.int .i64 r, .slice la ln lc] w fun e w' => e = .returned (.bool true) ∧ Below w.heap.size w w' := by
  have hm := hL.1
  have HL := Lib.hid hL
  have HR0 := Lib.hid hr
  clear hL hr
  go_enter Try.func3, Try.ntmps3
  go_wp2_with fail
  refine (dawake_any _).mono ?_
  rintro e w1 ⟨rfl, hb1⟩
  have HB1 := Lib.hid hb1
  clear hb1
  go_wp2_with fail
  refine (dfew_any la ln lc f _ (HL.out.below HB1.out)).mono ?_
  rintro e w2 ⟨rfl, hw⟩
  subst hw
  cases hfew : fewB f ln with
  | false =>
    clear hfew
    go_wp2_with fail
    refine (dawake_any _).mono ?_
    rintro e w2 ⟨rfl, hb2⟩
    have HB2 := Lib.hid (bt HB1.out hb2)
    clear hb2
    go_wp2
    go_ret
    exact ⟨rfl, HB2.out⟩
  | true =>
    have HFw := Lib.hid (fewB_bulk hfew)
    have HFi := Lib.hid (fewB_iff.1 hfew)
    clear hfew
    go_wp2_with fail
    refine (pnew_any w2 r).mono ?_
    rintro e wa ⟨rfl, ha⟩
    have HA := Lib.hid ha
    clear ha
    go_wp2_with fail
    refine (rnew_any wa r).mono ?_
    rintro e wb ⟨rfl, hnw⟩
    have hs : wa.heap.size = w2.heap.size + 1 := by rw [HA.out]; simp
    have HM := Lib.hid (show Mix w wb w2.heap.size (w2.heap.size + 1) wa.heap.size (w2.heap.size + 2) (fun _ => False) (DA.new r) (DA.new r) by
      rw [hs]
      rw [HA.out] at hnw
      exact mix_new HB1.out hnw)
    obtain ⟨D, hD⟩ : ∃ D, D = w2.heap.size := ⟨_, rfl⟩
    obtain ⟨E, hE⟩ : ∃ E, E = wa.heap.size := ⟨_, rfl⟩
    rw [← hD, ← hE] at HM
    rw [← hD, ← hE]
    generalize D + 1 = B at *
    generalize D + 2 = C at *
    clear HA hs hD hE hnw HB1
    go_wp2_with fail
    go_loopw [22] (fun i wr => ∃ k : Nat, k ≤ ln ∧ i = .int .i64 (k : Int) ∧ Hid (∃ a, Mix w wr D B E C (fun _ => False) a a ∧ a.Wf ∧ a.few (bulk f k))) (fun i _ => ln - (intOf i).toNat)
    case atStart => exact ⟨0, by omega, rfl, Lib.hid ⟨_, HM.out, DA.Wf.new r HR0.out, ⟨Nat.le_refl _, Nat.le_refl _, Nat.le_refl _, Nat.le_refl _⟩⟩⟩
    case round =>
      obtain ⟨k, hk, rfl, HR⟩ := hrel
      have hk0 : (0 : Int) ≤ (k : Int) := by omega
      by_cases hlt : k < ln
      · have hki : (k : Int) < (ln : Int) := by omega
        rcases HL.out.2 with h0 | ⟨lb, lo, rfl, hlb, hops⟩
        · omega
        obtain ⟨a, hmx, hW, hfx⟩ := HR.out
        have hbx := hmx.2.2.1
        have HX := Lib.hid hmx
        have HW := Lib.hid hW
        have ho := hops k hlt
        have hbu := HFw.out.2 (k + 1) hlt
        have hbl2 : (f k).bl ≤ 20000 := by simp only [bulk] at hbu; omega
        have HOp := Lib.hid (show OpIn w (f k) from ⟨ho.bs, ho.ks, hbl2, (HFi.out k hlt).2.2, ho.r2.2⟩)
        have HFx := Lib.hid (show a.few 900000 from few_mono hfx (by have := HFw.out.2 k hk; omega))
        have HF1 := Lib.hid (show (dstep a (f k)).few (bulk f (k + 1)) from dstep_few hfx hW HOp.out)
        have HF2 := Lib.hid (show (dstep a (f k)).few 1000000 from few_mono HF1.out (by omega))
        have HW1 := Lib.hid (dstep_wf hW HOp.out)
        have HKlt := Lib.hid hlt
        have q0 := (hbx.cell (p := ⟨lb, lo + k * 6, none⟩) hlb).trans ho.c0
        have q1 := (hbx.cell (p := ⟨lb, lo + k * 6 + 1, none⟩) hlb).trans ho.c1
        have q2 := (hbx.cell (p := ⟨lb, lo + k * 6 + 2, none⟩) hlb).trans ho.c2
        have q3 := (hbx.cell (p := ⟨lb, lo + k * 6 + 3, none⟩) hlb).trans ho.c3
        have q4 := (hbx.cell (p := ⟨lb, lo + k * 6 + 4, none⟩) hlb).trans ho.c4
        have q5 := (hbx.cell (p := ⟨lb, lo + k * 6 + 5, none⟩) hlb).trans ho.c5
        generalize hy : f k = y at *
        clear hy hmx hbx ho hfx hW hbu hbl2 hops hlt hk hlb
        go_wp2_with fail
        refine (do_any w _ D B E C a y HX.out HW.out HFx.out HOp.out).mono ?_
        rintro e w7 ⟨rfl, hm7⟩
        have HM7 := Lib.hid hm7
        clear hm7 q0 q1 q2 q3 q4 q5
        go_wp2_with fail
        refine (same_any w _ D B E C (dstep a y) HM7.out HW1.out HF2.out).mono ?_
        rintro e w8 ⟨rfl, hm8⟩
        have HE := Lib.hid (show ∃ a, Mix w w8 D B E C (fun _ => False) a a ∧ a.Wf ∧ a.few (bulk f (k + 1)) from ⟨_, hm8, HW1.out, HF1.out⟩)
        clear hm8
        go_wp2
        go_roundw
        case rel => exact ⟨k + 1, HKlt.out, by go_num, HE⟩
        case measure => have := HKlt.out; simp [intOf]; omega
      · have hge : (ln : Int) ≤ (k : Int) := by omega
        obtain ⟨a, hmx, _, _⟩ := HR.out
        have HB := Lib.hid hmx.2.2.1
        clear hmx hlt
        go_wp2
        go_ret
        exact ⟨rfl, HB.out⟩
end Go.Proofs.Ytafhgilikcablaa
