/- Contract: settle of a file that has grown shorter. (Written by gendpset.py.) -/
import Derived.Test.YtafhgilikcablaaDpSetW
import Derived.Test.YtafhgilikcablaaDkCr2
namespace Go.Proofs.Ytafhgilikcablaa
open Go.RowKit Go.Maps
set_option linter.unusedVariables false
set_option maxRecDepth 100000
theorem own_len (sa : Option Addr) (a b c : Nat) : (Value.slice sa a c).ownBlock = (Value.slice sa b c).ownBlock := by cases sa <;> rfl
set_option maxHeartbeats 6400000 in
theorem settle_long (w : World) (D off B : Nat) (cs : Array Value) (T : TypeId) (zs ys : List Int) (L : List Lit) (v s m : Value) (hbox : w.heap[D]? = some (.cells cs T (0, 0))) (hv : cs[off]? = some v) (hs : cs[off + 1]? = some s) (hm : cs[off + 2]? = some m)
    (hDB : D < B) (hBw : B ≤ w.heap.size) (hF : FSt w B zs L v m) (hY : w.ownsRow B 5 1 s ys.length (ys.map (Value.int .u8))) (hap : ∀ g, v.ownBlock = some g → s.ownBlock ≠ some g) (hle : zs.length < ys.length)
    (hu : ∀ i, i < zs.length → sk (i / 64) ∉ L → ys.getD i 0 = zs.getD i 0) (hzl : zs.length ≤ 1000000) (hk : SecK L) :
    Calls Try.prog 90 #[.pointer (some ⟨D, off, none⟩)] w fun e w' => e = .returned (.tuple #[]) ∧ SetP w D off B cs T s zs w' := by
  obtain ⟨va, vL, vc, hve, hvL, hvI, hvlo, hvn, hvle, hvB⟩ := own_any hF.own hF.rg
  subst hve
  subst hvL
  obtain ⟨sa, sL, sc, rfl⟩ := own_slice hY
  have hsl : sL = ys.length ∧ ys.length ≤ sc := by
    rcases hY.2 with ⟨e, h0⟩ | ⟨_, _, _, e, _, _, h1, _⟩
    · cases e; omega
    · cases e; exact ⟨rfl, h1⟩
  obtain ⟨rfl, hsc⟩ := hsl
  have q0 := (cell_of_row w D off cs T _ hbox).trans hv
  have q1 := (cell_of_row w D (off + 1) cs T _ hbox).trans hs
  have dq : decide (zs.length < ys.length) = true := decide_eq_true hle
  have dqi : (zs.length : Int) < (ys.length : Int) := by omega
  have q0n : ∀ k, (w.drewN k).cell? ⟨D, off, none⟩ = some (.slice va zs.length vc) := fun k => q0
  have q1n : ∀ k, (w.drewN k).cell? ⟨D, off + 1, none⟩ = some (.slice sa ys.length sc) := fun k => q1
  have hs1 := slice_h sa ys.length sc zs.length (by omega) .i64
  have HH := Lib.hid (And.intro hbox (And.intro hv (And.intro hs hm)))
  have HF := Lib.hid hF
  have HY := Lib.hid hY
  have HApp := Lib.hid hap
  have HLong := Lib.hid hle
  have HDB0 := Lib.hid hDB
  have HBw0 := Lib.hid hBw
  have HUU := Lib.hid hu
  have HKK := Lib.hid hk
  clear hbox hv hs hm hF hY hap hDB hBw hu hk hle hvI hvlo hvn hvle hvB hsc
  go_enter Try.func90, Try.ntmps90
  go_wp2_with fail
  go_quiet (fail)
  clear dq
  have f0 := Fut.cell (w := w.drewN nq) (q0n nq)
  have f1 := Fut.cell (w := w.drewN nq) (q1n nq)
  clear q0n q1n q0 q1
  go_upto_region 1 with (fail)
  refine wp_region_fut_tail 13 (by kernel_rfl) (by kernel_rfl) ?_
  simp only [List.take_succ_cons, List.take_zero, List.drop_succ_cons, List.drop_zero]
  repeat (go_big_quiet_step (fail))
  refine wpQuiet_nil ?_
  intro s
  have hb5 : Below w.heap.size w s.to := ⟨s.bel.os, s.bel.tape, s.bel.output, s.bel.size, s.bel.block⟩
  generalize s.to = w5 at *
  clear s f0 f1 hs1 dqi
  have hDl0 : D < w.heap.size := (Array.getElem?_eq_some_iff.1 HH.out.1).1
  have hbox5 : w5.heap[D]? = some (.cells cs T (0, 0)) := (hb5.block D hDl0).trans HH.out.1
  have r1 := (cell_of_row w5 D (off + 1) cs T _ hbox5).trans HH.out.2.2.1
  have rz := frozen_of_row w5 D (off + 1) cs T hbox5
  have rlt : D < w5.heap.size := (Array.getElem?_eq_some_iff.1 hbox5).1
  have hbox6 := Go.heap_setCell_same w5 D (off + 1) _ _ (.slice sa zs.length sc) hbox5
  have hD6 : ∀ K, (Value.slice va zs.length vc).ownBlock = some K → D < K := fun K hK => by have := (own_at HF.out.own hK).1; have := HDB0.out; omega
  have hS6 : ∀ K, (Value.slice sa ys.length sc).ownBlock = some K → D < K := fun K hK => by have := (own_at HY.out hK).1; have := HDB0.out; omega
  have hF5 : FSt w5 B zs L (.slice va zs.length vc) m := HF.out.below hb5
  have hon6 : Only (fun i => i = D) w5 (w5.setCell ⟨D, off + 1, none⟩ (.slice sa zs.length sc)) := (Only.refl (fun i => i = D) w5).set rfl _
  have HF6 := Lib.hid (show FSt (w5.setCell ⟨D, off + 1, none⟩ (.slice sa zs.length sc)) B zs L (.slice va zs.length vc) m from hF5.only hon6 (fun g hg e => by have := hD6 g hg; omega) (fun g hg e => by
    rcases hF5.mp with ⟨e0, _⟩ | ⟨M, e0, hM, _⟩
    · rw [hg] at e0; cases e0
    · rw [hg] at e0; cases e0; have := HDB0.out; omega))
  have HY6 := Lib.hid (own_prefix (k := zs.length) (own_set_cell (own_only HY.out (Only.below hb5) (fun _ _ => id)) hS6 (off + 1) (.slice sa zs.length sc)) (Nat.le_of_lt HLong.out))
  have HOn := Lib.hid (show Only (fun i => i = D) w (w5.setCell ⟨D, off + 1, none⟩ (.slice sa zs.length sc)) from ((Only.below hb5).mono (fun _ => False.elim)).trans hon6)
  have HB6 := Lib.hid hbox6
  clear hbox5 hbox6 hD6 hS6 hF5 hon6 hb5
  have hoff : off + 1 < cs.size := by
    have := HH.out.2.2.1
    exact (Array.getElem?_eq_some_iff.1 this).1
  go_upto_region 2 with (fail)
  clear r1 rz rlt
  generalize w5.setCell ⟨D, off + 1, none⟩ (.slice sa zs.length sc) = wz at *
  obtain ⟨ys6, hys6⟩ : ∃ y, y = ys.take zs.length := ⟨_, rfl⟩
  have hl6 : ys6.length = zs.length := by rw [hys6, List.length_take]; have := HLong.out; omega
  obtain ⟨cs6, hcs6⟩ : ∃ c, c = cs.setIfInBounds (off + 1) (.slice sa ys6.length sc) := ⟨_, rfl⟩
  have hY6 := HY6.out
  rw [← hys6, ← hl6] at hY6
  have hB6 := HB6.out
  rw [← hl6, ← hcs6] at hB6
  have hV6 : cs6[off]? = some (.slice va zs.length vc) ∧ cs6[off + 1]? = some (.slice sa ys6.length sc) ∧ cs6[off + 2]? = some m := by
    rw [hcs6]
    exact ⟨(Array.getElem?_setIfInBounds_ne (by omega)).trans HH.out.2.1, Array.getElem?_setIfInBounds_self_of_lt hoff, (Array.getElem?_setIfInBounds_ne (by omega)).trans HH.out.2.2.2⟩
  have HPost := Lib.hid (show ∀ w', SetP wz D off B cs6 T (.slice sa ys6.length sc) zs w' → SetP w D off B cs T (.slice sa ys.length sc) zs w' from by
    rintro w' ⟨s', a1, a2, a3, a4⟩
    rw [own_len sa ys6.length ys.length sc] at a3 a4
    refine ⟨s', a1, ?_, (HOn.out.mono (fun i hi => .inl hi)).trans a3, a4.imp id (fun h => h.imp (fun K h => ⟨h.1, Nat.le_trans HOn.out.size h.2⟩))⟩
    rw [a2, hcs6]
    simp)
  have HU := Lib.hid (show ∀ i, i < ys6.length → sk (i / 64) ∉ L → ys6.getD i 0 = zs.getD i 0 from fun i hi hn => by
    rw [hl6] at hi
    rw [hys6, List.getD_eq_getElem?_getD, List.getElem?_take, if_pos hi, ← List.getD_eq_getElem?_getD]
    exact HUU.out i hi hn)
  have HV := Lib.hid hV6
  have HK := Lib.hid HKK.out
  have HDB := Lib.hid HDB0.out
  have HBw := Lib.hid (show B ≤ wz.heap.size from Nat.le_trans HBw0.out HOn.out.size)
  have HAp := Lib.hid (show ∀ g, (Value.slice va zs.length vc).ownBlock = some g → (Value.slice sa ys6.length sc).ownBlock ≠ some g from fun g hg => by rw [own_len sa ys6.length ys.length sc]; exact HApp.out g hg)
  obtain ⟨va2, vL2, vc2, hve2, hvL2, hvI, hvlo, hvn, hvle, hvB⟩ := own_any HF6.out.own HF6.out.rg
  cases hve2
  have HI := Lib.hid hvI
  have HLo := Lib.hid hvlo
  have HN := Lib.hid hvn
  have hmp := HF6.out.mp
  have hDl : D < wz.heap.size := (Array.getElem?_eq_some_iff.1 hB6).1
  have H0 := Lib.hid (show ∀ left : Lit → Bool, (∀ i, i < ys6.length → left (sk (i / 64)) = false → ys6.getD i 0 = zs.getD i 0) → ∀ k : Nat, SIn wz D off B cs6 T (.slice va zs.length vc) m (.slice sa ys6.length sc) zs L left ys6 wz from fun left h k => ⟨hB6, HF6.out, hY6, Only.refl _ _, h⟩)
  have HLe := Lib.hid (show ys6.length ≤ zs.length from by omega)
  have HVlo := Lib.hid (show ∀ g, (Value.slice va zs.length vc).ownBlock = some g → g < wz.heap.size from fun g hg => by obtain ⟨_, _, hc⟩ := own_at HF6.out.own hg; exact (Array.getElem?_eq_some_iff.1 hc).1)
  have HSlo := Lib.hid (show ∀ g, (Value.slice sa ys6.length sc).ownBlock = some g → g < wz.heap.size from fun g hg => by obtain ⟨_, _, hc⟩ := own_at hY6 hg; exact (Array.getElem?_eq_some_iff.1 hc).1)
  have q2n : wz.cell? ⟨D, off + 2, none⟩ = some m := (cell_of_row wz D (off + 2) cs6 T _ hB6).trans hV6.2.2
  clear hvI hvlo hvn hvB hvL2 hV6 hB6 hY6 hys6 hl6 hcs6 HH HF HY HApp HLong HDB0 HBw0 HUU HKK HF6 HY6 HOn HB6 hoff hDl0
  rcases hmp with ⟨rfl, rfl⟩ | ⟨M, rfl, _, ho⟩
  · have hrn := run_range_nilMap (P := Try.prog) wz 89 3 186 Try.underlying89
    have hnx : ∀ ty, (Instr.next (.pointer (some ⟨wz.heap.size, 0, none⟩)) false ty).run Try.prog (wz.alloc (.mapIter none 0 #[] 0)) = .ok (.tuple #[.bool false]) (wz.alloc (.mapIter none 0 #[] 0)) := fun ty => run_next_nilMap wz ty 0 0 #[]
    have HBq0 := Lib.hid (show Below wz.heap.size wz (wz.alloc (.mapIter none 0 #[] 0)) from bel0 _ ⟨rfl, rfl, rfl, Nat.le_refl _, fun _ _ => rfl⟩)
    have HY0 := Lib.hid (SIn.below (H0.out (fun _ => false) (fun i hi _ => HU.out i hi (by simp)) 0) (bel0 (.mapIter none 0 #[] 0) (Below.refl _ wz)))
    go_wp2_with fail
    refine wp_loop_rounds 1 ?_
    rw [rounds_succ]
    go_upto_region 9 with (fail)
    clear hrn hnx q2n
    generalize wz.alloc (.mapIter none 0 #[] 0) = wq at *
    obtain ⟨y, hyd⟩ : ∃ y, y = ys6 := ⟨_, rfl⟩
    rw [← hyd] at HY0 HV HLe
    have HY := Lib.hid HY0.out
    have HYs := Lib.hid (show y.length = ys6.length by rw [hyd])
    have HYl := Lib.hid (show y.length = y.length ∧ y.length ≤ zs.length from ⟨rfl, HLe.out⟩)
    have HSeen := Lib.hid (show ∀ i, i < y.length → y.getD i 0 = zs.getD i 0 from fun i hi => HY.out.seen i hi rfl)
    have HIv := Lib.hid (HI.out.below HBq0.out HLo.out)
    have HIvB := Lib.hid (show ∀ x, zs.length ≠ 0 → va = some x → x.block < wq.heap.size from fun x h1 h2 => Nat.lt_of_lt_of_le (HLo.out x h1 h2) HBq0.out.size)
    clear hyd
    have hL := HY.out.syn
    have hsl := slice_l va zs.length vc y.length HYl.out.2 .i64
    have HIo := Lib.hid (isB_off HIv.out HYl.out.2 hvle)
    have HIlo := Lib.hid (offA_lowB (cap := vc) (k := y.length) (B := wq.heap.size) HIvB.out)
    have HIn := Lib.hid (offA_nil (cap := vc) (k := y.length) HN.out)
    have q0 := (cell_of_row _ D off _ _ _ HY.out.box).trans HV.out.1
    have q1 := (cell_of_row _ D (off + 1) _ _ _ HY.out.box).trans HV.out.2.1
    have hyl0 : (0 : Int) ≤ (y.length : Int) := by omega
    have hyl1 : (y.length : Int) ≤ (zs.length : Int) := by have := HYl.out.2; omega
    have HAll := Lib.hid (all_seen HYl.out.2 (fun i hi => HSeen.out i hi))
    clear hL
    go_upto_region 9 with (fail)
    go_region_law ((refine step_slice_at rfl (.tmp 74) (.tmp 84) rfl B (.slice sa y.length sc) y (offA va vc y.length) (zs.length - y.length) (vc - y.length) (zs.drop y.length) rfl rfl (by exact HY.out.syn) (by exact HIo.out.below (Below.refl _ _).drew HIlo.out) HIn.out (by have := HYl.out; omega) (by exact Nat.le_trans HBw.out HY.out.on.size) ?_; intro v' wz' hown hgrow hat; obtain ⟨a2, L2, c2, rfl, e1, e2, f1, f2, hsD, hE⟩ := set_arm HY.out HV.out.2.1 HV.out.2.2 HDB.out HBw.out (by rw [← HAll.out]; exact hown) hgrow hat; have HE := Lib.hid hE; clear hown hgrow hat hE))
    all_goals
      go_wp2
      go_end0
      exact ⟨rfl, HPost.out _ (by have h := HE.out; rw [HYs.out] at h; exact h)⟩
  · have HM := Lib.hid ho
    have HMlo := Lib.hid (show ∀ g, (Value.map (some M)) = .map (some g) → g < wz.heap.size from fun g e => by cases e; exact SetIn.lt (w := wz) ho)
    go_wp2_with (at_range; refine wpList_range_own _ rfl _ 89 rfl 3 186 (Go.Maps.int_keyed Try.underlying3) Try.underlying89 _ M L.length _ rfl (by exact ho) ?_; intro w0 hrg0 hg0 hs0)
    go_frame
    have HR0 := Lib.hid hrg0
    have hbq : Below wz.heap.size wz w0 := (Below.refl wz.heap.size wz).grown hg0 (Nat.le_refl _) (fun j hj => (by cases hj))
    have HY0 := Lib.hid (SIn.below (H0.out (has (Maps.setOf (.agg [] : DataW Unit) L)) (fun i hi hl => HU.out i hi (fun hmem => by rw [has_mem HK.out hmem] at hl; cases hl)) 0) hbq)
    have HS0 := Lib.hid (show wz.heap.size + 1 = w0.heap.size from hs0.symm)
    clear hrg0 hg0 hs0 ho hbq q2n
    go_loopw [] (fun wr => ∃ (left : Lit → Bool) (cnt : Nat) (y : List Int), Hid (wr.ranges Try.prog 3 (unitElem (H := Unit)) M wz.heap.size L.length (Maps.setOf (.agg []) L) left cnt) ∧ Hid (SIn wz D off B cs6 T (.slice va zs.length vc) (.map (some M)) (.slice sa ys6.length sc) zs L left y wr) ∧ y.length = ys6.length ∧ Hid (wz.heap.size < wr.heap.size)) (fun wr => wr.rangeLeft M wz.heap.size)
    case atStart => exact ⟨_, _, ys6, HR0, HY0, rfl, Lib.hid (by have := HS0.out; omega)⟩
    case round =>
      obtain ⟨left, cnt, y, HR, HY1, hyl, HSz⟩ := hrel
      have HYs := Lib.hid hyl
      have HRl := Lib.hid HR.out.left_eq
      go_wp2_with (at_next; refine wpList_next_ranges _ rfl _ rfl 3 (Go.Maps.int_keyed Try.underlying3) (unitElem (H := Unit)) (Value.int .i64) (fun _ : Unit => .agg #[]) (fun key kl hk => by obtain ⟨x, hx, _⟩ := Maps.keyOf_int_inv Try.underlying3 hk; exact ⟨x, hx⟩) (fun v y hv => by obtain ⟨h, _⟩ := unitElem_inv hv; exact ⟨(), h⟩) M wz.heap.size L.length _ _ _ rfl HR.out ?_ ?_)
      · intro hc0 hl0
        obtain ⟨wq, hwq⟩ : ∃ wq, wq = wr := ⟨_, rfl⟩
        rw [← hwq] at HY1 HSz ⊢
        clear hwq HR
        have hHY := HY1.out
        rw [← hyl] at hHY HV HLe
        have HY := Lib.hid hHY
        have HYl := Lib.hid (show y.length = y.length ∧ y.length ≤ zs.length from ⟨rfl, HLe.out⟩)
        have HSeen := Lib.hid (show ∀ i, i < y.length → y.getD i 0 = zs.getD i 0 from fun i hi => HY.out.seen i hi (hl0 _))
        obtain ⟨va2, vL2, vc2, hve2, hvL2, hvI2, hvlo2, hvn2, hvle2, hvB2⟩ := own_any HY.out.now.own HY.out.now.rg
        cases hve2
        have HIv := Lib.hid hvI2
        have HIvB := Lib.hid hvlo2
        clear hHY hyl hc0 hl0 hvI2 hvlo2 hvn2 hvB2 hvL2 hvle2
        have hL := HY.out.syn
        have hsl := slice_l va zs.length vc y.length HYl.out.2 .i64
        have HIo := Lib.hid (isB_off HIv.out HYl.out.2 hvle)
        have HIlo := Lib.hid (offA_lowB (cap := vc) (k := y.length) (B := wq.heap.size) HIvB.out)
        have HIn := Lib.hid (offA_nil (cap := vc) (k := y.length) HN.out)
        have q0 := (cell_of_row _ D off _ _ _ HY.out.box).trans HV.out.1
        have q1 := (cell_of_row _ D (off + 1) _ _ _ HY.out.box).trans HV.out.2.1
        have hyl0 : (0 : Int) ≤ (y.length : Int) := by omega
        have hyl1 : (y.length : Int) ≤ (zs.length : Int) := by have := HYl.out.2; omega
        have HAll := Lib.hid (all_seen HYl.out.2 (fun i hi => HSeen.out i hi))
        clear hL
        go_upto_region 9 with (fail)
        go_region_law ((refine step_slice_at rfl (.tmp 74) (.tmp 84) rfl B (.slice sa y.length sc) y (offA va vc y.length) (zs.length - y.length) (vc - y.length) (zs.drop y.length) rfl rfl (by exact HY.out.syn) (by exact HIo.out.below (Below.refl _ _).drew HIlo.out) HIn.out (by have := HYl.out; omega) (by exact Nat.le_trans HBw.out HY.out.on.size) ?_; intro v' wz' hown hgrow hat; obtain ⟨a2, L2, c2, rfl, e1, e2, f1, f2, hsD, hE⟩ := set_arm HY.out HV.out.2.1 HV.out.2.2 HDB.out HBw.out (by rw [← HAll.out]; exact hown) hgrow hat; have HE := Lib.hid hE; clear hown hgrow hat hE))
        all_goals
          go_wp2
          go_end0
          exact ⟨rfl, HPost.out _ (by have h := HE.out; rw [HYs.out] at h; exact h)⟩
      · intro x kl yd yp w1 cnt1 hkey hlk hv hat hrg1 hlt hg1 hs1 hen
        have hhas := has_true_of_atKey hat
        obtain ⟨st, hst, hks⟩ := HK.out _ (has_setOf hhas)
        have hxs : x = (st : Int) := by
          obtain ⟨x', e1, e2, _⟩ := Maps.keyOf_int_inv Try.underlying3 hkey
          cases e1
          rw [hks] at e2
          simpa [sk] using e2.symm
        subst hxs
        subst hks
        have HY2 := Lib.hid (SIn.iter HY1.out hg1 (Nat.le_refl _) hDl HVlo.out HSlo.out HMlo.out)
        have HR1 := Lib.hid hrg1
        have HL := Lib.hid hlt
        have HSt := Lib.hid hst
        have HSz1 := Lib.hid (show wz.heap.size < w1.heap.size from by have := HSz.out; omega)
        have q0 := (cell_of_row _ D off _ _ _ HY2.out.box).trans HV.out.1
        obtain ⟨p, hp⟩ : ∃ p, p = min (st * 64) zs.length := ⟨_, rfl⟩
        obtain ⟨q, hq⟩ : ∃ q, q = min (st * 64 + 64) zs.length := ⟨_, rfl⟩
        have hsec := fsector w1 D off va zs.length vc st hst (by omega) q0
        rw [← hp, ← hq] at hsec
        have HSec := Lib.hid hsec
        have HPQ := Lib.hid (And.intro hp hq)
        obtain ⟨c, hc⟩ : ∃ c, c = min q ys6.length := ⟨_, rfl⟩
        have HC := Lib.hid hc
        have hmin : min (q : Int) (ys6.length : Int) = (c : Int) := by omega
        have hp0 : (0 : Int) ≤ (p : Int) := by omega
        have hq0 : (0 : Int) ≤ (q : Int) := by omega
        clear hyl hsec hp hq hc hrg1 hg1 hs1 hlt hkey hlk hv hat hhas hst q0 HR HY1
        go_wp2_with fail
        refine HSec.out.mono ?_
        rintro e w2 ⟨rfl, k2, hw2⟩
        have HR2 := Lib.hid (show w2.ranges Try.prog 3 (unitElem (H := Unit)) M wz.heap.size L.length (Maps.setOf (.agg []) L) (fun z => left z && !z.sameKey (sk st)) cnt1 from by rw [hw2]; exact HR1.out)
        have HY3 := Lib.hid (show SIn wz D off B cs6 T (.slice va zs.length vc) (.map (some M)) (.slice sa ys6.length sc) zs L left y w2 from by rw [hw2]; exact HY2.out.draw k2)
        have HSz2 := Lib.hid (show wz.heap.size < w2.heap.size from by rw [hw2]; exact HSz1.out)
        have q1' := (cell_of_row _ D (off + 1) _ _ _ HY3.out.box).trans HV.out.2.1
        have q0' := (cell_of_row _ D off _ _ _ HY3.out.box).trans HV.out.1
        clear hw2 hen HY2 HR1
        by_cases hfc : p < c
        · have dfc : decide ((p : Int) < (c : Int)) = true := decide_eq_true (by omega)
          have hfci : (p : Int) < (c : Int) := by omega
          have hcy : c ≤ ys6.length := by have := HC.out; omega
          have hcz : c ≤ zs.length := by have := HLe.out; omega
          obtain ⟨g, rfl⟩ : ∃ g, sa = some ⟨g, 0, none⟩ := by
            rcases HY3.out.syn.2 with ⟨e, h0⟩ | ⟨g, _, _, e, _⟩
            · have := HYs.out; omega
            · injection e with e1 e2 e3
              exact ⟨g, e1⟩
          have hcap : ys6.length ≤ sc := by
            rcases HY3.out.syn.2 with ⟨e, h0⟩ | ⟨_, cap, _, e, _, _, h1, _⟩
            · cases e
            · injection e with e1 e2 e3
              have := HYs.out
              omega
          have hof : offA (some ⟨g, 0, none⟩) sc p = some ⟨g, p, none⟩ := by
            unfold offA
            rw [if_neg (by omega)]
            simp [Addr.add_lit]
          have hs1 := slice_lh (some ⟨g, 0, none⟩) ys6.length sc p c (by omega) (by omega) .i64 .i64
          have hs2 := slice_lh va zs.length vc p c (by omega) (by omega) .i64 .i64
          rw [hof] at hs1
          have HGr := Lib.hid (And.intro hcy (And.intro hcz hfc))
          clear hof hcy hcz hfc
          go_upto_region 8 with (fail)
          have q0n := Fut.cell q0'
          have q1n := Fut.cell q1'
          clear q0' q1'
          refine wp_region_fut_tail 14 (by kernel_rfl) (by kernel_rfl) ?_
          simp only [List.take_succ_cons, List.take_zero, List.drop_succ_cons, List.drop_zero]
          repeat (go_big_quiet_step (fail))
          refine wpQuiet_nil ?_
          intro s
          have hb5 := s.bel
          generalize s.to = w5 at *
          clear s hs1 hs2 q0n q1n
          have HY5 := Lib.hid (SIn.below HY3.out hb5)
          have HR5 := Lib.hid (HR2.out.kept (row := none) ⟨hb5.os, hb5.tape, hb5.output, hb5.size, fun i hi _ => hb5.block i hi⟩ (fun e => by cases e) (fun e => by cases e))
          have HSz5 := Lib.hid (show wz.heap.size < w5.heap.size from Nat.lt_of_lt_of_le HSz2.out hb5.size)
          obtain ⟨va2, vL2, vc2, hve2, hvL2, hvI2, hvlo2, hvn2, hvle2, hvB2⟩ := own_any HY5.out.now.own HY5.out.now.rg
          cases hve2
          have HIb := Lib.hid (isB_take (k := c - p) (isB_off (cap := vc) (k := p) hvI2 (by have := HGr.out; omega) hvle2) (by have := HGr.out; omega))
          have hsyn5 := HY5.out.syn
          rw [← HYs.out] at hsyn5
          clear hvI2 hvlo2 hvn2 hvB2 hvL2 hvle2 hb5
          have hbl : ((zs.drop p).take (c - p)).length = c - p := by rw [List.length_take, List.length_drop]; have := HGr.out; omega
          refine wpList_copy_mid rfl (.tmp 61) (.tmp 68) rfl B g sc y ((zs.drop p).take (c - p)) p (sc - p) (c - p) hbl (by rw [hbl]; have := HGr.out; have := HYs.out; omega) (by rw [hbl]; have := HGr.out; omega) hsyn5 _ _ _ rfl rfl HIb.out ?_
          intro w6 hown6 hgrow6
          have HR6 := Lib.hid (HR5.out.kept hgrow6 (fun e => by
            cases e
            obtain ⟨_, cur, hc⟩ := own_at HY5.out.syn rfl
            rcases HY5.out.now.mp with ⟨e0, _⟩ | ⟨M', e0, _, hss⟩
            · cases e0
            · cases e0; exact hss.not_cells hc) (fun e => by have := HSlo.out g rfl; cases e; omega))
          have HSz6 := Lib.hid (show wz.heap.size < w6.heap.size from Nat.lt_of_lt_of_le HSz5.out hgrow6.size)
          have hleY : y.length ≤ zs.length := by rw [HYs.out]; exact HLe.out
          have hc6 := SIn.copied (sc := st) (w' := w6) HY5.out (g := g) rfl hleY (by rw [← HPQ.out.1, ← HPQ.out.2, HYs.out, ← HC.out]; exact HGr.out.2.2) HDB.out HAp.out (by rw [← HPQ.out.1, ← HPQ.out.2, HYs.out, ← HC.out, ← HYs.out]; exact hown6) hgrow6
          rw [← HPQ.out.1, ← HPQ.out.2, HYs.out, ← HC.out] at hc6
          have HY6 := Lib.hid hc6
          have hyl6 : (midB y ((zs.drop p).take (c - p)) p).length = ys6.length := by rw [midB_length (by rw [hbl]; have := HGr.out; have := HYs.out; omega), HYs.out]
          clear hc6 hown6 hgrow6 hsyn5 hbl
          go_wp2
          go_roundw
          case rel =>
            first
              | exact ⟨_, cnt1, _, HR6, HY6, hyl6, HSz6⟩
              | (repeat apply Exists.intro
                 refine ⟨?_, rfl⟩
                 exact ⟨_, cnt1, _, HR6, HY6, hyl6, HSz6⟩)
          case measure => rw [HR6.out.left_eq, HRl.out]; exact HL.out
        · have dfc : decide ((p : Int) < (c : Int)) = false := decide_eq_false (by omega)
          have hfci : (c : Int) ≤ (p : Int) := by omega
          have HY4 := Lib.hid (SIn.skipped (sc := st) HY3.out (by rw [HYs.out]; exact HLe.out) (by rw [← HPQ.out.1, ← HPQ.out.2, HYs.out, ← HC.out]; exact hfc))
          go_wp2
          go_roundw
          case rel =>
            first
              | exact ⟨_, cnt1, y, HR2, HY4, HYs.out, HSz2⟩
              | (repeat apply Exists.intro
                 refine ⟨?_, rfl⟩
                 exact ⟨_, cnt1, y, HR2, HY4, HYs.out, HSz2⟩)
          case measure => rw [HR2.out.left_eq, HRl.out]; exact HL.out
/-- settle of any file that was synced before -/
theorem settle_any (w : World) (D off B : Nat) (cs : Array Value) (T : TypeId) (zs ys : List Int) (L : List Lit) (v s m : Value) (hbox : w.heap[D]? = some (.cells cs T (0, 0))) (hv : cs[off]? = some v) (hs : cs[off + 1]? = some s) (hm : cs[off + 2]? = some m)
    (hDB : D < B) (hBw : B ≤ w.heap.size) (hF : FSt w B zs L v m) (hY : w.ownsRow B 5 1 s ys.length (ys.map (Value.int .u8))) (hap : ∀ g, v.ownBlock = some g → s.ownBlock ≠ some g)
    (hu : ∀ i, i < ys.length → i < zs.length → sk (i / 64) ∉ L → ys.getD i 0 = zs.getD i 0) (hzl : zs.length ≤ 1000000) (hk : SecK L) :
    Calls Try.prog 90 #[.pointer (some ⟨D, off, none⟩)] w fun e w' => e = .returned (.tuple #[]) ∧ SetP w D off B cs T s zs w' := by
  by_cases h : ys.length ≤ zs.length
  · exact settle_fit w D off B cs T zs ys L v s m hbox hv hs hm hDB hBw hF hY hap h (fun i hi hn => hu i hi (by omega) hn) hzl hk
  · exact settle_long w D off B cs T zs ys L v s m hbox hv hs hm hDB hBw hF hY hap (by omega) (fun i hi hn => hu i (by omega) hi hn) hzl hk
end Go.Proofs.Ytafhgilikcablaa
