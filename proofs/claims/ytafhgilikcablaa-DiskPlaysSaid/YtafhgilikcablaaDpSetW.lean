/- Contract: settle of a file that was synced before: its walk. (Written by gendpset.py.) -/
import Derived.Test.YtafhgilikcablaaDpSet
namespace Go.Proofs.Ytafhgilikcablaa
open Go.RowKit Go.Maps
set_option linter.unusedVariables false
set_option maxRecDepth 100000
theorem set_arm {w wq w' : World} {D off B : Nat} {cs : Array Value} {T : TypeId} {v m : Value} {sa : Option Addr} {sc : Nat} {zs y : List Int} {L : List Lit} {left : Lit → Bool} {v' : Value} (h : SIn w D off B cs T v m (.slice sa y.length sc) zs L left y wq)
    (hs : cs[off + 1]? = some (.slice sa y.length sc)) (hm : cs[off + 2]? = some m) (hDB : D < B) (hBw : B ≤ w.heap.size)
    (hown : w'.ownsRow B 5 1 v' zs.length (zs.map (Value.int .u8))) (hg : wq.drew.grownBy w' (Value.slice sa y.length sc).ownBlock) (hat : v'.ownBlock = (Value.slice sa y.length sc).ownBlock ∨ v'.ownBlock = some wq.heap.size) :
    ∃ a L c, v' = .slice a L c ∧ w'.cell? ⟨D, off + 1, none⟩ = some (.slice sa y.length sc) ∧ w'.cell? ⟨D, off + 2, none⟩ = some m ∧ w'.frozen? ⟨D, off + 1, none⟩ = false ∧ w'.frozen? ⟨D, off + 2, none⟩ = false ∧ D < w'.heap.size ∧ SetP w D off B cs T (.slice sa y.length sc) zs ((w'.setCell ⟨D, off + 1, none⟩ v').setCell ⟨D, off + 2, none⟩ (.map none)) := by
  obtain ⟨a, L', c, rfl⟩ := own_slice hown
  have hDq : D < wq.heap.size := (Array.getElem?_eq_some_iff.1 h.box).1
  have hsB : ∀ g, (Value.slice sa y.length sc).ownBlock = some g → B ≤ g := fun g hg' => (own_at h.syn hg').1
  have hon : Only (fun i => (Value.slice sa y.length sc).ownBlock = some i) wq w' := Only.drew (Only.of hg (fun K hK => hK))
  have hx1 : w'.heap[D]? = some (.cells cs T (0, 0)) := (hon.block D hDq (fun e => by have := hsB D e; omega)).trans h.box
  have hlo : ∀ K, (Value.slice a L' c).ownBlock = some K → D < K := fun K hK => by have := (own_at hown hK).1; omega
  refine ⟨a, L', c, rfl, (cell_of_row w' D (off + 1) cs T _ hx1).trans hs, (cell_of_row w' D (off + 2) cs T _ hx1).trans hm, frozen_of_row w' D (off + 1) cs T hx1, frozen_of_row w' D (off + 2) cs T hx1, (Array.getElem?_eq_some_iff.1 hx1).1, _, own_set_cell (own_set_cell hown hlo _ _) hlo _ _, Go.heap_setCell_same _ D (off + 2) _ _ (.map none) (Go.heap_setCell_same w' D (off + 1) _ _ _ hx1), ?_, ?_⟩
  · have h1 : Only (fun i => i = D ∨ (Value.slice sa y.length sc).ownBlock = some i) w w' := (h.on.mono (fun i hi => .inr hi)).trans (hon.mono (fun i hi => .inr hi))
    exact (h1.set (.inl rfl) _).set (.inl rfl) _
  · exact hat.imp id (fun e => ⟨_, e, h.on.size⟩)

theorem isMap_set (u : DataW Unit) : ∀ (L : List Lit) (D : DataW Unit), IsMap D → IsMap (L.foldl (fun m x => m.put x u) D)
  | [], D, h => h
  | x :: L, D, h => by
    obtain ⟨es, rfl⟩ := h
    exact isMap_set u L _ ⟨_, rfl⟩
theorem has_keep (u : DataW Unit) (k : Lit) : ∀ (L : List Lit) (D : DataW Unit), IsMap D → (∀ x ∈ L, WideAt.IsKeyLit x) → has D k = true ∨ k ∈ L → has (L.foldl (fun m x => m.put x u) D) k = true
  | [], D, _, _, h => h.elim id (fun h => by cases h)
  | x :: L, D, hD, hk, h => by
    have hx := hk x List.mem_cons_self
    have hm : IsMap (D.put x u) := by obtain ⟨es, rfl⟩ := hD; exact ⟨_, rfl⟩
    refine has_keep u k L _ hm (fun y hy => hk y (List.mem_cons_of_mem _ hy)) ?_
    by_cases e : k = x
    · subst e
      exact .inl (has_put_same hD hx u)
    · rcases h with h | h
      · exact .inl (by rw [has_put_other e]; exact h)
      · exact .inr ((List.mem_cons.1 h).resolve_left e)
theorem has_mem {L : List Lit} {k : Lit} (hk : SecK L) (h : k ∈ L) : has (Maps.setOf (.agg [] : DataW Unit) L) k = true := has_keep _ k L _ ⟨[], rfl⟩ hk.key (.inr h)
set_option maxHeartbeats 6400000 in
theorem settle_fit (w : World) (D off B : Nat) (cs : Array Value) (T : TypeId) (zs ys : List Int) (L : List Lit) (v s m : Value) (hbox : w.heap[D]? = some (.cells cs T (0, 0))) (hv : cs[off]? = some v) (hs : cs[off + 1]? = some s) (hm : cs[off + 2]? = some m)
    (hDB : D < B) (hBw : B ≤ w.heap.size) (hF : FSt w B zs L v m) (hY : w.ownsRow B 5 1 s ys.length (ys.map (Value.int .u8))) (hap : ∀ g, v.ownBlock = some g → s.ownBlock ≠ some g) (hle : ys.length ≤ zs.length)
    (hu : ∀ i, i < ys.length → sk (i / 64) ∉ L → ys.getD i 0 = zs.getD i 0) (hzl : zs.length ≤ 1000000) (hk : SecK L) :
    Calls Try.prog 90 #[.pointer (some ⟨D, off, none⟩)] w fun e w' => e = .returned (.tuple #[]) ∧ SetP w D off B cs T s zs w' := by
  obtain ⟨va, vL, vc, hve, hvL, hvI, hvlo, hvn, hvle, hvB⟩ := own_any hF.own hF.rg
  subst hve
  subst hvL
  obtain ⟨sa, sL, sc, rfl⟩ := own_slice hY
  have hsl : sL = ys.length := by
    rcases hY.2 with ⟨e, h0⟩ | ⟨_, _, _, e, _⟩
    · cases e; exact h0.symm
    · cases e; rfl
  subst hsl
  have q0 := (cell_of_row w D off cs T _ hbox).trans hv
  have q1 := (cell_of_row w D (off + 1) cs T _ hbox).trans hs
  have q2 := (cell_of_row w D (off + 2) cs T _ hbox).trans hm
  have hDl : D < w.heap.size := (Array.getElem?_eq_some_iff.1 hbox).1
  have HI := Lib.hid hvI
  have HLo := Lib.hid hvlo
  have HN := Lib.hid hvn
  have HV := Lib.hid (And.intro hv (And.intro hs hm))
  have HK := Lib.hid hk
  have HDB := Lib.hid hDB
  have HBw := Lib.hid hBw
  have HAp := Lib.hid hap
  have hmp := hF.mp
  have H0 := Lib.hid (show ∀ left : Lit → Bool, (∀ i, i < ys.length → left (sk (i / 64)) = false → ys.getD i 0 = zs.getD i 0) → ∀ k, SIn w D off B cs T (.slice va zs.length vc) m (.slice sa ys.length sc) zs L left ys (w.drewN k) from fun left h k => SIn.draw ⟨hbox, hF, hY, Only.refl _ _, h⟩ k)
  have HU := Lib.hid hu
  have HLe := Lib.hid hle
  have HVlo := Lib.hid (show ∀ g, (Value.slice va zs.length vc).ownBlock = some g → g < w.heap.size from fun g hg => by obtain ⟨_, _, hc⟩ := own_at hF.own hg; exact (Array.getElem?_eq_some_iff.1 hc).1)
  have HSlo := Lib.hid (show ∀ g, (Value.slice sa ys.length sc).ownBlock = some g → g < w.heap.size from fun g hg => by obtain ⟨_, _, hc⟩ := own_at hY hg; exact (Array.getElem?_eq_some_iff.1 hc).1)
  have dq : decide (zs.length < ys.length) = false := decide_eq_false (by omega)
  have dqi : decide ((zs.length : Int) < (ys.length : Int)) = false := decide_eq_false (by omega)
  have q0n : ∀ k, (w.drewN k).cell? ⟨D, off, none⟩ = some (.slice va zs.length vc) := fun k => q0
  have q1n : ∀ k, (w.drewN k).cell? ⟨D, off + 1, none⟩ = some (.slice sa ys.length sc) := fun k => q1
  clear hvI hvlo hvn hvB hbox hv hs hm hk hF hY hap hu hDB hBw
  go_enter Try.func90, Try.ntmps90
  go_wp2_with fail
  go_quiet (fail)
  have q2n : (w.drewN nq).cell? ⟨D, off + 2, none⟩ = some m := q2
  clear dq dqi q0n q1n q0 q1 q2
  rcases hmp with ⟨rfl, rfl⟩ | ⟨M, rfl, _, ho⟩
  · have hrn := run_range_nilMap (P := Try.prog) (w.drewN nq) 89 3 186 Try.underlying89
    have hnx : ∀ ty, (Instr.next (.pointer (some ⟨w.heap.size, 0, none⟩)) false ty).run Try.prog ((w.drewN nq).alloc (.mapIter none 0 #[] 0)) = .ok (.tuple #[.bool false]) ((w.drewN nq).alloc (.mapIter none 0 #[] 0)) := fun ty => run_next_nilMap (w.drewN nq) ty 0 0 #[]
    have HBq0 := Lib.hid (show Below w.heap.size w ((w.drewN nq).alloc (.mapIter none 0 #[] 0)) from bel0 _ ⟨rfl, rfl, rfl, Nat.le_refl _, fun _ _ => rfl⟩)
    have HY0 := Lib.hid (SIn.below (H0.out (fun _ => false) (fun i hi _ => HU.out i hi (by simp)) nq) (bel0 (.mapIter none 0 #[] 0) (Below.refl _ (w.drewN nq))))
    go_wp2_with fail
    refine wp_loop_rounds 1 ?_
    rw [rounds_succ]
    go_upto_region 9 with (fail)
    clear hrn hnx q2n
    generalize (w.drewN nq).alloc (.mapIter none 0 #[] 0) = wq at *
    obtain ⟨y, hyd⟩ : ∃ y, y = ys := ⟨_, rfl⟩
    rw [← hyd] at HY0 HV HLe ⊢
    have HY := Lib.hid HY0.out
    have HYs := Lib.hid (show y.length = ys.length by rw [hyd])
    have HYl := Lib.hid (show y.length = y.length ∧ y.length ≤ zs.length from ⟨rfl, HLe.out⟩)
    have HSeen := Lib.hid (show ∀ i, i < y.length → y.getD i 0 = zs.getD i 0 from fun i hi => HY.out.seen i hi rfl)
    have HIv := Lib.hid (HI.out.below HBq0.out HLo.out)
    have HIvB := Lib.hid (show ∀ x, zs.length ≠ 0 → va = some x → x.block < wq.heap.size from fun x h1 h2 => Nat.lt_of_lt_of_le (HLo.out x h1 h2) HBq0.out.size)
    clear hyd
    have hL := HY.out.syn
    have hsl := slice_l va zs.length vc y.length HYl.out.2 .i64
    have HIo := Lib.hid (isB_off HIv.out HYl.out.2 hvle)
    have HIlo := Lib.hid (offA_lowB (cap := vc) (k := y.length) (B := wq.heap.size) HIvB.out)
    have HIn := Lib.hid (offA_nil (cap := vc) (k := y.length) HN.out)
    have q0 := (cell_of_row _ D off _ _ _ HY.out.box).trans HV.out.1
    have q1 := (cell_of_row _ D (off + 1) _ _ _ HY.out.box).trans HV.out.2.1
    have hyl0 : (0 : Int) ≤ (y.length : Int) := by omega
    have hyl1 : (y.length : Int) ≤ (zs.length : Int) := by have := HYl.out.2; omega
    have HAll := Lib.hid (all_seen HYl.out.2 (fun i hi => HSeen.out i hi))
    clear hL
    go_upto_region 9 with (fail)
    go_region_law ((refine step_slice_at rfl (.tmp 74) (.tmp 84) rfl B (.slice sa y.length sc) y (offA va vc y.length) (zs.length - y.length) (vc - y.length) (zs.drop y.length) rfl rfl (by exact HY.out.syn) (by exact HIo.out.below (Below.refl _ _).drew HIlo.out) HIn.out (by have := HYl.out; omega) (by exact Nat.le_trans HBw.out HY.out.on.size) ?_; intro v' w' hown hgrow hat; obtain ⟨a2, L2, c2, rfl, e1, e2, f1, f2, hsD, hE⟩ := set_arm HY.out HV.out.2.1 HV.out.2.2 HDB.out HBw.out (by rw [← HAll.out]; exact hown) hgrow hat; have HE := Lib.hid hE; clear hown hgrow hat hE))
    all_goals
      go_wp2
      go_end0
      exact ⟨rfl, by have h := HE.out; rw [HYs.out] at h; exact h⟩
  · have HM := Lib.hid ho
    have HMlo := Lib.hid (show ∀ g, (Value.map (some M)) = .map (some g) → g < w.heap.size from fun g e => by cases e; exact SetIn.lt (w := w) ho)
    go_wp2_with (at_range; refine wpList_range_own _ rfl _ 89 rfl 3 186 (Go.Maps.int_keyed Try.underlying3) Try.underlying89 _ M L.length _ rfl (by exact ho) ?_; intro w0 hrg0 hg0 hs0)
    go_frame
    have HR0 := Lib.hid hrg0
    have hbq : Below (w.drewN nq).heap.size (w.drewN nq) w0 := (Below.refl (w.drewN nq).heap.size (w.drewN nq)).grown hg0 (Nat.le_refl _) (fun j hj => (by cases hj))
    have HY0 := Lib.hid (SIn.below (H0.out (has (Maps.setOf (.agg [] : DataW Unit) L)) (fun i hi hl => HU.out i hi (fun hmem => by rw [has_mem HK.out hmem] at hl; cases hl)) nq) hbq)
    have HS0 := Lib.hid (show w.heap.size + 1 = w0.heap.size from hs0.symm)
    clear hrg0 hg0 hs0 ho hbq q2n
    go_loopw [] (fun wr => ∃ (left : Lit → Bool) (cnt : Nat) (y : List Int), Hid (wr.ranges Try.prog 3 (unitElem (H := Unit)) M w.heap.size L.length (Maps.setOf (.agg []) L) left cnt) ∧ Hid (SIn w D off B cs T (.slice va zs.length vc) (.map (some M)) (.slice sa ys.length sc) zs L left y wr) ∧ y.length = ys.length ∧ Hid (w.heap.size < wr.heap.size)) (fun wr => wr.rangeLeft M w.heap.size)
    case atStart => exact ⟨_, _, ys, HR0, HY0, rfl, Lib.hid (by have := HS0.out; omega)⟩
    case round =>
      obtain ⟨left, cnt, y, HR, HY1, hyl, HSz⟩ := hrel
      have HYs := Lib.hid hyl
      have HRl := Lib.hid HR.out.left_eq
      go_wp2_with (at_next; refine wpList_next_ranges _ rfl _ rfl 3 (Go.Maps.int_keyed Try.underlying3) (unitElem (H := Unit)) (Value.int .i64) (fun _ : Unit => .agg #[]) (fun key kl hk => by obtain ⟨x, hx, _⟩ := Maps.keyOf_int_inv Try.underlying3 hk; exact ⟨x, hx⟩) (fun v y hv => by obtain ⟨h, _⟩ := unitElem_inv hv; exact ⟨(), h⟩) M w.heap.size L.length _ _ _ rfl HR.out ?_ ?_)
      · intro hc0 hl0
        obtain ⟨wq, hwq⟩ : ∃ wq, wq = wr := ⟨_, rfl⟩
        rw [← hwq] at HY1 HSz ⊢
        clear hwq HR
        have hHY := HY1.out
        rw [← hyl] at hHY HV HLe
        have HY := Lib.hid hHY
        have HYl := Lib.hid (show y.length = y.length ∧ y.length ≤ zs.length from ⟨rfl, HLe.out⟩)
        have HSeen := Lib.hid (show ∀ i, i < y.length → y.getD i 0 = zs.getD i 0 from fun i hi => HY.out.seen i hi (hl0 _))
        obtain ⟨va2, vL2, vc2, hve2, hvL2, hvI2, hvlo2, hvn2, hvle2, hvB2⟩ := own_any HY.out.now.own HY.out.now.rg
        cases hve2
        have HIv := Lib.hid hvI2
        have HIvB := Lib.hid hvlo2
        clear hHY hyl hc0 hl0 hvI2 hvlo2 hvn2 hvB2 hvL2 hvle2
        have hL := HY.out.syn
        have hsl := slice_l va zs.length vc y.length HYl.out.2 .i64
        have HIo := Lib.hid (isB_off HIv.out HYl.out.2 hvle)
        have HIlo := Lib.hid (offA_lowB (cap := vc) (k := y.length) (B := wq.heap.size) HIvB.out)
        have HIn := Lib.hid (offA_nil (cap := vc) (k := y.length) HN.out)
        have q0 := (cell_of_row _ D off _ _ _ HY.out.box).trans HV.out.1
        have q1 := (cell_of_row _ D (off + 1) _ _ _ HY.out.box).trans HV.out.2.1
        have hyl0 : (0 : Int) ≤ (y.length : Int) := by omega
        have hyl1 : (y.length : Int) ≤ (zs.length : Int) := by have := HYl.out.2; omega
        have HAll := Lib.hid (all_seen HYl.out.2 (fun i hi => HSeen.out i hi))
        clear hL
        go_upto_region 9 with (fail)
        go_region_law ((refine step_slice_at rfl (.tmp 74) (.tmp 84) rfl B (.slice sa y.length sc) y (offA va vc y.length) (zs.length - y.length) (vc - y.length) (zs.drop y.length) rfl rfl (by exact HY.out.syn) (by exact HIo.out.below (Below.refl _ _).drew HIlo.out) HIn.out (by have := HYl.out; omega) (by exact Nat.le_trans HBw.out HY.out.on.size) ?_; intro v' w' hown hgrow hat; obtain ⟨a2, L2, c2, rfl, e1, e2, f1, f2, hsD, hE⟩ := set_arm HY.out HV.out.2.1 HV.out.2.2 HDB.out HBw.out (by rw [← HAll.out]; exact hown) hgrow hat; have HE := Lib.hid hE; clear hown hgrow hat hE))
        all_goals
          go_wp2
          go_end0
          exact ⟨rfl, by have h := HE.out; rw [HYs.out] at h; exact h⟩
      · intro x kl yd yp w1 cnt1 hkey hlk hv hat hrg1 hlt hg1 hs1 hen
        have hhas := has_true_of_atKey hat
        obtain ⟨st, hst, hks⟩ := HK.out _ (has_setOf hhas)
        have hxs : x = (st : Int) := by
          obtain ⟨x', e1, e2, _⟩ := Maps.keyOf_int_inv Try.underlying3 hkey
          cases e1
          rw [hks] at e2
          simpa [sk] using e2.symm
        subst hxs
        subst hks
        have HY2 := Lib.hid (SIn.iter HY1.out hg1 (Nat.le_refl _) hDl HVlo.out HSlo.out HMlo.out)
        have HR1 := Lib.hid hrg1
        have HL := Lib.hid hlt
        have HSt := Lib.hid hst
        have HSz1 := Lib.hid (show w.heap.size < w1.heap.size from by have := HSz.out; omega)
        have q0 := (cell_of_row _ D off _ _ _ HY2.out.box).trans HV.out.1
        obtain ⟨p, hp⟩ : ∃ p, p = min (st * 64) zs.length := ⟨_, rfl⟩
        obtain ⟨q, hq⟩ : ∃ q, q = min (st * 64 + 64) zs.length := ⟨_, rfl⟩
        have hsec := fsector w1 D off va zs.length vc st hst (by omega) q0
        rw [← hp, ← hq] at hsec
        have HSec := Lib.hid hsec
        have HPQ := Lib.hid (And.intro hp hq)
        obtain ⟨c, hc⟩ : ∃ c, c = min q ys.length := ⟨_, rfl⟩
        have HC := Lib.hid hc
        have hmin : min (q : Int) (ys.length : Int) = (c : Int) := by omega
        have hp0 : (0 : Int) ≤ (p : Int) := by omega
        have hq0 : (0 : Int) ≤ (q : Int) := by omega
        clear hyl hsec hp hq hc hrg1 hg1 hs1 hlt hkey hlk hv hat hhas hst q0 HR HY1
        go_wp2_with fail
        refine HSec.out.mono ?_
        rintro e w2 ⟨rfl, k2, hw2⟩
        have HR2 := Lib.hid (show w2.ranges Try.prog 3 (unitElem (H := Unit)) M w.heap.size L.length (Maps.setOf (.agg []) L) (fun z => left z && !z.sameKey (sk st)) cnt1 from by rw [hw2]; exact HR1.out)
        have HY3 := Lib.hid (show SIn w D off B cs T (.slice va zs.length vc) (.map (some M)) (.slice sa ys.length sc) zs L left y w2 from by rw [hw2]; exact HY2.out.draw k2)
        have HSz2 := Lib.hid (show w.heap.size < w2.heap.size from by rw [hw2]; exact HSz1.out)
        have q1' := (cell_of_row _ D (off + 1) _ _ _ HY3.out.box).trans HV.out.2.1
        have q0' := (cell_of_row _ D off _ _ _ HY3.out.box).trans HV.out.1
        clear hw2 hen HY2 HR1
        by_cases hfc : p < c
        · have dfc : decide ((p : Int) < (c : Int)) = true := decide_eq_true (by omega)
          have hfci : (p : Int) < (c : Int) := by omega
          have hcy : c ≤ ys.length := by have := HC.out; omega
          have hcz : c ≤ zs.length := by have := HLe.out; omega
          obtain ⟨g, rfl⟩ : ∃ g, sa = some ⟨g, 0, none⟩ := by
            rcases HY3.out.syn.2 with ⟨e, h0⟩ | ⟨g, _, _, e, _⟩
            · have := HYs.out; omega
            · injection e with e1 e2 e3
              exact ⟨g, e1⟩
          have hcap : ys.length ≤ sc := by
            rcases HY3.out.syn.2 with ⟨e, h0⟩ | ⟨_, cap, _, e, _, _, h1, _⟩
            · cases e
            · injection e with e1 e2 e3
              have := HYs.out
              omega
          have hof : offA (some ⟨g, 0, none⟩) sc p = some ⟨g, p, none⟩ := by
            unfold offA
            rw [if_neg (by omega)]
            simp [Addr.add_lit]
          have hs1 := slice_lh (some ⟨g, 0, none⟩) ys.length sc p c (by omega) (by omega) .i64 .i64
          have hs2 := slice_lh va zs.length vc p c (by omega) (by omega) .i64 .i64
          rw [hof] at hs1
          have HGr := Lib.hid (And.intro hcy (And.intro hcz hfc))
          clear hof hcy hcz hfc
          go_upto_region 8 with (fail)
          have q0n := Fut.cell q0'
          have q1n := Fut.cell q1'
          clear q0' q1'
          refine wp_region_fut_tail 14 (by kernel_rfl) (by kernel_rfl) ?_
          simp only [List.take_succ_cons, List.take_zero, List.drop_succ_cons, List.drop_zero]
          repeat (go_big_quiet_step (fail))
          refine wpQuiet_nil ?_
          intro s
          have hb5 := s.bel
          generalize s.to = w5 at *
          clear s hs1 hs2 q0n q1n
          have HY5 := Lib.hid (SIn.below HY3.out hb5)
          have HR5 := Lib.hid (HR2.out.kept (row := none) ⟨hb5.os, hb5.tape, hb5.output, hb5.size, fun i hi _ => hb5.block i hi⟩ (fun e => by cases e) (fun e => by cases e))
          have HSz5 := Lib.hid (show w.heap.size < w5.heap.size from Nat.lt_of_lt_of_le HSz2.out hb5.size)
          obtain ⟨va2, vL2, vc2, hve2, hvL2, hvI2, hvlo2, hvn2, hvle2, hvB2⟩ := own_any HY5.out.now.own HY5.out.now.rg
          cases hve2
          have HIb := Lib.hid (isB_take (k := c - p) (isB_off (cap := vc) (k := p) hvI2 (by have := HGr.out; omega) hvle2) (by have := HGr.out; omega))
          have hsyn5 := HY5.out.syn
          rw [← HYs.out] at hsyn5
          clear hvI2 hvlo2 hvn2 hvB2 hvL2 hvle2 hb5
          have hbl : ((zs.drop p).take (c - p)).length = c - p := by rw [List.length_take, List.length_drop]; have := HGr.out; omega
          refine wpList_copy_mid rfl (.tmp 61) (.tmp 68) rfl B g sc y ((zs.drop p).take (c - p)) p (sc - p) (c - p) hbl (by rw [hbl]; have := HGr.out; have := HYs.out; omega) (by rw [hbl]; have := HGr.out; omega) hsyn5 _ _ _ rfl rfl HIb.out ?_
          intro w6 hown6 hgrow6
          have HR6 := Lib.hid (HR5.out.kept hgrow6 (fun e => by
            cases e
            obtain ⟨_, cur, hc⟩ := own_at HY5.out.syn rfl
            rcases HY5.out.now.mp with ⟨e0, _⟩ | ⟨M', e0, _, hss⟩
            · cases e0
            · cases e0; exact hss.not_cells hc) (fun e => by have := HSlo.out g rfl; cases e; omega))
          have HSz6 := Lib.hid (show w.heap.size < w6.heap.size from Nat.lt_of_lt_of_le HSz5.out hgrow6.size)
          have hleY : y.length ≤ zs.length := by rw [HYs.out]; exact HLe.out
          have hc6 := SIn.copied (sc := st) (w' := w6) HY5.out (g := g) rfl hleY (by rw [← HPQ.out.1, ← HPQ.out.2, HYs.out, ← HC.out]; exact HGr.out.2.2) HDB.out HAp.out (by rw [← HPQ.out.1, ← HPQ.out.2, HYs.out, ← HC.out, ← HYs.out]; exact hown6) hgrow6
          rw [← HPQ.out.1, ← HPQ.out.2, HYs.out, ← HC.out] at hc6
          have HY6 := Lib.hid hc6
          have hyl6 : (midB y ((zs.drop p).take (c - p)) p).length = ys.length := by rw [midB_length (by rw [hbl]; have := HGr.out; have := HYs.out; omega), HYs.out]
          clear hc6 hown6 hgrow6 hsyn5 hbl
          go_wp2
          go_roundw
          case rel =>
            first
              | exact ⟨_, cnt1, _, HR6, HY6, hyl6, HSz6⟩
              | (repeat apply Exists.intro
                 refine ⟨?_, rfl⟩
                 exact ⟨_, cnt1, _, HR6, HY6, hyl6, HSz6⟩)
          case measure => rw [HR6.out.left_eq, HRl.out]; exact HL.out
        · have dfc : decide ((p : Int) < (c : Int)) = false := decide_eq_false (by omega)
          have hfci : (c : Int) ≤ (p : Int) := by omega
          have HY4 := Lib.hid (SIn.skipped (sc := st) HY3.out (by rw [HYs.out]; exact HLe.out) (by rw [← HPQ.out.1, ← HPQ.out.2, HYs.out, ← HC.out]; exact hfc))
          go_wp2
          go_roundw
          case rel =>
            first
              | exact ⟨_, cnt1, y, HR2, HY4, HYs.out, HSz2⟩
              | (repeat apply Exists.intro
                 refine ⟨?_, rfl⟩
                 exact ⟨_, cnt1, y, HR2, HY4, HYs.out, HSz2⟩)
          case measure => rw [HR2.out.left_eq, HRl.out]; exact HL.out
end Go.Proofs.Ytafhgilikcablaa
