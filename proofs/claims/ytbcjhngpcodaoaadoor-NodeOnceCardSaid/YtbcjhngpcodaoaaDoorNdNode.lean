/- Contract of node's reader of a node. -/
import Derived.Test.YtbcjhngpcodaoaaDoorNdSt
import Derived.Deep.RegionLaw
import Derived.BigRegion
import Derived.Deep.DeepCutAuto
namespace Go.Proofs.YtbcjhngpcodaoaaDoor
open Go.RowKit
set_option linter.unusedVariables false
set_option maxRecDepth 100000

theorem two_nd (w : World) (o1 o2 : Obj) : ((w.alloc o1).alloc o2).heap[w.heap.size]? = some o1 ∧ ((w.alloc o1).alloc o2).heap[w.heap.size + 1]? = some o2 := by
  constructor
  · exact (Below.heap_alloc (w.alloc o1) o2 _ (by simp)).trans (Go.heap_alloc_new w o1)
  · have := Go.heap_alloc_new (w.alloc o1) o2
    rwa [show (w.alloc o1).heap.size = w.heap.size + 1 by simp] at this
theorem NP.start {w : World} {R : Nat} {l : List Int} (lf : Bool) (h : Rr w R l true) : NP w R lf (.slice none 0 0) (.slice none 0 0) (.slice none 0 0) [] [] ⟨[], [], [], l, true⟩ ((w.alloc (.cells #[.bool false, .slice none 0 0, .slice none 0 0, .slice none 0 0] 28)).alloc (.cells #[.bool lf, .slice none 0 0, .slice none 0 0, .slice none 0 0] 28)) :=
  ⟨h.below (bel0 _ (bel0 _ (Below.refl _ _))), (two_nd w _ _).1, (two_nd w _ _).2, Nr.nil _ _, grown_of (bel0 _ (bel0 _ (Below.refl _ _))), h.low⟩
/-- a statement that is the last of its sequence, so that it can be cut around -/
theorem wp_last {P : Program} {s : Code} {Q : Exit → Act → World → Prop} {a : Act} {w : World} (h : ∀ K : Act → World → Prop, (∀ a' w', Q .normal a' w' → K a' w') → s.wp P (Exit.then K Q) a w) : s.wp P Q a w := by
  refine wp_mono (h (fun a' w' => Q .normal a' w') (fun _ _ q => q)) ?_
  intro e a' w' hq
  cases e <;> exact hq
theorem nd_slice {w : World} {B n size : Nat} {e : TypeId} {v : Value} {xs : List Value} (h : w.ownsRow B e size v n xs) : ∃ a L c, v = .slice a L c := by
  rcases h.2 with ⟨rfl, h0⟩ | ⟨g, cap, cur, rfl, _⟩
  · exact ⟨none, 0, 0, rfl⟩
  · exact ⟨_, _, _, rfl⟩
/-- a node is answered -/
def NodePost (w : World) (R : Nat) (lf : Bool) (s : NSt) (e : Ending) (w' : World) : Prop :=
  ∃ v1 v2 v3 xs ys, e = .returned (.agg #[.bool lf, v1, v2, v3]) ∧ Nr w' (w.heap.size + 2) v1 v2 v3 s.ks s.vs s.is xs ys ∧ RdPost w R s.l s.ok w'
theorem NP.cells {w wr : World} {R : Nat} {lf : Bool} {v1 v2 v3 : Value} {xs ys : List Value} {s : NSt} (h : NP w R lf v1 v2 v3 xs ys s wr) :
    (wr.cell? ⟨w.heap.size + 1, 0, none⟩ = some (.bool lf) ∧ wr.cell? ⟨w.heap.size + 1, 1, none⟩ = some v1 ∧ wr.cell? ⟨w.heap.size + 1, 2, none⟩ = some v2 ∧ wr.cell? ⟨w.heap.size + 1, 3, none⟩ = some v3) ∧ (∀ j, wr.frozen? ⟨w.heap.size + 1, j, none⟩ = false) :=
  ⟨⟨cell_of_row _ _ 0 _ _ _ h.box, cell_of_row _ _ 1 _ _ _ h.box, cell_of_row _ _ 2 _ _ _ h.box, cell_of_row _ _ 3 _ _ _ h.box⟩, fun j => frozen_of_row _ _ j _ _ h.box⟩
theorem NP.rcells {w wr : World} {R : Nat} {lf : Bool} {v1 v2 v3 : Value} {xs ys : List Value} {s : NSt} (h : NP w R lf v1 v2 v3 xs ys s wr) : ∃ a L cap, wr.cell? ⟨R, 0, none⟩ = some (.slice a L cap) ∧ wr.cell? ⟨R, 1, none⟩ = some (.bool s.ok) := by
  obtain ⟨a, L, cap, hb, _⟩ := h.rd
  exact ⟨a, L, cap, cell_of_row _ _ 0 _ _ _ hb, cell_of_row _ _ 1 _ _ _ hb⟩
/-- what the node is read as, stored in the answer's own box -/
theorem NP.out {w wr : World} {R : Nat} {lf : Bool} {v1 v2 v3 : Value} {xs ys : List Value} {s : NSt} (h : NP w R lf v1 v2 v3 xs ys s wr) (x0 x1 x2 x3 : Value) :
    Nr ((((wr.setCell ⟨w.heap.size, 0, none⟩ x0).setCell ⟨w.heap.size, 1, none⟩ x1).setCell ⟨w.heap.size, 2, none⟩ x2).setCell ⟨w.heap.size, 3, none⟩ x3) (w.heap.size + 2) v1 v2 v3 s.ks s.vs s.is xs ys ∧ RdPost w R s.l s.ok ((((wr.setCell ⟨w.heap.size, 0, none⟩ x0).setCell ⟨w.heap.size, 1, none⟩ x1).setCell ⟨w.heap.size, 2, none⟩ x2).setCell ⟨w.heap.size, 3, none⟩ x3) := by
  have hR := h.lt
  have hg : wr.grownBy ((((wr.setCell ⟨w.heap.size, 0, none⟩ x0).setCell ⟨w.heap.size, 1, none⟩ x1).setCell ⟨w.heap.size, 2, none⟩ x2).setCell ⟨w.heap.size, 3, none⟩ x3) (some w.heap.size) :=
    grown_two (grown_two (grown_two (grown_set 0 x0) (grown_set 1 x1)) (grown_set 2 x2)) (grown_set 3 x3)
  exact ⟨h.rows.grown hg (by omega) h.res (by decide), h.rd.far hg (fun K hK => by cases hK; omega), grown_far h.gr hg (fun K hK => by cases hK; omega)⟩

set_option maxHeartbeats 6400000 in
theorem node_leaf (w : World) (R : Nat) (l : List Int) (h : Rr w R l true) (hl : l.length ≤ 1000000) : Calls Tryd.prog 28 #[.pointer (some ⟨R, 0, none⟩), .bool true] w (NodePost w R true (nodeS true l)) := by
  have HN0 := Lib.hid (NP.start true h)
  have HMem := Lib.hid (show ∀ z ∈ l, 0 ≤ z ∧ z ≤ 255 by obtain ⟨a, L, cap, _, hI, _⟩ := h; exact hI.mem)
  obtain ⟨a0, L0, cap0, hbox, hI, _⟩ := h
  have hL0 := hI.1
  subst hL0
  have HBox := Lib.hid hbox
  have HLl := Lib.hid hl
  have hli : (l.length : Int) ≤ 1000000 := by omega
  clear hbox hI hl
  go_enter Tryd.func28, Tryd.ntmps28
  go_upto_region 2 with (fail)
  generalize hW1 : ((w.alloc (.cells #[.bool false, .slice none 0 0, .slice none 0 0, .slice none 0 0] 28)).alloc (.cells #[.bool true, .slice none 0 0, .slice none 0 0, .slice none 0 0] 28)) = W1 at *
  have hbox1 : W1.heap[R]? = some (.cells #[.slice a0 l.length cap0, .bool true] 51 (0, 0)) := by
    rw [← hW1]
    exact ((bel0 _ (bel0 _ (Below.refl w.heap.size w))).block R (Array.getElem?_eq_some_iff.1 HBox.out).1).trans HBox.out
  have q0 := cell_of_row _ _ 0 _ _ _ hbox1
  simp only [List.getElem?_toArray, List.getElem?_cons_zero] at q0
  clear hW1 hbox1
  go_wp2_with fail
  refine (number_rd W1 R l true (l.length : Int) HN0.out.rd (by omega) hli).mono ?_
  rintro e w1 ⟨rfl, hp⟩
  have HN1 := Lib.hid (HN0.out.call hp)
  have hbd := numS_bd (most := (l.length : Int)) (ok := true) (by omega) HMem.out
  obtain ⟨N, hN⟩ : ∃ N : Nat, (numS (l.length : Int) l true).1 = (N : Int) := ⟨(numS (l.length : Int) l true).1.toNat, by omega⟩
  have HC := Lib.hid (show countS l = N by unfold countS; rw [hN]; rfl)
  have HNb := Lib.hid (show N ≤ 1000000 by omega)
  rw [hN]
  clear hp q0 hbd hN HN0
  have HS := Lib.hid (show ∃ v1 v2 v3 xs ys, NP w R true v1 v2 v3 xs ys (headS true l) w1 from ⟨_, _, _, _, _, HN1.out⟩)
  have HSl := Lib.hid (show (headS true l).ks.length = 0 ∧ (headS true l).vs.length = 0 from ⟨rfl, rfl⟩)
  obtain ⟨v1, v2, v3, xs, ys, hn⟩ := HS.out
  have HN := Lib.hid hn
  clear hn
  go_wp2
  go_loopw [7] (fun i wr => ∃ (k : Nat) (s : NSt) (v1 v2 v3 : Value) (xs ys : List Value), k ≤ N ∧ i = .int .i64 (k : Int) ∧ Hid (NP w R true v1 v2 v3 xs ys s wr) ∧ Hid (loopS true (N - k) s = nodeS true l ∧ s.ks.length ≤ k ∧ s.vs.length ≤ k)) (fun i _ => N - (intOf i).toNat)
  case atStart => exact ⟨0, headS true l, _, _, _, _, _, by omega, rfl, HN, Lib.hid ⟨by unfold nodeS; rw [HC.out]; rfl, by have := HSl.out.1; omega, by have := HSl.out.2; omega⟩⟩
  case round =>
    obtain ⟨k, ⟨ks, vs, is, l2, ok2⟩, v1, v2, v3, xs, ys, hk, rfl, HN, HL⟩ := hrel
    have hNb := HNb.out
    by_cases hgo : k < N ∧ ok2 = true
    · obtain ⟨hlt, rfl⟩ := hgo
      have hki : (k : Int) < (N : Int) := by omega
      have hk0 : (0 : Int) ≤ (k : Int) := by omega
      have HK := Lib.hid (show ks.length ≤ 1000000 ∧ vs.length ≤ 1000000 from ⟨by have := HL.out.2.1; simp at this; omega, by have := HL.out.2.2; simp at this; omega⟩)
      obtain ⟨ra, rL, rc, g0, g1⟩ := HN.out.rcells
      have HLt := Lib.hid hlt
      clear hk hlt
      obtain ⟨⟨p0, p1, p2, p3⟩, pz⟩ := HN.out.cells
      have hsz := HN.out.size
      go_upto_region 8 with (fail)
      go_cut [] (fun wx => ∃ v1 v2 v3 xs ys, NP w R true v1 v2 v3 xs ys ⟨ks ++ [(bytS l2 true).1], vs, is, (bytS l2 true).2.1, (bytS l2 true).2.2⟩ wx)
      case first =>
        go_region_law (first
          | (go_simp; go_at_call 42; refine (bytes_rd _ R l2 true (HN.out.rd.below (by repeat (first | exact Below.refl _ _ | refine bel0 _ ?_ | refine Below.drew ?_)))).mono ?_; rintro e w2 ⟨v, rfl, ho, hr, hp⟩; obtain ⟨a, L, c, rfl, hE⟩ := El.of ho hr; have HE := Lib.hid hE; have HN2 := Lib.hid ((HN.out.below (by repeat (first | exact Below.refl _ _ | refine bel0 _ ?_ | refine Below.drew ?_))).call hp); obtain ⟨⟨r0, r1, r2, r3⟩, rz⟩ := HN2.out.cells; have rs := HN2.out.size; clear ho hr hp hE)
          | (refine step_sl1 rfl (.tmp 38) (.tmp 41) rfl (w.heap.size + 2) v1 ks.length xs w2.heap.size a L c rfl rfl ((HN2.out.below (by repeat (first | exact Below.refl _ _ | refine bel0 _ ?_ | refine Below.drew ?_))).rows.o1.1) (by simp [go_sem]) (by have := HK.out; omega) (by have := HN2.out.size; simp; omega) ?_; intro g cap w3 hown hgr hor hlt; obtain ⟨hb3, _⟩ := (HN2.out.below (by repeat (first | exact Below.refl _ _ | refine bel0 _ ?_ | refine Below.drew ?_))).box' (HN2.out.below (by repeat (first | exact Below.refl _ _ | refine bel0 _ ?_ | refine Below.drew ?_))).rows.o1.1 hgr; have HN3 := Lib.hid (HN2.out.key (by repeat (first | exact Below.refl _ _ | refine bel0 _ ?_ | refine Below.drew ?_)) HE.out hgr hor hown); have d3 := cell_of_row _ _ 1 _ _ _ hb3; have dz := frozen_of_row _ _ 1 _ _ hb3; have ds := (Array.getElem?_eq_some_iff.1 hb3).1; clear hown hgr hor hlt hb3))
        all_goals
          go_wp2_with fail
          go_meet
          exact ⟨_, _, _, _, _, HN3.out⟩
      case rest =>
        obtain ⟨v1', v2', v3', xs', ys', hn⟩ := hcut
        have HNk := Lib.hid hn
        clear hn HN p0 p1 p2 p3 pz hsz g0 g1
        obtain ⟨v1, hv1⟩ : ∃ v1, v1 = v1' := ⟨_, rfl⟩
        obtain ⟨l3, hl3⟩ : ∃ l3, l3 = (bytS l2 true).2.1 := ⟨_, rfl⟩
        obtain ⟨ok3, hok3⟩ : ∃ ok3, ok3 = (bytS l2 true).2.2 := ⟨_, rfl⟩
        have HL3 := Lib.hid (show l3 = (bytS l2 true).2.1 ∧ ok3 = (bytS l2 true).2.2 from ⟨hl3, hok3⟩)
        have HN := Lib.hid (show NP w R true v1' v2' v3' xs' ys' ⟨ks ++ [(bytS l2 true).1], vs, is, l3, ok3⟩ wc by rw [hl3, hok3]; exact HNk.out)
        clear hv1 hl3 hok3 HNk
        obtain ⟨⟨p0, p1, p2, p3⟩, pz⟩ := HN.out.cells
        have hsz := HN.out.size
        go_upto_region 10 with (fail)
        refine wp_last ?_
        intro KK hKK
        go_cut [] (fun wx => ∃ v1 v2 v3 xs ys, NP w R true v1 v2 v3 xs ys ⟨ks ++ [(bytS l2 true).1], vs ++ [(bytS l3 ok3).1], is, (bytS l3 ok3).2.1, (bytS l3 ok3).2.2⟩ wx)
        case first =>
          go_region_law (first
            | (go_simp; go_at_call 42; refine (bytes_rd _ R l3 ok3 (HN.out.rd.below (by repeat (first | exact Below.refl _ _ | refine bel0 _ ?_ | refine Below.drew ?_)))).mono ?_; rintro e w2 ⟨v, rfl, ho, hr, hp⟩; obtain ⟨a, L, c, rfl, hE⟩ := El.of ho hr; have HE := Lib.hid hE; have HN2 := Lib.hid ((HN.out.below (by repeat (first | exact Below.refl _ _ | refine bel0 _ ?_ | refine Below.drew ?_))).call hp); obtain ⟨⟨r0, r1, r2, r3⟩, rz⟩ := HN2.out.cells; have rs := HN2.out.size; clear ho hr hp hE)
            | (refine step_sl1 rfl (.tmp 46) (.tmp 49) rfl (w.heap.size + 2) v2' vs.length ys' w2.heap.size a L c rfl rfl ((HN2.out.below (by repeat (first | exact Below.refl _ _ | refine bel0 _ ?_ | refine Below.drew ?_))).rows.o2.1) (by simp [go_sem]) (by have := HK.out; omega) (by have := HN2.out.size; simp; omega) ?_; intro g cap w3 hown hgr hor hlt; obtain ⟨hb3, _⟩ := (HN2.out.below (by repeat (first | exact Below.refl _ _ | refine bel0 _ ?_ | refine Below.drew ?_))).box' (HN2.out.below (by repeat (first | exact Below.refl _ _ | refine bel0 _ ?_ | refine Below.drew ?_))).rows.o2.1 hgr; have HN3 := Lib.hid (HN2.out.val (by repeat (first | exact Below.refl _ _ | refine bel0 _ ?_ | refine Below.drew ?_)) HE.out hgr hor hown); have d3 := cell_of_row _ _ 2 _ _ _ hb3; have dz := frozen_of_row _ _ 2 _ _ hb3; have ds := (Array.getElem?_eq_some_iff.1 hb3).1; clear hown hgr hor hlt hb3))
          all_goals
            go_wp2_with fail
            go_meet
            exact ⟨_, _, _, _, _, HN3.out⟩
        case rest =>
          obtain ⟨v1'', v2'', v3'', xs'', ys'', hn⟩ := hcut
          have HNn := Lib.hid (show NP w R true v1'' v2'' v3'' xs'' ys'' (stepS true ⟨ks, vs, is, l2, true⟩) wc by
            unfold stepS
            rw [HL3.out.1, HL3.out.2] at hn
            exact hn)
          have HLn := Lib.hid (show loopS true (N - (k + 1)) (stepS true ⟨ks, vs, is, l2, true⟩) = nodeS true l ∧ (stepS true ⟨ks, vs, is, l2, true⟩).ks.length ≤ k + 1 ∧ (stepS true ⟨ks, vs, is, l2, true⟩).vs.length ≤ k + 1 from by
            have h1 := HL.out
            have h2 := HLt.out
            refine ⟨?_, ?_, ?_⟩
            · rw [← h1.1, show N - k = (N - (k + 1)) + 1 by omega]
              rfl
            · have := h1.2.1
              show (ks ++ [_]).length ≤ k + 1
              simp at this ⊢
              exact this
            · have := h1.2.2
              show (vs ++ [_]).length ≤ _
              simp at this ⊢
              omega)
          clear hn HN p0 p1 p2 p3 pz hsz
          refine hKK _ _ ?_
          go_wp2
          go_roundw
          case rel =>
            first
              | exact ⟨k + 1, _, _, _, _, _, _, HLt.out, by go_num, HNn, HLn⟩
              | (repeat apply Exists.intro
                 refine ⟨?_, rfl⟩
                 exact ⟨k + 1, _, _, _, _, _, _, HLt.out, by go_num, HNn, HLn⟩)
          case measure => have := HLt.out; simp [intOf]; omega
    · have HE := Lib.hid (show nodeS true l = ⟨ks, vs, is, l2, ok2⟩ by
        rw [← HL.out.1]
        by_cases hlt : k < N
        · have hok : ok2 = false := by
            cases ok2 with
            | true => exact absurd ⟨hlt, rfl⟩ hgo
            | false => rfl
          rw [hok, show N - k = (N - (k + 1)) + 1 by omega]
          rfl
        · rw [show N - k = 0 by omega]
          rfl)
      obtain ⟨ra, rL, rc, g0, g1⟩ := HN.out.rcells
      obtain ⟨⟨p0, p1, p2, p3⟩, pz⟩ := HN.out.cells
      obtain ⟨a1, L1, c1, rfl, _⟩ := HN.out.rows.o1.isBs
      obtain ⟨a2, L2, c2, rfl, _⟩ := HN.out.rows.o2.isBs
      obtain ⟨a3, L3, c3, rfl⟩ := nd_slice HN.out.rows.o3
      have hres := HN.out.res
      have s0 := cell_of_row _ _ 0 _ _ _ hres
      have s1 := cell_of_row _ _ 1 _ _ _ hres
      have s2 := cell_of_row _ _ 2 _ _ _ hres
      have s3 := cell_of_row _ _ 3 _ _ _ hres
      simp only [List.getElem?_toArray, List.getElem?_cons_zero, List.getElem?_cons_succ] at s0 s1 s2 s3
      have z0 := fun j => frozen_of_row _ _ j _ _ hres
      have hsz := HN.out.size
      have hO := HN.out.out (.bool true) (.slice a1 L1 c1) (.slice a2 L2 c2) (.slice a3 L3 c3)
      have HO := Lib.hid hO
      have hsA : w.heap.size < wr.heap.size := by omega
      clear hres hO
      by_cases hlt : (k : Int) < (N : Int)
      · have hok : ok2 = false := by
          cases ok2 with
          | true => exact absurd ⟨by omega, rfl⟩ hgo
          | false => rfl
        subst hok
        clear hgo
        go_wp2
        refine bodyPost_ret (v := .agg #[.bool true, .slice a1 L1 c1, .slice a2 L2 c2, .slice a3 L3 c3]) (by simp [results, Tryd.results28, go_sem, s0, s1, s2, s3]) rfl ⟨_, _, _, _, _, rfl, by rw [HE.out]; exact HO.out.1, by rw [HE.out]; exact HO.out.2⟩
      · have hlt' : (N : Int) ≤ (k : Int) := by omega
        clear hgo
        go_wp2
        refine bodyPost_ret (v := .agg #[.bool true, .slice a1 L1 c1, .slice a2 L2 c2, .slice a3 L3 c3]) (by simp [results, Tryd.results28, go_sem, s0, s1, s2, s3]) rfl ⟨_, _, _, _, _, rfl, by rw [HE.out]; exact HO.out.1, by rw [HE.out]; exact HO.out.2⟩

set_option maxHeartbeats 6400000 in
theorem node_inner (w : World) (R : Nat) (l : List Int) (h : Rr w R l true) (hl : l.length ≤ 1000000) : Calls Tryd.prog 28 #[.pointer (some ⟨R, 0, none⟩), .bool false] w (NodePost w R false (nodeS false l)) := by
  have HN0 := Lib.hid (NP.start false h)
  have HMem := Lib.hid (show ∀ z ∈ l, 0 ≤ z ∧ z ≤ 255 by obtain ⟨a, L, cap, _, hI, _⟩ := h; exact hI.mem)
  obtain ⟨a0, L0, cap0, hbox, hI, _⟩ := h
  have hL0 := hI.1
  subst hL0
  have HBox := Lib.hid hbox
  have HLl := Lib.hid hl
  have hli : (l.length : Int) ≤ 1000000 := by omega
  clear hbox hI hl
  go_enter Tryd.func28, Tryd.ntmps28
  go_upto_region 2 with (fail)
  generalize hW1 : ((w.alloc (.cells #[.bool false, .slice none 0 0, .slice none 0 0, .slice none 0 0] 28)).alloc (.cells #[.bool false, .slice none 0 0, .slice none 0 0, .slice none 0 0] 28)) = W1 at *
  have hbox1 : W1.heap[R]? = some (.cells #[.slice a0 l.length cap0, .bool true] 51 (0, 0)) := by
    rw [← hW1]
    exact ((bel0 _ (bel0 _ (Below.refl w.heap.size w))).block R (Array.getElem?_eq_some_iff.1 HBox.out).1).trans HBox.out
  have q0 := cell_of_row _ _ 0 _ _ _ hbox1
  simp only [List.getElem?_toArray, List.getElem?_cons_zero] at q0
  clear hW1 hbox1
  go_wp2_with fail
  refine (number_rd W1 R l true (l.length : Int) HN0.out.rd (by omega) hli).mono ?_
  rintro e w1 ⟨rfl, hp⟩
  have HN1 := Lib.hid (HN0.out.call hp)
  have hbd := numS_bd (most := (l.length : Int)) (ok := true) (by omega) HMem.out
  obtain ⟨N, hN⟩ : ∃ N : Nat, (numS (l.length : Int) l true).1 = (N : Int) := ⟨(numS (l.length : Int) l true).1.toNat, by omega⟩
  have HC := Lib.hid (show countS l = N by unfold countS; rw [hN]; rfl)
  have HNb := Lib.hid (show N ≤ 1000000 by omega)
  rw [hN]
  clear hp q0 hbd hN HN0
  have HK := Lib.hid (show (0 : Nat) ≤ 1000000 by omega)
  obtain ⟨is, his⟩ : ∃ is : List Int, is = [] := ⟨_, rfl⟩
  obtain ⟨v3, hv3⟩ : ∃ v3, v3 = Value.slice none 0 0 := ⟨_, rfl⟩
  have HIs := Lib.hid his
  obtain ⟨l1, hl1⟩ : ∃ l1, l1 = (numS (l.length : Int) l true).2.1 := ⟨_, rfl⟩
  obtain ⟨ok1, hok1⟩ : ∃ ok1, ok1 = (numS (l.length : Int) l true).2.2 := ⟨_, rfl⟩
  have HN := Lib.hid (show NP w R false (.slice none 0 0) (.slice none 0 0) v3 [] [] ⟨[], [], is, l1, ok1⟩ w1 by rw [his, hv3, hl1, hok1]; exact HN1.out)
  have HL1 := Lib.hid (show l1 = (numS (l.length : Int) l true).2.1 ∧ ok1 = (numS (l.length : Int) l true).2.2 from ⟨hl1, hok1⟩)
  have HIz := Lib.hid (show is.length = 0 by rw [his]; rfl)
  clear his hv3 hl1 hok1 HN1
  obtain ⟨⟨p0, p1, p2, p3⟩, pz⟩ := HN.out.cells
  have hsz := HN.out.size
  go_upto_region 4 with (fail)
  go_cut [] (fun wx => ∃ v1 v2 v3 xs ys, NP w R false v1 v2 v3 xs ys ⟨[], [], is ++ [(numS 10000 l1 ok1).1], (numS 10000 l1 ok1).2.1, (numS 10000 l1 ok1).2.2⟩ wx)
  case first =>
    go_region_law (first
      | (go_simp; go_at_call 41; refine (number_rd _ R l1 ok1 10000 (HN.out.rd.below (by repeat (first | exact Below.refl _ _ | refine bel0 _ ?_ | refine Below.drew ?_))) (by omega) (by omega)).mono ?_; rintro e w2 ⟨rfl, hp⟩; have HN2 := Lib.hid ((HN.out.below (by repeat (first | exact Below.refl _ _ | refine bel0 _ ?_ | refine Below.drew ?_))).call hp); obtain ⟨⟨r0, r1, r2, r3⟩, rz⟩ := HN2.out.cells; have rs := HN2.out.size; clear hp)
      | (refine step_int1 rfl (.tmp 20) (.tmp 23) rfl (w.heap.size + 2) v3 is.length (is.map (Value.int .i64)) w2.heap.size (numS 10000 l1 ok1).1 rfl rfl ((HN2.out.below (by repeat (first | exact Below.refl _ _ | refine bel0 _ ?_ | refine Below.drew ?_))).rows.o3) (by simp [go_sem]) (by have := HIz.out; omega) (by have := HN2.out.size; simp; omega) ?_; intro g cap w3 hown hgr hor hlt; obtain ⟨hb3, _⟩ := (HN2.out.below (by repeat (first | exact Below.refl _ _ | refine bel0 _ ?_ | refine Below.drew ?_))).box' (HN2.out.below (by repeat (first | exact Below.refl _ _ | refine bel0 _ ?_ | refine Below.drew ?_))).rows.o3 hgr; have HN3 := Lib.hid (HN2.out.kid (z := (numS 10000 l1 ok1).1) (by repeat (first | exact Below.refl _ _ | refine bel0 _ ?_ | refine Below.drew ?_)) hgr hown); have d3 := cell_of_row _ _ 3 _ _ _ hb3; have dz := frozen_of_row _ _ 3 _ _ hb3; have ds := (Array.getElem?_eq_some_iff.1 hb3).1; clear hown hgr hor hlt hb3))
    all_goals
      go_wp2_with fail
      go_meet
      exact ⟨_, _, _, _, _, HN3.out⟩
  case rest =>
    obtain ⟨v1, v2, v3', xs, ys, hn⟩ := hcut
    have HN' := Lib.hid (show NP w R false v1 v2 v3' xs ys (headS false l) wc by
      unfold headS
      rw [HL1.out.1, HL1.out.2, HIs.out] at hn
      exact hn)
    have HSl := Lib.hid (show (headS false l).ks.length = 0 ∧ (headS false l).is.length = 1 from ⟨rfl, rfl⟩)
    clear hn HN p0 p1 p2 p3 pz hsz
    have HN := HN'
    go_wp2
    go_loopw [7] (fun i wr => ∃ (k : Nat) (s : NSt) (v1 v2 v3 : Value) (xs ys : List Value), k ≤ N ∧ i = .int .i64 (k : Int) ∧ Hid (NP w R false v1 v2 v3 xs ys s wr) ∧ Hid (loopS false (N - k) s = nodeS false l ∧ s.ks.length ≤ k ∧ s.is.length ≤ k + 1)) (fun i _ => N - (intOf i).toNat)
    case atStart => exact ⟨0, headS false l, _, _, _, _, _, by omega, rfl, HN, Lib.hid ⟨by unfold nodeS; rw [HC.out]; rfl, by have := HSl.out.1; omega, by have := HSl.out.2; omega⟩⟩
    case round =>
      obtain ⟨k, ⟨ks, vs, is, l2, ok2⟩, v1, v2, v3, xs, ys, hk, rfl, HN, HL⟩ := hrel
      have hNb := HNb.out
      by_cases hgo : k < N ∧ ok2 = true
      · obtain ⟨hlt, rfl⟩ := hgo
        have hki : (k : Int) < (N : Int) := by omega
        have hk0 : (0 : Int) ≤ (k : Int) := by omega
        have HK := Lib.hid (show ks.length ≤ 1000000 ∧ is.length ≤ 1000001 from ⟨by have := HL.out.2.1; simp at this; omega, by have := HL.out.2.2; simp at this; omega⟩)
        obtain ⟨ra, rL, rc, g0, g1⟩ := HN.out.rcells
        have HLt := Lib.hid hlt
        clear hk hlt
        obtain ⟨⟨p0, p1, p2, p3⟩, pz⟩ := HN.out.cells
        have hsz := HN.out.size
        go_upto_region 8 with (fail)
        go_cut [] (fun wx => ∃ v1 v2 v3 xs ys, NP w R false v1 v2 v3 xs ys ⟨ks ++ [(bytS l2 true).1], vs, is, (bytS l2 true).2.1, (bytS l2 true).2.2⟩ wx)
        case first =>
          go_region_law (first
            | (go_simp; go_at_call 42; refine (bytes_rd _ R l2 true (HN.out.rd.below (by repeat (first | exact Below.refl _ _ | refine bel0 _ ?_ | refine Below.drew ?_)))).mono ?_; rintro e w2 ⟨v, rfl, ho, hr, hp⟩; obtain ⟨a, L, c, rfl, hE⟩ := El.of ho hr; have HE := Lib.hid hE; have HN2 := Lib.hid ((HN.out.below (by repeat (first | exact Below.refl _ _ | refine bel0 _ ?_ | refine Below.drew ?_))).call hp); obtain ⟨⟨r0, r1, r2, r3⟩, rz⟩ := HN2.out.cells; have rs := HN2.out.size; clear ho hr hp hE)
            | (refine step_sl1 rfl (.tmp 38) (.tmp 41) rfl (w.heap.size + 2) v1 ks.length xs w2.heap.size a L c rfl rfl ((HN2.out.below (by repeat (first | exact Below.refl _ _ | refine bel0 _ ?_ | refine Below.drew ?_))).rows.o1.1) (by simp [go_sem]) (by have := HK.out; omega) (by have := HN2.out.size; simp; omega) ?_; intro g cap w3 hown hgr hor hlt; obtain ⟨hb3, _⟩ := (HN2.out.below (by repeat (first | exact Below.refl _ _ | refine bel0 _ ?_ | refine Below.drew ?_))).box' (HN2.out.below (by repeat (first | exact Below.refl _ _ | refine bel0 _ ?_ | refine Below.drew ?_))).rows.o1.1 hgr; have HN3 := Lib.hid (HN2.out.key (by repeat (first | exact Below.refl _ _ | refine bel0 _ ?_ | refine Below.drew ?_)) HE.out hgr hor hown); have d3 := cell_of_row _ _ 1 _ _ _ hb3; have dz := frozen_of_row _ _ 1 _ _ hb3; have ds := (Array.getElem?_eq_some_iff.1 hb3).1; clear hown hgr hor hlt hb3))
          all_goals
            go_wp2_with fail
            go_meet
            exact ⟨_, _, _, _, _, HN3.out⟩
        case rest =>
          obtain ⟨v1', v2', v3', xs', ys', hn⟩ := hcut
          have HNk := Lib.hid hn
          clear hn HN p0 p1 p2 p3 pz hsz g0 g1
          obtain ⟨v1, hv1⟩ : ∃ v1, v1 = v1' := ⟨_, rfl⟩
          obtain ⟨l3, hl3⟩ : ∃ l3, l3 = (bytS l2 true).2.1 := ⟨_, rfl⟩
          obtain ⟨ok3, hok3⟩ : ∃ ok3, ok3 = (bytS l2 true).2.2 := ⟨_, rfl⟩
          have HL3 := Lib.hid (show l3 = (bytS l2 true).2.1 ∧ ok3 = (bytS l2 true).2.2 from ⟨hl3, hok3⟩)
          have HN := Lib.hid (show NP w R false v1' v2' v3' xs' ys' ⟨ks ++ [(bytS l2 true).1], vs, is, l3, ok3⟩ wc by rw [hl3, hok3]; exact HNk.out)
          clear hv1 hl3 hok3 HNk
          obtain ⟨⟨p0, p1, p2, p3⟩, pz⟩ := HN.out.cells
          have hsz := HN.out.size
          go_upto_region 11 with (fail)
          refine wp_last ?_
          intro KK hKK
          go_cut [] (fun wx => ∃ v1 v2 v3 xs ys, NP w R false v1 v2 v3 xs ys ⟨ks ++ [(bytS l2 true).1], vs, is ++ [(numS 10000 l3 ok3).1], (numS 10000 l3 ok3).2.1, (numS 10000 l3 ok3).2.2⟩ wx)
          case first =>
            go_region_law (first
              | (go_simp; go_at_call 41; refine (number_rd _ R l3 ok3 10000 (HN.out.rd.below (by repeat (first | exact Below.refl _ _ | refine bel0 _ ?_ | refine Below.drew ?_))) (by omega) (by omega)).mono ?_; rintro e w2 ⟨rfl, hp⟩; have HN2 := Lib.hid ((HN.out.below (by repeat (first | exact Below.refl _ _ | refine bel0 _ ?_ | refine Below.drew ?_))).call hp); obtain ⟨⟨r0, r1, r2, r3⟩, rz⟩ := HN2.out.cells; have rs := HN2.out.size; clear hp)
              | (refine step_int1 rfl (.tmp 53) (.tmp 56) rfl (w.heap.size + 2) v3' is.length (is.map (Value.int .i64)) w2.heap.size (numS 10000 l3 ok3).1 rfl rfl ((HN2.out.below (by repeat (first | exact Below.refl _ _ | refine bel0 _ ?_ | refine Below.drew ?_))).rows.o3) (by simp [go_sem]) (by have := HK.out; omega) (by have := HN2.out.size; simp; omega) ?_; intro g cap w3 hown hgr hor hlt; obtain ⟨hb3, _⟩ := (HN2.out.below (by repeat (first | exact Below.refl _ _ | refine bel0 _ ?_ | refine Below.drew ?_))).box' (HN2.out.below (by repeat (first | exact Below.refl _ _ | refine bel0 _ ?_ | refine Below.drew ?_))).rows.o3 hgr; have HN3 := Lib.hid (HN2.out.kid (z := (numS 10000 l3 ok3).1) (by repeat (first | exact Below.refl _ _ | refine bel0 _ ?_ | refine Below.drew ?_)) hgr hown); have d3 := cell_of_row _ _ 3 _ _ _ hb3; have dz := frozen_of_row _ _ 3 _ _ hb3; have ds := (Array.getElem?_eq_some_iff.1 hb3).1; clear hown hgr hor hlt hb3))
            all_goals
              go_wp2_with fail
              go_meet
              exact ⟨_, _, _, _, _, HN3.out⟩
          case rest =>
            obtain ⟨v1'', v2'', v3'', xs'', ys'', hn⟩ := hcut
            have HNn := Lib.hid (show NP w R false v1'' v2'' v3'' xs'' ys'' (stepS false ⟨ks, vs, is, l2, true⟩) wc by
              unfold stepS
              rw [HL3.out.1, HL3.out.2] at hn
              exact hn)
            have HLn := Lib.hid (show loopS false (N - (k + 1)) (stepS false ⟨ks, vs, is, l2, true⟩) = nodeS false l ∧ (stepS false ⟨ks, vs, is, l2, true⟩).ks.length ≤ k + 1 ∧ (stepS false ⟨ks, vs, is, l2, true⟩).is.length ≤ k + 1 + 1 from by
              have h1 := HL.out
              have h2 := HLt.out
              refine ⟨?_, ?_, ?_⟩
              · rw [← h1.1, show N - k = (N - (k + 1)) + 1 by omega]
                rfl
              · have := h1.2.1
                show (ks ++ [_]).length ≤ k + 1
                simp at this ⊢
                exact this
              · have := h1.2.2
                show (is ++ [_]).length ≤ _
                simp at this ⊢
                omega)
            clear hn HN p0 p1 p2 p3 pz hsz
            refine hKK _ _ ?_
            go_wp2
            go_roundw
            case rel =>
              first
                | exact ⟨k + 1, _, _, _, _, _, _, HLt.out, by go_num, HNn, HLn⟩
                | (repeat apply Exists.intro
                   refine ⟨?_, rfl⟩
                   exact ⟨k + 1, _, _, _, _, _, _, HLt.out, by go_num, HNn, HLn⟩)
            case measure => have := HLt.out; simp [intOf]; omega
      · have HE := Lib.hid (show nodeS false l = ⟨ks, vs, is, l2, ok2⟩ by
          rw [← HL.out.1]
          by_cases hlt : k < N
          · have hok : ok2 = false := by
              cases ok2 with
              | true => exact absurd ⟨hlt, rfl⟩ hgo
              | false => rfl
            rw [hok, show N - k = (N - (k + 1)) + 1 by omega]
            rfl
          · rw [show N - k = 0 by omega]
            rfl)
        obtain ⟨ra, rL, rc, g0, g1⟩ := HN.out.rcells
        obtain ⟨⟨p0, p1, p2, p3⟩, pz⟩ := HN.out.cells
        obtain ⟨a1, L1, c1, rfl, _⟩ := HN.out.rows.o1.isBs
        obtain ⟨a2, L2, c2, rfl, _⟩ := HN.out.rows.o2.isBs
        obtain ⟨a3, L3, c3, rfl⟩ := nd_slice HN.out.rows.o3
        have hres := HN.out.res
        have s0 := cell_of_row _ _ 0 _ _ _ hres
        have s1 := cell_of_row _ _ 1 _ _ _ hres
        have s2 := cell_of_row _ _ 2 _ _ _ hres
        have s3 := cell_of_row _ _ 3 _ _ _ hres
        simp only [List.getElem?_toArray, List.getElem?_cons_zero, List.getElem?_cons_succ] at s0 s1 s2 s3
        have z0 := fun j => frozen_of_row _ _ j _ _ hres
        have hsz := HN.out.size
        have hO := HN.out.out (.bool false) (.slice a1 L1 c1) (.slice a2 L2 c2) (.slice a3 L3 c3)
        have HO := Lib.hid hO
        have hsA : w.heap.size < wr.heap.size := by omega
        clear hres hO
        by_cases hlt : (k : Int) < (N : Int)
        · have hok : ok2 = false := by
            cases ok2 with
            | true => exact absurd ⟨by omega, rfl⟩ hgo
            | false => rfl
          subst hok
          clear hgo
          go_wp2
          refine bodyPost_ret (v := .agg #[.bool false, .slice a1 L1 c1, .slice a2 L2 c2, .slice a3 L3 c3]) (by simp [results, Tryd.results28, go_sem, s0, s1, s2, s3]) rfl ⟨_, _, _, _, _, rfl, by rw [HE.out]; exact HO.out.1, by rw [HE.out]; exact HO.out.2⟩
        · have hlt' : (N : Int) ≤ (k : Int) := by omega
          clear hgo
          go_wp2
          refine bodyPost_ret (v := .agg #[.bool false, .slice a1 L1 c1, .slice a2 L2 c2, .slice a3 L3 c3]) (by simp [results, Tryd.results28, go_sem, s0, s1, s2, s3]) rfl ⟨_, _, _, _, _, rfl, by rw [HE.out]; exact HO.out.1, by rw [HE.out]; exact HO.out.2⟩

end Go.Proofs.YtbcjhngpcodaoaaDoor
