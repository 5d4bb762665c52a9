/- Contracts of the document's piece, spelt, Size and Encode of nodes. -/
import Derived.Test.YtbcjhngpcodaoaaDoorNdRForm
import Derived.Test.YtbcjhngpcodaoaaDoorNdNum
namespace Go.Proofs.YtbcjhngpcodaoaaDoor
open Go.RowKit
set_option linter.unusedVariables false
set_option maxRecDepth 100000

/-- one byte in a literal's block -/
theorem own_lit {W : World} {b : Nat} {x : Int} (h : W.heap[b]? = some (.cells #[.int .u8 x] 5 (0, 0))) : W.ownsRow b 5 1 (.slice (some ⟨b, 0, none⟩) 1 1) ([x] : List Int).length (([x] : List Int).map (Value.int .u8)) :=
  ⟨rfl, .inr ⟨b, 1, #[.int .u8 x], rfl, Nat.le_refl _, h, Nat.le_refl _, by unfold maxLen; omega, rfl, rfl⟩⟩
theorem OwnB.later {w wr w' : World} {v : Value} {zs : List Int} (h : OwnB w v zs wr) (hb : Below wr.heap.size wr w') : OwnB w v zs w' := ⟨own_below h.1 hb, h.2.1, bt h.2.2 hb⟩
theorem OwnB.app {w wr w' : World} {v v' : Value} {zs ys : List Int} (h : OwnB w v zs wr) (ho : w'.ownsRow w.heap.size 5 1 v' (zs ++ ys).length ((zs ++ ys).map (Value.int .u8))) (hg : wr.grownBy w' v.ownBlock) (hy : ∀ z ∈ ys, 0 ≤ z ∧ z ≤ 255) : OwnB w v' (zs ++ ys) w' :=
  ⟨ho, range_app h.2.1 hy, h.2.2.grown hg h.2.2.size (fun k hk => (h.1.lt k hk).1)⟩
theorem number_out (n : Int) (w : World) (h0 : 0 ≤ n) (h1 : n ≤ 18446744073709551615) : Calls Tryd.prog 38 #[.int .u64 n] w (OutB w (enc n)) :=
  (number_any n h0 h1 w).mono fun e w' ⟨g, cap, he, ho, hb⟩ => ⟨_, he, by rw [enc_length]; exact ho, hb⟩

set_option maxHeartbeats 1600000 in
theorem piece_out (p : Option Addr) (pl pc : Nat) (ps : List Int) (w : World) (hp : IsB w p pl ps) (hpl : ∀ x, pl ≠ 0 → p = some x → x.block < w.heap.size) (hps : pl ≤ 1000) (hpn : p = none → pl = 0 ∧ pc = 0) :
    Calls Tryd.prog 39 #[.slice p pl pc] w (OutB w (pieceB ps)) := by
  have HP := Lib.hid hp
  have HPl := Lib.hid hpl
  have HPn := Lib.hid hpn
  have hw : IntKind.u64.wrap (pl : Int) = (pl : Int) := by rw [IntKind.wrap_u64]; omega
  have HL := Lib.hid hps
  have hpi : (pl : Int) ≤ 1000 := by omega
  clear hp hpl hpn hps
  go_enter Tryd.func39, Tryd.ntmps39
  go_wp2_with fail
  refine (number_out (pl : Int) _ (by omega) (by omega)).mono ?_
  rintro e w1 ⟨v, rfl, ho, hb⟩
  have HO := Lib.hid (show OwnB w v (enc (pl : Int)) w1 from ⟨ho, enc_range _ (by omega), hb⟩)
  have HP1 := Lib.hid (HP.out.below hb HPl.out)
  have HE := Lib.hid (enc_le (pl : Int))
  clear ho hb
  go_wp2_with (at_builtin; refine wpList_slice rfl (.tmp 6) (.tmp 7) rfl w.heap.size v (enc (pl : Int)) p pl pc ps rfl rfl HO.out.1 HP1.out HPn.out (by have := HE.out; have := HL.out; omega) HO.out.2.2.size ?_)
  intro v2 w2 ho2 hg2
  have HO2 := Lib.hid (HO.out.app (v' := v2) (ys := ps) (by simpa using ho2) hg2 HP1.out.mem)
  clear ho2 hg2
  go_wp2
  go_ret
  refine ⟨v2, rfl, ?_, HO2.out.2.2⟩
  have e1 : pieceB ps = enc (pl : Int) ++ ps := by unfold pieceB; rw [HP1.out.1]
  rw [e1]
  exact HO2.out.1

/-- the node's box and its slices behind an append onto a row of the call's own -/
theorem kept_box {w wr w' : World} {v : Value} {zs : List Int} {ka va ia : Option Addr} {kl vl il : Nat} {ks vs : List (List Int)} {is : List Int} {cs : Array Value} {T : TypeId} (h : OwnB w v zs wr) (hb : wr.heap[w.heap.size]? = some (.cells cs T (0, 0))) (hT : T ≠ 5)
    (hN : Nd w ka kl va vl ia il ks vs is) (hg : wr.grownBy w' v.ownBlock) : w'.heap[w.heap.size]? = some (.cells cs T (0, 0)) ∧ Nd w' ka kl va vl ia il ks vs is :=
  ⟨(hg.block _ (Array.getElem?_eq_some_iff.1 hb).1 (fun e => by
    rcases h.1.2 with ⟨rfl, _⟩ | ⟨g, cap, cur, rfl, _, hgg, _⟩
    · cases e
    · have e2 : w.heap.size = g := by simpa [Value.ownBlock] using e
      rw [e2, hgg] at hb
      simp only [Option.some.injEq, Obj.cells.injEq] at hb
      exact hT hb.2.1.symm)).trans hb, hN.below (h.2.2.grown hg h.2.2.size (fun k hk => (h.1.lt k hk).1))⟩

set_option maxHeartbeats 6400000 in
theorem spelt_any (lf : Bool) (ka va ia : Option Addr) (kl kc vl vc il ic : Nat) (ks vs : List (List Int)) (is : List Int) (w : World) (hN : Nd w ka kl va vl ia il ks vs is) (hF : FewN kl vl ks vs) (hfm : nFormB lf ks vs is = true) :
    Calls Tryd.prog 24 #[.agg #[.bool lf, .slice ka kl kc, .slice va vl vc, .slice ia il ic]] w fun e w' => OutB w (nodeB lf ks vs is) e w' ∧ ∀ z ∈ nodeB lf ks vs is, 0 ≤ z ∧ z ≤ 255 := by
  obtain ⟨W0, hW0⟩ : ∃ W0, W0 = w.alloc (.cells #[.bool lf, .slice ka kl kc, .slice va vl vc, .slice ia il ic] 25) := ⟨_, rfl⟩
  have hnew : W0.heap[w.heap.size]? = some (.cells #[.bool lf, .slice ka kl kc, .slice va vl vc, .slice ia il ic] 25 (0, 0)) := by rw [hW0]; exact Go.heap_alloc_new w _
  have hb0 : Below w.heap.size w W0 := by rw [hW0]; exact bel0 _ (Below.refl _ _)
  have HB0 := Lib.hid hb0
  have HN := Lib.hid (hN.below hb0)
  have HNew := Lib.hid hnew
  have HNw := Lib.hid hN
  have hkl := hN.keys.2.1
  have hvl := hN.vals.2.1
  have hil := hN.kids.2.1
  have HL := Lib.hid (show ks.length = kl ∧ vs.length = vl ∧ is.length = il from ⟨hN.keys.1, hN.vals.1, hN.kids.1⟩)
  have HFw := Lib.hid hF
  have HFm := Lib.hid hfm
  have HW := Lib.hid hW0
  have hkl3 : (kl : Int) ≤ 300 := by have := hF.1; omega
  have hwk : IntKind.u64.wrap (kl : Int) = (kl : Int) := by rw [IntKind.wrap_u64]; omega
  have HSh := Lib.hid (show ∀ i, i < kl → shortB lf ks vs i from fun i hi => formed_short hfm i (by rw [hN.keys.1]; exact hi))
  have hs0 : w.heap.size < W0.heap.size := (Array.getElem?_eq_some_iff.1 hnew).1
  have HS0 := Lib.hid hs0
  clear hN hb0 hF hfm hnew
  go_enter Tryd.func24, Tryd.ntmps24
  obtain ⟨q0, q1, q2, q3⟩ := box_four w (.bool lf) (.slice ka kl kc) (.slice va vl vc) (.slice ia il ic) 25
  rw [← hW0] at q0 q1 q2 q3
  go_upto_if 7 with (fail)
  clear hW0
  rw [← HW.out]
  go_cut [3] (fun m wx => m = .int .u8 (if lf then 1 else 2) ∧ wx = W0)
  case first =>
    cases lf with
    | true => go_wp2_with fail; go_meet; exact ⟨rfl, rfl⟩
    | false => go_wp2_with fail; go_meet; exact ⟨rfl, rfl⟩
  case rest =>
    obtain ⟨rfl, hwc⟩ := hcut
    subst hwc
    have HM := Lib.hid (show (0 : Int) ≤ (if lf then 1 else 2) ∧ (if lf then 1 else 2 : Int) ≤ 255 by cases lf <;> decide)
    generalize hmk : (if lf then 1 else 2 : Int) = mk at *
    have HMk := Lib.hid hmk
    clear hmk
    go_wp2_with fail
    refine (number_out (kl : Int) _ (by omega) (by omega)).mono ?_
    rintro e w0 ⟨v0, rfl, ho0, hb0⟩
    obtain ⟨a0, L0, cap0, rfl, hL0, hI0, hlo0, hni0, hcp0, _⟩ := own_any ho0 (enc_range (kl : Int) (by omega))
    have HLit := Lib.hid (show w0.heap[wc.heap.size]? = some (.cells #[.int .u8 mk] 5 (0, 0)) from (hb0.block _ (by simp)).trans (Go.heap_alloc_new wc _))
    have HI0 := Lib.hid (show IsB w0 a0 L0 (enc (kl : Int)) ∧ (a0 = none → L0 = 0 ∧ cap0 = 0) ∧ L0 ≤ 10 from ⟨hI0, hni0, by rw [hL0]; exact enc_le _⟩)
    have HB00 := Lib.hid (bt (bel0 (.cells #[.int .u8 mk] 5) (Below.refl wc.heap.size wc)) hb0)
    clear ho0 hb0 hL0 hI0 hlo0 hni0 hcp0
    go_wp2_with (at_builtin; refine wpList_slice rfl (.tmp 9) (.tmp 14) rfl wc.heap.size (.slice (some ⟨wc.heap.size, 0, none⟩) 1 1) [mk] a0 L0 cap0 (enc (kl : Int)) rfl rfl (own_lit HLit.out) HI0.out.1 HI0.out.2.1 (by have := HI0.out.2.2; simp; omega) HB00.out.size ?_)
    intro v w1 ho hg
    have HB01 := Lib.hid (show Below wc.heap.size wc w1 from HB00.out.grown hg HB00.out.size (fun k hk => by
      have : wc.heap.size = k := by simpa [Value.ownBlock] using hk
      omega))
    have HO1 := Lib.hid (show OwnB w v ([mk] ++ enc (kl : Int)) w1 from
      ⟨ownsRow_base (show w1.ownsRow wc.heap.size 5 1 v ([mk] ++ enc (kl : Int)).length (([mk] ++ enc (kl : Int)).map (Value.int .u8)) by simpa using ho) (Nat.le_of_lt HS0.out), range_app (range_one HM.out) (enc_range (kl : Int) (by omega)), bt HB0.out HB01.out⟩)
    have HR1 := Lib.hid (show w1.heap[w.heap.size]? = some (.cells #[.bool lf, .slice ka kl kc, .slice va vl vc, .slice ia il ic] 25 (0, 0)) ∧ Nd w1 ka kl va vl ia il ks vs is from
      ⟨(HB01.out.block _ HS0.out).trans HNew.out, HN.out.below HB01.out⟩)
    clear hg
    clear ho q0 q1 q2 q3
    have q0 := cell_of_row _ _ 0 _ _ _ HR1.out.1
    have q3 := cell_of_row _ _ 3 _ _ _ HR1.out.1
    simp only [List.getElem?_toArray, List.getElem?_cons_zero, List.getElem?_cons_succ] at q0 q3
    go_upto_if 18 with (fail)
    go_cut [4] (fun v' wx => OwnB w v' (headB lf kl is) wx ∧ wx.heap[w.heap.size]? = some (.cells #[.bool lf, .slice ka kl kc, .slice va vl vc, .slice ia il ic] 25 (0, 0)) ∧ Nd wx ka kl va vl ia il ks vs is)
    case first =>
      cases lf with
      | true =>
        have HE := Lib.hid (show headB true kl is = [mk] ++ enc (kl : Int) by unfold headB; rw [← HMk.out]; simp)
        go_wp2_with fail
        go_meet
        exact ⟨by rw [HE.out]; exact HO1.out, HR1.out⟩
      | false =>
        have HE := Lib.hid (show headB false kl is = [mk] ++ enc (kl : Int) ++ enc (is.getD 0 0) by unfold headB; rw [← HMk.out]; simp)
        obtain ⟨f1, f2, f3, f4⟩ := formed_kids HFm.out
        obtain ⟨_, _, hc, _⟩ := HR1.out.2.kids
        have hil1 : 0 < il := by rw [← HL.out.2.2, f1]; omega
        rcases hc with hc | ⟨b1, off1, rfl, _, hc⟩
        · omega
        have c0 := hc 0 hil1
        simp only [Nat.add_zero] at c0
        have hz := f4 0 (by rw [HL.out.2.2]; exact hil1)
        have hili : (0 : Int) < (il : Int) := by omega
        clear hc f1 f2 f3 f4 hil1
        generalize is.getD 0 0 = z at *
        have hwz : IntKind.u64.wrap z = z := by rw [IntKind.wrap_u64]; omega
        have HZ := Lib.hid hz
        clear hz
        go_wp2_with fail
        refine (number_out z _ (by have := HZ.out; omega) (by have := HZ.out; omega)).mono ?_
        rintro e w2 ⟨v0, rfl, ho0, hb0⟩
        obtain ⟨a0, L0, cap0, rfl, hL0, hI0, hlo0, hni0, hcp0, _⟩ := own_any ho0 (enc_range z (by have := HZ.out; omega))
        have HI0 := Lib.hid (show IsB w2 a0 L0 (enc z) ∧ (a0 = none → L0 = 0 ∧ cap0 = 0) ∧ L0 ≤ 10 from ⟨hI0, hni0, by rw [hL0]; exact enc_le _⟩)
        have HO1' := Lib.hid (HO1.out.later hb0)
        have HR1' := Lib.hid (show w2.heap[w.heap.size]? = _ ∧ Nd w2 ka kl va vl (some ⟨b1, off1, none⟩) il ks vs is from ⟨(hb0.block _ (Array.getElem?_eq_some_iff.1 HR1.out.1).1).trans HR1.out.1, HR1.out.2.below hb0⟩)
        have HEk := Lib.hid (enc_le (kl : Int))
        have HSz := Lib.hid (show w.heap.size < w2.heap.size from Nat.lt_of_lt_of_le (Array.getElem?_eq_some_iff.1 HR1.out.1).1 hb0.size)
        clear ho0 hb0 hL0 hI0 hlo0 hni0 hcp0
        go_wp2_with (at_builtin; refine wpList_slice rfl (.tmp 19) (.tmp 25) rfl w.heap.size v ([mk] ++ enc (kl : Int)) a0 L0 cap0 (enc z) rfl rfl HO1'.out.1 HI0.out.1 HI0.out.2.1 (by have := HI0.out.2.2; have := HEk.out; rw [List.length_append]; simp; omega) HO1'.out.2.2.size ?_)
        intro v2 w3 ho hg
        have HO2 := Lib.hid (HO1'.out.app (v' := v2) (ys := enc z) (by simpa using ho) hg (enc_range z (by have := HZ.out; omega)))
        have HR2 := Lib.hid (kept_box HO1'.out HR1'.out.1 (by decide) HNw.out hg)
        clear ho hg
        go_wp2_with fail
        go_meet
        exact ⟨by rw [HE.out]; exact HO2.out, HR2.out⟩
    case rest =>
      obtain ⟨v1, rfl⟩ : ∃ v1, v1 = u4 := ⟨_, rfl⟩
      have HI0 := Lib.hid hcut
      clear hcut q0 q3
      have q1 := cell_of_row _ _ 1 _ _ _ HI0.out.2.1
      simp only [List.getElem?_toArray, List.getElem?_cons_zero, List.getElem?_cons_succ] at q1
      have HZ0 := Lib.hid (show headB lf kl is ++ entsB lf ks vs is 0 = headB lf kl is from List.append_nil _)
      go_wp2
      go_loopw [4, 30] (fun v' i wr => ∃ k : Nat, k ≤ kl ∧ i = .int .i64 (k : Int) ∧ Hid (OwnB w v' (headB lf kl is ++ entsB lf ks vs is k) wr ∧ wr.heap[w.heap.size]? = some (.cells #[.bool lf, .slice ka kl kc, .slice va vl vc, .slice ia il ic] 25 (0, 0)) ∧ Nd wr ka kl va vl ia il ks vs is)) (fun _ i _ => kl - (intOf i).toNat)
      case atStart => exact ⟨0, by omega, rfl, Lib.hid (by rw [HZ0.out]; exact HI0.out)⟩
      case round =>
        obtain ⟨k, hk, rfl, HR⟩ := hrel
        obtain ⟨v', rfl⟩ : ∃ v', v' = u4 := ⟨_, rfl⟩
        clear HI0 q1 HZ0
        by_cases hlt : k < kl
        · have hki : (k : Int) < (kl : Int) := by omega
          have hk0 : (0 : Int) ≤ (k : Int) := by omega
          obtain ⟨_, _, hc⟩ := HR.out.2.2.keys
          rcases hc with hc | ⟨b1, off1, rfl, _, hc⟩
          · omega
          obtain ⟨ai, li, ci, c1, c2, c3, c4⟩ := hc k hlt
          have HLt := Lib.hid hlt
          have HI := Lib.hid (show IsB wr ai li (ks.getD k []) ∧ (ai = none → li = 0 ∧ ci = 0) ∧ (∀ x, li ≠ 0 → ai = some x → x.block < wr.heap.size) ∧ li ≤ 1000 from ⟨c2, c3, c4, by have := HFw.out.2.2.1 k hlt; rw [c2.1] at this; exact this⟩)
          have HZl := Lib.hid (show (headB lf kl is ++ entsB lf ks vs is k).length ≤ 620000 by
            rw [List.length_append]
            have h1 := headB_len lf kl is
            have h2 := entsB_len is (k := k) fun i hi => HSh.out i (by omega)
            omega)
          have q1 := cell_of_row _ _ 1 _ _ _ HR.out.2.1
          simp only [List.getElem?_toArray, List.getElem?_cons_zero, List.getElem?_cons_succ] at q1
          clear hc c2 c3 c4 hlt hk
          go_wp2_with fail
          refine (piece_out ai li ci (ks.getD k []) wr HI.out.1 HI.out.2.2.1 HI.out.2.2.2 HI.out.2.1).mono ?_
          rintro e w1 ⟨v0, rfl, ho0, hb0⟩
          obtain ⟨a0, L0, cap0, rfl, hL0, hI0, hlo0, hni0, hcp0, _⟩ := own_any ho0 (pieceB_range HI.out.1.mem)
          have HI0 := Lib.hid (show IsB w1 a0 L0 (pieceB (ks.getD k [])) ∧ (a0 = none → L0 = 0 ∧ cap0 = 0) ∧ L0 ≤ 1010 from ⟨hI0, hni0, by rw [hL0]; have h2 := pieceB_len (ks.getD k []); have h3 := HI.out.1.1; have h4 := HI.out.2.2.2; omega⟩)
          have HO1 := Lib.hid (HR.out.1.later hb0)
          have HB1 := Lib.hid ((hb0.block _ (Array.getElem?_eq_some_iff.1 HR.out.2.1).1).trans HR.out.2.1)
          clear ho0 hb0 hL0 hI0 hlo0 hni0 hcp0 c1 q1
          go_wp2_with (at_builtin; refine wpList_slice rfl (.tmp 33) (.tmp 39) rfl w.heap.size v' (headB lf kl is ++ entsB lf ks vs is k) a0 L0 cap0 (pieceB (ks.getD k [])) rfl rfl HO1.out.1 HI0.out.1 HI0.out.2.1 (by have := HI0.out.2.2; have := HZl.out; omega) HO1.out.2.2.size ?_)
          intro v2 w2 ho hg
          have HO2 := Lib.hid (HO1.out.app (v' := v2) (ys := pieceB (ks.getD k [])) (by simpa using ho) hg (pieceB_range HI.out.1.mem))
          have HR2 := Lib.hid (kept_box HO1.out HB1.out (by decide) HNw.out hg)
          clear ho hg
          have q0 := cell_of_row _ _ 0 _ _ _ HR2.out.1
          have q2 := cell_of_row _ _ 2 _ _ _ HR2.out.1
          have q3 := cell_of_row _ _ 3 _ _ _ HR2.out.1
          simp only [List.getElem?_toArray, List.getElem?_cons_zero, List.getElem?_cons_succ] at q0 q2 q3
          have HZl2 := Lib.hid (show (headB lf kl is ++ entsB lf ks vs is k ++ pieceB (ks.getD k [])).length ≤ 630000 by
            rw [List.length_append]
            have h1 := HZl.out
            have h2 := pieceB_len (ks.getD k [])
            have h3 := HI.out.1.1
            have h4 := HI.out.2.2.2
            omega)
          have HEn := Lib.hid (entsB_succ lf ks vs is k)
          cases lf with
          | true =>
            obtain ⟨f1, f2⟩ := formed_cells HFm.out
            obtain ⟨_, _, hc⟩ := HR2.out.2.vals
            have hkv : k < vl := by rw [← HL.out.2.1, f2, HL.out.1]; exact HLt.out
            rcases hc with hc | ⟨b2, off2, rfl, _, hc⟩
            · omega
            obtain ⟨aj, lj, cj, d1, d2, d3, d4⟩ := hc k hkv
            have hkvi : (k : Int) < (vl : Int) := by omega
            have HI3 := Lib.hid (show IsB w2 aj lj (vs.getD k []) ∧ (aj = none → lj = 0 ∧ cj = 0) ∧ (∀ x, lj ≠ 0 → aj = some x → x.block < w2.heap.size) ∧ lj ≤ 1000 from ⟨d2, d3, d4, by have := HFw.out.2.2.2 k hkv; rw [d2.1] at this; exact this⟩)
            clear hc d2 d3 d4 f1 f2 hkv
            go_wp2_with fail
            refine (piece_out aj lj cj (vs.getD k []) w2 HI3.out.1 HI3.out.2.2.1 HI3.out.2.2.2 HI3.out.2.1).mono ?_
            rintro e w3 ⟨v0, rfl, ho0, hb0⟩
            obtain ⟨a1, L1, cap1, rfl, hL0, hI0, hlo0, hni0, hcp0, _⟩ := own_any ho0 (pieceB_range HI3.out.1.mem)
            have HI1 := Lib.hid (show IsB w3 a1 L1 (pieceB (vs.getD k [])) ∧ (a1 = none → L1 = 0 ∧ cap1 = 0) ∧ L1 ≤ 1010 from ⟨hI0, hni0, by rw [hL0]; have h2 := pieceB_len (vs.getD k []); have h3 := HI3.out.1.1; have h4 := HI3.out.2.2.2; omega⟩)
            have HO3 := Lib.hid (HO2.out.later hb0)
            have HB3 := Lib.hid ((hb0.block _ (Array.getElem?_eq_some_iff.1 HR2.out.1).1).trans HR2.out.1)
            clear ho0 hb0 hL0 hI0 hlo0 hni0 hcp0 d1 q0 q2 q3
            go_wp2_with (at_builtin; refine wpList_slice rfl (.tmp 43) (.tmp 49) rfl w.heap.size v2 (headB true kl is ++ entsB true ks vs is k ++ pieceB (ks.getD k [])) a1 L1 cap1 (pieceB (vs.getD k [])) rfl rfl HO3.out.1 HI1.out.1 HI1.out.2.1 (by have := HI1.out.2.2; have := HZl2.out; omega) HO3.out.2.2.size ?_)
            intro v3 w4 ho hg
            have HO4 := Lib.hid (show OwnB w v3 (headB true kl is ++ entsB true ks vs is (k + 1)) w4 from by
              have := HO3.out.app (v' := v3) (ys := pieceB (vs.getD k [])) (by simpa using ho) hg (pieceB_range HI3.out.1.mem)
              rw [HEn.out]
              show OwnB w v3 (headB true kl is ++ (entsB true ks vs is k ++ (pieceB (ks.getD k []) ++ pieceB (vs.getD k [])))) w4
              simp only [List.append_assoc] at this
              exact this)
            have HR4 := Lib.hid (kept_box HO3.out HB3.out (by decide) HNw.out hg)
            clear ho hg
            go_wp2
            go_roundw
            case rel => exact ⟨k + 1, HLt.out, by go_num, Lib.hid ⟨HO4.out, HR4.out⟩⟩
            case measure => have := HLt.out; simp [intOf]; omega
          | false =>
            obtain ⟨f1, f2, f3, f4⟩ := formed_kids HFm.out
            obtain ⟨_, _, hc, _⟩ := HR2.out.2.kids
            have hkv : k + 1 < il := by rw [← HL.out.2.2, f1, HL.out.1]; have := HLt.out; omega
            rcases hc with hc | ⟨b2, off2, rfl, _, hc⟩
            · omega
            have d1 := hc (k + 1) hkv
            have hz := f4 (k + 1) (by rw [HL.out.2.2]; exact hkv)
            obtain ⟨D, hD⟩ : ∃ D : Nat, D = k + 1 := ⟨_, rfl⟩
            rw [← hD] at d1 hz
            have hDi : (D : Int) < (il : Int) := by omega
            have hD0 : (0 : Int) ≤ (D : Int) := by omega
            have hDk : (k : Int) + 1 = (D : Int) := by omega
            have hwD : IntKind.i64.wrap ((k : Int) + 1) = (D : Int) := by rw [IntKind.wrap_i64]; omega
            have HZe := Lib.hid (show is.getD (k + 1) 0 = is.getD D 0 by rw [hD])
            clear hc f1 f2 f3 f4 hkv hD
            generalize is.getD D 0 = z at *
            have hwz : IntKind.u64.wrap z = z := by rw [IntKind.wrap_u64]; omega
            have HZ := Lib.hid hz
            clear hz
            go_wp2_with fail
            refine (number_out z _ (by have := HZ.out; omega) (by have := HZ.out; omega)).mono ?_
            rintro e w3 ⟨v0, rfl, ho0, hb0⟩
            obtain ⟨a1, L1, cap1, rfl, hL0, hI0, hlo0, hni0, hcp0, _⟩ := own_any ho0 (enc_range z (by have := HZ.out; omega))
            have HI1 := Lib.hid (show IsB w3 a1 L1 (enc z) ∧ (a1 = none → L1 = 0 ∧ cap1 = 0) ∧ L1 ≤ 10 from ⟨hI0, hni0, by rw [hL0]; exact enc_le _⟩)
            have HO3 := Lib.hid (HO2.out.later hb0)
            have HB3 := Lib.hid ((hb0.block _ (Array.getElem?_eq_some_iff.1 HR2.out.1).1).trans HR2.out.1)
            clear ho0 hb0 hL0 hI0 hlo0 hni0 hcp0 d1 q0 q2 q3
            go_wp2_with (at_builtin; refine wpList_slice rfl (.tmp 51) (.tmp 59) rfl w.heap.size v2 (headB false kl is ++ entsB false ks vs is k ++ pieceB (ks.getD k [])) a1 L1 cap1 (enc z) rfl rfl HO3.out.1 HI1.out.1 HI1.out.2.1 (by have := HI1.out.2.2; have := HZl2.out; omega) HO3.out.2.2.size ?_)
            intro v3 w4 ho hg
            have HO4 := Lib.hid (show OwnB w v3 (headB false kl is ++ entsB false ks vs is (k + 1)) w4 from by
              have := HO3.out.app (v' := v3) (ys := enc z) (by simpa using ho) hg (enc_range z (by have := HZ.out; omega))
              rw [HEn.out]
              show OwnB w v3 (headB false kl is ++ (entsB false ks vs is k ++ (pieceB (ks.getD k []) ++ enc (is.getD (k + 1) 0)))) w4
              rw [HZe.out]
              simp only [List.append_assoc] at this
              exact this)
            have HR4 := Lib.hid (kept_box HO3.out HB3.out (by decide) HNw.out hg)
            clear ho hg
            go_wp2
            go_roundw
            case rel => exact ⟨k + 1, HLt.out, by go_num, Lib.hid ⟨HO4.out, HR4.out⟩⟩
            case measure => have := HLt.out; simp [intOf]; omega
        · obtain rfl : k = kl := by omega
          have HE := Lib.hid (show OwnB w v' (nodeB lf ks vs is) wr by unfold nodeB; rw [HL.out.1]; exact HR.out.1)
          clear hlt hk
          go_wp2
          go_ret
          exact ⟨⟨_, rfl, HE.out.1, HE.out.2.2⟩, HE.out.2.1⟩
end Go.Proofs.YtbcjhngpcodaoaaDoor
