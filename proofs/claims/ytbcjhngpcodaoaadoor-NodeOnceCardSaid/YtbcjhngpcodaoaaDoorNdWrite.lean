/- Contracts of node's write, Size and Encode: every node that is formed, and not. -/
import Derived.Test.YtbcjhngpcodaoaaDoorNdFormed
import Derived.Test.YtbcjhngpcodaoaaDoorAppW
import Derived.Test.YtbcjhngpcodaoaaDoorApp1
import Derived.Deep.DeepCutAuto
namespace Go.Proofs.YtbcjhngpcodaoaaDoor
open Go.RowKit
set_option linter.unusedVariables false
set_option maxRecDepth 100000

/-- a row of bytes of the call's own is answered -/
def OutB (w : World) (zs : List Int) (e : Ending) (w' : World) : Prop :=
  ∃ v, e = .returned v ∧ w'.ownsRow w.heap.size 5 1 v zs.length (zs.map (Value.int .u8)) ∧ Below w.heap.size w w'
/-- a row of bytes of the call's own, so far -/
def OwnB (w : World) (v : Value) (zs : List Int) (wr : World) : Prop :=
  wr.ownsRow w.heap.size 5 1 v zs.length (zs.map (Value.int .u8)) ∧ (∀ z ∈ zs, 0 ≤ z ∧ z ≤ 255) ∧ Below w.heap.size w wr
theorem OwnB.next {w wr w' : World} {v v' : Value} {zs ys : List Int} (h : OwnB w v zs wr) (ho : w'.ownsRow wr.heap.size 5 1 v' ys.length (ys.map (Value.int .u8))) (hr : ∀ z ∈ ys, 0 ≤ z ∧ z ≤ 255) (hb : Below wr.heap.size wr w') : OwnB w v' ys w' :=
  ⟨ownsRow_base ho h.2.2.size, hr, bt h.2.2 hb⟩
theorem range_app {a b : List Int} (ha : ∀ z ∈ a, 0 ≤ z ∧ z ≤ 255) (hb : ∀ z ∈ b, 0 ≤ z ∧ z ≤ 255) : ∀ z ∈ a ++ b, 0 ≤ z ∧ z ≤ 255 := fun z hz => (List.mem_append.1 hz).elim (ha z) (hb z)
theorem range_one {x : Int} (h : 0 ≤ x ∧ x ≤ 255) : ∀ z ∈ [x], 0 ≤ z ∧ z ≤ 255 := fun z hz => by
  obtain rfl : z = x := by simpa using hz
  exact h
theorem nat_u64 (n : Nat) : IntKind.u64.wrap (n : Int) = (n : Int) ∨ ¬ n ≤ 9223372036854775807 := by
  by_cases h : n ≤ 9223372036854775807
  · left; rw [IntKind.wrap_u64]; omega
  · exact .inr h

theorem append_out (a : Option Addr) (len cap : Nat) (zs : List Int) (n : Int) (w : World) (h0 : 0 ≤ n) (h1 : n ≤ 18446744073709551615) (h : IsB w a len zs) (ha : ∀ x, len ≠ 0 → a = some x → x.block < w.heap.size) (hlen : len ≤ 1000000) (hn : a = none → len = 0 ∧ cap = 0) :
    Calls Tryd.prog 36 #[.slice a len cap, .int .u64 n] w (OutB w (zs ++ enc n)) :=
  (append_any a len cap zs n h0 h1 w h ha (by omega) hn).mono fun e w' ⟨he, ho, hb⟩ => ⟨_, he, by
    have e1 : len + groups n = (zs ++ enc n).length := by rw [List.length_append, enc_length, h.1]
    rw [← e1]
    exact ho, hb⟩

set_option maxHeartbeats 1600000 in
theorem appendBytes_out (a : Option Addr) (len cap : Nat) (zs : List Int) (p : Option Addr) (pl pc : Nat) (ps : List Int) (w : World) (h : IsB w a len zs) (ha : ∀ x, len ≠ 0 → a = some x → x.block < w.heap.size) (hlen : len ≤ 900000) (hn : a = none → len = 0 ∧ cap = 0)
    (hp : IsB w p pl ps) (hpl : ∀ x, pl ≠ 0 → p = some x → x.block < w.heap.size) (hps : pl ≤ 1000) (hpn : p = none → pl = 0 ∧ pc = 0) :
    Calls Tryd.prog 37 #[.slice a len cap, .slice p pl pc] w (OutB w (zs ++ pieceB ps)) := by
  have HA := Lib.hid (append_out a len cap zs (pl : Int) w (by omega) (by omega) h ha (by omega) hn)
  have HZ := Lib.hid h.1
  have HP := Lib.hid hp
  have HPl := Lib.hid hpl
  have HPn := Lib.hid hpn
  have hw : IntKind.u64.wrap (pl : Int) = (pl : Int) := by rw [IntKind.wrap_u64]; omega
  have HL := Lib.hid (show len ≤ 900000 ∧ pl ≤ 1000 from ⟨hlen, hps⟩)
  have hpi : (pl : Int) ≤ 1000 := by omega
  clear h ha hn hp hpl hpn hlen hps
  go_enter Tryd.func37, Tryd.ntmps37
  go_wp2_with fail
  refine HA.out.mono ?_
  rintro e w1 ⟨v, rfl, ho, hb⟩
  have HO := Lib.hid ho
  have HB := Lib.hid hb
  have HP1 := Lib.hid (HP.out.below hb HPl.out)
  have HE := Lib.hid (enc_le (pl : Int))
  clear ho hb
  go_wp2_with (at_builtin; refine wpList_slice rfl (.tmp 9) (.tmp 10) rfl w.heap.size v (zs ++ enc (pl : Int)) p pl pc ps rfl rfl HO.out HP1.out HPn.out (by rw [List.length_append, HZ.out]; have := HE.out; have := HL.out; omega) HB.out.size ?_)
  intro v2 w2 ho2 hg2
  have HO2 := Lib.hid ho2
  have HB2 := Lib.hid (HB.out.grown hg2 HB.out.size (fun k hk => (HO.out.lt k hk).1))
  clear ho2 hg2
  go_wp2
  go_ret
  refine ⟨v2, rfl, ?_, HB2.out⟩
  have e1 : zs ++ pieceB ps = zs ++ enc (pl : Int) ++ ps := by unfold pieceB; rw [HP1.out.1, List.append_assoc]
  rw [e1]
  simpa using HO2.out

theorem pieceB_range {b : List Int} (h : ∀ z ∈ b, 0 ≤ z ∧ z ≤ 255) : ∀ z ∈ pieceB b, 0 ≤ z ∧ z ≤ 255 := range_app (enc_range _ (by omega)) h

set_option maxHeartbeats 6400000 in
theorem write_any (lf : Bool) (ka va ia : Option Addr) (kl kc vl vc il ic : Nat) (ks vs : List (List Int)) (is : List Int) (w : World) (hN : Nd w ka kl va vl ia il ks vs is) (hF : FewN kl vl ks vs) (hfm : nFormB lf ks vs is = true) :
    Calls Tryd.prog 23 #[.agg #[.bool lf, .slice ka kl kc, .slice va vl vc, .slice ia il ic]] w fun e w' => OutB w (nodeB lf ks vs is) e w' ∧ ∀ z ∈ nodeB lf ks vs is, 0 ≤ z ∧ z ≤ 255 := by
  obtain ⟨W0, hW0⟩ : ∃ W0, W0 = w.alloc (.cells #[.bool lf, .slice ka kl kc, .slice va vl vc, .slice ia il ic] 28) := ⟨_, rfl⟩
  have hnew : W0.heap[w.heap.size]? = some (.cells #[.bool lf, .slice ka kl kc, .slice va vl vc, .slice ia il ic] 28 (0, 0)) := by rw [hW0]; exact Go.heap_alloc_new w _
  have hb0 : Below w.heap.size w W0 := by rw [hW0]; exact bel0 _ (Below.refl _ _)
  have HB0 := Lib.hid hb0
  have HN := Lib.hid (hN.below hb0)
  have HNew := Lib.hid hnew
  have hkl := hN.keys.2.1
  have hvl := hN.vals.2.1
  have hil := hN.kids.2.1
  have HL := Lib.hid (show ks.length = kl ∧ vs.length = vl ∧ is.length = il from ⟨hN.keys.1, hN.vals.1, hN.kids.1⟩)
  have HFw := Lib.hid hF
  have HFm := Lib.hid hfm
  have HW := Lib.hid hW0
  have hkl3 : (kl : Int) ≤ 300 := by have := hF.1; omega
  have hwk : IntKind.u64.wrap (kl : Int) = (kl : Int) := by rw [IntKind.wrap_u64]; omega
  have HSh := Lib.hid (show ∀ i, i < kl → shortB lf ks vs i from fun i hi => formed_short hfm i (by rw [hN.keys.1]; exact hi))
  have hs0 : w.heap.size < W0.heap.size := (Array.getElem?_eq_some_iff.1 hnew).1
  have HS0 := Lib.hid hs0
  clear hN hb0 hF hfm hnew
  go_enter Tryd.func23, Tryd.ntmps23
  obtain ⟨q0, q1, q2, q3⟩ := box_four w (.bool lf) (.slice ka kl kc) (.slice va vl vc) (.slice ia il ic) 28
  rw [← hW0] at q0 q1 q2 q3
  go_upto_if 8 with (fail)
  clear hW0
  rw [← HW.out]
  go_cut [3] (fun m wx => m = .int .u8 (if lf then 1 else 2) ∧ wx = W0)
  case first =>
    cases lf with
    | true => go_wp2_with fail; go_meet; exact ⟨rfl, rfl⟩
    | false => go_wp2_with fail; go_meet; exact ⟨rfl, rfl⟩
  case rest =>
    obtain ⟨rfl, hwc⟩ := hcut
    subst hwc
    have HM := Lib.hid (show (0 : Int) ≤ (if lf then 1 else 2) ∧ (if lf then 1 else 2 : Int) ≤ 255 by cases lf <;> decide)
    generalize hmk : (if lf then 1 else 2 : Int) = mk at *
    have HMk := Lib.hid hmk
    clear hmk
    go_wp2_with fail
    refine (append_out (some ⟨wc.heap.size, 0, none⟩) 1 1 [mk] (kl : Int) _ (by omega) (by omega) (isB_one _ wc.heap.size 0 mk HM.out (by simp [go_sem])) (by intro x _ hx; cases hx; simp) (by omega) (by intro h; cases h)).mono ?_
    rintro e w1 ⟨v, rfl, ho, hb⟩
    have HO1 := Lib.hid (show OwnB w v ([mk] ++ enc (kl : Int)) w1 from
      ⟨ownsRow_base ho (by have := HS0.out; simp; omega), range_app (range_one HM.out) (enc_range (kl : Int) (by omega)), bt HB0.out (bt (bel0 (.cells #[.int .u8 mk] 5) (Below.refl _ _)) hb)⟩)
    have HR1 := Lib.hid (show w1.heap[w.heap.size]? = some (.cells #[.bool lf, .slice ka kl kc, .slice va vl vc, .slice ia il ic] 28 (0, 0)) ∧ Nd w1 ka kl va vl ia il ks vs is from by
      have hb2 := bt (bel0 (.cells #[.int .u8 mk] 5) (Below.refl wc.heap.size wc)) hb
      exact ⟨(hb2.block _ HS0.out).trans HNew.out, HN.out.below hb2⟩)
    clear ho hb q0 q1 q2 q3
    have q0 := cell_of_row _ _ 0 _ _ _ HR1.out.1
    have q3 := cell_of_row _ _ 3 _ _ _ HR1.out.1
    simp only [List.getElem?_toArray, List.getElem?_cons_zero, List.getElem?_cons_succ] at q0 q3
    go_upto_if 18 with (fail)
    go_cut [4] (fun v' wx => OwnB w v' (headB lf kl is) wx ∧ wx.heap[w.heap.size]? = some (.cells #[.bool lf, .slice ka kl kc, .slice va vl vc, .slice ia il ic] 28 (0, 0)) ∧ Nd wx ka kl va vl ia il ks vs is)
    case first =>
      cases lf with
      | true =>
        have HE := Lib.hid (show headB true kl is = [mk] ++ enc (kl : Int) by unfold headB; rw [← HMk.out]; simp)
        go_wp2_with fail
        go_meet
        exact ⟨by rw [HE.out]; exact HO1.out, HR1.out⟩
      | false =>
        have HE := Lib.hid (show headB false kl is = [mk] ++ enc (kl : Int) ++ enc (is.getD 0 0) by unfold headB; rw [← HMk.out]; simp)
        obtain ⟨f1, f2, f3, f4⟩ := formed_kids HFm.out
        obtain ⟨_, _, hc, _⟩ := HR1.out.2.kids
        have hil1 : 0 < il := by rw [← HL.out.2.2, f1]; omega
        rcases hc with hc | ⟨b1, off1, rfl, _, hc⟩
        · omega
        have c0 := hc 0 hil1
        simp only [Nat.add_zero] at c0
        have hz := f4 0 (by rw [HL.out.2.2]; exact hil1)
        have hili : (0 : Int) < (il : Int) := by omega
        clear hc f1 f2 f3 f4 hil1
        generalize is.getD 0 0 = z at *
        have hwz : IntKind.u64.wrap z = z := by rw [IntKind.wrap_u64]; omega
        obtain ⟨a, L, cap, rfl, hL, hI, hlo, hni, hcp, _⟩ := own_any HO1.out.1 HO1.out.2.1
        have HI := Lib.hid hI
        have HLo := Lib.hid hlo
        have HNi := Lib.hid hni
        have HLl := Lib.hid (show L ≤ 1000 by rw [hL, List.length_append]; have := enc_le (kl : Int); simp; omega)
        have HZ := Lib.hid hz
        clear hL hI hlo hni hcp hz
        go_wp2_with fail
        refine (append_out a L cap ([mk] ++ enc (kl : Int)) z _ (by have := HZ.out; omega) (by have := HZ.out; omega) HI.out HLo.out (by have := HLl.out; omega) HNi.out).mono ?_
        rintro e w2 ⟨v2, rfl, ho, hb⟩
        have HO2 := Lib.hid (HO1.out.next ho (range_app HO1.out.2.1 (enc_range z (by have := HZ.out; omega))) hb)
        have HR2 := Lib.hid (show w2.heap[w.heap.size]? = _ ∧ Nd w2 ka kl va vl (some ⟨b1, off1, none⟩) il ks vs is from ⟨(hb.block _ (Array.getElem?_eq_some_iff.1 HR1.out.1).1).trans HR1.out.1, HR1.out.2.below hb⟩)
        clear ho hb
        go_wp2_with fail
        go_meet
        exact ⟨by rw [HE.out]; exact HO2.out, HR2.out⟩
    case rest =>
      obtain ⟨v1, rfl⟩ : ∃ v1, v1 = u4 := ⟨_, rfl⟩
      have HI0 := Lib.hid hcut
      clear hcut q0 q3
      have q1 := cell_of_row _ _ 1 _ _ _ HI0.out.2.1
      simp only [List.getElem?_toArray, List.getElem?_cons_zero, List.getElem?_cons_succ] at q1
      have HZ0 := Lib.hid (show headB lf kl is ++ entsB lf ks vs is 0 = headB lf kl is from List.append_nil _)
      go_wp2
      go_loopw [4, 29] (fun v' i wr => ∃ k : Nat, k ≤ kl ∧ i = .int .i64 (k : Int) ∧ Hid (OwnB w v' (headB lf kl is ++ entsB lf ks vs is k) wr ∧ wr.heap[w.heap.size]? = some (.cells #[.bool lf, .slice ka kl kc, .slice va vl vc, .slice ia il ic] 28 (0, 0)) ∧ Nd wr ka kl va vl ia il ks vs is)) (fun _ i _ => kl - (intOf i).toNat)
      case atStart => exact ⟨0, by omega, rfl, Lib.hid (by rw [HZ0.out]; exact HI0.out)⟩
      case round =>
        obtain ⟨k, hk, rfl, HR⟩ := hrel
        obtain ⟨v', rfl⟩ : ∃ v', v' = u4 := ⟨_, rfl⟩
        clear HI0 q1 HZ0
        by_cases hlt : k < kl
        · have hki : (k : Int) < (kl : Int) := by omega
          have hk0 : (0 : Int) ≤ (k : Int) := by omega
          obtain ⟨_, _, hc⟩ := HR.out.2.2.keys
          rcases hc with hc | ⟨b1, off1, rfl, _, hc⟩
          · omega
          obtain ⟨ai, li, ci, c1, c2, c3, c4⟩ := hc k hlt
          have HLt := Lib.hid hlt
          have HI := Lib.hid (show IsB wr ai li (ks.getD k []) ∧ (ai = none → li = 0 ∧ ci = 0) ∧ (∀ x, li ≠ 0 → ai = some x → x.block < wr.heap.size) ∧ li ≤ 1000 from ⟨c2, c3, c4, by have := HFw.out.2.2.1 k hlt; rw [c2.1] at this; exact this⟩)
          have HZl := Lib.hid (show (headB lf kl is ++ entsB lf ks vs is k).length ≤ 620000 by
            rw [List.length_append]
            have h1 := headB_len lf kl is
            have h2 := entsB_len is (k := k) fun i hi => HSh.out i (by omega)
            omega)
          obtain ⟨a, L, cap, rfl, hL, hJ, hlo, hni, hcp, _⟩ := own_any HR.out.1.1 HR.out.1.2.1
          have HJ := Lib.hid (show IsB wr a L _ ∧ (∀ x, L ≠ 0 → a = some x → x.block < wr.heap.size) ∧ (a = none → L = 0 ∧ cap = 0) ∧ L ≤ 620000 from ⟨hJ, hlo, hni, by rw [hL]; exact HZl.out⟩)
          clear hc c2 c3 c4 hlt hk hL hJ hlo hni hcp
          go_upto_if 30 with (fail)
          go_wp2_with fail
          refine (appendBytes_out a L cap _ ai li ci (ks.getD k []) wr HJ.out.1 HJ.out.2.1 (by have := HJ.out.2.2.2; omega) HJ.out.2.2.1 HI.out.1 HI.out.2.2.1 HI.out.2.2.2 HI.out.2.1).mono ?_
          rintro e w2 ⟨v2, rfl, ho, hb⟩
          have HO2 := Lib.hid (HR.out.1.next ho (range_app HR.out.1.2.1 (pieceB_range HI.out.1.mem)) hb)
          have HR2 := Lib.hid (show w2.heap[w.heap.size]? = _ ∧ Nd w2 (some ⟨b1, off1, none⟩) kl va vl ia il ks vs is from ⟨(hb.block _ (Array.getElem?_eq_some_iff.1 HR.out.2.1).1).trans HR.out.2.1, HR.out.2.2.below hb⟩)
          clear ho hb c1
          have q0 := cell_of_row _ _ 0 _ _ _ HR2.out.1
          have q2 := cell_of_row _ _ 2 _ _ _ HR2.out.1
          have q3 := cell_of_row _ _ 3 _ _ _ HR2.out.1
          simp only [List.getElem?_toArray, List.getElem?_cons_zero, List.getElem?_cons_succ] at q0 q2 q3
          have HZl2 := Lib.hid (show (headB lf kl is ++ entsB lf ks vs is k ++ pieceB (ks.getD k [])).length ≤ 630000 by
            rw [List.length_append]
            have h1 := HZl.out
            have h2 := pieceB_len (ks.getD k [])
            have h3 := HI.out.1.1
            have h4 := HI.out.2.2.2
            omega)
          obtain ⟨a2, L2, cap2, rfl, hL, hJ, hlo, hni, hcp, _⟩ := own_any HO2.out.1 HO2.out.2.1
          have HJ2 := Lib.hid (show IsB w2 a2 L2 _ ∧ (∀ x, L2 ≠ 0 → a2 = some x → x.block < w2.heap.size) ∧ (a2 = none → L2 = 0 ∧ cap2 = 0) ∧ L2 ≤ 630000 from ⟨hJ, hlo, hni, by rw [hL]; exact HZl2.out⟩)
          clear hL hJ hlo hni hcp
          have HEn := Lib.hid (entsB_succ lf ks vs is k)
          cases lf with
          | true =>
            obtain ⟨f1, f2⟩ := formed_cells HFm.out
            obtain ⟨_, _, hc⟩ := HR2.out.2.vals
            have hkv : k < vl := by rw [← HL.out.2.1, f2, HL.out.1]; exact HLt.out
            rcases hc with hc | ⟨b2, off2, rfl, _, hc⟩
            · omega
            obtain ⟨aj, lj, cj, d1, d2, d3, d4⟩ := hc k hkv
            have hkvi : (k : Int) < (vl : Int) := by omega
            have HI3 := Lib.hid (show IsB w2 aj lj (vs.getD k []) ∧ (aj = none → lj = 0 ∧ cj = 0) ∧ (∀ x, lj ≠ 0 → aj = some x → x.block < w2.heap.size) ∧ lj ≤ 1000 from ⟨d2, d3, d4, by have := HFw.out.2.2.2 k hkv; rw [d2.1] at this; exact this⟩)
            clear hc d2 d3 d4 f1 f2 hkv
            go_wp2_with fail
            refine (appendBytes_out a2 L2 cap2 _ aj lj cj (vs.getD k []) w2 HJ2.out.1 HJ2.out.2.1 (by have := HJ2.out.2.2.2; omega) HJ2.out.2.2.1 HI3.out.1 HI3.out.2.2.1 HI3.out.2.2.2 HI3.out.2.1).mono ?_
            rintro e w3 ⟨v3, rfl, ho, hb⟩
            have HO3 := Lib.hid (show OwnB w v3 (headB true kl is ++ entsB true ks vs is (k + 1)) w3 from by
              have := HO2.out.next ho (range_app HO2.out.2.1 (pieceB_range HI3.out.1.mem)) hb
              rw [HEn.out]
              show OwnB w v3 (headB true kl is ++ (entsB true ks vs is k ++ (pieceB (ks.getD k []) ++ pieceB (vs.getD k [])))) w3
              simp only [List.append_assoc] at this
              exact this)
            have HR3 := Lib.hid (show w3.heap[w.heap.size]? = _ ∧ Nd w3 (some ⟨b1, off1, none⟩) kl (some ⟨b2, off2, none⟩) vl ia il ks vs is from ⟨(hb.block _ (Array.getElem?_eq_some_iff.1 HR2.out.1).1).trans HR2.out.1, HR2.out.2.below hb⟩)
            clear ho hb
            go_wp2
            go_roundw
            case rel => exact ⟨k + 1, HLt.out, by go_num, Lib.hid ⟨HO3.out, HR3.out⟩⟩
            case measure => have := HLt.out; simp [intOf]; omega
          | false =>
            obtain ⟨f1, f2, f3, f4⟩ := formed_kids HFm.out
            obtain ⟨_, _, hc, _⟩ := HR2.out.2.kids
            have hkv : k + 1 < il := by rw [← HL.out.2.2, f1, HL.out.1]; have := HLt.out; omega
            rcases hc with hc | ⟨b2, off2, rfl, _, hc⟩
            · omega
            have d1 := hc (k + 1) hkv
            have hz := f4 (k + 1) (by rw [HL.out.2.2]; exact hkv)
            obtain ⟨D, hD⟩ : ∃ D : Nat, D = k + 1 := ⟨_, rfl⟩
            rw [← hD] at d1 hz
            have hDi : (D : Int) < (il : Int) := by omega
            have hD0 : (0 : Int) ≤ (D : Int) := by omega
            have hDk : (k : Int) + 1 = (D : Int) := by omega
            have hwD : IntKind.i64.wrap ((k : Int) + 1) = (D : Int) := by rw [IntKind.wrap_i64]; omega
            have HDe := Lib.hid hD
            have HZe := Lib.hid (show is.getD (k + 1) 0 = is.getD D 0 by rw [hD])
            clear hc f1 f2 f3 f4 hkv hD
            generalize is.getD D 0 = z at *
            have hwz : IntKind.u64.wrap z = z := by rw [IntKind.wrap_u64]; omega
            have HZ := Lib.hid hz
            clear hz
            go_wp2_with fail
            refine (append_out a2 L2 cap2 _ z w2 (by have := HZ.out; omega) (by have := HZ.out; omega) HJ2.out.1 HJ2.out.2.1 (by have := HJ2.out.2.2.2; omega) HJ2.out.2.2.1).mono ?_
            rintro e w3 ⟨v3, rfl, ho, hb⟩
            have HO3 := Lib.hid (show OwnB w v3 (headB false kl is ++ entsB false ks vs is (k + 1)) w3 from by
              have := HO2.out.next ho (range_app HO2.out.2.1 (enc_range z (by have := HZ.out; omega))) hb
              rw [HEn.out]
              show OwnB w v3 (headB false kl is ++ (entsB false ks vs is k ++ (pieceB (ks.getD k []) ++ enc (is.getD (k + 1) 0)))) w3
              rw [HZe.out]
              simp only [List.append_assoc] at this
              exact this)
            have HR3 := Lib.hid (show w3.heap[w.heap.size]? = _ ∧ Nd w3 (some ⟨b1, off1, none⟩) kl va vl (some ⟨b2, off2, none⟩) il ks vs is from ⟨(hb.block _ (Array.getElem?_eq_some_iff.1 HR2.out.1).1).trans HR2.out.1, HR2.out.2.below hb⟩)
            clear ho hb
            go_wp2
            go_roundw
            case rel => exact ⟨k + 1, HLt.out, by go_num, Lib.hid ⟨HO3.out, HR3.out⟩⟩
            case measure => have := HLt.out; simp [intOf]; omega
        · obtain rfl : k = kl := by omega
          have HE := Lib.hid (show OwnB w v' (nodeB lf ks vs is) wr by unfold nodeB; rw [HL.out.1]; exact HR.out.1)
          clear hlt hk
          go_wp2
          go_ret
          exact ⟨⟨_, rfl, HE.out.1, HE.out.2.2⟩, HE.out.2.1⟩
end Go.Proofs.YtbcjhngpcodaoaaDoor
