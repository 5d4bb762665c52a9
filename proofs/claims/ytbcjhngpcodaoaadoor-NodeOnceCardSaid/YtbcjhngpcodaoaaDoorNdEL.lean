/- NodeEncodes: the law's walk. -/
import Derived.Test.YtbcjhngpcodaoaaDoorNdFew
import Derived.Test.YtbcjhngpcodaoaaDoorNdBack
import Derived.Test.YtbcjhngpcodaoaaDoorNdDec
import Derived.Test.YtbcjhngpcodaoaaDoorNdZero
import Derived.Deep.RegionHeld3
import Derived.Deep.DeepCutAuto
namespace Go.Proofs.YtbcjhngpcodaoaaDoor
open Go.RowKit
set_option linter.unusedVariables false
set_option maxRecDepth 100000

/-- what Encode's answer is -/
theorem encA_three (lf : Bool) (ks vs : List (List Int)) (is : List Int) : ((encA lf ks vs is).2 ≠ 0 ∧ (encA lf ks vs is).1 = []) ∨ (nFormB lf ks vs is = true ∧ encA lf ks vs is = (nodeB lf ks vs is, 0) ∧ (nodeB lf ks vs is).length ≤ 508) := by
  unfold encA
  split
  · exact .inl ⟨by decide, rfl⟩
  · rename_i h
    split
    · exact .inl ⟨by decide, rfl⟩
    · rename_i h2
      exact .inr ⟨by simpa using h, rfl, by omega⟩
theorem zl_nou (k : Nat) : zl (nou k) = true := by unfold zl nou; simp
theorem encA_len (lf : Bool) (ks vs : List (List Int)) (is : List Int) : (encA lf ks vs is).1.length ≤ 508 := by
  rcases encA_three lf ks vs is with ⟨_, h⟩ | ⟨_, h, h2⟩
  · rw [h]; simp
  · rw [h]; exact h2

theorem own_emp {W : World} {B b : Nat} (h : W.heap[b]? = some (.cells #[] 5 (0, 0))) (hB : B ≤ b) : W.ownsRow B 5 1 (.slice (some ⟨b, 0, none⟩) 0 0) ([] : List Int).length (([] : List Int).map (Value.int .u8)) :=
  ⟨rfl, .inr ⟨b, 0, #[], rfl, hB, h, Nat.le_refl _, by unfold maxLen; omega, rfl, rfl⟩⟩

set_option maxHeartbeats 6400000 in
theorem nodeEncodes_walk (lf : Bool) (ka va ia : Option Addr) (kl kc vl vc il ic : Nat) (ks vs : List (List Int)) (is : List Int) (z : Int) (w : World) (hN : Nd w ka kl va vl ia il ks vs is) (hz : 0 ≤ z ∧ z ≤ 255) :
    Calls Tryd.prog 3 #[.agg #[.bool lf, .slice ka kl kc, .slice va vl vc, .slice ia il ic], .int .u8 z] w fun e w' => e = .returned (.bool true) ∧ Below w.heap.size w w' := by
  obtain ⟨W0, hW0⟩ : ∃ W0, W0 = w.alloc (.cells #[.bool lf, .slice ka kl kc, .slice va vl vc, .slice ia il ic] 25) := ⟨_, rfl⟩
  have n0 : W0.heap[w.heap.size]? = some (.cells #[.bool lf, .slice ka kl kc, .slice va vl vc, .slice ia il ic] 25 (0, 0)) := by rw [hW0]; exact Go.heap_alloc_new w _
  have hs0 : W0.heap.size = w.heap.size + 1 := by rw [hW0]; simp
  have hb0 : Below w.heap.size w W0 := by rw [hW0]; exact bel0 _ (Below.refl _ _)
  have Q := Lib.hid (show ∀ W, Below W0.heap.size W0 W → W.cell? ⟨w.heap.size, 0, none⟩ = some (.bool lf) ∧ W.cell? ⟨w.heap.size, 1, none⟩ = some (.slice ka kl kc) ∧ W.cell? ⟨w.heap.size, 2, none⟩ = some (.slice va vl vc) ∧ W.cell? ⟨w.heap.size, 3, none⟩ = some (.slice ia il ic) from fun W hW =>
    have h := (hW.block _ (by omega)).trans n0
    ⟨cell_of_row _ _ 0 _ _ _ h, cell_of_row _ _ 1 _ _ _ h, cell_of_row _ _ 2 _ _ _ h, cell_of_row _ _ 3 _ _ _ h⟩)
  have HN := Lib.hid (fun (W : World) (hW : Below W0.heap.size W0 W) => (show Nd W ka kl va vl ia il ks vs is from (hN.below hb0).below hW))
  have HB0 := Lib.hid hb0
  have HW := Lib.hid hW0
  have HZ := Lib.hid hz
  clear n0 hs0 hb0 hW0 hN
  go_enter Tryd.func3, Tryd.ntmps3
  go_wp2_with fail
  rw [← HW.out]
  refine (nawake_any _).mono ?_
  rintro e w1 ⟨rfl, hb1⟩
  obtain ⟨q0, q1, q2, q3⟩ := Q.out w1 hb1
  have HB1 := Lib.hid hb1
  clear hb1
  go_wp2_with fail
  refine (fewn_any lf ka va ia kl kc vl vc il ic ks vs is _ (HN.out w1 HB1.out)).mono ?_
  rintro e w2 ⟨b, rfl, hfew, hb2⟩
  have HB2 := Lib.hid (bt HB1.out hb2)
  clear hb2 q0 q1 q2 q3
  cases b with
  | false =>
    clear hfew
    go_wp2_with fail
    refine (nawake_any _).mono ?_
    rintro e w3 ⟨rfl, hb3⟩
    have HB3' := Lib.hid (bt HB0.out (bt HB2.out hb3))
    clear hb3
    go_wp2
    go_ret
    exact ⟨rfl, HB3'.out⟩
  | true =>
    have HF := Lib.hid (hfew rfl)
    clear hfew
    obtain ⟨q0, q1, q2, q3⟩ := Q.out w2 HB2.out
    obtain ⟨W3, hW3⟩ : ∃ W3, W3 = w2.alloc (.cells #[.bool lf, .slice ka kl kc, .slice va vl vc, .slice ia il ic] 28) := ⟨_, rfl⟩
    have n3 : W3.heap[w2.heap.size]? = some (.cells #[.bool lf, .slice ka kl kc, .slice va vl vc, .slice ia il ic] 28 (0, 0)) := by rw [hW3]; exact Go.heap_alloc_new w2 _
    have hs3 : W3.heap.size = w2.heap.size + 1 := by rw [hW3]; simp
    have hb3 : Below w2.heap.size w2 W3 := by rw [hW3]; exact bel0 _ (Below.refl _ _)
    have HB3 := Lib.hid (bt HB2.out hb3)
    have P := Lib.hid (show ∀ W, Below W3.heap.size W3 W → (W.cell? ⟨w2.heap.size, 0, none⟩ = some (.bool lf) ∧ W.cell? ⟨w2.heap.size, 1, none⟩ = some (.slice ka kl kc) ∧ W.cell? ⟨w2.heap.size, 2, none⟩ = some (.slice va vl vc) ∧ W.cell? ⟨w2.heap.size, 3, none⟩ = some (.slice ia il ic)) ∧ (W.cell? ⟨w.heap.size, 0, none⟩ = some (.bool lf) ∧ W.cell? ⟨w.heap.size, 1, none⟩ = some (.slice ka kl kc) ∧ W.cell? ⟨w.heap.size, 2, none⟩ = some (.slice va vl vc) ∧ W.cell? ⟨w.heap.size, 3, none⟩ = some (.slice ia il ic)) ∧ Nd W ka kl va vl ia il ks vs is from fun W hW =>
      have h := (hW.block _ (by omega)).trans n3
      ⟨⟨cell_of_row _ _ 0 _ _ _ h, cell_of_row _ _ 1 _ _ _ h, cell_of_row _ _ 2 _ _ _ h, cell_of_row _ _ 3 _ _ _ h⟩, Q.out W (bt HB3.out hW), HN.out W (bt HB3.out hW)⟩)
    have HW3 := Lib.hid hW3
    clear n3 hs3 hb3
    go_upto_region 4 with (fail)
    clear hW3 q0 q1 q2 q3
    rw [← HW3.out]
    obtain ⟨⟨p0, p1, p2, p3⟩, ⟨q0, q1, q2, q3⟩, _⟩ := P.out W3 (Below.refl _ _)
    go_wp2_with fail
    refine (encode_any lf ka va ia kl kc vl vc il ic ks vs is W3 (P.out W3 (Below.refl _ _)).2.2 HF.out).mono ?_
    rintro e w4 ⟨v, rfl, ho, hr, hb4⟩
    obtain ⟨a, L, cap, rfl, hL, hI, hlo, hn, hle, _⟩ := own_any ho hr
    have HI := Lib.hid hI
    have HLo := Lib.hid hlo
    have HNi := Lib.hid hn
    have HB4 := Lib.hid hb4
    clear ho hr hL hI hlo hn hle hb4 p0 p1 p2 p3 q0 q1 q2 q3
    obtain ⟨⟨p0, p1, p2, p3⟩, ⟨q0, q1, q2, q3⟩, _⟩ := P.out w4 HB4.out
    go_wp2_with fail
    refine (rencode_any lf ka va ia kl kc vl vc il ic ks vs is w4 (P.out w4 HB4.out).2.2 HF.out).mono ?_
    rintro e w5 ⟨v, rfl, ho, hr, hb5⟩
    obtain ⟨a', L', cap', rfl, hL, hI, hlo, hn, hle, _⟩ := own_any ho hr
    have HI5 := Lib.hid (HI.out.below hb5 HLo.out)
    have HLo5 := Lib.hid (show ∀ x, L ≠ 0 → a = some x → x.block < w5.heap.size from fun x hx hy => Nat.lt_of_lt_of_le (HLo.out x hx hy) hb5.size)
    have HJ5 := Lib.hid hI
    have HJlo := Lib.hid hlo
    have HJn := Lib.hid hn
    have HB5 := Lib.hid (bt HB4.out hb5)
    clear ho hr hL hI hlo hn hle hb5 p0 p1 p2 p3 q0 q1 q2 q3
    have HX := Lib.hid (show ∀ W, Below w5.heap.size w5 W → ((W.cell? ⟨w2.heap.size, 0, none⟩ = some (.bool lf) ∧ W.cell? ⟨w2.heap.size, 1, none⟩ = some (.slice ka kl kc) ∧ W.cell? ⟨w2.heap.size, 2, none⟩ = some (.slice va vl vc) ∧ W.cell? ⟨w2.heap.size, 3, none⟩ = some (.slice ia il ic)) ∧ (W.cell? ⟨w.heap.size, 0, none⟩ = some (.bool lf) ∧ W.cell? ⟨w.heap.size, 1, none⟩ = some (.slice ka kl kc) ∧ W.cell? ⟨w.heap.size, 2, none⟩ = some (.slice va vl vc) ∧ W.cell? ⟨w.heap.size, 3, none⟩ = some (.slice ia il ic))) ∧ (convert 29 9 (.slice a L cap)).run Tryd.prog W = .ok (.string (strOfNums (encA lf ks vs is).1)) W ∧ (convert 29 9 (.slice a' L' cap')).run Tryd.prog W = .ok (.string (strOfNums (encA lf ks vs is).1)) W from fun W hW =>
      ⟨⟨(P.out W (bt HB5.out hW)).1, (P.out W (bt HB5.out hW)).2.1⟩, str_any (HI5.out.below hW HLo5.out) HNi.out, str_any (HJ5.out.below hW HJlo.out) HJn.out⟩)
    have HNd := Lib.hid (fun (W : World) (hW : Below w5.heap.size w5 W) => (P.out W (bt HB5.out hW)).2.2)
    have H3 := Lib.hid (encA_three lf ks vs is)
    have HEl := Lib.hid (encA_len lf ks vs is)
    obtain ⟨er, her⟩ : ∃ er, er = (encA lf ks vs is).2 := ⟨_, rfl⟩
    obtain ⟨S, hS⟩ : ∃ S, S = strOfNums (encA lf ks vs is).1 := ⟨_, rfl⟩
    rw [← her]
    rw [← hS] at HX
    have HEr := Lib.hid her
    clear her hS
    have hee : (er != er) = false := bne_self_eq_false _
    obtain ⟨sz, hsz⟩ : ∃ sz, sz = sizeA lf ks vs is := ⟨_, rfl⟩
    have HSz := Lib.hid hsz
    have hsi : (sz != sz) = false := bne_self_eq_false _
    obtain ⟨bf, hbf⟩ : ∃ bf, bf = nFormB lf ks vs is := ⟨_, rfl⟩
    have HBf := Lib.hid hbf
    have hbb : (bf != bf) = false := by cases bf <;> rfl
    clear hsz hbf
    go_upto_region 6 with (fail)
    go_cut [54] (fun x wx => x = .bool false ∧ Below w5.heap.size w5 wx)
    case first =>
      refine wp_region_noPanic ?_
      go_region_held (fun W => ((W.cell? ⟨w2.heap.size, 0, none⟩ = some (.bool lf) ∧ W.cell? ⟨w2.heap.size, 1, none⟩ = some (.slice ka kl kc) ∧ W.cell? ⟨w2.heap.size, 2, none⟩ = some (.slice va vl vc) ∧ W.cell? ⟨w2.heap.size, 3, none⟩ = some (.slice ia il ic)) ∧ (W.cell? ⟨w.heap.size, 0, none⟩ = some (.bool lf) ∧ W.cell? ⟨w.heap.size, 1, none⟩ = some (.slice ka kl kc) ∧ W.cell? ⟨w.heap.size, 2, none⟩ = some (.slice va vl vc) ∧ W.cell? ⟨w.heap.size, 3, none⟩ = some (.slice ia il ic))) ∧ (convert 29 9 (.slice a L cap)).run Tryd.prog W = .ok (.string S) W ∧ (convert 29 9 (.slice a' L' cap')).run Tryd.prog W = .ok (.string S) W)
        (first | exact HX.out _ (Below.refl _ _) | exact HX.out _ (Below.refl _ _).drew | exact HX.out _ HG4.out | exact HX.out _ HG3.out | exact HX.out _ HG2.out | exact HX.out _ HG1.out)
        (first
          | (go_at_call 10; refine (formed_any lf ka va ia kl kc vl vc il ic ks vs is _ (HNd.out _ (by first | exact Below.refl _ _ | exact (Below.refl _ _).drew)) HF.out).mono ?_; rintro e g1 ⟨rfl, hg1⟩; rw [← HBf.out]; have hg1' : Below w5.heap.size w5 g1 := ⟨hg1.os, hg1.tape, hg1.output, hg1.size, hg1.block⟩; have HG1 := Lib.hid hg1'; clear hg1 hg1')
          | (go_at_call 11; refine (rformed_any lf ka va ia kl kc vl vc il ic ks vs is _ (HNd.out _ HG1.out) HF.out).mono ?_; rintro e g2 ⟨rfl, hg2⟩; rw [← HBf.out]; have HG2 := Lib.hid (bt HG1.out hg2); clear hg2)
          | (go_at_call 12; refine (size_any lf ka va ia kl kc vl vc il ic ks vs is _ (HNd.out _ HG2.out) HF.out).mono ?_; rintro e g3 ⟨rfl, hg3⟩; rw [← HSz.out]; have HG3 := Lib.hid (bt HG2.out hg3); clear hg3)
          | (go_at_call 13; refine (rsize_any lf ka va ia kl kc vl vc il ic ks vs is _ (HNd.out _ HG3.out) HF.out).mono ?_; rintro e g4 ⟨rfl, hg4⟩; rw [← HSz.out]; have HG4 := Lib.hid (bt HG3.out hg4); clear hg4))
      refine NoPanic.normal ?_
      go_wp2_with fail
      go_meet
      exact ⟨rfl, HG4.out⟩
    case rest =>
      obtain ⟨rfl, hbc⟩ := hcut
      have HBc := Lib.hid hbc
      have HIc := Lib.hid (HI5.out.below hbc HLo5.out)
      have HLoc := Lib.hid (show ∀ x, L ≠ 0 → a = some x → x.block < wc.heap.size from fun x hx hy => Nat.lt_of_lt_of_le (HLo5.out x hx hy) hbc.size)
      obtain ⟨k, rfl⟩ : ∃ k : Nat, z = (k : Int) := ⟨z.toNat, by have := HZ.out; omega⟩
      have HKz := Lib.hid (show k ≤ 255 by have := HZ.out; omega)
      have hk0 : (0 : Int) ≤ (k : Int) := by omega
      have hwk : IntKind.i64.wrap (k : Int) = (k : Int) := by have := HKz.out; rw [IntKind.wrap_i64]; omega
      clear hbc hee hsi hbb
      obtain ⟨⟨p0, p1, p2, p3⟩, ⟨q0, q1, q2, q3⟩, _⟩ := P.out wc (bt HB5.out HBc.out)
      go_wp2_with (at_builtin; refine wpList_slice rfl (.tmp 56) (.tmp 57) rfl wc.heap.size (.slice (some ⟨wc.heap.size, 0, none⟩) 0 0) [] a L cap (encA lf ks vs is).1 rfl rfl (own_emp (by exact Go.heap_alloc_new wc _) (Nat.le_refl _)) (HIc.out.below (bel0 _ (Below.refl _ _)) HLoc.out) HNi.out (by have := HIc.out.1; have := HEl.out; simp; omega) (by simp) ?_)
      intro v6 w6 hown6 hgr6
      have HO6 := Lib.hid (show w6.ownsRow wc.heap.size 5 1 v6 (encA lf ks vs is).1.length ((encA lf ks vs is).1.map (Value.int .u8)) by simpa using hown6)
      have HB6 := Lib.hid (show Below wc.heap.size wc w6 from (bel0 (.cells #[] 5) (Below.refl _ _)).grown hgr6 (by simp) (fun k hk => by cases hk; exact Nat.le_refl _))
      clear hown6 hgr6
      obtain ⟨v7, w7, hrun, hown7, hgr7⟩ := run_zeros_any w6 wc.heap.size 29 v6 (encA lf ks vs is).1 k HO6.out (by have := HKz.out; omega) (by have := HEl.out; omega) HB6.out.size
      have HB7 := Lib.hid (HB6.out.grown hgr7 HB6.out.size (fun k hk => (HO6.out.lt k hk).1))
      have HRg := Lib.hid (show ∀ x ∈ (encA lf ks vs is).1 ++ nou k, 0 ≤ x ∧ x ≤ 255 from range_app HIc.out.mem (fun x hx => by have := (List.mem_replicate.1 hx).2; omega))
      obtain ⟨a7, L7, c7, rfl, hL7, hI7, hlo7, hn7, hle7, _⟩ := own_any hown7 HRg.out
      have HRun := Lib.hid hrun
      have HI7 := Lib.hid hI7
      have HN7 := Lib.hid hn7
      have HLe7 := Lib.hid hle7
      clear hrun hown7 hgr7 hL7 hI7 hlo7 hn7 hle7
      go_wp2_with (at_builtin; refine wpList_append_at w6 rfl (.tmp 58) (.tmp 60) 29 3 rfl rfl rfl HRun.out ?_)
      go_wp2_with fail
      have HL6 := Lib.hid (show ((encA lf ks vs is).1 ++ nou k).length ≤ 1000000 by rw [List.length_append, nou_length]; have := HEl.out; have := HKz.out; omega)
      have HB7' := Lib.hid (bt HB5.out (bt HBc.out HB7.out))
      clear p0 p1 p2 p3 q0 q1 q2 q3
      rcases H3.out with ⟨he0, _⟩ | ⟨hfm, heq, _⟩
      · refine (decode_any w7 a7 L7 c7 _ HI7.out HN7.out HLe7.out HL6.out).mono ?_
        rintro e w8 ⟨yka, ykl, ykc, yva, yvl, yvc, yia, yil, yic, rfl, hnd, hb8⟩
        have HB8 := Lib.hid (bt HB0.out (bt HB3.out (bt HB7'.out hb8)))
        have her0 : ¬ er = 0 := by rw [HEr.out]; exact he0
        have herb : (er != 0) = true := bne_iff_ne.2 her0
        clear he0 hnd hb8
        generalize (decA ((encA lf ks vs is).1 ++ nou k)).lf = ylf at *
        generalize (decA ((encA lf ks vs is).1 ++ nou k)).er = yer at *
        go_wp2
        go_ret
        exact ⟨rfl, bt HB8.out (by repeat (first | exact Below.refl _ _ | refine bel0 _ ?_))⟩
      · have HBack := Lib.hid (show decA ((encA lf ks vs is).1 ++ nou k) = ⟨lf, ks, vs, is, 0⟩ by rw [heq]; exact decA_back hfm (by have := (HNd.out w5 (Below.refl _ _)).keys.1; have := HF.out.1; omega) (zl_nou k))
        have her0 : er = 0 := by rw [HEr.out, heq]
        subst her0
        clear hfm heq
        refine (decode_any w7 a7 L7 c7 _ HI7.out HN7.out HLe7.out HL6.out).mono ?_
        rw [HBack.out]
        rintro e w8 ⟨yka, ykl, ykc, yva, yvl, yvc, yia, yil, yic, rfl, hnd, hb8⟩
        have HB8 := Lib.hid (bt HB7'.out hb8)
        obtain ⟨W9, hW9⟩ : ∃ W9, W9 = w8.alloc (.cells #[.bool lf, .slice yka ykl ykc, .slice yva yvl yvc, .slice yia yil yic] 28) := ⟨_, rfl⟩
        have n9 : W9.heap[w8.heap.size]? = some (.cells #[.bool lf, .slice yka ykl ykc, .slice yva yvl yvc, .slice yia yil yic] 28 (0, 0)) := by rw [hW9]; exact Go.heap_alloc_new w8 _
        have hb9 : Below w8.heap.size w8 W9 := by rw [hW9]; exact bel0 _ (Below.refl _ _)
        have HNy := Lib.hid (hnd.below hb9)
        have HB9 := Lib.hid (bt HB8.out hb9)
        have y0 := cell_of_row _ _ 0 _ _ _ n9
        have y1 := cell_of_row _ _ 1 _ _ _ n9
        have y2 := cell_of_row _ _ 2 _ _ _ n9
        have y3 := cell_of_row _ _ 3 _ _ _ n9
        simp only [List.getElem?_toArray, List.getElem?_cons_zero, List.getElem?_cons_succ] at y0 y1 y2 y3
        obtain ⟨_, ⟨q0, q1, q2, q3⟩, _⟩ := P.out W9 HB9.out
        have HW9 := Lib.hid hW9
        clear hnd hb8 n9 hb9
        go_upto_region 9 with (fail)
        clear hW9
        rw [← HW9.out]
        go_wp2_with fail
        refine (same_node lf yka yva yia ka va ia ykl ykc yvl yvc yil yic kl kc vl vc il ic ks vs is W9 HNy.out (P.out W9 HB9.out).2.2).mono ?_
        rintro e w10 ⟨rfl, hb10⟩
        have HB10 := Lib.hid (bt HB0.out (bt HB3.out (bt HB9.out hb10)))
        go_wp2
        go_ret
        exact ⟨rfl, HB10.out⟩
end Go.Proofs.YtbcjhngpcodaoaaDoor
