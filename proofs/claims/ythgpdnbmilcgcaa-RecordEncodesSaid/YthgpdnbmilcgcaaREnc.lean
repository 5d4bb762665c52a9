/- Contracts of the document's FormedRow, Encode, Same: every slice of values. -/
import Derived.Test.YthgpdnbmilcgcaaOnce
namespace Go.Proofs.Ythgpdnbmilcgcaa
open Go.RowKit
set_option linter.unusedVariables false

set_option maxHeartbeats 800000 in
theorem formedRow_any (a : Option Addr) (len cap : Nat) (vs : List Val) (w : World) (hv : IsV w a len vs) :
    Calls Try.prog 26 #[.slice a len cap] w fun e w' => e = .returned (.bool (allF vs)) ∧ Below w.heap.size w w' := by
  have H := Lib.hid hv
  obtain ⟨hl, hm, _⟩ := hv
  have HL := Lib.hid hl
  clear hl
  go_enter Try.func26, Try.ntmps26
  go_wp2
  go_loopw [6] (fun i wr => ∃ k : Nat, k ≤ len ∧ i = .int .i64 k ∧ Below w.heap.size w wr ∧ Hid (allF (vs.take k) = true)) (fun i _ => len - (intOf i).toNat)
  case atStart => exact ⟨0, by omega, rfl, Below.refl _ _, Lib.hid rfl⟩
  case round =>
    obtain ⟨k, hk, rfl, hb, HK⟩ := hrel
    by_cases hlt : k < len
    · have hk1 : k < vs.length := by have := HL.out; omega
      obtain ⟨b, off, rfl, hb0, p1, p2, p3⟩ := H.out.at hb hlt
      have HB := Lib.hid hb
      clear hb
      have hk0 : (0 : Int) ≤ (k : Int) := by omega
      have hkj : (k : Int) < (len : Int) := by omega
      by_cases hf : formedV (vs.getD k noV) = true
      · have HE := Lib.hid (allF_take hk1 HK.out hf)
        clear HK hk1
        unfold formedV at hf
        generalize vs.getD k noV = x at *
        obtain ⟨xk, xn, xs⟩ := x
        dsimp only at *
        go_wp2_with (go_at_call 29; refine (rformed_any _ _ _ _).mono ?_; rintro e w' ⟨rfl, rfl⟩)
        go_roundw
        case rel =>
          refine ⟨k + 1, by omega, by go_num, ?_, HE⟩
          have := HB.out
          repeat (first | exact this | refine Below.drew ?_ | refine bel _ ?_)
        case measure => simp [intOf]; omega
      · have HE := Lib.hid (allF_no hk1 hf)
        have hf : formedV (vs.getD k noV) = false := by simpa using hf
        clear HK hk1
        unfold formedV at hf
        generalize vs.getD k noV = x at *
        obtain ⟨xk, xn, xs⟩ := x
        dsimp only at *
        go_wp2_with (go_at_call 29; refine (rformed_any _ _ _ _).mono ?_; rintro e w' ⟨rfl, rfl⟩)
        go_ret
        refine ⟨by rw [HE.out]; rfl, ?_⟩
        have := HB.out
        repeat (first | exact this | refine Below.drew ?_ | refine bel _ ?_)
    · have HE := Lib.hid (show allF vs = true by rw [← HK.out, List.take_of_length_le (by have := HL.out; omega)])
      have HB := Lib.hid hb
      obtain rfl : k = len := by omega
      clear hb HK
      go_wp2
      go_ret
      exact ⟨by rw [HE.out]; rfl, HB.out⟩

theorem same_any (a1 : Option Addr) (len1 cap1 : Nat) (v1 : List Val) (a2 : Option Addr) (len2 cap2 : Nat) (v2 : List Val) (w : World) (h1 : IsV w a1 len1 v1) (h2 : IsV w a2 len2 v2) :
    Calls Try.prog 22 #[.slice a1 len1 cap1, .slice a2 len2 cap2] w fun e w' => e = .returned (.bool (decide (v1 = v2))) ∧ Below w.heap.size w w' := by
  have H1 := Lib.hid h1
  have H2 := Lib.hid h2
  have hl1 := h1.1
  have hl2 := h2.1
  clear h1 h2
  by_cases hl : len1 = len2
  · have e1 : ((len1 : Int) == (len2 : Int)) = true := by rw [beq_iff_eq, hl]
    have HE : Hid (∀ r : Int, r = rowsF v1 v2 → (r == 0) = decide (v1 = v2)) := fun r hr => by
      subst hr
      rw [Bool.eq_iff_iff, beq_iff_eq, decide_eq_true_iff]
      exact ⟨rowsF_zero, fun h => by rw [h, rowsF_self]⟩
    clear hl1 hl2 hl
    go_enter Try.func22, Try.ntmps22
    go_wp2_with fail
    refine (rrows_any _ _ _ _ _ _ _ _ _ H1.out H2.out).mono ?_
    rintro e w1 ⟨rfl, hb⟩
    have HB := Lib.hid hb
    clear hb
    obtain ⟨r, hr⟩ : ∃ r, r = rowsF v1 v2 := ⟨_, rfl⟩
    rw [← hr]
    have HR := Lib.hid (HE.out r hr)
    clear hr HE
    go_wp2
    go_ret
    exact ⟨ret_bool HR.out, HB.out⟩
  · have e1 : ((len1 : Int) == (len2 : Int)) = false := by rw [beq_eq_false_iff_ne]; omega
    have HE := Lib.hid (show false = decide (v1 = v2) by
      symm; rw [decide_eq_false_iff_not]; intro h; apply hl; rw [← hl1, ← hl2, h])
    clear hl1 hl2 hl
    go_enter Try.func22, Try.ntmps22
    go_wp2
    go_ret
    exact ⟨ret_bool HE.out, Below.refl _ _⟩

/-- the three cells of a value's box -/
def Box (w : World) (b : Nat) (x : Val) : Prop := w.cell? ⟨b, 0, none⟩ = some (.int .i64 x.1) ∧ w.cell? ⟨b, 1, none⟩ = some (.int .i64 x.2.1) ∧ w.cell? ⟨b, 2, none⟩ = some (.string x.2.2)
theorem Box.grown {w w' : World} {b : Nat} {x : Val} {row : Option Nat} (h : Box w b x) (hg : w.grownBy w' row) (hne : some b ≠ row) : Box w' b x :=
  ⟨hg.cell h.1 hne, hg.cell h.2.1 hne, hg.cell h.2.2 hne⟩
theorem Box.below {w w' : World} {b : Nat} {x : Val} (h : Box w b x) (hb : Below w.heap.size w w') : Box w' b x :=
  ⟨cell_later hb h.1, cell_later hb h.2.1, cell_later hb h.2.2⟩
theorem box_new (w : World) (x : Val) : Box (w.alloc (.cells #[.int .i64 x.1, .int .i64 x.2.1, .string x.2.2] 49)) w.heap.size x := ⟨by simp, by simp, by simp⟩

/-- the loop's invariant: the bytes of the first j values -/
def REInv (w : World) (vs : List Val) (j : Nat) (v : Value) (wr : World) : Prop :=
  wr.ownsRow w.heap.size 5 1 v (encK vs j).length ((encK vs j).map (Value.int .u8)) ∧ Below w.heap.size w wr ∧ (encK vs j).length ≤ 140

set_option maxHeartbeats 3000000 in
theorem rencode_good (a : Option Addr) (len cap : Nat) (vs : List Val) (w : World) (hv : IsV w a len vs) (hn : ∀ v ∈ vs, okV v) (hlen : len ≤ 1000000) :
    Calls Try.prog 20 #[.slice a len cap] w (EncPost w vs) := by
  have H := Lib.hid hv
  have HA := Lib.hid (show allF vs = true by unfold allF; rw [List.all_eq_true]; exact fun v h => (hn v h).1)
  obtain ⟨hl, hm, _⟩ := hv
  have HL := Lib.hid hl
  have HN := Lib.hid hn
  have hu : IntKind.u64.wrap (len : Int) = (len : Int) := by rw [IntKind.wrap_u64]; omega
  clear hl hn
  go_enter Try.func20, Try.ntmps20
  go_wp2_with fail
  refine (formedRow_any _ _ _ _ _ H.out).mono ?_
  rintro e w1 ⟨rfl, hb1⟩
  rw [HA.out]
  have HB1 := Lib.hid hb1
  clear hb1
  go_wp2_with fail
  refine (number_any (len : Int) (by omega) (by omega) _).mono ?_
  rintro e w2 ⟨g0, c0, rfl, hown, hb2⟩
  have HB2 := Lib.hid (bt HB1.out hb2)
  have hgl := groups_bd (len : Int)
  have HG := Lib.hid hgl
  have HO := Lib.hid (ownsRow_base hown HB1.out.size)
  clear hown hb2 hgl
  go_wp2_with fail
  go_loopw [4, 16] (fun v i wr => ∃ j : Nat, j ≤ len ∧ i = .int .i64 j ∧ Hid (REInv w vs j v wr)) (fun _ i _ => len - (intOf i).toNat)
  case atStart =>
    have e0 : encK vs 0 = enc (len : Int) := by unfold encK; rw [HL.out]; simp [encVs]
    refine ⟨0, by omega, rfl, Lib.hid ⟨?_, HB2.out, ?_⟩⟩
    · rw [e0, enc_length]; exact HO.out
    · rw [e0, enc_length]; have := HG.out; omega
  case round =>
    obtain ⟨j, hj, rfl, HR⟩ := hrel
    by_cases hlt2 : j < len
    · have hk1 : j < vs.length := by have := HL.out; omega
      obtain ⟨v, rfl⟩ : ∃ v, v = u4 := ⟨_, rfl⟩
      obtain ⟨b, off, rfl, hb0, p1, p2, p3⟩ := H.out.at HR.out.2.1 hlt2
      have hk0 : (0 : Int) ≤ (j : Int) := by omega
      have hkj : (j : Int) < (len : Int) := by omega
      have HV := Lib.hid (HN.out (vs.getD j noV) (by rw [List.getD_eq_getElem?_getD, List.getElem?_eq_getElem hk1]; exact List.getElem_mem hk1))
      have HE := Lib.hid (encK_succ hk1)
      have hlow : ∀ k, v.ownBlock = some k → k < wr.heap.size := fun k hk => (HR.out.1.lt k hk).2
      have HLow := Lib.hid hlow
      clear hk1 hlow
      generalize vs.getD j noV = x at *
      rcases formed_cases HV.out.1 with rfl | ⟨n, rfl⟩ | ⟨t, rfl, ht⟩
      · dsimp only at *
        go_wp2_with (at_builtin; refine wpList_byte rfl (.tmp 23) (.tmp 27) rfl w.heap.size v (encK vs j) (wr.heap.size + 1) 0 rfl rfl ((HR.out.1.alloc _).alloc _) ?a1 ?a2 ?a3 ?_)
        case a1 => simp [go_sem]
        case a2 => have := HR.out.2.2; omega
        case a3 => have := HR.out.2.1.size; simp; omega
        intro g1 c1 w3 hown3 hgrow3 _ _
        have hown3' : w3.ownsRow w.heap.size 5 1 (.slice (some ⟨g1, 0, none⟩) ((encK vs j).length + 1) c1) (encK vs j ++ [0]).length ((encK vs j ++ [0]).map (Value.int .u8)) := by simpa using hown3
        have HO3 := Lib.hid hown3'
        have HB3 := Lib.hid (((HR.out.2.1.alloc HR.out.2.1.size (.cells #[.int .i64 0, .int .i64 0, .string ⟨#[]⟩] 49)).alloc (by have := HR.out.2.1.size; simp; omega) (.cells #[.int .u8 0] 5)).grown hgrow3 (by have := HR.out.2.1.size; simp; omega) (fun k hk => (HR.out.1.lt k hk).1))
        have HX3 := Lib.hid (((box_new wr noV).below ((Below.refl _ _).alloc (Nat.le_refl _) _)).grown hgrow3 (fun h => absurd (HLow.out _ h.symm) (Nat.lt_irrefl _)))
        have hsz3 : wr.heap.size + 1 < w3.heap.size := by have := hgrow3.size; simp at this; omega
        clear hown3 hown3' hgrow3
        have hownE : w3.ownsRow w.heap.size 5 1 (.slice (some ⟨g1, 0, none⟩) ((encK vs j).length + 1) c1) (encK vs (j + 1)).length ((encK vs (j + 1)).map (Value.int .u8)) := by rw [HE.out]; exact HO3.out
        have HBE := HB3
        obtain ⟨q0, q1, q2⟩ := HX3.out
        dsimp only [noV] at q0 q1 q2
        clear HO3 HX3 HE
        have hne : (encK vs (j + 1)).length ≠ 0 := by have := (groups_bd (vs.length : Int)).1; unfold encK; rw [List.length_append, enc_length]; omega
        have hLE : (encK vs j).length + 1 = (encK vs (j + 1)).length := by
          rcases hownE.2 with ⟨h, _⟩ | ⟨g', cap', cur, he, _⟩
          · cases h
          · simp only [Value.slice.injEq] at he; omega
        rw [hLE] at hownE ⊢
        have hle := encK_le vs (j + 1)
        have HOE := Lib.hid hownE
        generalize hL : (encK vs (j + 1)).length = L at hle HOE ⊢
        have HLL := Lib.hid hL
        clear hL hne hownE hLE
        by_cases hbig : 140 < L
        · have hbig' : (140 : Int) < (L : Int) := by omega
          have HBig := Lib.hid (Nat.lt_of_lt_of_le hbig hle)
          clear hle hbig
          go_wp2
          go_ret2
          exact .inl ⟨HBig.out, rfl, HBE.out⟩
        · have hbig' : (L : Int) ≤ 140 := by omega
          clear hle
          go_wp2
          go_roundw
          case rel => exact ⟨j + 1, by omega, by go_num, Lib.hid ⟨by rw [HLL.out]; exact HOE.out, HBE.out, by rw [HLL.out]; omega⟩⟩
          case measure => simp [intOf]; omega
      · dsimp only at *
        go_wp2_with (at_builtin; refine wpList_byte rfl (.tmp 23) (.tmp 27) rfl w.heap.size v (encK vs j) (wr.heap.size + 1) 1 rfl rfl ((HR.out.1.alloc _).alloc _) ?a1 ?a2 ?a3 ?_)
        case a1 => simp [go_sem]
        case a2 => have := HR.out.2.2; omega
        case a3 => have := HR.out.2.1.size; simp; omega
        intro g1 c1 w3 hown3 hgrow3 _ _
        have hown3' : w3.ownsRow w.heap.size 5 1 (.slice (some ⟨g1, 0, none⟩) ((encK vs j).length + 1) c1) (encK vs j ++ [1]).length ((encK vs j ++ [1]).map (Value.int .u8)) := by simpa using hown3
        have HO3 := Lib.hid hown3'
        have HB3 := Lib.hid (((HR.out.2.1.alloc HR.out.2.1.size (.cells #[.int .i64 1, .int .i64 n, .string ⟨#[]⟩] 49)).alloc (by have := HR.out.2.1.size; simp; omega) (.cells #[.int .u8 1] 5)).grown hgrow3 (by have := HR.out.2.1.size; simp; omega) (fun k hk => (HR.out.1.lt k hk).1))
        have HX3 := Lib.hid (((box_new wr (1, n, ⟨#[]⟩)).below ((Below.refl _ _).alloc (Nat.le_refl _) _)).grown hgrow3 (fun h => absurd (HLow.out _ h.symm) (Nat.lt_irrefl _)))
        have hsz3 : wr.heap.size + 1 < w3.heap.size := by have := hgrow3.size; simp at this; omega
        clear hown3 hown3' hgrow3
        obtain ⟨q0, q1, q2⟩ := HX3.out
        dsimp only at q0 q1 q2
        go_wp2_with fail
        refine (rsigned_any n HV.out.2.1 HV.out.2.2 _).mono ?_
        rintro e w4 ⟨g2, c2, rfl, hown4, hb4⟩
        have hz4 := enc_length (zz n)
        have hr4 := enc_range (zz n) (zz_bd n HV.out.2.1 HV.out.2.2).1
        have HI4 := Lib.hid (own_isB hown4 hz4 hr4)
        have HB4 := Lib.hid (HB3.out.trans (hb4.mono HB3.out.size))
        have HO4 := Lib.hid (own_below HO3.out hb4)
        have HZ4 := Lib.hid hz4
        have hgr := groups_bd (zz n)
        have HGR := Lib.hid hgr
        have HX4 := Lib.hid (HX3.out.below hb4)
        clear hown4 hb4 hz4 hr4 hgr q0 q1 q2
        go_wp2_with (at_builtin; refine wpList_slice rfl (.tmp 33) (.tmp 36) rfl w.heap.size (.slice (some ⟨g1, 0, none⟩) ((encK vs j).length + 1) c1) (encK vs j ++ [1]) (some ⟨g2, 0, none⟩) (groups (zz n)) c2 (enc (zz n)) rfl rfl ?b1 ?b2 ?b3 ?b4 ?b5 ?_)
        case b1 => exact HO4.out
        case b2 => exact HI4.out
        case b3 => intro h; cases h
        case b4 => have := HR.out.2.2; have := HGR.out; simp; omega
        case b5 => exact HB4.out.size
        intro v5 w5 hown5 hgrow5
        have hownE : w5.ownsRow w.heap.size 5 1 v5 (encK vs (j + 1)).length ((encK vs (j + 1)).map (Value.int .u8)) := by
          rw [HE.out, show encV (1, n, ⟨#[]⟩) = 1 :: enc (zz n) from rfl]
          simpa using hown5
        have HBE := Lib.hid (HB4.out.grown hgrow5 HB4.out.size (fun k hk => by cases hk; exact (HO4.out.lt _ rfl).1))
        clear hown5 hgrow5
        have hne : (encK vs (j + 1)).length ≠ 0 := by have := (groups_bd (vs.length : Int)).1; unfold encK; rw [List.length_append, enc_length]; omega
        obtain ⟨g9, c9, rfl⟩ := own_addr hownE hne
        have hle := encK_le vs (j + 1)
        have HOE := Lib.hid hownE
        generalize hL : (encK vs (j + 1)).length = L at hle HOE ⊢
        have HLL := Lib.hid hL
        clear hL hne hownE
        by_cases hbig : 140 < L
        · have hbig' : (140 : Int) < (L : Int) := by omega
          have HBig := Lib.hid (Nat.lt_of_lt_of_le hbig hle)
          clear hle hbig
          go_wp2
          go_ret2
          exact .inl ⟨HBig.out, rfl, HBE.out⟩
        · have hbig' : (L : Int) ≤ 140 := by omega
          clear hle
          go_wp2
          go_roundw
          case rel => exact ⟨j + 1, by omega, by go_num, Lib.hid ⟨by rw [HLL.out]; exact HOE.out, HBE.out, by rw [HLL.out]; omega⟩⟩
          case measure => simp [intOf]; omega
      · dsimp only at *
        go_wp2_with (at_builtin; refine wpList_byte rfl (.tmp 23) (.tmp 27) rfl w.heap.size v (encK vs j) (wr.heap.size + 1) 2 rfl rfl ((HR.out.1.alloc _).alloc _) ?a1 ?a2 ?a3 ?_)
        case a1 => simp [go_sem]
        case a2 => have := HR.out.2.2; omega
        case a3 => have := HR.out.2.1.size; simp; omega
        intro g1 c1 w3 hown3 hgrow3 hat3 _
        have hown3' : w3.ownsRow w.heap.size 5 1 (.slice (some ⟨g1, 0, none⟩) ((encK vs j).length + 1) c1) (encK vs j ++ [2]).length ((encK vs j ++ [2]).map (Value.int .u8)) := by simpa using hown3
        have HO3 := Lib.hid hown3'
        have HB3 := Lib.hid (((HR.out.2.1.alloc HR.out.2.1.size (.cells #[.int .i64 2, .int .i64 0, .string t] 49)).alloc (by have := HR.out.2.1.size; simp; omega) (.cells #[.int .u8 2] 5)).grown hgrow3 (by have := HR.out.2.1.size; simp; omega) (fun k hk => (HR.out.1.lt k hk).1))
        have HX3 := Lib.hid (((box_new wr (2, 0, t)).below ((Below.refl _ _).alloc (Nat.le_refl _) _)).grown hgrow3 (fun h => absurd (HLow.out _ h.symm) (Nat.lt_irrefl _)))
        have hsz3 : wr.heap.size + 1 < w3.heap.size := by have := hgrow3.size; simp at this; omega
        have HNE := Lib.hid (show wr.heap.size ≠ g1 by
          rintro rfl
          rcases hat3 with h | h
          · exact absurd (HLow.out _ h) (Nat.lt_irrefl _)
          · first | omega | (simp at h; omega))
        clear hown3 hown3' hgrow3 hat3
        obtain ⟨q0, q1, q2⟩ := HX3.out
        dsimp only at q0 q1 q2
        have hw : IntKind.u64.wrap (t.size : Int) = (t.size : Int) := by rw [IntKind.wrap_u64]; omega
        go_wp2_with fail
        refine (number_any (t.size : Int) (by omega) (by omega) _).mono ?_
        rintro e w4 ⟨g2, c2, rfl, hown4, hb4⟩
        have hz4 := enc_length (t.size : Int)
        have hr4 := enc_range (t.size : Int) (by omega)
        have HI4 := Lib.hid (own_isB hown4 hz4 hr4)
        have HB4 := Lib.hid (HB3.out.trans (hb4.mono HB3.out.size))
        have HO4 := Lib.hid (own_below HO3.out hb4)
        have hgr := groups_bd (t.size : Int)
        have HGR := Lib.hid hgr
        have HZ4 := Lib.hid hz4
        have HX4 := Lib.hid (HX3.out.below hb4)
        have hlt4 : wr.heap.size < w4.heap.size := by have := hb4.size; omega
        have hg1 : wr.heap.size ≠ g1 ∨ True := .inr trivial
        clear hown4 hb4 hz4 hr4 hgr q0 q1 q2 hg1
        go_wp2_with (at_builtin; refine wpList_slice rfl (.tmp 40) (.tmp 45) rfl w.heap.size (.slice (some ⟨g1, 0, none⟩) ((encK vs j).length + 1) c1) (encK vs j ++ [2]) (some ⟨g2, 0, none⟩) (groups (t.size : Int)) c2 (enc (t.size : Int)) rfl rfl ?b1 ?b2 ?b3 ?b4 ?b5 ?_)
        case b1 => exact HO4.out
        case b2 => exact HI4.out
        case b3 => intro h; cases h
        case b4 => have := HR.out.2.2; have := HGR.out; simp; omega
        case b5 => exact HB4.out.size
        intro v5 w5 hown5 hgrow5
        have hown5' : w5.ownsRow w.heap.size 5 1 v5 (encK vs j ++ [2] ++ enc (t.size : Int)).length ((encK vs j ++ [2] ++ enc (t.size : Int)).map (Value.int .u8)) := by simpa using hown5
        have HO5 := Lib.hid hown5'
        have HB5 := Lib.hid (HB4.out.grown hgrow5 HB4.out.size (fun k hk => by cases hk; exact (HO4.out.lt _ rfl).1))
        obtain ⟨q0, q1, q2⟩ := HX4.out.grown hgrow5 (fun h => HNE.out (by cases h; rfl))
        dsimp only at q0 q1 q2
        clear hown5 hown5' hgrow5
        go_wp2_with (at_builtin; refine wpList_text rfl (.tmp 47) (.tmp 49) rfl w.heap.size v5 (encK vs j ++ [2] ++ enc (t.size : Int)) t rfl rfl ?d1 ?d2 ?d3 ?_)
        case d1 => exact HO5.out
        case d2 => have := HR.out.2.2; have := HGR.out; have := HZ4.out; simp; omega
        case d3 => exact HB5.out.size
        intro v6 w6 hown6 hgrow6
        have hownE : w6.ownsRow w.heap.size 5 1 v6 (encK vs (j + 1)).length ((encK vs (j + 1)).map (Value.int .u8)) := by
          rw [HE.out, show encV (2, 0, t) = 2 :: (enc (t.size : Int) ++ txt t) from rfl]
          simpa using hown6
        have HBE := Lib.hid (HB5.out.grown hgrow6 HB5.out.size (fun k hk => (HO5.out.lt k hk).1))
        clear hown6 hgrow6
        have hne : (encK vs (j + 1)).length ≠ 0 := by have := (groups_bd (vs.length : Int)).1; unfold encK; rw [List.length_append, enc_length]; omega
        obtain ⟨g9, c9, rfl⟩ := own_addr hownE hne
        have hle := encK_le vs (j + 1)
        have HOE := Lib.hid hownE
        generalize hL : (encK vs (j + 1)).length = L at hle HOE ⊢
        have HLL := Lib.hid hL
        clear hL hne hownE
        by_cases hbig : 140 < L
        · have hbig' : (140 : Int) < (L : Int) := by omega
          have HBig := Lib.hid (Nat.lt_of_lt_of_le hbig hle)
          clear hle hbig
          go_wp2
          go_ret2
          exact .inl ⟨HBig.out, rfl, HBE.out⟩
        · have hbig' : (L : Int) ≤ 140 := by omega
          clear hle
          go_wp2
          go_roundw
          case rel => exact ⟨j + 1, by omega, by go_num, Lib.hid ⟨by rw [HLL.out]; exact HOE.out, HBE.out, by rw [HLL.out]; omega⟩⟩
          case measure => simp [intOf]; omega
    · obtain rfl : j = len := by omega
      have HE := Lib.hid (encK_all (vs := vs) (k := j) (by have := HL.out; omega))
      have hle := HR.out.2.2
      have hne : (encK vs j).length ≠ 0 := by have := (groups_bd (vs.length : Int)).1; unfold encK; rw [List.length_append, enc_length]; omega
      obtain ⟨g5, c5, rfl⟩ := own_addr HR.out.1 hne
      generalize hL : (encK vs j).length = L at hle ⊢
      have HLL := Lib.hid hL
      have hle' : (L : Int) ≤ 140 := by omega
      clear hL hne hle
      go_wp2
      go_ret2
      refine .inr ⟨by rw [← HE.out]; exact HR.out.2.2, _, rfl, ?_, HR.out.2.1⟩
      have := HR.out.1
      rw [HLL.out] at this
      rw [← HE.out, HLL.out]
      exact this
end Go.Proofs.Ythgpdnbmilcgcaa
