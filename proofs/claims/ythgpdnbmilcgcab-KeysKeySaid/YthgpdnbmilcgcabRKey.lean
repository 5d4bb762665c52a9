/- Contract of the document's Key: every slice of values. -/
import Derived.Test.YthgpdnbmilcgcabKeyA
namespace Go.Proofs.Ythgpdnbmilcgcab
open Go.RowKit
set_option linter.unusedVariables false

theorem rkey_bad (a : Option Addr) (len cap : Nat) (vs : List Val) (w : World) (hv : IsV w a len vs) (hf : allF vs = false) :
    Calls Try.prog 11 #[.slice a len cap] w fun e w' => e = .returned (.tuple #[.slice none 0 0, .int .i64 1]) ∧ Below w.heap.size w w' := by
  have H := Lib.hid hv
  have HF := Lib.hid hf
  clear hv hf
  go_enter Try.func11, Try.ntmps11
  go_wp2_with fail
  refine (formedRow_any _ _ _ _ _ H.out).mono ?_
  rintro e w1 ⟨rfl, hb1⟩
  rw [HF.out]
  have HB1 := Lib.hid hb1
  clear hb1
  go_wp2
  go_ret2
  exact ⟨rfl, HB1.out⟩

/-- the outer loop's invariant -/
def RKInv (w : World) (vs : List Val) (j : Nat) (v : Value) (wr : World) : Prop :=
  wr.ownsRow w.heap.size 5 1 v (keyVs (vs.take j)).length ((keyVs (vs.take j)).map (Value.int .u8)) ∧ Below w.heap.size w wr

set_option maxHeartbeats 4000000 in
theorem rkey_good (a : Option Addr) (len cap : Nat) (vs : List Val) (w : World) (hv : IsV w a len vs) (hn : ∀ v ∈ vs, okV v) (hlen : len ≤ 1000) :
    Calls Try.prog 11 #[.slice a len cap] w (KeyPost w vs) := by
  have H := Lib.hid hv
  have HA := Lib.hid (show allF vs = true by unfold allF; rw [List.all_eq_true]; exact fun v h => (hn v h).1)
  obtain ⟨hl, hm, _⟩ := hv
  have HL := Lib.hid hl
  have HN := Lib.hid hn
  clear hl hn
  go_enter Try.func11, Try.ntmps11
  go_wp2_with fail
  refine (formedRow_any _ _ _ _ _ H.out).mono ?_
  rintro e w1 ⟨rfl, hb1⟩
  rw [HA.out]
  have HB1 := Lib.hid hb1
  clear hb1
  go_wp2_with fail
  go_loopw [4, 14] (fun v i wr => ∃ j : Nat, j ≤ len ∧ i = .int .i64 j ∧ Hid (RKInv w vs j v wr)) (fun _ i _ => len - (intOf i).toNat)
  case atStart => exact ⟨0, by omega, rfl, Lib.hid ⟨World.ownsRow_nil _ _ _ _, HB1.out⟩⟩
  case round =>
    obtain ⟨j, hj, rfl, HR⟩ := hrel
    by_cases hlt2 : j < len
    · have hk1 : j < vs.length := by have := HL.out; omega
      obtain ⟨v, rfl⟩ : ∃ v, v = u4 := ⟨_, rfl⟩
      obtain ⟨wo, rfl⟩ : ∃ wo : World, wo = wr := ⟨_, rfl⟩
      obtain ⟨b, off, rfl, hb0, p1, p2, p3⟩ := H.out.at HR.out.2 hlt2
      have hk0 : (0 : Int) ≤ (j : Int) := by omega
      have hkj : (j : Int) < (len : Int) := by omega
      have HV := Lib.hid (HN.out (vs.getD j noV) (by rw [List.getD_eq_getElem?_getD, List.getElem?_eq_getElem hk1]; exact List.getElem_mem hk1))
      have HE := Lib.hid (keyVs_succ hk1)
      have hlj : (keyVs (vs.take j)).length ≤ 1000000 := by
        have := keyVs_len (l := vs.take j) (fun v hv => HN.out v (List.mem_of_mem_take hv))
        rw [List.length_take] at this; omega
      have hlow : ∀ k, v.ownBlock = some k → k < wo.heap.size := fun k hk => (HR.out.1.lt k hk).2
      have HLow := Lib.hid hlow
      clear hk1 hlow
      generalize vs.getD j noV = x at *
      obtain ⟨P, hP⟩ : ∃ P, P = keyVs (vs.take j) := ⟨_, rfl⟩
      have hR1 : wo.ownsRow w.heap.size 5 1 v P.length (P.map (Value.int .u8)) := by rw [hP]; exact HR.out.1
      have HO := Lib.hid hR1
      have HB := Lib.hid HR.out.2
      rw [← hP] at HE hlj
      clear hP hR1 HR
      rcases formed_cases HV.out.1 with rfl | ⟨n, rfl⟩ | ⟨t, rfl, ht⟩
      · dsimp only at *
        go_wp2_with (at_builtin; refine wpList_byte rfl (.tmp 25) (.tmp 26) rfl w.heap.size v P (wo.heap.size + 1) 5 rfl rfl ((HO.out.alloc _).alloc _) ?a1 ?a2 ?a3 ?_)
        case a1 => simp [go_sem]
        case a2 => omega
        case a3 => have := HB.out.size; simp; omega
        intro g1 c1 w3 hown3 hgrow3 _ _
        have hown3' : w3.ownsRow w.heap.size 5 1 (.slice (some ⟨g1, 0, none⟩) (P.length + 1) c1) (keyVs (vs.take (j + 1))).length ((keyVs (vs.take (j + 1))).map (Value.int .u8)) := by
          rw [HE.out, show keyV (0, 0, ⟨#[]⟩) = [5] from rfl]
          simpa using hown3
        have HO3 := Lib.hid hown3'
        have HB3 := Lib.hid (((HB.out.alloc HB.out.size (.cells #[.int .i64 0, .int .i64 0, .string ⟨#[]⟩] 54)).alloc (by have := HB.out.size; simp; omega) (.cells #[.int .u8 5] 5)).grown hgrow3 (by have := HB.out.size; simp; omega) (fun k hk => (HO.out.lt k hk).1))
        clear hown3 hown3' hgrow3
        go_wp2
        go_roundw
        case rel => exact ⟨j + 1, by omega, by go_num, Lib.hid ⟨HO3.out, HB3.out⟩⟩
        case measure => simp [intOf]; omega
      · dsimp only at *
        go_wp2_with (at_builtin; refine wpList_byte rfl (.tmp 30) (.tmp 31) rfl w.heap.size v P (wo.heap.size + 1) 16 rfl rfl ((HO.out.alloc _).alloc _) ?a1 ?a2 ?a3 ?_)
        case a1 => simp [go_sem]
        case a2 => omega
        case a3 => have := HB.out.size; simp; omega
        intro g1 c1 w3 hown3 hgrow3 hat3 _
        have hown3' : w3.ownsRow w.heap.size 5 1 (.slice (some ⟨g1, 0, none⟩) (P.length + 1) c1) (P ++ [16]).length ((P ++ [16]).map (Value.int .u8)) := by simpa using hown3
        have HO3 := Lib.hid hown3'
        have HB3 := Lib.hid (((HB.out.alloc HB.out.size (.cells #[.int .i64 1, .int .i64 n, .string ⟨#[]⟩] 54)).alloc (by have := HB.out.size; simp; omega) (.cells #[.int .u8 16] 5)).grown hgrow3 (by have := HB.out.size; simp; omega) (fun k hk => (HO.out.lt k hk).1))
        have HX3 := Lib.hid (((box_new wo (1, n, ⟨#[]⟩)).below ((Below.refl _ _).alloc (Nat.le_refl _) _)).grown hgrow3 (fun h => absurd (HLow.out _ h.symm) (Nat.lt_irrefl _)))
        have HNE := Lib.hid (ne_row HLow.out hat3 (by omega))
        have hu : IntKind.u64.wrap (IntKind.u64.wrap n + 9223372036854775808) = n + 9223372036854775808 := by
          have h0 := HV.out.2.1; have h1 := HV.out.2.2; dsimp only at h0 h1; rw [IntKind.wrap_u64, IntKind.wrap_u64]; omega
        have hn0 : 0 ≤ n + 9223372036854775808 := by have h0 := HV.out.2.1; dsimp only at h0; omega
        have hn1 : n + 9223372036854775808 ≤ 18446744073709551615 := by have h1 := HV.out.2.2; dsimp only at h1; omega
        clear hown3 hown3' hgrow3 hat3
        go_wp2
        go_loopw [4, 7] (fun u i wq => ∃ (q m : Nat), Hid (q + m = 8) ∧ i = .int .i64 ((m : Int) - 1) ∧ Hid (wq.ownsRow w.heap.size 5 1 u (P ++ [16] ++ (beN (n + 9223372036854775808) 8).take q).length ((P ++ [16] ++ (beN (n + 9223372036854775808) 8).take q).map (Value.int .u8)) ∧ w3.grownBy wq (some g1) ∧ FromRow w3 (some g1) u.ownBlock)) (fun _ i _ => (intOf i + 1).toNat)
        case atStart => exact ⟨0, 8, Lib.hid rfl, rfl, Lib.hid ⟨by simpa using HO3.out, World.grownBy.refl _ _, .inl rfl⟩⟩
        case round =>
          obtain ⟨q, m, HJ, rfl, HR⟩ := hrel
          obtain ⟨u, rfl⟩ : ∃ u, u = u4 := ⟨_, rfl⟩
          have hX := HX3.out.grown HR.out.2.1 (fun h => HNE.out (Option.some.inj h))
          obtain ⟨q0, q1, q2⟩ := hX
          dsimp only at q0 q1 q2
          cases m with
          | zero =>
            have hownE : wr.ownsRow w.heap.size 5 1 u (keyVs (vs.take (j + 1))).length ((keyVs (vs.take (j + 1))).map (Value.int .u8)) := by
              have e : keyV (1, n, ⟨#[]⟩) = 16 :: beN (n + 9223372036854775808) 8 := by unfold keyV; rw [if_pos rfl]
              have h1 := HR.out.1
              rw [List.take_of_length_le (by rw [beN_length]; have := HJ.out; omega), show P ++ [16] ++ beN (n + 9223372036854775808) 8 = keyVs (vs.take (j + 1)) by rw [HE.out, e]; simp] at h1
              exact h1
            have HOE := Lib.hid hownE
            have HBE := Lib.hid (HB3.out.grown HR.out.2.1 HB3.out.size (fun k hk => by cases hk; exact (HO3.out.lt _ rfl).1))
            clear hownE HR
            go_wp2
            go_roundw
            case rel => exact ⟨j + 1, by omega, by go_num, Lib.hid ⟨HOE.out, HBE.out⟩⟩
            case measure => first | (simp [intOf]; done) | (simp [intOf]; omega)
          | succ m =>
            have e1 : ((m + 1 : Nat) : Int) - 1 = (m : Int) := by omega
            rw [e1]
            have hm8 : (m : Int) ≤ 7 := by have := HJ.out; omega
            have e2 : (8 * (m : Int)).toNat = 8 * m := by omega
            have e3 : (0 : Int) ≤ 8 * (m : Int) := by omega
            have HT := Lib.hid (beN_take (n + 9223372036854775808) 8 q (by have := HJ.out; omega))
            obtain ⟨R, hR⟩ : ∃ R, R = P ++ [16] ++ (beN (n + 9223372036854775808) 8).take q := ⟨_, rfl⟩
            have HNx := Lib.hid (show P ++ [16] ++ (beN (n + 9223372036854775808) 8).take (q + 1) = R ++ [(n + 9223372036854775808) / 2 ^ (8 * m) % 256] by
              rw [HT.out, hR, show 8 - 1 - q = m by have := HJ.out; omega]
              simp only [List.append_assoc])
            have hRl : R.length ≤ 1000009 := by rw [hR, List.length_append, List.length_take, beN_length]; simp; omega
            rw [← hR] at HR
            clear hR HT e1
            go_wp2_with (at_builtin; refine wpList_byte rfl (.tmp 37) (.tmp 46) rfl w.heap.size u R wr.heap.size ((n + 9223372036854775808) / 2 ^ (8 * m) % 256) rfl rfl (HR.out.1.alloc _) ?b1 ?b2 ?b3 ?_)
            case b1 => simp [go_sem]
            case b2 => omega
            case b3 => have := HR.out.2.1.size; have := HB3.out.size; simp; omega
            intro g2 c2 w4 hown4 hgrow4 hat4 _
            have hown4' : w4.ownsRow w.heap.size 5 1 (.slice (some ⟨g2, 0, none⟩) (R.length + 1) c2) (P ++ [16] ++ (beN (n + 9223372036854775808) 8).take (q + 1)).length ((P ++ [16] ++ (beN (n + 9223372036854775808) 8).take (q + 1)).map (Value.int .u8)) := by
              rw [HNx.out]
              simpa using hown4
            have HO4 := Lib.hid hown4'
            have HG4 := Lib.hid (grown_step (grown_alloc HR.out.2.1 (.cells #[.int .u8 ((n + 9223372036854775808) / 2 ^ (8 * m) % 256)] 5)) HR.out.2.2 hgrow4)
            have HF4 := Lib.hid (from_new HR.out.2.2 (by have := HR.out.2.1.size; omega) hat4)
            clear hown4 hown4' hgrow4 hat4 q0 q1 q2
            go_wp2
            go_roundw
            case rel => exact ⟨q + 1, m, Lib.hid (by have := HJ.out; omega), rfl, Lib.hid ⟨HO4.out, HG4.out, HF4.out⟩⟩
            case measure => first | (simp [intOf]; done) | (simp [intOf]; omega)
      · dsimp only at *
        go_wp2_with (at_builtin; refine wpList_byte rfl (.tmp 50) (.tmp 51) rfl w.heap.size v P (wo.heap.size + 1) 32 rfl rfl ((HO.out.alloc _).alloc _) ?a1 ?a2 ?a3 ?_)
        case a1 => simp [go_sem]
        case a2 => omega
        case a3 => have := HB.out.size; simp; omega
        intro g1 c1 w3 hown3 hgrow3 hat3 _
        have hown3' : w3.ownsRow w.heap.size 5 1 (.slice (some ⟨g1, 0, none⟩) (P.length + 1) c1) (P ++ [32]).length ((P ++ [32]).map (Value.int .u8)) := by simpa using hown3
        have HO3 := Lib.hid hown3'
        have HB3 := Lib.hid (((HB.out.alloc HB.out.size (.cells #[.int .i64 2, .int .i64 0, .string t] 54)).alloc (by have := HB.out.size; simp; omega) (.cells #[.int .u8 32] 5)).grown hgrow3 (by have := HB.out.size; simp; omega) (fun k hk => (HO.out.lt k hk).1))
        have HX3 := Lib.hid (((box_new wo (2, 0, t)).below ((Below.refl _ _).alloc (Nat.le_refl _) _)).grown hgrow3 (fun h => absurd (HLow.out _ h.symm) (Nat.lt_irrefl _)))
        have HNE := Lib.hid (ne_row HLow.out hat3 (by omega))
        obtain ⟨q0, q1, q2⟩ := HX3.out
        dsimp only at q0 q1 q2
        have HLT := Lib.hid (txt_length t)
        clear hown3 hown3' hgrow3 hat3
        go_wp2
        clear q0 q1 q2
        go_loopw [4, 56] (fun u i wq => ∃ (q : Nat), q ≤ t.size ∧ i = .int .i64 (q : Int) ∧ Hid (wq.ownsRow w.heap.size 5 1 u (P ++ [32] ++ esc ((txt t).take q)).length ((P ++ [32] ++ esc ((txt t).take q)).map (Value.int .u8)) ∧ w3.grownBy wq (some g1) ∧ FromRow w3 (some g1) u.ownBlock)) (fun _ i _ => t.size - (intOf i).toNat)
        case atStart => exact ⟨0, by omega, rfl, Lib.hid ⟨by simpa [esc] using HO3.out, World.grownBy.refl _ _, .inl rfl⟩⟩
        case round =>
          obtain ⟨q, hq, rfl, HR⟩ := hrel
          obtain ⟨u, rfl⟩ : ∃ u, u = u4 := ⟨_, rfl⟩
          have hX := HX3.out.grown HR.out.2.1 (fun h => HNE.out (Option.some.inj h))
          obtain ⟨q0, q1, q2⟩ := hX
          dsimp only at q0 q1 q2
          obtain ⟨R, hR⟩ : ∃ R, R = P ++ [32] ++ esc ((txt t).take q) := ⟨_, rfl⟩
          have hRl : R.length ≤ 1000300 := by
            have := esc_len ((txt t).take q)
            rw [List.length_take] at this
            rw [hR, List.length_append]; simp; omega
          rw [← hR] at HR
          by_cases hlt : q < t.size
          · have HNx := Lib.hid (show P ++ [32] ++ esc ((txt t).take (q + 1)) = R ++ (if (txt t).getD q 0 = 0 then [0, 255] else [(txt t).getD q 0]) by
              rw [esc_take (by rw [HLT.out]; exact hlt), hR]
              simp only [List.append_assoc])
            have hx : (txt t).getD q 0 = ((t[q]).toNat : Int) := by
              unfold txt
              rw [List.getD_eq_getElem?_getD, List.getElem?_map, Array.getElem?_toList, Array.getElem?_eq_getElem hlt]
              rfl
            rw [hx] at HNx
            clear hR hx
            by_cases hz : ((t[q]).toNat : Int) = 0
            · have ez : (((t[q]).toNat : Int) == 0) = true := by rw [beq_iff_eq]; exact hz
              rw [if_pos hz] at HNx
              have HZ := Lib.hid hz
              clear hz
              go_wp2_with (at_builtin; refine wpList_byte rfl (.tmp 59) (.tmp 64) rfl w.heap.size u R wr.heap.size ((t[q]).toNat : Int) rfl rfl (HR.out.1.alloc _) ?b1 ?b2 ?b3 ?_)
              case b1 => simp [go_sem]
              case b2 => omega
              case b3 => have := HR.out.2.1.size; have := HB3.out.size; simp; omega
              intro g2 c2 w4 hown4 hgrow4 hat4 _
              have hown4' : w4.ownsRow w.heap.size 5 1 (.slice (some ⟨g2, 0, none⟩) (R.length + 1) c2) (R ++ [0]).length ((R ++ [0]).map (Value.int .u8)) := by
                rw [← HZ.out]
                simpa using hown4
              have HO4 := Lib.hid hown4'
              have HG4 := Lib.hid (grown_step (grown_alloc HR.out.2.1 (.cells #[.int .u8 ((t[q]).toNat : Int)] 5)) HR.out.2.2 hgrow4)
              have HF4 := Lib.hid (from_new HR.out.2.2 (by have := HR.out.2.1.size; omega) hat4)
              clear hown4 hown4' hgrow4 hat4 q0 q1 q2
              have hX := HX3.out.grown HG4.out (fun h => HNE.out (Option.some.inj h))
              obtain ⟨q0, q1, q2⟩ := hX
              dsimp only at q0 q1 q2
              go_wp2_with (at_builtin; refine wpList_byte rfl (.tmp 71) (.tmp 72) rfl w.heap.size (.slice (some ⟨g2, 0, none⟩) (R.length + 1) c2) (R ++ [0]) w4.heap.size 255 rfl rfl (HO4.out.alloc _) ?d1 ?d2 ?d3 ?_)
              case d1 => simp [go_sem]
              case d2 => simp; omega
              case d3 => have := HG4.out.size; have := HB3.out.size; simp; omega
              intro g3 c3 w5 hown5 hgrow5 hat5 _
              have hown5' : w5.ownsRow w.heap.size 5 1 (.slice (some ⟨g3, 0, none⟩) (R.length + 1 + 1) c3) (P ++ [32] ++ esc ((txt t).take (q + 1))).length ((P ++ [32] ++ esc ((txt t).take (q + 1))).map (Value.int .u8)) := by
                rw [HNx.out]
                simpa using hown5
              have HO5 := Lib.hid hown5'
              have HG5 := Lib.hid (grown_step (grown_alloc HG4.out (.cells #[.int .u8 255] 5)) HF4.out hgrow5)
              have HF5 := Lib.hid (from_new HF4.out (by have := HG4.out.size; omega) hat5)
              clear hown5 hown5' hgrow5 hat5 q0 q1 q2
              go_wp2
              go_roundw
              case rel => exact ⟨q + 1, by omega, by go_num, Lib.hid ⟨HO5.out, HG5.out, HF5.out⟩⟩
              case measure => first | (simp [intOf]; done) | (simp [intOf]; omega)
            · have ez : (((t[q]).toNat : Int) == 0) = false := by rw [beq_eq_false_iff_ne]; exact hz
              rw [if_neg hz] at HNx
              clear hz
              go_wp2_with (at_builtin; refine wpList_byte rfl (.tmp 59) (.tmp 64) rfl w.heap.size u R wr.heap.size ((t[q]).toNat : Int) rfl rfl (HR.out.1.alloc _) ?b1 ?b2 ?b3 ?_)
              case b1 => simp [go_sem]
              case b2 => omega
              case b3 => have := HR.out.2.1.size; have := HB3.out.size; simp; omega
              intro g2 c2 w4 hown4 hgrow4 hat4 _
              have hown4' : w4.ownsRow w.heap.size 5 1 (.slice (some ⟨g2, 0, none⟩) (R.length + 1) c2) (P ++ [32] ++ esc ((txt t).take (q + 1))).length ((P ++ [32] ++ esc ((txt t).take (q + 1))).map (Value.int .u8)) := by
                rw [HNx.out]
                simpa using hown4
              have HO4 := Lib.hid hown4'
              have HG4 := Lib.hid (grown_step (grown_alloc HR.out.2.1 (.cells #[.int .u8 ((t[q]).toNat : Int)] 5)) HR.out.2.2 hgrow4)
              have HF4 := Lib.hid (from_new HR.out.2.2 (by have := HR.out.2.1.size; omega) hat4)
              clear hown4 hown4' hgrow4 hat4 q0 q1 q2
              have hX := HX3.out.grown HG4.out (fun h => HNE.out (Option.some.inj h))
              obtain ⟨q0, q1, q2⟩ := hX
              dsimp only at q0 q1 q2
              go_wp2
              clear q0 q1 q2
              go_roundw
              case rel => exact ⟨q + 1, by omega, by go_num, Lib.hid ⟨HO4.out, HG4.out, HF4.out⟩⟩
              case measure => first | (simp [intOf]; done) | (simp [intOf]; omega)
          · have HEx := Lib.hid (show keyVs (vs.take (j + 1)) = R ++ [0, 0] by
              rw [HE.out, hR, List.take_of_length_le (by rw [HLT.out]; omega), show keyV (2, 0, t) = 32 :: (esc (txt t) ++ [0, 0]) from rfl]
              simp)
            clear hR
            go_wp2_with (at_builtin; refine wpList_two rfl (.tmp 75) (.tmp 76) rfl w.heap.size u R wr.heap.size 0 0 rfl rfl (HR.out.1.alloc _) ?b1 ?b4 ?b2 ?b3 ?_)
            case b1 => simp [go_sem]
            case b4 => simp [go_sem]
            case b2 => omega
            case b3 => have := HR.out.2.1.size; have := HB3.out.size; simp; omega
            intro v5 w5 hown5 hgrow5
            have hown5' : w5.ownsRow w.heap.size 5 1 v5 (keyVs (vs.take (j + 1))).length ((keyVs (vs.take (j + 1))).map (Value.int .u8)) := by
              rw [HEx.out]
              simpa using hown5
            have HO5 := Lib.hid hown5'
            have HG5 := grown_step (grown_alloc HR.out.2.1 (.cells #[.int .u8 0, .int .u8 0] 5)) HR.out.2.2 hgrow5
            have HBE := Lib.hid (HB3.out.grown HG5 HB3.out.size (fun k hk => by cases hk; exact (HO3.out.lt _ rfl).1))
            clear hown5 hown5' hgrow5 HG5 q0 q1 q2
            go_wp2
            go_roundw
            case rel => exact ⟨j + 1, by omega, by go_num, Lib.hid ⟨HO5.out, HBE.out⟩⟩
            case measure => first | (simp [intOf]; done) | (simp [intOf]; omega)
    · obtain rfl : j = len := by omega
      have HE := Lib.hid (show keyVs (vs.take j) = keyVs vs by rw [List.take_of_length_le (by have := HL.out; omega)])
      go_wp2
      go_ret2
      refine ⟨_, rfl, ?_, HR.out.2⟩
      rw [← HE.out]
      exact HR.out.1
end Go.Proofs.Ythgpdnbmilcgcab
