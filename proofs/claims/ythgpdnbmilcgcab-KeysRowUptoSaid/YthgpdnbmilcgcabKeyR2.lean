/- Contracts of keys' endText, takeText, takeValue: every slice of bytes. -/
import Derived.Test.YthgpdnbmilcgcabKeyR
namespace Go.Proofs.Ythgpdnbmilcgcab
open Go.RowKit
set_option linter.unusedVariables false

/-- a text, if it isn't too long -/
def endR (t : List Int) (u : Nat) : Option (Val × Nat) := if t.length ≤ 100 then some ((2, 0, strOfNums t), u) else none

set_option maxHeartbeats 800000 in
theorem endText_any (a : Option Addr) (len cap : Nat) (t : List Int) (u : Nat) (w : World) (h : IsB w a len t) (ha : ∀ x, len ≠ 0 → a = some x → x.block < w.heap.size) (hn : a = none → len = 0 ∧ cap = 0) :
    Calls Try.prog 60 #[.slice a len cap, .int .i64 (u : Int)] w (TkPost w (endR t u)) := by
  have b1 := bel0 (.cells #[.int .i64 0, .int .i64 0, .string ⟨#[]⟩] 54) (Below.refl w.heap.size w)
  have hs := str_any (cb := cap) (h.below b1 ha) hn
  have hl := h.1
  have hsz : (strOfNums t).size = t.length := numBytes_size t
  by_cases h100 : t.length ≤ 100
  · have HR := Lib.hid (show endR t u = some ((2, 0, strOfNums t), u) by unfold endR; rw [if_pos h100])
    have hf : formedB 2 0 (strOfNums t) = true := formed_text (s := strOfNums t) (by omega)
    generalize strOfNums t = S at hs HR hf
    clear h ha hn hl hsz h100
    go_enter Try.func60, Try.ntmps60
    go_wp2_with (go_at_call 29; refine (formed_any _ _ _ _).mono ?_; rintro e w' ⟨rfl, rfl⟩)
    refine bodyPost_ret (v := .tuple #[.agg #[.int .i64 2, .int .i64 0, .string S], .int .i64 (u : Int)]) (by simp [results, Try.results60, go_sem]) rfl ⟨?_, .inl ⟨_, _, HR.out, rfl⟩⟩
    repeat (first | exact Below.refl _ _ | refine Below.drew ?_ | refine bel _ ?_)
  · have HR := Lib.hid (show endR t u = none by unfold endR; rw [if_neg h100])
    have hf : formedB 2 0 (strOfNums t) = false := by
      unfold formedB
      rw [decide_eq_false_iff_not, hsz]
      omega
    generalize strOfNums t = S at hs HR hf
    clear h ha hn hl hsz h100
    go_enter Try.func60, Try.ntmps60
    go_wp2_with (go_at_call 29; refine (formed_any _ _ _ _).mono ?_; rintro e w' ⟨rfl, rfl⟩)
    refine bodyPost_ret (v := .tuple #[.agg #[.int .i64 0, .int .i64 0, .string ⟨#[]⟩], .int .i64 0]) (by simp [results, Try.results60, go_sem]) rfl ⟨?_, .inr ⟨HR.out, rfl⟩⟩
    repeat (first | exact Below.refl _ _ | refine Below.drew ?_ | refine bel _ ?_)

/-- taken so far: acc, of k bytes -/
def glueT (acc : List Int) (k : Nat) (o : Option (List Int × Nat)) : Option (List Int × Nat) := o.map fun p => (acc ++ p.1, p.2 + k)
theorem gdrop {zs : List Int} {k : Nat} (h : k < zs.length) : zs.drop k = zs.getD k 0 :: zs.drop (k + 1) := by
  rw [List.drop_eq_getElem_cons h]; simp [h]
theorem glueT_on {zs acc : List Int} {i k : Nat} (h : i < zs.length) (hz : ¬ zs.getD i 0 = 0) : glueT acc k (takeT (zs.drop i)) = glueT (acc ++ [zs.getD i 0]) (k + 1) (takeT (zs.drop (i + 1))) := by
  rw [gdrop h]
  unfold glueT
  conv => lhs; unfold takeT
  rw [if_neg hz]
  cases takeT (zs.drop (i + 1)) with
  | none => rfl
  | some p => simp; omega
theorem glueT_end {zs acc : List Int} {i k : Nat} (h : i + 1 = zs.length) (hz : zs.getD i 0 = 0) : glueT acc k (takeT (zs.drop i)) = none := by
  rw [gdrop (by omega), List.drop_of_length_le (by omega)]
  unfold glueT takeT
  rw [if_pos hz]
  rfl
theorem glueT_two {zs : List Int} {i : Nat} (h : i + 1 < zs.length) (hz : zs.getD i 0 = 0) : takeT (zs.drop i) = if zs.getD (i + 1) 0 = 0 then some ([], 2) else if zs.getD (i + 1) 0 = 255 then (takeT (zs.drop (i + 2))).map fun p => (0 :: p.1, p.2 + 2) else none := by
  rw [gdrop (show i < zs.length by omega), gdrop h]
  conv => lhs; unfold takeT
  rw [if_pos hz]
theorem glueT_stop {zs acc : List Int} {i k : Nat} (h : i + 1 < zs.length) (hz : zs.getD i 0 = 0) (hy : zs.getD (i + 1) 0 = 0) : glueT acc k (takeT (zs.drop i)) = some (acc, k + 2) := by
  rw [glueT_two h hz, if_pos hy]; unfold glueT; simp; omega
theorem glueT_nought {zs acc : List Int} {i k : Nat} (h : i + 1 < zs.length) (hz : zs.getD i 0 = 0) (hy : ¬ zs.getD (i + 1) 0 = 0) (hy2 : zs.getD (i + 1) 0 = 255) : glueT acc k (takeT (zs.drop i)) = glueT (acc ++ [0]) (k + 2) (takeT (zs.drop (i + 2))) := by
  rw [glueT_two h hz, if_neg hy, if_pos hy2]; unfold glueT
  cases takeT (zs.drop (i + 2)) with
  | none => rfl
  | some p => simp; omega
theorem glueT_wrong {zs acc : List Int} {i k : Nat} (h : i + 1 < zs.length) (hz : zs.getD i 0 = 0) (hy : ¬ zs.getD (i + 1) 0 = 0) (hy2 : ¬ zs.getD (i + 1) 0 = 255) : glueT acc k (takeT (zs.drop i)) = none := by
  rw [glueT_two h hz, if_neg hy, if_neg hy2]; rfl
theorem glueT_nil {zs acc : List Int} {i k : Nat} (h : zs.length ≤ i) : glueT acc k (takeT (zs.drop i)) = none := by
  rw [List.drop_of_length_le h]; rfl
theorem takeC_text {l : List Int} : takeC 32 l = match takeT l with | none => none | some (t, u) => endR t (u + 1) := by
  unfold takeC endR
  rw [if_neg (by decide), if_neg (by decide), if_pos rfl]
  cases takeT l <;> rfl
theorem takeC_none {l : List Int} (h : takeT l = none) : takeC 32 l = none := by rw [takeC_text, h]
theorem takeC_some {l : List Int} {t : List Int} {u : Nat} (h : takeT l = some (t, u)) : takeC 32 l = endR t (u + 1) := by rw [takeC_text, h]

/-- what holds at the head of a round of takeText -/
def TTInv (W0 : World) (B : Nat) (zs : List Int) (i : Nat) (s : Value) (wr : World) : Prop :=
  ∃ acc : List Int, wr.ownsRow B 5 1 s acc.length (acc.map (Value.int .u8)) ∧ Below B W0 wr ∧ acc.length ≤ i ∧ (∀ z ∈ acc, 0 ≤ z ∧ z ≤ 255) ∧ takeT (zs.drop 1) = glueT acc (i - 1) (takeT (zs.drop i))

set_option maxHeartbeats 3000000 in
theorem takeText_any (a : Option Addr) (len cap : Nat) (zs : List Int) (w : World) (h : IsB w a len zs) (ha : ∀ x, len ≠ 0 → a = some x → x.block < w.heap.size) (h1 : 1 ≤ len) (hr : len ≤ 140737488351232) :
    Calls Try.prog 50 #[.slice a len cap] w (TkPost w (takeC 32 (zs.drop 1))) := by
  have hl := h.1
  have HL := Lib.hid hl
  have HM := Lib.hid h.mem
  obtain ⟨_, _, hcell, _⟩ := h
  rcases hcell with hcell | ⟨b, off, rfl, hcell⟩
  · omega
  have hblk := ha _ (by omega) rfl
  dsimp only at hblk
  have HC := Lib.hid hcell
  have b1 := bel0 (.cells #[.int .i64 0, .int .i64 0, .string ⟨#[]⟩] 54) (Below.refl w.heap.size w)
  have HB1 := Lib.hid b1
  clear hl hcell ha b1
  go_enter Try.func50, Try.ntmps50
  go_wp2
  obtain ⟨W0, hW0⟩ : ∃ W0, W0 = w.alloc (.cells #[.int .i64 0, .int .i64 0, .string ⟨#[]⟩] 54) := ⟨_, rfl⟩
  have hsz : W0.heap.size = w.heap.size + 1 := by rw [hW0]; simp
  have q0 : W0.cell? ⟨w.heap.size, 0, none⟩ = some (.int .i64 0) := by rw [hW0]; simp
  have q1 : W0.cell? ⟨w.heap.size, 1, none⟩ = some (.int .i64 0) := by rw [hW0]; simp
  have q2 : W0.cell? ⟨w.heap.size, 2, none⟩ = some (.string ⟨#[]⟩) := by rw [hW0]; simp
  have qf : ∀ j, W0.frozen? ⟨w.heap.size, j, none⟩ = false := fun j => by rw [hW0]; simp
  rw [← hW0] at HB1 ⊢
  have HW := Lib.hid (show ∀ W, Below (w.heap.size + 1) W0 W → (W.cell? ⟨w.heap.size, 0, none⟩ = some (.int .i64 0) ∧ W.cell? ⟨w.heap.size, 1, none⟩ = some (.int .i64 0) ∧ W.cell? ⟨w.heap.size, 2, none⟩ = some (.string ⟨#[]⟩) ∧ (∀ j, W.frozen? ⟨w.heap.size, j, none⟩ = false)) ∧ (∀ i, i < len → W.cell? ⟨b, off + i, none⟩ = some (.int .u8 (zs.getD i 0))) ∧ Below w.heap.size w W ∧ w.heap.size + 1 ≤ W.heap.size from fun W hW => by
    refine ⟨⟨(hW.cell (p := ⟨w.heap.size, 0, none⟩) (by simp)).trans q0, (hW.cell (p := ⟨w.heap.size, 1, none⟩) (by simp)).trans q1, (hW.cell (p := ⟨w.heap.size, 2, none⟩) (by simp)).trans q2, fun j => (hW.frozen (p := ⟨w.heap.size, j, none⟩) (by simp)).trans (qf j)⟩, fun i hi => ?_, HB1.out.trans (hW.mono (by omega)), by have := hW.size; omega⟩
    rw [hW.cell (p := ⟨b, off + i, none⟩) (by simp; omega), HB1.out.cell (p := ⟨b, off + i, none⟩) hblk]
    exact HC.out i hi)
  have hp1 : (1 : Int) ≤ (len : Int) := by omega
  clear q0 q1 q2 qf hW0 hsz
  go_loopw [4, 5] (fun s i wr => ∃ k : Nat, Hid (1 ≤ k ∧ k ≤ len) ∧ i = .int .i64 (k : Int) ∧ Hid (TTInv W0 (w.heap.size + 1) zs k s wr)) (fun _ i _ => len - (intOf i).toNat)
  case atStart => 
    refine ⟨1, Lib.hid ⟨by omega, h1⟩, rfl, Lib.hid ⟨[], World.ownsRow_nil _ _ _ _, Below.refl _ _, by simp, by simp, ?_⟩⟩
    unfold glueT
    cases takeT (zs.drop 1) <;> simp
  case round =>
    obtain ⟨k, HK, rfl, HI⟩ := hrel
    obtain ⟨s, rfl⟩ : ∃ s, s = u4 := ⟨_, rfl⟩
    obtain ⟨acc, hown, hbel, hlen, hran, hT⟩ := HI.out
    obtain ⟨⟨q0, q1, q2, qf⟩, hcell, hbw, hsize⟩ := HW.out _ hbel
    have HO := Lib.hid hown
    have HBel := Lib.hid hbel
    have HLen := Lib.hid hlen
    have HRan := Lib.hid hran
    have HT := Lib.hid hT
    have HCell := Lib.hid hcell
    have HBw := Lib.hid hbw
    have f0 := qf 0
    have f1 := qf 1
    have f2 := qf 2
    clear HI hown hbel hlen hran hT hcell hbw qf
    by_cases hlt : k < len
    · have hc0 := HCell.out k hlt
      have hz := HM.out (zs.getD k 0) (by rw [List.getD_eq_getElem?_getD, List.getElem?_eq_getElem (by rw [HL.out]; omega)]; exact List.getElem_mem _)
      have HZ := Lib.hid hz
      have hki : (k : Int) < (len : Int) := by omega
      have hk0 : (0 : Int) ≤ (k : Int) := by omega
      clear hz
      by_cases hz0 : zs.getD k 0 = 0
      · have hzb : (zs.getD k 0 != 0) = false := by rw [bne_eq_false_iff_eq]; exact hz0
        by_cases hend : k + 1 = len
        · have HR := Lib.hid (takeC_none (HT.out.trans (glueT_end (by rw [HL.out]; exact hend) hz0)))
          have heb : (((k : Int) + 1) == (len : Int)) = true := by rw [beq_iff_eq]; omega
          clear hz0 hend
          generalize zs.getD k 0 = z at *
          go_wp2
          refine bodyPost_ret (v := .tuple #[.agg #[.int .i64 0, .int .i64 0, .string ⟨#[]⟩], .int .i64 0]) (by simp [results, Try.results50, go_sem, q0, q1, q2]) rfl ⟨?_, .inr ⟨HR.out, rfl⟩⟩
          exact ((HBw.out.setCell (Nat.le_refl _) _).setCell (Nat.le_refl _) _).setCell (Nat.le_refl _) _
        have heb : (((k : Int) + 1) == (len : Int)) = false := by rw [beq_eq_false_iff_ne]; omega
        have hk1 : k + 1 < len := by omega
        have hc1 := HCell.out (k + 1) hk1
        have hy := HM.out (zs.getD (k + 1) 0) (by rw [List.getD_eq_getElem?_getD, List.getElem?_eq_getElem (by rw [HL.out]; omega)]; exact List.getElem_mem _)
        have hk1i : (k : Int) + 1 < (len : Int) := by omega
        by_cases hy0 : zs.getD (k + 1) 0 = 0
        · have HG := Lib.hid (HT.out.trans (glueT_stop (acc := acc) (k := k - 1) (by rw [HL.out]; exact hk1) hz0 hy0))
          have HR := Lib.hid (show takeC 32 (zs.drop 1) = endR acc (k + 2) by rw [takeC_some HG.out]; congr 1; have := HK.out; omega)
          rw [hy0] at hc1
          clear hz0 hend hy0 hy
          generalize zs.getD k 0 = z at *
          obtain ⟨sa, sl, sc, rfl, hsl, si, slo, sn, _, _⟩ := own_any HO.out HRan.out
          have SI := Lib.hid si
          have SLO := Lib.hid slo
          have SN := Lib.hid sn
          clear hsl si slo sn
          have eu : ((k + 2 : Nat) : Int) = (k : Int) + 1 + 1 := by omega
          have EU := Lib.hid eu
          clear eu
          go_wp2_with fail
          rw [← EU.out]
          refine (endText_any sa sl sc acc (k + 2) _ SI.out SLO.out SN.out).mono ?_
          rintro e w4 ⟨hb4, hh⟩
          have hlt4 : w.heap.size < wr.heap.size := by omega
          have r0 : w4.cell? ⟨w.heap.size, 0, none⟩ = some (.int .i64 0) := (hb4.cell (p := ⟨w.heap.size, 0, none⟩) hlt4).trans q0
          have r1 : w4.cell? ⟨w.heap.size, 1, none⟩ = some (.int .i64 0) := (hb4.cell (p := ⟨w.heap.size, 1, none⟩) hlt4).trans q1
          have r2 : w4.cell? ⟨w.heap.size, 2, none⟩ = some (.string ⟨#[]⟩) := (hb4.cell (p := ⟨w.heap.size, 2, none⟩) hlt4).trans q2
          have g0 : w4.frozen? ⟨w.heap.size, 0, none⟩ = false := (hb4.frozen (p := ⟨w.heap.size, 0, none⟩) hlt4).trans f0
          have g1 : w4.frozen? ⟨w.heap.size, 1, none⟩ = false := (hb4.frozen (p := ⟨w.heap.size, 1, none⟩) hlt4).trans f1
          have g2 : w4.frozen? ⟨w.heap.size, 2, none⟩ = false := (hb4.frozen (p := ⟨w.heap.size, 2, none⟩) hlt4).trans f2
          have HB4 := Lib.hid (bt HBw.out hb4)
          clear hb4 hlt4 q0 q1 q2 f0 f1 f2
          rcases hh with ⟨v, u, hr4, rfl⟩ | ⟨hr4, rfl⟩
          · have HR4 := Lib.hid hr4
            clear hr4
            go_wp2
            refine bodyPost_ret (v := .tuple #[.agg #[.int .i64 v.1, .int .i64 v.2.1, .string v.2.2], .int .i64 (u : Int)]) (by simp [results, Try.results50, go_sem, r0, r1, r2]) rfl ⟨?_, .inl ⟨_, _, HR.out.trans HR4.out, rfl⟩⟩
            exact ((HB4.out.setCell (Nat.le_refl _) _).setCell (Nat.le_refl _) _).setCell (Nat.le_refl _) _
          · have HR4 := Lib.hid hr4
            clear hr4
            go_wp2
            refine bodyPost_ret (v := .tuple #[.agg #[.int .i64 0, .int .i64 0, .string ⟨#[]⟩], .int .i64 0]) (by simp [results, Try.results50, go_sem, r0, r1, r2]) rfl ⟨?_, .inr ⟨HR.out.trans HR4.out, rfl⟩⟩
            exact ((HB4.out.setCell (Nat.le_refl _) _).setCell (Nat.le_refl _) _).setCell (Nat.le_refl _) _
        have hyb : (zs.getD (k + 1) 0 == 0) = false := by rw [beq_eq_false_iff_ne]; exact hy0
        by_cases hy2 : zs.getD (k + 1) 0 = 255
        · have HG := Lib.hid (show takeT (zs.drop 1) = glueT (acc ++ [0]) (k + 2 - 1) (takeT (zs.drop (k + 2))) by
            rw [HT.out, glueT_nought (by rw [HL.out]; exact hk1) hz0 hy0 hy2]; congr 1; have := HK.out; omega)
          have hyc : (zs.getD (k + 1) 0 == 255) = true := by rw [beq_iff_eq]; exact hy2
          clear hz0 hend hy0 hy hy2
          generalize zs.getD (k + 1) 0 = y at *
          generalize zs.getD k 0 = z at *
          go_wp2_with (at_builtin; refine wpList_byte rfl (.tmp 45) (.tmp 46) rfl (w.heap.size + 1) s acc wr.heap.size 0 rfl rfl (HO.out.alloc _) ?a1 ?a2 ?a3 ?_)
          case a1 => simp [go_sem]
          case a2 => have := HLen.out; omega
          case a3 => simp; omega
          intro g1 c1 w3 hown3 hgrow3 _ _
          have hown3' : w3.ownsRow (w.heap.size + 1) 5 1 (.slice (some ⟨g1, 0, none⟩) (acc.length + 1) c1) (acc ++ [0]).length ((acc ++ [0]).map (Value.int .u8)) := by simpa using hown3
          have HO3 := Lib.hid hown3'
          have HB3 := Lib.hid ((HBel.out.alloc hsize (.cells #[.int .u8 0] 5)).grown hgrow3 (by simp; omega) (fun k hk => (HO.out.lt k hk).1))
          clear hown3 hown3' hgrow3 q0 q1 q2 f0 f1 f2
          go_wp2
          go_roundw
          case rel => exact ⟨k + 2, Lib.hid (by omega), by go_num, Lib.hid ⟨acc ++ [0], HO3.out, HB3.out, by have := HLen.out; simp; omega, fun y hy => by rcases List.mem_append.1 hy with h | h; exact HRan.out y h; simp at h; omega, HG.out⟩⟩
          case measure => simp [intOf]; omega
        · have HR := Lib.hid (takeC_none (HT.out.trans (glueT_wrong (acc := acc) (k := k - 1) (by rw [HL.out]; exact hk1) hz0 hy0 hy2)))
          have hyc : (zs.getD (k + 1) 0 == 255) = false := by rw [beq_eq_false_iff_ne]; exact hy2
          clear hz0 hend hy0 hy hy2
          generalize zs.getD (k + 1) 0 = y at *
          generalize zs.getD k 0 = z at *
          go_wp2
          refine bodyPost_ret (v := .tuple #[.agg #[.int .i64 0, .int .i64 0, .string ⟨#[]⟩], .int .i64 0]) (by simp [results, Try.results50, go_sem, q0, q1, q2]) rfl ⟨?_, .inr ⟨HR.out, rfl⟩⟩
          exact ((HBw.out.setCell (Nat.le_refl _) _).setCell (Nat.le_refl _) _).setCell (Nat.le_refl _) _
      · have hzb : (zs.getD k 0 != 0) = true := by rw [bne_iff_ne]; exact hz0
        have HG := Lib.hid (show takeT (zs.drop 1) = glueT (acc ++ [zs.getD k 0]) (k + 1 - 1) (takeT (zs.drop (k + 1))) by rw [HT.out, glueT_on (by rw [HL.out]; exact hlt) hz0]; congr 1; have := HK.out; omega)
        generalize zs.getD k 0 = z at *
        clear hz0
        go_wp2_with (at_builtin; refine wpList_byte rfl (.tmp 17) (.tmp 22) rfl (w.heap.size + 1) s acc wr.heap.size z rfl rfl (HO.out.alloc _) ?a1 ?a2 ?a3 ?_)
        case a1 => simp [go_sem]
        case a2 => have := HLen.out; omega
        case a3 => simp; omega
        intro g1 c1 w3 hown3 hgrow3 _ _
        have hown3' : w3.ownsRow (w.heap.size + 1) 5 1 (.slice (some ⟨g1, 0, none⟩) (acc.length + 1) c1) (acc ++ [z]).length ((acc ++ [z]).map (Value.int .u8)) := by simpa using hown3
        have HO3 := Lib.hid hown3'
        have HB3 := Lib.hid ((HBel.out.alloc hsize (.cells #[.int .u8 z] 5)).grown hgrow3 (by simp; omega) (fun k hk => (HO.out.lt k hk).1))
        clear hown3 hown3' hgrow3 q0 q1 q2 f0 f1 f2
        go_wp2
        go_roundw
        case rel => exact ⟨k + 1, Lib.hid (by omega), by go_num, Lib.hid ⟨acc ++ [z], HO3.out, HB3.out, by have := HLen.out; simp; omega, fun y hy => by rcases List.mem_append.1 hy with h | h; exact HRan.out y h; simp at h; subst h; exact HZ.out, HG.out⟩⟩
        case measure => simp [intOf]; omega
    · have HR := Lib.hid (takeC_none (HT.out.trans (glueT_nil (by rw [HL.out]; omega))))
      have hki : (len : Int) ≤ (k : Int) := by omega
      go_wp2
      refine bodyPost_ret (v := .tuple #[.agg #[.int .i64 0, .int .i64 0, .string ⟨#[]⟩], .int .i64 0]) (by simp [results, Try.results50, go_sem, q0, q1, q2]) rfl ⟨?_, .inr ⟨HR.out, rfl⟩⟩
      exact ((HBw.out.setCell (Nat.le_refl _) _).setCell (Nat.le_refl _) _).setCell (Nat.le_refl _) _
end Go.Proofs.Ythgpdnbmilcgcab
