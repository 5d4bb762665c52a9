/- JournalBack: the law's walk. -/
import Derived.Test.YtbcjhngpcodaoaaJBkT
import Derived.Deep.DeepCutAuto
import Derived.Deep.RegionHeld3
namespace Go.Proofs.Ytbcjhngpcodaoaa
open Go.RowKit
set_option linter.unusedVariables false
set_option maxRecDepth 100000

/-- a row of bytes of the call's own, so far -/
def JInv (w : World) (v : Value) (zs : List Int) (wr : World) : Prop :=
  wr.ownsRow w.heap.size 5 1 v zs.length (zs.map (Value.int .u8)) ∧ (∀ z ∈ zs, 0 ≤ z ∧ z ≤ 255) ∧ Below w.heap.size w wr
theorem JInv.later {w wr w' : World} {v : Value} {zs : List Int} (h : JInv w v zs wr) (hb : Below wr.heap.size wr w') : JInv w v zs w' := ⟨own_below h.1 hb, h.2.1, bt h.2.2 hb⟩
theorem JInv.app {w wr w' : World} {v v' : Value} {zs ys : List Int} (h : JInv w v zs wr) (hown : w'.ownsRow w.heap.size 5 1 v' (zs ++ ys).length ((zs ++ ys).map (Value.int .u8))) (hgr : wr.grownBy w' v.ownBlock) (hy : ∀ z ∈ ys, 0 ≤ z ∧ z ≤ 255) : JInv w v' (zs ++ ys) w' :=
  ⟨hown, fun z hz => (List.mem_append.1 hz).elim (h.2.1 z) (hy z), h.2.2.grown hgr h.2.2.size (fun k hk => (h.1.lt k hk).1)⟩
set_option maxHeartbeats 6400000 in
theorem journalBack_walk (salt p told oth : Int) (sc : Bool) (la : Option Addr) (ln lc : Nat) (f : Nat → Int × Int × Int × Int) (ra : Option Addr) (rl rc : Nat) (zr : List Int) (w : World)
    (hs : 0 ≤ salt ∧ salt ≤ 18446744073709551615) (hp : 0 ≤ p ∧ p ≤ 255) (ht : 0 ≤ told ∧ told ≤ 255) (ho : 0 ≤ oth ∧ oth ≤ 255) (hL : IsParts w la ln f) (hR : BArg w ra rl rc zr) :
    Calls Try.prog 4 #[.int .u64 salt, .int .u8 p, .slice la ln lc, .int .u8 told, .int .u8 oth, .bool sc, .slice ra rl rc] w fun e w' => e = .returned (.bool true) ∧ Below w.heap.size w w' := by
  have hm := hR.1.2.1
  have hln := hL.1
  have HL := Lib.hid hL
  have HRw := Lib.hid hR
  have HS := Lib.hid hs
  have HP := Lib.hid hp
  have HT := Lib.hid ht
  have HO := Lib.hid ho
  have cv : IntKind.i64.wrap p = p := by rw [IntKind.wrap_i64]; omega
  have cvt : IntKind.i64.wrap told = told := by rw [IntKind.wrap_i64]; omega
  have cvo : IntKind.i64.wrap oth = oth := by rw [IntKind.wrap_i64]; omega
  clear hL hR hs hp
  go_enter Try.func4, Try.ntmps4
  go_wp2_with fail
  refine (jawake_any _).mono ?_
  rintro e w1 ⟨rfl, hb1⟩
  have HB1 := Lib.hid hb1
  clear hb1
  by_cases hl : (1000 : Int) < (rl : Int)
  · go_wp2_with fail
    refine (jawake_any _).mono ?_
    rintro e w2 ⟨rfl, hb2⟩
    have HB2 := Lib.hid (bt HB1.out hb2)
    clear hb2
    go_wp2
    go_ret
    exact ⟨rfl, HB2.out⟩
  · have HRl := Lib.hid (show rl ≤ 1000 by omega)
    have hl' : (rl : Int) ≤ 1000 := by omega
    obtain ⟨N, hN, hNl, hN12⟩ : ∃ N : Nat, (if (12 : Int) < (ln : Int) then (12 : Int) else (ln : Int)) = (N : Int) ∧ N ≤ ln ∧ N ≤ 12 := by
      by_cases h : (12 : Int) < (ln : Int)
      · exact ⟨12, by rw [if_pos h]; rfl, by omega, by omega⟩
      · exact ⟨ln, by rw [if_neg h], by omega, by omega⟩
    obtain ⟨M, hM, hMN⟩ : ∃ M : Nat, told % ((N : Int) + 1) = (M : Int) ∧ M ≤ N := ⟨(told % ((N : Int) + 1)).toNat, by have := Int.emod_nonneg told (show (N : Int) + 1 ≠ 0 by omega); omega, by have := Int.emod_lt_of_pos told (show (0 : Int) < (N : Int) + 1 by omega); omega⟩
    obtain ⟨Ls, hLs⟩ : ∃ Ls : Nat, (0 < M ∧ oth % (M : Int) = (Ls : Int) ∧ Ls < M) ∨ (M = 0 ∧ Ls = 0) := by
      by_cases h : M = 0
      · exact ⟨0, .inr ⟨h, rfl⟩⟩
      · exact ⟨(oth % (M : Int)).toNat, .inl ⟨by omega, by have := Int.emod_nonneg oth (show (M : Int) ≠ 0 by omega); omega, by have := Int.emod_lt_of_pos oth (show (0 : Int) < (M : Int) by omega); omega⟩⟩
    have HNM := Lib.hid (show N ≤ ln ∧ N ≤ 12 ∧ M ≤ N from ⟨hNl, hN12, hMN⟩)
    have HLs := Lib.hid hLs
    have hN0 : (0 : Int) ≤ (N : Int) := by omega
    have hN1 : (N : Int) ≤ 12 := by omega
    have ht0 := HT.out.1
    have ho0 := HO.out.1
    clear hl hNl hN12 hMN hLs
    go_upto_if 46 with (fail)
    rw [hM]
    clear hM hN
    go_cut [17] (fun l wx => l = .int .i64 (Ls : Int) ∧ wx = w1)
    case first =>
      rcases HLs.out with ⟨h1, h2, h3⟩ | ⟨h1, h2⟩
      · have hM0 : (0 : Int) < (M : Int) := by omega
        have HQ := Lib.hid h2
        clear h1 h2 h3
        go_wp2_with fail
        go_meet
        exact ⟨by rw [HQ.out], rfl⟩
      · have hM0 : ¬ (0 : Int) < (M : Int) := by omega
        have HQ := Lib.hid h2
        clear h1 h2
        go_wp2_with fail
        go_meet
        exact ⟨by rw [HQ.out]; rfl, rfl⟩
    case rest =>
      obtain ⟨rfl, hw⟩ := hcut
      subst hw
      have hM12 : (M : Int) ≤ 12 := by have := HNM.out; omega
      have hM0 : (0 : Int) ≤ (M : Int) := by omega
      have hL12 : (Ls : Int) ≤ 12 := by have := HNM.out; have := HLs.out; omega
      have hL0 : (0 : Int) ≤ (Ls : Int) := by omega
      clear ht0 ho0 cvt cvo
      go_wp2_with fail
      refine (head_good salt p (M : Int) _ HS.out.1 HS.out.2 ⟨HP.out.1, by have := HP.out.2; omega⟩ ⟨hM0, by omega⟩).mono ?_
      rintro e w2 ⟨v2, rfl, hown2, hb2⟩
      rw [headK_length] at hown2
      obtain ⟨g2, c2, rfl⟩ := own_addr hown2 (by omega)
      have HI2 := Lib.hid (own_isB hown2 (headK_length _ _ _) (headK_range _ _ _))
      have HG2 := Lib.hid (own_low hown2)
      have HB2 := Lib.hid hb2
      clear hown2 hb2
      go_wp2_with fail
      refine (head_good salt p (Ls : Int) _ HS.out.1 HS.out.2 ⟨HP.out.1, by have := HP.out.2; omega⟩ ⟨hL0, by omega⟩).mono ?_
      rintro e w3 ⟨v3, rfl, hown3, hb3⟩
      rw [headK_length] at hown3
      obtain ⟨g3, c3, rfl⟩ := own_addr hown3 (by omega)
      have HI3 := Lib.hid (own_isB hown3 (headK_length _ _ _) (headK_range _ _ _))
      have HG3 := Lib.hid (own_low hown3)
      have HI23 := Lib.hid (HI2.out.below hb3 (fun x _ hx => by cases hx; exact HG2.out))
      have HG23 := Lib.hid (Nat.lt_of_lt_of_le HG2.out hb3.size)
      have HB3 := Lib.hid (bt HB2.out hb3)
      clear hown3 hb3
      have HK := Lib.hid (show ∀ k : Nat, (headK salt p k).length = 64 ∧ ∀ z ∈ headK salt p k, 0 ≤ z ∧ z ≤ 255 from fun k => ⟨headK_length _ _ _, headK_range _ _ _⟩)
      obtain ⟨x1, hx1⟩ : ∃ x1, x1 = headK salt p (M : Int) := ⟨_, rfl⟩
      obtain ⟨x2, hx2⟩ : ∃ x2, x2 = headK salt p (Ls : Int) := ⟨_, rfl⟩
      rw [← hx1] at HI23
      rw [← hx2] at HI3
      have HE1 := Lib.hid hx1
      have HE2 := Lib.hid hx2
      clear hx1 hx2 HI2
      go_wp2_with (at_builtin; refine wpList_slice rfl (.tmp 83) (.tmp 84) rfl w3.heap.size (.slice (some ⟨w3.heap.size, 0, none⟩) 0 0) [] (some ⟨g2, 0, none⟩) 64 c2 x1 rfl rfl (own_empty (by exact Go.heap_alloc_new w3 _) (Nat.le_refl _)) (HI23.out.below (bel0 _ (Below.refl _ _)) (fun x _ hx => by cases hx; exact HG23.out)) (by intro h; cases h) (by simp) (by simp) ?_)
      intro v4 w4 hown4 hgr4
      have HI34 := Lib.hid (isB_kept (HI3.out.below (bel0 (.cells #[] 5) (Below.refl _ _)) (fun x _ hx => by cases hx; exact HG3.out)) hgr4 (by have := HG3.out; simp; omega) (fun e => by cases e; exact absurd HG3.out (Nat.lt_irrefl _)))
      have HO4 := Lib.hid hown4
      have HB4 := Lib.hid (show Below w3.heap.size w3 w4 from (bel0 (.cells #[] 5) (Below.refl _ _)).grown hgr4 (by simp) (fun k hk => by cases hk; exact Nat.le_refl _))
      clear hown4 hgr4
      have HL1 := Lib.hid (show x1.length = 64 by rw [HE1.out]; exact (HK.out M).1)
      go_wp2_with (at_builtin; refine wpList_slice rfl (.tmp 85) (.tmp 86) rfl w3.heap.size v4 x1 (some ⟨g3, 0, none⟩) 64 c3 x2 rfl rfl HO4.out HI34.out (by intro h; cases h) (by have := HL1.out; omega) HB4.out.size ?_)
      intro v5 w5 hown5 hgr5
      have HO5 := Lib.hid hown5
      have HB5 := Lib.hid (HB4.out.grown hgr5 HB4.out.size (fun k hk => (HO4.out.lt k hk).1))
      clear hown5 hgr5
      have HY := Lib.hid (show (∀ z ∈ x1, 0 ≤ z ∧ z ≤ 255) ∧ (∀ z ∈ x2, 0 ≤ z ∧ z ≤ 255) ∧ x2.length = 64 from ⟨by rw [HE1.out]; exact (HK.out M).2, by rw [HE2.out]; exact (HK.out Ls).2, by rw [HE2.out]; exact (HK.out Ls).1⟩)
      have HJ5 := Lib.hid (show JInv w3 v5 (x1 ++ x2) w5 from ⟨by simpa using HO5.out, fun z hz => (List.mem_append.1 hz).elim (HY.out.1 z) (HY.out.2.1 z), HB5.out⟩)
      have HI25 := Lib.hid (HI23.out.below HB5.out (fun x _ hx => by cases hx; exact HG23.out))
      have HI35 := Lib.hid (HI3.out.below HB5.out (fun x _ hx => by cases hx; exact HG3.out))
      have HS5 := Lib.hid HB5.out.size
      clear HO4 HO5 HI34 HI23 HI3
      go_upto_if 88 with (fail)
      go_cut [22] (fun v wx => JInv w3 v (yz sc x1 x2) wx)
      case first =>
        cases sc with
        | false =>
          go_wp2_with fail
          go_meet
          exact HJ5.out
        | true =>
          have HG25 := Lib.hid (Nat.lt_of_lt_of_le HG23.out HS5.out)
          have HG35 := Lib.hid (Nat.lt_of_lt_of_le HG3.out HS5.out)
          go_wp2_with (at_builtin; refine wpList_slice rfl (.tmp 89) (.tmp 90) rfl w3.heap.size (.slice (some ⟨w5.heap.size, 0, none⟩) 0 0) [] (some ⟨g3, 0, none⟩) 64 c3 x2 rfl rfl (own_empty (by exact Go.heap_alloc_new w5 _) HS5.out) (HI35.out.below (bel0 _ (Below.refl _ _)) (fun x _ hx => by cases hx; exact HG35.out)) (by intro h; cases h) (by simp) (by have := HS5.out; simp; omega) ?_)
          intro v6 w6 hown6 hgr6
          have HI26 := Lib.hid (isB_kept (HI25.out.below (bel0 (.cells #[] 5) (Below.refl _ _)) (fun x _ hx => by cases hx; exact HG25.out)) hgr6 (by have := HG25.out; simp; omega) (fun e => by cases e; exact absurd HG25.out (Nat.lt_irrefl _)))
          have HO6 := Lib.hid hown6
          have HB6 := Lib.hid (show Below w3.heap.size w3 w6 from (bt HB5.out (bel0 (.cells #[] 5) (Below.refl _ _))).grown hgr6 (by have := HS5.out; simp; omega) (fun k hk => by cases hk; exact HS5.out))
          clear hown6 hgr6
          have HL2 := Lib.hid HY.out.2.2
          go_wp2_with (at_builtin; refine wpList_slice rfl (.tmp 91) (.tmp 92) rfl w3.heap.size v6 x2 (some ⟨g2, 0, none⟩) 64 c2 x1 rfl rfl HO6.out HI26.out (by intro h; cases h) (by have := HL2.out; omega) HB6.out.size ?_)
          intro v7 w7 hown7 hgr7
          have HJ7 := Lib.hid (show JInv w3 v7 (x2 ++ x1) w7 from ⟨by simpa using hown7, fun z hz => (List.mem_append.1 hz).elim (HY.out.2.1 z) (HY.out.1 z), HB6.out.grown hgr7 HB6.out.size (fun k hk => (HO6.out.lt k hk).1)⟩)
          clear hown7 hgr7
          go_wp2_with fail
          go_meet
          exact HJ7.out
      case rest =>
        have HJ := Lib.hid hcut
        clear hcut
        have HZ0 := Lib.hid (show yz sc x1 x2 ++ recsB salt (psK f 0) = yz sc x1 x2 from List.append_nil _)
        have HYl := Lib.hid (show (yz sc x1 x2).length = 128 by unfold yz; have := HL1.out; have := HY.out.2.2; split <;> (rw [List.length_append]; omega))
        go_wp2
        go_loopw [22, 95] (fun v i wr => ∃ k : Nat, k ≤ N ∧ i = .int .i64 (k : Int) ∧ Hid (JInv w3 v (yz sc x1 x2 ++ recsB salt (psK f k)) wr)) (fun _ i _ => N - (intOf i).toNat)
        case atStart => exact ⟨0, by omega, rfl, Lib.hid (by rw [HZ0.out]; exact HJ.out)⟩
        case round =>
          obtain ⟨k, hk, rfl, HR⟩ := hrel
          obtain ⟨v, rfl⟩ : ∃ v, v = u22 := ⟨_, rfl⟩
          clear HJ HZ0
          have hk0 : (0 : Int) ≤ (k : Int) := by omega
          by_cases hlt : k < N
          · have hki : (k : Int) < (N : Int) := by omega
            have hkn : (k : Int) < (ln : Int) := by have := HNM.out; omega
            rcases HL.out.2 with h0 | ⟨b, off, rfl, hb, hcs⟩
            · have := HNM.out; omega
            obtain ⟨p0, p1, p2, p3, i0, i1, i2, i3⟩ := hcs k (by have := HNM.out; omega)
            have HKk := Lib.hid (show k < N ∧ N ≤ 12 from ⟨hlt, HNM.out.2.1⟩)
            have hbw := bt HB1.out (bt HB3.out HR.out.2.2)
            have HPa := Lib.hid (show ∀ W, Below w.heap.size w W → W.cell? ⟨b, off + k * 4 + 1, none⟩ = some (.int .i64 (f k).2.1) ∧ W.cell? ⟨b, off + k * 4 + 3, none⟩ = some (.int .u8 (f k).2.2.2) from fun W hW =>
              ⟨(hW.cell (p := ⟨b, off + k * 4 + 1, none⟩) hb).trans p1, (hW.cell (p := ⟨b, off + k * 4 + 3, none⟩) hb).trans p3⟩)
            have HBw := Lib.hid hbw
            have Hi3 := Lib.hid i3
            have HRs := Lib.hid (recsB_succ salt f k)
            unfold partN at HRs
            clear p0 p1 p2 p3 i0 i1 i2 i3 hcs hb hk hlt hbw
            generalize (f k).2.1 = pn at *
            generalize (f k).2.2.2 = pb at *
            obtain ⟨q1, q3⟩ := HPa.out wr HBw.out
            go_upto_region 17 with (fail)
            refine wp_region_noPanic ?_
            go_region_held3 (fun W => W.cell? ⟨b, off + k * 4 + 1, none⟩ = some (.int .i64 pn) ∧ W.cell? ⟨b, off + k * 4 + 3, none⟩ = some (.int .u8 pb))
              (first | exact ⟨q1, q3⟩ | exact hS8 | exact hS7)
              (first
                | (go_at_call 18; refine (page_is pb Hi3.out _).mono ?_; rintro e w7 ⟨g7, rfl, hP7⟩; have hb7 : Below wr.heap.size wr w7 := ⟨hP7.2.2.2.os, hP7.2.2.2.tape, hP7.2.2.2.output, hP7.2.2.2.size, hP7.2.2.2.block⟩; have HB7 := Lib.hid hb7; have HI7 := Lib.hid (own_isB hP7.1 hP7.2.1 hP7.2.2.1); have HG7 := Lib.hid (own_low hP7.1); have hS7 := HPa.out w7 (bt HBw.out hb7); clear hb7 hP7)
                | (go_at_call 17; refine (record_good salt _ (some ⟨g7, 0, none⟩) 512 (pageB pb) _ HS.out.1 HS.out.2 (num100 _) (by exact HI7.out) (by intro x _ hx; cases hx; exact HG7.out) (by intro h; cases h)).mono ?_; rintro e w8 ⟨v8, rfl, hown8, hb8⟩; have hb9 : Below w7.heap.size w7 w8 := ⟨hb8.os, hb8.tape, hb8.output, hb8.size, hb8.block⟩; rw [recK_length _ _ (pageB_len _)] at hown8; obtain ⟨g8, c8, rfl⟩ := own_addr hown8 (by omega); have HI8 := Lib.hid (own_isB hown8 (recK_length _ _ (pageB_len _)) (recK_range _ _ HI7.out.mem)); have HB8 := Lib.hid hb9; have hS8 := HPa.out w8 (bt HBw.out (bt HB7.out hb9)); clear hb8 hb9 hown8))
            refine NoPanic.normal ?_
            have HR8 := Lib.hid (HR.out.later (bt HB7.out HB8.out))
            have HLz := Lib.hid (show (yz sc x1 x2 ++ recsB salt (psK f k)).length ≤ 7040 by rw [List.length_append, HYl.out, recsB_len, psK_len]; have := HKk.out; omega)
            have HRr := Lib.hid (recK_range salt (IntKind.i64.wrap ((IntKind.u16.wrap pn).tmod 100)) HI7.out.mem)
            clear q1 q3 hS7 hS8
            go_wp2_with (at_builtin; refine wpList_slice rfl (.tmp 124) (.tmp 125) rfl w3.heap.size v (yz sc x1 x2 ++ recsB salt (psK f k)) (some ⟨g8, 0, none⟩) 576 c8 _ rfl rfl HR8.out.1 HI8.out (by intro h; cases h) (by have := HLz.out; omega) HR8.out.2.2.size ?_)
            intro v9 w9 hown9 hgr9
            have HR9 := Lib.hid (HR8.out.app (v' := v9) (by simpa using hown9) hgr9 HRr.out)
            clear hown9 hgr9
            go_wp2
            go_roundw
            case rel => exact ⟨k + 1, HKk.out.1, by go_num, Lib.hid (by rw [HRs.out, ← List.append_assoc]; exact HR9.out)⟩
            case measure => have := HKk.out; simp [intOf]; omega
          · obtain rfl : k = N := by omega
            have hJ := HR.out
            have HZe := Lib.hid (show ∃ Z, Z = yz sc x1 x2 ++ recsB salt (psK f k) from ⟨_, rfl⟩)
            obtain ⟨Z, hZ⟩ := HZe.out
            rw [← hZ] at hJ
            have HZl := Lib.hid (show 128 ≤ Z.length ∧ Z.length ≤ 7040 by rw [hZ, List.length_append, HYl.out, recsB_len, psK_len]; have := HNM.out; omega)
            obtain ⟨g, c, rfl⟩ := own_addr hJ.1 (by have := HZl.out; omega)
            have HJz := Lib.hid hJ
            have HZ := Lib.hid hZ
            have hbr := bt HB1.out (bt HB3.out hJ.2.2)
            have HBr := Lib.hid hbr
            have HRr := Lib.hid (show BArg wr ra rl rc zr from ⟨HRw.out.1.below hbr HRw.out.2.1, fun x h1 h2 => Nat.lt_of_lt_of_le (HRw.out.2.1 x h1 h2) hbr.size, HRw.out.2.2⟩)
            have HLs' := Lib.hid (show Ls < M ∨ (M = 0 ∧ Ls = 0) from HLs.out.elim (fun h => .inl h.2.2) .inr)
            have HPp := Lib.hid (show 0 ≤ p ∧ p ≤ 10000 from ⟨HP.out.1, by have := HP.out.2; omega⟩)
            have HT1 := Lib.hid (show TellsB (Z ++ zr) salt p f M by rw [HZ.out]; exact tells1 sc HS.out HPp.out HNM.out.2.2 HNM.out.2.1 HLs'.out HE1.out HE2.out)
            have HT2 := Lib.hid (show TellsB (turnK Z (yzA sc) 64 told ++ zr) salt p f Ls by rw [HZ.out]; exact tells2 sc HS.out HPp.out HNM.out.2.2 HNM.out.2.1 HLs'.out HL1.out HE2.out)
            clear hJ hZ hbr hk hlt hk0
            have HRl' := Lib.hid HRl.out
            go_wp2_with (at_builtin; refine wpList_keep rfl (.tmp 128) (.tmp 129) rfl w3.heap.size g Z.length c Z ra rl rc zr rfl rfl HJz.out.1 rfl HJz.out.2.1 HRr.out.1 HRr.out.2.2 (by have := HZl.out; have := HRl'.out; omega) ?_)
            intro g9 c9 w9 hi9 hib9 hg9 hgb9 hc9 hb9
            have hb9' := hb9 w3.heap.size (own_lo HJz.out.1) HJz.out.2.2.size
            have HB9 := Lib.hid (HJz.out.2.2.trans hb9')
            have HW9 := Lib.hid (bt HB1.out (bt HB3.out HB9.out))
            have HI9 := Lib.hid hi9
            have HIb9 := Lib.hid hib9
            have HG9 := Lib.hid (show g9 < w9.heap.size ∧ g < w9.heap.size ∧ Z.length + rl ≤ c9 from ⟨hg9, hgb9, hc9⟩)
            clear hi9 hib9 hg9 hgb9 hc9 hb9 hb9'
            go_wp2_with fail
            refine (read_back (some ⟨g9, 0, none⟩) (Z.length + rl) c9 (Z ++ zr) salt p la ln lc f M w9 HI9.out (by intro x _ hx; cases hx; exact HG9.out.1) (by intro h; cases h) HG9.out.2.2 (parts_below HL.out HW9.out) (by have := HNM.out; omega) HT1.out).mono ?_
            rintro e w10 ⟨rfl, hb10⟩
            have HB10 := Lib.hid (bt HB9.out hb10)
            have HIb10 := Lib.hid (HIb9.out.below hb10 (by intro x _ hx; cases hx; exact HG9.out.2.1))
            have HG10 := Lib.hid (Nat.lt_of_lt_of_le HG9.out.2.1 hb10.size)
            clear hb10
            go_upto_if 138 with (fail)
            go_cut [26] (fun v wx => v = .int .i64 (yzA sc : Int) ∧ wx = w10)
            case first =>
              cases sc with
              | false =>
                go_wp2_with fail
                go_meet
                exact ⟨rfl, rfl⟩
              | true =>
                go_wp2_with fail
                go_meet
                exact ⟨rfl, rfl⟩
            case rest =>
              obtain ⟨rfl, hwc⟩ := hcut
              subst hwc
              have HA := Lib.hid (show yzA sc ≤ 64 by cases sc <;> decide)
              generalize yzA sc = A at *
              have hS10 := HB10.out.size
              go_wp2_with (at_builtin; refine wpList_slice rfl (.tmp 139) (.tmp 140) rfl w3.heap.size (.slice (some ⟨wc.heap.size, 0, none⟩) 0 0) [] (some ⟨g, 0, none⟩) Z.length c Z rfl rfl (own_empty (by exact Go.heap_alloc_new wc _) hS10) (HIb10.out.below (bel0 _ (Below.refl _ _)) (by intro x _ hx; cases hx; exact HG10.out)) (by intro h; cases h) (by have := HZl.out; simp; omega) (by simp; omega) ?_)
              intro v11 w11 hown11 hgr11
              obtain ⟨g11, c11, rfl⟩ := own_addr hown11 (by have := HZl.out; omega)
              have HC0 := Lib.hid (show w11.ownsRow w3.heap.size 5 1 (.slice (some ⟨g11, 0, none⟩) Z.length c11) Z.length ((turnK Z A 0 told).map (Value.int .u8)) ∧ Below w3.heap.size w3 w11 from
                ⟨by rw [turnK_zero]; exact hown11, (bt HB10.out (bel0 (.cells #[] 5) (Below.refl _ _))).grown hgr11 (by simp; omega) (fun k hk => by cases hk; exact hS10)⟩)
              clear hown11 hgr11 hS10
              go_wp2
              go_loopw [142] (fun i wr => ∃ j : Nat, j ≤ 64 ∧ i = .int .i64 (j : Int) ∧ Hid (wr.ownsRow w3.heap.size 5 1 (.slice (some ⟨g11, 0, none⟩) Z.length c11) Z.length ((turnK Z A j told).map (Value.int .u8)) ∧ Below w3.heap.size w3 wr)) (fun i _ => 64 - (intOf i).toNat)
              case atStart => exact ⟨0, by omega, rfl, HC0⟩
              case round =>
                obtain ⟨j, hj, rfl, HC⟩ := hrel
                clear HC0
                by_cases hjt : j < 64
                · have hjn : A + j < Z.length := by have := HZl.out; have := HA.out; omega
                  obtain ⟨D, hD⟩ : ∃ D : Nat, D = A + j := ⟨_, rfl⟩
                  have hji : (j : Int) < 64 := by omega
                  have hj0 : (0 : Int) ≤ (j : Int) := by omega
                  have hA64 : (A : Int) ≤ 64 := by have := HA.out; omega
                  have hA0 : (0 : Int) ≤ (A : Int) := by omega
                  have hDc : (A : Int) + (j : Int) = (D : Int) := by omega
                  have hDn : (D : Int) < (Z.length : Int) := by omega
                  have hD0 : (0 : Int) ≤ (D : Int) := by omega
                  have hwD : IntKind.i64.wrap ((A : Int) + (j : Int)) = (D : Int) := by rw [IntKind.wrap_i64]; omega
                  have HTl := Lib.hid (turnK_len (zb := Z) (a := A) (k := j) told (by omega))
                  have q := own_cell HC.out.1 HTl.out D (by omega)
                  have fz := own_frozen HC.out.1 D
                  have HJt := Lib.hid hjt
                  have HN := Lib.hid (show (wr.setCell ⟨g11, D, none⟩ (.int .u8 told)).ownsRow w3.heap.size 5 1 (.slice (some ⟨g11, 0, none⟩) Z.length c11) Z.length ((turnK Z A (j + 1) told).map (Value.int .u8)) ∧ Below w3.heap.size w3 (wr.setCell ⟨g11, D, none⟩ (.int .u8 told)) from
                    ⟨by rw [← turnK_set told hjn, ← hD]; exact own_set HC.out.1 D (by omega) told, HC.out.2.setCell (own_lo HC.out.1) _⟩)
                  clear hj hjt hjn hD
                  go_wp2
                  go_roundw
                  case rel => exact ⟨j + 1, HJt.out, by go_num, HN⟩
                  case measure => have := HJt.out; simp [intOf]; omega
                · obtain rfl : j = 64 := by omega
                  have HZt := Lib.hid (show (turnK Z A 64 told).length = Z.length from turnK_len told (by have := HZl.out; have := HA.out; omega))
                  have hW := bt HB1.out (bt HB3.out HC.out.2)
                  have HR12 := Lib.hid (show BArg wr ra rl rc zr from ⟨HRw.out.1.below hW HRw.out.2.1, fun x h1 h2 => Nat.lt_of_lt_of_le (HRw.out.2.1 x h1 h2) hW.size, HRw.out.2.2⟩)
                  have HCown := Lib.hid (show wr.ownsRow w3.heap.size 5 1 (.slice (some ⟨g11, 0, none⟩) Z.length c11) (turnK Z A 64 told).length ((turnK Z A 64 told).map (Value.int .u8)) by rw [HZt.out]; exact HC.out.1)
                  clear hj hjt hW
                  go_wp2_with (at_builtin; refine wpList_slice rfl (.tmp 152) (.tmp 153) rfl w3.heap.size (.slice (some ⟨g11, 0, none⟩) Z.length c11) (turnK Z A 64 told) ra rl rc zr rfl rfl HCown.out HR12.out.1 HR12.out.2.2 (by rw [HZt.out]; have := HZl.out; have := HRl'.out; omega) HC.out.2.size ?_)
                  intro v13 w13 hown13 hgr13
                  have hTb := HT2.out
                  have HL13 := Lib.hid (show (turnK Z A 64 told ++ zr).length = Z.length + rl by rw [List.length_append, HZt.out, HR12.out.1.1])
                  replace hown13 : w13.ownsRow w3.heap.size 5 1 v13 (Z.length + rl) ((turnK Z A 64 told ++ zr).map (Value.int .u8)) := by rw [← HL13.out]; simpa using hown13
                  obtain ⟨g13, c13, rfl⟩ := own_addr hown13 (by have := HZl.out; omega)
                  have hcap := cap_le hown13
                  have hB13 := HC.out.2.grown hgr13 HC.out.2.size (fun k hk => (HCown.out.lt k hk).1)
                  have HI13 := Lib.hid (own_isB hown13 HL13.out (fun z hz => (List.mem_append.1 hz).elim (turnK_range HJz.out.2.1 HT.out z) (HRw.out.1.mem z)))
                  have HG13 := Lib.hid (own_low hown13)
                  have HW13 := Lib.hid (bt HB1.out (bt HB3.out hB13))
                  have HCap := Lib.hid hcap
                  clear hown13 hgr13 hcap hB13 hTb
                  go_wp2_with fail
                  refine (read_back (some ⟨g13, 0, none⟩) (Z.length + rl) c13 (turnK Z A 64 told ++ zr) salt p la ln lc f Ls w13 HI13.out (by intro x _ hx; cases hx; exact HG13.out) (by intro h; cases h) HCap.out.1 (parts_below HL.out HW13.out) (by have := HNM.out; have := HLs'.out; omega) HT2.out).mono ?_
                  rintro e w14 ⟨rfl, hb14⟩
                  have HB14 := Lib.hid (bt HW13.out hb14)
                  clear hb14
                  go_wp2
                  go_ret
                  exact ⟨rfl, HB14.out⟩
end Go.Proofs.Ytbcjhngpcodaoaa
