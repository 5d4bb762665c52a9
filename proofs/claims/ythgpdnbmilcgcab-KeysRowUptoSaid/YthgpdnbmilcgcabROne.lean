/- Contract of the document's one: every slice of bytes that is not empty. -/
import Derived.Test.YthgpdnbmilcgcabKeyR2
import Derived.Deep.RegionHeld3
namespace Go.Proofs.Ythgpdnbmilcgcab
open Go.RowKit
set_option linter.unusedVariables false

/-- what the document's one answers -/
def OnePost (w : World) (a : Option Addr) (len cap : Nat) (r : Option (Val × Nat)) (e : Ending) (w' : World) : Prop :=
  Below w.heap.size w w' ∧
  ((∃ v u, r = some (v, u) ∧ e = .returned (.tuple #[.agg #[.int .i64 v.1, .int .i64 v.2.1, .string v.2.2], .slice (offA a cap u) (len - u) (cap - u), .bool true])) ∨
   (r = none ∧ ∃ (v : Val) (a' : Option Addr) (l' c' : Nat), e = .returned (.tuple #[.agg #[.int .i64 v.1, .int .i64 v.2.1, .string v.2.2], .slice a' l' c', .bool false])))

theorem takeV_drop' {zs : List Int} (h : 1 ≤ zs.length) : takeV zs = takeC (zs.getD 0 0) (zs.drop 1) := by
  cases zs with
  | nil => simp at h
  | cons y l => rfl

set_option maxRecDepth 100000 in
set_option maxHeartbeats 1600000 in
theorem one_null (b off len cap : Nat) (zs : List Int) (w : World) (h1 : 1 ≤ len) (hc : len ≤ cap) (hc0 : w.cell? ⟨b, off, none⟩ = some (.int .u8 5)) (HR : Hid (takeV zs = some (noV, 1))) :
    Calls Try.prog 34 #[.slice (some ⟨b, off, none⟩) len cap] w (OnePost w (some ⟨b, off, none⟩) len cap (takeV zs)) := by
  have hp : (0 : Int) < (len : Int) := by omega
  have hs1 : ∀ W, (Instr.slice 24 (.slice (some ⟨b, off, none⟩) len cap) (some (.int .i64 1)) none none).run Try.prog W = .ok (.slice (offA (some ⟨b, off, none⟩) cap 1) (len - 1) (cap - 1)) W := fun W => slice_l _ len cap 1 h1 .i64 W
  have hlt0 : b < w.heap.size := World.block_lt_of_cell? w _ hc0
  generalize ha1 : offA (some ⟨b, off, none⟩) cap 1 = a1 at hs1
  have HA1 := Lib.hid ha1
  clear ha1
  go_enter Try.func34, Try.ntmps34
  go_wp2
  go_region_held3 (fun w' => w'.cell? ⟨w.heap.size + 1, 0, none⟩ = some (.int .i64 0) ∧ w'.cell? ⟨w.heap.size + 1, 1, none⟩ = some (.int .i64 0) ∧ w'.cell? ⟨w.heap.size + 1, 2, none⟩ = some (.string ⟨#[]⟩))
    (first | exact ⟨by simp [go_sem], by simp [go_sem], by simp [go_sem]⟩) (fail)
  go_wp2
  refine bodyPost_ret (v := .tuple #[.agg #[.int .i64 0, .int .i64 0, .string ⟨#[]⟩], .slice a1 (len - 1) (cap - 1), .bool true]) (by simp [results, Try.results34, go_sem]) rfl ⟨?_, .inl ⟨noV, 1, HR.out, by rw [HA1.out]; rfl⟩⟩
  repeat (first | exact Below.refl _ _ | refine Below.drew ?_ | refine bel _ ?_)

theorem drop_getD {zs : List Int} {k j : Nat} : (zs.drop k).getD j 0 = zs.getD (k + j) 0 := by simp [List.getD]

set_option maxRecDepth 100000 in
set_option maxHeartbeats 3000000 in
theorem one_int (b off len cap : Nat) (zs : List Int) (w : World) (hl : zs.length = len) (hm : len ≤ 9223372036854775807) (hmem : ∀ z ∈ zs, 0 ≤ z ∧ z ≤ 255) (h9 : 9 ≤ len) (hc : len ≤ cap) (hcell : ∀ i, i < len → w.cell? ⟨b, off + i, none⟩ = some (.int .u8 (zs.getD i 0))) (h16 : zs.getD 0 0 = 16)
    (HR : Hid (takeV zs = some ((1, num 0 ((zs.drop 1).take 8) - 9223372036854775808, ⟨#[]⟩), 9))) :
    Calls Try.prog 34 #[.slice (some ⟨b, off, none⟩) len cap] w (OnePost w (some ⟨b, off, none⟩) len cap (takeV zs)) := by
  have hp : (0 : Int) < (len : Int) := by omega
  have hp9 : (9 : Int) ≤ (len : Int) := by omega
  have hc0 := hcell 0 (by omega)
  rw [h16, Nat.add_zero] at hc0
  have hlt0 : b < w.heap.size := World.block_lt_of_cell? w _ hc0
  have hs1 : ∀ W, (Instr.slice 24 (.slice (some ⟨b, off, none⟩) len cap) (some (.int .i64 9)) none none).run Try.prog W = .ok (.slice (offA (some ⟨b, off, none⟩) cap 9) (len - 9) (cap - 9)) W := fun W => slice_l _ len cap 9 h9 .i64 W
  generalize ha1 : offA (some ⟨b, off, none⟩) cap 9 = a1 at hs1
  have HA1 := Lib.hid ha1
  have HC := Lib.hid hcell
  have HL := Lib.hid hl
  have HM := Lib.hid hmem
  clear ha1 hcell hl hmem h16
  go_enter Try.func34, Try.ntmps34
  go_wp2
  obtain ⟨W0, hW0⟩ : ∃ W0, W0 = (w.alloc (.cells #[.int .i64 0, .int .i64 0, .string ⟨#[]⟩] 54)).alloc (.cells #[.int .i64 0, .int .i64 0, .string ⟨#[]⟩] 54) := ⟨_, rfl⟩
  have q0 : W0.cell? ⟨w.heap.size, 0, none⟩ = some (.int .i64 0) := by rw [hW0]; simp [go_sem]
  have q1 : W0.cell? ⟨w.heap.size, 1, none⟩ = some (.int .i64 0) := by rw [hW0]; simp [go_sem]
  have q2 : W0.cell? ⟨w.heap.size, 2, none⟩ = some (.string ⟨#[]⟩) := by rw [hW0]; simp [go_sem]
  have f0 : W0.frozen? ⟨w.heap.size, 0, none⟩ = false := by rw [hW0]; simp [go_sem]
  have f1 : W0.frozen? ⟨w.heap.size, 1, none⟩ = false := by rw [hW0]; simp [go_sem]
  have f2 : W0.frozen? ⟨w.heap.size, 2, none⟩ = false := by rw [hW0]; simp [go_sem]
  have HB0 := Lib.hid (show Below w.heap.size w W0 by rw [hW0]; exact bel0 _ (bel0 _ (Below.refl _ _)))
  rw [← hW0]
  clear hW0 hc0
  go_loop [6, 29] (fun n i => ∃ k : Nat, ∃ N : Int, k ≤ 8 ∧ i = .int .i64 (k : Int) ∧ n = .int .u64 N ∧ Hid (N = num 0 ((zs.drop 1).take k))) (fun _ i => 8 - (intOf i).toNat)
  case atStart => exact ⟨0, 0, by omega, rfl, rfl, Lib.hid rfl⟩
  case round =>
    obtain ⟨k, N, hk, rfl, rfl, HN⟩ := hrel
    have hb := num_bd ((zs.drop 1).take k) 0 (by omega) (fun z hz => HM.out z (List.mem_of_mem_drop (List.mem_of_mem_take hz)))
    have hpw := p256_8 ((zs.drop 1).take k).length (by rw [List.length_take]; omega)
    rw [← HN.out] at hb
    have n0 : 0 ≤ N := hb.1
    by_cases hlt : k < 8
    · have hpw7 := p256_7 ((zs.drop 1).take k).length (by rw [List.length_take]; omega)
      have n1 : N ≤ 72057594037927935 := by have := hb.2; omega
      have hc0 : W0.cell? ⟨b, off + (1 + k), none⟩ = some (.int .u8 (zs.getD (1 + k) 0)) := (HB0.out.cell (p := ⟨b, off + (1 + k), none⟩) hlt0).trans (HC.out (1 + k) (by omega))
      have hz := HM.out (zs.getD (1 + k) 0) (by rw [List.getD_eq_getElem?_getD, List.getElem?_eq_getElem (by rw [HL.out]; omega)]; exact List.getElem_mem _)
      obtain ⟨z0, z1⟩ := hz
      have hE := num_take_succ (zs := zs.drop 1) (k := k) (by rw [List.length_drop, HL.out]; omega) 0
      rw [← HN.out, drop_getD] at hE
      have HE := Lib.hid hE.symm
      have hki : 1 + (k : Int) < (len : Int) := by omega
      have hk0 : (0 : Int) ≤ (k : Int) := by omega
      have hk8 : (k : Int) < 8 := by omega
      clear hb hpw hpw7 hE HN
      generalize zs.getD (1 + k) 0 = c at *
      have HO := Lib.hid (or_byte N c n0 n1 z0 z1)
      go_wp2
      go_round
      case rel => exact ⟨k + 1, N * 256 + c, by omega, by go_num, by rw [HO.out], HE⟩
      case measure => simp [intOf]; omega
    · obtain rfl : k = 8 := by omega
      have n1 : N ≤ 18446744073709551615 := by have := hb.2; omega
      have hw : IntKind.i64.wrap (IntKind.u64.wrap (N - 9223372036854775808)) = N - 9223372036854775808 := by
        rw [IntKind.wrap_u64, IntKind.wrap_i64]; omega
      have HRN := HR.out
      rw [← HN.out] at HRN
      have HR2 := Lib.hid HRN
      clear hb hpw HN hlt HRN
      go_wp2
      go_region_held3 (fun w' => True) (trivial) (fail)
      go_wp2
      refine bodyPost_ret (v := .tuple #[.agg #[.int .i64 1, .int .i64 (N - 9223372036854775808), .string ⟨#[]⟩], .slice a1 (len - 9) (cap - 9), .bool true]) (by simp [results, Try.results34, go_sem, q0, q1, q2]) rfl ⟨?_, .inl ⟨_, 9, HR2.out, by rw [HA1.out]⟩⟩
      exact (((HB0.out.setCell (Nat.le_refl _) _).setCell (Nat.le_refl _) _).setCell (Nat.le_refl _) _).drew

theorem str_of' {w : World} {a : Option Addr} {len cap : Nat} {zs : List Int} (h : IsB w a len zs) (h0 : len ≠ 0) : (convert 24 9 (.slice a len cap)).run Try.prog w = .ok (.string (strOfNums zs)) w := by
  have h3 := h.2.2.1
  cases a with
  | none => rcases h3 with h3 | ⟨_, _, he, _⟩; exact absurd h3 h0; cases he
  | some x => exact str_any h (fun e => by cases e)
theorem nul_str (acc : List Int) : strOfNums acc ++ ⟨#[0]⟩ = strOfNums (acc ++ [0]) := by rw [strOfNums_append]; rfl

set_option maxRecDepth 100000 in
set_option maxHeartbeats 4000000 in
theorem one_text (b off len cap : Nat) (zs : List Int) (w : World) (hl : zs.length = len) (hm : len ≤ 9223372036854775000) (hmem : ∀ z ∈ zs, 0 ≤ z ∧ z ≤ 255) (h1 : 1 ≤ len) (hc : len ≤ cap) (hcell : ∀ i, i < len → w.cell? ⟨b, off + i, none⟩ = some (.int .u8 (zs.getD i 0))) (h32 : zs.getD 0 0 = 32)
    (HR : Hid (takeV zs = takeC 32 (zs.drop 1))) :
    Calls Try.prog 34 #[.slice (some ⟨b, off, none⟩) len cap] w (OnePost w (some ⟨b, off, none⟩) len cap (takeV zs)) := by
  have hp : (0 : Int) < (len : Int) := by omega
  have hc0 := hcell 0 (by omega)
  rw [h32, Nat.add_zero] at hc0
  have hlt0 : b < w.heap.size := World.block_lt_of_cell? w _ hc0
  have HC := Lib.hid hcell
  have HL := Lib.hid hl
  have HM := Lib.hid hmem
  have hbnd : ∀ i, 0 ≤ zs.getD i 0 ∧ zs.getD i 0 ≤ 255 := fun i => by
    by_cases hi : i < zs.length
    · rw [List.getD_eq_getElem?_getD, List.getElem?_eq_getElem hi]; exact hmem _ (List.getElem_mem _)
    · rw [List.getD_eq_getElem?_getD, List.getElem?_eq_none (by omega)]; simp
  have HI : Hid (IsB w (some ⟨b, off, none⟩) len zs) := ⟨hl, by omega, .inr ⟨b, off, rfl, hcell⟩, hbnd⟩
  clear hcell hl hmem h32 hbnd
  go_enter Try.func34, Try.ntmps34
  go_wp2
  obtain ⟨W0, hW0⟩ : ∃ W0, W0 = (w.alloc (.cells #[.int .i64 0, .int .i64 0, .string ⟨#[]⟩] 54)).alloc (.cells #[.int .i64 0, .int .i64 0, .string ⟨#[]⟩] 54) := ⟨_, rfl⟩
  have q0 : W0.cell? ⟨w.heap.size, 0, none⟩ = some (.int .i64 0) := by rw [hW0]; simp [go_sem]
  have q1 : W0.cell? ⟨w.heap.size, 1, none⟩ = some (.int .i64 0) := by rw [hW0]; simp [go_sem]
  have q2 : W0.cell? ⟨w.heap.size, 2, none⟩ = some (.string ⟨#[]⟩) := by rw [hW0]; simp [go_sem]
  have r0 : W0.cell? ⟨w.heap.size + 1, 0, none⟩ = some (.int .i64 0) := by rw [hW0]; simp [go_sem]
  have r1 : W0.cell? ⟨w.heap.size + 1, 1, none⟩ = some (.int .i64 0) := by rw [hW0]; simp [go_sem]
  have r2 : W0.cell? ⟨w.heap.size + 1, 2, none⟩ = some (.string ⟨#[]⟩) := by rw [hW0]; simp [go_sem]
  have f0 : W0.frozen? ⟨w.heap.size, 0, none⟩ = false := by rw [hW0]; simp [go_sem]
  have f1 : W0.frozen? ⟨w.heap.size, 1, none⟩ = false := by rw [hW0]; simp [go_sem]
  have f2 : W0.frozen? ⟨w.heap.size, 2, none⟩ = false := by rw [hW0]; simp [go_sem]
  have hb0 : Below w.heap.size w W0 := by rw [hW0]; exact bel0 _ (bel0 _ (Below.refl _ _))
  have HB0 := Lib.hid hb0
  have HI0 := Lib.hid (HI.out.below hb0 (fun x _ hx => by cases hx; exact hlt0))
  rw [← hW0]
  clear hW0 hc0 hb0
  go_loop [8, 9] (fun s i => ∃ (k : Nat) (acc : List Int) (S : ByteArray), Hid (1 ≤ k ∧ k ≤ len) ∧ i = .int .i64 (k : Int) ∧ s = .string S ∧ Hid (S = strOfNums acc ∧ acc.length ≤ k ∧ (∀ z ∈ acc, 0 ≤ z ∧ z ≤ 255) ∧ takeT (zs.drop 1) = glueT acc (k - 1) (takeT (zs.drop k)))) (fun _ i => len - (intOf i).toNat)
  case atStart =>
    refine ⟨1, [], ⟨#[]⟩, Lib.hid ⟨by omega, h1⟩, rfl, rfl, Lib.hid ⟨rfl, by simp, by simp, ?_⟩⟩
    unfold glueT
    cases takeT (zs.drop 1) <;> simp
  case round =>
    obtain ⟨k, acc, S, HK, rfl, rfl, HS⟩ := hrel
    have hSz : S.size ≤ k := by rw [HS.out.1, numBytes_size]; exact HS.out.2.1
    have hkl := HK.out.2
    by_cases hlt : k < len
    · have hki : (k : Int) < (len : Int) := by omega
      have hk0 : (0 : Int) ≤ (k : Int) := by omega
      have hcz : W0.cell? ⟨b, off + k, none⟩ = some (.int .u8 (zs.getD k 0)) := (HB0.out.cell (p := ⟨b, off + k, none⟩) hlt0).trans (HC.out k hlt)
      have HZ := Lib.hid (HM.out (zs.getD k 0) (by rw [List.getD_eq_getElem?_getD, List.getElem?_eq_getElem (by rw [HL.out]; omega)]; exact List.getElem_mem _))
      by_cases hz0 : zs.getD k 0 = 0
      · have hzb : (zs.getD k 0 != 0) = false := by rw [bne_eq_false_iff_eq]; exact hz0
        by_cases hend : k + 1 = len
        · have HRn := Lib.hid (HR.out.trans (takeC_none (HS.out.2.2.2.trans (glueT_end (by rw [HL.out]; exact hend) hz0))))
          have heb : (len : Int) ≤ (k : Int) + 1 := by omega
          clear hz0 hend
          generalize zs.getD k 0 = z at *
          go_wp2
          refine bodyPost_ret (v := .tuple #[.agg #[.int .i64 0, .int .i64 0, .string ⟨#[]⟩], .slice none 0 0, .bool false]) (by simp [results, Try.results34, go_sem, q0, q1, q2]) rfl ⟨?_, .inr ⟨HRn.out, noV, _, _, _, rfl⟩⟩
          exact ((HB0.out.setCell (Nat.le_refl _) _).setCell (Nat.le_refl _) _).setCell (Nat.le_refl _) _
        have heb : (k : Int) + 1 < (len : Int) := by omega
        have hk1 : k + 1 < len := by omega
        have hcy : W0.cell? ⟨b, off + (k + 1), none⟩ = some (.int .u8 (zs.getD (k + 1) 0)) := (HB0.out.cell (p := ⟨b, off + (k + 1), none⟩) hlt0).trans (HC.out (k + 1) hk1)
        by_cases hy0 : zs.getD (k + 1) 0 = 0
        · have hyb : (zs.getD (k + 1) 0 == 0) = true := by rw [beq_iff_eq]; exact hy0
          have HG := Lib.hid (HS.out.2.2.2.trans (glueT_stop (acc := acc) (k := k - 1) (by rw [HL.out]; exact hk1) hz0 hy0))
          have HRe := Lib.hid (show takeV zs = endR acc (k + 2) by rw [HR.out, takeC_some HG.out]; congr 1; have := HK.out; omega)
          have hs2 : ∀ W, (Instr.slice 24 (.slice (some ⟨b, off, none⟩) len cap) (some (.int .i64 ((k : Int) + 2))) none none).run Try.prog W = .ok (.slice (offA (some ⟨b, off, none⟩) cap (k + 2)) (len - (k + 2)) (cap - (k + 2))) W := fun W => slice_l _ len cap (k + 2) (by omega) .i64 W
          have hw2 : IntKind.i64.wrap ((k : Int) + 2) = (k : Int) + 2 := by rw [IntKind.wrap_i64]; omega
          have hn2 : (0 : Int) ≤ (k : Int) + 2 := by omega
          have hn3 : (k : Int) + 2 ≤ (len : Int) := by omega
          clear hz0 hend hy0
          generalize zs.getD k 0 = z at *
          generalize zs.getD (k + 1) 0 = y at *
          generalize ha2 : offA (some ⟨b, off, none⟩) cap (k + 2) = a2 at hs2
          have HA2 := Lib.hid ha2
          clear ha2
          by_cases h100 : acc.length ≤ 100
          · have HRf := Lib.hid (show takeV zs = some ((2, 0, S), k + 2) by rw [HRe.out, HS.out.1]; unfold endR; rw [if_pos h100])
            have hS1 : (S.size : Int) ≤ 100 := by rw [HS.out.1, numBytes_size]; omega
            clear h100
            go_wp2
            go_region_held3 (fun w' => True) (trivial) (fail)
            go_wp2
            refine bodyPost_ret (v := .tuple #[.agg #[.int .i64 2, .int .i64 0, .string S], .slice a2 (len - (k + 2)) (cap - (k + 2)), .bool true]) (by simp [results, Try.results34, go_sem, q0, q1, q2, hS1]) rfl ⟨?_, .inl ⟨_, k + 2, HRf.out, by rw [HA2.out]⟩⟩
            exact (((HB0.out.setCell (Nat.le_refl _) _).setCell (Nat.le_refl _) _).setCell (Nat.le_refl _) _).drew
          · have HRf := Lib.hid (show takeV zs = none by rw [HRe.out]; unfold endR; rw [if_neg h100])
            have hS1 : (100 : Int) < (S.size : Int) := by rw [HS.out.1, numBytes_size]; omega
            have hS2 : decide ((S.size : Int) ≤ 100) = false := by simp; omega
            clear h100
            go_wp2
            go_region_held3 (fun w' => True) (trivial) (fail)
            go_wp2
            refine bodyPost_ret (v := .tuple #[.agg #[.int .i64 2, .int .i64 0, .string S], .slice a2 (len - (k + 2)) (cap - (k + 2)), .bool false]) (by simp [results, Try.results34, go_sem, q0, q1, q2, hS2]) rfl ⟨?_, .inr ⟨HRf.out, (2, 0, S), _, _, _, rfl⟩⟩
            exact (((HB0.out.setCell (Nat.le_refl _) _).setCell (Nat.le_refl _) _).setCell (Nat.le_refl _) _).drew
        have hyb : (zs.getD (k + 1) 0 == 0) = false := by rw [beq_eq_false_iff_ne]; exact hy0
        by_cases hy2 : zs.getD (k + 1) 0 = 255
        · have hyc : (zs.getD (k + 1) 0 != 255) = false := by rw [bne_eq_false_iff_eq]; exact hy2
          have HG := Lib.hid (show takeT (zs.drop 1) = glueT (acc ++ [0]) (k + 2 - 1) (takeT (zs.drop (k + 2))) by
            rw [HS.out.2.2.2, glueT_nought (by rw [HL.out]; exact hk1) hz0 hy0 hy2]; congr 1; have := HK.out; omega)
          have hsum : S.size + (⟨#[0]⟩ : ByteArray).size ≤ 9223372036854775807 := by
            have : (⟨#[0]⟩ : ByteArray).size = 1 := rfl
            omega
          have hsum2 : S.size + 1 ≤ 9223372036854775807 := by omega
          have hno : ¬ (9223372036854775807 < S.size + 1) := by omega
          clear hz0 hend hy0 hy2
          generalize zs.getD (k + 1) 0 = y at *
          generalize zs.getD k 0 = z at *
          clear q0 q1 q2 r0 r1 r2 f0 f1 f2
          go_wp2
          go_round
          case rel => exact ⟨k + 2, acc ++ [0], S ++ ⟨#[0]⟩, Lib.hid (by omega), by go_num, rfl, Lib.hid ⟨by rw [HS.out.1, nul_str], by have := HS.out.2.1; simp; omega, fun y hy => by rcases List.mem_append.1 hy with h | h; exact HS.out.2.2.1 y h; simp at h; omega, HG.out⟩⟩
          case measure => simp [intOf]; omega
        · have hyc : (zs.getD (k + 1) 0 != 255) = true := by rw [bne_iff_ne]; exact hy2
          have HRn := Lib.hid (HR.out.trans (takeC_none (HS.out.2.2.2.trans (glueT_wrong (acc := acc) (k := k - 1) (by rw [HL.out]; exact hk1) hz0 hy0 hy2))))
          clear hz0 hend hy0 hy2
          generalize zs.getD (k + 1) 0 = y at *
          generalize zs.getD k 0 = z at *
          go_wp2
          refine bodyPost_ret (v := .tuple #[.agg #[.int .i64 0, .int .i64 0, .string ⟨#[]⟩], .slice none 0 0, .bool false]) (by simp [results, Try.results34, go_sem, q0, q1, q2]) rfl ⟨?_, .inr ⟨HRn.out, noV, _, _, _, rfl⟩⟩
          exact ((HB0.out.setCell (Nat.le_refl _) _).setCell (Nat.le_refl _) _).setCell (Nat.le_refl _) _
      · have hzb : (zs.getD k 0 != 0) = true := by rw [bne_iff_ne]; exact hz0
        have HG := Lib.hid (show takeT (zs.drop 1) = glueT (acc ++ [zs.getD k 0]) (k + 1 - 1) (takeT (zs.drop (k + 1))) by rw [HS.out.2.2.2, glueT_on (by rw [HL.out]; exact hlt) hz0]; congr 1; have := HK.out; omega)
        have hs3 : ∀ W, (Instr.slice 24 (.slice (some ⟨b, off, none⟩) len cap) (some (.int .i64 (k : Int))) (some (.int .i64 ((k : Int) + 1))) none).run Try.prog W = .ok (.slice (offA (some ⟨b, off, none⟩) cap k) 1 (cap - k)) W := fun W => by
          have := slice_lh (some ⟨b, off, none⟩) len cap k (k + 1) (by omega) (by omega) .i64 .i64 W
          rw [show k + 1 - k = 1 by omega] at this
          exact this
        have hI1 := isB_take (k := 1) (isB_off (k := k) HI0.out (by omega) hc) (by omega)
        have et : (zs.drop k).take 1 = [zs.getD k 0] := by rw [gdrop (by rw [HL.out]; exact hlt)]; simp
        rw [et] at hI1
        have hcv := str_of' hI1 (cap := cap - k) (by omega)
        have hTs : (strOfNums [zs.getD k 0]).size = 1 := by rw [numBytes_size]; rfl
        have HJ := Lib.hid (show S ++ strOfNums [zs.getD k 0] = strOfNums (acc ++ [zs.getD k 0]) by rw [HS.out.1, strOfNums_append])
        generalize offA (some ⟨b, off, none⟩) cap k = a3 at hs3 hcv
        have hno : ¬ (9223372036854775807 < S.size + (strOfNums [zs.getD k 0]).size) := by omega
        have hsum : S.size + (strOfNums [zs.getD k 0]).size ≤ 9223372036854775807 := by omega
        clear hI1 et hz0 hTs
        generalize hT : strOfNums [zs.getD k 0] = T at *
        clear hT
        generalize zs.getD k 0 = z at *
        clear q0 q1 q2 r0 r1 r2 f0 f1 f2
        go_wp2
        go_round
        case rel => exact ⟨k + 1, acc ++ [z], S ++ T, Lib.hid (by omega), by go_num, rfl, Lib.hid ⟨HJ.out, by have := HS.out.2.1; simp; omega, fun y hy => by rcases List.mem_append.1 hy with h | h; exact HS.out.2.2.1 y h; simp at h; subst h; exact HZ.out, HG.out⟩⟩
        case measure => simp [intOf]; omega
    · have HRn := Lib.hid (HR.out.trans (takeC_none (HS.out.2.2.2.trans (glueT_nil (by rw [HL.out]; omega)))))
      have hki : (len : Int) ≤ (k : Int) := by omega
      go_wp2
      refine bodyPost_ret (v := .tuple #[.agg #[.int .i64 0, .int .i64 0, .string ⟨#[]⟩], .slice none 0 0, .bool false]) (by simp [results, Try.results34, go_sem, q0, q1, q2]) rfl ⟨?_, .inr ⟨HRn.out, noV, _, _, _, rfl⟩⟩
      exact ((HB0.out.setCell (Nat.le_refl _) _).setCell (Nat.le_refl _) _).setCell (Nat.le_refl _) _
end Go.Proofs.Ythgpdnbmilcgcab
