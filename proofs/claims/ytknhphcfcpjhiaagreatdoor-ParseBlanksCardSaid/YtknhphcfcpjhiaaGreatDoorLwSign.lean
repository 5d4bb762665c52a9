/- strings.ContainsRune in the lexer's signs: any rune. -/
import Derived.Test.YtknhphcfcpjhiaaGreatDoorLwGo
import Derived.Lib.ConvBytes
namespace Go.Proofs.YtknhphcfcpjhiaaGreatDoor
open Go.RowKit
set_option linter.unusedVariables false
set_option linter.unusedSimpArgs false
set_option maxRecDepth 100000

theorem first_sign : ∀ c : Fin 256, decide (0 ≤ (firstIdx ⟨#[40, 41, 44, 46, 59, 42, 43, 45, 61, 60, 62]⟩ (Int.toNat (c.val : Int)).toUInt8 : Int)) = signL c.val := by decide +kernel
theorem ext_sign (W : World) (c : Nat) : (callFunc 223 #[.string ⟨#[40, 41, 44, 46, 59, 42, 43, 45, 61, 60, 62]⟩, .int .u8 (c : Int)]).run Tryz.prog W = .ok (.value (.int .i64 (firstIdx ⟨#[40, 41, 44, 46, 59, 42, 43, 45, 61, 60, 62]⟩ (Int.toNat (c : Int)).toUInt8))) W := by
  rw [run_callFunc_extern (e := Extern.BytealgIndexByte.indexByte) Tryz.func223 (by kernel_rfl) (by kernel_rfl) (by kernel_rfl) (by kernel_rfl), run_indexByte_string]
  rfl
set_option maxHeartbeats 1600000 in
theorem indexbyte_sign (w : World) (c : Nat) : Calls Tryz.prog 178 #[.string ⟨#[40, 41, 44, 46, 59, 42, 43, 45, 61, 60, 62]⟩, .int .u8 (c : Int)] w fun e w' => e = .returned (.int .i64 (firstIdx ⟨#[40, 41, 44, 46, 59, 42, 43, 45, 61, 60, 62]⟩ (Int.toNat (c : Int)).toUInt8)) ∧ w' = w := by
  have hx := ext_sign w c
  go_enter Tryz.func178, Tryz.ntmps178
  go_wp2
  go_ret
  exact ⟨rfl, rfl⟩
theorem first_none : ∀ k : Fin 3, ∀ b : Fin 128, firstIdx ((⟨#[40, 41, 44, 46, 59, 42, 43, 45, 61, 60, 62]⟩ : ByteArray).extract (k.val + 2) 11) (Int.toNat ((b.val + 128 : Nat) : Int)).toUInt8 = -1 := by decide +kernel
set_option maxHeartbeats 1600000 in
theorem indexbyte_none (k x : Nat) (h1 : 128 ≤ x) (h2 : x < 256) (hk : k < 3 := by omega) (w : World) : Calls Tryz.prog 178 #[.string ((⟨#[40, 41, 44, 46, 59, 42, 43, 45, 61, 60, 62]⟩ : ByteArray).extract (k + 2) 11), .int .u8 (x : Int)] w fun e w' => e = .returned (.int .i64 (-1)) ∧ w' = w := by
  have hx : (callFunc 223 #[.string ((⟨#[40, 41, 44, 46, 59, 42, 43, 45, 61, 60, 62]⟩ : ByteArray).extract (k + 2) 11), .int .u8 (x : Int)]).run Tryz.prog w = .ok (.value (.int .i64 (-1))) w := by
    have := first_none ⟨k, hk⟩ ⟨x - 128, by omega⟩
    simp only [show x - 128 + 128 = x by omega] at this
    rw [run_callFunc_extern (e := Extern.BytealgIndexByte.indexByte) Tryz.func223 (by kernel_rfl) (by kernel_rfl) (by kernel_rfl) (by kernel_rfl), run_indexByte_string, this]
    rfl
  generalize (⟨#[40, 41, 44, 46, 59, 42, 43, 45, 61, 60, 62]⟩ : ByteArray).extract (k + 2) 11 = T at hx ⊢
  go_enter Tryz.func178, Tryz.ntmps178
  go_wp2
  go_ret
  exact ⟨rfl, rfl⟩
/-- what IndexRune answers: below nought just if the rune is no sign -/
def IdxP (w : World) (b : Bool) (e : Ending) (w' : World) : Prop := ∃ i : Int, e = .returned (.int .i64 i) ∧ decide (0 ≤ i) = b ∧ Below w.heap.size w w'
def SomeB (w : World) (e : Ending) (w' : World) : Prop := ∃ b, e = .returned (.bool b) ∧ w' = w
set_option maxHeartbeats 3200000 in
theorem validrune_some (w : World) (c : Int) : Calls Tryz.prog 179 #[.int .i32 c] w (SomeB w) := by
  go_enter Tryz.func179, Tryz.ntmps179
  go_wp2
  all_goals go_ret
  all_goals exact ⟨_, rfl, rfl⟩
theorem dec_sign : ∀ p : Fin 11, (Utf8.decode ⟨#[40, 41, 44, 46, 59, 42, 43, 45, 61, 60, 62]⟩ p.val).1 ≠ 65533 ∧ (Utf8.decode ⟨#[40, 41, 44, 46, 59, 42, 43, 45, 61, 60, 62]⟩ p.val).2 = 1 := by decide +kernel
/-- a rune's bytes, if it isn't ASCII -/
theorem enc_high (c : Nat) (h : 128 ≤ c) : ∃ (S : ByteArray) (n : Nat), S = Utf8.encode (c : Int) ∧ S.size = n + 2 ∧ n ≤ 2 ∧ ∀ (hlt : n + 1 < S.size), 128 ≤ (S[n + 1]'hlt).toNat := by
  obtain ⟨d, hd, hd2⟩ : ∃ d, d = (if Utf8.valid (c : Int) = true then (c : Int).toNat else Utf8.runeError) ∧ 128 ≤ d := by
    refine ⟨_, rfl, ?_⟩
    split
    · omega
    · unfold Utf8.runeError; omega
  have he : Utf8.encode (c : Int) = if d < 128 then ⟨#[UInt8.ofNat d]⟩ else if d < 2048 then ⟨#[UInt8.ofNat (192 + d / 64), UInt8.ofNat (128 + d % 64)]⟩ else if d < 65536 then ⟨#[UInt8.ofNat (224 + d / 4096), UInt8.ofNat (128 + d / 64 % 64), UInt8.ofNat (128 + d % 64)]⟩ else ⟨#[UInt8.ofNat (240 + d / 262144), UInt8.ofNat (128 + d / 4096 % 64), UInt8.ofNat (128 + d / 64 % 64), UInt8.ofNat (128 + d % 64)]⟩ := by
    rw [hd]
    rfl
  have hl : 128 ≤ (UInt8.ofNat (128 + d % 64)).toNat := by
    rw [UInt8.toNat_ofNat']
    omega
  clear hd
  by_cases h1 : d < 2048
  · rw [if_neg (by omega), if_pos h1] at he
    exact ⟨_, 0, he.symm, rfl, by omega, fun _ => hl⟩
  · by_cases h2 : d < 65536
    · rw [if_neg (by omega), if_neg h1, if_pos h2] at he
      exact ⟨_, 1, he.symm, rfl, by omega, fun _ => hl⟩
    · rw [if_neg (by omega), if_neg h1, if_neg h2] at he
      exact ⟨_, 2, he.symm, rfl, by omega, fun _ => hl⟩
set_option maxHeartbeats 6400000 in
theorem indexrune_sign (w : World) (c : Nat) (hc : c ≤ 1114111) : Calls Tryz.prog 160 #[.string ⟨#[40, 41, 44, 46, 59, 42, 43, 45, 61, 60, 62]⟩, .int .i32 (c : Int)] w (IdxP w (signL c)) := by
  have HB0 := Lib.hid (Below.refl w.heap.size w)
  by_cases h1 : c < 128
  · have h1i : (c : Int) < 128 := by omega
    have h0i : (0 : Int) ≤ (c : Int) := by omega
    have hcv : IntKind.u8.wrap (c : Int) = (c : Int) := by rw [IntKind.wrap_u8]; omega
    have h256 : c < 256 := by omega
    have HF := Lib.hid (first_sign ⟨c, h256⟩)
    clear h1
    go_enter Tryz.func160, Tryz.ntmps160
    go_wp2_with fail
    refine (indexbyte_sign _ c).mono ?_
    rintro e w1 ⟨rfl, hw⟩
    subst hw
    go_wp2
    go_ret
    exact ⟨_, rfl, HF.out, HB0.out⟩
  · have HS := Lib.hid (sign_high (r := c) (by omega))
    have h1i : (128 : Int) ≤ (c : Int) := by omega
    by_cases h2 : c = 65533
    · subst h2
      rw [HS.out]
      clear h1 h1i
      go_enter Tryz.func160, Tryz.ntmps160
      go_wp2_with fail
      go_loopw [] (fun wr => ∃ pos : Nat, pos ≤ 11 ∧ wr = w.iter ⟨#[40, 41, 44, 46, 59, 42, 43, 45, 61, 60, 62]⟩ pos) (fun wr => 11 - wr.iterPos w.heap.size)
      case atStart => exact ⟨0, by omega, rfl⟩
      case round =>
        obtain ⟨pos, hp, rfl⟩ := hrel
        by_cases hp2 : pos < 11
        · obtain ⟨r, m, hr, hm, hm1, hnx⟩ := rune_step ⟨#[40, 41, 44, 46, 59, 42, 43, 45, 61, 60, 62]⟩ pos w hp2
          have hd := dec_sign ⟨pos, hp2⟩
          have hrb : (r == 65533) = false := beq_eq_false_iff_ne.2 (by rw [hr]; have := hd.1; simp only at this; omega)
          obtain rfl : m = 1 := by rw [hm]; exact hd.2
          clear hr hm hd
          go_wp2
          go_roundw
          case rel => exact ⟨pos + 1, by omega, rfl⟩
          case measure => simp; omega
        · have hnx : ∀ ty, (Instr.next (.pointer (some ⟨w.heap.size, 0, none⟩)) true ty).run Tryz.prog (w.iter ⟨#[40, 41, 44, 46, 59, 42, 43, 45, 61, 60, 62]⟩ pos) = .ok (.tuple #[.bool false]) (w.iter ⟨#[40, 41, 44, 46, 59, 42, 43, 45, 61, 60, 62]⟩ pos) := fun ty => run_next_end w ⟨#[40, 41, 44, 46, 59, 42, 43, 45, 61, 60, 62]⟩ pos ty hp2
          go_wp2
          go_ret
          exact ⟨-1, rfl, rfl, bel0 _ (Below.refl _ _)⟩
    · have h2b : ((c : Int) == 65533) = false := beq_eq_false_iff_ne.2 (by omega)
      rw [HS.out]
      obtain ⟨S, n, hS, hn, hn2, hnb⟩ := enc_high c (by omega)
      have h1f : decide ((c : Int) < 128) = false := decide_eq_false (by omega)
      have hcv : ∀ W, (convert 21 9 (.int .i32 (c : Int))).run Tryz.prog W = .ok (.string S) W := fun W => by rw [hS]; rfl
      clear h1 h2 hS
      rcases (show n = 0 ∨ n = 1 ∨ n = 2 by omega) with rfl | rfl | rfl
      · have hb := hnb (by omega)
        have hx : ∀ W, (Instr.index 9 (.string S) (.int .i64 1)).run Tryz.prog W = .ok (.int .u8 ((S[1]'(by omega)).toNat : Int)) W := fun W => by
          rw [run_index_string (P := Tryz.prog) W 9 S .i64 1 Tryz.underlying9, dif_pos (by omega)]
          rfl
        have hy : ∀ W, (Instr.index 9 (.string ⟨#[40, 41, 44, 46, 59, 42, 43, 45, 61, 60, 62]⟩) (.int .i64 1)).run Tryz.prog W = .ok (.int .u8 41) W := fun W => by kernel_rfl
        have hsl : ∀ W, (Instr.slice 9 (.string ⟨#[40, 41, 44, 46, 59, 42, 43, 45, 61, 60, 62]⟩) (some (.int .i64 2)) none none).run Tryz.prog W = .ok (.string ((⟨#[40, 41, 44, 46, 59, 42, 43, 45, 61, 60, 62]⟩ : ByteArray).extract (0 + 2) 11)) W := fun W => by kernel_rfl
        obtain ⟨x, hxe⟩ : ∃ x, x = (S[1]'(by omega)).toNat := ⟨_, rfl⟩
        rw [← hxe] at hx
        have hx128 : 128 ≤ x := by rw [hxe]; exact hb
        have hx256 : x < 256 := by rw [hxe]; exact UInt8.toNat_lt _
        have hne : ((41 : Int) != (x : Int)) = true := bne_iff_ne.2 (by omega)
        have hsum : IntKind.i64.wrap 2 = 2 := by rw [IntKind.wrap_i64]; omega
        have HNo := Lib.hid (indexbyte_none 0 x hx128 hx256)
        generalize (⟨#[40, 41, 44, 46, 59, 42, 43, 45, 61, 60, 62]⟩ : ByteArray).extract (0 + 2) 11 = T at hsl HNo
        clear hnb hb hxe
        go_enter Tryz.func160, Tryz.ntmps160
        go_wp2_with fail
        refine (validrune_some _ c).mono ?_
        rintro e w1 ⟨b, rfl, hw⟩
        subst hw
        cases b with
        | false =>
          go_wp2
          go_ret
          exact ⟨-1, rfl, rfl, HB0.out⟩
        | true =>
          go_wp2_with fail
          go_step3
          go_wp2_with fail
          go_loopw [9] (fun i wr => i = .int .i64 1 ∧ wr = w1) (fun i wr => 0)
          case atStart => exact ⟨by go_num, rfl⟩
          case round =>
            obtain ⟨rfl, rfl⟩ := hrel
            go_wp2_with fail
            go_step3
            go_upto_region 6 with (fail)
            go_quiet (fail)
            obtain ⟨w2, hw2⟩ : ∃ w2, w2 = wr.drewN nq := ⟨_, rfl⟩
            rw [← hw2]
            have HB2 := Lib.hid (show Below wr.heap.size wr w2 by rw [hw2]; exact drewB wr nq)
            clear hw2
            go_upto_region 7 with (fail)
            go_quiet ((go_at_call 178; exact Calls.quiet_of_same (HNo.out _)))
            go_wp2
            rw [Exit.noGoto_ret]
            go_ret
            exact ⟨-1, rfl, rfl, ⟨HB2.out.os, HB2.out.tape, HB2.out.output, HB2.out.size, HB2.out.block⟩⟩
      · have hb := hnb (by omega)
        have hx : ∀ W, (Instr.index 9 (.string S) (.int .i64 2)).run Tryz.prog W = .ok (.int .u8 ((S[2]'(by omega)).toNat : Int)) W := fun W => by
          rw [run_index_string (P := Tryz.prog) W 9 S .i64 2 Tryz.underlying9, dif_pos (by omega)]
          rfl
        have hy : ∀ W, (Instr.index 9 (.string ⟨#[40, 41, 44, 46, 59, 42, 43, 45, 61, 60, 62]⟩) (.int .i64 2)).run Tryz.prog W = .ok (.int .u8 44) W := fun W => by kernel_rfl
        have hsl : ∀ W, (Instr.slice 9 (.string ⟨#[40, 41, 44, 46, 59, 42, 43, 45, 61, 60, 62]⟩) (some (.int .i64 3)) none none).run Tryz.prog W = .ok (.string ((⟨#[40, 41, 44, 46, 59, 42, 43, 45, 61, 60, 62]⟩ : ByteArray).extract (1 + 2) 11)) W := fun W => by kernel_rfl
        obtain ⟨x, hxe⟩ : ∃ x, x = (S[2]'(by omega)).toNat := ⟨_, rfl⟩
        rw [← hxe] at hx
        have hx128 : 128 ≤ x := by rw [hxe]; exact hb
        have hx256 : x < 256 := by rw [hxe]; exact UInt8.toNat_lt _
        have hne : ((44 : Int) != (x : Int)) = true := bne_iff_ne.2 (by omega)
        have hsum : IntKind.i64.wrap 3 = 3 := by rw [IntKind.wrap_i64]; omega
        have HNo := Lib.hid (indexbyte_none 1 x hx128 hx256)
        generalize (⟨#[40, 41, 44, 46, 59, 42, 43, 45, 61, 60, 62]⟩ : ByteArray).extract (1 + 2) 11 = T at hsl HNo
        clear hnb hb hxe
        go_enter Tryz.func160, Tryz.ntmps160
        go_wp2_with fail
        refine (validrune_some _ c).mono ?_
        rintro e w1 ⟨b, rfl, hw⟩
        subst hw
        cases b with
        | false =>
          go_wp2
          go_ret
          exact ⟨-1, rfl, rfl, HB0.out⟩
        | true =>
          go_wp2_with fail
          go_step3
          go_wp2_with fail
          go_loopw [9] (fun i wr => i = .int .i64 2 ∧ wr = w1) (fun i wr => 0)
          case atStart => exact ⟨by go_num, rfl⟩
          case round =>
            obtain ⟨rfl, rfl⟩ := hrel
            go_wp2_with fail
            go_step3
            go_upto_region 6 with (fail)
            go_quiet (fail)
            obtain ⟨w2, hw2⟩ : ∃ w2, w2 = wr.drewN nq := ⟨_, rfl⟩
            rw [← hw2]
            have HB2 := Lib.hid (show Below wr.heap.size wr w2 by rw [hw2]; exact drewB wr nq)
            clear hw2
            go_upto_region 7 with (fail)
            go_quiet ((go_at_call 178; exact Calls.quiet_of_same (HNo.out _)))
            go_wp2
            rw [Exit.noGoto_ret]
            go_ret
            exact ⟨-1, rfl, rfl, ⟨HB2.out.os, HB2.out.tape, HB2.out.output, HB2.out.size, HB2.out.block⟩⟩
      · have hb := hnb (by omega)
        have hx : ∀ W, (Instr.index 9 (.string S) (.int .i64 3)).run Tryz.prog W = .ok (.int .u8 ((S[3]'(by omega)).toNat : Int)) W := fun W => by
          rw [run_index_string (P := Tryz.prog) W 9 S .i64 3 Tryz.underlying9, dif_pos (by omega)]
          rfl
        have hy : ∀ W, (Instr.index 9 (.string ⟨#[40, 41, 44, 46, 59, 42, 43, 45, 61, 60, 62]⟩) (.int .i64 3)).run Tryz.prog W = .ok (.int .u8 46) W := fun W => by kernel_rfl
        have hsl : ∀ W, (Instr.slice 9 (.string ⟨#[40, 41, 44, 46, 59, 42, 43, 45, 61, 60, 62]⟩) (some (.int .i64 4)) none none).run Tryz.prog W = .ok (.string ((⟨#[40, 41, 44, 46, 59, 42, 43, 45, 61, 60, 62]⟩ : ByteArray).extract (2 + 2) 11)) W := fun W => by kernel_rfl
        obtain ⟨x, hxe⟩ : ∃ x, x = (S[3]'(by omega)).toNat := ⟨_, rfl⟩
        rw [← hxe] at hx
        have hx128 : 128 ≤ x := by rw [hxe]; exact hb
        have hx256 : x < 256 := by rw [hxe]; exact UInt8.toNat_lt _
        have hne : ((46 : Int) != (x : Int)) = true := bne_iff_ne.2 (by omega)
        have hsum : IntKind.i64.wrap 4 = 4 := by rw [IntKind.wrap_i64]; omega
        have HNo := Lib.hid (indexbyte_none 2 x hx128 hx256)
        generalize (⟨#[40, 41, 44, 46, 59, 42, 43, 45, 61, 60, 62]⟩ : ByteArray).extract (2 + 2) 11 = T at hsl HNo
        clear hnb hb hxe
        go_enter Tryz.func160, Tryz.ntmps160
        go_wp2_with fail
        refine (validrune_some _ c).mono ?_
        rintro e w1 ⟨b, rfl, hw⟩
        subst hw
        cases b with
        | false =>
          go_wp2
          go_ret
          exact ⟨-1, rfl, rfl, HB0.out⟩
        | true =>
          go_wp2_with fail
          go_step3
          go_wp2_with fail
          go_loopw [9] (fun i wr => i = .int .i64 3 ∧ wr = w1) (fun i wr => 0)
          case atStart => exact ⟨by go_num, rfl⟩
          case round =>
            obtain ⟨rfl, rfl⟩ := hrel
            go_wp2_with fail
            go_step3
            go_upto_region 6 with (fail)
            go_quiet (fail)
            obtain ⟨w2, hw2⟩ : ∃ w2, w2 = wr.drewN nq := ⟨_, rfl⟩
            rw [← hw2]
            have HB2 := Lib.hid (show Below wr.heap.size wr w2 by rw [hw2]; exact drewB wr nq)
            clear hw2
            go_upto_region 7 with (fail)
            go_quiet ((go_at_call 178; exact Calls.quiet_of_same (HNo.out _)))
            go_wp2
            rw [Exit.noGoto_ret]
            go_ret
            exact ⟨-1, rfl, rfl, ⟨HB2.out.os, HB2.out.tape, HB2.out.output, HB2.out.size, HB2.out.block⟩⟩
set_option maxHeartbeats 1600000 in
theorem containsrune_any (w : World) (c : Nat) (hc : c ≤ 1114111) : Calls Tryz.prog 141 #[.string ⟨#[40, 41, 44, 46, 59, 42, 43, 45, 61, 60, 62]⟩, .int .i32 (c : Int)] w fun e w' => e = .returned (.bool (signL c)) ∧ Below w.heap.size w w' := by
  go_enter Tryz.func141, Tryz.ntmps141
  go_wp2_with fail
  refine (indexrune_sign _ c hc).mono ?_
  rintro e w1 ⟨i, rfl, hi, hb⟩
  have HB := Lib.hid hb
  have HI := Lib.hid hi
  clear hb hi
  go_wp2
  go_ret
  exact ⟨by rw [← HI.out]; rfl, HB.out⟩
end Go.Proofs.YtknhphcfcpjhiaaGreatDoor
