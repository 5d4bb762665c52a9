/- Contract of layer 10's laid: some bytes, a hundred and twenty-eight at least. -/
import Derived.Test.YtbcjhngpcodaoaaJPage
import Derived.Test.YtbcjhngpcodaoaaJRec
import Derived.Test.YtbcjhngpcodaoaaRefR
import Derived.Deep.RegionLaw
import Derived.Deep.RegionHeld3
import Derived.BigRegion
import Derived.Deep.CutBlock
import Derived.Deep.DeepCutAuto
namespace Go.Proofs.Ytbcjhngpcodaoaa
open Go.RowKit
set_option linter.unusedVariables false
set_option maxRecDepth 100000

/-- parts of a journal that came in: four numbers each -/
def IsParts (w : World) (a : Option Addr) (len : Nat) (f : Nat → Int × Int × Int × Int) : Prop :=
  len ≤ 9223372036854775807 ∧ (len = 0 ∨ ∃ b off, a = some ⟨b, off, none⟩ ∧ b < w.heap.size ∧ ∀ i, i < len →
    w.cell? ⟨b, off + i * 4, none⟩ = some (.int .i64 (f i).1) ∧ w.cell? ⟨b, off + i * 4 + 1, none⟩ = some (.int .i64 (f i).2.1) ∧ w.cell? ⟨b, off + i * 4 + 2, none⟩ = some (.int .i64 (f i).2.2.1) ∧ w.cell? ⟨b, off + i * 4 + 3, none⟩ = some (.int .u8 (f i).2.2.2) ∧
    (-9223372036854775808 ≤ (f i).1 ∧ (f i).1 ≤ 9223372036854775807) ∧ (-9223372036854775808 ≤ (f i).2.1 ∧ (f i).2.1 ≤ 9223372036854775807) ∧ (-9223372036854775808 ≤ (f i).2.2.1 ∧ (f i).2.2.1 ≤ 9223372036854775807) ∧ (0 ≤ (f i).2.2.2 ∧ (f i).2.2.2 ≤ 255))
/-- the journal so far -/
def LInv (w : World) (v : Value) (zs : List Int) (wr : World) : Prop :=
  wr.ownsRow (w.heap.size + 1) 5 1 v zs.length (zs.map (Value.int .u8)) ∧ (∀ z ∈ zs, 0 ≤ z ∧ z ≤ 255) ∧ Below w.heap.size w wr ∧ w.heap.size + 1 ≤ wr.heap.size
theorem u64_in (n : Int) : 0 ≤ IntKind.u64.wrap n ∧ IntKind.u64.wrap n ≤ 18446744073709551615 := by rw [IntKind.wrap_u64]; omega
theorem rec20 {h : Int} (hh : 0 ≤ h ∧ h ≤ 255) : 0 ≤ IntKind.i64.wrap (h.tmod 20) ∧ IntKind.i64.wrap (h.tmod 20) ≤ 10000 := by
  rw [Int.tmod_eq_emod_of_nonneg hh.1, IntKind.wrap_i64]; omega
theorem num100 (n : Int) : 0 ≤ IntKind.i64.wrap ((IntKind.u16.wrap n).tmod 100) ∧ IntKind.i64.wrap ((IntKind.u16.wrap n).tmod 100) ≤ 10000 := by
  have h : 0 ≤ IntKind.u16.wrap n := by rw [IntKind.wrap_u16]; omega
  rw [Int.tmod_eq_emod_of_nonneg h, IntKind.wrap_i64]; omega
theorem len_add {zs rs : List Int} {k : Nat} (cn : Nat) (h : 128 ≤ zs.length ∧ zs.length ≤ 128 + 576 * k) (hr : rs.length = 576) : 128 ≤ (zs ++ rs.take cn).length ∧ (zs ++ rs.take cn).length ≤ 128 + 576 * (k + 1) := by
  rw [List.length_append, List.length_take, hr]; omega
theorem LInv.app {w wr w' : World} {v v' : Value} {zs ys : List Int} (h : LInv w v zs wr) (hown : w'.ownsRow (w.heap.size + 1) 5 1 v' (zs ++ ys).length ((zs ++ ys).map (Value.int .u8))) (hgr : wr.grownBy w' v.ownBlock) (hy : ∀ z ∈ ys, 0 ≤ z ∧ z ≤ 255) : LInv w v' (zs ++ ys) w' :=
  ⟨hown, fun z hz => (List.mem_append.1 hz).elim (h.2.1 z) (hy z), h.2.2.1.grown hgr h.2.2.1.size (fun k hk => by have := (h.1.lt k hk).1; omega), Nat.le_trans h.2.2.2 hgr.size⟩
theorem LInv.later {w wr w' : World} {v : Value} {zs : List Int} (h : LInv w v zs wr) (hb : Below wr.heap.size wr w') : LInv w v zs w' := ⟨own_below h.1 hb, h.2.1, bt h.2.2.1 hb, Nat.le_trans h.2.2.2 hb.size⟩
theorem pick3 {A B C D : Prop} (h : A ∧ B ∧ C ∧ D) : A ∧ B ∧ D := ⟨h.1, h.2.1, h.2.2.2⟩
theorem xor_u8 (a b : Int) : 0 ≤ bits .xor .u8 a b ∧ bits .xor .u8 a b ≤ 255 := by
  have e : bits .xor .u8 a b = IntKind.u8.wrap ((BitVec.ofInt 8 a ^^^ BitVec.ofInt 8 b).toNat : Int) := rfl
  rw [e, IntKind.wrap_u8]; omega
/-- what laid answers -/
def LaidPost (w : World) (e : Ending) (w' : World) : Prop :=
  ∃ g n c zs, e = .returned (.slice (some ⟨g, 0, none⟩) n c) ∧ IsB w' (some ⟨g, 0, none⟩) n zs ∧ g < w'.heap.size ∧ n ≤ c ∧ n ≤ 8000 ∧ Below w.heap.size w w'

set_option maxHeartbeats 6400000 in
theorem laid_any (salt p h0 h1 at1 by1 : Int) (la : Option Addr) (ln lc : Nat) (f : Nat → Int × Int × Int × Int) (w : World) (hs : 0 ≤ salt ∧ salt ≤ 18446744073709551615) (hp : 0 ≤ p ∧ p ≤ 255) (hh0 : 0 ≤ h0 ∧ h0 ≤ 255) (hh1 : 0 ≤ h1 ∧ h1 ≤ 255) (hat : 0 ≤ at1 ∧ at1 ≤ 18446744073709551615) (hby : 0 ≤ by1 ∧ by1 ≤ 255) (hL : IsParts w la ln f) :
    Calls Try.prog 12 #[.int .u64 salt, .int .i64 p, .slice la ln lc, .agg #[.int .u8 h0, .int .u8 h1], .int .u64 at1, .int .u8 by1] w (LaidPost w) := by
  have hm := hL.1
  have HS := Lib.hid hs
  have HP := Lib.hid hp
  have HAt := Lib.hid hat
  have HBy := Lib.hid hby
  have HL := Lib.hid hL
  have HX0 := Lib.hid (show (w.alloc (.cells #[.int .u8 h0, .int .u8 h1] 24)).heap[w.heap.size]? = some (.cells #[.int .u8 h0, .int .u8 h1] 24 (0, 0)) from Go.heap_alloc_new w _)
  have HB0 := Lib.hid (bel0 (.cells #[.int .u8 h0, .int .u8 h1] 24) (Below.refl w.heap.size w))
  have HH := Lib.hid (show ∀ k, k < 2 → 0 ≤ (if k = 0 then h0 else h1) ∧ (if k = 0 then h0 else h1) ≤ 255 from fun k _ => by split <;> assumption)
  clear hs hp hh0 hh1 hat hby hL
  go_enter Try.func12, Try.ntmps12
  go_wp2
  go_loopw [13, 21] (fun v i wr => ∃ (k : Nat) (zs : List Int), k ≤ 2 ∧ i = .int .i64 (k : Int) ∧ Hid (zs.length = 64 * k) ∧ Hid (LInv w v zs wr) ∧ Hid (wr.heap[w.heap.size]? = some (.cells #[.int .u8 h0, .int .u8 h1] 24 (0, 0)))) (fun _ i _ => 2 - (intOf i).toNat)
  case atStart => exact ⟨0, [], by omega, rfl, Lib.hid rfl, Lib.hid ⟨World.ownsRow_nil _ _ _ _, by simp, HB0.out, by simp⟩, HX0⟩
  case round =>
    obtain ⟨k, zs, hk, rfl, HZ, HR, HX⟩ := hrel
    obtain ⟨v, rfl⟩ : ∃ v, v = u13 := ⟨_, rfl⟩
    clear HX0 HB0
    by_cases hlt : k < 2
    · have hki : (k : Int) < 2 := by omega
      have hk0 : (0 : Int) ≤ (k : Int) := by omega
      have q : wr.cell? ⟨w.heap.size, k, none⟩ = some (.int .u8 (if k = 0 then h0 else h1)) := by
        rw [cell_of_row _ _ k _ _ _ HX.out]
        have : k = 0 ∨ k = 1 := by omega
        rcases this with rfl | rfl <;> rfl
      have hh := HH.out k hlt
      generalize (if k = 0 then h0 else h1) = hx at *
      go_upto_region 5 with (fail)
      have HXl := Lib.hid (Array.getElem?_eq_some_iff.1 HX.out).1
      refine wp_region_noPanic ?_
      go_region_held3 (fun W => W.cell? ⟨w.heap.size, k, none⟩ = some (.int .u8 hx) ∧ Below wr.heap.size wr W)
        (first | exact ⟨q, Below.refl _ _⟩ | exact ⟨q, (Below.refl _ _).drew⟩ | exact hS8)
        (first
          | (go_at_call 66; refine (rhead_good _ _ _ _ (u64_in _).1 (u64_in _).2 ⟨HP.out.1, by have := HP.out.2; omega⟩ (rec20 hh)).mono ?_; rintro e w8 ⟨v8, rfl, hown8, hb8⟩; have hb9 : Below wr.heap.size wr w8 := ⟨hb8.os, hb8.tape, hb8.output, hb8.size, hb8.block⟩; rw [headK_length] at hown8; obtain ⟨g8, c8, rfl⟩ := own_addr hown8 (by omega); have HI8 := Lib.hid (own_isB hown8 (headK_length _ _ _) (headK_range _ _ _)); have HY8 := Lib.hid (headK_range (IntKind.u64.wrap (salt + IntKind.u64.wrap (IntKind.u8.wrap (hx.tdiv 200)))) p (IntKind.i64.wrap (hx.tmod 20))); have HY9 := Lib.hid (headK_length (IntKind.u64.wrap (salt + IntKind.u64.wrap (IntKind.u8.wrap (hx.tdiv 200)))) p (IntKind.i64.wrap (hx.tmod 20))); have HB8 := Lib.hid hb9; have hS8 := And.intro ((hb9.cell (p := ⟨w.heap.size, k, none⟩) HXl.out).trans q) hb9; clear hb8 hb9 hown8))
      refine NoPanic.normal ?_
      generalize headK (IntKind.u64.wrap (salt + IntKind.u64.wrap (IntKind.u8.wrap (hx.tdiv 200)))) p (IntKind.i64.wrap (hx.tmod 20)) = ys at *
      have HR8 := Lib.hid (HR.out.later HB8.out)
      have HX8 := Lib.hid ((HB8.out.block _ HXl.out).trans HX.out)
      have HLt := Lib.hid hlt
      have HZl := Lib.hid (show zs.length ≤ 64 by rw [HZ.out]; omega)
      clear q hlt hk hS8
      go_wp2_with (at_builtin; refine wpList_slice rfl (.tmp 41) (.tmp 42) rfl (w.heap.size + 1) v zs (some ⟨g8, 0, none⟩) 64 c8 ys rfl rfl HR8.out.1 HI8.out (by intro h; cases h) (by have := HZl.out; omega) HR8.out.2.2.2 ?_)
      intro v9 w9 hown9 hgr9
      have HR9 := Lib.hid (HR8.out.app (v' := v9) (by simpa using hown9) hgr9 HY8.out)
      have HX9 := Lib.hid ((hgr9.block w.heap.size (Nat.lt_of_lt_of_le HXl.out HB8.out.size) (fun e => by have := (HR8.out.1.lt _ e.symm).1; omega)).trans HX8.out)
      clear hown9 hgr9
      go_wp2
      go_roundw
      case rel => exact ⟨k + 1, zs ++ ys, HLt.out, by go_num, Lib.hid (by rw [List.length_append, HZ.out, HY9.out]; omega), HR9, HX9⟩
      case measure => have := HLt.out; simp [intOf]; omega
    · obtain rfl : k = 2 := by omega
      clear HX
      go_wp2
      have HZ2 := Lib.hid (show 128 ≤ zs.length ∧ zs.length ≤ 128 + 576 * 0 by rw [HZ.out]; omega)
      go_loopw [13, 47] (fun v i wr => ∃ (k : Nat) (zs : List Int), k ≤ 12 ∧ i = .int .i64 (k : Int) ∧ Hid (128 ≤ zs.length ∧ zs.length ≤ 128 + 576 * k) ∧ Hid (LInv w v zs wr)) (fun _ i _ => 12 - (intOf i).toNat)
      case atStart => exact ⟨0, zs, by omega, rfl, HZ2, HR⟩
      case round =>
        clear HZ HR HZ2
        obtain ⟨k, zs, hk, rfl, HZ, HR⟩ := hrel
        obtain ⟨v, rfl⟩ : ∃ v, v = u13 := ⟨_, rfl⟩
        have hk0 : (0 : Int) ≤ (k : Int) := by omega
        by_cases hlt : k < 12 ∧ k < ln
        · obtain ⟨h12, hln⟩ := hlt
          have hki : (k : Int) < 12 := by omega
          have hkn : (k : Int) < (ln : Int) := by omega
          rcases HL.out.2 with h0 | ⟨b, off, rfl, hb, hcs⟩
          · omega
          obtain ⟨p0, p1, p2, p3, i0, i1, i2, i3⟩ := hcs k hln
          have HKk := Lib.hid (show k < ln ∧ k < 12 from ⟨hln, h12⟩)
          have HPa := Lib.hid (show ∀ W, Below w.heap.size w W → W.cell? ⟨b, off + k * 4, none⟩ = some (.int .i64 (f k).1) ∧ W.cell? ⟨b, off + k * 4 + 1, none⟩ = some (.int .i64 (f k).2.1) ∧ W.cell? ⟨b, off + k * 4 + 2, none⟩ = some (.int .i64 (f k).2.2.1) ∧ W.cell? ⟨b, off + k * 4 + 3, none⟩ = some (.int .u8 (f k).2.2.2) from fun W hW =>
            ⟨(hW.cell (p := ⟨b, off + k * 4, none⟩) hb).trans p0, (hW.cell (p := ⟨b, off + k * 4 + 1, none⟩) hb).trans p1, (hW.cell (p := ⟨b, off + k * 4 + 2, none⟩) hb).trans p2, (hW.cell (p := ⟨b, off + k * 4 + 3, none⟩) hb).trans p3⟩)
          have Hi3 := Lib.hid i3
          have Hi2 := Lib.hid i2
          clear p0 p1 p2 p3 i0 i1 i2 i3 hcs hb hk h12 hln
          generalize (f k).1 = ps at *
          generalize (f k).2.1 = pn at *
          generalize (f k).2.2.1 = ct at *
          generalize (f k).2.2.2 = pb at *
          obtain ⟨q0, q1, q2, q3⟩ := HPa.out wr HR.out.2.2.1
          go_upto_region 12 with (fail)
          refine wp_region_noPanic ?_
          go_region_held3 (fun W => (W.cell? ⟨b, off + k * 4, none⟩ = some (.int .i64 ps) ∧ W.cell? ⟨b, off + k * 4 + 1, none⟩ = some (.int .i64 pn) ∧ W.cell? ⟨b, off + k * 4 + 3, none⟩ = some (.int .u8 pb)) ∧ Below wr.heap.size wr W)
            (first | exact ⟨⟨q0, q1, q3⟩, Below.refl _ _⟩ | exact ⟨⟨q0, q1, q3⟩, (Below.refl _ _).drew⟩ | exact hS8 | exact hS7)
            (first
              | (go_at_call 18; refine (page_any pb Hi3.out _).mono ?_; rintro e w7 ⟨g7, ys7, rfl, hP7⟩; have hb7 : Below wr.heap.size wr w7 := ⟨hP7.2.2.2.os, hP7.2.2.2.tape, hP7.2.2.2.output, hP7.2.2.2.size, hP7.2.2.2.block⟩; have HB7 := Lib.hid hb7; have HI7 := Lib.hid (own_isB hP7.1 hP7.2.1 hP7.2.2.1); have HG7 := Lib.hid (own_low hP7.1); have HY7 := Lib.hid hP7.2.1; have hS7 := And.intro (pick3 (HPa.out w7 (bt HR.out.2.2.1 hb7))) hb7; clear hb7 hP7)
              | (go_at_call 67; refine (rrecord_good _ _ (some ⟨g7, 0, none⟩) 512 ys7 _ (u64_in _).1 (u64_in _).2 (num100 _) (by exact HI7.out) (by intro x _ hx; cases hx; exact HG7.out) (by intro h; cases h)).mono ?_; rintro e w8 ⟨v8, rfl, hown8, hb8⟩; have hb9 : Below w7.heap.size w7 w8 := ⟨hb8.os, hb8.tape, hb8.output, hb8.size, hb8.block⟩; rw [recK_length _ _ HY7.out] at hown8; obtain ⟨g8, c8, rfl⟩ := own_addr hown8 (by omega); have HRk := Lib.hid (show ∃ rs : List Int, rs.length = 576 ∧ (∀ z ∈ rs, 0 ≤ z ∧ z ≤ 255) ∧ IsB w8 (some ⟨g8, 0, none⟩) 576 rs from ⟨_, recK_length _ _ HY7.out, recK_range _ _ HI7.out.mem, own_isB hown8 (recK_length _ _ HY7.out) (recK_range _ _ HI7.out.mem)⟩); have HCap := Lib.hid (cap_le hown8).1; have HB8 := Lib.hid hb9; have hS8 := And.intro (pick3 (HPa.out w8 (bt HR.out.2.2.1 (bt HB7.out hb9)))) (bt HB7.out hb9); clear hb8 hb9 hown8))
          refine NoPanic.normal ?_
          obtain ⟨rs, hrl, hrr, hri⟩ := HRk.out
          have HY8 := Lib.hid hrr
          have HY9 := Lib.hid hrl
          have HI8 := Lib.hid hri
          have hbw := bt HB7.out HB8.out
          have HR8 := Lib.hid (HR.out.later hbw)
          obtain ⟨s0, s1, s2, s3⟩ := HPa.out w8 (bt HR.out.2.2.1 hbw)
          clear q0 q1 q2 q3 s0 s1 s3 hS7 hS8 hrl hrr hri hbw HRk
          rcases (show ct ≤ 0 ∨ (0 < ct ∧ ct < 576) ∨ 576 ≤ ct by omega) with hct | ⟨hct1, hct2⟩ | hct
          · skip
            have hc1 : ¬ 0 < ct := by omega
            have hsl : ∀ W, (Instr.slice 26 (.slice (some ⟨g8, 0, none⟩) 576 c8) none (some (.int .i64 576)) none).run Try.prog W = .ok (.slice (some ⟨g8, 0, none⟩) 576 c8) W := fun W => slice_h _ 576 c8 576 (by have := HCap.out; omega) .i64 W
            clear hct
            go_wp2_with (at_builtin; refine wpList_slice rfl (.tmp 95) (.tmp 98) rfl (w.heap.size + 1) v zs (some ⟨g8, 0, none⟩) 576 c8 (rs.take 576) rfl rfl HR8.out.1 (isB_take HI8.out (by omega)) (by intro h; cases h) (by have := HZ.out.2; have := HKk.out.2; omega) HR8.out.2.2.2 ?_)
            intro v9 w9 hown9 hgr9
            have HR9 := Lib.hid (HR8.out.app (v' := v9) (by simpa using hown9) hgr9 (fun x hx => HY8.out x (List.mem_of_mem_take hx)))
            clear hown9 hgr9
            go_wp2
            go_roundw
            case rel =>
              repeat apply Exists.intro
              refine ⟨?_, rfl⟩
              exact ⟨k + 1, zs ++ rs.take 576, by have := HKk.out.2; omega, by go_num, Lib.hid (len_add 576 HZ.out HY9.out), HR9⟩
            case measure => have := HKk.out; simp [intOf]; omega
          · skip
            obtain ⟨cn, rfl⟩ : ∃ cn : Nat, ct = (cn : Int) := ⟨ct.toNat, by omega⟩
            have hc2 : (cn : Int) < 576 := hct2
            have hc0 : (0 : Int) < (cn : Int) := hct1
            have hcn : cn ≤ 576 := by omega
            have hsl : ∀ W, (Instr.slice 26 (.slice (some ⟨g8, 0, none⟩) 576 c8) none (some (.int .i64 (cn : Int))) none).run Try.prog W = .ok (.slice (some ⟨g8, 0, none⟩) cn c8) W := fun W => slice_h _ 576 c8 cn (by have := HCap.out; omega) .i64 W
            clear hct1 hct2
            go_wp2_with (at_builtin; refine wpList_slice rfl (.tmp 95) (.tmp 98) rfl (w.heap.size + 1) v zs (some ⟨g8, 0, none⟩) cn c8 (rs.take cn) rfl rfl HR8.out.1 (isB_take HI8.out (by omega)) (by intro h; cases h) (by have := HZ.out.2; have := HKk.out.2; omega) HR8.out.2.2.2 ?_)
            intro v9 w9 hown9 hgr9
            have HR9 := Lib.hid (HR8.out.app (v' := v9) (by simpa using hown9) hgr9 (fun x hx => HY8.out x (List.mem_of_mem_take hx)))
            clear hown9 hgr9
            go_wp2
            go_roundw
            case rel =>
              repeat apply Exists.intro
              refine ⟨?_, rfl⟩
              exact ⟨k + 1, zs ++ rs.take cn, by have := HKk.out.2; omega, by go_num, Lib.hid (len_add cn HZ.out HY9.out), HR9⟩
            case measure => have := HKk.out; simp [intOf]; omega
          · skip
            have hc0 : (0 : Int) < ct := by omega
            have hc3 : ¬ ct < 576 := by omega
            have hsl : ∀ W, (Instr.slice 26 (.slice (some ⟨g8, 0, none⟩) 576 c8) none (some (.int .i64 576)) none).run Try.prog W = .ok (.slice (some ⟨g8, 0, none⟩) 576 c8) W := fun W => slice_h _ 576 c8 576 (by have := HCap.out; omega) .i64 W
            clear hct
            go_wp2_with (at_builtin; refine wpList_slice rfl (.tmp 95) (.tmp 98) rfl (w.heap.size + 1) v zs (some ⟨g8, 0, none⟩) 576 c8 (rs.take 576) rfl rfl HR8.out.1 (isB_take HI8.out (by omega)) (by intro h; cases h) (by have := HZ.out.2; have := HKk.out.2; omega) HR8.out.2.2.2 ?_)
            intro v9 w9 hown9 hgr9
            have HR9 := Lib.hid (HR8.out.app (v' := v9) (by simpa using hown9) hgr9 (fun x hx => HY8.out x (List.mem_of_mem_take hx)))
            clear hown9 hgr9
            go_wp2
            go_roundw
            case rel =>
              repeat apply Exists.intro
              refine ⟨?_, rfl⟩
              exact ⟨k + 1, zs ++ rs.take 576, by have := HKk.out.2; omega, by go_num, Lib.hid (len_add 576 HZ.out HY9.out), HR9⟩
            case measure => have := HKk.out; simp [intOf]; omega
        · have hz1 : 128 ≤ zs.length := HZ.out.1
          have hz2 : zs.length ≤ 8000 := by have := HZ.out.2; omega
          obtain ⟨g, c, rfl⟩ := own_addr HR.out.1 (by omega)
          obtain ⟨r, hrr⟩ : ∃ r : Nat, at1 % (zs.length : Int) = (r : Int) := ⟨(at1 % (zs.length : Int)).toNat, by have := Int.emod_nonneg at1 (show (zs.length : Int) ≠ 0 by omega); omega⟩
          have hr1 : r < zs.length := by have := Int.emod_lt_of_pos at1 (show (0 : Int) < (zs.length : Int) by omega); omega
          have q := own_cell HR.out.1 rfl r hr1
          have fz := own_frozen HR.out.1 r
          have hx := xor_u8 (zs.getD r 0) by1
          have HN := Lib.hid (show LaidPost w (.returned (.slice (some ⟨g, 0, none⟩) zs.length c)) (wr.setCell ⟨g, r, none⟩ (.int .u8 (bits .xor .u8 (zs.getD r 0) by1))) from
            ⟨g, zs.length, c, _, rfl, own_isB (own_set HR.out.1 r hr1 _) (by simp) (set_range HR.out.2.1 r _ hx), own_low (own_set HR.out.1 r hr1 (bits .xor .u8 (zs.getD r 0) by1)), (cap_le HR.out.1).1, hz2, HR.out.2.2.1.setCell (by show w.heap.size ≤ g; have := own_lo HR.out.1; omega) _⟩)
          have a0 := HAt.out.1
          have a1 := HAt.out.2
          have hri : (r : Int) < (zs.length : Int) := by omega
          have hr0 : (0 : Int) ≤ (r : Int) := by omega
          have hl0 : (0 : Int) < (zs.length : Int) := by omega
          have hl1 : (zs.length : Int) ≤ 8000 := by omega
          clear hx hr1 hz1 hz2 HR HZ
          generalize zs.getD r 0 = xr at *
          generalize zs.length = L at *
          rcases (show (ln : Int) ≤ (k : Int) ∨ ((k : Int) < (ln : Int) ∧ (12 : Int) ≤ (k : Int)) by omega) with he | ⟨he1, he2⟩
          · clear hlt hk
            go_wp2
            go_ret
            exact HN.out
          · clear hlt hk
            go_wp2
            go_ret
            exact HN.out
end Go.Proofs.Ytbcjhngpcodaoaa
