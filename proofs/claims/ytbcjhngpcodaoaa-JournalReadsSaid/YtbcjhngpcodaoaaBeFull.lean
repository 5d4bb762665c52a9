/- bigend's Append onto a slice that has no room, whatever block it lies in: the mark of a head. -/
import Derived.Test.YtbcjhngpcodaoaaFillW
import Derived.ArgAppend
import Derived.Lib.SlBytesConst
namespace Go.Proofs.Ytbcjhngpcodaoaa
open Go.RowKit
set_option linter.unusedVariables false
set_option maxRecDepth 100000

set_option maxHeartbeats 1600000 in
theorem beAppend_full (a : Addr) (L : Nat) (zs : List Int) (n : Int) (h0 : 0 ≤ n) (h1 : n ≤ 18446744073709551615) (k : Nat) (hk0 : 1 ≤ k) (hk : k ≤ 8) (w : World) (hlen : L ≤ 1000000000)
    (hI : IsB w (some a) L zs) (ha : L ≠ 0 → a.block < w.heap.size) :
    Calls Try.prog 75 #[.slice (some a) L L, .int .u64 n, .int .i64 k] w (OwnPostG w w.heap.size none (zs ++ beN n k)) := by
  have HI := Lib.hid hI
  have HA := Lib.hid ha
  have HLz := Lib.hid hI.1
  obtain ⟨i0, hi, hz0, hz1, hz2⟩ := info_parts info5
  clear hI ha
  go_enter Try.func75, Try.ntmps75
  go_wp2
  go_loopw [0, 7] (fun u i wr => ∃ (j m : Nat), Hid (j + m = k) ∧ i = .int .i64 (8 * (m : Int) - 8) ∧ Hid ((j = 0 ∧ u = .slice (some a) L L ∧ wr = w) ∨ (1 ≤ j ∧ wr.ownsRow w.heap.size 5 1 u (zs ++ (beN n k).take j).length ((zs ++ (beN n k).take j).map (Value.int .u8)) ∧ w.grownBy wr none ∧ FromRow w none u.ownBlock))) (fun _ i _ => (intOf i + 8).toNat)
  case atStart => exact ⟨0, k, Lib.hid (by omega), by rw [show 8 * ((k : Int) - 1) = 8 * (k : Int) - 8 by omega], Lib.hid (.inl ⟨rfl, rfl, rfl⟩)⟩
  case round =>
    obtain ⟨j, m, HJ, rfl, HR⟩ := hrel
    cases m with
    | zero =>
      have HE := Lib.hid (show (beN n k).take j = beN n k from List.take_of_length_le (by rw [beN_length]; have := HJ.out; omega))
      rcases HR.out with ⟨hj, _⟩ | ⟨_, ho, hg, _⟩
      · have := HJ.out; omega
      have HO := Lib.hid ho
      have HG := Lib.hid hg
      clear ho hg HR
      go_wp2
      go_ret
      refine ⟨_, rfl, ?_, HG.out⟩
      have := HO.out
      rw [HE.out] at this
      exact this
    | succ m =>
      have e1 : 8 * ((m + 1 : Nat) : Int) - 8 = 8 * (m : Int) := by omega
      rw [e1]
      have hm8 : (m : Int) ≤ 7 := by have := HJ.out; omega
      have e2 : (8 * (m : Int)).toNat = 8 * m := by omega
      have e3 : (0 : Int) ≤ 8 * (m : Int) := by omega
      have HT := Lib.hid (beN_take n k j (by have := HJ.out; omega))
      clear e1
      rcases HR.out with ⟨hj, hu, hw⟩ | ⟨hj, ho, hg, hf⟩
      · obtain ⟨u, hu'⟩ : ∃ u, u = u0 := ⟨_, rfl⟩
        subst hj
        rw [← hu'] at hu
        subst hu'
        subst hu
        subst hw
        have HNx := Lib.hid (show zs ++ (beN n k).take 1 = zs ++ [n / 2 ^ (8 * m) % 256] by
          have := HT.out
          rw [show k - 1 - 0 = m by have := HJ.out; omega] at this
          rw [this]; simp)
        clear HR HT
        go_wp2_with (at_builtin; refine wpList_append_grows _ rfl (.tmp 15) (.tmp 20) 26 rfl 5 i0 (.int .u8 0) 1 1 Try.underlying26 hi hz0 hz1 hz2 rfl (by decide) (some a) L L (zs.map (Value.int .u8)) rfl ?c1 ?c2 ?c3 ⟨wr.heap.size, 0, none⟩ 1 1 [.int .u8 (n / 2 ^ (8 * m) % 256)] rfl rfl ?c4 ?c5 ?c6 ?c7 ?c8 ?_)
        case c1 => intro h; cases h
        case c2 => simp [HLz.out]
        case c3 =>
          intro b hb j x hx
          cases hb
          exact ((HI.out.below (bel0 (.cells #[.int .u8 (n / 2 ^ (8 * m) % 256)] 5) (Below.refl wr.heap.size wr)) (fun y hy he => by cases he; exact HA.out hy)).cells _ rfl j x hx)
        case c4 =>
          intro j x hx
          match j, hx with
          | 0, hx => simp at hx; subst hx; simp [go_sem]
          | j + 1, hx => simp at hx
        case c5 => intro x hx; simp at hx; subst hx; rfl
        case c6 => omega
        case c7 => unfold maxLen; omega
        case c8 => omega
        intro v3 w3 hown3 hgrow3
        have hown3' : w3.ownsRow wr.heap.size 5 1 v3 (zs ++ (beN n k).take 1).length ((zs ++ (beN n k).take 1).map (Value.int .u8)) := by
          rw [HNx.out, List.length_append, HLz.out]
          refine ownsRow_base (B := wr.heap.size + 1) ?_ (by omega)
          simpa using hown3
        have hL3 : (zs ++ (beN n k).take 1).length ≠ 0 := by rw [HNx.out, List.length_append]; simp
        have hfr : FromRow wr none v3.ownBlock := by
          obtain ⟨g3, c3, rfl⟩ := own_addr hown3' hL3
          exact .inr ⟨g3, rfl, own_lo hown3'⟩
        have HO3 := Lib.hid hown3'
        have HG3 := Lib.hid (grown_step (grown_alloc (World.grownBy.refl wr none) (.cells #[.int .u8 (n / 2 ^ (8 * m) % 256)] 5)) (.inl rfl) hgrow3)
        have HF3 := Lib.hid hfr
        clear hown3 hown3' hgrow3 hL3 hfr
        go_wp2
        go_roundw
        case rel => exact ⟨1, m, Lib.hid (by have := HJ.out; omega), rfl, Lib.hid (.inr ⟨by omega, HO3.out, HG3.out, HF3.out⟩)⟩
        case measure => simp [intOf]; omega
      · obtain ⟨u, rfl⟩ : ∃ u, u = u0 := ⟨_, rfl⟩
        obtain ⟨P, hP⟩ : ∃ P, P = zs ++ (beN n k).take j := ⟨_, rfl⟩
        have HNx := Lib.hid (show zs ++ (beN n k).take (j + 1) = P ++ [n / 2 ^ (8 * m) % 256] by
          rw [HT.out, hP, show k - 1 - j = m by have := HJ.out; omega, List.append_assoc])
        have hPl : P.length ≤ 1000000008 := by have := HJ.out; rw [hP, List.length_append, List.length_take, beN_length, HLz.out]; omega
        rw [← hP] at ho
        have HO := Lib.hid ho
        have HG := Lib.hid hg
        have HF := Lib.hid hf
        clear hP HT HR ho hg hf
        go_wp2_with (at_builtin; refine wpList_byte rfl (.tmp 15) (.tmp 20) rfl w.heap.size u P wr.heap.size (n / 2 ^ (8 * m) % 256) rfl rfl (HO.out.alloc _) ?a1 ?a2 ?a3 ?_)
        case a1 => simp [go_sem]
        case a2 => omega
        case a3 => have := HG.out.size; simp; omega
        intro g1 c1 w3 hown3 hgrow3 hat3 _
        have hown3' : w3.ownsRow w.heap.size 5 1 (.slice (some ⟨g1, 0, none⟩) (P.length + 1) c1) (zs ++ (beN n k).take (j + 1)).length ((zs ++ (beN n k).take (j + 1)).map (Value.int .u8)) := by
          rw [HNx.out]
          simpa using hown3
        have HO3 := Lib.hid hown3'
        have HB3 := Lib.hid (grown_step (grown_alloc HG.out (.cells #[.int .u8 (n / 2 ^ (8 * m) % 256)] 5)) HF.out hgrow3)
        have HF3 := Lib.hid (from_new HF.out (by have := HG.out.size; omega) hat3)
        clear hown3 hown3' hgrow3 hat3
        go_wp2
        go_roundw
        case rel => exact ⟨j + 1, m, Lib.hid (by have := HJ.out; omega), rfl, Lib.hid (.inr ⟨by omega, HO3.out, HB3.out, HF3.out⟩)⟩
        case measure => simp [intOf]; omega
end Go.Proofs.Ytbcjhngpcodaoaa
