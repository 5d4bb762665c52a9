/- Contracts of bigend's Append, keys' appendText, appendValue, Key. -/
import Derived.Test.YtplgkblahmndoaaApp1
import Derived.Test.YtplgkblahmndoaaVal0
import Derived.Test.YtplgkblahmndoaaKeyPure
import Derived.Deep.RegionHeld3
namespace Go.Proofs.Ytplgkblahmndoaa
open Go.RowKit
set_option linter.unusedVariables false
set_option maxRecDepth 100000

/-- what an appending function leaves: a row of the call's own; nothing has turned but the row that was appended to -/
def OwnPostG (w : World) (B : Nat) (r0 : Option Nat) (zs : List Int) (e : Ending) (w' : World) : Prop :=
  ∃ v : Value, e = .returned v ∧ w'.ownsRow B 5 1 v zs.length (zs.map (Value.int .u8)) ∧ w.grownBy w' r0

theorem beN_split (n : Int) (k j : Nat) : ∀ i, i ≤ k → (beN n k).take i ++ beN n (k - i) = beN n k
  | 0, _ => by simp
  | i + 1, h => by
    have ih := beN_split n k j i (by omega)
    obtain ⟨r, hr⟩ : ∃ r, k - i = r + 1 := ⟨k - i - 1, by omega⟩
    have e : (beN n k).drop i = beN n (k - i) := by
      have := congrArg (List.drop i) ih
      rw [List.drop_append_of_le_length (by rw [List.length_take, beN_length]; omega), List.drop_of_length_le (by rw [List.length_take, beN_length]; omega)] at this
      simpa using this.symm
    have e2 : (beN n k).drop (i + 1) = beN n (k - (i + 1)) := by
      rw [← List.drop_drop, e, hr, show k - (i + 1) = r by omega]
      rfl
    rw [← e2, List.take_append_drop]
theorem beN_drop (n : Int) (k i : Nat) (h : i ≤ k) : (beN n k).drop i = beN n (k - i) := by
  have := congrArg (List.drop i) (beN_split n k 0 i h)
  rw [List.drop_append_of_le_length (by rw [List.length_take, beN_length]; omega), List.drop_of_length_le (by rw [List.length_take, beN_length]; omega)] at this
  simpa using this.symm
theorem beN_take (n : Int) (k i : Nat) (h : i < k) : (beN n k).take (i + 1) = (beN n k).take i ++ [(n / 2 ^ (8 * (k - 1 - i))) % 256] := by
  have e := beN_drop n k i (by omega)
  obtain ⟨r, hr⟩ : ∃ r, k - i = r + 1 := ⟨k - i - 1, by omega⟩
  rw [hr] at e
  rw [List.take_succ_eq_append_getElem (by rw [beN_length]; exact h)]
  have : (beN n k)[i]'(by rw [beN_length]; exact h) = (n / 2 ^ (8 * r)) % 256 := by
    have h2 := congrArg (fun l => l[0]?) e
    simp [beN] at h2
    rw [List.getElem?_eq_getElem (by rw [beN_length]; exact h)] at h2
    exact Option.some.inj h2
  rw [this, show k - 1 - i = r by omega]

set_option maxHeartbeats 1600000 in
theorem beAppend_any (B : Nat) (v : Value) (zs : List Int) (n : Int) (h0 : 0 ≤ n) (h1 : n ≤ 18446744073709551615) (k : Nat) (hk : k ≤ 8) (w : World) (hlen : zs.length ≤ 1000000000) (hB : B ≤ w.heap.size)
    (hown : w.ownsRow B 5 1 v zs.length (zs.map (Value.int .u8))) :
    Calls Try.prog 161 #[v, .int .u64 n, .int .i64 k] w (OwnPostG w B v.ownBlock (zs ++ beN n k)) := by
  have HO := Lib.hid hown
  clear hown
  go_enter Try.func161, Try.ntmps161
  go_wp2
  go_loopw [0, 7] (fun u i wr => ∃ (j m : Nat), Hid (j + m = k) ∧ i = .int .i64 (8 * (m : Int) - 8) ∧ Hid (wr.ownsRow B 5 1 u (zs ++ (beN n k).take j).length ((zs ++ (beN n k).take j).map (Value.int .u8)) ∧ w.grownBy wr v.ownBlock ∧ FromRow w v.ownBlock u.ownBlock)) (fun _ i _ => (intOf i + 8).toNat)
  case atStart => exact ⟨0, k, Lib.hid (by omega), by rw [show 8 * ((k : Int) - 1) = 8 * (k : Int) - 8 by omega], Lib.hid ⟨by simpa using HO.out, World.grownBy.refl _ _, .inl rfl⟩⟩
  case round =>
    obtain ⟨j, m, HJ, rfl, HR⟩ := hrel
    cases m with
    | zero =>
      have HE := Lib.hid (show (beN n k).take j = beN n k from List.take_of_length_le (by rw [beN_length]; have := HJ.out; omega))
      go_wp2
      go_ret
      refine ⟨_, rfl, ?_, HR.out.2.1⟩
      have := HR.out.1
      rw [HE.out] at this
      exact this
    | succ m =>
      have e1 : 8 * ((m + 1 : Nat) : Int) - 8 = 8 * (m : Int) := by omega
      rw [e1]
      have hm8 : (m : Int) ≤ 7 := by have := HJ.out; omega
      have e2 : (8 * (m : Int)).toNat = 8 * m := by omega
      have e3 : (0 : Int) ≤ 8 * (m : Int) := by omega
      have HT := Lib.hid (beN_take n k j (by have := HJ.out; omega))
      obtain ⟨u, rfl⟩ : ∃ u, u = u0 := ⟨_, rfl⟩
      clear e1
      obtain ⟨P, hP⟩ : ∃ P, P = zs ++ (beN n k).take j := ⟨_, rfl⟩
      have HNx := Lib.hid (show zs ++ (beN n k).take (j + 1) = P ++ [n / 2 ^ (8 * m) % 256] by
        rw [HT.out, hP, show k - 1 - j = m by have := HJ.out; omega, List.append_assoc])
      have hPl : P.length ≤ 1000000008 := by have := HJ.out; rw [hP, List.length_append, List.length_take, beN_length]; omega
      rw [← hP] at HR
      clear hP HT
      go_wp2_with (at_builtin; refine wpList_byte rfl (.tmp 15) (.tmp 20) rfl B u P wr.heap.size (n / 2 ^ (8 * m) % 256) rfl rfl (HR.out.1.alloc _) ?a1 ?a2 ?a3 ?_)
      case a1 => simp [go_sem]
      case a2 => omega
      case a3 => have := HR.out.2.1.size; simp; omega
      intro g1 c1 w3 hown3 hgrow3 hat3 _
      have hown3' : w3.ownsRow B 5 1 (.slice (some ⟨g1, 0, none⟩) (P.length + 1) c1) (zs ++ (beN n k).take (j + 1)).length ((zs ++ (beN n k).take (j + 1)).map (Value.int .u8)) := by
        rw [HNx.out]
        simpa using hown3
      have HO3 := Lib.hid hown3'
      have HB3 := Lib.hid (grown_step (grown_alloc HR.out.2.1 (.cells #[.int .u8 (n / 2 ^ (8 * m) % 256)] 5)) HR.out.2.2 hgrow3)
      have HF3 := Lib.hid (from_new HR.out.2.2 (by have := HR.out.2.1.size; omega) hat3)
      clear hown3 hown3' hgrow3 hat3
      go_wp2
      go_roundw
      case rel => exact ⟨j + 1, m, Lib.hid (by have := HJ.out; omega), rfl, Lib.hid ⟨HO3.out, HB3.out, HF3.out⟩⟩
      case measure => simp [intOf]; omega

/-- the bytes of a text up to the j-th one -/
theorem esc_one (z : Int) : esc [z] = if z = 0 then [0, 255] else [z] := by by_cases hz : z = 0 <;> simp [esc, hz]
theorem esc_take {l : List Int} {j : Nat} (h : j < l.length) : esc (l.take (j + 1)) = esc (l.take j) ++ (if l.getD j 0 = 0 then [0, 255] else [l.getD j 0]) := by
  rw [List.take_succ_eq_append_getElem h, esc_append, List.getD_eq_getElem?_getD, List.getElem?_eq_getElem h, esc_one]
  rfl

set_option maxHeartbeats 1600000 in
theorem appendText_any (B : Nat) (v : Value) (zs : List Int) (t : ByteArray) (ht : t.size ≤ 100) (w : World) (hlen : zs.length ≤ 1000000000) (hB : B ≤ w.heap.size)
    (hown : w.ownsRow B 5 1 v zs.length (zs.map (Value.int .u8))) :
    Calls Try.prog 162 #[v, .string t] w (OwnPostG w B v.ownBlock (zs ++ (esc (txt t) ++ [0, 0]))) := by
  have HO := Lib.hid hown
  have hlt := txt_length t
  have HLT := Lib.hid hlt
  clear hown hlt
  go_enter Try.func162, Try.ntmps162
  go_wp2
  go_loopw [0, 8] (fun u i wr => ∃ (j : Nat), j ≤ t.size ∧ i = .int .i64 (j : Int) ∧ Hid (wr.ownsRow B 5 1 u (zs ++ esc ((txt t).take j)).length ((zs ++ esc ((txt t).take j)).map (Value.int .u8)) ∧ w.grownBy wr v.ownBlock ∧ FromRow w v.ownBlock u.ownBlock)) (fun _ i _ => t.size - (intOf i).toNat)
  case atStart => exact ⟨0, by omega, rfl, Lib.hid ⟨by simpa [esc] using HO.out, World.grownBy.refl _ _, .inl rfl⟩⟩
  case round =>
    obtain ⟨j, hj, rfl, HR⟩ := hrel
    obtain ⟨u, rfl⟩ : ∃ u, u = u0 := ⟨_, rfl⟩
    obtain ⟨P, hP⟩ : ∃ P, P = zs ++ esc ((txt t).take j) := ⟨_, rfl⟩
    have hPl : P.length ≤ 1000000200 := by
      have := esc_len ((txt t).take j)
      rw [List.length_take] at this
      rw [hP, List.length_append]; omega
    rw [← hP] at HR
    by_cases hlt : j < t.size
    · have HNx := Lib.hid (show zs ++ esc ((txt t).take (j + 1)) = P ++ (if (txt t).getD j 0 = 0 then [0, 255] else [(txt t).getD j 0]) by
        rw [esc_take (by rw [HLT.out]; exact hlt), hP, List.append_assoc])
      have hx : (txt t).getD j 0 = ((t[j]).toNat : Int) := by
        unfold txt
        rw [List.getD_eq_getElem?_getD, List.getElem?_map, Array.getElem?_toList, Array.getElem?_eq_getElem hlt]
        rfl
      rw [hx] at HNx
      clear hP hx
      by_cases hz : ((t[j]).toNat : Int) = 0
      · have ez : (((t[j]).toNat : Int) == 0) = true := by rw [beq_iff_eq]; exact hz
        rw [if_pos hz] at HNx
        have HZ := Lib.hid hz
        clear hz
        go_wp2_with (at_builtin; refine wpList_byte rfl (.tmp 11) (.tmp 15) rfl B u P wr.heap.size ((t[j]).toNat : Int) rfl rfl (HR.out.1.alloc _) ?a1 ?a2 ?a3 ?_)
        case a1 => simp [go_sem]
        case a2 => omega
        case a3 => have := HR.out.2.1.size; simp; omega
        intro g1 c1 w3 hown3 hgrow3 hat3 _
        have hown3' : w3.ownsRow B 5 1 (.slice (some ⟨g1, 0, none⟩) (P.length + 1) c1) (P ++ [0]).length ((P ++ [0]).map (Value.int .u8)) := by
          rw [← HZ.out]
          simpa using hown3
        have HO3 := Lib.hid hown3'
        have HB3 := Lib.hid (grown_step (grown_alloc HR.out.2.1 (.cells #[.int .u8 ((t[j]).toNat : Int)] 5)) HR.out.2.2 hgrow3)
        have HF3 := Lib.hid (from_new HR.out.2.2 (by have := HR.out.2.1.size; omega) hat3)
        clear hown3 hown3' hgrow3 hat3
        go_wp2_with (at_builtin; refine wpList_byte rfl (.tmp 21) (.tmp 22) rfl B (.slice (some ⟨g1, 0, none⟩) (P.length + 1) c1) (P ++ [0]) w3.heap.size 255 rfl rfl (HO3.out.alloc _) ?b1 ?b2 ?b3 ?_)
        case b1 => simp [go_sem]
        case b2 => simp; omega
        case b3 => have := HB3.out.size; simp; omega
        intro g2 c2 w4 hown4 hgrow4 hat4 _
        have hown4' : w4.ownsRow B 5 1 (.slice (some ⟨g2, 0, none⟩) (P.length + 1 + 1) c2) (zs ++ esc ((txt t).take (j + 1))).length ((zs ++ esc ((txt t).take (j + 1))).map (Value.int .u8)) := by
          rw [HNx.out]
          simpa using hown4
        have HO4 := Lib.hid hown4'
        have HB4 := Lib.hid (grown_step (grown_alloc HB3.out (.cells #[.int .u8 255] 5)) HF3.out hgrow4)
        have HF4 := Lib.hid (from_new HF3.out (by have := HB3.out.size; omega) hat4)
        clear hown4 hown4' hgrow4 hat4
        go_wp2
        go_roundw
        case rel => exact ⟨j + 1, by omega, by go_num, Lib.hid ⟨HO4.out, HB4.out, HF4.out⟩⟩
        case measure => simp [intOf]; omega
      · have ez : (((t[j]).toNat : Int) == 0) = false := by rw [beq_eq_false_iff_ne]; exact hz
        rw [if_neg hz] at HNx
        clear hz
        go_wp2_with (at_builtin; refine wpList_byte rfl (.tmp 11) (.tmp 15) rfl B u P wr.heap.size ((t[j]).toNat : Int) rfl rfl (HR.out.1.alloc _) ?a1 ?a2 ?a3 ?_)
        case a1 => simp [go_sem]
        case a2 => omega
        case a3 => have := HR.out.2.1.size; simp; omega
        intro g1 c1 w3 hown3 hgrow3 hat3 _
        have hown3' : w3.ownsRow B 5 1 (.slice (some ⟨g1, 0, none⟩) (P.length + 1) c1) (zs ++ esc ((txt t).take (j + 1))).length ((zs ++ esc ((txt t).take (j + 1))).map (Value.int .u8)) := by
          rw [HNx.out]
          simpa using hown3
        have HO3 := Lib.hid hown3'
        have HB3 := Lib.hid (grown_step (grown_alloc HR.out.2.1 (.cells #[.int .u8 ((t[j]).toNat : Int)] 5)) HR.out.2.2 hgrow3)
        have HF3 := Lib.hid (from_new HR.out.2.2 (by have := HR.out.2.1.size; omega) hat3)
        clear hown3 hown3' hgrow3 hat3
        go_wp2
        go_roundw
        case rel => exact ⟨j + 1, by omega, by go_num, Lib.hid ⟨HO3.out, HB3.out, HF3.out⟩⟩
        case measure => simp [intOf]; omega
    · have HE := Lib.hid (show zs ++ (esc (txt t) ++ [0, 0]) = P ++ [0, 0] by
        rw [hP, List.take_of_length_le (by rw [HLT.out]; omega), List.append_assoc])
      clear hP
      go_wp2_with (at_builtin; refine wpList_two rfl (.tmp 25) (.tmp 26) rfl B u P wr.heap.size 0 0 rfl rfl (HR.out.1.alloc _) ?a1 ?a4 ?a2 ?a3 ?_)
      case a1 => simp [go_sem]
      case a4 => simp [go_sem]
      case a2 => omega
      case a3 => have := HR.out.2.1.size; simp; omega
      intro v3 w3 hown3 hgrow3
      have hown3' : w3.ownsRow B 5 1 v3 (zs ++ (esc (txt t) ++ [0, 0])).length ((zs ++ (esc (txt t) ++ [0, 0])).map (Value.int .u8)) := by
        rw [HE.out]
        simpa using hown3
      have HO3 := Lib.hid hown3'
      have HB3 := Lib.hid (grown_step (grown_alloc HR.out.2.1 (.cells #[.int .u8 0, .int .u8 0] 5)) HR.out.2.2 hgrow3)
      clear hown3 hown3' hgrow3
      go_wp2
      go_ret
      exact ⟨_, rfl, HO3.out, HB3.out⟩
end Go.Proofs.Ytplgkblahmndoaa
