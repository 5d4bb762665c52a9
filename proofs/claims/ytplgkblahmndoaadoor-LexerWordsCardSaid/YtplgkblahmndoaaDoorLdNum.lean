/- The document's number: the value of digits. -/
import Derived.Test.YtplgkblahmndoaaDoorLdFirst
namespace Go.Proofs.YtplgkblahmndoaaDoor
open Go.RowKit Go.Lib
set_option linter.unusedVariables false
set_option maxRecDepth 100000

theorem allD_take {l : Bs} (k : Nat) (h : allD l = true) : allD (l.take k) = true := by
  unfold allD at h ⊢
  rw [List.all_eq_true] at h ⊢
  exact fun x hx => h x (List.mem_of_mem_take hx)
theorem allD_snoc {l : Bs} {k : Nat} (h : k < l.length) (h1 : allD (l.take k) = true) (h2 : digL (l.getD k 0).toNat = true) : allD (l.take (k + 1)) = true := by
  rw [take_one h]
  unfold allD at h1 ⊢
  rw [List.all_append, h1]
  simpa using h2
theorem allD_no {l : Bs} {k : Nat} (h : k < l.length) (h2 : digL (l.getD k 0).toNat = false) : allD l = false := by
  rw [Bool.eq_false_iff]
  intro h1
  unfold allD at h1
  rw [List.all_eq_true] at h1
  have : l.getD k 0 ∈ l := by
    rw [List.getD_eq_getElem?_getD, List.getElem?_eq_getElem h]
    exact List.getElem_mem h
  rw [h1 _ this] at h2
  cases h2
theorem decV_small {l : Bs} (k : Nat) (h : allD (l.take k) = true) (hk : k ≤ 19) : decV (l.take k) < 10000000000000000000 := by
  have h1 := decV_lt _ h
  have h2 : (l.take k).length ≤ 19 := by rw [List.length_take]; omega
  have h3 := Nat.pow_le_pow_right (n := 10) (by decide) h2
  omega
/-- what number answers -/
def NumP (l : Bs) (w : World) (e : Ending) (w' : World) : Prop := ∃ v : Int, e = .returned (.tuple #[.int .i64 v, .bool (allD l && numOk l)]) ∧ ((allD l && numOk l) = true → v = (decV l : Int)) ∧ w' = w
theorem digL_iff (b : UInt8) : digL b.toNat = true ↔ 48 ≤ b.toNat ∧ b.toNat ≤ 57 := by
  unfold digL digZ
  rw [decide_eq_true_eq]
  omega
set_option maxHeartbeats 3200000 in
theorem rnumber_any (s : ByteArray) (w : World) (h0 : 0 < s.size) (hs : s.size ≤ 4000) : Calls Tryd.prog 27 #[.string s] w (NumP s.data.toList w) := by
  have hsi : (s.size : Int) ≤ 4000 := by omega
  have h0i : (0 : Int) < (s.size : Int) := by omega
  have hb0 := byte_at s 0 h0
  have hhd : s.data.toList.head? = some (s[0]'h0) := by
    rw [hb0]
    have := drop_get (l := s.data.toList) (k := 0) (by rw [len_list]; exact h0)
    rw [List.drop_zero] at this
    conv => lhs; rw [this]
    rfl
  have HHd := Lib.hid hhd
  clear hhd hb0
  go_enter Tryd.func27, Tryd.ntmps27
  go_upto_region 1 with (fail)
  go_cut [18] (fun t wx => t = .bool ((decide (1 < s.size) && decide (s[0]'h0 = 48)) || decide (19 < s.size)) ∧ wx = w)
  case first =>
    by_cases h1 : 1 < s.size
    · have h1i : (1 : Int) < (s.size : Int) := by omega
      have hd1 : decide (1 < s.size) = true := decide_eq_true h1
      by_cases hq : s[0]'h0 = 48
      · have hqb : ((((s[0]'h0).toNat : Nat) : Int) == 48) = true := by rw [hq]; rfl
        have HD := Lib.hid (show decide (s[0]'h0 = 48) = true from decide_eq_true hq)
        have HD1 := Lib.hid hd1
        clear h1 hq hd1
        go_wp2
        go_meet
        exact ⟨by rw [HD1.out, HD.out]; rfl, rfl⟩
      · have hqb : ((((s[0]'h0).toNat : Nat) : Int) == 48) = false := by
          rw [beq_eq_false_iff_ne]
          intro e
          exact hq (UInt8.toNat_inj.1 (by have : (s[0]'h0).toNat = 48 := by omega
                                          rw [this]; rfl))
        have HD := Lib.hid (show decide (s[0]'h0 = 48) = false from decide_eq_false hq)
        have HD1 := Lib.hid hd1
        have H19 := Lib.hid (show decide ((19 : Int) < (s.size : Int)) = decide (19 < s.size) from by congr 1; exact propext ⟨fun h => by omega, fun h => by omega⟩)
        clear h1 hq hd1
        go_wp2
        go_meet
        exact ⟨by rw [HD1.out, HD.out, ← H19.out]; simp, rfl⟩
    · have h1i : decide ((1 : Int) < (s.size : Int)) = false := decide_eq_false (by omega)
      have h1j : (s.size : Int) ≤ 1 := by omega
      have HD1 := Lib.hid (show decide (1 < s.size) = false from decide_eq_false h1)
      have H19 := Lib.hid (show decide (19 < s.size) = false from decide_eq_false (by omega))
      clear h1
      go_wp2
      go_meet
      exact ⟨by rw [HD1.out, H19.out]; simp; try omega, rfl⟩
  case rest =>
    obtain ⟨rfl, rfl⟩ := hcut
    cases hb : ((decide (1 < s.size) && decide (s[0]'h0 = 48)) || decide (19 < s.size)) with
    | true =>
      have HF := Lib.hid (show (allD s.data.toList && numOk s.data.toList) = false by
        by_cases hl : 1 < s.size ∧ s[0]'h0 = 48
        · unfold numOk
          rw [HHd.out, len_list, decide_eq_true hl.1, hl.2]
          simp
        · have h19 : 19 < s.size := by
            rcases Bool.or_eq_true_iff.1 hb with h | h
            · rw [Bool.and_eq_true, decide_eq_true_eq, decide_eq_true_eq] at h; exact absurd h hl
            · exact of_decide_eq_true h
          cases ha : allD s.data.toList with
          | false => rfl
          | true =>
            have := long_big ha (by rw [len_list]; exact h19) (by rw [HHd.out]; intro e; exact hl ⟨by omega, Option.some.inj e⟩)
            unfold numOk
            rw [decide_eq_false (by omega)]
            rfl)
      clear hb
      go_wp2
      go_ret2
      exact ⟨0, by rw [HF.out]; rfl, (fun h => by rw [HF.out] at h; cases h), rfl⟩
    | false =>
      have h19 : s.size ≤ 19 := by
        have := (Bool.or_eq_false_iff.1 hb).2
        have := of_decide_eq_false this
        omega
      have HOk := Lib.hid (show numOk s.data.toList = decide (decV s.data.toList ≤ 9223372036854775807) by
        unfold numOk
        rw [HHd.out, len_list]
        have h := (Bool.or_eq_false_iff.1 hb).1
        have e : (some (s[0]'h0) == some (48 : UInt8)) = decide (s[0]'h0 = 48) := by
          by_cases h : s[0]'h0 = 48
          · rw [h]; rfl
          · rw [decide_eq_false h]; simpa using h
        rw [e, h]
        simp)
      clear hb
      go_wp2_with fail
      go_loopw [4, 21] (fun n i wr => ∃ k : Nat, k ≤ s.size ∧ i = .int .i64 (k : Int) ∧ n = .int .u64 (decV (s.data.toList.take k) : Int) ∧ wr = wc ∧ Hid (allD (s.data.toList.take k) = true)) (fun _ i _ => s.size - (RowKit.intOf i).toNat)
      case atStart => exact ⟨0, by omega, rfl, rfl, rfl, Lib.hid (by simp [allD])⟩
      case round =>
        obtain ⟨k, hk, rfl, rfl, hwr, HA⟩ := hrel
        subst hwr
        have hk0 : (0 : Int) ≤ (k : Int) := by omega
        by_cases hlt : k < s.size
        · have hki : (k : Int) < (s.size : Int) := by omega
          have HB := Lib.hid (byte_at s k hlt)
          have hll : k < s.data.toList.length := by rw [len_list]; exact hlt
          cases hd : digL (s.data.toList.getD k 0).toNat with
          | false =>
            have HF := Lib.hid (show (allD s.data.toList && numOk s.data.toList) = false by rw [allD_no hll hd]; rfl)
            have hnd : (s[k]'hlt).toNat < 48 ∨ 57 < (s[k]'hlt).toNat := by
              rw [HB.out]
              rcases Nat.lt_or_ge (s.data.toList.getD k 0).toNat 48 with h | h
              · exact .inl h
              · rcases Nat.lt_or_ge 57 (s.data.toList.getD k 0).toNat with h2 | h2
                · exact .inr h2
                · rw [(digL_iff _).2 ⟨h, h2⟩] at hd; cases hd
            clear hd
            rcases hnd with h | h
            · have hi : (((s[k]'hlt).toNat : Nat) : Int) < 48 := by omega
              clear h
              go_wp2
              go_ret2
              exact ⟨0, by rw [HF.out]; rfl, (fun h => by rw [HF.out] at h; cases h), rfl⟩
            · have hi : decide ((((s[k]'hlt).toNat : Nat) : Int) < 48) = false := decide_eq_false (by omega)
              have hj : 57 < (((s[k]'hlt).toNat : Nat) : Int) := by omega
              clear h
              go_wp2
              go_ret2
              exact ⟨0, by rw [HF.out]; rfl, (fun h => by rw [HF.out] at h; cases h), rfl⟩
          | true =>
            have HA2 := Lib.hid (allD_snoc hll HA.out hd)
            have hdd := (digL_iff _).1 hd
            rw [← HB.out] at hdd
            have hn := decV_small (l := s.data.toList) k HA.out (by omega)
            have hn18 : decV (s.data.toList.take k) < 1000000000000000000 := by
              have h1 := decV_lt _ HA.out
              have h2 : (s.data.toList.take k).length ≤ 18 := by rw [List.length_take]; omega
              have h3 := Nat.pow_le_pow_right (n := 10) (by decide) h2
              omega
            have HV := Lib.hid (show (decV (s.data.toList.take (k + 1)) : Int) = 10 * (decV (s.data.toList.take k) : Int) + ((((s[k]'hlt).toNat : Nat) : Int) - 48) by
              rw [take_one hll, decV_snoc, ← HB.out]
              omega)
            generalize decV (s.data.toList.take k) = U at *
            generalize hb8 : (s[k]'hlt).toNat = b8 at *
            have hg1 : (48 : Int) ≤ (b8 : Int) := by omega
            have hg2 : (b8 : Int) ≤ 57 := by omega
            have hU0 : (0 : Int) ≤ (U : Int) := by omega
            have hU1 : (U : Int) < 1000000000000000000 := by omega
            have hgd : decide ((b8 : Int) < 48) = false := decide_eq_false (by omega)
            have hge : decide (57 < (b8 : Int)) = false := decide_eq_false (by omega)
            clear hd
            go_wp2
            go_roundw
            case rel => exact ⟨k + 1, by omega, rfl, by rw [HV.out], trivial, HA2⟩
            case measure =>
              simp [go_sem, RowKit.intOf]
              omega
        · obtain rfl : k = s.size := by omega
          have HA2 := Lib.hid (show allD s.data.toList = true by have := HA.out; rwa [List.take_of_length_le (by rw [len_list]; exact Nat.le_refl _)] at this)
          have hE : s.data.toList.take s.size = s.data.toList := List.take_of_length_le (by rw [len_list]; exact Nat.le_refl _)
          have HOk2 := Lib.hid (show (allD s.data.toList && numOk s.data.toList) = decide (decV s.data.toList ≤ 9223372036854775807) by rw [HA2.out, HOk.out]; rfl)
          have hn := decV_small (l := s.data.toList) s.size HA.out h19
          rw [hE] at *
          clear hlt hE
          generalize hU : decV s.data.toList = U at *
          have HU := Lib.hid hU
          clear hU
          by_cases hu : U ≤ 9223372036854775807
          · have hui : (U : Int) ≤ 9223372036854775807 := by omega
            have hu0 : (0 : Int) ≤ (U : Int) := by omega
            have HD := Lib.hid (show decide (U ≤ 9223372036854775807) = true from decide_eq_true hu)
            clear hu
            go_wp2
            go_ret2
            exact ⟨(U : Int), by rw [HOk2.out, HD.out]; rfl, (fun _ => by rw [HU.out]), rfl⟩
          · have hui : decide ((U : Int) ≤ 9223372036854775807) = false := decide_eq_false (by omega)
            have HD := Lib.hid (show decide (U ≤ 9223372036854775807) = false from decide_eq_false hu)
            clear hu
            go_wp2
            go_ret2
            exact ⟨_, by rw [HOk2.out, HD.out]; rfl, (fun h => by rw [HOk2.out, HD.out] at h; cases h), rfl⟩
end Go.Proofs.YtplgkblahmndoaaDoor
