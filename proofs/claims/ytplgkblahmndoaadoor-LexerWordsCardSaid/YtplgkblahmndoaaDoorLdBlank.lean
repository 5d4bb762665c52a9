/- The document's blanks: what is passed over. -/
import Derived.Test.YtplgkblahmndoaaDoorLdNum
namespace Go.Proofs.YtplgkblahmndoaaDoor
open Go.RowKit Go.Lib
set_option linter.unusedVariables false
set_option maxRecDepth 100000

/-- what blanks answers -/
def BlankP (l : Bs) (w : World) (e : Ending) (w' : World) : Prop := ∃ k : Nat, e = .returned (.int .i64 (k : Int)) ∧ k ≤ l.length ∧ (∀ ws, run (0, [], ws) l = run (0, [], ws) (l.drop k)) ∧ AtWd (l.drop k) ∧ w' = w
theorem u8_ne {b : UInt8} {n : Nat} {i : Int} (hi : i = (n : Int)) (hn : n < 256) (h : b ≠ UInt8.ofNat n) : (((b.toNat : Nat) : Int) == i) = false := by
  subst hi
  rw [beq_eq_false_iff_ne]
  intro e
  exact h (UInt8.toNat_inj.1 (by rw [UInt8.toNat_ofNat']; omega))
theorem drop_while10 {l : Bs} {m : Nat} (h : m < l.length) (hb : l.getD m 0 ≠ 10) : (l.drop m).dropWhile (· != 10) = (l.drop (m + 1)).dropWhile (· != 10) := by
  rw [drop_get h, List.dropWhile_cons_of_pos (by simpa using hb)]
theorem drop_stop10 {l : Bs} {m : Nat} (h : l.length ≤ m ∨ l.getD m 0 = 10) : (l.drop m).dropWhile (· != 10) = l.drop m := by
  rcases Nat.lt_or_ge m l.length with h2 | h2
  · rcases h with h | h
    · omega
    · rw [drop_get h2, List.dropWhile_cons_of_neg (by rw [h]; simp)]
  · rw [List.drop_of_length_le h2]; rfl
theorem dash_run {l : Bs} {k : Nat} (h : k + 1 < l.length) (h1 : l.getD k 0 = 45) (h2 : l.getD (k + 1) 0 = 45) (ws : List Wd) : run (0, [], ws) (l.drop k) = run (0, [], ws) ((l.drop k).dropWhile (· != 10)) := by
  have e : l.drop k = 45 :: 45 :: l.drop (k + 2) := by rw [drop_get (by omega), drop_get h, h1, h2]
  rw [e, run_dash]
  rw [List.dropWhile_cons_of_pos (by decide), List.dropWhile_cons_of_pos (by decide)]
set_option maxHeartbeats 6400000 in
theorem rblanks_any (s : ByteArray) (w : World) (hs : s.size ≤ 4000) : Calls Tryd.prog 13 #[.string s] w (BlankP s.data.toList w) := by
  have hsi : (s.size : Int) ≤ 4000 := by omega
  go_enter Tryd.func13, Tryd.ntmps13
  go_wp2_with fail
  go_loopw [3] (fun i wr => ∃ k : Nat, k ≤ s.size ∧ i = .int .i64 (k : Int) ∧ wr = w ∧ Hid (∀ ws, run (0, [], ws) s.data.toList = run (0, [], ws) (s.data.toList.drop k))) (fun i _ => s.size - (RowKit.intOf i).toNat)
  case atStart => exact ⟨0, by omega, rfl, rfl, Lib.hid (fun ws => by rw [List.drop_zero])⟩
  case round =>
    obtain ⟨k, hk, rfl, hwr, HR⟩ := hrel
    subst hwr
    have hk0 : (0 : Int) ≤ (k : Int) := by omega
    by_cases hlt : k < s.size
    · have hki : (k : Int) < (s.size : Int) := by omega
      have hll : k < s.data.toList.length := by rw [len_list]; exact hlt
      have HB := Lib.hid (byte_at s k hlt)
      have HBl := Lib.hid (fun (hb : s[k]'hlt = 32 ∨ s[k]'hlt = 9 ∨ s[k]'hlt = 10) => (show ∀ ws, run (0, [], ws) s.data.toList = run (0, [], ws) (s.data.toList.drop (k + 1)) from fun ws => by
        rw [HR.out ws, drop_get hll, ← HB.out]
        exact run_blank _ _ _ _ hb))
      by_cases h32 : s[k]'hlt = 32
      · have hv : (((s[k]'hlt).toNat : Nat) : Int) = 32 := by rw [h32]; rfl
        have HN := Lib.hid (HBl.out (.inl h32))
        clear h32
        go_wp2
        go_roundw
        case rel => exact ⟨k + 1, by omega, rfl, trivial, HN⟩
        case measure =>
          simp [go_sem, RowKit.intOf]
          omega
      by_cases h9 : s[k]'hlt = 9
      · have hv : (((s[k]'hlt).toNat : Nat) : Int) = 9 := by rw [h9]; rfl
        have HN := Lib.hid (HBl.out (.inr (.inl h9)))
        clear h32 h9
        go_wp2
        go_roundw
        case rel => exact ⟨k + 1, by omega, rfl, trivial, HN⟩
        case measure =>
          simp [go_sem, RowKit.intOf]
          omega
      by_cases h10 : s[k]'hlt = 10
      · have hv : (((s[k]'hlt).toNat : Nat) : Int) = 10 := by rw [h10]; rfl
        have HN := Lib.hid (HBl.out (.inr (.inr h10)))
        clear h32 h9 h10
        go_wp2
        go_roundw
        case rel => exact ⟨k + 1, by omega, rfl, trivial, HN⟩
        case measure =>
          simp [go_sem, RowKit.intOf]
          omega
      have e32 := u8_ne (n := 32) (i := 32) rfl (by decide) h32
      have e9 := u8_ne (n := 9) (i := 9) rfl (by decide) h9
      have e10 := u8_ne (n := 10) (i := 10) rfl (by decide) h10
      have HNb := Lib.hid (show ¬ (s[k]'hlt = 32 ∨ s[k]'hlt = 9 ∨ s[k]'hlt = 10) from fun h => by rcases h with h | h | h <;> contradiction)
      clear h32 h9 h10 HBl
      by_cases h1 : k + 1 < s.size
      · have h1i : (k : Int) + 1 < (s.size : Int) := by omega
        by_cases hq : s[k]'hlt = 45
        · have hv : (((s[k]'hlt).toNat : Nat) : Int) = 45 := by rw [hq]; rfl
          by_cases hq2 : s[k + 1]'h1 = 45
          · have hv2 : (((s[k + 1]'h1).toNat : Nat) : Int) = 45 := by rw [hq2]; rfl
            have HD := Lib.hid (fun ws => dash_run (l := s.data.toList) (k := k) (by rw [len_list]; exact h1) (HB.out.symm.trans hq) ((byte_at s (k + 1) h1).symm.trans hq2) ws)
            have HK45 := Lib.hid (show s.data.toList.getD k 0 = 45 from HB.out.symm.trans hq)
            clear hq hq2
            go_wp2_with fail
            go_loopw [3] (fun i wr2 => ∃ m : Nat, k ≤ m ∧ m ≤ s.size ∧ i = .int .i64 (m : Int) ∧ wr2 = wr ∧ Hid ((s.data.toList.drop k).dropWhile (· != 10) = (s.data.toList.drop m).dropWhile (· != 10))) (fun i _ => s.size - (RowKit.intOf i).toNat)
            case atStart => exact ⟨k, by omega, by omega, rfl, rfl, Lib.hid rfl⟩
            case round =>
              obtain ⟨m, hkm, hm, rfl, hwr, HM⟩ := hrel
              subst hwr
              have hm0 : (0 : Int) ≤ (m : Int) := by omega
              have HOut := Lib.hid (fun (h : s.data.toList.length ≤ m ∨ s.data.toList.getD m 0 = 10) => (show (∀ ws, run (0, [], ws) s.data.toList = run (0, [], ws) (s.data.toList.drop m)) ∧ k < m from by
                refine ⟨fun ws => by rw [HR.out ws, HD.out ws, HM.out, drop_stop10 h], ?_⟩
                rcases Nat.lt_or_ge k m with h2 | h2
                · exact h2
                · obtain rfl : m = k := by omega
                  rcases h with h | h
                  · omega
                  · rw [HK45.out] at h
                    exact absurd h (by decide)))
              by_cases hml : m < s.size
              · have hmi : (m : Int) < (s.size : Int) := by omega
                have HBm := Lib.hid (byte_at s m hml)
                by_cases hq : s[m]'hml = 10
                · have hv3 : (((s[m]'hml).toNat : Nat) : Int) = 10 := by rw [hq]; rfl
                  obtain ⟨hN, hkm2⟩ := HOut.out (.inr (HBm.out.symm.trans hq))
                  have HN := Lib.hid hN
                  clear hq hN
                  go_wp2
                  go_roundw
                  case rel => exact ⟨m, by omega, rfl, trivial, HN⟩
                  case measure =>
                    simp [go_sem, RowKit.intOf]
                    omega
                · have hv3 := u8_ne (n := 10) (i := 10) rfl (by decide) hq
                  have HN := Lib.hid (HM.out.trans (drop_while10 (l := s.data.toList) (m := m) (by rw [len_list]; exact hml) (by rw [← HBm.out]; exact hq)))
                  clear hq
                  go_wp2
                  go_roundw
                  case rel => exact ⟨m + 1, by omega, by omega, rfl, trivial, HN⟩
                  case measure =>
                    simp [go_sem, RowKit.intOf]
                    omega
              · have hmi : decide ((m : Int) < (s.size : Int)) = false := decide_eq_false (by omega)
                have hmj : (s.size : Int) ≤ (m : Int) := by omega
                obtain ⟨hN, hkm2⟩ := HOut.out (.inl (by rw [len_list]; omega))
                have HN := Lib.hid hN
                clear hml hN
                go_wp2
                go_roundw
                case rel => exact ⟨m, by omega, rfl, trivial, HN⟩
                case measure =>
                  simp [go_sem, RowKit.intOf]
                  omega
          · have hv2 := u8_ne (n := 45) (i := 45) rfl (by decide) hq2
            have HA := Lib.hid (show AtWd (s.data.toList.drop k) from by
              rw [drop_get hll, ← HB.out]
              refine ⟨HNb.out, fun h => hq2 ?_⟩
              have := h.2
              rw [getD_drop (by rw [len_list]; exact h1), ← byte_at s (k + 1) h1] at this
              exact Option.some.inj this)
            clear hq hq2
            go_wp2
            go_ret
            exact ⟨k, rfl, by rw [len_list]; exact hk, HR.out, HA.out, rfl⟩
        · have hv := u8_ne (n := 45) (i := 45) rfl (by decide) hq
          have HA := Lib.hid (show AtWd (s.data.toList.drop k) from by
            rw [drop_get hll, ← HB.out]
            exact ⟨HNb.out, fun h => hq h.1⟩)
          clear hq
          go_wp2
          go_ret
          exact ⟨k, rfl, by rw [len_list]; exact hk, HR.out, HA.out, rfl⟩
      · have h1i : decide ((k : Int) + 1 < (s.size : Int)) = false := decide_eq_false (by omega)
        have h1j : (s.size : Int) ≤ (k : Int) + 1 := by omega
        have HA := Lib.hid (show AtWd (s.data.toList.drop k) from by
          rw [drop_get hll, ← HB.out]
          refine ⟨HNb.out, fun h => ?_⟩
          have := h.2
          rw [head_past (by rw [len_list]; omega)] at this
          cases this)
        clear h1
        go_wp2
        go_ret
        exact ⟨k, rfl, by rw [len_list]; exact hk, HR.out, HA.out, rfl⟩
    · obtain rfl : k = s.size := by omega
      have HA := Lib.hid (show AtWd (s.data.toList.drop s.size) from by rw [List.drop_of_length_le (by rw [len_list]; exact Nat.le_refl _)]; trivial)
      clear hlt
      go_wp2
      go_ret
      exact ⟨s.size, rfl, by rw [len_list]; exact Nat.le_refl _, HR.out, HA.out, rfl⟩
end Go.Proofs.YtplgkblahmndoaaDoor
