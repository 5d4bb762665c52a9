/- Contract of bytes.Trim with one byte 0. -/
import Derived.Test.YtbcjhngpcodaoaaDoorNdSt
import Derived.BigQuiet
import Derived.Deep.RegionLaw
import Derived.Deep.DeepCutAuto
namespace Go.Proofs.YtbcjhngpcodaoaaDoor
open Go.RowKit
set_option linter.unusedVariables false
set_option maxRecDepth 100000

/-- just noughts -/
def zl (l : List Int) : Bool := l.all (fun z => decide (z = 0))
theorem zl_take {l : List Int} {m : Nat} (hm : m < l.length) (h0 : l.getD m 0 = 0) : zl (l.take m) = zl (l.take (m + 1)) := by
  unfold zl
  rw [List.take_add_one, List.all_append, List.getElem?_eq_getElem hm]
  rw [List.getD_eq_getElem?_getD, List.getElem?_eq_getElem hm] at h0
  have : l[m] = 0 := h0
  simp [this]
theorem zl_take_not {l : List Int} {m : Nat} (hm : m < l.length) (h0 : l.getD m 0 ≠ 0) : zl (l.take (m + 1)) = false := by
  unfold zl
  rw [List.take_add_one, List.all_append, List.getElem?_eq_getElem hm]
  rw [List.getD_eq_getElem?_getD, List.getElem?_eq_getElem hm] at h0
  have : l[m] ≠ 0 := h0
  simp [this]
theorem zl_drop {l : List Int} (hm : 0 < l.length) (h0 : l.getD 0 0 = 0) : zl (l.drop 1) = zl l := by
  cases l with
  | nil => simp at hm
  | cons x r =>
    have : x = 0 := h0
    subst this
    simp [zl]
theorem zl_not {l : List Int} (hm : 0 < l.length) (h0 : l.getD 0 0 ≠ 0) : zl l = false := by
  cases l with
  | nil => simp at hm
  | cons x r =>
    have : x ≠ 0 := h0
    simp [zl, this]
/-- a slice that is empty just where all was nought -/
def Trimmed (l : List Int) (e : Ending) : Prop := ∃ a' L' c', e = .returned (.slice a' L' c') ∧ decide (0 < L') = !(zl l)
def lenV : Value → Nat
  | .slice _ n _ => n
  | _ => 0

set_option maxHeartbeats 3200000 in
theorem trimR_any (w : World) (a : Option Addr) (L c : Nat) (l : List Int) (hI : IsB w a L l) (hn : a = none → L = 0 ∧ c = 0) (hle : L ≤ c) :
    Calls Tryd.prog 44 #[.slice a L c, .int .u8 0] w fun e w' => w' = w ∧ ∃ k, k ≤ L ∧ e = .returned (.slice a k c) ∧ zl (l.take k) = zl l := by
  have HI := Lib.hid hI
  have HLl := Lib.hid hI.1
  have hLm := hI.2.1
  have HS := Lib.hid (show zl (l.take L) = zl l by rw [List.take_of_length_le (by rw [hI.1]; exact Nat.le_refl _)])
  clear hI
  go_enter Tryd.func44, Tryd.ntmps44
  go_wp2
  go_loop [0] (fun i => ∃ k, k ≤ L ∧ i = .slice a k c ∧ Hid (zl (l.take k) = zl l)) (fun i => lenV i)
  case atStart => exact ⟨L, Nat.le_refl _, rfl, HS⟩
  case round =>
    obtain ⟨k, hk, rfl, HZ⟩ := hrel
    by_cases hk0 : k = 0
    · subst hk0
      go_wp2
      go_ret
      exact ⟨rfl, 0, by omega, rfl, HZ.out⟩
    · obtain ⟨m, rfl⟩ : ∃ m, k = m + 1 := ⟨k - 1, by omega⟩
      obtain ⟨b, off, rfl, hc⟩ : ∃ b off, a = some ⟨b, off, none⟩ ∧ w.cell? ⟨b, off + m, none⟩ = some (.int .u8 (l.getD m 0)) := by
        rcases HI.out.2.2.1 with h | ⟨b, off, rfl, hc⟩
        · omega
        · exact ⟨b, off, rfl, hc m (by omega)⟩
      have hw1 : IntKind.i64.wrap (((m + 1 : Nat) : Int) - 1) = (m : Int) := by rw [IntKind.wrap_i64]; omega
      have hpos : (0 : Int) < ((m + 1 : Nat) : Int) := by omega
      have hlt : (m : Int) < ((m + 1 : Nat) : Int) := by omega
      have hsl : ∀ W, (Instr.slice 29 (.slice (some ⟨b, off, none⟩) (m + 1) c) none (some (.int .i64 (m : Int))) none).run Tryd.prog W = .ok (.slice (some ⟨b, off, none⟩) m c) W := fun W => slice_h _ _ _ _ (by omega) _ _
      have HZ2 := Lib.hid (zl_take (l := l) (m := m) (by rw [HLl.out]; omega))
      by_cases hz : l.getD m 0 = 0
      · rw [hz] at hc
        have hm : m ≤ L := by omega
        clear hk hk0
        go_wp2
        go_round
        case rel => exact ⟨m, hm, rfl, Lib.hid ((HZ2.out hz).trans HZ.out)⟩
        case measure => simp [lenV]
      · have HZm := Lib.hid hz
        generalize l.getD m 0 = z at *
        clear hk0
        go_wp2
        go_ret
        exact ⟨rfl, m + 1, hk, rfl, HZ.out⟩

set_option maxHeartbeats 3200000 in
theorem trimL_any (w : World) (a : Option Addr) (L c : Nat) (l : List Int) (hI : IsB w a L l) (hn : a = none → L = 0 ∧ c = 0) (hle : L ≤ c) :
    Calls Tryd.prog 43 #[.slice a L c, .int .u8 0] w fun e w' => w' = w ∧ Trimmed l e := by
  have HI := Lib.hid hI
  have hLm := hI.2.1
  have HN := Lib.hid hn
  have HLe := Lib.hid hle
  clear hI hn hle
  go_enter Tryd.func43, Tryd.ntmps43
  go_wp2
  go_loop [0] (fun i => ∃ a' L' c' l', L' ≤ L ∧ i = .slice a' L' c' ∧ Hid (IsB w a' L' l' ∧ L' ≤ c' ∧ zl l' = zl l ∧ (a' = none → L' = 0 ∧ c' = 0))) (fun i => lenV i)
  case atStart => exact ⟨a, L, c, l, Nat.le_refl _, rfl, Lib.hid ⟨HI.out, HLe.out, rfl, HN.out⟩⟩
  case round =>
    obtain ⟨a', k, c', l', hk, rfl, HZ⟩ := hrel
    by_cases hk0 : k = 0
    · subst hk0
      have HF := Lib.hid (show decide (0 < 0) = !(zl l) by
        rw [← HZ.out.2.2.1]
        have : l' = [] := List.eq_nil_of_length_eq_zero HZ.out.1.1
        subst this
        rfl)
      go_wp2
      go_ret
      exact ⟨rfl, _, _, _, rfl, HF.out⟩
    · obtain ⟨m, rfl⟩ : ∃ m, k = m + 1 := ⟨k - 1, by omega⟩
      obtain ⟨b, off, rfl, hc⟩ : ∃ b off, a' = some ⟨b, off, none⟩ ∧ w.cell? ⟨b, off, none⟩ = some (.int .u8 (l'.getD 0 0)) := by
        rcases HZ.out.1.2.2.1 with h | ⟨b, off, rfl, hc⟩
        · omega
        · exact ⟨b, off, rfl, hc 0 (by omega)⟩
      have hpos : (0 : Int) < ((m + 1 : Nat) : Int) := by omega
      have hpos' : (0 : Int) < (m : Int) + 1 := by omega
      have hne : ¬ (m : Int) + 1 = 0 := by omega
      have hsl : ∀ W, (Instr.slice 29 (.slice (some ⟨b, off, none⟩) (m + 1) c') (some (.int .i64 1)) none none).run Tryd.prog W = .ok (.slice (offA (some ⟨b, off, none⟩) c' 1) m (c' - 1)) W := fun W => by simpa using slice_l (some ⟨b, off, none⟩) (m + 1) c' 1 (by omega) .i64 W
      by_cases hz : l'.getD 0 0 = 0
      · have HX := Lib.hid (show IsB w (offA (some ⟨b, off, none⟩) c' 1) m (l'.drop 1) ∧ m ≤ c' - 1 ∧ zl (l'.drop 1) = zl l ∧ (offA (some ⟨b, off, none⟩) c' 1 = none → m = 0 ∧ c' - 1 = 0) from
          ⟨by simpa using isB_off HZ.out.1 (k := 1) (by omega) HZ.out.2.1, by have := HZ.out.2.1; omega, (zl_drop (by rw [HZ.out.1.1]; omega) hz).trans HZ.out.2.2.1, by simpa using offA_nil (k := 1) HZ.out.2.2.2⟩)
        rw [hz] at hc
        have hm : m ≤ L := by omega
        clear hk hk0
        generalize offA (some ⟨b, off, none⟩) c' 1 = ap at *
        generalize c' - 1 = cp at *
        go_wp2
        go_round
        case rel => exact ⟨_, m, _, _, hm, rfl, HX⟩
        case measure => simp [lenV]
      · have HF := Lib.hid (show decide (0 < m + 1) = !(zl l) by
          rw [← HZ.out.2.2.1, zl_not (by rw [HZ.out.1.1]; omega) hz]
          simp)
        generalize l'.getD 0 0 = z at *
        clear hk0
        go_wp2
        go_ret
        exact ⟨rfl, _, _, _, rfl, HF.out⟩

set_option maxHeartbeats 3200000 in
theorem trim_any (w : World) (a : Option Addr) (L c : Nat) (l : List Int) (hI : IsB w a L l) (hn : a = none → L = 0 ∧ c = 0) (hle : L ≤ c) :
    Calls Tryd.prog 29 #[.slice a L c, .string ⟨#[0]⟩] w fun e w' => Below w.heap.size w w' ∧ Trimmed l e := by
  have HI := Lib.hid hI
  have hLm := hI.2.1
  have HN := Lib.hid hn
  have HLe := Lib.hid hle
  have HLl := Lib.hid hI.1
  clear hI hn hle
  go_enter Tryd.func29, Tryd.ntmps29
  by_cases h0 : L = 0
  · subst h0
    have HF := Lib.hid (show decide (0 < 0) = !(zl l) by
      have : l = [] := List.eq_nil_of_length_eq_zero HLl.out
      subst this
      rfl)
    go_wp2
    go_ret
    exact ⟨Below.refl _ _, _, _, _, rfl, HF.out⟩
  · have h0i : ¬ (L : Int) = 0 := by omega
    clear h0
    go_upto_region 6 with (fail)
    have hix : ∀ W, (Instr.index 9 (.string ⟨#[0]⟩) (.int .i64 0)).run Tryd.prog W = .ok (.int .u8 0) W := fun W => by
      rw [run_index_string W 9 ⟨#[0]⟩ .i64 0 Tryd.underlying9, dif_pos ⟨by decide, by decide⟩]
      rfl
    have HLw := Lib.hid (show ∀ x, L ≠ 0 → a = some x → x.block < w.heap.size from fun x hx hy => by
      rcases HI.out.2.2.1 with h | ⟨b, off, rfl, hc⟩
      · omega
      · cases hy
        exact World.block_lt_of_cell? w _ (hc 0 (by omega)))
    go_region_law (first
      | (go_simp; go_at_call 44; refine (trimR_any _ a L c l (HI.out.below (by repeat (first | exact Below.refl _ _ | refine bel0 _ ?_ | refine Below.drew ?_)) HLw.out) HN.out HLe.out).mono ?_; rintro e w1 ⟨hw1, k, hk, rfl, hz⟩; subst hw1; have HK := Lib.hid hk; have HZ := Lib.hid hz; clear hk hz)
      | (go_simp; go_at_call 43; refine (trimL_any _ a k c (l.take k) ((isB_take HI.out HK.out).below (by repeat (first | exact Below.refl _ _ | refine bel0 _ ?_ | refine Below.drew ?_)) (fun x hx hy => HLw.out x (by have := HK.out; omega) hy)) (fun e => by have := HN.out e; have := HK.out; omega) (by have := HK.out; have := HLe.out; omega)).mono ?_; rintro e w2 ⟨hw2, hT⟩; subst hw2; obtain ⟨a2, L2, c2, rfl, hd⟩ := hT; have HD := Lib.hid hd; clear hd))
    all_goals
      go_wp2_with fail
      go_ret
      exact ⟨by repeat (first | exact Below.refl _ _ | refine bel0 _ ?_ | refine Below.drew ?_), _, _, _, rfl, by rw [HD.out, HZ.out]⟩
end Go.Proofs.YtbcjhngpcodaoaaDoor
