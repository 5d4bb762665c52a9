/- Where a column stands among columns, a table among tables: the program's IndexFunc, the document's position and Find. -/
import Derived.Test.YtafhgilikcablaaSvT
import Derived.Test.YtafhgilikcablaaProg
import Derived.Test.YtafhgilikcablaaBytes
import Derived.Deep.DeepCutAuto
namespace Go.Proofs.Ytafhgilikcablaa
open Go.RowKit
set_option linter.unusedVariables false
set_option linter.unusedSimpArgs false
set_option maxRecDepth 100000

/-- the first place where p holds; -1: nowhere -/
def posI {α : Type} (p : α → Bool) (l : List α) : Int := match l.findIdx? p with | some i => (i : Int) | none => -1
theorem posI_hit {α : Type} {p : α → Bool} {l : List α} {k : Nat} (hk : k < l.length) (h0 : (l.take k).any p = false) (h : p (l[k]) = true) : posI p l = (k : Int) := by
  have : l.findIdx? p = some k := by
    rw [List.findIdx?_eq_some_iff_getElem]
    refine ⟨hk, h, fun j hj => ?_⟩
    have h1 := List.any_eq_false.1 h0 (l[j]'(by omega)) (List.mem_take_iff_getElem.2 ⟨j, by omega, rfl⟩)
    simpa using h1
  unfold posI
  rw [this]
theorem posI_none {α : Type} {p : α → Bool} {l : List α} (h0 : l.any p = false) : posI p l = -1 := by
  have : l.findIdx? p = none := by
    rw [List.findIdx?_eq_none_iff]
    exact fun x hx => by have := List.any_eq_false.1 h0 x hx; simpa using this
  unfold posI
  rw [this]
theorem any_more {α : Type} {p : α → Bool} {l : List α} {k : Nat} (hk : k < l.length) (h0 : (l.take k).any p = false) (h : p (l[k]) = false) : (l.take (k + 1)).any p = false := by
  rw [List.take_succ_eq_append_getElem hk, List.any_append, h0]
  simp [h]
theorem posI_lt {α : Type} {p : α → Bool} {l : List α} : -1 ≤ posI p l ∧ posI p l < l.length := by
  unfold posI
  cases h : l.findIdx? p with
  | none => simp; omega
  | some i =>
    have := (List.findIdx?_eq_some_iff_getElem.1 h).1
    simp
    omega
def coP (s : ByteArray) (c : CO) : Bool := c.name.toList == s.toList
def tbP (s : ByteArray) (t : TB) : Bool := t.name.toList == s.toList

set_option maxHeartbeats 1600000 in
theorem columnOf1_any (w : World) (c : CO) (s : ByteArray) (g : Nat) (hs : w.cell? ⟨g, 0, none⟩ = some (.string s)) :
    Calls Try.prog 181 #[.agg #[.string c.name, .int .i64 c.kind, .bool c.nn, .bool c.un], .pointer (some ⟨g, 0, none⟩)] w fun e w' => e = .returned (.bool (coP s c)) ∧ Below w.heap.size w w' := by
  have hg : g < w.heap.size := World.block_lt_of_cell? w _ hs
  have HB := Lib.hid (bel0 (.cells #[.string c.name, .int .i64 c.kind, .bool c.nn, .bool c.un] 111) (Below.refl w.heap.size w))
  unfold coP
  go_enter Try.func181, Try.ntmps181
  go_wp2
  go_ret
  exact ⟨rfl, HB.out⟩
set_option maxHeartbeats 1600000 in
theorem find1_any (w : World) (t : TB) (ca : Option Addr) (cl cc : Nat) (s : ByteArray) (g : Nat) (hs : w.cell? ⟨g, 0, none⟩ = some (.string s)) :
    Calls Try.prog 63 #[.agg #[.string t.name, .bool t.view, .slice ca cl cc], .pointer (some ⟨g, 0, none⟩)] w fun e w' => e = .returned (.bool (tbP s t)) ∧ Below w.heap.size w w' := by
  have hg : g < w.heap.size := World.block_lt_of_cell? w _ hs
  have HB := Lib.hid (bel0 (.cells #[.string t.name, .bool t.view, .slice ca cl cc] 109) (Below.refl w.heap.size w))
  unfold tbP
  go_enter Try.func63, Try.ntmps63
  go_wp2
  go_ret
  exact ⟨rfl, HB.out⟩
set_option maxHeartbeats 1600000 in
theorem idxCols_any (w : World) (a : Option Addr) (l : List CO) (cap n : Nat) (hn : n = l.length) (s : ByteArray) (g : Nat) (hl : ColsAt w a l) (hlen : l.length ≤ 9223372036854775807) (hs : w.cell? ⟨g, 0, none⟩ = some (.string s)) :
    Calls Try.prog 180 #[.slice a n cap, .func (Fn.func 181) #[] #[.pointer (some ⟨g, 0, none⟩)]] w fun e w' => e = .returned (.int .i64 (posI (coP s) l)) ∧ Below w.heap.size w w' := by
  have HL := Lib.hid hl
  have HS := Lib.hid hs
  have HN := Lib.hid hn
  have hlen' : n ≤ 9223372036854775807 := by omega
  have hg : g < w.heap.size := World.block_lt_of_cell? w _ hs
  clear hl hs hlen hn
  go_enter Try.func180, Try.ntmps180
  go_wp2
  go_loopw [8] (fun i wr => ∃ (k : Nat), k ≤ n ∧ i = .int .i64 (k : Int) ∧ Hid ((l.take k).any (coP s) = false ∧ Below w.heap.size w wr)) (fun i _ => n - (intOf i).toNat)
  case atStart => exact ⟨0, by omega, rfl, Lib.hid ⟨rfl, Below.refl _ _⟩⟩
  case round =>
    obtain ⟨k, hk, rfl, HR⟩ := hrel
    have hk0 : (0 : Int) ≤ (k : Int) := by omega
    by_cases hlt : k < n
    · have hki : (k : Int) < (n : Int) := by omega
      have hkl : k < l.length := by rw [← HN.out]; exact hlt
      have HLt := Lib.hid hlt
      obtain ⟨b, off, rfl, hbl, hat⟩ := (HL.out.keep HR.out.2).at hkl
      have q0 := hat.c0
      have q1 := hat.c1
      have q2 := hat.c2
      have q3 := hat.c3
      have HSw := Lib.hid ((HR.out.2.cell (p := ⟨g, 0, none⟩) hg).trans HS.out)
      have HP := Lib.hid (show coP s (l[k]) = true → posI (coP s) l = (k : Int) from fun h => posI_hit hkl HR.out.1 h)
      have HM := Lib.hid (show coP s (l[k]) = false → (l.take (k + 1)).any (coP s) = false from fun h => any_more hkl HR.out.1 h)
      obtain ⟨c, hc⟩ : ∃ c, c = l[k] := ⟨_, rfl⟩
      rw [← hc] at q0 q1 q2 q3 HP HM
      clear hat hc hkl hlt hk
      go_wp2_with fail
      refine (columnOf1_any wr c s g HSw.out).mono ?_
      rintro e w3 ⟨rfl, hb3⟩
      have HB3 := Lib.hid (bt HR.out.2 hb3)
      clear hb3 q0 q1 q2 q3
      cases hr : coP s c with
      | true =>
        have HQ := Lib.hid (HP.out hr)
        go_wp2
        go_ret
        rw [HQ.out]
        exact ⟨rfl, HB3.out⟩
      | false =>
        have HQ := Lib.hid (HM.out hr)
        go_wp2
        go_roundw
        case rel => exact ⟨k + 1, HLt.out, by go_num, Lib.hid ⟨HQ.out, HB3.out⟩⟩
        case measure => have := HLt.out; simp [intOf]; omega
    · have hkk : ¬ ((k : Int) < (n : Int)) := by omega
      have HQ := Lib.hid (show posI (coP s) l = -1 from posI_none (by
        have h1 := HR.out.1
        rw [List.take_of_length_le (by rw [← HN.out]; omega)] at h1
        exact h1))
      go_wp2
      go_ret
      rw [HQ.out]
      exact ⟨rfl, HR.out.2⟩
set_option maxHeartbeats 1600000 in
theorem idxTabs_any (w : World) (a : Option Addr) (l : List TB) (cap n : Nat) (hn : n = l.length) (s : ByteArray) (g : Nat) (hl : TabsAt w a l) (hlen : l.length ≤ 9223372036854775807) (hs : w.cell? ⟨g, 0, none⟩ = some (.string s)) :
    Calls Try.prog 62 #[.slice a n cap, .func (Fn.func 63) #[] #[.pointer (some ⟨g, 0, none⟩)]] w fun e w' => e = .returned (.int .i64 (posI (tbP s) l)) ∧ Below w.heap.size w w' := by
  have HL := Lib.hid hl
  have HS := Lib.hid hs
  have HN := Lib.hid hn
  have hlen' : n ≤ 9223372036854775807 := by omega
  have hg : g < w.heap.size := World.block_lt_of_cell? w _ hs
  clear hl hs hlen hn
  go_enter Try.func62, Try.ntmps62
  go_wp2
  go_loopw [8] (fun i wr => ∃ (k : Nat), k ≤ n ∧ i = .int .i64 (k : Int) ∧ Hid ((l.take k).any (tbP s) = false ∧ Below w.heap.size w wr)) (fun i _ => n - (intOf i).toNat)
  case atStart => exact ⟨0, by omega, rfl, Lib.hid ⟨rfl, Below.refl _ _⟩⟩
  case round =>
    obtain ⟨k, hk, rfl, HR⟩ := hrel
    have hk0 : (0 : Int) ≤ (k : Int) := by omega
    by_cases hlt : k < n
    · have hki : (k : Int) < (n : Int) := by omega
      have hkl : k < l.length := by rw [← HN.out]; exact hlt
      have HLt := Lib.hid hlt
      obtain ⟨b, off, ca, cc, rfl, hbl, hat⟩ := (HL.out.keep HR.out.2).at hkl
      have q0 := hat.c0
      have q1 := hat.c1
      have q2 := hat.c2
      have HSw := Lib.hid ((HR.out.2.cell (p := ⟨g, 0, none⟩) hg).trans HS.out)
      have HP := Lib.hid (show tbP s (l[k]) = true → posI (tbP s) l = (k : Int) from fun h => posI_hit hkl HR.out.1 h)
      have HM := Lib.hid (show tbP s (l[k]) = false → (l.take (k + 1)).any (tbP s) = false from fun h => any_more hkl HR.out.1 h)
      obtain ⟨c, hc⟩ : ∃ c, c = l[k] := ⟨_, rfl⟩
      rw [← hc] at q0 q1 q2 HP HM
      clear hat hc hkl hlt hk
      go_wp2_with fail
      refine (find1_any wr c ca c.cols.length cc s g HSw.out).mono ?_
      rintro e w3 ⟨rfl, hb3⟩
      have HB3 := Lib.hid (bt HR.out.2 hb3)
      clear hb3 q0 q1 q2
      cases hr : tbP s c with
      | true =>
        have HQ := Lib.hid (HP.out hr)
        go_wp2
        go_ret
        rw [HQ.out]
        exact ⟨rfl, HB3.out⟩
      | false =>
        have HQ := Lib.hid (HM.out hr)
        go_wp2
        go_roundw
        case rel => exact ⟨k + 1, HLt.out, by go_num, Lib.hid ⟨HQ.out, HB3.out⟩⟩
        case measure => have := HLt.out; simp [intOf]; omega
    · have hkk : ¬ ((k : Int) < (n : Int)) := by omega
      have HQ := Lib.hid (show posI (tbP s) l = -1 from posI_none (by
        have h1 := HR.out.1
        rw [List.take_of_length_le (by rw [← HN.out]; omega)] at h1
        exact h1))
      go_wp2
      go_ret
      rw [HQ.out]
      exact ⟨rfl, HR.out.2⟩
set_option maxHeartbeats 1600000 in
theorem position_any (w : World) (a : Option Addr) (l : List CO) (cap n : Nat) (hn : n = l.length) (s : ByteArray) (hl : ColsAt w a l) (hlen : l.length ≤ 9223372036854775807) :
    Calls Try.prog 137 #[.slice a n cap, .string s] w fun e w' => e = .returned (.int .i64 (posI (coP s) l)) ∧ Below w.heap.size w w' := by
  have HL := Lib.hid hl
  have HN := Lib.hid hn
  have hlen' : n ≤ 9223372036854775807 := by omega
  clear hl hlen hn
  go_enter Try.func137, Try.ntmps137
  go_wp2
  go_loopw [8] (fun i wr => ∃ (k : Nat), k ≤ n ∧ i = .int .i64 (k : Int) ∧ Hid ((l.take k).any (coP s) = false ∧ Below w.heap.size w wr)) (fun i _ => n - (intOf i).toNat)
  case atStart => exact ⟨0, by omega, rfl, Lib.hid ⟨rfl, Below.refl _ _⟩⟩
  case round =>
    obtain ⟨k, hk, rfl, HR⟩ := hrel
    have hk0 : (0 : Int) ≤ (k : Int) := by omega
    by_cases hlt : k < n
    · have hki : (k : Int) < (n : Int) := by omega
      have hkl : k < l.length := by rw [← HN.out]; exact hlt
      have HLt := Lib.hid hlt
      obtain ⟨b, off, rfl, hbl, hat⟩ := (HL.out.keep HR.out.2).at hkl
      have q0 := hat.c0
      have q1 := hat.c1
      have q2 := hat.c2
      have q3 := hat.c3
      have HP := Lib.hid (show coP s (l[k]) = true → posI (coP s) l = (k : Int) from fun h => posI_hit hkl HR.out.1 h)
      have HM := Lib.hid (show coP s (l[k]) = false → (l.take (k + 1)).any (coP s) = false from fun h => any_more hkl HR.out.1 h)
      obtain ⟨c, hc⟩ : ∃ c, c = l[k] := ⟨_, rfl⟩
      rw [← hc] at q0 q1 q2 q3 HP HM
      clear hat hc hkl hlt hk
      cases hr : coP s c with
      | true =>
        have HQ := Lib.hid (HP.out hr)
        have hr' : (c.name.toList == s.toList) = true := hr
        have HB3 := Lib.hid HR.out.2
        clear hr
        go_wp2
        go_ret
        rw [HQ.out]
        exact ⟨rfl, HB3.out⟩
      | false =>
        have HQ := Lib.hid (HM.out hr)
        have hr' : (c.name.toList == s.toList) = false := hr
        have HB3 := Lib.hid HR.out.2
        clear hr
        go_wp2
        go_roundw
        case rel => exact ⟨k + 1, HLt.out, by go_num, Lib.hid ⟨HQ.out, HB3.out⟩⟩
        case measure => have := HLt.out; simp [intOf]; omega
    · have hkk : ¬ ((k : Int) < (n : Int)) := by omega
      have HQ := Lib.hid (show posI (coP s) l = -1 from posI_none (by
        have h1 := HR.out.1
        rw [List.take_of_length_le (by rw [← HN.out]; omega)] at h1
        exact h1))
      go_wp2
      go_ret
      rw [HQ.out]
      exact ⟨rfl, HR.out.2⟩
set_option maxHeartbeats 1600000 in
theorem rfind_any (w : World) (a : Option Addr) (l : List TB) (cap n : Nat) (hn : n = l.length) (s : ByteArray) (hl : TabsAt w a l) (hlen : l.length ≤ 9223372036854775807) :
    Calls Try.prog 23 #[.slice a n cap, .string s] w fun e w' => e = .returned (.int .i64 (posI (tbP s) l)) ∧ Below w.heap.size w w' := by
  have HL := Lib.hid hl
  have HN := Lib.hid hn
  have hlen' : n ≤ 9223372036854775807 := by omega
  clear hl hlen hn
  go_enter Try.func23, Try.ntmps23
  go_wp2
  go_loopw [8] (fun i wr => ∃ (k : Nat), k ≤ n ∧ i = .int .i64 (k : Int) ∧ Hid ((l.take k).any (tbP s) = false ∧ Below w.heap.size w wr)) (fun i _ => n - (intOf i).toNat)
  case atStart => exact ⟨0, by omega, rfl, Lib.hid ⟨rfl, Below.refl _ _⟩⟩
  case round =>
    obtain ⟨k, hk, rfl, HR⟩ := hrel
    have hk0 : (0 : Int) ≤ (k : Int) := by omega
    by_cases hlt : k < n
    · have hki : (k : Int) < (n : Int) := by omega
      have hkl : k < l.length := by rw [← HN.out]; exact hlt
      have HLt := Lib.hid hlt
      obtain ⟨b, off, ca, cc, rfl, hbl, hat⟩ := (HL.out.keep HR.out.2).at hkl
      have q0 := hat.c0
      have q1 := hat.c1
      have q2 := hat.c2
      have HP := Lib.hid (show tbP s (l[k]) = true → posI (tbP s) l = (k : Int) from fun h => posI_hit hkl HR.out.1 h)
      have HM := Lib.hid (show tbP s (l[k]) = false → (l.take (k + 1)).any (tbP s) = false from fun h => any_more hkl HR.out.1 h)
      obtain ⟨c, hc⟩ : ∃ c, c = l[k] := ⟨_, rfl⟩
      rw [← hc] at q0 q1 q2 HP HM
      clear hat hc hkl hlt hk
      cases hr : tbP s c with
      | true =>
        have HQ := Lib.hid (HP.out hr)
        have hr' : (c.name.toList == s.toList) = true := hr
        have HB3 := Lib.hid HR.out.2
        clear hr
        go_wp2
        go_ret
        rw [HQ.out]
        exact ⟨rfl, HB3.out⟩
      | false =>
        have HQ := Lib.hid (HM.out hr)
        have hr' : (c.name.toList == s.toList) = false := hr
        have HB3 := Lib.hid HR.out.2
        clear hr
        go_wp2
        go_roundw
        case rel => exact ⟨k + 1, HLt.out, by go_num, Lib.hid ⟨HQ.out, HB3.out⟩⟩
        case measure => have := HLt.out; simp [intOf]; omega
    · have hkk : ¬ ((k : Int) < (n : Int)) := by omega
      have HQ := Lib.hid (show posI (tbP s) l = -1 from posI_none (by
        have h1 := HR.out.1
        rw [List.take_of_length_le (by rw [← HN.out]; omega)] at h1
        exact h1))
      go_wp2
      go_ret
      rw [HQ.out]
      exact ⟨rfl, HR.out.2⟩
theorem box_cell (w : World) (v : Value) (t : TypeId) {n : Nat} (h : n = w.heap.size) : (w.alloc (.cells #[v] t)).cell? ⟨n, 0, none⟩ = some v := by
  subst h
  exact cell_of_row _ _ 0 _ _ _ (Go.heap_alloc_new w _)
set_option maxHeartbeats 1600000 in
theorem columnOf_any (w : World) (t : TB) (ca : Option Addr) (cc : Nat) (s : ByteArray) (hl : ColsAt w ca t.cols) (hlen : t.cols.length ≤ 9223372036854775807) :
    Calls Try.prog 162 #[.agg #[.string t.name, .bool t.view, .slice ca t.cols.length cc], .string s] w fun e w' => e = .returned (.int .i64 (posI (coP s) t.cols)) ∧ Below w.heap.size w w' := by
  have HB := Lib.hid (bel0 (.cells #[.string s] 9) (bel0 (.cells #[.string t.name, .bool t.view, .slice ca t.cols.length cc] 109) (Below.refl w.heap.size w)))
  have HL := Lib.hid hl
  have HLn := Lib.hid hlen
  have HC := Lib.hid (box_cell (w.alloc (.cells #[.string t.name, .bool t.view, .slice ca t.cols.length cc] 109)) (.string s) 9 (n := w.heap.size + 1) (by simp))
  clear hl hlen
  go_enter Try.func162, Try.ntmps162
  go_wp2_with fail
  refine (idxCols_any _ ca t.cols cc _ rfl s _ (by exact HL.out.keep HB.out) HLn.out (by exact HC.out)).mono ?_
  rintro e w3 ⟨rfl, hb3⟩
  have HB3 := Lib.hid (bt HB.out hb3)
  clear hb3
  go_wp2
  go_ret
  exact ⟨rfl, HB3.out⟩
set_option maxHeartbeats 1600000 in
theorem find_any (w : World) (a : Option Addr) (l : List TB) (cap n : Nat) (hn : n = l.length) (s : ByteArray) (hl : TabsAt w a l) (hlen : l.length ≤ 9223372036854775807) :
    Calls Try.prog 22 #[.slice a n cap, .string s] w fun e w' => e = .returned (.int .i64 (posI (tbP s) l)) ∧ Below w.heap.size w w' := by
  have HB := Lib.hid (bel0 (.cells #[.string s] 9) (Below.refl w.heap.size w))
  have HL := Lib.hid hl
  have HLn := Lib.hid hlen
  have HN := Lib.hid hn
  have HC := Lib.hid (box_cell w (.string s) 9 rfl)
  clear hl hlen hn
  go_enter Try.func22, Try.ntmps22
  go_wp2_with fail
  refine (idxTabs_any _ a l cap _ HN.out s _ (by exact HL.out.keep HB.out) HLn.out (by exact HC.out)).mono ?_
  rintro e w3 ⟨rfl, hb3⟩
  have HB3 := Lib.hid (bt HB.out hb3)
  clear hb3
  go_wp2
  go_ret
  exact ⟨rfl, HB3.out⟩
end Go.Proofs.Ytafhgilikcablaa
