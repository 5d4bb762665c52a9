/- Formed: the document's and the package's (cut out of XSvVa). -/
import Derived.Test.YtafhgilikcablaaGreatDoorLxKey
import Derived.Test.YtafhgilikcablaaGreatDoorForm1
import Derived.Test.YtafhgilikcablaaGreatDoorEtEq
namespace Go.Proofs.YtafhgilikcablaaGreatDoor
open Go.RowKit
set_option linter.unusedVariables false
set_option linter.unusedSimpArgs false
set_option maxRecDepth 100000
theorem decode_w4 (s : ByteArray) (pos : Nat) : (Utf8.decode s pos).2 ≤ 4 := by
  unfold Utf8.decode
  dsimp only
  repeat' split
  all_goals simp
theorem runes_size (s : ByteArray) : ∀ fuel pos, s.size ≤ pos + fuel → s.size ≤ pos + 4 * Lib.runeCountFrom s fuel pos
  | 0, pos, h => by omega
  | f + 1, pos, h => by
    unfold Lib.runeCountFrom
    by_cases hp : pos < s.size
    · rw [if_pos hp]
      have h1 := Lib.decode_width_pos s pos hp
      have h2 := decode_w4 s pos
      have := runes_size s f (pos + (Utf8.decode s pos).2) (by omega)
      omega
    · omega
theorem nmd_size {s : ByteArray} (h : nmdB s = true) : s.size ≤ 64 := by
  unfold nmdB at h
  simp only [Bool.and_eq_true, decide_eq_true_eq] at h
  have := runes_size s s.size 0 (by omega)
  have h2 : Lib.runeCount s = Lib.runeCountFrom s s.size 0 := rfl
  omega
set_option maxHeartbeats 1600000 in
theorem rname_all (s : ByteArray) (w : World) (hs : s.size ≤ maxLen) : Calls Tryz.prog 39 #[.string s] w fun e w' => e = .returned (.bool (nmB s)) ∧ Below w.heap.size w w' := by
  have HE := Lib.hid (nmB_eq s)
  have HS := Lib.hid hs
  obtain ⟨b, hb⟩ : ∃ b, b = nmB s := ⟨_, rfl⟩
  rw [← hb]
  have HB := Lib.hid hb
  clear hb hs
  go_enter Tryz.func39, Tryz.ntmps39
  go_wp2_with fail
  refine (rnamed_any s _ (by have := HS.out; unfold maxLen at this; omega)).mono ?_
  rintro e w1 ⟨rfl, hb1⟩
  have HB1 := Lib.hid hb1
  clear hb1
  cases hn : nmdB s with
  | false =>
    have HN := Lib.hid hn
    clear hn
    go_wp2
    go_ret
    exact ⟨by rw [HB.out, HE.out, HN.out]; rfl, HB1.out⟩
  | true =>
    have HN := Lib.hid hn
    clear hn
    go_wp2_with fail
    refine (rkeyword_any s _ (by have := nmd_size HN.out; omega)).mono ?_
    rintro e w2 ⟨rfl, hw⟩
    subst hw
    go_wp2
    go_ret
    exact ⟨by rw [HB.out, HE.out, HN.out]; rfl, HB1.out⟩
theorem pname_all (w : World) (s : ByteArray) (hs : s.size ≤ maxLen) : Calls Tryz.prog 35 #[.string s] w fun e w' => e = .returned (.bool (nmB s)) ∧ Below w.heap.size w w' :=
  name_any s w (by unfold maxLen at hs; omega)
/-- when an expression is formed -/
def fmdB (e : ET) : Bool := sndB (shD nmB formedB) 8 e
theorem pformed_all (w : World) (Q : Nat → Prop) (v : Value) (e : ET) (hv : EV w Q v e) : Calls Tryz.prog 15 #[v, .int .i64 8] w fun e' w' => e' = .returned (.bool (fmdB e)) ∧ Below w.heap.size w w' := by
  have h := eformed_any (shP nmB formedB) (fun w Q v e h => shaped_any nmB pname_all formedB (fun w a n s => (formed_any a n s w).mono (fun _ _ h => ⟨h.1, by rw [← h.2]; exact bel0 _ (Below.refl _ _)⟩)) w Q v e h) 8 (Nat.le_refl _) w Q v e hv
  rw [sndB_congr (shP_is nmB formedB)] at h
  exact h
theorem rsound_all (w : World) (Q : Nat → Prop) (v : Value) (e : ET) (hv : EV w Q v e) : Calls Tryz.prog 16 #[v, .int .i64 8] w fun e' w' => e' = .returned (.bool (fmdB e)) ∧ Below w.heap.size w w' :=
  sound_any (shD nmB formedB) (fun w Q v e h => shape_any nmB (fun w s hs => rname_all s w hs) formedB (fun w a n s => (rformed_any a n s w).mono (fun _ _ h => ⟨h.1, by rw [← h.2]; exact bel0 _ (Below.refl _ _)⟩)) w Q v e h) 8 (Nat.le_refl _) w Q v e hv
set_option maxHeartbeats 1600000 in
theorem pFormed_any (w : World) (Q : Nat → Prop) (v : Value) (e : ET) (hv : EV w Q v e) : Calls Tryz.prog 8 #[v] w fun e' w' => e' = .returned (.bool (fmdB e)) ∧ Below w.heap.size w w' := by
  obtain ⟨sa, sc, rfl, hrg, hel⟩ := hv
  have HV := Lib.hid (show ∀ W, Below w.heap.size w W → Calls Tryz.prog 15 #[.agg #[.int .i64 e.kind, .string e.op, .int .i64 e.vk, .int .i64 e.vn, .string e.vs, .string e.tab, .string e.col, .slice sa e.parts.length sc], .int .i64 8] W fun e' w' => e' = .returned (.bool (fmdB e)) ∧ Below W.heap.size W w' from fun W hW => pformed_all W Q _ e ⟨sa, sc, rfl, hrg, hel.keep hW⟩)
  have HB := Lib.hid (show Below w.heap.size w (w.alloc (.cells #[.int .i64 e.kind, .string e.op, .int .i64 e.vk, .int .i64 e.vn, .string e.vs, .string e.tab, .string e.col, .slice sa e.parts.length sc] 31)) from bel0 _ (Below.refl _ _))
  have e0 : (etX e sa sc).toArray = #[.int .i64 e.kind, .string e.op, .int .i64 e.vk, .int .i64 e.vn, .string e.vs, .string e.tab, .string e.col, .slice sa e.parts.length sc] := rfl
  rw [e0]
  clear hrg hel e0
  go_enter Tryz.func8, Tryz.ntmps8
  go_wp2_with fail
  refine (HV.out _ HB.out).mono ?_
  rintro e' w2 ⟨rfl, hb2⟩
  go_wp2_with fail
  go_ret
  exact ⟨rfl, bt HB.out hb2⟩
set_option maxHeartbeats 1600000 in
theorem rFormed_any (w : World) (Q : Nat → Prop) (v : Value) (e : ET) (hv : EV w Q v e) : Calls Tryz.prog 9 #[v] w fun e' w' => e' = .returned (.bool (fmdB e)) ∧ Below w.heap.size w w' := by
  obtain ⟨sa, sc, rfl, hrg, hel⟩ := hv
  have HV := Lib.hid (show ∀ W, Below w.heap.size w W → Calls Tryz.prog 16 #[.agg #[.int .i64 e.kind, .string e.op, .int .i64 e.vk, .int .i64 e.vn, .string e.vs, .string e.tab, .string e.col, .slice sa e.parts.length sc], .int .i64 8] W fun e' w' => e' = .returned (.bool (fmdB e)) ∧ Below W.heap.size W w' from fun W hW => rsound_all W Q _ e ⟨sa, sc, rfl, hrg, hel.keep hW⟩)
  have HB := Lib.hid (show Below w.heap.size w (w.alloc (.cells #[.int .i64 e.kind, .string e.op, .int .i64 e.vk, .int .i64 e.vn, .string e.vs, .string e.tab, .string e.col, .slice sa e.parts.length sc] 26)) from bel0 _ (Below.refl _ _))
  have e0 : (etX e sa sc).toArray = #[.int .i64 e.kind, .string e.op, .int .i64 e.vk, .int .i64 e.vn, .string e.vs, .string e.tab, .string e.col, .slice sa e.parts.length sc] := rfl
  rw [e0]
  clear hrg hel e0
  go_enter Tryz.func9, Tryz.ntmps9
  go_wp2_with fail
  refine (HV.out _ HB.out).mono ?_
  rintro e' w2 ⟨rfl, hb2⟩
  go_wp2_with fail
  go_ret
  exact ⟨rfl, bt HB.out hb2⟩
end Go.Proofs.YtafhgilikcablaaGreatDoor
