/- The program's Value: its finder's cell of any expression, formed or not. -/
import Derived.Test.YtafhgilikcablaaSvR1
import Derived.Test.YtafhgilikcablaaLxKey
import Derived.Test.YtafhgilikcablaaFormV
import Derived.Test.YtafhgilikcablaaEtEq
import Derived.Test.YtafhgilikcablaaSvBx
namespace Go.Proofs.Ytafhgilikcablaa
open Go.RowKit
set_option linter.unusedVariables false
set_option linter.unusedSimpArgs false
set_option maxRecDepth 100000
theorem snd_part {sh : ET → Bool} {d : Nat} {e p : ET} (h : sndB sh d e = true) (hp : p ∈ e.parts) : sndB sh (d - 1) p = true := by
  cases d with
  | zero => cases h
  | succ d =>
    have h : (sh e && e.parts.all (sndB sh d)) = true := h
    rw [Bool.and_eq_true] at h
    exact List.all_eq_true.1 h.2 p hp
theorem snd_top {sh : ET → Bool} {d : Nat} {e : ET} (h : sndB sh d e = true) : sh e = true := by
  cases d with
  | zero => cases h
  | succ d =>
    have h : (sh e && e.parts.all (sndB sh d)) = true := h
    rw [Bool.and_eq_true] at h
    exact h.1
theorem row_keep {wr w3 : World} {B T m n : Nat} {v : Value} {xs : List Value} (h : wr.ownsRow B T m v n xs) (hb : Below wr.heap.size wr w3) : w3.ownsRow B T m v n xs :=
  ownsRow_far h (fun g hg => hb.block g (h.lt g hg).2)
theorem own_slice {w : World} {B T m n : Nat} {v : Value} {xs : List Value} (h : w.ownsRow B T m v n xs) : ∃ a cap, v = .slice a n cap := by
  rcases h.2 with ⟨rfl, h0⟩ | ⟨g, cap, cur, rfl, _⟩
  · exact ⟨none, 0, by rw [h0]⟩
  · exact ⟨_, cap, rfl⟩
end Go.Proofs.Ytafhgilikcablaa
namespace Go.Proofs.Ytafhgilikcablaa
open Go.RowKit
set_option linter.unusedVariables false
set_option linter.unusedSimpArgs false
set_option maxRecDepth 100000
theorem decode_w4 (s : ByteArray) (pos : Nat) : (Utf8.decode s pos).2 ≤ 4 := by
  unfold Utf8.decode
  dsimp only
  repeat' split
  all_goals simp
theorem runes_size (s : ByteArray) : ∀ fuel pos, s.size ≤ pos + fuel → s.size ≤ pos + 4 * Lib.runeCountFrom s fuel pos
  | 0, pos, h => by omega
  | f + 1, pos, h => by
    unfold Lib.runeCountFrom
    by_cases hp : pos < s.size
    · rw [if_pos hp]
      have h1 := Lib.decode_width_pos s pos hp
      have h2 := decode_w4 s pos
      have := runes_size s f (pos + (Utf8.decode s pos).2) (by omega)
      omega
    · omega
theorem nmd_size {s : ByteArray} (h : nmdB s = true) : s.size ≤ 64 := by
  unfold nmdB at h
  simp only [Bool.and_eq_true, decide_eq_true_eq] at h
  have := runes_size s s.size 0 (by omega)
  have h2 : Lib.runeCount s = Lib.runeCountFrom s s.size 0 := rfl
  omega
set_option maxHeartbeats 1600000 in
theorem rname_all (s : ByteArray) (w : World) (hs : s.size ≤ maxLen) : Calls Try.prog 167 #[.string s] w fun e w' => e = .returned (.bool (nmB s)) ∧ Below w.heap.size w w' := by
  have HE := Lib.hid (nmB_eq s)
  have HS := Lib.hid hs
  obtain ⟨b, hb⟩ : ∃ b, b = nmB s := ⟨_, rfl⟩
  rw [← hb]
  have HB := Lib.hid hb
  clear hb hs
  go_enter Try.func167, Try.ntmps167
  go_wp2_with fail
  refine (rnamed_any s _ (by have := HS.out; unfold maxLen at this; omega)).mono ?_
  rintro e w1 ⟨rfl, hb1⟩
  have HB1 := Lib.hid hb1
  clear hb1
  cases hn : nmdB s with
  | false =>
    have HN := Lib.hid hn
    clear hn
    go_wp2
    go_ret
    exact ⟨by rw [HB.out, HE.out, HN.out]; rfl, HB1.out⟩
  | true =>
    have HN := Lib.hid hn
    clear hn
    go_wp2_with fail
    refine (rkeyword_any s _ (by have := nmd_size HN.out; omega)).mono ?_
    rintro e w2 ⟨rfl, hw⟩
    subst hw
    go_wp2
    go_ret
    exact ⟨by rw [HB.out, HE.out, HN.out]; rfl, HB1.out⟩
/-- when an expression is formed -/
def fmdB (e : ET) : Bool := sndB (shD nmB formedB) 8 e
theorem rsound_all (w : World) (Q : Nat → Prop) (v : Value) (e : ET) (hv : EV w Q v e) : Calls Try.prog 96 #[v, .int .i64 8] w fun e' w' => e' = .returned (.bool (fmdB e)) ∧ Below w.heap.size w w' :=
  sound_any (shD nmB formedB) (fun w Q v e h => shape_any nmB (fun w s hs => rname_all s w hs) formedB (fun w a n s => (rformed_any a n s w).mono (fun _ _ h => ⟨h.1, by rw [← h.2]; exact bel0 _ (Below.refl _ _)⟩)) w Q v e h) 8 (Nat.le_refl _) w Q v e hv
set_option maxHeartbeats 1600000 in
theorem rFormed_any (w : World) (Q : Nat → Prop) (v : Value) (e : ET) (hv : EV w Q v e) : Calls Try.prog 60 #[v] w fun e' w' => e' = .returned (.bool (fmdB e)) ∧ Below w.heap.size w w' := by
  obtain ⟨sa, sc, rfl, hrg, hel⟩ := hv
  have HV := Lib.hid (show ∀ W, Below w.heap.size w W → Calls Try.prog 96 #[.agg #[.int .i64 e.kind, .string e.op, .int .i64 e.vk, .int .i64 e.vn, .string e.vs, .string e.tab, .string e.col, .slice sa e.parts.length sc], .int .i64 8] W fun e' w' => e' = .returned (.bool (fmdB e)) ∧ Below W.heap.size W w' from fun W hW => rsound_all W Q _ e ⟨sa, sc, rfl, hrg, hel.keep hW⟩)
  have HB := Lib.hid (show Below w.heap.size w (w.alloc (.cells #[.int .i64 e.kind, .string e.op, .int .i64 e.vk, .int .i64 e.vn, .string e.vs, .string e.tab, .string e.col, .slice sa e.parts.length sc] 41)) from bel0 _ (Below.refl _ _))
  have e0 : (etX e sa sc).toArray = #[.int .i64 e.kind, .string e.op, .int .i64 e.vk, .int .i64 e.vn, .string e.vs, .string e.tab, .string e.col, .slice sa e.parts.length sc] := rfl
  rw [e0]
  clear hrg hel e0
  go_enter Try.func60, Try.ntmps60
  go_wp2_with fail
  refine (HV.out _ HB.out).mono ?_
  rintro e' w2 ⟨rfl, hb2⟩
  go_wp2_with fail
  go_ret
  exact ⟨rfl, bt HB.out hb2⟩
end Go.Proofs.Ytafhgilikcablaa
namespace Go.Proofs.Ytafhgilikcablaa
open Go.RowKit
set_option linter.unusedVariables false
set_option linter.unusedSimpArgs false
set_option maxRecDepth 100000
theorem clSz_map_le (f : ET → CT) : ∀ l : List ET, (∀ p ∈ l, ctSz (f p) ≤ etSz p) → clSz (l.map f) ≤ elSz l
  | [], _ => Nat.le_refl _
  | p :: l, h => by
    show ctSz (f p) + clSz (l.map f) ≤ etSz p + elSz l
    have h1 := h p List.mem_cons_self
    have h2 := clSz_map_le f l (fun q hq => h q (List.mem_cons_of_mem _ hq))
    omega
theorem etSz_pos (e : ET) : 1 ≤ etSz e := by rw [etSz_is]; omega
theorem colV_sz (F : FnD) (t col : ByteArray) : ctSz (colV F t col).1 = 1 := by
  unfold colV
  cases colI F t col with
  | none => rfl
  | some i =>
    show ctSz (colR F col i).1 = 1
    unfold colR
    dsimp only
    split <;> rfl
theorem finV_sz {k : Int} {op : ByteArray} {may : Bool} {l : List ET} {f : ET → CT × Int × Int} (h : ∀ p ∈ l, ctSz (f p).1 ≤ etSz p) : ctSz (finV k op may (l.map f)).1 ≤ 1 + elSz l := by
  unfold finV
  split
  · show 1 ≤ _; omega
  · split
    · show 1 ≤ _; omega
    · show 1 + clSz ((l.map f).map (·.1)) ≤ _
      rw [List.map_map]
      have := clSz_map_le (fun p => (f p).1) l h
      exact Nat.add_le_add_left this 1
theorem resV_sz (F : FnD) : ∀ (N : Nat) (may : Bool) (e : ET), etSz e ≤ N → ctSz (resV F may e).1 ≤ etSz e := by
  intro N
  induction N with
  | zero => intro may e h; rw [etSz_is] at h; omega
  | succ N ih =>
    intro may e h
    by_cases h1 : e.kind = 1
    · rw [resV_1 F may e h1]; exact etSz_pos e
    by_cases h2 : e.kind = 2
    · rw [resV_2 F may e h2, colV_sz]; exact etSz_pos e
    rw [resV_n F may e h1 h2, etSz_is]
    exact finV_sz (fun p hp => ih _ p (by have := etSz_part hp; omega))
/-- a number that stands for no table -/
def outB (tabs : List TB) (s : Int) : Bool := decide (s < 0) || decide ((tabs.length : Int) ≤ s)
def nmOf (tabs : List TB) (s : Int) : ByteArray := (tabs.getD s.toNat default).name
def FnOf (tabs : List TB) (srcs : List Int) : FnD := ⟨tabs, srcs.map Int.toNat, srcs.map (nmOf tabs)⟩
def scV (tabs : List TB) (srcs : List Int) (e : ET) : CT × Int × Int := if (srcs.any (outB tabs) || !fmdB e) = true then (ctZ, 0, 1) else resV (FnOf tabs srcs) false e
theorem scV_out {tabs : List TB} {srcs : List Int} {e : ET} (h : srcs.any (outB tabs) = true) : scV tabs srcs e = (ctZ, 0, 1) := if_pos (by rw [h]; rfl)
theorem scV_bad {tabs : List TB} {srcs : List Int} {e : ET} (h : fmdB e = false) : scV tabs srcs e = (ctZ, 0, 1) := if_pos (by rw [h]; simp)
theorem scV_ok {tabs : List TB} {srcs : List Int} {e : ET} (h : srcs.any (outB tabs) = false) (hf : fmdB e = true) : scV tabs srcs e = resV (FnOf tabs srcs) false e := if_neg (by rw [h, hf]; decide)
theorem scV_sz (tabs : List TB) (srcs : List Int) (e : ET) : ctSz (scV tabs srcs e).1 ≤ etSz e := by
  unfold scV
  split
  · exact etSz_pos e
  · exact resV_sz _ _ _ e (Nat.le_refl _)
theorem out_ok {tabs : List TB} {s : Int} (h : outB tabs s = false) : 0 ≤ s ∧ s < tabs.length := by
  unfold outB at h
  simp at h
  omega
theorem toNat_back {tabs : List TB} {srcs : List Int} (h : srcs.any (outB tabs) = false) : (srcs.map Int.toNat).map Int.ofNat = srcs := by
  rw [List.map_map]
  induction srcs with
  | nil => rfl
  | cons s l ih =>
    rw [List.any_cons, Bool.or_eq_false_iff] at h
    rw [List.map_cons, ih h.2]
    have := out_ok h.1
    congr 1
    show ((s.toNat : Nat) : Int) = s
    omega
theorem fnOf_at {w : World} {tabs : List TB} {srcs : List Int} {ta sa na : Option Addr} (h : srcs.any (outB tabs) = false) (ht : TabsAt w ta tabs) (hs : IntsAt w sa srcs) (hn : StrsAt w na (srcs.map (nmOf tabs))) (h1 : tabs.length ≤ 9223372036854775807) (h2 : srcs.length ≤ 9223372036854775807) : FnAt w (FnOf tabs srcs) ta sa na := by
  refine ⟨ht, ?_, hn, ?_, ?_, h1, ?_⟩
  · show IntsAt w sa ((srcs.map Int.toNat).map Int.ofNat)
    rw [toNat_back h]; exact hs
  · intro s hs
    obtain ⟨x, hx, rfl⟩ := List.mem_map.1 hs
    have := out_ok (List.any_eq_false.1 h x hx |> fun h => by simpa using h)
    show x.toNat < tabs.length
    omega
  · show (srcs.map (nmOf tabs)).length = (srcs.map Int.toNat).length
    simp
  · show (srcs.map Int.toNat).length ≤ _
    simpa using h2
end Go.Proofs.Ytafhgilikcablaa
namespace Go.Proofs.Ytafhgilikcablaa
open Go.RowKit
set_option linter.unusedVariables false
set_option linter.unusedSimpArgs false
set_option maxRecDepth 100000
/-- the names of sources, as they come together -/
structure VaRel (w w1 : World) (FB T : Nat) (fa fs : Value) (l : List ByteArray) (nv : Value) (wr : World) : Prop where
  below : Below w.heap.size w wr
  size : w1.heap.size ≤ wr.heap.size
  low : ∀ i, i < w1.heap.size → i ≠ FB → wr.heap[i]? = w1.heap[i]?
  hF : w.heap.size ≤ FB ∧ FB < w1.heap.size
  box : wr.heap[FB]? = some (.cells #[fa, fs, nv] T (0, 0))
  row : wr.ownsRow w1.heap.size 9 1 nv l.length (l.map Value.string)
theorem VaRel.next {w w1 wr w3 w4 : World} {FB T g cap n : Nat} {fa fs nv : Value} {l : List ByteArray} {s : ByteArray} (hn : n = l.length) (h : VaRel w w1 FB T fa fs l nv wr) (hb3 : Below wr.heap.size wr w3)
    (hown : w4.ownsRow w1.heap.size 9 1 (.slice (some ⟨g, 0, none⟩) (n + 1) cap) (n + 1) (l.map Value.string ++ [.string s])) (hg : w3.grownBy w4 nv.ownBlock) (hat : nv.ownBlock = some g ∨ g = w3.heap.size) :
    VaRel w w1 FB T fa fs (l ++ [s]) (.slice (some ⟨g, 0, none⟩) (n + 1) cap) (w4.setCell ⟨FB, 2, none⟩ (.slice (some ⟨g, 0, none⟩) (n + 1) cap)) := by
  subst hn
  have hs3 := hb3.size
  have hs4 := hg.size
  have hsz := h.size
  have hwb := h.below.size
  have hF := h.hF
  have vlt : ∀ b, nv.ownBlock = some b → w1.heap.size ≤ b ∧ b < wr.heap.size := fun b hb => h.row.lt b hb
  have keep : ∀ i, i < wr.heap.size → nv.ownBlock ≠ some i → w4.heap[i]? = wr.heap[i]? := fun i hi hv => (hg.block i (by omega) (fun e => hv e.symm)).trans (hb3.block i hi)
  have st : ∀ i, i ≠ FB → (w4.setCell ⟨FB, 2, none⟩ (.slice (some ⟨g, 0, none⟩) (l.length + 1) cap)).heap[i]? = w4.heap[i]? := fun i hi => heap_setCell_other _ _ _ _ hi
  have hv1 : ∀ i, i < w1.heap.size → nv.ownBlock ≠ some i := fun i hi e => by have := (vlt i e).1; omega
  have hgB : w1.heap.size ≤ g := by
    rcases hat with hat | hat
    · exact (vlt g hat).1
    · omega
  refine ⟨?_, by simp; omega, fun i hi hne => (st i hne).trans ((keep i (by omega) (hv1 i hi)).trans (h.low i hi hne)), hF, Go.heap_setCell_same w4 FB 2 _ _ (.slice (some ⟨g, 0, none⟩) (l.length + 1) cap) ((keep FB (by omega) (hv1 FB (by omega))).trans h.box), ?_⟩
  · have hb := h.below
    exact ⟨hg.os.trans (hb3.os.trans hb.os), hg.tape.trans (hb3.tape.trans hb.tape), hg.output.trans (hb3.output.trans hb.output), by simp; omega, fun i hi => (st i (by omega)).trans ((keep i (by omega) (hv1 i (by omega))).trans (hb.block i hi))⟩
  · rw [List.length_append, List.map_append]
    refine ownsRow_far hown (fun b hb => ?_)
    have hb : g = b := by simpa [Value.ownBlock] using hb
    subst hb
    exact st g (by omega)
end Go.Proofs.Ytafhgilikcablaa
