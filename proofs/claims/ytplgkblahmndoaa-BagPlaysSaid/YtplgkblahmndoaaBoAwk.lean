/- Layer 14's awake: a row is added to a new bag. -/
import Derived.Test.YtplgkblahmndoaaBoNil
import Derived.Deep.QuietTactic
import Derived.BigQuiet
import Derived.WideMake
import Derived.StringKeys
import Derived.Outline
import Derived.Deep.RegionHeld3
import Derived.Deep.RegionLawGrows
namespace Go.Proofs.Ytplgkblahmndoaa
open Go.RowKit Go.WideMaps Go.Maps
set_option linter.unusedVariables false
set_option maxRecDepth 100000

theorem info0V : (Try.prog.info? 46).map (fun i => (i.zero, i.size, i.bytes)) = some (some (.agg #[.int .i64 0, .int .i64 0, .string ⟨#[]⟩]), 3, 32) := by kernel_rfl

/-- a clone is made: memory alone -/
def SomeRow (w : World) (e : Ending) (w' : World) : Prop := ∃ g c : Nat, e = .returned (.slice (some ⟨g, 0, none⟩) 1 c) ∧ Below w.heap.size w w'

set_option maxHeartbeats 1600000 in
theorem bclone (g : Nat) (y : Val) (w : World) (hc : w.cell? ⟨g, 0, none⟩ = some (.int .i64 y.1) ∧ w.cell? ⟨g, 1, none⟩ = some (.int .i64 y.2.1) ∧ w.cell? ⟨g, 2, none⟩ = some (.string y.2.2)) (hg : g < w.heap.size) :
    Calls Try.prog 58 #[.slice (some ⟨g, 0, none⟩) 1 1] w (SomeRow w) := by
  obtain ⟨i0, hi, hz0, hz1, hz2⟩ := info_parts info0V
  have HC := Lib.hid hc
  clear hc
  have hnil := fun (W : World) => Lib.run_eql_slice_nil (P := Try.prog) W 23 46 (some ⟨g, 0, none⟩) 1 1 0 0 Try.underlying23
  go_enter Try.func58, Try.ntmps58
  go_wp2_with (at_builtin; refine wpList_append_own _ rfl _ _ 23 rfl w.heap.size 46 i0 (.agg #[.int .i64 0, .int .i64 0, .string ⟨#[]⟩]) 3 32 Try.underlying23 hi hz0 hz1 hz2 rfl (by decide) _ 0 [] rfl ?c0 ⟨g, 0, none⟩ 1 1 (valsX y) rfl ?c1 ?c2 ?c3 ?c4 ?c5 ?c6 ?_)
  case c0 => exact World.ownsRow_lit (base := w.heap.size) (e := 46) (size := 3) w #[] 0 (Nat.le_refl _) (by unfold maxLen; omega) rfl
  case c1 => rfl
  case c2 =>
    intro j u hu
    have e : ∀ j, (w.alloc (.cells #[] 46)).cell? ⟨g, j, none⟩ = w.cell? ⟨g, j, none⟩ := fun j => (Below.refl w.heap.size w).alloc (Nat.le_refl _) (.cells #[] 46) |>.cell (p := ⟨g, j, none⟩) hg
    match j, hu with
    | 0, hu => simp [valsX] at hu; subst hu; exact (e 0).trans HC.out.1
    | 1, hu => simp [valsX] at hu; subst hu; exact (e 1).trans HC.out.2.1
    | 2, hu => simp [valsX] at hu; subst hu; exact (e 2).trans HC.out.2.2
    | j + 3, hu => simp [valsX] at hu
  case c3 => intro u hu; simp [valsX] at hu; rcases hu with rfl | rfl | rfl <;> rfl
  case c4 => unfold maxLen; omega
  case c5 => omega
  case c6 => simp
  intro v' w1 hown hgrow _
  obtain ⟨h, c, rfl⟩ : ∃ h c, v' = .slice (some ⟨h, 0, none⟩) 1 c := by
    rcases hown.2 with ⟨_, h⟩ | ⟨h, c, cur, e, _⟩
    · omega
    · exact ⟨h, c, e⟩
  have HB := Lib.hid ((bel0 (.cells #[] 46) (Below.refl w.heap.size w)).grown hgrow (by simp) (fun k hk => by cases hk; exact Nat.le_refl _))
  clear hown hgrow
  go_wp2
  go_ret
  exact ⟨h, c, rfl, HB.out⟩

set_option maxHeartbeats 1600000 in
theorem bplus02 (w : World) : Calls Try.prog 112 #[.int .i64 0, .int .i64 2] w fun e w' => e = .returned (.tuple #[.int .i64 2, .bool true]) ∧ w' = w := by
  go_enter Try.func112, Try.ntmps112
  go_wp2
  go_ret2
  exact ⟨rfl, rfl⟩

theorem bzeroEntry (w : World) : (zeroValue 114).run Try.prog w = .ok (.agg #[.slice none 0 0, .int .i64 0]) w := by kernel_rfl
theorem bstrKeyed : Keyed Try.prog 9 := string_keyed Try.underlying9

theorem bset_keep {W1 W w8 : World} {D M : Nat} {v : Value} {o : Obj} (hD : D < W1.heap.size) (hM : M < W1.heap.size) (h : W.cell? ⟨D, 0, none⟩ = some v ∧ W.heap[M]? = some o ∧ Below W1.heap.size W1 W) (hb : Below W.heap.size W w8) :
    w8.cell? ⟨D, 0, none⟩ = some v ∧ w8.heap[M]? = some o ∧ Below W1.heap.size W1 w8 :=
  ⟨(hb.cell (p := ⟨D, 0, none⟩) (Nat.lt_of_lt_of_le hD h.2.2.size)).trans h.1, (hb.block M (Nat.lt_of_lt_of_le hM h.2.2.size)).trans h.2.1, bt h.2.2 hb⟩
theorem bset_cells {W1 W : World} {D M g : Nat} {v : Value} {o : Obj} {a b c : Value} (hg : g < W1.heap.size) (h : W.cell? ⟨D, 0, none⟩ = some v ∧ W.heap[M]? = some o ∧ Below W1.heap.size W1 W) (hc : W1.cell? ⟨g, 0, none⟩ = some a ∧ W1.cell? ⟨g, 1, none⟩ = some b ∧ W1.cell? ⟨g, 2, none⟩ = some c) :
    W.cell? ⟨g, 0, none⟩ = some a ∧ W.cell? ⟨g, 1, none⟩ = some b ∧ W.cell? ⟨g, 2, none⟩ = some c :=
  ⟨(h.2.2.cell (p := ⟨g, 0, none⟩) hg).trans hc.1, (h.2.2.cell (p := ⟨g, 1, none⟩) hg).trans hc.2.1, (h.2.2.cell (p := ⟨g, 2, none⟩) hg).trans hc.2.2⟩
theorem bset_low {W1 W : World} {D M g : Nat} {v : Value} {o : Obj} (hg : g < W1.heap.size) (h : W.cell? ⟨D, 0, none⟩ = some v ∧ W.heap[M]? = some o ∧ Below W1.heap.size W1 W) : g < W.heap.size := Nat.lt_of_lt_of_le hg h.2.2.size

theorem bset_fin {w W1 w8 : World} {D : Nat} {es : Array MapEntry} {c : Nat} (hes : es.size = 1) (hD : D < w.heap.size) (hb1 : Below D w W1) (h1 : W1.heap.size = w.heap.size + 1) (k1 : w8.cell? ⟨D, 0, none⟩ = some (.map (some w.heap.size))) (k3 : Below W1.heap.size W1 w8)
    (W : World) (hh : W.heap = w8.heap.setIfInBounds w.heap.size (.map es c)) (ho : W.os = w8.os) (ht : W.tape = w8.tape) (hp : W.output = w8.output) :
    (∃ M es c, W.cell? ⟨D, 0, none⟩ = some (.map (some M)) ∧ W.heap[M]? = some (.map es c) ∧ es.size = 1) ∧ Below D w W := by
  have e : ∀ b, b ≠ w.heap.size → W.heap[b]? = w8.heap[b]? := fun b hb => by rw [hh, Array.getElem?_setIfInBounds_ne (Ne.symm hb)]
  have hs := k3.size
  refine ⟨⟨w.heap.size, es, c, ?_, ?_, hes⟩, ⟨ho.trans (k3.os.trans hb1.os), ht.trans (k3.tape.trans hb1.tape), hp.trans (k3.output.trans hb1.output), ?_, fun b hb => ?_⟩⟩
  · rw [← k1]; unfold World.cell?; simp only [e D (by omega)]
  · rw [hh, Array.getElem?_setIfInBounds_self_of_lt (by omega)]
  · rw [hh, Array.size_setIfInBounds]; omega
  · rw [e b (by omega), k3.block b (by omega), hb1.block b hb]

set_option maxHeartbeats 1600000 in
theorem bset (D g : Nat) (y : Val) (S : ByteArray) (w : World) (h0 : w.cell? ⟨D, 0, none⟩ = some (.map none)) (hf : w.frozen? ⟨D, 0, none⟩ = false) (hD : D < w.heap.size)
    (hc : w.cell? ⟨g, 0, none⟩ = some (.int .i64 y.1) ∧ w.cell? ⟨g, 1, none⟩ = some (.int .i64 y.2.1) ∧ w.cell? ⟨g, 2, none⟩ = some (.string y.2.2)) (hg : g < w.heap.size) :
    Calls Try.prog 63 #[.pointer (some ⟨D, 0, none⟩), .string S, .slice (some ⟨g, 0, none⟩) 1 1, .int .i64 2] w fun e w' => e = .returned (.tuple #[]) ∧
      (∃ M es c, w'.cell? ⟨D, 0, none⟩ = some (.map (some M)) ∧ w'.heap[M]? = some (.map es c) ∧ es.size = 1) ∧ Below D w w' := by
  have hmm := @run_makeMap Try.prog
  have hmn := fun W => run_eql_map_nil (P := Try.prog) W 109 9 114 none Try.underlying109
  have hgD : g ≠ D := fun h => by subst h; rw [hc.1] at h0; cases h0
  obtain ⟨W1, hW1⟩ : ∃ W1, W1 = (w.setCell ⟨D, 0, none⟩ (.map (some w.heap.size))).alloc (.map #[] 0) := ⟨_, rfl⟩
  have p1 : W1.cell? ⟨D, 0, none⟩ = some (.map (some w.heap.size)) := by rw [hW1]; simp [go_sem, h0, hD]
  have p2 : W1.heap[w.heap.size]? = some (.map #[] 0) := by
    have := heap_alloc_new (w.setCell ⟨D, 0, none⟩ (.map (some w.heap.size))) (.map #[] 0)
    rw [hW1]; simpa using this
  have hb1 : Below D w W1 := by rw [hW1]; exact ((Below.refl D w).setCell (p := ⟨D, 0, none⟩) (Nat.le_refl _) _).alloc (by simp; omega) _
  have hz1 : W1.heap.size = w.heap.size + 1 := by rw [hW1]; simp
  have pc : ∀ o, W1.cell? ⟨g, o, none⟩ = w.cell? ⟨g, o, none⟩ := fun o => by
    rw [hW1]
    refine (((Below.refl w.heap.size _).alloc (by simp) (.map #[] 0)).cell (p := ⟨g, o, none⟩) hg).trans ?_
    exact World.cell?_setCell_far _ _ _ _ (fun h => hgD h.symm)
  have HC := Lib.hid (show W1.cell? ⟨g, 0, none⟩ = some (.int .i64 y.1) ∧ W1.cell? ⟨g, 1, none⟩ = some (.int .i64 y.2.1) ∧ W1.cell? ⟨g, 2, none⟩ = some (.string y.2.2) from ⟨(pc 0).trans hc.1, (pc 1).trans hc.2.1, (pc 2).trans hc.2.2⟩)
  have HB1 := Lib.hid hb1
  have HW1 := Lib.hid hW1
  have HZ1 := Lib.hid hz1
  have HD1 := Lib.hid (show D < W1.heap.size by omega)
  have HM1 := Lib.hid (show w.heap.size < W1.heap.size by omega)
  have HG1 := Lib.hid (show g < W1.heap.size by omega)
  clear hb1 hW1 hz1 pc hc hgD
  go_enter Try.func63, Try.ntmps63
  go_wp2
  rw [← HW1.out]
  have hmu : ∀ (W : World) (v : Value), W.heap[w.heap.size]? = some (.map #[] 0) → (Instr.mapUpdate 109 (.map (some w.heap.size)) (.string S) v).run Try.prog W = .ok () { W with heap := W.heap.setIfInBounds w.heap.size (.map #[{ key := .string S, val := v, born := 0 }] (0 + 1)) } :=
    fun W v h => run_mapUpdate_first (P := Try.prog) (w := W) 109 9 114 w.heap.size 0 S v Try.underlying109 Try.underlying9 h
  clear hmm hmn h0 hf
  have HK := Lib.hid (show ∀ w8, Below W1.heap.size W1 w8 → w8.cell? ⟨D, 0, none⟩ = some (.map (some w.heap.size)) ∧ w8.heap[w.heap.size]? = some (.map #[] 0) ∧ Below W1.heap.size W1 w8 from fun w8 hb => bset_keep HD1.out HM1.out ⟨p1, p2, Below.refl _ _⟩ hb)
  go_region_law (first
    | (go_simp; go_at_call 58; refine (bclone g y _ (by exact HC.out) (by exact HG1.out)).mono ?_; rintro e w8 ⟨g8, c8, rfl, hb8⟩; obtain ⟨k1, k2, k3⟩ := HK.out w8 ⟨hb8.os, hb8.tape, hb8.output, hb8.size, hb8.block⟩; clear hb8))
  all_goals go_end0
  all_goals exact ⟨rfl, bset_fin rfl hD HB1.out HZ1.out k1 k3 _ rfl rfl rfl rfl⟩

def vOne : Val := (1, 1, ⟨#[]⟩)
theorem okV_one : okV vOne := ⟨formed_int 1, by decide, by decide⟩
/-- what Add leaves -/
def BOne (w : World) (D : Nat) (w' : World) : Prop := (∃ M es c, w'.cell? ⟨D, 0, none⟩ = some (.map (some M)) ∧ w'.heap[M]? = some (.map es c) ∧ es.size = 1) ∧ Below D w w'

theorem blen_one (D M : Nat) (es : Array MapEntry) (c : Nat) (w : World) (h : w.cell? ⟨D, 0, none⟩ = some (.map (some M))) (hM : w.heap[M]? = some (.map es c)) (he : es.size = 1) : Calls Try.prog 52 #[.pointer (some ⟨D, 0, none⟩)] w fun e w' => e = .returned (.int .i64 1) ∧ w' = w := by
  have hl : ∀ ty, (Builtin.len_ #[109] ty #[.map (some M)]).run Try.prog w = .ok (.int .i64 1) w := fun ty => by
    simp [Builtin.len_, run_underlying Try.underlying109, MapKept.run_getObj_map hM, goInt, Result.andThen, he]
  go_enter Try.func52, Try.ntmps52
  go_wp2
  go_ret
  exact ⟨rfl, rfl⟩

set_option maxHeartbeats 1600000 in
theorem badd_one (D g : Nat) (w : World) (h0 : w.cell? ⟨D, 0, none⟩ = some (.map none)) (hf : w.frozen? ⟨D, 0, none⟩ = false) (hD : D < w.heap.size)
    (hc : w.cell? ⟨g, 0, none⟩ = some (.int .i64 1) ∧ w.cell? ⟨g, 1, none⟩ = some (.int .i64 1) ∧ w.cell? ⟨g, 2, none⟩ = some (.string ⟨#[]⟩)) (hg : g < w.heap.size) :
    Calls Try.prog 51 #[.pointer (some ⟨D, 0, none⟩), .slice (some ⟨g, 0, none⟩) 1 1, .int .i64 2] w fun e w' => e = .returned (.int .i64 0) ∧ BOne w D w' := by
  have hv : IsV w (some ⟨g, 0, none⟩) 1 [vOne] := ⟨rfl, by omega, .inr ⟨g, 0, rfl, hg, fun i hi => by
    obtain rfl : i = 0 := by omega
    exact hc⟩⟩
  have hl := fun W : World => Maps.look_nil (w := W) (P := Try.prog) (key := .string (strOfNums (keyVs [vOne]))) false bstrKeyed Try.underlying109 (bzeroEntry W) (keyOf_string_mk Try.underlying9 (by
    rw [numBytes_size]; have := keyVs_len (l := [vOne]) (fun v hv => by simp at hv; subst hv; exact okV_one); simp at this; unfold maxLen; omega))
  simp only [Bool.false_eq_true, if_false] at hl
  have HL := Lib.hid hl
  have HV := Lib.hid hv
  have H0 := Lib.hid h0
  have HF := Lib.hid hf
  have HC := Lib.hid hc
  clear hv h0 hf hc hl
  go_enter Try.func51, Try.ntmps51
  go_wp2_with fail
  refine (key_good (some ⟨g, 0, none⟩) 1 1 [vOne] _ HV.out (fun v hv => by simp at hv; subst hv; exact okV_one) (by omega)).mono ?_
  rintro e w1 ⟨v, rfl, hown, hb⟩
  obtain ⟨ka, kL, kc, rfl, eL, iK, lK, nK, eC, eB⟩ := own_any hown (keyVs_range _)
  have hs : ∀ n, (convert 81 9 (.slice ka kL kc)).run Try.prog (w1.drewN n) = .ok (.string (strOfNums (keyVs [vOne]))) (w1.drewN n) := fun n => str_any (by exact iK) nK
  obtain ⟨b1, b2⟩ := bcell hb
  have h0 : w1.cell? ⟨D, 0, none⟩ = some (.map none) := (b1 D 0 hD).trans H0.out
  have HF1 := Lib.hid ((b2 D 0 hD).trans HF.out)
  have HC1 := Lib.hid (show w1.cell? ⟨g, 0, none⟩ = some (.int .i64 1) ∧ w1.cell? ⟨g, 1, none⟩ = some (.int .i64 1) ∧ w1.cell? ⟨g, 2, none⟩ = some (.string ⟨#[]⟩) from ⟨(b1 g 0 hg).trans HC.out.1, (b1 g 1 hg).trans HC.out.2.1, (b1 g 2 hg).trans HC.out.2.2⟩)
  have HD1 := Lib.hid (show D < w1.heap.size ∧ g < w1.heap.size from ⟨Nat.lt_of_lt_of_le hD hb.size, Nat.lt_of_lt_of_le hg hb.size⟩)
  have HB := Lib.hid hb
  have hl := HL.out
  have hfd : ∀ W, (Instr.field 114 (.agg #[.slice none 0 0, .int .i64 0]) 1).run Try.prog W = .ok (.int .i64 0) W := fun W => by kernel_rfl
  generalize strOfNums (keyVs [vOne]) = S at *
  clear hown iK lK nK b1 b2 hb HL eL eC eB
  go_wp2
  go_quiet ((go_at_call 112; exact Calls.quiet_of_same (bplus02 _)))
  go_wp2_with fail
  refine (bset D g vOne S _ (by exact h0) (by exact HF1.out) (by exact HD1.out.1) (by exact HC1.out) (by exact HD1.out.2)).mono ?_
  rintro e w4 ⟨rfl, h4, hb4⟩
  have H4 := Lib.hid h4
  have HB4 := Lib.hid (show Below D w w4 from (HB.out.mono (Nat.le_of_lt hD)).trans ⟨hb4.os, hb4.tape, hb4.output, hb4.size, hb4.block⟩)
  clear h4 hb4
  go_wp2
  go_ret
  exact ⟨rfl, H4.out, HB4.out⟩

set_option maxHeartbeats 1600000 in
theorem bawake_any (w : World) : Calls Try.prog 9 #[] w fun e w' => e = .returned (.bool true) ∧ Below w.heap.size w w' := by
  go_enter Try.func9, Try.ntmps9
  go_wp2_with fail
  refine (bnew _).mono ?_
  rintro e w1 ⟨rfl, hw1⟩
  have h0 : (w1.alloc (.cells #[.int .i64 1, .int .i64 1, .string ⟨#[]⟩] 46)).cell? ⟨w.heap.size, 0, none⟩ = some (.map none) := by rw [hw1]; simp [go_sem]
  have hf : (w1.alloc (.cells #[.int .i64 1, .int .i64 1, .string ⟨#[]⟩] 46)).frozen? ⟨w.heap.size, 0, none⟩ = false := by rw [hw1]; simp [go_sem]
  have HB := Lib.hid (show Below w.heap.size w (w1.alloc (.cells #[.int .i64 1, .int .i64 1, .string ⟨#[]⟩] 46)) by rw [hw1]; exact bel0 _ (bel0 _ (Below.refl _ _)))
  have HS := Lib.hid (show w1.heap.size = w.heap.size + 1 by rw [hw1]; simp)
  have H0 := Lib.hid h0
  have HF := Lib.hid hf
  clear hw1 h0 hf
  go_wp2_with fail
  refine (badd_one w.heap.size w1.heap.size _ H0.out HF.out (by simp; have := HS.out; omega) ⟨by simp [go_sem], by simp [go_sem], by simp [go_sem]⟩ (by simp)).mono ?_
  rintro e w2 ⟨rfl, ⟨M, es, c, g0, g1, g2⟩, hb2⟩
  have HB2 := Lib.hid (HB.out.trans hb2)
  have G := Lib.hid (show w2.cell? ⟨w.heap.size, 0, none⟩ = some (.map (some M)) ∧ w2.heap[M]? = some (.map es c) ∧ es.size = 1 from ⟨g0, g1, g2⟩)
  clear hb2 g0 g1 g2
  go_wp2_with fail
  refine (blen_one w.heap.size M es c _ G.out.1 G.out.2.1 G.out.2.2).mono ?_
  rintro e w3 ⟨rfl, hw⟩
  subst hw
  go_wp2
  go_ret
  exact ⟨rfl, HB2.out⟩
end Go.Proofs.Ytplgkblahmndoaa
