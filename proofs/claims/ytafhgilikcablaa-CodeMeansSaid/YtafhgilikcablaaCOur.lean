/- Contract of the law's Ours: every program of the package's, made the document's. (As XCThe, the types changed.) -/
import Derived.Test.YtafhgilikcablaaFormV
import Derived.Test.YtafhgilikcablaaProg
import Derived.Test.YtafhgilikcablaaIns
import Derived.Deep.Upon
import Derived.Deep.AppendSrc
import Derived.Laws.IdiomCopy
import Derived.Deep.AppendLies
import Derived.Lib.AppendStr
import Derived.Deep.RegionLawGrows
import Derived.Outline
namespace Go.Proofs.Ytafhgilikcablaa
open Go.RowKit
set_option linter.unusedVariables false
set_option linter.unusedSimpArgs false
set_option maxRecDepth 100000
theorem infoJ : (Try.prog.info? 145).map (fun i => (i.zero, i.size, i.bytes)) = some (some (.agg #[.string ⟨#[]⟩, .int .i64 0, .int .i64 0, .int .i64 0, .int .i64 0, .int .i64 0, .string ⟨#[]⟩]), 7, 72) := by kernel_rfl

theorem own_isJ {w : World} {B : Nat} {v : Value} {xs : List Ins} (h : w.ownsRow B 145 7 v xs.length (insOf xs)) : ∃ a cap, v = .slice a xs.length cap ∧ IsI w a xs.length xs := by
  rcases h.2 with ⟨rfl, h0⟩ | ⟨g, cap, cur, rfl, hB, hg, h1, h2, hs, ht⟩
  · have hz := List.eq_nil_of_length_eq_zero h0
    subst hz
    exact ⟨none, 0, rfl, rfl, by simp, .inl rfl⟩
  · unfold maxLen at h2
    refine ⟨_, cap, rfl, rfl, by omega, .inr ⟨g, 0, rfl, (Array.getElem?_eq_some_iff.1 hg).1, fun i hi => ?_⟩⟩
    have e : ∀ j, j < 7 → w.cell? ⟨g, 0 + i * 7 + j, none⟩ = (insX (xs.getD i noI))[j]? := fun j hj => by
      rw [Nat.zero_add, h.cellAt (i * 7 + j) (by omega), insOf_at xs i j hi hj]
    exact ⟨e 0 (by omega), e 1 (by omega), e 2 (by omega), e 3 (by omega), e 4 (by omega), e 5 (by omega), e 6 (by omega)⟩

section
variable {W : World} {ops : Array Oper} {rest : List Oper} {o : Oper} {a : Act} {K : Act → World → Prop} {Q : Exit → Act → World → Prop} {E : Prop}
theorem step_injL (hgd : o.guard = none) (s x : Operand) (ho : o.op = .call { callee := .builtin .append, args := #[s, x], argTypes := #[80, 80] })
    (B : Nat) (v : Value) (xs : List Ins) (b : Nat) (y : Ins) (hs : a.eval s = v) (hx : a.eval x = .slice (some ⟨b, 0, none⟩) 1 1)
    (n : Nat) (hown : W.ownsRow B 145 7 v n (insOf xs)) (hc : Cells7 W b 0 y) (hlen : n ≤ 100000) (hbase : B ≤ W.heap.size)
    (h : ∀ g cap w', w'.ownsRow B 145 7 (.slice (some ⟨g, 0, none⟩) (n + 1) cap) (n + 1) (insOf (xs ++ [y])) → W.grownBy w' v.ownBlock → (v.ownBlock = some g ∨ g = W.heap.size) → K (a.put o.dst (.slice (some ⟨g, 0, none⟩) (n + 1) cap)) w') :
    if Region.wanted o (yielded ops a.tmps) = true then Oper.wp Try.prog o a W K Q else E := by
  have hw : Region.wanted o (yielded ops a.tmps) = true := by simp [Region.wanted, hgd]
  rw [if_pos hw]
  obtain ⟨i0, hi, hz0, hz1, hz2⟩ := info_parts infoJ
  obtain ⟨c0, c1, c2, c3, c4, c5, c6⟩ := hc
  refine wp_append_lies W s x 80 ho B 145 i0 _ 7 72 Try.underlying80 hi hz0 hz1 hz2 rfl (by decide) v n _ hs hown ⟨b, 0, none⟩ 1 1 (insX y) hx rfl ?_ ?_ (by omega) (by unfold maxLen; omega) (by omega) hbase _ rfl ?_
  · intro j u hu
    match j, hu with
    | 0, hu => simp [insX] at hu; subst hu; exact c0
    | 1, hu => simp [insX] at hu; subst hu; exact c1
    | 2, hu => simp [insX] at hu; subst hu; exact c2
    | 3, hu => simp [insX] at hu; subst hu; exact c3
    | 4, hu => simp [insX] at hu; subst hu; exact c4
    | 5, hu => simp [insX] at hu; subst hu; exact c5
    | 6, hu => simp [insX] at hu; subst hu; exact c6
    | j + 7, hu => simp [insX] at hu
  · intro u hu; simp [insX] at hu; rcases hu with rfl | rfl | rfl | rfl | rfl | rfl | rfl <;> rfl
  · intro g cap w' h1 h2 h3 h4
    refine h g cap w' ?_ h2 h3
    rw [insOf_append]
    simpa [insOf] using h1
theorem step_inj (hgd : o.guard = none) (s x : Operand) (ho : o.op = .call { callee := .builtin .append, args := #[s, x], argTypes := #[80, 80] })
    (B : Nat) (v : Value) (xs : List Ins) (b : Nat) (y : Ins) (hs : a.eval s = v) (hx : a.eval x = .slice (some ⟨b, 0, none⟩) 1 1)
    (n : Nat) (hown : W.ownsRow B 145 7 v n (insOf xs)) (hc : Cells7 W b 0 y) (hlen : n ≤ 100000) (hbase : B ≤ W.heap.size)
    (h : ∀ g cap w', w'.ownsRow B 145 7 (.slice (some ⟨g, 0, none⟩) (n + 1) cap) (n + 1) (insOf (xs ++ [y])) → W.grownBy w' v.ownBlock → K (a.put o.dst (.slice (some ⟨g, 0, none⟩) (n + 1) cap)) w') :
    if Region.wanted o (yielded ops a.tmps) = true then Oper.wp Try.prog o a W K Q else E :=
  step_injL hgd s x ho B v xs b y hs hx n hown hc hlen hbase (fun g cap w' h1 h2 _ => h g cap w' h1 h2)
end

/-- the world within Ours, so many instructions on -/
structure OurRel (w : World) (ca : Option Addr) (cl cc : Nat) (R : Int) (xs : List Ins) (k : Nat) (v : Value) (wr : World) : Prop where
  below : Below w.heap.size w wr
  size : w.heap.size + 3 ≤ wr.heap.size
  arg : wr.cell? ⟨w.heap.size, 0, none⟩ = some (.slice ca cl cc)
  r0 : wr.cell? ⟨w.heap.size + 1, 0, none⟩ = some (.slice none 0 0)
  r1 : wr.cell? ⟨w.heap.size + 1, 1, none⟩ = some (.int .i64 0)
  z0 : wr.frozen? ⟨w.heap.size + 1, 0, none⟩ = false
  z1 : wr.frozen? ⟨w.heap.size + 1, 1, none⟩ = false
  o0 : wr.cell? ⟨w.heap.size + 1 + 1, 0, none⟩ = some v
  o1 : wr.cell? ⟨w.heap.size + 1 + 1, 1, none⟩ = some (.int .i64 R)
  y0 : wr.frozen? ⟨w.heap.size + 1 + 1, 0, none⟩ = false
  row : wr.ownsRow (w.heap.size + 3) 145 7 v k (insOf (xs.take k))

/-- what an append leaves of it -/
theorem OurRel.grow {w wr w' : World} {ca : Option Addr} {cl cc k : Nat} {R : Int} {xs : List Ins} {v : Value} (h : OurRel w ca cl cc R xs k v wr) {W : World} (hW : W = wr ∨ ∃ o, W = wr.alloc o) (hg : W.grownBy w' v.ownBlock) :
    Below w.heap.size w w' ∧ w.heap.size + 3 ≤ w'.heap.size ∧ (∀ b o, b < w.heap.size + 3 → w'.cell? ⟨b, o, none⟩ = wr.cell? ⟨b, o, none⟩) ∧ (∀ b o, b < w.heap.size + 3 → w'.frozen? ⟨b, o, none⟩ = wr.frozen? ⟨b, o, none⟩) := by
  have hlt : ∀ b, v.ownBlock = some b → w.heap.size + 3 ≤ b := fun b hb => (h.row.lt b hb).1
  have hb1 : Below (w.heap.size + 3) wr W := by
    rcases hW with rfl | ⟨o, rfl⟩
    · exact Below.refl _ _
    · exact (Below.refl _ _).alloc h.size o
  have hb2 : Below (w.heap.size + 3) wr w' := hb1.trans (grown_belowB hg (Nat.le_trans h.size hb1.size) hlt)
  exact ⟨h.below.trans (hb2.mono (by omega)), Nat.le_trans h.size hb2.size, fun b o hb => hb2.cell (p := ⟨b, o, none⟩) hb, fun b o hb => hb2.frozen (p := ⟨b, o, none⟩) hb⟩

/-- .. and the store behind it -/
theorem OurRel.next {w wr w' : World} {ca : Option Addr} {cl cc k : Nat} {R : Int} {xs : List Ins} {v nv : Value} (h : OurRel w ca cl cc R xs k v wr)
    (hb : Below w.heap.size w w') (hs : w.heap.size + 3 ≤ w'.heap.size) (hc : ∀ b o, b < w.heap.size + 3 → w'.cell? ⟨b, o, none⟩ = wr.cell? ⟨b, o, none⟩) (hf : ∀ b o, b < w.heap.size + 3 → w'.frozen? ⟨b, o, none⟩ = wr.frozen? ⟨b, o, none⟩)
    (hrow : w'.ownsRow (w.heap.size + 3) 145 7 nv (k + 1) (insOf (xs.take (k + 1)))) : OurRel w ca cl cc R xs (k + 1) nv (w'.setCell ⟨w.heap.size + 1 + 1, 0, none⟩ nv) := by
  have far : ∀ b o, b ≠ w.heap.size + 1 + 1 → b < w.heap.size + 3 → (w'.setCell ⟨w.heap.size + 1 + 1, 0, none⟩ nv).cell? ⟨b, o, none⟩ = wr.cell? ⟨b, o, none⟩ := fun b o h1 h2 => (World.cell?_setCell_other _ _ _ _ (by intro e; cases e; exact h1 rfl)).trans (hc b o h2)
  have ff : ∀ b o, b < w.heap.size + 3 → (w'.setCell ⟨w.heap.size + 1 + 1, 0, none⟩ nv).frozen? ⟨b, o, none⟩ = wr.frozen? ⟨b, o, none⟩ := fun b o h2 => by
    rw [← hf b o h2]; simp [go_sem]
  exact ⟨hb.setCell (p := ⟨w.heap.size + 1 + 1, 0, none⟩) (by show w.heap.size ≤ w.heap.size + 1 + 1; omega) _, by simpa using hs, (far _ 0 (by omega) (by omega)).trans h.arg, (far _ 0 (by omega) (by omega)).trans h.r0, (far _ 1 (by omega) (by omega)).trans h.r1,
    (ff _ 0 (by omega)).trans h.z0, (ff _ 1 (by omega)).trans h.z1, World.cell?_setCell_same' _ _ _ (by rw [hc _ 0 (by omega), h.o0]; rfl),
    (World.cell?_setCell_other _ _ _ _ (by intro e; cases e)).trans ((hc _ 1 (by omega)).trans h.o1), (ff _ 0 (by omega)).trans h.y0, own_set_low hrow (by show w.heap.size + 1 + 1 < w.heap.size + 3; omega) _⟩
set_option maxHeartbeats 3200000 in
theorem ours_any (ca : Option Addr) (cl cc : Nat) (R : Int) (xs : List Ins) (w : World) (hI : IsI w ca cl xs) (hcl : cl ≤ 1100) :
    Calls Try.prog 35 #[.agg #[.slice ca cl cc, .int .i64 R]] w fun e w' => (∃ a c, e = .returned (.agg #[.slice a cl c, .int .i64 R]) ∧ IsI w' a cl xs) ∧ Below w.heap.size w w' := by
  have HI := Lib.hid hI
  have HL := Lib.hid hI.1
  clear hI
  have h0 : OurRel w ca cl cc R xs 0 (.slice none 0 0) (((w.alloc (.cells #[.slice ca cl cc, .int .i64 R] 76)).alloc (.cells #[.slice none 0 0, .int .i64 0] 82)).alloc (.cells #[.slice none 0 0, .int .i64 R] 82)) := by
    refine ⟨bel0 _ (bel0 _ (bel0 _ (Below.refl _ _))), by simp, ?_, ?_, ?_, ?_, ?_, ?_, ?_, ?_, World.ownsRow_nil _ _ _ _⟩ <;> simp [go_sem]
  have H0 := Lib.hid h0
  clear h0
  go_enter Try.func35, Try.ntmps35
  go_wp2
  go_loopw [11] (fun i wr => ∃ (k : Nat) (v : Value), k ≤ cl ∧ i = .int .i64 (k : Int) ∧ Hid (OurRel w ca cl cc R xs k v wr)) (fun i _ => cl - (intOf i).toNat)
  case atStart => exact ⟨0, _, by omega, rfl, H0⟩
  case round =>
    obtain ⟨k, v, hk, rfl, HR⟩ := hrel
    by_cases hlt : k < cl
    · obtain ⟨e1, e2, hc⟩ := HI.out.below HR.out.below
      clear e1 e2
      rcases hc with hc | ⟨b, off, rfl, hbl, hc⟩
      · omega
      have hck := hc k hlt
      obtain ⟨x, hx⟩ : ∃ x, xs.getD k noI = x := ⟨_, rfl⟩
      rw [hx] at hck
      have hkl : (xs.take k).length = k := by rw [List.length_take, HL.out]; omega
      have HT := Lib.hid (show xs.take (k + 1) = xs.take k ++ [x] by rw [take_ins (by rw [HL.out]; exact hlt), hx])
      have HRow := Lib.hid HR.out.row
      have HKL := Lib.hid hkl
      have HSz := Lib.hid HR.out.size
      have hsz : w.heap.size + 1 + 1 < wr.heap.size := by have := HR.out.size; omega
      have hsz0 : w.heap.size < wr.heap.size := by have := HR.out.size; omega
      obtain ⟨c0, c1, c2, c3, c4, c5, c6⟩ := hck
      have p0 := HR.out.arg
      have p1 := HR.out.o0
      have hki : (k : Int) < (cl : Int) := by omega
      have hk0 : (0 : Int) ≤ (k : Int) := by omega
      have hcl' : (cl : Int) ≤ 1100 := by omega
      have HG := Lib.hid (fun (w' : World) => HR.out.grow (w' := w') (W := wr.alloc (.cells #[.string x.op, .int .i64 x.a, .int .i64 x.b, .int .i64 x.c, .int .i64 x.v.1, .int .i64 x.v.2.1, .string x.v.2.2] 145)) (.inr ⟨_, rfl⟩))
      have hlk : k ≤ 100000 := by omega
      have HLk := Lib.hid hlk
      have HDa := Lib.hid (show w.heap.size + 1 + 1 < w.heap.size + 3 by omega)
      have HY0 := Lib.hid HR.out.y0
      have HP1 := Lib.hid HR.out.o0
      clear hc hx hkl hlk
      go_wp2
      go_region_law ((refine step_inj rfl (.tmp 15) (.tmp 21) rfl (w.heap.size + 3) v (xs.take k) wr.heap.size x rfl rfl k (by exact HRow.out.alloc _) (by exact cells7_new _ x _) HLk.out (by have := HSz.out; simp; omega) ?_; intro g c w' hown hgrow; have hgg := HG.out w' ⟨hgrow.os, hgrow.tape, hgrow.output, hgrow.size, hgrow.block⟩; have d0 := (hgg.2.2.1 _ 0 HDa.out).trans HP1.out; have d1 := (hgg.2.2.2 _ 0 HDa.out).trans HY0.out; have HGG := Lib.hid hgg; have HOwn := Lib.hid hown; clear hgg hown hgrow))
      all_goals
        have HN := Lib.hid (HR.out.next (nv := .slice (some ⟨g, 0, none⟩) (k + 1) c) HGG.out.1 HGG.out.2.1 HGG.out.2.2.1 HGG.out.2.2.2 (by rw [HT.out]; exact HOwn.out))
        go_wp2
        go_roundw
        case rel => exact ⟨k + 1, _, by omega, by go_num, HN⟩
        case measure => simp [intOf]; omega
    · obtain rfl : k = cl := by omega
      have p0 := HR.out.o0
      have p1 := HR.out.o1
      have r0 := HR.out.r0
      have r1 := HR.out.r1
      have z0 := HR.out.z0
      have z1 := HR.out.z1
      have hrow := HR.out.row
      rw [List.take_of_length_le (by rw [HL.out]; exact Nat.le_refl _)] at hrow
      have hrow' : wr.ownsRow (w.heap.size + 3) 145 7 v xs.length (insOf xs) := by rw [HL.out]; exact hrow
      obtain ⟨a, cap, rfl, hI⟩ := own_isJ hrow'
      rw [HL.out] at hI p0
      have HI2 := Lib.hid (show ∀ u u', IsI ((wr.setCell ⟨w.heap.size + 1, 0, none⟩ u).setCell ⟨w.heap.size + 1, 1, none⟩ u') a k xs from fun u u' => by
        obtain ⟨a', cap', he, hI'⟩ := own_isJ (own_set_low (p := ⟨w.heap.size + 1, 1, none⟩) (own_set_low (p := ⟨w.heap.size + 1, 0, none⟩) hrow' (by show w.heap.size + 1 < w.heap.size + 3; omega) u) (by show w.heap.size + 1 < w.heap.size + 3; omega) u')
        cases he
        rw [HL.out] at hI'
        exact hI')
      have HBe := Lib.hid (show ∀ u u', Below w.heap.size w ((wr.setCell ⟨w.heap.size + 1, 0, none⟩ u).setCell ⟨w.heap.size + 1, 1, none⟩ u') from fun u u' => (HR.out.below.setCell (p := ⟨w.heap.size + 1, 0, none⟩) (by show w.heap.size ≤ w.heap.size + 1; omega) u).setCell (p := ⟨w.heap.size + 1, 1, none⟩) (by show w.heap.size ≤ w.heap.size + 1; omega) u')
      have hsz := HR.out.size
      have hz1 : w.heap.size + 1 < wr.heap.size := by omega
      clear hrow hrow' hI
      go_wp2
      exact bodyPost_ret (v := .agg #[.slice a k cap, .int .i64 R]) (by simp [results, Try.results35, go_sem, r0, r1, hz1]) rfl ⟨⟨a, cap, rfl, HI2.out _ _⟩, HBe.out _ _⟩
end Go.Proofs.Ytafhgilikcablaa
