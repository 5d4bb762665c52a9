/- What the walks of the writer rest on. Written by gencw.py. -/
import Derived.Test.YtafhgilikcablaaCmK
import Derived.Test.YtafhgilikcablaaCmA
import Derived.Test.YtafhgilikcablaaAwD
import Derived.Test.YtafhgilikcablaaSvFp
namespace Go.Proofs.Ytafhgilikcablaa
open Go.RowKit
set_option linter.unusedVariables false
set_option linter.unusedSimpArgs false
set_option maxRecDepth 100000
/-- so deep at most -/
def dpC : Nat → CT → Prop
  | 0, _ => False
  | d + 1, c => ∀ p ∈ c.parts, dpC d p
theorem wk_part {c : CT} {k : Int} (h : Wk c k) {p : CT} (hp : p ∈ c.parts) : ∃ l, Wk p l := by
  cases h with
  | lit vk vn vs hf hn => simp [CT.parts] at hp
  | col s c k hk => simp [CT.parts] at hp
  | not op q ho hq => obtain rfl : p = q := by simpa [CT.parts] using hp
                      exact ⟨_, hq⟩
  | neg op q k ho hk hq => obtain rfl : p = q := by simpa [CT.parts] using hp
                           exact ⟨_, hq⟩
  | test op q k ho hk hq => obtain rfl : p = q := by simpa [CT.parts] using hp
                            exact ⟨_, hq⟩
  | reck op q r k l ho hk hl hq hr => rcases (show p = q ∨ p = r by simpa [CT.parts] using hp) with rfl | rfl <;> exact ⟨_, by assumption⟩
  | and op q r ho hq hr => rcases (show p = q ∨ p = r by simpa [CT.parts] using hp) with rfl | rfl <;> exact ⟨_, by assumption⟩
  | or op q r ho hq hr => rcases (show p = q ∨ p = r by simpa [CT.parts] using hp) with rfl | rfl <;> exact ⟨_, by assumption⟩
  | cmp op q r k l ho hk hl hq hr => rcases (show p = q ∨ p = r by simpa [CT.parts] using hp) with rfl | rfl <;> exact ⟨_, by assumption⟩
theorem wk_src {c : CT} {k : Int} (h : Wk c k) : 0 ≤ c.src ∧ 0 ≤ c.col := by
  cases h <;> simp [CT.src, CT.col]
theorem clSz_drop {l : List CT} {k : Nat} (h : k < l.length) : clSz (l.drop k) = ctSz (l[k]) + clSz (l.drop (k + 1)) := by
  rw [List.drop_eq_getElem_cons h]; rfl
theorem CL.qAt {w : World} {Q : Nat → Prop} {b off : Nat} {l : List CT} (h : CL w Q (some ⟨b, off, none⟩) l) (hl : 0 < l.length) : Q b := by
  generalize ha : some (⟨b, off, none⟩ : Addr) = a at h
  cases h with
  | nil a => simp at hl
  | row b' off' l sa sc hq hb hc hr hs => cases ha; exact hq
/-- a counter's box -/
def LeftAt (w : World) (g : Nat) (n : Nat) : Prop := w.heap[g]? = some (.cells #[.int .i64 (n : Int)] 3 (0, 0))
def ShP (g m : Nat) (w : World) (e : Ending) (w' : World) : Prop := e = .returned (.bool true) ∧ Sto g w w' ∧ LeftAt w' g m
set_option maxHeartbeats 6400000 in
theorem cshaped_any : ∀ (d : Nat), d ≤ 20 → ∀ (c : CT) (k : Int), Wk c k → dpC d c → ∀ (w : World) (Q : Nat → Prop) (v : Value) (g m : Nat), CV w Q v c → (∀ b, Q b → b ≠ g) → g < w.heap.size → LeftAt w g (ctSz c + m) → ctSz c + m ≤ 300 →
    Calls Try.prog 73 #[v, .int .i64 (d : Int), .pointer (some ⟨g, 0, none⟩)] w (ShP g m w) := by
  intro d
  induction d with
  | zero => intro _ c k _ h; exact h.elim
  | succ d ih =>
    intro hd e K hwk hdp w Q v g m hv hQ hg hL hm
    have HKind := Lib.hid (fun (W : World) (hV : CV W Q v e) => kind_any hwk W Q v hV)
    have hsrc := wk_src hwk
    obtain ⟨sa, sc, rfl, hrg, hel⟩ := hv
    have HE := Lib.hid hel
    have HR := Lib.hid hrg
    have HQ := Lib.hid hQ
    have HIH := Lib.hid (ih (by omega))
    have HWk := Lib.hid hwk
    have HDp := Lib.hid (show ∀ p ∈ e.parts, dpC d p from hdp)
    have hlen : e.parts.length ≤ 9223372036854775807 := by have := hrg.le; have := hrg.cap; unfold maxLen at this; omega
    obtain ⟨n, hn⟩ : ∃ n, n = e.parts.length := ⟨_, rfl⟩
    have HNl := Lib.hid hn
    have e0 : (ctX e sa sc).toArray = #[.int .i64 e.kind, .string e.op, .int .i64 e.vk, .int .i64 e.vn, .string e.vs, .int .i64 e.src, .int .i64 e.col, .slice sa n sc] := by rw [hn]; rfl
    rw [e0] at HKind ⊢
    rw [← hn] at hlen
    have hgo : g ≠ w.heap.size := by omega
    have HBx := Lib.hid (Go.heap_alloc_new w (.cells #[.int .i64 e.kind, .string e.op, .int .i64 e.vk, .int .i64 e.vn, .string e.vs, .int .i64 e.src, .int .i64 e.col, .slice sa n sc] 46 (0, 0)))
    have HB0 := Lib.hid (show Below w.heap.size w (w.alloc (.cells #[.int .i64 e.kind, .string e.op, .int .i64 e.vk, .int .i64 e.vn, .string e.vs, .int .i64 e.src, .int .i64 e.col, .slice sa n sc] 46)) from bel0 _ (Below.refl _ _))
    have HW1 := Lib.hid (show (w.alloc (.cells #[.int .i64 e.kind, .string e.op, .int .i64 e.vk, .int .i64 e.vn, .string e.vs, .int .i64 e.src, .int .i64 e.col, .slice sa n sc] 46)).heap.size = w.heap.size + 1 by simp)
    have HV := Lib.hid (show ∀ W, Sto g w W → CV W Q (.agg #[.int .i64 e.kind, .string e.op, .int .i64 e.vk, .int .i64 e.vn, .string e.vs, .int .i64 e.src, .int .i64 e.col, .slice sa n sc]) e from fun W hW => ⟨sa, sc, by rw [e0], HR.out, HE.out.far hW.size (fun b hq hb => hW.block b hb (HQ.out b hq))⟩)
    have HG := Lib.hid hg
    have HSz := Lib.hid (show ctSz e = clSz e.parts + 1 by rw [ctSz_is]; omega)
    have HM := Lib.hid hm
    obtain ⟨N, hN⟩ : ∃ N : Nat, N = clSz e.parts + m := ⟨_, rfl⟩
    have HN := Lib.hid hN
    have hL1 : LeftAt w g (N + 1) := by rw [show N + 1 = ctSz e + m by rw [HSz.out, hN]; omega]; exact hL
    have hN3 : N + 1 ≤ 300 := by have := HSz.out; omega
    clear hrg hel ih hn e0 hwk hdp hQ hL hm hN
    have hs1 : 0 ≤ e.src := hsrc.1
    have hs2 : 0 ≤ e.col := hsrc.2
    have hns1 : ¬ (e.src < 0) := by omega
    have hns2 : ¬ (e.col < 0) := by omega
    clear hsrc
    go_enter Try.func73, Try.ntmps73
    go_upto_region 1 with (fail)
    have hL2 : LeftAt (w.alloc (.cells #[.int .i64 e.kind, .string e.op, .int .i64 e.vk, .int .i64 e.vn, .string e.vs, .int .i64 e.src, .int .i64 e.col, .slice sa n sc] 46)) g (N + 1) := (HB0.out.block g hg).trans hL1
    generalize (w.alloc (.cells #[.int .i64 e.kind, .string e.op, .int .i64 e.vk, .int .i64 e.vn, .string e.vs, .int .i64 e.src, .int .i64 e.col, .slice sa n sc] 46)) = w1 at *
    have lg : w1.cell? ⟨g, 0, none⟩ = some (.int .i64 ((N + 1 : Nat) : Int)) := cell_of_row w1 g 0 _ _ _ hL2
    have fz : ∀ j, w1.frozen? ⟨g, j, none⟩ = false := fun j => frozen_of_row _ _ j _ _ hL2
    have hww : wrap64 (((N + 1 : Nat) : Int) - 1) = (N : Int) := by unfold wrap64; omega
    go_upto_region 2 with (fail)
    have hL3 : LeftAt (w1.setCell ⟨g, 0, none⟩ (.int .i64 (N : Int))) g N := Go.heap_setCell_same w1 g 0 _ _ _ hL2
    have HS0 := Lib.hid (Sto.set (.refl g w1) 0 (.int .i64 (N : Int)))
    generalize (w1.setCell ⟨g, 0, none⟩ (.int .i64 (N : Int))) = w2 at *
    have HS2 := Lib.hid ((Sto.of_below (g := g) HB0.out).trans HS0.out)
    have hbx2 := (HS0.out.block w.heap.size (by rw [HW1.out]; omega) (Ne.symm hgo)).trans HBx.out
    have HBx2 := Lib.hid hbx2
    have HL3 := Lib.hid hL3
    have lg2 : w2.cell? ⟨g, 0, none⟩ = some (.int .i64 (N : Int)) := cell_of_row w2 g 0 _ _ _ hL3
    have hd0 : ((d + 1 : Nat) : Int) ≠ 0 := by omega
    have hd2 : ((d + 1 : Nat) : Int) = (d : Int) + 1 := by omega
    have hN0 : ¬ ((N : Int) < 0) := by omega
    rw [hd2] at hd0 ⊢
    obtain ⟨c0, c1, c2, c3, c4, c5, c6, c7⟩ := cellsE hbx2
    clear hL1 hL2 hL3 lg fz hbx2
    go_wp2_with fail
    refine (HKind.out w2 (HV.out w2 HS2.out)).mono ?_
    rintro e' w3 ⟨rfl, hb3⟩
    have HS3 := Lib.hid (HS2.out.trans (Sto.of_below (g := g) hb3))
    have HLt := Lib.hid (show LeftAt w3 g N from (hb3.block g (Nat.lt_of_lt_of_le HG.out HS2.out.size)).trans HL3.out)
    have hw2 : w.heap.size < w2.heap.size := Nat.lt_of_lt_of_le (by rw [HW1.out]; omega) HS0.out.size
    have HBx3 := Lib.hid ((hb3.block w.heap.size hw2).trans HBx2.out)
    have HSz3 := Lib.hid (show w.heap.size < w3.heap.size from Nat.lt_of_lt_of_le hw2 hb3.size)
    clear c0 c1 c2 c3 c4 c5 c6 c7 lg2 hb3 hw2
    have c7 : w3.cell? ⟨w.heap.size, 7, none⟩ = some (.slice sa n sc) := cell_of_row w3 w.heap.size 7 _ _ _ HBx3.out
    have hwd : wrap64 ((d : Int) + 1 - 1) = (d : Int) := by unfold wrap64; omega
    go_wp2_with fail
    go_loopw [40] (fun i wr => ∃ (k : Nat), k ≤ n ∧ i = .int .i64 (k : Int) ∧ Hid (Sto g w wr ∧ LeftAt wr g (clSz (e.parts.drop k) + m) ∧ Sto g w3 wr)) (fun i _ => n - (intOf i).toNat)
    case atStart => exact ⟨0, by omega, rfl, Lib.hid ⟨HS3.out, by rw [List.drop_zero, ← HN.out]; exact HLt.out, .refl g w3⟩⟩
    case round =>
      obtain ⟨k, hk, rfl, HL⟩ := hrel
      have hk0 : (0 : Int) ≤ (k : Int) := by omega
      by_cases hlt : k < n
      · have hki : (k : Int) < (n : Int) := by omega
        have hkp : k < e.parts.length := by rw [← HNl.out]; exact hlt
        have HLs := Lib.hid (show Sto g w wr from HL.out.1)
        have HDr := Lib.hid (clSz_drop hkp)
        have hclt : clSz (e.parts.drop k) + m ≤ 300 := by
          have h1 := HN.out
          have h2 : clSz (e.parts.drop k) ≤ clSz e.parts := by
            have : ∀ (l : List CT) (k : Nat), clSz (l.drop k) ≤ clSz l := by
              intro l
              induction l with
              | nil => intro k; simp
              | cons a l ih => intro k; cases k with
                | zero => simp
                | succ k => simp only [List.drop_succ_cons]; have := ih k; show _ ≤ ctSz a + clSz l; omega
            exact this _ _
          omega
        obtain ⟨b, off, pa, pc, hsa, hbl, hat, hprg, hpl⟩ := HE.out.at (i := k) hkp
        have hqb : b ≠ g := HQ.out _ (CL.qAt (hsa ▸ HE.out) (by omega))
        subst hsa
        have hat2 := hat.far (HLs.out.block b hbl hqb)
        have g7 : wr.cell? ⟨w.heap.size, 7, none⟩ = some (.slice (some ⟨b, off, none⟩) n sc) := cell_of_row wr w.heap.size 7 _ _ _ ((HL.out.2.2.block w.heap.size HSz3.out (Ne.symm hgo)).trans HBx3.out)
        obtain ⟨p, hp⟩ : ∃ p, p = e.parts[k] := ⟨_, rfl⟩
        obtain ⟨K', hwp⟩ := wk_part HWk.out (p := p) (by rw [hp]; exact List.getElem_mem _)
        have HWp := Lib.hid hwp
        have HDq := Lib.hid (HDp.out p (by rw [hp]; exact List.getElem_mem _))
        rw [← hp] at hat2 hprg hpl HDr
        have q0 := hat2.c0
        have q1 := hat2.c1
        have q2 := hat2.c2
        have q3 := hat2.c3
        have q4 := hat2.c4
        have q5 := hat2.c5
        have q6 := hat2.c6
        have q7 := hat2.c7
        have HEv := Lib.hid (show ∀ W, Sto g w W → CV W Q (.agg (ctX p pa pc).toArray) p from fun W hW => ⟨pa, pc, rfl, hprg, hpl.far hW.size (fun b hq hb => hW.block b hb (HQ.out b hq))⟩)
        have HLl := Lib.hid (show LeftAt wr g (ctSz p + (clSz (e.parts.drop (k + 1)) + m)) by
          have := HL.out.2.1
          rwa [HDr.out, show ctSz p + clSz (e.parts.drop (k + 1)) + m = ctSz p + (clSz (e.parts.drop (k + 1)) + m) by omega] at this)
        have HLm := Lib.hid (show ctSz p + (clSz (e.parts.drop (k + 1)) + m) ≤ 300 by have := HDr.out; omega)
        have HLe := Lib.hid hlt
        have HL3s := Lib.hid (show Sto g w3 wr from HL.out.2.2)
        clear hat hat2 hprg hpl hp hkp hlt hk hbl c7 hwp hclt hqb
        go_wp2_with fail
        have HBa := Lib.hid (show Below wr.heap.size wr (wr.alloc (.cells (ctX p pa pc).toArray 46)) from bel0 _ (Below.refl _ _))
        have HSa := Lib.hid (HLs.out.trans (Sto.of_below (g := g) HBa.out))
        have HS3a := Lib.hid (HL3s.out.trans (Sto.of_below (g := g) HBa.out))
        have hgr : g < wr.heap.size := Nat.lt_of_lt_of_le HG.out HLs.out.size
        refine (HIH.out p K' HWp.out HDq.out (wr.alloc (.cells (ctX p pa pc).toArray 46)) Q (.agg (ctX p pa pc).toArray) g _ (HEv.out _ HSa.out) HQ.out (Nat.lt_of_lt_of_le HG.out HSa.out.size) ((HBa.out.block g hgr).trans HLl.out) HLm.out).mono ?_
        rintro e' w5 ⟨rfl, hs5, hl5⟩
        have HS5 := Lib.hid (HSa.out.trans hs5)
        have HS35 := Lib.hid (HS3a.out.trans hs5)
        have HL5 := Lib.hid hl5
        clear hs5 hl5 q0 q1 q2 q3 q4 q5 q6 q7 g7 hwd hgr
        go_wp2
        go_roundw
        case rel => first | exact ⟨k + 1, HLe.out, by go_num, Lib.hid ⟨HS5.out, HL5.out, HS35.out⟩⟩ | exact ⟨_, _, _, _, _, _, _, _, _, _, _, _, _, ⟨k + 1, HLe.out, by go_num, Lib.hid ⟨HS5.out, HL5.out, HS35.out⟩⟩, rfl⟩ | (refine ⟨_, _, _, _, _, _, _, _, _, _, _, _, _, ?_, rfl⟩; exact ⟨k + 1, HLe.out, by go_num, Lib.hid ⟨HS5.out, HL5.out, HS35.out⟩⟩)
        case measure => have := HLe.out; simp [intOf]; omega
      · have hkk : ¬ ((k : Int) < (n : Int)) := by omega
        have HD := Lib.hid (show LeftAt wr g m by
          have := HL.out.2.1
          rwa [List.drop_eq_nil_of_le (by rw [← HNl.out]; omega), show clSz [] + m = m by simp [clSz]] at this)
        have HE2 := Lib.hid (show Sto g w wr from HL.out.1)
        go_wp2
        go_ret
        exact ⟨rfl, HE2.out, HD.out⟩
end Go.Proofs.Ytafhgilikcablaa
namespace Go.Proofs.Ytafhgilikcablaa
open Go.RowKit
set_option linter.unusedVariables false
set_option linter.unusedSimpArgs false
set_option maxRecDepth 100000
/-- a cell that is a truth -/
def truB (c : CT) : Bool := (c.kind == 5) || (((c.kind == 3) || (c.kind == 4)) && !reckP c.kind c.op)
theorem lit_kind {k n : Int} {s : ByteArray} (h : formedB k n s = true) : k ≠ 3 := by
  unfold formedB at h
  have h := of_decide_eq_true h
  rcases h with h | h | h <;> omega
theorem wk_tru {c : CT} {k : Int} (h : Wk c k) : truB c = (k == 3) := by
  cases h with
  | lit vk vn vs hf hn => have := lit_kind hf; simp [truB, CT.kind, this]
  | col s c k hk => have : k ≠ 3 := by omega
                    simp [truB, CT.kind, this]
  | not op p ho hp => simp [truB, CT.kind, CT.op, reckP, ho]
  | neg op p k ho hk hp => simp [truB, CT.kind, CT.op, reckP, ho]
  | test op p k ho hk hp => simp [truB, CT.kind]
  | reck op p q k l ho hk hl hp hq => rcases ho with ho | ho | ho <;> simp [truB, CT.kind, CT.op, reckP, ho]
  | and op p q ho hp hq => simp [truB, CT.kind, CT.op, reckP, ho]
  | or op p q ho hp hq => simp [truB, CT.kind, CT.op, reckP, ho]
  | cmp op p q k l ho hk hl hp hq => rcases ho with ho | ho | ho | ho | ho | ho <;> simp [truB, CT.kind, CT.op, reckP, ho]
set_option maxHeartbeats 3200000 in
theorem truthful_any (c : CT) (w : World) (Q : Nat → Prop) (v : Value) (hv : CV w Q v c) : Calls Try.prog 68 #[v] w fun e w' => e = .returned (.bool (truB c)) ∧ Below w.heap.size w w' := by
  obtain ⟨sa, sc, rfl, hrg, hel⟩ := hv
  have e0 : (ctX c sa sc).toArray = #[.int .i64 c.kind, .string c.op, .int .i64 c.vk, .int .i64 c.vn, .string c.vs, .int .i64 c.src, .int .i64 c.col, .slice sa c.parts.length sc] := rfl
  rw [e0]
  have HB := Lib.hid (bel0 (.cells #[.int .i64 c.kind, .string c.op, .int .i64 c.vk, .int .i64 c.vn, .string c.vs, .int .i64 c.src, .int .i64 c.col, .slice sa c.parts.length sc] 46) (Below.refl w.heap.size w))
  have HX := Lib.hid (Go.heap_alloc_new w (.cells #[.int .i64 c.kind, .string c.op, .int .i64 c.vk, .int .i64 c.vn, .string c.vs, .int .i64 c.src, .int .i64 c.col, .slice sa c.parts.length sc] 46 (0, 0)))
  have hs : w.heap.size < (w.alloc (.cells #[.int .i64 c.kind, .string c.op, .int .i64 c.vk, .int .i64 c.vn, .string c.vs, .int .i64 c.src, .int .i64 c.col, .slice sa c.parts.length sc] 46)).heap.size := by simp
  clear hrg hel e0
  unfold truB
  go_enter Try.func68, Try.ntmps68
  go_upto_region 1 with (fail)
  generalize (w.alloc (.cells #[.int .i64 c.kind, .string c.op, .int .i64 c.vk, .int .i64 c.vn, .string c.vs, .int .i64 c.src, .int .i64 c.col, .slice sa c.parts.length sc] 46)) = w1 at *
  obtain ⟨e0, e1, e2, e3, e4, e5, e6, e7⟩ := cellsE HX.out
  go_wp2_with (go_at_call 65; refine (reckonsP_any _ _ _).mono ?_; rintro e' w2 ⟨rfl, hw2⟩; obtain rfl := hw2.symm)
  all_goals
    go_ret
    exact ⟨by simp [*], HB.out⟩
end Go.Proofs.Ytafhgilikcablaa
namespace Go.Proofs.Ytafhgilikcablaa
open Go.RowKit
set_option linter.unusedVariables false
set_option linter.unusedSimpArgs false
set_option maxRecDepth 100000
end Go.Proofs.Ytafhgilikcablaa
namespace Go.Proofs.Ytafhgilikcablaa
open Go.RowKit
set_option linter.unusedVariables false
set_option linter.unusedSimpArgs false
set_option maxRecDepth 100000
/-- what a call of the writer asks of numbers -/
structure WOk (m : Nat) (rg : Int) (r n : Nat) : Prop where
  l : m + 2 * n ≤ 700
  r : r + 2 * n ≤ 700
  lo : 0 ≤ rg
  hi : rg ≤ 1000
theorem cm_num {c : CT} {k : Int} (h : Wk c k) {m : Nat} {rg : Int} {r : Nat} (ho : WOk m rg r (ctSz c)) (i : Nat) : (cmpC c r i).length ≤ 2 * ctSz c ∧ 0 ≤ regsF rg (cmpC c r i) ∧ regsF rg (cmpC c r i) ≤ 1000 := by
  obtain ⟨h1, h2, _⟩ := form_cm h r i
  have hg := (regsF_ge (cmpC c r i) rg).1
  have h3 := ho.r
  have h4 := ho.lo
  refine ⟨h1, by omega, regsF_le _ _ _ ho.hi (fun x hx => ?_)⟩
  have := (h2 x hx).2
  omega
/-- a call of the writer for a cell -/
def CmpI (F : FuncId) (c : CT) : Prop := ∀ (w : World) (N : Nat) (v : Value) (xs : List Ins) (rg : Int) (r : Nat) (Q : Nat → Prop) (cv : Value), WSt w N v xs rg → CV w Q cv c → (∀ b, Q b → b < N) → WOk xs.length rg r (ctSz c) →
  Calls Try.prog F #[.pointer (some ⟨N, 0, none⟩), cv, .int .i64 (r : Int)] w (WMore w N v (xs ++ cmpC c r xs.length) (regsF rg (cmpC c r xs.length)))
theorem sz_one (p : CT) (op : ByteArray) (K : Int) : ctSz (.mk K op 0 0 ⟨#[]⟩ 0 0 [p]) = 1 + ctSz p := by simp [ctSz, clSz]
theorem sz_two (p q : CT) (op : ByteArray) (K : Int) : ctSz (.mk K op 0 0 ⟨#[]⟩ 0 0 [p, q]) = 1 + (ctSz p + ctSz q) := by simp [ctSz, clSz]
theorem app3 (xs P Q : List Ins) (x : Ins) : xs ++ (P ++ (Q ++ [x])) = ((xs ++ P) ++ Q) ++ [x] := by simp
theorem regs_snoc (rg : Int) (a : List Ins) (x : Ins) : regsF rg (a ++ [x]) = max (regsF rg a) (x.a + 1) := by rw [regsF_app]; rfl
theorem wrp1 (r : Nat) (hr : r ≤ 2000) : wrap64 ((r : Int) + 1) = (r : Int) + 1 ∧ IntKind.i64.wrap ((r : Int) + 1) = (r : Int) + 1 :=
  ⟨by unfold wrap64; omega, by rw [IntKind.wrap_i64]; omega⟩
theorem wrp2 (r : Nat) (hr : r ≤ 2000) : wrap64 ((r : Int) + 2) = (r : Int) + 2 ∧ IntKind.i64.wrap ((r : Int) + 2) = (r : Int) + 2 :=
  ⟨by unfold wrap64; omega, by rw [IntKind.wrap_i64]; omega⟩
theorem fin3 (rg : Int) (P Q : List Ins) (x : Ins) : regsF rg (P ++ (Q ++ [x])) = max (regsF (regsF rg P) Q) (x.a + 1) := by rw [← List.append_assoc, regs_snoc, regsF_app]
theorem own_blk {w : World} {N : Nat} {v : Value} {xs : List Ins} {rg : Int} (h : WSt w N v xs rg) : v.ownBlock ≠ some w.heap.size := fun e => absurd (h.own.lt _ e).2 (Nat.lt_irrefl _)
/-- the jump is told where it goes -/
theorem join_set (xs P Q : List Ins) (s o : ByteArray) (r : Nat) :
    ((((xs ++ P) ++ [(⟨s, 0, (r : Nat), 0, noV⟩ : Ins)]) ++ Q) ++ [(⟨o, (r : Nat), (r : Nat), ((r + 1 : Nat) : Int), noV⟩ : Ins)]).set (xs.length + P.length) { ((((xs ++ P) ++ [(⟨s, 0, (r : Nat), 0, noV⟩ : Ins)]) ++ Q) ++ [(⟨o, (r : Nat), (r : Nat), ((r + 1 : Nat) : Int), noV⟩ : Ins)]).getD (xs.length + P.length) noI with c := ((xs.length + P.length + 1 + Q.length + 1 : Nat) : Int) } = xs ++ joinC s o P Q r xs.length := by
  unfold joinC
  have e : ((((xs ++ P) ++ [(⟨s, 0, (r : Nat), 0, noV⟩ : Ins)]) ++ Q) ++ [⟨o, (r : Nat), (r : Nat), ((r + 1 : Nat) : Int), noV⟩]) = (xs ++ P) ++ (⟨s, 0, (r : Nat), 0, noV⟩ :: (Q ++ [⟨o, (r : Nat), (r : Nat), ((r + 1 : Nat) : Int), noV⟩])) := by simp
  have hg : ((xs ++ P) ++ ((⟨s, 0, (r : Nat), 0, noV⟩ : Ins) :: (Q ++ [(⟨o, (r : Nat), (r : Nat), ((r + 1 : Nat) : Int), noV⟩ : Ins)]))).getD (xs.length + P.length) noI = ⟨s, 0, (r : Nat), 0, noV⟩ := by
    rw [List.getD_eq_getElem?_getD, List.getElem?_append_right (by simp)]
    simp
  rw [e, hg, List.set_append_right _ _ (by simp)]
  simp
theorem regs_join (rg : Int) (s o : ByteArray) (P Q : List Ins) (r i : Nat) : regsF rg (joinC s o P Q r i) = max (regsF (max (regsF rg P) (0 + 1)) Q) ((r : Int) + 1) := by
  unfold joinC
  rw [regsF_app]
  show regsF (max (regsF rg P) (0 + 1)) (Q ++ _) = _
  rw [regs_snoc]
end Go.Proofs.Ytafhgilikcablaa
