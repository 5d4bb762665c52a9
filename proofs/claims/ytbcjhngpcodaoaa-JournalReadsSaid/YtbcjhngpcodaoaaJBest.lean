/- Contract of journal's best: every slice of bytes. -/
import Derived.Test.YtbcjhngpcodaoaaJRh
namespace Go.Proofs.Ytbcjhngpcodaoaa
open Go.RowKit
set_option linter.unusedVariables false
set_option maxRecDepth 100000

/-- a head's cells -/
def hdX (b : Bool × Int × Int × Int) : Array Value := #[.int .u64 b.2.1, .int .i64 b.2.2.1, .int .i64 b.2.2.2]
def hdF (b : Bool × Int × Int × Int) : Value := .agg (hdX b)
theorem set3 (w : World) (N : Nat) (T : TypeId) (c0 c1 c2 v0 v1 v2 : Value) (h : w.heap[N]? = some (.cells #[c0, c1, c2] T (0, 0))) :
    (((w.setCell ⟨N, 0, none⟩ v0).setCell ⟨N, 1, none⟩ v1).setCell ⟨N, 2, none⟩ v2).heap[N]? = some (.cells #[v0, v1, v2] T (0, 0)) := by
  have h0 := Go.heap_setCell_same w N 0 _ _ v0 h
  have h1 := Go.heap_setCell_same _ N 1 _ _ v1 h0
  have h2 := Go.heap_setCell_same _ N 2 _ _ v2 h1
  exact h2
theorem set3_other (w : World) (N M : Nat) (v0 v1 v2 : Value) (h : M ≠ N) :
    (((w.setCell ⟨N, 0, none⟩ v0).setCell ⟨N, 1, none⟩ v1).setCell ⟨N, 2, none⟩ v2).heap[M]? = w.heap[M]? := by
  rw [heap_setCell_other _ _ _ _ (by exact h), heap_setCell_other _ _ _ _ (by exact h), heap_setCell_other _ _ _ _ (by exact h)]
/-- what a round finds: the best of the first k heads, the result's box, nothing else touched -/
def BInv (w : World) (z : List Int) (k : Nat) (wr : World) : Prop :=
  wr.heap[w.heap.size + 1]? = some (.cells (hdX (bK z k)) 133 (0, 0)) ∧ wr.heap[w.heap.size]? = some (.cells #[.int .u64 0, .int .i64 0, .int .i64 0] 133 (0, 0)) ∧ Below w.heap.size w wr
theorem BInv.size {w wr : World} {z : List Int} {k : Nat} (h : BInv w z k wr) : w.heap.size + 1 < wr.heap.size := (Array.getElem?_eq_some_iff.1 h.1).1
theorem BInv.later {w wr wx : World} {z : List Int} {k : Nat} (h : BInv w z k wr) (hb : Below wr.heap.size wr wx) : BInv w z k wx :=
  ⟨(hb.block _ h.size).trans h.1, (hb.block _ (by have := h.size; omega)).trans h.2.1, bt h.2.2 hb⟩
theorem BInv.same {w wr : World} {z : List Int} {k j : Nat} (h : BInv w z k wr) (he : bK z j = bK z k) : BInv w z j wr := by
  unfold BInv; rw [he]; exact h
theorem BInv.set {w wr : World} {z : List Int} {k j : Nat} (h : BInv w z k wr) {s p r : Int} (he : bK z j = (true, s, p, r)) :
    BInv w z j (((wr.setCell ⟨w.heap.size + 1, 0, none⟩ (.int .u64 s)).setCell ⟨w.heap.size + 1, 1, none⟩ (.int .i64 p)).setCell ⟨w.heap.size + 1, 2, none⟩ (.int .i64 r)) := by
  unfold BInv
  rw [he]
  refine ⟨set3 _ _ _ _ _ _ _ _ _ h.1, ?_, ?_⟩
  · rw [set3_other _ _ _ _ _ _ (by omega)]; exact h.2.1
  · exact ((h.2.2.setCell (by simp) _).setCell (by simp) _).setCell (by simp) _
/-- what best answers -/
def BestPost (w : World) (z : List Int) (e : Ending) (w' : World) : Prop :=
  e = .returned (.tuple #[hdF (bK z 2), .bool (bK z 2).1]) ∧ Below w.heap.size w w'

set_option maxHeartbeats 6400000 in
theorem best_any (a : Option Addr) (len cap : Nat) (z : List Int) (w : World) (h : IsB w a len z) (hlow : ∀ x, len ≠ 0 → a = some x → x.block < w.heap.size) (hn : a = none → len = 0 ∧ cap = 0) (hlc : len ≤ cap) :
    Calls Try.prog 68 #[.slice a len cap] w (BestPost w z) := by
  have hm := h.2.1
  have HI := Lib.hid h
  have HL := Lib.hid h.1
  have HLow := Lib.hid hlow
  have HN := Lib.hid hn
  have HC := Lib.hid hlc
  clear h hlow hn hlc
  go_enter Try.func68, Try.ntmps68
  go_wp2
  go_loopw [5, 6] (fun hv t wr => ∃ (k A : Nat), k ≤ 2 ∧ t = .int .i64 (A : Int) ∧ hv = .bool (bK z k).1 ∧ Hid (A = 64 * k) ∧ Hid (BInv w z k wr)) (fun _ t _ => 128 - (intOf t).toNat)
  case atStart =>
    have h2 := two_boxes w (.cells #[.int .u64 0, .int .i64 0, .int .i64 0] 133) (.cells #[.int .u64 0, .int .i64 0, .int .i64 0] 133)
    exact ⟨0, 0, by omega, rfl, rfl, Lib.hid rfl, Lib.hid ⟨h2.2, h2.1, bel0 _ (bel0 _ (Below.refl _ _))⟩⟩
  case round =>
    obtain ⟨k, A, hk, rfl, rfl, HA, HB⟩ := hrel
    have q : ∀ j, wr.cell? ⟨w.heap.size + 1, j, none⟩ = (hdX (bK z k))[j]? := fun j => cell_of_row _ _ j _ _ _ HB.out.1
    have qf : ∀ j, wr.frozen? ⟨w.heap.size + 1, j, none⟩ = false := fun j => frozen_of_row _ _ j _ _ HB.out.1
    have HQ := Lib.hid q
    have HQf := Lib.hid qf
    clear q qf
    by_cases hin : A < 128 ∧ A + 64 ≤ len
    · obtain ⟨hA1, hA2⟩ := hin
      have hsl : ∀ W, (Instr.slice 26 (.slice a len cap) (some (.int .i64 (A : Int))) (some (.int .i64 ((A : Int) + 64))) none).run Try.prog W = .ok (.slice (offA a cap A) 64 (cap - A)) W := fun W => by
        have := slice_lh a len cap A (A + 64) (by omega) (by have := HC.out; omega) .i64 .i64 W
        rw [show A + 64 - A = 64 by omega] at this
        simpa using this
      have HP := Lib.hid (show IsB wr (offA a cap A) 64 (hAt z k) from by
        have := isB_part (k := A) (n := 64) (HI.out.below HB.out.2.2 HLow.out) hA2 HC.out
        rw [HA.out] at this ⊢
        exact this)
      have HPl := Lib.hid (show ∀ x, 64 ≠ 0 → offA a cap A = some x → x.block < wr.heap.size from fun x _ hx => Nat.lt_of_lt_of_le (offA_low (k := A) HLow.out x (by omega) hx) HB.out.2.2.size)
      have HPn := Lib.hid (show offA a cap A = none → 64 = 0 ∧ cap - A = 0 from fun hx => by have := offA_nil (k := A) HN.out hx; omega)
      have HPc := Lib.hid (show 64 ≤ cap - A by have := HC.out; omega)
      have hAi : (A : Int) < 128 := by omega
      have hAl : (64 : Int) ≤ (len : Int) - (A : Int) := by omega
      have hA0 : (0 : Int) ≤ (A : Int) := by omega
      have HK1 := Lib.hid (show 64 * (k + 1) ≤ z.length by rw [HL.out]; have := HA.out; omega)
      have HK2 := Lib.hid (show k < 2 by have := HA.out; omega)
      have HA3 := Lib.hid hA1
      clear hk hA1 hA2
      generalize offA a cap A = a1 at *
      generalize cap - A = cp at *
      go_wp2_with fail
      refine (readHead_any a1 cp (hAt z k) _ HP.out HPl.out HPn.out HPc.out).mono ?_
      rintro e w1 ⟨hor, hb1⟩
      have HI1 := Lib.hid (HB.out.later hb1)
      have HB1 := Lib.hid hb1
      clear hb1
      have F1 := Lib.hid (fun (h2 : hOk (hAt z k) = true) h3 => bK_some HK1.out h2 h3)
      have F2 := Lib.hid (fun (h2 : hOk (hAt z k) = false) => bK_bad (z := z) (k := k) h2)
      have F3 := Lib.hid (fun h2 h3 => bK_not (z := z) (k := k) h2 h3)
      obtain ⟨c1, c2⟩ := bcell HB1.out
      have hsz := HB.out.size
      have x0 := (c1 (w.heap.size + 1) 0 hsz).trans (HQ.out 0)
      have x1 := (c1 (w.heap.size + 1) 1 hsz).trans (HQ.out 1)
      have x2 := (c1 (w.heap.size + 1) 2 hsz).trans (HQ.out 2)
      have y0 := (c2 (w.heap.size + 1) 0 hsz).trans (HQf.out 0)
      have y1 := (c2 (w.heap.size + 1) 1 hsz).trans (HQf.out 1)
      have y2 := (c2 (w.heap.size + 1) 2 hsz).trans (HQf.out 2)
      have HZ := Lib.hid HI1.out.size
      simp only [hdX, List.getElem?_toArray, List.getElem?_cons_zero, List.getElem?_cons_succ] at x0 x1 x2
      clear c1 c2 hsz
      rcases hor with ⟨hok, rfl⟩ | ⟨hok, rfl⟩
      · have HO := Lib.hid hok
        clear hok
        rw [show hdG (hAt z k) = .agg #[.int .u64 (hS (hAt z k)), .int .i64 (hP (hAt z k)), .int .i64 (hR (hAt z k))] from rfl]
        generalize hS (hAt z k) = s at *
        generalize hP (hAt z k) = p at *
        generalize hR (hAt z k) = r at *
        by_cases hv : (bK z k).1 = false
        · have HE := Lib.hid (F1.out HO.out (.inl hv))
          rw [hv]
          clear hv
          have hz := HZ.out
          go_wp2
          go_roundw
          case rel => exact ⟨k + 1, A + 64, by have := HK2.out; omega, by go_num, by rw [HE.out], Lib.hid (by rw [HA.out]; omega), Lib.hid ((HI1.out.set HE.out).later (bel0 _ (Below.refl _ _)))⟩
          case measure => have := HA3.out; simp [intOf]; omega
        · have hv' : (bK z k).1 = true := by simpa using hv
          by_cases hlt : (bK z k).2.2.2 < r
          · have HE := Lib.hid (F1.out HO.out (.inr hlt))
            rw [hv']
            clear hv hv'
            have hz := HZ.out
            go_wp2
            go_roundw
            case rel => exact ⟨k + 1, A + 64, by have := HK2.out; omega, by go_num, by rw [HE.out], Lib.hid (by rw [HA.out]; omega), Lib.hid ((HI1.out.set HE.out).later (bel0 _ (Below.refl _ _)))⟩
            case measure => have := HA3.out; simp [intOf]; omega
          · have HE := Lib.hid (F3.out hv' (by omega))
            have HV := Lib.hid hv'
            rw [hv']
            have hle : r ≤ (bK z k).2.2.2 := by omega
            clear hv hv' hlt
            have hz := HZ.out
            go_wp2
            go_roundw
            case rel => exact ⟨k + 1, A + 64, by have := HK2.out; omega, by go_num, by rw [HE.out, HV.out], Lib.hid (by rw [HA.out]; omega), Lib.hid ((HI1.out.later (bel0 _ (Below.refl _ _))).same HE.out)⟩
            case measure => have := HA3.out; simp [intOf]; omega
      · have HE := Lib.hid (F2.out hok)
        clear hok
        rw [show hd0 = .agg #[.int .u64 0, .int .i64 0, .int .i64 0] from rfl]
        have hz := HZ.out
        go_wp2
        go_roundw
        case rel => exact ⟨k + 1, A + 64, by have := HK2.out; omega, by go_num, by rw [HE.out], Lib.hid (by rw [HA.out]; omega), Lib.hid ((HI1.out.later (bel0 _ (Below.refl _ _))).same HE.out)⟩
        case measure => have := HA3.out; simp [intOf]; omega
    · have HE := Lib.hid (show bK z 2 = bK z k from by
        have h1 : k = 0 ∨ k = 1 ∨ k = 2 := by omega
        have := HA.out
        have := HL.out
        rcases h1 with rfl | rfl | rfl
        · rw [bK_less (k := 1) (by omega), bK_less (k := 0) (by omega)]
        · rw [bK_less (k := 1) (by omega)]
        · rfl)
      have x0 := HQ.out 0
      have x1 := HQ.out 1
      have x2 := HQ.out 2
      simp only [hdX, List.getElem?_toArray, List.getElem?_cons_zero, List.getElem?_cons_succ] at x0 x1 x2
      have qn : ∀ j, wr.cell? ⟨w.heap.size, j, none⟩ = (#[Value.int .u64 0, .int .i64 0, .int .i64 0] : Array Value)[j]? := fun j => cell_of_row _ _ j _ _ _ HB.out.2.1
      have qf : ∀ j, wr.frozen? ⟨w.heap.size, j, none⟩ = false := fun j => frozen_of_row _ _ j _ _ HB.out.2.1
      have u0 := qn 0
      have u1 := qn 1
      have u2 := qn 2
      simp only [List.getElem?_toArray, List.getElem?_cons_zero, List.getElem?_cons_succ] at u0 u1 u2
      have v0 := qf 0
      have v1 := qf 1
      have v2 := qf 2
      have HBB := Lib.hid HB.out.2.2
      have hA0 : (0 : Int) ≤ (A : Int) := by omega
      clear qn qf HQ HQf
      rcases Nat.lt_or_ge A 128 with hA | hA
      · have hAi : (A : Int) < 128 := by omega
        have hAl : (len : Int) - (A : Int) < 64 := by omega
        clear hin hA
        go_wp2
        refine bodyPost_ret (v := .tuple #[hdF (bK z 2), .bool (bK z 2).1]) (by rw [HE.out]; simp [results, Try.results68, go_sem, hdF, hdX, x0, x1, x2, u0, u1, u2]) rfl ⟨rfl, ?_⟩
        repeat (first | exact HBB.out | (refine Below.setCell ?_ (by simp) _))
      · have hAi : (128 : Int) ≤ (A : Int) := by omega
        clear hin hA
        go_wp2
        refine bodyPost_ret (v := .tuple #[hdF (bK z 2), .bool (bK z 2).1]) (by rw [HE.out]; simp [results, Try.results68, go_sem, hdF, hdX, x0, x1, x2, u0, u1, u2]) rfl ⟨rfl, ?_⟩
        repeat (first | exact HBB.out | (refine Below.setCell ?_ (by simp) _))
end Go.Proofs.Ytbcjhngpcodaoaa
