/- The document's quoted: a text word. -/
import Derived.Test.YtplgkblahmndoaaDoorLdBlank
import Derived.Laws.Rows
namespace Go.Proofs.YtplgkblahmndoaaDoor
open Go.RowKit Go.Lib
set_option linter.unusedVariables false
set_option maxRecDepth 100000

/-- is it the word that it should be? -/
def RightW (l : Bs) (a : Int) (b : ByteArray) (c n : Int) (ok : Bool) : Option (Wd × Bs) → Prop
  | none => ok = false
  | some (x, r) => ok = true ∧ (a, b.data.toList, c) = x ∧ ∃ k : Nat, n = (k : Int) ∧ 0 < k ∧ k ≤ l.length ∧ r = l.drop k
/-- what quoted and word answer -/
def WordR (l : Bs) (o : Option (Wd × Bs)) (w : World) (e : Ending) (w' : World) : Prop :=
  ∃ (a : Int) (b : ByteArray) (c n : Int) (ok : Bool), e = .returned (.tuple #[.agg #[.int .i64 a, .string b, .int .i64 c], .int .i64 n, .bool ok]) ∧ Below w.heap.size w w' ∧ RightW l a b c n ok o
def quoO (l : Bs) : Option (Wd × Bs) := (quo l.tail).bind fun x => if 100 < x.1.length then none else some ((3, x.1, 0), x.2)
theorem quoO_none {l : Bs} (h : quo l.tail = none) : quoO l = none := by unfold quoO; rw [h]; rfl
theorem quoO_long {l : Bs} {x : Bs × Bs} (h : quo l.tail = some x) (h2 : 100 < x.1.length) : quoO l = none := by unfold quoO; rw [h]; exact if_pos h2
theorem quoO_some {l : Bs} {x : Bs × Bs} (h : quo l.tail = some x) (h2 : x.1.length ≤ 100) : quoO l = some ((3, x.1, 0), x.2) := by unfold quoO; rw [h]; exact if_neg (by omega)
theorem results_word {fn : Func} {p u v : Tmp} (h : fn.results = #[.cell p 41, .tmp u, .tmp v]) (tmps : Array Value) (w : World) (g : Nat) (a b c : Value)
    (hp : tmps.getD p undef = .pointer (some ⟨g, 0, none⟩)) (hg : w.heap[g]? = some (.cells #[a, b, c] 41 (0, 0))) :
    (results fn tmps).run Tryd.prog w = .ok (.tuple #[.agg #[a, b, c], tmps.getD u undef, tmps.getD v undef]) w := by
  have hp' : tmps[p]?.getD undef = .pointer (some ⟨g, 0, none⟩) := by simpa using hp
  have hl := run_loadVar_row (P := Tryd.prog) w g 41 41 #[a, b, c] (0, 0) _ hg Tryd.underlying41 rfl (by
    have : (Tryd.prog.info? 41).map (·.size) = some 3 := by kernel_rfl
    exact this)
  simp [results, h, hp', asAddr, hl]
theorem sz39 (a : ByteArray) : (a ++ ⟨#[39]⟩ : ByteArray).size = a.size + 1 := by rw [← len_list, bapp, List.length_append, len_list]; rfl
theorem box3 {w : World} {N : Nat} {x y z : Value} {T : TypeId} (h : w.heap[N]? = some (.cells #[x, y, z] T (0, 0))) (a b c : Value) : (((w.setCell ⟨N, 0, none⟩ a).setCell ⟨N, 1, none⟩ b).setCell ⟨N, 2, none⟩ c).heap[N]? = some (.cells #[a, b, c] T (0, 0)) :=
  Go.heap_setCell_same _ N 2 _ _ _ (Go.heap_setCell_same _ N 1 _ _ _ (Go.heap_setCell_same w N 0 _ _ _ h))
theorem box3_below {w w1 : World} {N : Nat} (h : Below N w w1) (a b c : Value) : Below N w (((w1.setCell ⟨N, 0, none⟩ a).setCell ⟨N, 1, none⟩ b).setCell ⟨N, 2, none⟩ c) :=
  ((h.setCell (Nat.le_refl _) _).setCell (Nat.le_refl _) _).setCell (Nat.le_refl _) _
theorem right_quo {l : Bs} {T : ByteArray} {k : Nat} (h : quo l.tail = some (T.data.toList, l.drop (k + 1))) (hk : k + 1 ≤ l.length) : RightW l 3 T 0 ((k : Int) + 1) (decide ((T.size : Int) ≤ 100)) (quoO l) := by
  by_cases ht : T.size ≤ 100
  · rw [quoO_some h (by show T.data.toList.length ≤ 100; rw [len_list]; exact ht), decide_eq_true (by omega)]
    exact ⟨rfl, rfl, k + 1, by omega, by omega, hk, rfl⟩
  · rw [quoO_long h (by show 100 < T.data.toList.length; rw [len_list]; omega), decide_eq_false (by omega)]
    rfl
set_option maxHeartbeats 6400000 in
theorem rquoted_any (s : ByteArray) (w : World) (h0 : 0 < s.size) (hs : s.size ≤ 4000) : Calls Tryd.prog 22 #[.string s] w (WordR s.data.toList (quoO s.data.toList) w) := by
  have hsi : (s.size : Int) ≤ 4000 := by omega
  obtain ⟨w1, hw1⟩ : ∃ w1, w1 = w.alloc (.cells #[.int .i64 0, .string ⟨#[]⟩, .int .i64 0] 41) := ⟨_, rfl⟩
  have hnew : w1.heap[w.heap.size]? = some (.cells #[.int .i64 0, .string ⟨#[]⟩, .int .i64 0] 41 (0, 0)) := by rw [hw1]; exact Go.heap_alloc_new w _
  have HB1 := Lib.hid (show Below w.heap.size w w1 by rw [hw1]; exact bel0 _ (Below.refl _ _))
  have c0 := cell_of_row _ _ 0 _ _ _ hnew
  have c1 := cell_of_row _ _ 1 _ _ _ hnew
  have c2 := cell_of_row _ _ 2 _ _ _ hnew
  simp only [List.getElem?_toArray, List.getElem?_cons_zero, List.getElem?_cons_succ] at c0 c1 c2
  have fz : ∀ j, w1.frozen? ⟨w.heap.size, j, none⟩ = false := fun j => frozen_of_row _ _ j _ _ hnew
  have HW := Lib.hid hw1
  have hlt1 : w.heap.size < w1.heap.size := (Array.getElem?_eq_some_iff.1 hnew).1
  have HNew := Lib.hid hnew
  clear hw1 hnew
  go_enter Tryd.func22, Tryd.ntmps22
  go_upto_region 1 with (fail)
  rw [← HW.out]
  go_wp2_with fail
  go_loopw [5, 6] (fun t i wr => ∃ (k : Nat) (T : ByteArray), 1 ≤ k ∧ k ≤ s.size ∧ i = .int .i64 (k : Int) ∧ t = .string T ∧ wr = w1 ∧ T.size ≤ 4000 ∧ Hid (quo s.data.toList.tail = (quo (s.data.toList.drop k)).map fun x => (T.data.toList ++ x.1, x.2)) ∧ Hid (T.size ≤ k)) (fun _ i _ => s.size - (RowKit.intOf i).toNat)
  case atStart => exact ⟨1, _, by omega, by omega, rfl, rfl, rfl, by decide, Lib.hid (by rw [List.drop_one]; simp), Lib.hid (by decide)⟩
  case round =>
    obtain ⟨k, T, hk1, hk, rfl, rfl, hwr, hT, HQ, HTk⟩ := hrel
    subst hwr
    have hk0 : (1 : Int) ≤ (k : Int) := by omega
    have hTi : (T.size : Int) ≤ 4000 := by omega
    by_cases hlt : k < s.size
    · have hki : (k : Int) < (s.size : Int) := by omega
      have hll : k < s.data.toList.length := by rw [len_list]; exact hlt
      have HB := Lib.hid (byte_at s k hlt)
      by_cases hq : s[k]'hlt = 39
      · have hv : (((s[k]'hlt).toNat : Nat) : Int) = 39 := by rw [hq]; rfl
        have HD := Lib.hid (show s.data.toList.drop k = 39 :: s.data.toList.drop (k + 1) by rw [drop_get hll, ← HB.out, hq])
        have HEnd := Lib.hid (fun (h : quo (s.data.toList.drop k) = some ([], s.data.toList.drop (k + 1))) => (show quo s.data.toList.tail = some (T.data.toList, s.data.toList.drop (k + 1)) from by rw [HQ.out, h]; simp))
        clear hq
        by_cases h1 : k + 1 < s.size
        · have h1i : (k : Int) + 1 < (s.size : Int) := by omega
          have hl1 : k + 1 < s.data.toList.length := by rw [len_list]; exact h1
          by_cases hq2 : s[k + 1]'h1 = 39
          · have hv2 : (((s[k + 1]'h1).toNat : Nat) : Int) = 39 := by rw [hq2]; rfl
            have HN := Lib.hid (show quo s.data.toList.tail = (quo (s.data.toList.drop (k + 2))).map fun x => (T.data.toList ++ [39] ++ x.1, x.2) from by
              rw [HQ.out, HD.out, drop_get hl1, ← byte_at s (k + 1) h1, hq2, quo_two]
              rw [Option.map_map]
              congr 1
              funext x
              simp)
            clear hq2
            go_wp2
            go_roundw
            case rel => exact ⟨k + 2, _, by omega, by omega, by go_num, rfl, trivial, by have := HTk.out; rw [sz39]; omega, Lib.hid (by rw [bapp]; exact HN.out), Lib.hid (by have := HTk.out; rw [sz39]; omega)⟩
            case measure =>
              simp [go_sem, RowKit.intOf]
              omega
          · have hv2 := u8_ne (n := 39) (i := 39) rfl (by decide) hq2
            have HE := Lib.hid (HEnd.out (by rw [HD.out, drop_get hl1, quo_end (by rw [← byte_at s (k + 1) h1]; exact hq2)]))
            clear hq2
            go_wp2
            have HC := box3 HNew.out (.int .i64 3) (.string T) (.int .i64 0)
            have HBf := Lib.hid (box3_below HB1.out (.int .i64 3) (.string T) (.int .i64 0))
            generalize ((wr.setCell ⟨w.heap.size, 0, none⟩ (.int .i64 3)).setCell ⟨w.heap.size, 1, none⟩ (.string T)).setCell ⟨w.heap.size, 2, none⟩ (.int .i64 0) = w9 at *
            (try simp only [Exit.inBlock, Exit.then])
            refine bodyPost_ret (results_word rfl _ _ w.heap.size _ _ _ rfl HC) rfl ?_
            exact ⟨3, T, 0, _, _, rfl, HBf.out, right_quo HE.out (by rw [len_list]; omega)⟩
        · have h1i : decide ((k : Int) + 1 < (s.size : Int)) = false := decide_eq_false (by omega)
          have h1j : (s.size : Int) ≤ (k : Int) + 1 := by omega
          have HE := Lib.hid (HEnd.out (by rw [HD.out, List.drop_of_length_le (by rw [len_list]; omega)]; exact quo_last))
          clear h1
          go_wp2
          have HC := box3 HNew.out (.int .i64 3) (.string T) (.int .i64 0)
          have HBf := Lib.hid (box3_below HB1.out (.int .i64 3) (.string T) (.int .i64 0))
          generalize ((wr.setCell ⟨w.heap.size, 0, none⟩ (.int .i64 3)).setCell ⟨w.heap.size, 1, none⟩ (.string T)).setCell ⟨w.heap.size, 2, none⟩ (.int .i64 0) = w9 at *
          (try simp only [Exit.inBlock, Exit.then])
          refine bodyPost_ret (results_word rfl _ _ w.heap.size _ _ _ rfl HC) rfl ?_
          exact ⟨3, T, 0, _, _, rfl, HBf.out, right_quo HE.out (by rw [len_list]; omega)⟩
      · have hv := u8_ne (n := 39) (i := 39) rfl (by decide) hq
        obtain ⟨E, hE⟩ : ∃ E, E = s.extract k (k + 1) := ⟨_, rfl⟩
        have HE := Lib.hid (show E.data.toList = [s.data.toList.getD k 0] by rw [hE]; exact ext_one s k hlt)
        have hsl : ∀ W, (Instr.slice 9 (.string s) (some (.int .i64 (k : Int))) (some (.int .i64 ((k : Int) + 1))) none).run Tryd.prog W = .ok (.string E) W := fun W => by
          have := run_slice_text s k (k + 1) (by omega) (by omega) W
          rw [hE]
          simpa using this
        have hEs : E.size = 1 := by rw [← len_list, HE.out]; rfl
        have HN := Lib.hid (show quo s.data.toList.tail = (quo (s.data.toList.drop (k + 1))).map fun x => (T.data.toList ++ E.data.toList ++ x.1, x.2) from by
          rw [HQ.out, drop_get hll, quo_cons (by rw [← HB.out]; exact hq), Option.map_map, HE.out]
          congr 1
          funext x
          simp)
        clear hq hE
        go_wp2
        go_roundw
        case rel => exact ⟨k + 1, _, by omega, by omega, rfl, rfl, trivial, by have := HTk.out; simp; omega, Lib.hid (by rw [bapp]; exact HN.out), Lib.hid (by have := HTk.out; simp; omega)⟩
        case measure =>
          simp [go_sem, RowKit.intOf]
          omega
    · obtain rfl : k = s.size := by omega
      have HE := Lib.hid (show quoO s.data.toList = none from quoO_none (by
        rw [HQ.out, List.drop_of_length_le (by rw [len_list]; exact Nat.le_refl _), quo_nil]; rfl))
      clear hlt
      go_wp2
      have HC := box3 HNew.out (.int .i64 0) (.string ⟨#[]⟩) (.int .i64 0)
      have HBf := Lib.hid (box3_below HB1.out (.int .i64 0) (.string ⟨#[]⟩) (.int .i64 0))
      generalize ((wr.setCell ⟨w.heap.size, 0, none⟩ (.int .i64 0)).setCell ⟨w.heap.size, 1, none⟩ (.string ⟨#[]⟩)).setCell ⟨w.heap.size, 2, none⟩ (.int .i64 0) = w9 at *
      (try simp only [Exit.inBlock, Exit.then])
      refine bodyPost_ret (results_word rfl _ _ w.heap.size _ _ _ rfl HC) rfl ?_
      exact ⟨0, _, 0, _, _, rfl, HBf.out, by rw [HE.out]; rfl⟩
end Go.Proofs.YtplgkblahmndoaaDoor
