/- ParseBlanks: the law's walk. -/
import Derived.Test.YtknhphcfcpjhiaaGreatDoorLwAgain
import Derived.Test.YtknhphcfcpjhiaaGreatDoorPsRead
import Derived.Test.YtknhphcfcpjhiaaGreatDoorPsmS
import Derived.Deep.CutBlock
namespace Go.Proofs.YtknhphcfcpjhiaaGreatDoor
open Go.Lib
set_option linter.unusedVariables false
set_option linter.unusedSimpArgs false
theorem drop_all {note : Bs} (h : ∀ b ∈ note, b ≠ 10) : note.dropWhile (· != 10) = [] := by
  induction note with
  | nil => rfl
  | cons b t ih =>
    rw [List.dropWhile_cons_of_pos (by simpa using h b List.mem_cons_self)]
    exact ih (fun x hx => h x (List.mem_cons_of_mem _ hx))
theorem blank_words {text note : Bs} (hn : ∀ b ∈ note, b ≠ 10) {X : List Wd} (ht : run (0, [], []) text = .ok X) :
    run (0, [], []) (32 :: 9 :: 10 :: 45 :: 45 :: (note ++ 10 :: (text ++ 10 :: 32 :: 45 :: 45 :: note))) = .ok X := by
  rw [run_blank _ _ 32 _ (by simp), run_blank _ _ 9 _ (by simp), run_blank _ _ 10 _ (by simp), run_dash, drop_note hn, run_blank _ _ 10 _ (by simp),
    run_lf _ _ _ _ X (Nat.le_refl _) ht, run_blank _ _ 10 _ (by simp), run_blank _ _ 32 _ (by simp), run_dash, drop_all hn, run_nil]
  rfl
end Go.Proofs.YtknhphcfcpjhiaaGreatDoor
namespace Go.Proofs.YtknhphcfcpjhiaaGreatDoor
open Go.RowKit Go.Great
set_option linter.unusedVariables false
set_option linter.unusedSimpArgs false
set_option maxRecDepth 100000
theorem sm_one {w : World} {Q : Nat → Prop} {cs : List Value} {s : ST} (h : smS.R w Q cs s) : cs.length = 17 ∧ cs.all (·.oneCell') = true := by
  obtain ⟨_, _, _, _, _, _, rfl, ⟨_, _, rfl, -⟩, ⟨_, _, rfl, -⟩, ⟨_, _, rfl, -⟩, ⟨_, _, rfl, -⟩, ⟨_, _, rfl, -⟩, ⟨_, _, _, _, _, rfl, ⟨_, _, rfl, -⟩, ⟨_, _, rfl, -⟩, ⟨_, _, rfl, -⟩, ⟨_, _, rfl, -⟩, ⟨_, _, rfl, -⟩, -⟩, -⟩ := h
  exact ⟨rfl, rfl⟩
theorem sm_head {w : World} {Q : Nat → Prop} {cs : List Value} {s : ST} (h : smS.R w Q cs s) : cs[0]? = some (.int .i64 s.kind) ∧ cs[1]? = some (.string s.name) := by
  obtain ⟨_, _, _, _, _, _, rfl, _⟩ := h
  exact ⟨rfl, rfl⟩
section
variable {P : Program} {ops : Array Oper} {Q : Exit → Act → World → Prop}
/-- a load whose guard is met -/
theorem wpl_loadg {rest : List Oper} {o : Oper} {a : Act} {w : World} (hw : Region.wanted o (yielded ops a.tmps) = true) (ty : TypeId) (x : Operand) (ho : o.op = .load ty x) (d : Option Tmp) (hd : o.dst = d)
    (g : Nat) (hx : a.eval x = .pointer (some ⟨g, 0, none⟩)) (t : TypeId) (cs : Array Value) (fr : Nat × Nat) (ds : TypeDesc) (hg : w.heap[g]? = some (.cells cs t fr))
    (hu : P.underlying ty = some ds) (hr : (match ds with | .struct _ | .array _ _ => true | _ => false) = true) (hi : (P.info? ty).map (·.size) = some cs.size)
    (h : wpList P ops Q rest (a.put d (.agg cs)) w) : wpList P ops Q (o :: rest) a w := by
  subst hd
  exact wpList_step fun K hK => by
    rw [if_pos hw]
    exact wp_load_row ty x ho g hx t cs fr ds hg hu hr hi (hK _ _ h)
end
def awB : ByteArray := ⟨#[68, 82, 79, 80, 32, 84, 65, 66, 76, 69, 32, 116, 59]⟩
def awB_words : List Wd := [(1, [68, 82, 79, 80], 0), (1, [84, 65, 66, 76, 69], 0), (1, [116], 0), (4, [59], 0)]
theorem awb_words : wordsA awB.data.toList = .ok awB_words := by rfl
theorem awb_read : (ReadW awB_words).2 = 0 ∧ (ReadW awB_words).1.kind = 4 ∧ (ReadW awB_words).1.name = ⟨#[116]⟩ := by decide +kernel
theorem awb_p : ∃ s : ST, ReadP awB.data.toList = (s, 0) ∧ s.kind = 4 ∧ s.name = ⟨#[116]⟩ := by
  obtain ⟨h0, h1, h2⟩ := awb_read
  refine ⟨(ReadW awB_words).1, ?_, h1, h2⟩
  unfold ReadP
  rw [awb_words, ← h0]
theorem zs_info : (Tryz.prog.info? 45).bind (·.zero) = some (.agg #[.int .i64 0, .string ⟨#[]⟩, .string ⟨#[]⟩, .bool false, .slice none 0 0, .slice none 0 0, .slice none 0 0, .slice none 0 0, .slice none 0 0, .bool false, .bool false, .slice none 0 0, .slice none 0 0, .slice none 0 0, .slice none 0 0, .slice none 0 0, .int .i64 0]) := by kernel_rfl
theorem zs_size : (Tryz.prog.info? 45).map (·.size) = some 17 := by kernel_rfl
set_option maxHeartbeats 6400000 in
theorem awake07 (w : World) (hv : VOk w) (hN : gMax < w.heap.size ∧ gErr < w.heap.size) :
    Calls Tryz.prog 7 #[] w fun e w' => e = .returned (.bool true) ∧ Below w.heap.size w w' := by
  obtain ⟨s, hs, hk, hn⟩ := awb_p
  have HR := Lib.hid (read_any awB w hv hN (by decide))
  rw [hs] at HR
  have HK := Lib.hid hk
  have HNm := Lib.hid hn
  clear hv hs hk hn
  go_enter Tryz.func7, Tryz.ntmps7
  go_wp2_with fail
  refine (show Calls Tryz.prog 9 #[.string awB] w _ from HR.out).mono ?_
  rintro e w1 ⟨⟨v, rfl, cs, rfl, hr⟩, hb⟩
  have HOne := Lib.hid (sm_one hr)
  have HHd := Lib.hid (sm_head hr)
  have HB := Lib.hid (bt hb (bel0 (.cells cs.toArray 45 (0, 0)) (Below.refl _ _)))
  have HX := Lib.hid (Go.heap_alloc_new w1 (.cells cs.toArray 45 (0, 0)))
  clear hr hb
  rename_i K hKK
  dsimp only
  refine hKK _ _ ?_
  refine wpList_readTo rfl _ rfl (.tuple #[.agg cs.toArray, .int .i64 0]) rfl ?_
  refine wpList_readTo rfl _ rfl (.agg cs.toArray) rfl ?_
  refine wpList_readTo rfl _ rfl (.int .i64 0) rfl ?_
  refine wpl_keep rfl _ rfl _ rfl _ zs_info rfl _ _ _ rfl _ rfl cs rfl rfl (by rw [HOne.out.1]; exact zs_size) (by rw [HOne.out.1]; rfl) HOne.out.2 ?_
  refine wpList_readTo rfl _ rfl (.int .i64 0) rfl ?_
  refine wpList_nil ?_
  clear hKK K
  generalize w1.alloc (.cells cs.toArray 45 (0, 0)) = w2 at *
  have c0 : w2.cell? ⟨w1.heap.size, 0, none⟩ = some (.int .i64 4) := by
    rw [cell_of_row _ _ 0 _ _ _ HX.out, ← HK.out]
    simpa using HHd.out.1
  have c1 : w2.cell? ⟨w1.heap.size, 1, none⟩ = some (.string ⟨#[116]⟩) := by
    rw [cell_of_row _ _ 1 _ _ _ HX.out, ← HNm.out]
    simpa using HHd.out.2
  go_wp2
  go_ret
  exact ⟨rfl, HB.out⟩
end Go.Proofs.YtknhphcfcpjhiaaGreatDoor
namespace Go.Proofs.YtknhphcfcpjhiaaGreatDoor
open Go.RowKit Go.Great
set_option linter.unusedVariables false
set_option linter.unusedSimpArgs false
set_option maxRecDepth 100000
theorem bapp2 (a b : ByteArray) : (a ++ b).data.toList = a.data.toList ++ b.data.toList := by rw [ByteArray.data_append, Array.toList_append]
theorem blank_list (t n : ByteArray) : (⟨#[32, 9, 10, 45, 45]⟩ ++ n ++ ⟨#[10]⟩ ++ t ++ ⟨#[10, 32, 45, 45]⟩ ++ n : ByteArray).data.toList = 32 :: 9 :: 10 :: 45 :: 45 :: (n.data.toList ++ 10 :: (t.data.toList ++ 10 :: 32 :: 45 :: 45 :: n.data.toList)) := by
  rw [bapp2, bapp2, bapp2, bapp2, bapp2]
  simp
theorem blank_size (t n : ByteArray) : (⟨#[32, 9, 10, 45, 45]⟩ ++ n ++ ⟨#[10]⟩ ++ t ++ ⟨#[10, 32, 45, 45]⟩ ++ n : ByteArray).size = t.size + n.size + n.size + 10 := by
  rw [← len_list, blank_list]
  simp only [List.length_append, List.length_cons, len_list]
  omega
def Nz {α : Type} (o : An α) : Prop := ∀ e, o = .no e → e ≠ 0
theorem nz_no {α : Type} {e : Int} (h : e ≠ 0) : Nz (An.no e : An α) := fun e' he => by cases he; exact h
theorem nz_ok {α : Type} (x : α) : Nz (An.ok x) := fun e' he => by cases he
theorem nz_bind {α β : Type} {o : An α} {f : α → An β} (h : Nz o) (hf : ∀ x, Nz (f x)) : Nz (o.bind f) := by
  cases o with
  | no e => exact nz_no (h e rfl)
  | ok x => exact hf x
theorem nz_add (ws : List Wd) (x : Wd) : Nz (addM ws x) := by
  unfold addM
  split
  · exact nz_no (by decide)
  · exact nz_ok _
theorem nz_end (md : Nat) (cur : Bs) (ws : List Wd) : Nz (endM md cur ws) := by
  unfold endM
  split
  · split
    · exact nz_no (by decide)
    · exact nz_add _ _
  · unfold numM
    split
    · exact nz_add _ _
    · exact nz_no (by decide)
  · exact nz_no (by decide)
  · unfold textM
    split
    · exact nz_no (by decide)
    · exact nz_add _ _
  · exact nz_add _ _
  · exact nz_ok _
theorem nz_begin (r : Nat) : Nz (beginM r) := by
  unfold beginM
  repeat' split
  all_goals first | exact nz_ok _ | exact nz_no (by decide)
theorem nz_step (x : Rd) (r : Nat) (c : Bs) : Nz (stepM x r c) := by
  unfold stepM
  split
  · exact nz_no (by decide)
  · split
    · exact nz_ok _
    · exact nz_bind (nz_end _ _ _) (fun ws => nz_bind (nz_begin _) (fun md => nz_ok _))
theorem nz_run : ∀ (f : Nat) (x : Rd) (l : Bs), Nz (runM f x l)
  | 0, x, l => nz_end _ _ _
  | f + 1, x, l => by
    unfold runM
    split
    · exact nz_end _ _ _
    · exact nz_bind (nz_step _ _ _) (fun y => nz_run f y _)
theorem run_no_zero {x : Rd} {l : Bs} {e : Int} (h : run x l = .no e) : e ≠ 0 := nz_run _ _ _ e h
theorem read_blank {t n : ByteArray} (ht : t.size ≤ 1500) (hn : n.size ≤ 1000) (h10 : ∀ c ∈ n.data.toList, c ≠ 10) (h0 : (ReadP t.data.toList).2 = 0) :
    ReadP (⟨#[32, 9, 10, 45, 45]⟩ ++ n ++ ⟨#[10]⟩ ++ t ++ ⟨#[10, 32, 45, 45]⟩ ++ n : ByteArray).data.toList = ReadP t.data.toList := by
  cases hw : wordsA t.data.toList with
  | no x =>
    have : x = 0 := by
      unfold ReadP at h0
      rw [hw] at h0
      exact h0
    unfold wordsA at hw
    rw [if_neg (by rw [len_list]; omega)] at hw
    exact absurd this (run_no_zero hw)
  | ok ws =>
    have h2 : wordsA (⟨#[32, 9, 10, 45, 45]⟩ ++ n ++ ⟨#[10]⟩ ++ t ++ ⟨#[10, 32, 45, 45]⟩ ++ n : ByteArray).data.toList = .ok ws := by
      have hw' := hw
      unfold wordsA at hw' ⊢
      rw [if_neg (by rw [len_list]; omega)] at hw'
      rw [if_neg (by rw [len_list, blank_size]; omega), blank_list]
      exact blank_words h10 hw'
    unfold ReadP
    rw [h2, hw]
set_option maxHeartbeats 6400000 in
theorem parseBlanks_walk (text note : ByteArray) (w : World) (hv : VOk w) (hN : gMax < w.heap.size ∧ gErr < w.heap.size) (ha : text.size ≤ 140737488355328) (hn : note.size ≤ 140737488355328) :
    Calls Tryz.prog 4 #[.string text, .string note] w fun e w' => e = .returned (.bool true) ∧ Below w.heap.size w w' := by
  have HV := Lib.hid hv
  have ha2 : (text.size : Int) ≤ 140737488355328 := by omega
  have hn2 : (note.size : Int) ≤ 140737488355328 := by omega
  have ha0 : (0 : Int) ≤ (text.size : Int) := by omega
  have hn0 : (0 : Int) ≤ (note.size : Int) := by omega
  clear hv
  go_enter Tryz.func4, Tryz.ntmps4
  by_cases h3 : 1500 < text.size ∨ 1000 < note.size
  · have HAw := Lib.hid (awake07 _ HV.out hN)
    have HAw2 := Lib.hid (show ∀ w1, Below w.heap.size w w1 → Calls Tryz.prog 7 #[] w1 fun e w' => e = .returned (.bool true) ∧ Below w1.heap.size w1 w' from fun w1 hb => awake07 _ (HV.out.below hb hN) ⟨Nat.lt_of_lt_of_le hN.1 hb.size, Nat.lt_of_lt_of_le hN.2 hb.size⟩)
    by_cases h15 : 1500 < text.size
    · have h15i : (1500 : Int) < (text.size : Int) := by omega
      clear h3 h15
      go_wp2_with fail
      refine HAw.out.mono ?_
      rintro e w1 ⟨rfl, hb1⟩
      have HB1 := Lib.hid hb1
      clear hb1
      go_wp2_with fail
      refine (HAw2.out _ HB1.out).mono ?_
      rintro e w2 ⟨rfl, hb2⟩
      have HB2 := Lib.hid (bt HB1.out hb2)
      clear hb2
      go_wp2
      go_ret
      exact ⟨rfl, HB2.out⟩
    · have h15i : ¬ (1500 : Int) < (text.size : Int) := by omega
      have h10i : (1000 : Int) < (note.size : Int) := by omega
      clear h3 h15
      go_wp2_with fail
      refine HAw.out.mono ?_
      rintro e w1 ⟨rfl, hb1⟩
      have HB1 := Lib.hid hb1
      clear hb1
      go_wp2_with fail
      refine (HAw2.out _ HB1.out).mono ?_
      rintro e w2 ⟨rfl, hb2⟩
      have HB2 := Lib.hid (bt HB1.out hb2)
      clear hb2
      go_wp2
      go_ret
      exact ⟨rfl, HB2.out⟩
  · have h15i : ¬ (1500 : Int) < (text.size : Int) := by omega
    have h10i : ¬ (1000 : Int) < (note.size : Int) := by omega
    have HSz := Lib.hid (show text.size ≤ 1500 ∧ note.size ≤ 1000 by omega)
    clear h3
    go_wp2_with fail
    refine (awake07 _ HV.out hN).mono ?_
    rintro e w1 ⟨rfl, hb1⟩
    have HB1 := Lib.hid hb1
    have HV1 := Lib.hid (HV.out.below HB1.out hN)
    have hN1 : gMax < w1.heap.size ∧ gErr < w1.heap.size := ⟨Nat.lt_of_lt_of_le hN.1 HB1.out.size, Nat.lt_of_lt_of_le hN.2 HB1.out.size⟩
    clear hb1
    go_wp2_with fail
    go_loopw [25] (fun i wr => ∃ k : Nat, k ≤ note.size ∧ i = .int .i64 (k : Int) ∧ wr = w1 ∧ Hid (∀ c ∈ note.data.toList.take k, c ≠ 10)) (fun i _ => note.size - (RowKit.intOf i).toNat)
    case atStart => exact ⟨0, by omega, rfl, rfl, Lib.hid (by simp)⟩
    case round =>
      obtain ⟨k, hk, rfl, rfl, HI⟩ := hrel
      have hk0 : (0 : Int) ≤ (k : Int) := by omega
      by_cases hlt : k < note.size
      · have hki : (k : Int) < (note.size : Int) := by omega
        by_cases hc : note[k]'hlt = 10
        · have hcb : ((((note[k]'hlt).toNat : Nat) : Int) == 10) = true := by rw [hc]; rfl
          clear hc
          go_wp2
          go_ret
          exact ⟨rfl, HB1.out⟩
        · have hcb : ((((note[k]'hlt).toNat : Nat) : Int) == 10) = false := by
            rw [beq_eq_false_iff_ne]
            intro e
            exact hc (UInt8.toNat_inj.1 (by have : (note[k]'hlt).toNat = 10 := by omega
                                            rw [this]; rfl))
          have HK := Lib.hid (show ∀ c ∈ note.data.toList.take (k + 1), c ≠ 10 by
            intro c hm
            have e : note.data.toList.take (k + 1) = note.data.toList.take k ++ [note[k]'hlt] := by
              rw [List.take_add_one]
              congr 1
              have : note.data.toList[k]? = some (note[k]'hlt) := by
                rw [Array.getElem?_toList]
                exact Array.getElem?_eq_getElem hlt
              rw [this]; rfl
            rw [e] at hm
            rcases List.mem_append.1 hm with h | h
            · exact HI.out c h
            · rw [List.mem_singleton.1 h]; exact hc)
          clear hc
          go_wp2
          go_roundw
          case rel => exact ⟨k + 1, by omega, rfl, trivial, HK⟩
          case measure =>
            simp [go_sem, RowKit.intOf]
            omega
      · obtain rfl : k = note.size := by omega
        clear hlt
        have HI2 := Lib.hid (show ∀ c ∈ note.data.toList, c ≠ 10 by
          have := HI.out
          rwa [List.take_of_length_le (by rw [len_list]; omega)] at this)
        have HRb := Lib.hid (show (ReadP text.data.toList).2 = 0 → _ from fun h => read_blank HSz.out.1 HSz.out.2 HI2.out h)
        clear HI
        have HRd := Lib.hid (read_any text _ HV1.out hN1 (by omega))
        obtain ⟨r, hr⟩ : ∃ r, r = ReadP text.data.toList := ⟨_, rfl⟩
        rw [← hr] at HRd HRb
        clear hr
        obtain ⟨s, c⟩ := r
        dsimp only at HRb
        go_wp2_with fail
        refine HRd.out.mono ?_
        rintro e w2 ⟨⟨v, rfl, cs, rfl, hsm⟩, hb2⟩
        dsimp only at hsm ⊢
        have HOne := Lib.hid (sm_one hsm)
        have hb23 := bel0 (.cells cs.toArray 45 (0, 0)) (Below.refl w2.heap.size w2)
        have HB3 := Lib.hid (bt HB1.out (bt hb2 hb23))
        have HX3 := Lib.hid (Go.heap_alloc_new w2 (.cells cs.toArray 45 (0, 0)))
        have HS3 := Lib.hid (smS.far (w' := w2.alloc (.cells cs.toArray 45 (0, 0))) hsm hb23.size (fun b _ hlt => hb23.block b hlt))
        clear hsm hb2 hb23
        rename_i K hKK
        refine hKK _ _ ?_
        refine wpList_readTo rfl _ rfl (.tuple #[.agg cs.toArray, .int .i64 c]) rfl ?_
        refine wpList_readTo rfl _ rfl (.agg cs.toArray) rfl ?_
        refine wpList_readTo rfl _ rfl (.int .i64 c) rfl ?_
        refine wpl_keep rfl _ rfl _ rfl _ zs_info rfl _ _ _ rfl _ rfl cs rfl rfl (by rw [HOne.out.1]; exact zs_size) (by rw [HOne.out.1]; rfl) HOne.out.2 ?_
        refine wpList_readTo rfl _ rfl (.int .i64 c) rfl ?_
        refine wpList_nil ?_
        clear hKK K
        simp only [Act.put, List.setIfInBounds_toArray, List.set_cons_zero, List.set_cons_succ]
        obtain ⟨X, hX⟩ : ∃ X, X = w2.heap.size := ⟨_, rfl⟩
        have hs3 : (w2.alloc (.cells cs.toArray 45 (0, 0))).heap.size = X + 1 := by rw [hX]; simp
        rw [← hX] at HX3 ⊢
        generalize w2.alloc (.cells cs.toArray 45 (0, 0)) = w3 at *
        clear hX
        by_cases hc : c = 0
        rotate_left
        · have hcb : (c != 0) = true := bne_iff_ne.2 hc
          clear hc
          go_wp2
          go_ret
          exact ⟨rfl, HB3.out⟩
        · subst hc
          have HRb2 := Lib.hid (HRb.out rfl)
          have HZs := Lib.hid (blank_size text note)
          have HV3 := Lib.hid (HV.out.below HB3.out hN)
          have hN3 : gMax < w3.heap.size ∧ gErr < w3.heap.size := ⟨Nat.lt_of_lt_of_le hN.1 HB3.out.size, Nat.lt_of_lt_of_le hN.2 HB3.out.size⟩
          have HRd2 := Lib.hid (read_any (⟨#[32, 9, 10, 45, 45]⟩ ++ note ++ ⟨#[10]⟩ ++ text ++ ⟨#[10, 32, 45, 45]⟩ ++ note : ByteArray) w3 HV3.out hN3 (by rw [HZs.out]; omega))
          rw [HRb2.out] at HRd2
          go_wp2_with fail
          refine HRd2.out.mono ?_
          rintro e w4 ⟨⟨v, rfl, cs', rfl, hsm⟩, hb4⟩
          dsimp only at hsm ⊢
          have HOne2 := Lib.hid (sm_one hsm)
          have hb45 := bel0 (.cells cs'.toArray 45 (0, 0)) (Below.refl w4.heap.size w4)
          have hb35 := bt hb4 hb45
          have HB5 := Lib.hid (bt HB3.out hb35)
          have HX5 := Lib.hid ((hb35.block X (by omega)).trans HX3.out)
          have HS5 := Lib.hid (smS.far HS3.out hb35.size (fun b _ hlt => hb35.block b hlt))
          have HY5 := Lib.hid (Go.heap_alloc_new w4 (.cells cs'.toArray 45 (0, 0)))
          have HT5 := Lib.hid (smS.far (w' := w4.alloc (.cells cs'.toArray 45 (0, 0))) hsm hb45.size (fun b _ hlt => hb45.block b hlt))
          clear hsm hb4 hb45 hb35
          rename_i K hKK
          refine hKK _ _ ?_
          refine wpList_readTo rfl _ rfl (.tuple #[.agg cs'.toArray, .int .i64 0]) rfl ?_
          refine wpList_readTo rfl _ rfl (.agg cs'.toArray) rfl ?_
          refine wpList_readTo rfl _ rfl (.int .i64 0) rfl ?_
          refine wpl_keep rfl _ rfl _ rfl _ zs_info rfl _ _ _ rfl _ rfl cs' rfl rfl (by rw [HOne2.out.1]; exact zs_size) (by rw [HOne2.out.1]; rfl) HOne2.out.2 ?_
          refine wpList_readTo rfl _ rfl (.int .i64 0) rfl ?_
          refine wpList_nil ?_
          clear hKK K
          simp only [Act.put, List.setIfInBounds_toArray, List.set_cons_zero, List.set_cons_succ]
          obtain ⟨Y, hY⟩ : ∃ Y, Y = w4.heap.size := ⟨_, rfl⟩
          rw [← hY] at HY5 ⊢
          generalize w4.alloc (.cells cs'.toArray 45 (0, 0)) = w5 at *
          clear hY
          have HSame := Lib.hid (psames_any s s w5 _ _ cs cs' HS5.out HT5.out)
          rw [sameS_refl] at HSame
          go_upto_region 13 with (fail)
          refine wp_region_lit ?_
          refine wpList_readTo rfl _ rfl (.int .i64 0) rfl ?_
          refine wpList_readTo rfl _ rfl (.bool true) rfl ?_
          refine wpList_readTo rfl _ rfl (.bool true) rfl ?_
          refine wpl_loadg (by rfl) _ _ rfl _ rfl X rfl _ cs.toArray (0, 0) _ HX5.out Tryz.underlying45 rfl (by rw [List.size_toArray, HOne.out.1]; exact zs_size) ?_
          refine wpl_loadg (by rfl) _ _ rfl _ rfl Y rfl _ cs'.toArray (0, 0) _ HY5.out Tryz.underlying45 rfl (by rw [List.size_toArray, HOne2.out.1]; exact zs_size) ?_
          try simp only [Act.put, List.setIfInBounds_toArray, List.set_cons_zero, List.set_cons_succ]
          go_wp2_with fail
          refine HSame.out.mono ?_
          rintro e w6 ⟨rfl, hb6⟩
          have HB6 := Lib.hid (bt HB5.out hb6)
          clear hb6
          go_wp2
          go_ret
          exact ⟨rfl, HB6.out⟩
end Go.Proofs.YtknhphcfcpjhiaaGreatDoor
