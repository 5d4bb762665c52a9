/- The law's awake: what the text "a + 1" is. -/
import Derived.Test.YtpinalpigefenaaGreatDoorTkInv
import Derived.Test.YtpinalpigefenaaGreatDoorTkWord
import Derived.Test.YtpinalpigefenaaGreatDoorLwPure
import Derived.Test.YtpinalpigefenaaGreatDoorTkFin
import Derived.Test.YtpinalpigefenaaGreatDoorLwWords
namespace Go.Proofs.YtpinalpigefenaaGreatDoor
open Go.RowKit Go.Lib
set_option linter.unusedVariables false
set_option linter.unusedSimpArgs false
set_option maxRecDepth 100000
def Gd (ws : List Wd) : Prop := ∀ x ∈ ws, x.2.1.length ≤ 4000 ∧ InR x.2.2
theorem gd_add {ws Y : List Wd} {x : Wd} (h : addM ws x = .ok Y) (hg : Gd ws) (hx : x.2.1.length ≤ 4000 ∧ InR x.2.2) : Gd Y := by
  unfold addM at h
  split at h
  · cases h
  · cases h
    intro y hy
    rcases List.mem_append.1 hy with hy | hy
    · exact hg y hy
    · rw [List.mem_singleton] at hy
      subst hy
      exact hx
theorem inR_zero : InR 0 := by unfold InR; omega
theorem gd_end {md : Nat} {cur : Bs} {ws Y : List Wd} (h : endM md cur ws = .ok Y) (hg : Gd ws) (hc : cur.length ≤ 4000) : Gd Y := by
  unfold endM at h
  split at h
  · split at h
    · cases h
    · exact gd_add h hg ⟨hc, inR_zero⟩
  · unfold numM at h
    split at h
    · rename_i hn
      unfold numOk at hn
      rw [Bool.and_eq_true, decide_eq_true_eq] at hn
      exact gd_add h hg ⟨hc, by show InR (decV cur : Int); unfold InR; have := hn.1; omega⟩
    · cases h
  · cases h
  · unfold textM at h
    split at h
    · cases h
    · exact gd_add h hg ⟨by show (unq _).length ≤ 4000; omega, inR_zero⟩
  · exact gd_add h hg ⟨hc, inR_zero⟩
  · cases h
    exact hg
theorem gd_run : ∀ (f : Nat) (x : Rd) (l : Bs) (Y : List Wd), runM f x l = .ok Y → x.2.1.length + l.length ≤ 4000 → Gd x.2.2 → Gd Y
  | 0, x, l, Y, h, hc, hg => gd_end (md := x.1) (cur := x.2.1) h hg (by omega)
  | f + 1, x, l, Y, h, hc, hg => by
    unfold runM at h
    split at h
    · exact gd_end h hg (by omega)
    · rename_i hl
      have hw := dec_wd l hl
      cases hs : stepM x (decodeL l).1 (l.take (decodeL l).2) with
      | no e => rw [hs] at h; cases h
      | ok y =>
        rw [hs] at h
        have hk : y.2.1.length ≤ x.2.1.length + (l.take (decodeL l).2).length ∧ Gd y.2.2 := by
          unfold stepM at hs
          split at hs
          · cases hs
          · split at hs
            · cases hs
              exact ⟨by show (x.2.1 ++ _).length ≤ _; rw [List.length_append]; exact Nat.le_refl _, hg⟩
            · cases he : endM x.1 x.2.1 x.2.2 with
              | no e => rw [he] at hs; cases hs
              | ok zs =>
                rw [he] at hs
                cases hb : beginM (decodeL l).1 with
                | no e => rw [hb] at hs; cases hs
                | ok md =>
                  rw [hb] at hs
                  cases hs
                  exact ⟨by show (l.take _).length ≤ _; omega, gd_end he hg (by omega)⟩
        have hlt : (l.take (decodeL l).2).length + (l.drop (decodeL l).2).length = l.length := by rw [List.length_take, List.length_drop]; omega
        exact gd_run f y _ Y h (by have := hk.1; omega) hk.2
theorem gd_words {l : Bs} {ws : List Wd} (h : (if 4000 < l.length then An.no eL else run (0, [], []) l) = .ok ws) : Gd ws := by
  split at h
  · cases h
  · exact gd_run _ _ _ _ h (by simp; omega) (fun x hx => by cases hx)
theorem gd_ok {ws : List Wd} (h : Gd ws) : WsOk ws := by
  intro i
  unfold wdAt
  rw [List.getD_eq_getElem?_getD]
  cases hi : ws[i]? with
  | none => exact ⟨by simp, inR_zero⟩
  | some x =>
    have := h x (List.mem_of_getElem? hi)
    exact ⟨by show x.2.1.length ≤ _; omega, this.2⟩
end Go.Proofs.YtpinalpigefenaaGreatDoor
namespace Go.Proofs.YtpinalpigefenaaGreatDoor
open Go.RowKit
set_option linter.unusedVariables false
set_option linter.unusedSimpArgs false
set_option maxRecDepth 100000
/-- what a text is, and the error -/
def ParseP (l : Bs) : ET × Int :=
  match wordsA l with
  | .no x => (zET, x)
  | .ok ws => if (TakeP nmB ws).2.2 ≠ 0 then (zET, (TakeP nmB ws).2.2) else if (TakeP nmB ws).2.1 < ws.length then (zET, 3) else ((TakeP nmB ws).1, 0)
theorem wsX_len3 (ws : List Wd) : (wsX ws).length = ws.length * 3 := by
  induction ws with
  | nil => rfl
  | cons x t ih =>
    show (wordX _ _ _ ++ wsX t).length = _
    rw [List.length_append, ih, List.length_cons]
    simp [wordX]
    omega
theorem wsX_at3 : ∀ (ws : List Wd) (i : Nat), i < ws.length → ∀ j, j < 3 → (wsX ws)[i * 3 + j]? = (wordX (wdAt ws i).1 (bs (wdAt ws i).2.1) (wdAt ws i).2.2)[j]?
  | [], i, h, _, _ => by simp at h
  | x :: t, 0, h, j, hj => by
    show (wordX _ _ _ ++ wsX t)[0 * 3 + j]? = _
    rw [List.getElem?_append_left (by simp [wordX]; omega)]
    simp [wdAt, bs]
  | x :: t, i + 1, h, j, hj => by
    show (wordX _ _ _ ++ wsX t)[(i + 1) * 3 + j]? = _
    rw [List.getElem?_append_right (by simp [wordX]; omega)]
    have e : (i + 1) * 3 + j - (wordX x.1 ⟨x.2.1.toArray⟩ x.2.2).length = i * 3 + j := by simp [wordX]; omega
    rw [e, wsX_at3 t i (by simp at h; omega) j hj]
    simp [wdAt]
/-- a row of words of one's own: words in memory -/
theorem wsAt_own {w : World} {B n : Nat} {T : TypeId} {v : Value} {ws : List Wd} (h : w.ownsRow B T 3 v n (wsX ws)) (h4 : n ≤ 100000) : ∃ wa wc, v = .slice wa n wc ∧ WsAt w wa n ws := by
  have hl := h.1
  rw [wsX_len3] at hl
  have hl : ws.length = n := by omega
  by_cases h0 : n = 0
  · rcases h.2 with ⟨e, -⟩ | ⟨g, cap, cur, e, -⟩
    · subst h0
      exact ⟨none, 0, e, hl, by omega, .inl rfl⟩
    · exact ⟨_, _, e, hl, h4, .inl h0⟩
  · obtain ⟨g, cap, hv, hb, hlt⟩ := h.form (by omega)
    subst hv
    refine ⟨_, cap, rfl, hl, h4, .inr ⟨g, 0, rfl, hlt, fun i hi => ?_⟩⟩
    have hc : ∀ j, j < 3 → w.cell? ⟨g, 0 + i * 3 + j, none⟩ = (wordX (wdAt ws i).1 (bs (wdAt ws i).2.1) (wdAt ws i).2.2)[j]? := fun j hj => by
      rw [Nat.zero_add, h.cellAt (i * 3 + j) (by omega), wsX_at3 ws i (by omega) j hj]
    exact ⟨hc 0 (by omega), hc 1 (by omega), hc 2 (by omega)⟩
theorem words_most {l : Bs} {ws : List Wd} (h : wordsA l = .ok ws) : ws.length ≤ 600 := by
  unfold wordsA at h
  split at h
  · cases h
  · exact run_most l.length 0 [] [] l ws (Nat.le_refl _) h (by simp)
def PrsR (w : World) (r : ET × Int) (e : Ending) (w' : World) : Prop := (∃ ev, e = .returned (.tuple #[ev, .int .i64 r.2]) ∧ EV w' (fun b => w.heap.size ≤ b) ev r.1) ∧ Below w.heap.size w w'
set_option maxHeartbeats 12800000 in
theorem parse_any (s : ByteArray) (w : World) (hv : VOk w) (hN : gMax < w.heap.size ∧ gErr < w.heap.size) (hsz : s.size ≤ 9223372036854775806) :
    Calls Tryz.prog 13 #[.string s] w (PrsR w (ParseP s.data.toList)) := by
  have HB := Lib.hid (bel0 (.cells #[.int .i64 0, .string ⟨#[]⟩, .int .i64 0, .int .i64 0, .string ⟨#[]⟩, .string ⟨#[]⟩, .string ⟨#[]⟩, .slice none 0 0] 34) (Below.refl w.heap.size w))
  have HX := Lib.hid (Go.heap_alloc_new w (.cells #[.int .i64 0, .string ⟨#[]⟩, .int .i64 0, .int .i64 0, .string ⟨#[]⟩, .string ⟨#[]⟩, .string ⟨#[]⟩, .slice none 0 0] 34 (0, 0)))
  have HV := Lib.hid (hv.below HB.out hN)
  have HP := Lib.hid (show ParseP s.data.toList = (match wordsA s.data.toList with | .no x => (zET, x) | .ok ws => if (TakeP nmB ws).2.2 ≠ 0 then (zET, (TakeP nmB ws).2.2) else if (TakeP nmB ws).2.1 < ws.length then (zET, 3) else ((TakeP nmB ws).1, 0)) from rfl)
  clear hv
  go_enter Tryz.func13, Tryz.ntmps13
  go_upto_region 1 with (fail)
  generalize hw1 : w.alloc (.cells #[.int .i64 0, .string ⟨#[]⟩, .int .i64 0, .int .i64 0, .string ⟨#[]⟩, .string ⟨#[]⟩, .string ⟨#[]⟩, .slice none 0 0] 34) = w1 at *
  have hs1 : w1.heap.size = w.heap.size + 1 := by rw [← hw1]; simp
  have HWd := Lib.hid (words_any s w1 HV.out ⟨by omega, by omega⟩ hsz)
  clear hw1
  go_wp2_with fail
  refine HWd.out.mono ?_
  rintro e w2 hp
  cases hA : wordsA s.data.toList with
  | no x =>
    rw [hA] at hp
    obtain ⟨rfl, hx, hb⟩ := hp
    have HQ := Lib.hid (show ParseP s.data.toList = (zET, x) by rw [HP.out, hA])
    have hxb : (x != 0) = true := bne_iff_ne.2 hx
    have HBw := Lib.hid (show Below w.heap.size w w2 from HB.out.trans (hb.mono (by omega)))
    have hR := (hb.block w.heap.size (by omega)).trans HX.out
    have HFin := Lib.hid (wbox8 hR (.int .i64 0) (.string ⟨#[]⟩) (.int .i64 0) (.int .i64 0) (.string ⟨#[]⟩) (.string ⟨#[]⟩) (.string ⟨#[]⟩) (.slice none 0 0))
    have HBf := Lib.hid (setLe_below (Nat.le_refl w.heap.size) [.int .i64 0, .string ⟨#[]⟩, .int .i64 0, .int .i64 0, .string ⟨#[]⟩, .string ⟨#[]⟩, .string ⟨#[]⟩, .slice none 0 0] 0 w2 HBw.out)
    obtain ⟨g0, g1, g2, g3, g4, g5, g6, g7, gz, gN⟩ := row8 hR
    clear hA hx hb HP hR
    go_wp2
    refine bodyPost_ret (results_e2 rfl _ _ w.heap.size _ _ _ _ _ _ _ _ rfl HFin.out) rfl ?_
    rw [HQ.out]
    exact ⟨⟨_, rfl, ev_zero _ _⟩, HBf.out⟩
  | ok ws =>
    rw [hA] at hp
    obtain ⟨v, rfl, how, hb⟩ := hp
    have h6 := words_most hA
    have HG := Lib.hid (gd_ok (gd_words hA))
    have HP2 := Lib.hid (show ParseP s.data.toList = (if (TakeP nmB ws).2.2 ≠ 0 then (zET, (TakeP nmB ws).2.2) else if (TakeP nmB ws).2.1 < ws.length then (zET, 3) else ((TakeP nmB ws).1, 0)) by rw [HP.out, hA])
    obtain ⟨wa, wc, rfl, hwa⟩ := wsAt_own how (by omega)
    have HWa := Lib.hid hwa
    have HBw := Lib.hid (show Below w.heap.size w w2 from HB.out.trans (hb.mono (by omega)))
    have hR := (hb.block w.heap.size (by omega)).trans HX.out
    have HR := Lib.hid hR
    have hw2 := hb.size
    obtain ⟨n, hn⟩ : ∃ n, n = ws.length := ⟨_, rfl⟩
    have HNn := Lib.hid hn
    rw [← hn] at HWa h6 ⊢
    clear hA hb HP hR how hwa hn
    go_wp2_with fail
    refine (exprTake_any wa n wc ws w2 HWa.out HG.out).mono ?_
    rintro e w3 ⟨⟨ev, rfl, hev⟩, hb3⟩
    obtain ⟨r, hr⟩ : ∃ r, r = TakeP nmB ws := ⟨_, rfl⟩
    rw [← hr] at hev HP2 ⊢
    obtain ⟨E, u, c⟩ := r
    dsimp only at hev HP2 ⊢
    obtain ⟨sa, sc, rfl, hrg, hel⟩ := hev
    rw [etX_arr]
    have HRg := Lib.hid hrg
    have hB34 := bel0 (.cells (etX E sa sc).toArray 34) (Below.refl w3.heap.size w3)
    have hx4 := Go.heap_alloc_new w3 (.cells (etX E sa sc).toArray 34 (0, 0))
    rw [etX_arr] at hB34 hx4
    have hR3 := (hb3.block w.heap.size (by omega)).trans HR.out
    have HR3 := Lib.hid hR3
    have HBw3 := Lib.hid (HBw.out.trans (hb3.mono (by have := HBw.out.size; omega)))
    have hs3 := hb3.size
    have HEl := Lib.hid hel
    clear hr hrg hel hb3 hR3
    go_upto_region 5 with (fail)
    generalize (w3.alloc (.cells #[.int .i64 E.kind, .string E.op, .int .i64 E.vk, .int .i64 E.vn, .string E.vs, .string E.tab, .string E.col, .slice sa E.parts.length sc] 34)) = w4 at *
    have HX4 := Lib.hid hx4
    have HE4 := Lib.hid (HEl.out.keep hB34)
    have hR4 := (hB34.block w.heap.size (by omega)).trans HR3.out
    have HBw4 := Lib.hid (bt HBw3.out hB34)
    clear hB34 hx4
    obtain ⟨g0, g1, g2, g3, g4, g5, g6, g7, gz, gN⟩ := row8 hR4
    obtain ⟨l0, l1, l2, l3, l4, l5, l6, l7, lz, lN⟩ := row8 HX4.out
    have HFz := Lib.hid (wbox8 hR4 (.int .i64 0) (.string ⟨#[]⟩) (.int .i64 0) (.int .i64 0) (.string ⟨#[]⟩) (.string ⟨#[]⟩) (.string ⟨#[]⟩) (.slice none 0 0))
    have HBz := Lib.hid (setLe_below (Nat.le_refl w.heap.size) [.int .i64 0, .string ⟨#[]⟩, .int .i64 0, .int .i64 0, .string ⟨#[]⟩, .string ⟨#[]⟩, .string ⟨#[]⟩, .slice none 0 0] 0 w4 HBw4.out)
    have HFin := Lib.hid (wbox8 hR4 (.int .i64 E.kind) (.string E.op) (.int .i64 E.vk) (.int .i64 E.vn) (.string E.vs) (.string E.tab) (.string E.col) (.slice sa E.parts.length sc))
    have HBf := Lib.hid (setLe_below (Nat.le_refl w.heap.size) [.int .i64 E.kind, .string E.op, .int .i64 E.vk, .int .i64 E.vn, .string E.vs, .string E.tab, .string E.col, .slice sa E.parts.length sc] 0 w4 HBw4.out)
    have HEf := Lib.hid (el_store HE4.out (R := w.heap.size) (fun b hb e => by omega) 0 [.int .i64 E.kind, .string E.op, .int .i64 E.vk, .int .i64 E.vn, .string E.vs, .string E.tab, .string E.col, .slice sa E.parts.length sc])
    clear hR4
    by_cases hc : c = 0
    · subst hc
      by_cases hu : u < n
      · have HQ := Lib.hid (show ParseP s.data.toList = (zET, 3) by rw [HP2.out, ← HNn.out, if_neg (by simp), if_pos hu])
        have hub : decide ((u : Int) < (n : Int)) = true := decide_eq_true (by omega)
        have hui : (u : Int) < (n : Int) := by omega
        go_wp2
        refine bodyPost_ret (results_e2 rfl _ _ w.heap.size _ _ _ _ _ _ _ _ rfl HFz.out) rfl ?_
        rw [HQ.out]
        exact ⟨⟨_, rfl, ev_zero _ _⟩, HBz.out⟩
      · have HQ := Lib.hid (show ParseP s.data.toList = (E, 0) by rw [HP2.out, ← HNn.out, if_neg (by simp), if_neg hu])
        have hub : decide ((u : Int) < (n : Int)) = false := decide_eq_false (by omega)
        have hui : ¬ (u : Int) < (n : Int) := by omega
        go_wp2
        refine bodyPost_ret (results_e2 rfl _ _ w.heap.size _ _ _ _ _ _ _ _ rfl HFin.out) rfl ?_
        rw [HQ.out]
        exact ⟨⟨_, rfl, sa, sc, rfl, HRg.out, HEf.out.mono (fun b hb _ => by omega)⟩, HBf.out⟩
    · have HQ := Lib.hid (show ParseP s.data.toList = (zET, c) by rw [HP2.out, if_pos hc])
      have hcb : (c != 0) = true := bne_iff_ne.2 hc
      clear hc
      go_wp2
      refine bodyPost_ret (results_e2 rfl _ _ w.heap.size _ _ _ _ _ _ _ _ rfl HFz.out) rfl ?_
      rw [HQ.out]
      exact ⟨⟨_, rfl, ev_zero _ _⟩, HBz.out⟩
end Go.Proofs.YtpinalpigefenaaGreatDoor
namespace Go.Proofs.YtpinalpigefenaaGreatDoor
open Go.RowKit
set_option linter.unusedVariables false
set_option linter.unusedSimpArgs false
set_option maxRecDepth 100000
def awW : List Wd := [(1, [97], 0), (4, [43], 0), (2, [49], 1)]
theorem aw_words : wordsA (⟨#[97, 32, 43, 32, 49]⟩ : ByteArray).data.toList = .ok awW := by rfl
theorem aw_take : (TakeP nmB awW).2 = (3, 0) ∧ (TakeP nmB awW).1.kind = 4 ∧ (TakeP nmB awW).1.op = ⟨#[43]⟩ ∧ (TakeP nmB awW).1.parts.length = 2 := by
  decide +kernel
theorem aw_parse : ∃ E, ParseP (⟨#[97, 32, 43, 32, 49]⟩ : ByteArray).data.toList = (E, 0) ∧ E.kind = 4 ∧ E.op = ⟨#[43]⟩ ∧ E.parts.length = 2 := by
  obtain ⟨h0, h1, h2, h3⟩ := aw_take
  refine ⟨(TakeP nmB awW).1, ?_, h1, h2, h3⟩
  unfold ParseP
  rw [aw_words]
  show (if (TakeP nmB awW).2.2 ≠ 0 then _ else _) = _
  rw [h0]
  rfl
set_option maxHeartbeats 6400000 in
theorem awake06 (w : World) (hv : VOk w) (hN : gMax < w.heap.size ∧ gErr < w.heap.size) :
    Calls Tryz.prog 9 #[] w fun e w' => e = .returned (.bool true) ∧ Below w.heap.size w w' := by
  obtain ⟨E, hE, hk, ho, hl⟩ := aw_parse
  have HP := Lib.hid (parse_any ⟨#[97, 32, 43, 32, 49]⟩ w hv hN (by decide))
  rw [hE] at HP
  have HK := Lib.hid hk
  have HO := Lib.hid ho
  have HL := Lib.hid hl
  clear hv hE hk ho hl
  go_enter Tryz.func9, Tryz.ntmps9
  go_wp2_with fail
  refine HP.out.mono ?_
  rintro e w1 ⟨⟨ev, rfl, sa, sc, rfl, hrg, hel⟩, hb⟩
  rw [etX_arr, HK.out, HO.out, HL.out]
  have HB := Lib.hid hb
  clear hrg hel hb
  go_upto_region 2 with (fail)
  have hx := Go.heap_alloc_new w1 (.cells #[.int .i64 4, .string ⟨#[43]⟩, .int .i64 E.vk, .int .i64 E.vn, .string E.vs, .string E.tab, .string E.col, .slice sa 2 sc] 34 (0, 0))
  have HB2 := Lib.hid (bt HB.out (bel0 (.cells #[.int .i64 4, .string ⟨#[43]⟩, .int .i64 E.vk, .int .i64 E.vn, .string E.vs, .string E.tab, .string E.col, .slice sa 2 sc] 34) (Below.refl _ _)))
  generalize w1.alloc (.cells #[.int .i64 4, .string ⟨#[43]⟩, .int .i64 E.vk, .int .i64 E.vn, .string E.vs, .string E.tab, .string E.col, .slice sa 2 sc] 34) = w2 at *
  obtain ⟨l0, l1, l2, l3, l4, l5, l6, l7, lz, lN⟩ := row8 hx
  go_wp2
  go_ret
  exact ⟨rfl, HB2.out⟩
end Go.Proofs.YtpinalpigefenaaGreatDoor
