/- Contracts of record's takeText, takeValue: every slice of bytes. -/
import Derived.Test.YthgpdnbmilcgcaaZigW
import Derived.Test.YthgpdnbmilcgcaaFormW
import Derived.Test.YthgpdnbmilcgcaaRecPure
namespace Go.Proofs.Ythgpdnbmilcgcaa
open Go.RowKit
set_option linter.unusedVariables false

theorem takeR_nat {zs : List Int} (hb : ∀ z ∈ zs, 0 ≤ z ∧ z ≤ 255) : (∃ m k : Nat, takeR zs = ((m : Int), (k : Int), 0) ∧ m ≤ 18446744073709551615 ∧ 0 < k ∧ k ≤ 10 ∧ k ≤ zs.length) ∨ takeR zs = (0, 0, 2) := by
  rcases takeR_cases hb with ⟨n, k, h, h0, h1, h2, h3, h4⟩ | h
  · obtain ⟨m, rfl⟩ := Int.eq_ofNat_of_zero_le h0
    obtain ⟨j, rfl⟩ := Int.eq_ofNat_of_zero_le (show 0 ≤ k by omega)
    exact .inl ⟨m, j, h, by omega, by omega, by omega, by omega⟩
  · exact .inr h

/-- what a taking function answers: the value, how many bytes, OK; or ErrForm -/
def TvPost (w : World) (r : Option (Val × Nat)) (e : Ending) (w' : World) : Prop :=
  Below w.heap.size w w' ∧
  ((∃ v u, r = some (v, u) ∧ e = .returned (.tuple #[.agg #[.int .i64 v.1, .int .i64 v.2.1, .string v.2.2], .int .i64 (u : Int), .int .i64 0])) ∨
   (r = none ∧ ∃ v : Val, ∃ u : Nat, e = .returned (.tuple #[.agg #[.int .i64 v.1, .int .i64 v.2.1, .string v.2.2], .int .i64 (u : Int), .int .i64 2])))

set_option maxHeartbeats 800000 in
theorem takeText_any (a : Option Addr) (len cap : Nat) (zs : List Int) (w : World) (h : IsB w a len zs) (ha : ∀ x, len ≠ 0 → a = some x → x.block < w.heap.size) (hn : a = none → len = 0 ∧ cap = 0) (h1 : 1 ≤ len) (hc : len ≤ cap) :
    Calls Try.prog 30 #[.slice a len cap] w (TvPost w (takeC 2 (zs.drop 1))) := by
  have hm := h.2.1
  have hl := h.1
  have H := Lib.hid h
  have HA := Lib.hid ha
  have HN := Lib.hid hn
  have hs1 : ∀ W, (Instr.slice 22 (.slice a len cap) (some (.int .i64 1)) none none).run Try.prog W = .ok (.slice (offA a cap 1) (len - 1) (cap - 1)) W := fun W => slice_l a len cap 1 h1 .i64 W
  have HB1 : Hid (∀ W, Below w.heap.size w W → IsB W (offA a cap 1) (len - 1) (zs.drop 1)) := fun W hW => isB_off (h.below hW ha) h1 hc
  clear h ha hn
  have hbd : ∀ z ∈ zs.drop 1, 0 ≤ z ∧ z ≤ 255 := fun z hz => H.out.mem z (List.mem_of_mem_drop hz)
  generalize ha1 : offA a cap 1 = a1 at hs1 HB1
  clear ha1
  obtain ⟨l1, hl1⟩ : ∃ l1, l1 = len - 1 := ⟨_, rfl⟩
  obtain ⟨c1, hc1⟩ : ∃ c1, c1 = cap - 1 := ⟨_, rfl⟩
  rw [← hl1] at hs1 HB1
  rw [← hc1] at hs1
  have b1 := bel0 (.cells #[.int .i64 0, .int .i64 0, .string ⟨#[]⟩] 49) (Below.refl w.heap.size w)
  rcases takeR_nat hbd with ⟨m, k, ht, hm1, hk0, hk1, hk2⟩ | ht
  · rw [List.length_drop, hl] at hk2
    have HT := Lib.hid ht
    by_cases hbig : 100 < m
    · have hr : takeC 2 (zs.drop 1) = none := by
        unfold takeC
        rw [if_neg (by decide), if_neg (by decide), if_pos rfl, ht, if_pos rfl, if_neg (by omega)]
      have HR := Lib.hid hr
      have hbig' : (100 : Int) < (m : Int) := by omega
      have hs2 : ∀ W, (Instr.slice 22 (.slice a len cap) (some (.int .i64 (1 + (k : Int)))) none none).run Try.prog W = .ok (.slice (offA a cap (1 + k)) (len - (1 + k)) (cap - (1 + k))) W := fun W => by
        have := slice_l a len cap (1 + k) (by omega) .i64 W
        rwa [show ((1 + k : Nat) : Int) = 1 + (k : Int) by omega] at this
      have hBB := Lib.hid (HB1.out _ b1)
      clear ht hr hl hl1 hc1 hbig hk0
      go_enter Try.func30, Try.ntmps30
      go_wp2_with fail
      refine (take_any _ _ _ _ _ hBB.out).mono ?_
      rintro e w' ⟨rfl, rfl⟩
      rw [HT.out]
      unfold endT
      go_wp2
      refine bodyPost_ret (v := .tuple #[.agg #[.int .i64 0, .int .i64 0, .string ⟨#[]⟩], .int .i64 0, .int .i64 2]) (by simp [results, Try.results30, go_sem]) rfl ⟨?_, .inr ⟨HR.out, noV, 0, rfl⟩⟩
      repeat (first | exact Below.refl _ _ | refine Below.drew ?_ | refine bel _ ?_)
    · have hbig' : (m : Int) ≤ 100 := by omega
      obtain ⟨l2, hl2⟩ : ∃ l2, l2 = len - (1 + k) := ⟨_, rfl⟩
      obtain ⟨c2, hc2⟩ : ∃ c2, c2 = cap - (1 + k) := ⟨_, rfl⟩
      have hs2 : ∀ W, (Instr.slice 22 (.slice a len cap) (some (.int .i64 (1 + (k : Int)))) none none).run Try.prog W = .ok (.slice (offA a cap (1 + k)) l2 c2) W := fun W => by
        have := slice_l a len cap (1 + k) (by omega) .i64 W
        rwa [show ((1 + k : Nat) : Int) = 1 + (k : Int) by omega, ← hl2, ← hc2] at this
      have hdl : ((zs.drop 1).drop k).length = l2 := by rw [List.length_drop, List.length_drop, hl]; omega
      have hlu : IntKind.u64.wrap (l2 : Int) = (l2 : Int) := by rw [IntKind.wrap_u64]; omega
      have hBB := Lib.hid (HB1.out _ b1)
      by_cases hov : l2 < m
      · have hr : takeC 2 (zs.drop 1) = none := by
          unfold takeC
          rw [if_neg (by decide), if_neg (by decide), if_pos rfl, ht, if_pos rfl, if_neg]
          dsimp only
          rw [Int.toNat_natCast, hdl]
          omega
        have HR := Lib.hid hr
        have hov' : (l2 : Int) < (m : Int) := by omega
        clear ht hr hl hl1 hc1 hbig hk0 hl2 hc2 hdl hov
        go_enter Try.func30, Try.ntmps30
        go_wp2_with fail
        refine (take_any _ _ _ _ _ hBB.out).mono ?_
        rintro e w' ⟨rfl, rfl⟩
        rw [HT.out]
        unfold endT
        go_wp2
        refine bodyPost_ret (v := .tuple #[.agg #[.int .i64 0, .int .i64 0, .string ⟨#[]⟩], .int .i64 0, .int .i64 2]) (by simp [results, Try.results30, go_sem]) rfl ⟨?_, .inr ⟨HR.out, noV, 0, rfl⟩⟩
        repeat (first | exact Below.refl _ _ | refine Below.drew ?_ | refine bel _ ?_)
      · have hr : takeC 2 (zs.drop 1) = some ((2, 0, strOfNums (((zs.drop 1).drop k).take m)), 1 + k + m) := by
          unfold takeC
          rw [if_neg (by decide), if_neg (by decide), if_pos rfl, ht, if_pos rfl]
          dsimp only
          rw [Int.toNat_natCast, hdl, if_pos ⟨by omega, by omega⟩, Int.toNat_natCast]
        have HR := Lib.hid hr
        have hov' : (m : Int) ≤ (l2 : Int) := by omega
        have hi2 : ∀ W, Below w.heap.size w W → IsB W (offA a cap (1 + k)) m (((zs.drop 1).drop k).take m) := fun W hW => by
          have := isB_take (isB_off (k := 1 + k) (H.out.below hW HA.out) (by omega) hc) (k := m) (by omega)
          rwa [← List.drop_drop] at this
        have hn2 := offA_nil (k := 1 + k) HN.out
        generalize ha2 : offA a cap (1 + k) = a2 at hs2 hi2 hn2
        have hcv := str_any (cb := c2) (hi2 _ b1) (fun e => by have := hn2 e; omega)
        have hs3 : ∀ W, (Instr.slice 22 (.slice a2 l2 c2) none (some (.int .u64 (m : Int))) none).run Try.prog W = .ok (.slice a2 m c2) W := fun W => slice_h a2 l2 c2 m (by omega) .u64 W
        clear ht hr hl hl1 hc1 hbig hk0 hl2 hc2 hdl hov hi2 hn2 ha2
        generalize hS : strOfNums (((zs.drop 1).drop k).take m) = S at hcv HR
        clear hS
        go_enter Try.func30, Try.ntmps30
        go_wp2_with fail
        refine (take_any _ _ _ _ _ hBB.out).mono ?_
        rintro e w' ⟨rfl, rfl⟩
        rw [HT.out]
        unfold endT
        go_wp2
        refine bodyPost_ret (v := .tuple #[.agg #[.int .i64 2, .int .i64 0, .string S], .int .i64 ((1 + k + m : Nat) : Int), .int .i64 0]) (by simp [results, Try.results30, go_sem]) rfl ⟨?_, .inl ⟨_, _, HR.out, rfl⟩⟩
        repeat (first | exact Below.refl _ _ | refine Below.drew ?_ | refine bel _ ?_)
  · have hr : takeC 2 (zs.drop 1) = none := by
      unfold takeC
      rw [if_neg (by decide), if_neg (by decide), if_pos rfl, ht, if_neg (by decide)]
    have HR := Lib.hid hr
    have HT := Lib.hid ht
    have hBB := Lib.hid (HB1.out _ b1)
    clear ht hr hl hl1 hc1
    go_enter Try.func30, Try.ntmps30
    go_wp2_with fail
    refine (take_any _ _ _ _ _ hBB.out).mono ?_
    rintro e w' ⟨rfl, rfl⟩
    rw [HT.out]
    unfold endT
    go_wp2
    refine bodyPost_ret (v := .tuple #[.agg #[.int .i64 0, .int .i64 0, .string ⟨#[]⟩], .int .i64 0, .int .i64 2]) (by simp [results, Try.results30, go_sem]) rfl ⟨?_, .inr ⟨HR.out, noV, 0, rfl⟩⟩
    repeat (first | exact Below.refl _ _ | refine Below.drew ?_ | refine bel _ ?_)

theorem takeV_zero {zs : List Int} (h : zs.length = 0) : takeV zs = none := by rw [List.eq_nil_of_length_eq_zero h]; rfl
theorem takeV_drop {zs : List Int} (h : 1 ≤ zs.length) : takeV zs = takeC (zs.getD 0 0) (zs.drop 1) := by
  cases zs with
  | nil => simp at h
  | cons y l => rfl

set_option maxHeartbeats 800000 in
theorem takeValue_any (a : Option Addr) (len cap : Nat) (zs : List Int) (w : World) (h : IsB w a len zs) (ha : ∀ x, len ≠ 0 → a = some x → x.block < w.heap.size) (hn : a = none → len = 0 ∧ cap = 0) (hc : len ≤ cap) :
    Calls Try.prog 27 #[.slice a len cap] w (TvPost w (takeV zs)) := by
  have hm := h.2.1
  have hl := h.1
  by_cases h0 : len = 0
  · have HR := Lib.hid (takeV_zero (hl.trans h0))
    subst h0
    clear h ha hn hl
    go_enter Try.func27, Try.ntmps27
    go_wp2
    refine bodyPost_ret (v := .tuple #[.agg #[.int .i64 0, .int .i64 0, .string ⟨#[]⟩], .int .i64 0, .int .i64 2]) (by simp [results, Try.results27, go_sem]) rfl ⟨?_, .inr ⟨HR.out, noV, 0, rfl⟩⟩
    repeat (first | exact Below.refl _ _ | refine Below.drew ?_ | refine bel _ ?_)
  have h1 : 1 ≤ len := by omega
  have HR := takeV_drop (zs := zs) (by omega)
  have hp : (0 : Int) < (len : Int) := by omega
  have e0 : ((len : Int) == 0) = false := by rw [beq_eq_false_iff_ne]; omega
  have H := Lib.hid h
  have HA := Lib.hid ha
  have HN := Lib.hid hn
  have hs1 : ∀ W, (Instr.slice 22 (.slice a len cap) (some (.int .i64 1)) none none).run Try.prog W = .ok (.slice (offA a cap 1) (len - 1) (cap - 1)) W := fun W => slice_l a len cap 1 h1 .i64 W
  have b1 := bel0 (.cells #[.int .i64 0, .int .i64 0, .string ⟨#[]⟩] 49) (Below.refl w.heap.size w)
  have hBB := Lib.hid (isB_off (k := 1) (h.below b1 ha) h1 hc)
  generalize offA a cap 1 = a1 at hs1 hBB
  have hbd : ∀ z ∈ zs.drop 1, 0 ≤ z ∧ z ≤ 255 := fun z hz => H.out.mem z (List.mem_of_mem_drop hz)
  obtain ⟨_, _, hcell, hbn⟩ := h
  rcases hcell with hcell | ⟨b, off, rfl, hcell⟩
  · exact absurd hcell h0
  have hc0 := hcell 0 (by omega)
  rw [Nat.add_zero] at hc0
  obtain ⟨hx0, hx1⟩ := hbn 0
  generalize zs.getD 0 0 = y at hc0 hx0 hx1 HR
  have hlt0 : b < w.heap.size := World.block_lt_of_cell? w _ hc0
  clear hcell hbn hn ha h0
  by_cases y0 : y = 0
  · subst y0
    have HR0 := Lib.hid (HR.trans (show takeC 0 (zs.drop 1) = some (noV, 1) from rfl))
    clear HR hl
    go_enter Try.func27, Try.ntmps27
    go_wp2
    refine bodyPost_ret (v := .tuple #[.agg #[.int .i64 0, .int .i64 0, .string ⟨#[]⟩], .int .i64 1, .int .i64 0]) (by simp [results, Try.results27, go_sem]) rfl ⟨?_, .inl ⟨_, _, HR0.out, rfl⟩⟩
    repeat (first | exact Below.refl _ _ | refine Below.drew ?_ | refine bel _ ?_)
  have ey0 : (y == 0) = false := by rw [beq_eq_false_iff_ne]; exact y0
  by_cases y1 : y = 1
  · subst y1
    rcases takeR_nat hbd with ⟨m, k, ht, hm1, hk0, hk1, hk2⟩ | ht
    · have HR1 := Lib.hid (HR.trans (show takeC 1 (zs.drop 1) = some ((1, sgF (m : Int), ⟨#[]⟩), 1 + k) from by
        unfold takeC
        rw [if_neg (by decide), if_pos rfl, ht, if_pos rfl, Int.toNat_natCast]))
      have HT := Lib.hid (endS_yes ht)
      clear HR hl ht hk2
      go_enter Try.func27, Try.ntmps27
      go_wp2_with fail
      refine (takes_any _ _ _ _ _ hBB.out).mono ?_
      rintro e w' ⟨rfl, rfl⟩
      rw [HT.out]
      go_wp2
      refine bodyPost_ret (v := .tuple #[.agg #[.int .i64 1, .int .i64 (sgF m), .string ⟨#[]⟩], .int .i64 ((1 + k : Nat) : Int), .int .i64 0]) (by simp [results, Try.results27, go_sem]) rfl ⟨?_, .inl ⟨_, _, HR1.out, rfl⟩⟩
      repeat (first | exact Below.refl _ _ | refine Below.drew ?_ | refine bel _ ?_)
    · have HR1 := Lib.hid (HR.trans (show takeC 1 (zs.drop 1) = none from by
        unfold takeC
        rw [if_neg (by decide), if_pos rfl, ht, if_neg (by decide)]))
      have HT := Lib.hid (endS_no ht)
      clear HR hl ht
      go_enter Try.func27, Try.ntmps27
      go_wp2_with fail
      refine (takes_any _ _ _ _ _ hBB.out).mono ?_
      rintro e w' ⟨rfl, rfl⟩
      rw [HT.out]
      go_wp2
      refine bodyPost_ret (v := .tuple #[.agg #[.int .i64 1, .int .i64 0, .string ⟨#[]⟩], .int .i64 1, .int .i64 2]) (by simp [results, Try.results27, go_sem]) rfl ⟨?_, .inr ⟨HR1.out, (1, 0, ⟨#[]⟩), 1, rfl⟩⟩
      repeat (first | exact Below.refl _ _ | refine Below.drew ?_ | refine bel _ ?_)
  have ey1 : (y == 1) = false := by rw [beq_eq_false_iff_ne]; exact y1
  by_cases y2 : y = 2
  · subst y2
    have HRx := Lib.hid HR
    clear HR hl
    go_enter Try.func27, Try.ntmps27
    go_wp2_with fail
    refine (takeText_any _ _ _ zs _ (H.out.below b1 HA.out) (fun x hx hy => by have := HA.out x hx hy; simp; omega) HN.out h1 hc).mono ?_
    rintro e w2 ⟨hb2, hh⟩
    have HB2 := Lib.hid (bt b1 hb2)
    obtain ⟨hcw, hfw⟩ := bcell hb2
    have q0 : w2.cell? ⟨w.heap.size, 0, none⟩ = some (.int .i64 0) := by rw [hcw _ _ (by simp)]; simp
    have q1 : w2.cell? ⟨w.heap.size, 1, none⟩ = some (.int .i64 0) := by rw [hcw _ _ (by simp)]; simp
    have q2 : w2.cell? ⟨w.heap.size, 2, none⟩ = some (.string ⟨#[]⟩) := by rw [hcw _ _ (by simp)]; simp
    have f0 : w2.frozen? ⟨w.heap.size, 0, none⟩ = false := by rw [hfw _ _ (by simp)]; simp
    have f1 : w2.frozen? ⟨w.heap.size, 1, none⟩ = false := by rw [hfw _ _ (by simp)]; simp
    have f2 : w2.frozen? ⟨w.heap.size, 2, none⟩ = false := by rw [hfw _ _ (by simp)]; simp
    clear hcw hfw hb2
    rcases hh with ⟨v, u, hr, rfl⟩ | ⟨hr, v, u, rfl⟩
    · have HR2 := Lib.hid hr
      clear hr
      go_wp2
      refine bodyPost_ret (v := .tuple #[.agg #[.int .i64 v.1, .int .i64 v.2.1, .string v.2.2], .int .i64 (u : Int), .int .i64 0]) (by simp [results, Try.results27, go_sem, q0, q1, q2]) rfl ⟨?_, .inl ⟨_, _, HRx.out.trans HR2.out, rfl⟩⟩
      exact ((HB2.out.setCell (Nat.le_refl _) _).setCell (Nat.le_refl _) _).setCell (Nat.le_refl _) _
    · have HR2 := Lib.hid hr
      clear hr
      go_wp2
      refine bodyPost_ret (v := .tuple #[.agg #[.int .i64 v.1, .int .i64 v.2.1, .string v.2.2], .int .i64 (u : Int), .int .i64 2]) (by simp [results, Try.results27, go_sem, q0, q1, q2]) rfl ⟨?_, .inr ⟨HRx.out.trans HR2.out, _, _, rfl⟩⟩
      exact ((HB2.out.setCell (Nat.le_refl _) _).setCell (Nat.le_refl _) _).setCell (Nat.le_refl _) _
  · have ey2 : (y == 2) = false := by rw [beq_eq_false_iff_ne]; exact y2
    have HR1 := Lib.hid (HR.trans (show takeC y (zs.drop 1) = none from by
      unfold takeC
      rw [if_neg y0, if_neg y1, if_neg y2]))
    clear HR hl y0 y1 y2
    go_enter Try.func27, Try.ntmps27
    go_wp2
    refine bodyPost_ret (v := .tuple #[.agg #[.int .i64 0, .int .i64 0, .string ⟨#[]⟩], .int .i64 0, .int .i64 2]) (by simp [results, Try.results27, go_sem]) rfl ⟨?_, .inr ⟨HR1.out, noV, 0, rfl⟩⟩
    repeat (first | exact Below.refl _ _ | refine Below.drew ?_ | refine bel _ ?_)
end Go.Proofs.Ythgpdnbmilcgcaa
