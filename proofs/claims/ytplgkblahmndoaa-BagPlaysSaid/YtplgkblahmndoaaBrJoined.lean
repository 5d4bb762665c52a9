/- bag.joined: how often a row is there behind a Join. -/
import Derived.Test.YtplgkblahmndoaaBwSt
import Derived.Test.YtplgkblahmndoaaBrJn
namespace Go.Proofs.Ytplgkblahmndoaa
open Go.RowKit Go.WideMaps Go.Maps Go.Sort
set_option linter.unusedVariables false
set_option maxRecDepth 100000

set_option maxHeartbeats 3200000 in
theorem bset_putJ (rv : List Val) (w : World) (D B n : Nat) (mo : Option Nat) (Dm : DataW Unit) (t : Lit → Option SlN) (L : List Ent) (hS : (strOfNums (keyVs rv)).size ≤ maxLen) (ra : Option Addr) (rl rc : Nat) (x : Int) (hx : x ≠ 0) (hr : (∀ v ∈ rv, okV v) ∧ rv.length ≤ 50) (h : BagR w D B n mo Dm t L)
    (hv : IsV w ra rl rv) (hn : ra = none → rl = 0 ∧ rc = 0) (hl : rl ≤ 1000) (hnn : n ≤ 1000000) :
    Calls Try.prog 63 #[.pointer (some ⟨D, 0, none⟩), .string (strOfNums (keyVs rv)), .slice ra rl rc, .int .i64 x] w fun e w' => e = .returned (.tuple #[]) ∧ SetPostR w D B n mo (putB L rv x) w' := by
  obtain ⟨S, hSe⟩ : ∃ S, S = strOfNums (keyVs rv) := ⟨_, rfl⟩
  have HL := Lib.hid (show litK rv = .string S.data.toList by rw [hSe]; rfl)
  have HR := Lib.hid hr
  rw [← hSe] at hS ⊢
  clear hSe hr
  have hk : keyOf Try.prog 9 (.string S) = some (.string S.data.toList) := keyOf_string_mk Try.underlying9 hS
  have hkl : WideAt.IsKeyLit (.string S.data.toList) := bstrKeyed.key hk
  have hxb : (x == 0) = false := beq_eq_false_iff_ne.2 hx
  have hmm := @run_makeMap Try.prog
  have hmn := fun (W : World) q => run_eql_map_nil (P := Try.prog) W 109 9 114 q Try.underlying109
  have h0 : w.cell? ⟨D, 0, none⟩ = some (.map mo) := cell_of_row w D 0 _ _ _ h.box
  have z0' : w.frozen? ⟨D, 0, none⟩ = false := frozen_of_row w D 0 _ _ h.box
  have H := Lib.hid h
  have HV := Lib.hid hv
  have HN := Lib.hid hn
  have HX := Lib.hid hx
  have HK := Lib.hid hk
  have HKl := Lib.hid hkl
  clear h hv hn hx hk hkl hS
  go_enter Try.func63, Try.ntmps63
  go_upto_if 19 with (fail)
  go_cut [] (fun wx => ∃ M, BagR wx D B n (some M) Dm t L ∧ Only (bagS D mo) w wx ∧ (some M = mo ∨ w.heap.size ≤ M))
  case first =>
    rcases H.out.mp with ⟨rfl, hDm⟩ | ⟨M, rfl, hBM, ho⟩
    · have hs : D < w.heap.size := Nat.lt_of_lt_of_le H.out.lt H.out.le
      go_wp2
      go_meet
      have hsz : (w.setCell ⟨D, 0, none⟩ (.map (some w.heap.size))).heap.size = w.heap.size := by simp
      have hbw : Below (w.setCell ⟨D, 0, none⟩ (.map (some w.heap.size))).heap.size (w.setCell ⟨D, 0, none⟩ (.map (some w.heap.size))) ((w.setCell ⟨D, 0, none⟩ (.map (some w.heap.size))).alloc (.map #[] 0)) := bel0 _ (Below.refl _ _)
      have hbx := Go.heap_setCell_same w D 0 _ _ (.map (some w.heap.size)) H.out.box
      refine ⟨w.heap.size, ⟨(hbw.block D (by rw [hsz]; exact hs)).trans hbx, H.out.lt, by simp; have := H.out.le; omega, H.out.bal, .inr ⟨w.heap.size, rfl, H.out.le, ?_⟩, H.out.sort, H.out.nz, H.out.okr, fun e he => ?_, H.out.all⟩, ?_, .inr (Nat.le_refl _)⟩
      · have := World.ownsMap_made (w.setCell ⟨D, 0, none⟩ (.map (some w.heap.size))) Try.prog 9 entR
        rw [hsz] at this
        rw [hDm]
        exact this.mono (Nat.zero_le _)
      · obtain ⟨y, q1, q2, q3⟩ := H.out.ent e he
        exact ⟨y, q1, q2, q3.only ((Only.refl (bagS D none) w).set (.inl rfl) _ |>.trans (Only.of (row := none) ⟨hbw.os, hbw.tape, hbw.output, hbw.size, fun i hi _ => hbw.block i hi⟩ (fun K hK => by cases hK))) (H.out.free q3)⟩
      · exact ((Only.refl (bagS D none) w).set (.inl rfl) _).trans (Only.of (row := none) ⟨hbw.os, hbw.tape, hbw.output, hbw.size, fun i hi _ => hbw.block i hi⟩ (fun K hK => by cases hK))
    · go_wp2_with fail
      go_meet
      exact ⟨M, H.out, Only.refl _ _, .inl rfl⟩
  case rest =>
    obtain ⟨M, hst, hon, hM⟩ := hcut
    have HS := Lib.hid hst
    have HOn := Lib.hid hon
    have HM := Lib.hid hM
    have HVc := Lib.hid (HV.out.sole hon H.out.soles)
    clear hst hon hM h0 z0'
    have h0 : wc.cell? ⟨D, 0, none⟩ = some (.map (some M)) := cell_of_row wc D 0 _ _ _ HS.out.box
    go_upto_region 4 with (fail)
    go_region_law (first
      | (go_simp; go_at_call 58; refine (bclone_row ra rl rc rv _ (by exact ⟨HVc.out.1, HVc.out.2.1, HVc.out.2.2⟩) HN.out hl).mono ?_; rintro e w8 ⟨x8, rfl, hra8, hlc8, hb8⟩; have HRa8 := Lib.hid hra8; clear hra8 hlc8; have hst8 := HS.out.below (w' := w8) ⟨hb8.os, hb8.tape, hb8.output, hb8.size, hb8.block⟩; have h08 : w8.cell? ⟨D, 0, none⟩ = some (.map (some M)) := cell_of_row w8 D 0 _ _ _ hst8.box; obtain ⟨w9, hr9, ho9, ht9⟩ := bag_storeR hst8 HK.out x8.1 x8.2.1 x8.2.2.1 x (by omega); have H8 := Lib.hid hst8; have HO9 := Lib.hid ho9; have HT9 := Lib.hid ht9; have HB8 := Lib.hid hb8; clear hst8 ho9 ht9 hb8))
    all_goals go_end0
    all_goals exact ⟨rfl, set_finR HS.out HOn.out HM.out ⟨HB8.out.os, HB8.out.tape, HB8.out.output, HB8.out.size, HB8.out.block⟩ (by rw [HL.out]; exact HO9.out) HT9.out (by rw [HL.out]; exact HKl.out) HX.out HR.out HRa8.out⟩
end Go.Proofs.Ytplgkblahmndoaa
namespace Go.Proofs.Ytplgkblahmndoaa
open Go.RowKit
set_option linter.unusedVariables false
set_option maxRecDepth 100000

def joinedE (r : Int) : Ending := .returned (.tuple #[.int .i64 (IntKind.i64.wrap r), .bool (decide (in64 r))])
set_option maxHeartbeats 1600000 in
theorem joined_any (n more s : Int) (w : World) (hn : in64 n) (hm : in64 more) (hs : s = 1 ∨ s = -1) : Calls Try.prog 62 #[.int .i64 n, .int .i64 more, .int .i64 s] w fun e w' => e = joinedE (n + s * more) ∧ w' = w := by
  have HN := Lib.hid hn
  have HM := Lib.hid hm
  clear hn hm
  rcases hs with rfl | rfl
  · have HE := Lib.hid (show n + 1 * more = n + more by omega)
    rw [HE.out]
    obtain ⟨x, hx⟩ : ∃ x, x = IntKind.i64.wrap (n + more) := ⟨_, rfl⟩
    obtain ⟨y, hy⟩ : ∃ y, y = decide (in64 (n + more)) := ⟨_, rfl⟩
    have HPb := Lib.hid (show Calls Try.prog 112 #[.int .i64 n, .int .i64 more] w fun e w' => e = .returned (.tuple #[.int .i64 x, .bool y]) ∧ w' = w by rw [hx, hy]; exact bplus_full n more w HN.out HM.out)
    rw [show joinedE (n + more) = .returned (.tuple #[.int .i64 x, .bool y]) by rw [hx, hy]; rfl]
    clear hx hy HE
    go_enter Try.func62, Try.ntmps62
    go_wp2_with fail
    refine HPb.out.mono ?_
    rintro e w' ⟨rfl, hw⟩
    subst hw
    go_wp2
    go_ret2
    exact ⟨rfl, rfl⟩
  · have HE := Lib.hid (show n + -1 * more = n - more by omega)
    rw [HE.out]
    by_cases h : more = -9223372036854775808
    · subst h
      have HV := Lib.hid (show Ending.returned (.tuple #[.int .i64 (IntKind.i64.wrap (n - -9223372036854775808)), .bool (decide (n < 0))]) = joinedE (n - -9223372036854775808) by
        have h1 := HN.out
        unfold in64 at h1
        have h2 : decide (n < 0) = decide (in64 (n - -9223372036854775808)) := by
          by_cases h0 : n < 0
          · rw [decide_eq_true h0, decide_eq_true (show in64 (n - -9223372036854775808) by unfold in64; omega)]
          · rw [decide_eq_false h0, decide_eq_false (show ¬ in64 (n - -9223372036854775808) by unfold in64; omega)]
        rw [h2]
        rfl)
      rw [← HV.out]
      clear HV HE HM
      go_enter Try.func62, Try.ntmps62
      go_wp2
      all_goals go_ret2
      all_goals exact ⟨by first | (simp; done) | (simp; rfl) | (simp; rw [IntKind.wrap_i64]; unfold wrap64; first | rfl | omega), rfl⟩
    · have h1 : (more == -9223372036854775808) = false := beq_eq_false_iff_ne.2 h
      have h2 : IntKind.i64.wrap (-more) = -more := by rw [IntKind.wrap_i64]; have := HM.out; unfold in64 at this; omega
      have HM2 := Lib.hid (show in64 (-more) by have := HM.out; unfold in64 at *; omega)
      have HS := Lib.hid (show n - more = n + -more by omega)
      rw [HS.out]
      obtain ⟨x, hx⟩ : ∃ x, x = IntKind.i64.wrap (n + -more) := ⟨_, rfl⟩
      obtain ⟨y, hy⟩ : ∃ y, y = decide (in64 (n + -more)) := ⟨_, rfl⟩
      have HPb := Lib.hid (show Calls Try.prog 112 #[.int .i64 n, .int .i64 (-more)] w fun e w' => e = .returned (.tuple #[.int .i64 x, .bool y]) ∧ w' = w by rw [hx, hy]; exact bplus_full n (-more) w HN.out HM2.out)
      rw [show joinedE (n + -more) = .returned (.tuple #[.int .i64 x, .bool y]) by rw [hx, hy]; rfl]
      clear HE HM h hx hy HS
      go_enter Try.func62, Try.ntmps62
      go_wp2_with fail
      first
        | refine HPb.out.mono ?_
        | (rw [h2]; refine HPb.out.mono ?_)
      rintro e w' ⟨rfl, hw⟩
      subst hw
      go_wp2
      go_ret2
      exact ⟨rfl, rfl⟩
end Go.Proofs.Ytplgkblahmndoaa
