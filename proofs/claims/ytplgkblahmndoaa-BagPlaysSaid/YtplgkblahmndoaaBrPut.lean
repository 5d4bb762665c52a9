/- A bag's set of a row that is there so many times. -/
import Derived.Test.YtplgkblahmndoaaBrRow
namespace Go.Proofs.Ytplgkblahmndoaa
open Go.RowKit Go.WideMaps Go.Maps Go.Sort
set_option linter.unusedVariables false
set_option maxRecDepth 100000

open Classical in
/-- a row is there now -/
theorem BagR.got {w w' : World} {D B n : Nat} {mo mo' : Option Nat} {Dm Dm' : DataW Unit} {t t' : Lit → Option SlN} {L : List Ent} (h : BagR w D B n mo Dm t L) (r : List Val) (s : Int) (hs : s ≠ 0) (hr : (∀ v ∈ r, okV v) ∧ r.length ≤ 50) (x : SlN) (hx : x.2.2.2 = s) (hra : RowAt w' B x r)
    (ho : Only (bagS D mo) w w') (hbox : w'.heap[D]? = some (.cells #[.map mo'] 111 (0, 0)))
    (hbal : BalR Dm' t') (ht : ∀ y, t' y = if y = litK r then some x else t y) (hmp : ∃ M, mo' = some M ∧ B ≤ M ∧ w'.ownsMap Try.prog 9 entR M (n + 1) Dm') : BagR w' D B (n + 1) mo' Dm' t' (putB L r s) := by
  have hm := mem_put h.sort r s
  refine ⟨hbox, h.lt, Nat.le_trans h.le ho.size, hbal, .inr hmp, putB_sort h.sort r s, fun e he => ?_, fun e he => ?_, fun e he => ?_, fun k y hk => ?_⟩
  · rcases (hm e).1 he with ⟨_, rfl⟩ | ⟨h1, _⟩
    · exact hs
    · exact h.nz e h1
  · rcases (hm e).1 he with ⟨_, rfl⟩ | ⟨h1, _⟩
    · exact hr
    · exact h.okr e h1
  · rcases (hm e).1 he with ⟨_, rfl⟩ | ⟨h1, h2⟩
    · exact ⟨x, by rw [ht, if_pos rfl], hx, hra⟩
    · obtain ⟨y, q1, q2, q3⟩ := h.ent e h1
      refine ⟨y, ?_, q2, q3.only ho (h.free q3)⟩
      rw [ht, if_neg (fun hk => h2 (litK_inj hk))]
      exact q1
  · rw [ht] at hk
    split at hk
    · rename_i e
      exact ⟨(r, s), (hm _).2 (.inl ⟨hs, rfl⟩), e⟩
    · rename_i hne
      obtain ⟨e, he, rfl⟩ := h.all k y hk
      exact ⟨e, (hm e).2 (.inr ⟨he, fun hk => hne (by unfold litK; rw [show keyVs e.1 = keyVs r from hk])⟩), rfl⟩
theorem bag_storeR {w8 : World} {D B n M : Nat} {Dm : DataW Unit} {t : Lit → Option SlN} {L : List Ent} (h : BagR w8 D B n (some M) Dm t L) {S : ByteArray} {kl : Lit} (hk : keyOf Try.prog 9 (.string S) = some kl) (b : Option (Nat × Nat)) (l c : Nat) (x : Int) (hn : n ≤ 1000000) :
    ∃ w9, (Instr.mapUpdate 109 (.map (some M)) (.string S) (.agg #[.slice (adA b) l c, .int .i64 x])).run Try.prog w8 = .ok () w9 ∧ w9.ownsMap Try.prog 9 entR M (n + 1) (Dm.put kl (slD (b, l, c, x))) ∧ w8.mapTurned w9 M := by
  rcases h.mp with ⟨e, _⟩ | ⟨M', e, _, ho⟩
  · cases e
  · cases e
    exact ho.store bstrKeyed Try.underlying109 (by unfold maxLen; omega) hk (entR_mk (b, l, c, x))
theorem BagR.lift {w w' : World} {D B n : Nat} {mo : Option Nat} {Dm : DataW Unit} {t : Lit → Option SlN} {L : List Ent} (h : BagR w D B n mo Dm t L) (ho : Only (bagS D mo) w w') {W : Nat} (hW : W ≤ D) (hB : W ≤ B) (hs : W ≤ w.heap.size) : Below W w w' := by
  refine ⟨ho.os, ho.tape, ho.output, ho.size, fun i hi => ho.block i (Nat.lt_of_lt_of_le hi hs) (fun hS => ?_)⟩
  rcases hS with e | e
  · omega
  · rcases h.mp with ⟨e0, _⟩ | ⟨M, e0, b, _⟩
    · rw [e] at e0; cases e0
    · rw [e] at e0; cases e0; omega
open Classical in
theorem set_finR {w wc w8 w9 : World} {D B n M : Nat} {mo : Option Nat} {Dm : DataW Unit} {t : Lit → Option SlN} {L : List Ent} {r : List Val} {x8 : SlN} {x : Int} (hS : BagR wc D B n (some M) Dm t L) (hon : Only (bagS D mo) w wc) (hM : some M = mo ∨ w.heap.size ≤ M) (hb8 : Below wc.heap.size wc w8)
    (ho9 : w9.ownsMap Try.prog 9 entR M (n + 1) (Dm.put (litK r) (slD (x8.1, x8.2.1, x8.2.2.1, x)))) (ht9 : w8.mapTurned w9 M) (hkl : WideAt.IsKeyLit (litK r)) (hx : x ≠ 0) (hr : (∀ v ∈ r, okV v) ∧ r.length ≤ 50) {C : Nat} (hra : RowAt w8 C x8 r) (hC : wc.heap.size ≤ C := by exact Nat.le_refl _) : SetPostR w D B n mo (putB L r x) w9 := by
  have hg := ht9.grown
  have hDM : D ≠ M := fun e => by
    rcases hS.mp with ⟨e0, _⟩ | ⟨M', e0, _, ho⟩
    · cases e0
    · cases e0
      subst e
      exact ownsMap_cells ho hS.box
  have hMc : B ≤ M ∧ M < wc.heap.size := by
    rcases hS.mp with ⟨e0, _⟩ | ⟨M', e0, hb, ho⟩
    · cases e0
    · cases e0
      exact ⟨hb, ho.lt⟩
  have hDc := (Array.getElem?_eq_some_iff.1 hS.box).1
  have hoc : Only (bagS D (some M)) wc w9 := ⟨hg.os.trans hb8.os, hg.tape.trans hb8.tape, hg.output.trans hb8.output, Nat.le_trans hb8.size hg.size, fun i hi hn => (hg.block i (Nat.lt_of_lt_of_le hi hb8.size) (fun e => hn (.inr e.symm))).trans (hb8.block i hi)⟩
  have hrow : RowAt w9 B (x8.1, x8.2.1, x8.2.2.1, x) r := by
    obtain ⟨q1, q2, q3⟩ := hra
    have hq : RowAt w8 B (x8.1, x8.2.1, x8.2.2.1, x) r := ⟨q1, q2, fun b o e => ⟨by have := (q3 b o e).1; have := hS.le; omega, (q3 b o e).2⟩⟩
    exact hq.only (Only.of hg (fun K hK => hK)) (fun b o e _ hb => by
      have := (q3 b o e).1
      have hb := Option.some.inj hb
      omega)
  refine ⟨some M, _, fun y => if y = litK r then some (x8.1, x8.2.1, x8.2.2.1, x) else t y, hS.got r x hx hr (x8.1, x8.2.1, x8.2.2.1, x) rfl hrow hoc ?_ (hS.bal.put hkl _) (fun y => rfl) ⟨M, rfl, hMc.1, ho9⟩, ⟨hoc.os.trans hon.os, hoc.tape.trans hon.tape, hoc.output.trans hon.output, Nat.le_trans hon.size hoc.size, fun i hi hn => ?_⟩, ?_⟩
  · exact (hg.block D (Nat.lt_of_lt_of_le hDc hb8.size) (fun e => hDM (Option.some.inj e))).trans ((hb8.block D hDc).trans hS.box)
  · have hiM : i ≠ M := fun e => by
      rcases hM with h | h
      · exact hn (.inr (by rw [← h, e]))
      · omega
    have hic := Nat.lt_of_lt_of_le hi hon.size
    exact (hg.block i (Nat.lt_of_lt_of_le hic hb8.size) (fun e => hiM (Option.some.inj e))).trans ((hb8.block i hic).trans (hon.block i hi hn))
  · rcases hM with h | h
    · exact .inl h
    · exact .inr ⟨M, rfl, h⟩
set_option maxHeartbeats 3200000 in
theorem bset_putR (rv : List Val) (W0 w : World) (D B n : Nat) (mo : Option Nat) (Dm : DataW Unit) (t : Lit → Option SlN) (L : List Ent) (hS : (strOfNums (keyVs rv)).size ≤ maxLen) (ra : Option Addr) (rl rc : Nat) (x : Int) (hx : x ≠ 0) (hr : (∀ v ∈ rv, okV v) ∧ rv.length ≤ 50) (h : BagR w D B n mo Dm t L)
    (hv : IsV W0 ra rl rv) (hb : Below W0.heap.size W0 w) (hD : W0.heap.size ≤ D) (hn : ra = none → rl = 0 ∧ rc = 0) (hl : rl ≤ 1000) (hnn : n ≤ 1000000) :
    Calls Try.prog 63 #[.pointer (some ⟨D, 0, none⟩), .string (strOfNums (keyVs rv)), .slice ra rl rc, .int .i64 x] w fun e w' => e = .returned (.tuple #[]) ∧ SetPostR w D B n mo (putB L rv x) w' := by
  obtain ⟨S, hSe⟩ : ∃ S, S = strOfNums (keyVs rv) := ⟨_, rfl⟩
  have HL := Lib.hid (show litK rv = .string S.data.toList by rw [hSe]; rfl)
  have HR := Lib.hid hr
  rw [← hSe] at hS ⊢
  clear hSe hr
  have hk : keyOf Try.prog 9 (.string S) = some (.string S.data.toList) := keyOf_string_mk Try.underlying9 hS
  have hkl : WideAt.IsKeyLit (.string S.data.toList) := bstrKeyed.key hk
  have hxb : (x == 0) = false := beq_eq_false_iff_ne.2 hx
  have hmm := @run_makeMap Try.prog
  have hmn := fun (W : World) q => run_eql_map_nil (P := Try.prog) W 109 9 114 q Try.underlying109
  have h0 : w.cell? ⟨D, 0, none⟩ = some (.map mo) := cell_of_row w D 0 _ _ _ h.box
  have z0' : w.frozen? ⟨D, 0, none⟩ = false := frozen_of_row w D 0 _ _ h.box
  have H := Lib.hid h
  have HV := Lib.hid hv
  have HB := Lib.hid hb
  have HD := Lib.hid hD
  have HN := Lib.hid hn
  have HX := Lib.hid hx
  have HK := Lib.hid hk
  have HKl := Lib.hid hkl
  clear h hv hb hD hn hx hk hkl hS
  go_enter Try.func63, Try.ntmps63
  go_upto_if 19 with (fail)
  go_cut [] (fun wx => ∃ M, BagR wx D B n (some M) Dm t L ∧ Only (bagS D mo) w wx ∧ (some M = mo ∨ w.heap.size ≤ M))
  case first =>
    rcases H.out.mp with ⟨rfl, hDm⟩ | ⟨M, rfl, hBM, ho⟩
    · have hs : D < w.heap.size := Nat.lt_of_lt_of_le H.out.lt H.out.le
      go_wp2
      go_meet
      have hsz : (w.setCell ⟨D, 0, none⟩ (.map (some w.heap.size))).heap.size = w.heap.size := by simp
      have hbw : Below (w.setCell ⟨D, 0, none⟩ (.map (some w.heap.size))).heap.size (w.setCell ⟨D, 0, none⟩ (.map (some w.heap.size))) ((w.setCell ⟨D, 0, none⟩ (.map (some w.heap.size))).alloc (.map #[] 0)) := bel0 _ (Below.refl _ _)
      have hbx := Go.heap_setCell_same w D 0 _ _ (.map (some w.heap.size)) H.out.box
      refine ⟨w.heap.size, ⟨(hbw.block D (by rw [hsz]; exact hs)).trans hbx, H.out.lt, by simp; have := H.out.le; omega, H.out.bal, .inr ⟨w.heap.size, rfl, H.out.le, ?_⟩, H.out.sort, H.out.nz, H.out.okr, fun e he => ?_, H.out.all⟩, ?_, .inr (Nat.le_refl _)⟩
      · have := World.ownsMap_made (w.setCell ⟨D, 0, none⟩ (.map (some w.heap.size))) Try.prog 9 entR
        rw [hsz] at this
        rw [hDm]
        exact this.mono (Nat.zero_le _)
      · obtain ⟨y, q1, q2, q3⟩ := H.out.ent e he
        exact ⟨y, q1, q2, q3.only ((Only.refl (bagS D none) w).set (.inl rfl) _ |>.trans (Only.of (row := none) ⟨hbw.os, hbw.tape, hbw.output, hbw.size, fun i hi _ => hbw.block i hi⟩ (fun K hK => by cases hK))) (H.out.free q3)⟩
      · exact ((Only.refl (bagS D none) w).set (.inl rfl) _).trans (Only.of (row := none) ⟨hbw.os, hbw.tape, hbw.output, hbw.size, fun i hi _ => hbw.block i hi⟩ (fun K hK => by cases hK))
    · go_wp2_with fail
      go_meet
      exact ⟨M, H.out, Only.refl _ _, .inl rfl⟩
  case rest =>
    obtain ⟨M, hst, hon, hM⟩ := hcut
    have HS := Lib.hid hst
    have HOn := Lib.hid hon
    have HM := Lib.hid hM
    have HBc := Lib.hid (show Below W0.heap.size W0 wc from HB.out.trans (H.out.lift hon HD.out (Nat.le_trans HD.out (Nat.le_of_lt H.out.lt)) (HB.out.size)))
    clear hst hon hM h0 z0'
    have h0 : wc.cell? ⟨D, 0, none⟩ = some (.map (some M)) := cell_of_row wc D 0 _ _ _ HS.out.box
    go_upto_region 4 with (fail)
    go_region_law (first
      | (go_simp; go_at_call 58; refine (bclone_row ra rl rc rv _ (by exact HV.out.below (by exact ⟨HBc.out.os, HBc.out.tape, HBc.out.output, HBc.out.size, HBc.out.block⟩)) HN.out hl).mono ?_; rintro e w8 ⟨x8, rfl, hra8, hlc8, hb8⟩; have HRa8 := Lib.hid hra8; clear hra8 hlc8; have hst8 := HS.out.below (w' := w8) ⟨hb8.os, hb8.tape, hb8.output, hb8.size, hb8.block⟩; have h08 : w8.cell? ⟨D, 0, none⟩ = some (.map (some M)) := cell_of_row w8 D 0 _ _ _ hst8.box; obtain ⟨w9, hr9, ho9, ht9⟩ := bag_storeR hst8 HK.out x8.1 x8.2.1 x8.2.2.1 x (by omega); have H8 := Lib.hid hst8; have HO9 := Lib.hid ho9; have HT9 := Lib.hid ht9; have HB8 := Lib.hid hb8; clear hst8 ho9 ht9 hb8))
    all_goals go_end0
    all_goals exact ⟨rfl, set_finR HS.out HOn.out HM.out ⟨HB8.out.os, HB8.out.tape, HB8.out.output, HB8.out.size, HB8.out.block⟩ (by rw [HL.out]; exact HO9.out) HT9.out (by rw [HL.out]; exact HKl.out) HX.out HR.out HRa8.out⟩
end Go.Proofs.Ytplgkblahmndoaa
