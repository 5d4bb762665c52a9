/- A row of values that was cloned. -/
import Derived.Test.YtplgkblahmndoaaBrKeys
namespace Go.Proofs.Ytplgkblahmndoaa
open Go.RowKit Go.WideMaps Go.Maps Go.Sort
set_option linter.unusedVariables false
set_option maxRecDepth 100000

theorem litK_inj {r s : List Val} (h : litK r = litK s) : keyVs r = keyVs s := by
  unfold litK at h
  injection h with h
  refine strOfNums_inj (keyVs_range _) (keyVs_range _) ?_
  rw [ByteArray.toList_eq, ByteArray.toList_eq]
  exact h
theorem RowAt.only {S : Nat → Prop} {w w' : World} {B : Nat} {x : SlN} {r : List Val} (h : RowAt w B x r) (ho : Only S w w') (hS : ∀ b o, x.1 = some (b, o) → x.2.1 ≠ 0 → ¬ S b) : RowAt w' B x r := by
  obtain ⟨⟨h1, h2, h3⟩, h4, h5⟩ := h
  refine ⟨⟨h1, h2, ?_⟩, h4, fun b o e => ⟨(h5 b o e).1, Nat.lt_of_lt_of_le (h5 b o e).2 ho.size⟩⟩
  by_cases h0 : x.2.1 = 0
  · exact .inl h0
  rcases h3 with h3 | ⟨b, off, ha, hb, hc⟩
  · exact absurd h3 h0
  · have hx : ∃ o, x.1 = some (b, o) := by
      cases hx : x.1 with
      | none => rw [hx] at ha; cases ha
      | some p =>
        obtain ⟨p, o⟩ := p
        rw [hx] at ha
        simp only [adA, Option.some.injEq, Addr.mk.injEq, and_true] at ha
        exact ⟨o, by rw [ha.1]⟩
    obtain ⟨o, hx⟩ := hx
    have e := ho.block b hb (hS b o hx h0)
    refine .inr ⟨b, off, ha, Nat.lt_of_lt_of_le hb ho.size, fun i hi => ?_⟩
    obtain ⟨q1, q2, q3⟩ := hc i hi
    exact ⟨(World.cell?_of_block e).trans q1, (World.cell?_of_block e).trans q2, (World.cell?_of_block e).trans q3⟩
/-- a row's block is neither the bag's box nor its map -/
theorem BagR.free {w : World} {D B n : Nat} {mo : Option Nat} {Dm : DataW Unit} {t : Lit → Option SlN} {L : List Ent} (h : BagR w D B n mo Dm t L) {x : SlN} {r : List Val} (hx : RowAt w B x r) : ∀ b o, x.1 = some (b, o) → x.2.1 ≠ 0 → ¬ bagS D mo b := by
  intro b o e h0 hS
  obtain ⟨⟨_, _, h3⟩, _, h5⟩ := hx
  rcases hS with e1 | e1
  · have := (h5 b o e).1
    have := h.lt
    omega
  · rcases h3 with h3 | ⟨b', off, ha, hb, hc⟩
    · exact h0 h3
    · rw [e] at ha
      simp only [adA, Option.some.injEq, Addr.mk.injEq, and_true] at ha
      obtain ⟨rfl, rfl⟩ := ha
      rcases h.mp with ⟨e2, _⟩ | ⟨M, e2, _, ho⟩
      · rw [e2] at e1; cases e1
      · rw [e2] at e1
        have e1 := Option.some.inj e1
        subst e1
        obtain ⟨es, clk, hM, _⟩ := ho
        have q := (hc 0 (by omega)).1
        unfold World.cell? at q
        rw [hM] at q
        cases q
theorem only_of_same {S : Nat → Prop} (w : World) : Only S w w := ⟨rfl, rfl, rfl, Nat.le_refl _, fun _ _ _ => rfl⟩
/-- what set leaves -/
def SetPostR (w : World) (D B n : Nat) (mo : Option Nat) (L' : List Ent) (w' : World) : Prop :=
  ∃ mo' Dm' t', BagR w' D B (n + 1) mo' Dm' t' L' ∧ Only (bagS D mo) w w' ∧ (mo' = mo ∨ ∃ K, mo' = some K ∧ w.heap.size ≤ K)
open Classical in
/-- a row is gone -/
theorem BagR.gone {w w' : World} {D B n : Nat} {mo : Option Nat} {Dm Dm' : DataW Unit} {t t' : Lit → Option SlN} {L : List Ent} (h : BagR w D B n mo Dm t L) (r : List Val) (ho : Only (bagS D mo) w w') (hbox : w'.heap[D]? = some (.cells #[.map mo] 111 (0, 0)))
    (hbal : BalR Dm' t') (ht : ∀ y, t' y = if y = litK r then none else t y) (hmp : (mo = none ∧ Dm' = .map []) ∨ ∃ M, mo = some M ∧ B ≤ M ∧ w'.ownsMap Try.prog 9 entR M (n + 1) Dm') : BagR w' D B (n + 1) mo Dm' t' (putB L r 0) := by
  have hm := mem_put h.sort r 0
  have hin : ∀ e ∈ putB L r 0, e ∈ L ∧ kE e ≠ keyVs r := fun e he => by
    rcases (hm e).1 he with ⟨h0, _⟩ | h1
    · exact absurd rfl h0
    · exact h1
  refine ⟨hbox, h.lt, Nat.le_trans h.le ho.size, hbal, hmp, putB_sort h.sort r 0, fun e he => h.nz e (hin e he).1, fun e he => h.okr e (hin e he).1, fun e he => ?_, fun k x hk => ?_⟩
  · obtain ⟨x, h1, h2, h3⟩ := h.ent e (hin e he).1
    refine ⟨x, ?_, h2, h3.only ho (h.free h3)⟩
    rw [ht, if_neg (fun hk => (hin e he).2 (litK_inj hk))]
    exact h1
  · rw [ht] at hk
    split at hk
    · cases hk
    · rename_i hne
      obtain ⟨e, he, rfl⟩ := h.all k x hk
      exact ⟨e, (hm e).2 (.inr ⟨he, fun hk => hne (by unfold litK; rw [show keyVs e.1 = keyVs r from hk])⟩), rfl⟩
set_option maxHeartbeats 1600000 in
open Classical in
theorem bset_delR (w : World) (D B n : Nat) (mo : Option Nat) (Dm : DataW Unit) (t : Lit → Option SlN) (L : List Ent) (r : List Val) (hS : (strOfNums (keyVs r)).size ≤ maxLen) (ra : Option Addr) (rl rc : Nat) (h : BagR w D B n mo Dm t L) :
    Calls Try.prog 63 #[.pointer (some ⟨D, 0, none⟩), .string (strOfNums (keyVs r)), .slice ra rl rc, .int .i64 0] w fun e w' => e = .returned (.tuple #[]) ∧ SetPostR w D B n mo (putB L r 0) w' := by
  obtain ⟨S, hSe⟩ : ∃ S, S = strOfNums (keyVs r) := ⟨_, rfl⟩
  have HL := Lib.hid (show litK r = .string S.data.toList by rw [hSe]; rfl)
  rw [← hSe] at hS ⊢
  clear hSe
  have hk : keyOf Try.prog 9 (.string S) = some (.string S.data.toList) := keyOf_string_mk Try.underlying9 hS
  have h0 : w.cell? ⟨D, 0, none⟩ = some (.map mo) := cell_of_row w D 0 _ _ _ h.box
  have H := Lib.hid h
  rcases h.mp with ⟨rfl, hDm⟩ | ⟨M, rfl, hBM, ho⟩
  · have hd := fun ty => Maps.drop_nil (w := w) (P := Try.prog) (key := .string S) bstrKeyed Try.underlying109 hk ty
    have HK := Lib.hid hDm
    clear h hDm hk
    go_enter Try.func63, Try.ntmps63
    go_wp2
    refine bodyPost_ret (results_none rfl _ _ _) rfl ?_
    refine ⟨rfl, none, Dm, fun y => if y = litK r then none else t y, H.out.gone r (only_of_same _) H.out.box ?_ (fun y => rfl) (.inl ⟨rfl, HK.out⟩), only_of_same _, .inl rfl⟩
    refine H.out.bal.ext (fun y => ?_)
    split
    · have h1 := H.out.bal.on y
      rw [HK.out] at h1
      cases ht : t y with
      | none => rfl
      | some x => rw [ht] at h1; simp [has_eq] at h1
    · rfl
  · obtain ⟨w', hrun, hown, hturn⟩ := ho.drop bstrKeyed Try.underlying109 hk 233
    have hd : ∀ ty, (Builtin.delete_ #[109, 9] ty #[.map (some M), .string S]).run Try.prog w = .ok (.tuple #[]) w' := fun ty => by
      obtain ⟨w2, hrun2, _, _⟩ := ho.drop bstrKeyed Try.underlying109 hk ty
      exact hrun
    have HO := Lib.hid hown
    have HT := Lib.hid hturn
    have HBM := Lib.hid hBM
    have HHo := Lib.hid ho
    clear h hown hturn hrun hBM ho hk
    go_enter Try.func63, Try.ntmps63
    go_wp2
    refine bodyPost_ret (results_none rfl _ _ _) rfl ?_
    have hg := HT.out.grown
    have hon : Only (bagS D (some M)) w w' := Only.of hg (fun K hK => .inr hK)
    have hbox : w'.heap[D]? = some (.cells #[.map (some M)] 111 (0, 0)) := by
      refine (hg.block D (Array.getElem?_eq_some_iff.1 H.out.box).1 (fun e => ?_)).trans H.out.box
      have e := Option.some.inj e
      subst e
      exact ownsMap_cells HHo.out H.out.box
    refine ⟨rfl, some M, _, fun y => if y = litK r then none else t y, H.out.gone r hon hbox ?_ (fun y => rfl) (.inr ⟨M, rfl, HBM.out, HO.out.mono (Nat.le_succ n)⟩), hon, .inl rfl⟩
    rw [HL.out]
    exact H.out.bal.del _
end Go.Proofs.Ytplgkblahmndoaa
namespace Go.Proofs.Ytplgkblahmndoaa
open Go.RowKit Go.WideMaps Go.Maps Go.Sort
set_option linter.unusedVariables false
set_option maxRecDepth 100000

theorem flatX_get : ∀ (vs : List Val) (i : Nat), i < vs.length → (flatX vs)[i * 3]? = some (.int .i64 (vs.getD i noV).1) ∧ (flatX vs)[i * 3 + 1]? = some (.int .i64 (vs.getD i noV).2.1) ∧ (flatX vs)[i * 3 + 2]? = some (.string (vs.getD i noV).2.2)
  | [], i, h => by simp at h
  | v :: r, 0, h => by simp [flatX, valsX]
  | v :: r, i + 1, h => by
    obtain ⟨h1, h2, h3⟩ := flatX_get r i (by simp at h; omega)
    have e : flatX (v :: r) = valsX v ++ flatX r := by simp [flatX]
    have hl : (valsX v).length = 3 := rfl
    rw [e]
    refine ⟨?_, ?_, ?_⟩
    · rw [List.getElem?_append_right (by omega), hl, show (i + 1) * 3 - 3 = i * 3 by omega, h1]; simp
    · rw [List.getElem?_append_right (by omega), hl, show (i + 1) * 3 + 1 - 3 = i * 3 + 1 by omega, h2]; simp
    · rw [List.getElem?_append_right (by omega), hl, show (i + 1) * 3 + 2 - 3 = i * 3 + 2 by omega, h3]; simp
theorem row_of_own {w : World} {B n : Nat} {v : Value} {rv : List Val} (h : w.ownsRow B 46 3 v n (flatX rv)) : ∃ x : SlN, v = .slice (adA x.1) x.2.1 x.2.2.1 ∧ RowAt w B x rv ∧ x.2.1 ≤ x.2.2.1 := by
  obtain ⟨hl, h⟩ := h
  rw [flatX_length] at hl
  have hn : rv.length = n := by omega
  rcases h with ⟨rfl, rfl⟩ | ⟨g, cap, cur, rfl, hB, hg, h1, h2, hs, ht⟩
  · refine ⟨(none, 0, 0, 0), rfl, ⟨⟨hn, Nat.zero_le _, .inl rfl⟩, fun _ => ⟨rfl, rfl⟩, fun b o e => by cases e⟩, Nat.le_refl _⟩
  · have hlt := (Array.getElem?_eq_some_iff.1 hg).1
    unfold maxLen at h2
    refine ⟨(some (g, 0), n, cap, 0), rfl, ⟨⟨hn, by show n ≤ _; omega, .inr ⟨g, 0, rfl, hlt, fun i hi => ?_⟩⟩, fun e => (by cases e), fun b o e => ?_⟩, h1⟩
    · have hi' : i < rv.length := by rw [hn]; exact hi
      obtain ⟨q1, q2, q3⟩ := flatX_get rv i hi'
      have key : ∀ j u, j < n * 3 → (flatX rv)[j]? = some u → w.cell? ⟨g, j, none⟩ = some u := fun j u hj hu => by
        rw [cell_of_row w g j _ _ _ hg, ← Array.getElem?_toList, ← hu, ← ht, List.getElem?_take, if_pos hj]
      have hi3 : i < n := hi
      rw [Nat.zero_add]
      exact ⟨key _ _ (by omega) q1, key _ _ (by omega) q2, key _ _ (by omega) q3⟩
    · cases e
      exact ⟨hB, hlt⟩
/-- a clone is made: a row of its own that holds the same -/
def RowPostR (w : World) (rv : List Val) (e : Ending) (w' : World) : Prop := ∃ x : SlN, e = .returned (.slice (adA x.1) x.2.1 x.2.2.1) ∧ RowAt w' w.heap.size x rv ∧ x.2.1 ≤ x.2.2.1 ∧ Below w.heap.size w w'
set_option maxHeartbeats 1600000 in
theorem bclone_row (ra : Option Addr) (rl rc : Nat) (rv : List Val) (w : World) (hv : IsV w ra rl rv) (hn : ra = none → rl = 0 ∧ rc = 0) (hl : rl ≤ 1000) :
    Calls Try.prog 58 #[.slice ra rl rc] w (RowPostR w rv) := by
  have hnil := fun (W : World) => Lib.run_eql_slice_nil (P := Try.prog) W 23 46 ra rl rc 0 0 Try.underlying23
  have HLn := Lib.hid hv.1
  cases ra with
  | none =>
    obtain ⟨rfl, rfl⟩ := hn rfl
    go_enter Try.func58, Try.ntmps58
    go_wp2
    go_ret
    exact ⟨(none, 0, 0, 0), rfl, ⟨⟨HLn.out, Nat.zero_le _, .inl rfl⟩, fun _ => ⟨rfl, rfl⟩, fun b o e => by cases e⟩, Nat.le_refl _, Below.refl _ _⟩
  | some ad =>
    obtain ⟨i0, hi, hz0, hz1, hz2⟩ := info_parts info0V
    have hv' : IsV (w.alloc (.cells #[] 46)) (some ad) rl rv := hv.below (bel0 _ (Below.refl _ _))
    have HC := Lib.hid (show ∀ j u, (flatX rv)[j]? = some u → (w.alloc (.cells #[] 46)).cell? (ad.add j) = some u by
      rcases hv'.2.2 with h0 | ⟨b, off, he, _⟩
      · intro j u hu
        have := flatX_length rv
        rw [hv'.1, h0] at this
        rw [List.getElem?_eq_none (by omega)] at hu; cases hu
      · cases he
        exact flatX_cells hv')
    have HL := Lib.hid (show (flatX rv).length = rl * 3 by rw [flatX_length, hv.1])
    clear hv hv' hn
    go_enter Try.func58, Try.ntmps58
    go_wp2_with (at_builtin; refine wpList_append_own _ rfl _ _ 23 rfl w.heap.size 46 i0 (.agg #[.int .i64 0, .int .i64 0, .string ⟨#[]⟩]) 3 32 Try.underlying23 hi hz0 hz1 hz2 rfl (by decide) _ 0 [] rfl ?c0 ad rl rc (flatX rv) rfl HL.out HC.out (flatX_one rv) ?c4 ?c5 ?c6 ?_)
    case c0 => exact World.ownsRow_lit (base := w.heap.size) (e := 46) (size := 3) w #[] 0 (Nat.le_refl _) (by unfold maxLen; omega) rfl
    case c4 => unfold maxLen; omega
    case c5 => omega
    case c6 => simp
    intro v' w1 hown hgrow _
    have HO := Lib.hid (show ∃ x : SlN, v' = .slice (adA x.1) x.2.1 x.2.2.1 ∧ RowAt w1 w.heap.size x rv ∧ x.2.1 ≤ x.2.2.1 from row_of_own (by simpa using hown))
    obtain ⟨a1, l1, c1, rfl⟩ := own_slice hown
    have HB := Lib.hid ((bel0 (.cells #[] 46) (Below.refl w.heap.size w)).grown hgrow (by simp) (fun k hk => by cases hk; exact Nat.le_refl _))
    clear hown hgrow
    go_wp2
    go_ret
    obtain ⟨x, e, r1, r2⟩ := HO.out
    rw [e]
    exact ⟨x, rfl, r1, r2, HB.out⟩
end Go.Proofs.Ytplgkblahmndoaa
