/- A bag's set and Add, for any row. -/
import Derived.Test.YtplgkblahmndoaaBoSt
import Derived.Maps.OwnOps
namespace Go.Proofs.Ytplgkblahmndoaa
open Go.RowKit Go.WideMaps Go.Maps
set_option linter.unusedVariables false
set_option maxRecDepth 100000

/-- what a row's entry becomes -/
def SetPost (w : World) (D B n : Nat) (mo : Option Nat) (s' : Lit → Int) (w' : World) : Prop :=
  ∃ mo' Dm', BagSt w' D B (n + 1) mo' Dm' s' ∧ Only (bagS D mo) w w' ∧ (mo' = mo ∨ ∃ K, mo' = some K ∧ w.heap.size ≤ K)
theorem SetPost.same {w w' : World} {D B n : Nat} {mo : Option Nat} {Dm : DataW Unit} {s s' : Lit → Int} (h : BagSt w D B n mo Dm s) (hb : Below w.heap.size w w') (e : ∀ k, s k = s' k) : SetPost w D B n mo s' w' := by
  have h2 := (h.below hb).mono (Nat.le_succ n)
  exact ⟨mo, Dm, ⟨h2.box, h2.lt, h2.le, h2.bal.ext e, h2.mp⟩, (only_below hb).mono (fun _ => False.elim), .inl rfl⟩
theorem updS_bal {D : DataW Unit} {s : Lit → Int} (h : Bal D s) {k : Lit} (hk : WideAt.IsKeyLit k) {n : Int} (hn : n ≠ 0) : Bal (D.put k (.lit (.int .i64 n))) (updS s k n) := h.put hk hn
theorem updS_del {D : DataW Unit} {s : Lit → Int} (h : Bal D s) (k : Lit) : Bal (D.del k) (updS s k 0) := h.del k
theorem updS_none {s : Lit → Int} {k : Lit} (h : s k = 0) (x : Lit) : s x = updS s k 0 x := by
  unfold updS
  split
  · rename_i e; rw [e, h]
  · rfl

set_option maxHeartbeats 1600000 in
theorem bset_del (w : World) (D B n : Nat) (mo : Option Nat) (Dm : DataW Unit) (s : Lit → Int) (S : ByteArray) (hS : S.size ≤ maxLen) (ra : Option Addr) (rl rc : Nat) (h : BagSt w D B n mo Dm s) :
    Calls Try.prog 63 #[.pointer (some ⟨D, 0, none⟩), .string S, .slice ra rl rc, .int .i64 0] w fun e w' => e = .returned (.tuple #[]) ∧ SetPost w D B n mo (updS s (.string S.data.toList) 0) w' := by
  have hk : keyOf Try.prog 9 (.string S) = some (.string S.data.toList) := keyOf_string_mk Try.underlying9 hS
  have h0 : w.cell? ⟨D, 0, none⟩ = some (.map mo) := cell_of_row w D 0 _ _ _ h.box
  have H := Lib.hid h
  rcases h.mp with ⟨rfl, hDm⟩ | ⟨M, rfl, hBM, ho⟩
  · have hd := fun ty => Maps.drop_nil (w := w) (P := Try.prog) (key := .string S) bstrKeyed Try.underlying109 hk ty
    have HK := Lib.hid hDm
    clear h hDm hk
    go_enter Try.func63, Try.ntmps63
    go_wp2
    refine bodyPost_ret (results_none rfl _ _ _) rfl ?_
    refine ⟨rfl, SetPost.same H.out (Below.refl _ _) (updS_none ?_)⟩
    have h0 := H.out.bal.val (.string S.data.toList)
    rw [HK.out] at h0
    have e : (DataW.map [] : DataW Unit).atKey (.string S.data.toList) z0 = z0 := rfl
    rw [e] at h0
    simp only [z0] at h0
    injection h0 with h0
    injection h0 with _ h0
    exact h0.symm
  · obtain ⟨w', hrun, hown, hturn⟩ := ho.drop bstrKeyed Try.underlying109 hk 233
    have hd : ∀ ty, (Builtin.delete_ #[109, 9] ty #[.map (some M), .string S]).run Try.prog w = .ok (.tuple #[]) w' := fun ty => by
      obtain ⟨w2, hrun2, _, _⟩ := ho.drop bstrKeyed Try.underlying109 hk ty
      exact hrun
    have HO := Lib.hid hown
    have HT := Lib.hid hturn
    have HBM := Lib.hid hBM
    have HHo := Lib.hid ho
    clear h hown hturn hrun hBM ho hk
    go_enter Try.func63, Try.ntmps63
    go_wp2
    refine bodyPost_ret (results_none rfl _ _ _) rfl ?_
    have hg := HT.out.grown
    have hon : Only (bagS D (some M)) w w' := Only.of hg (fun K hK => .inr hK)
    refine ⟨rfl, some M, _, ⟨?_, H.out.lt, Nat.le_trans H.out.le hg.size, updS_del H.out.bal _, .inr ⟨M, rfl, HBM.out, HO.out.mono (Nat.le_succ n)⟩⟩, hon, .inl rfl⟩
    refine (hg.block D (Array.getElem?_eq_some_iff.1 H.out.box).1 (fun e => ?_)).trans H.out.box
    have e := Option.some.inj e
    subst e
    exact ownsMap_cells HHo.out H.out.box

theorem bag_store {w8 : World} {D B n M : Nat} {Dm : DataW Unit} {s : Lit → Int} (h : BagSt w8 D B n (some M) Dm s) {S : ByteArray} {kl : Lit} (hk : keyOf Try.prog 9 (.string S) = some kl) (a8 : Option Addr) (l8 c8 : Nat) (x : Int) (hn : n ≤ 1000000) :
    ∃ w9, (Instr.mapUpdate 109 (.map (some M)) (.string S) (.agg #[.slice a8 l8 c8, .int .i64 x])).run Try.prog w8 = .ok () w9 ∧ w9.ownsMap Try.prog 9 entN M (n + 1) (Dm.put kl (.lit (.int .i64 x))) ∧ w8.mapTurned w9 M := by
  rcases h.mp with ⟨e, _⟩ | ⟨M', e, _, ho⟩
  · cases e
  · cases e
    exact ho.store bstrKeyed Try.underlying109 (by unfold maxLen; omega) hk (entN_mk a8 l8 c8 x)
theorem set_fin {w wc w8 w9 : World} {D B n M : Nat} {mo : Option Nat} {Dm : DataW Unit} {s : Lit → Int} {kl : Lit} {x : Int} (hS : BagSt wc D B n (some M) Dm s) (hon : Only (bagS D mo) w wc) (hM : some M = mo ∨ w.heap.size ≤ M) (hb8 : Below wc.heap.size wc w8)
    (ho9 : w9.ownsMap Try.prog 9 entN M (n + 1) (Dm.put kl (.lit (.int .i64 x)))) (ht9 : w8.mapTurned w9 M) (hkl : WideAt.IsKeyLit kl) (hx : x ≠ 0) : SetPost w D B n mo (updS s kl x) w9 := by
  have hg := ht9.grown
  have hDM : D ≠ M := fun e => by
    rcases hS.mp with ⟨e0, _⟩ | ⟨M', e0, _, ho⟩
    · cases e0
    · cases e0
      subst e
      exact ownsMap_cells ho hS.box
  have hDc := (Array.getElem?_eq_some_iff.1 hS.box).1
  refine ⟨some M, _, ⟨?_, hS.lt, Nat.le_trans hS.le (Nat.le_trans hb8.size hg.size), updS_bal hS.bal hkl hx, .inr ⟨M, rfl, ?_, ho9⟩⟩, ⟨hg.os.trans (hb8.os.trans hon.os), hg.tape.trans (hb8.tape.trans hon.tape), hg.output.trans (hb8.output.trans hon.output), Nat.le_trans hon.size (Nat.le_trans hb8.size hg.size), fun i hi hn => ?_⟩, ?_⟩
  · exact (hg.block D (Nat.lt_of_lt_of_le hDc hb8.size) (fun e => hDM (Option.some.inj e))).trans ((hb8.block D hDc).trans hS.box)
  · rcases hS.mp with ⟨e0, _⟩ | ⟨M', e0, hb, _⟩
    · cases e0
    · cases e0; exact hb
  · have hiM : i ≠ M := fun e => by
      rcases hM with h | h
      · exact hn (.inr (by rw [← h, e]))
      · omega
    have hic := Nat.lt_of_lt_of_le hi hon.size
    exact (hg.block i (Nat.lt_of_lt_of_le hic hb8.size) (fun e => hiM (Option.some.inj e))).trans ((hb8.block i hic).trans (hon.block i hi hn))
  · rcases hM with h | h
    · exact .inl h
    · exact .inr ⟨M, rfl, h⟩
set_option maxHeartbeats 3200000 in
theorem bset_put (W0 w : World) (D B n : Nat) (mo : Option Nat) (Dm : DataW Unit) (s : Lit → Int) (S : ByteArray) (hS : S.size ≤ maxLen) (ra : Option Addr) (rl rc : Nat) (rv : List Val) (x : Int) (hx : x ≠ 0) (h : BagSt w D B n mo Dm s)
    (hv : IsV W0 ra rl rv) (hb : Below W0.heap.size W0 w) (hD : W0.heap.size ≤ D) (hn : ra = none → rl = 0 ∧ rc = 0) (hl : rl ≤ 1000) (hnn : n ≤ 1000000) :
    Calls Try.prog 63 #[.pointer (some ⟨D, 0, none⟩), .string S, .slice ra rl rc, .int .i64 x] w fun e w' => e = .returned (.tuple #[]) ∧ SetPost w D B n mo (updS s (.string S.data.toList) x) w' := by
  have hk : keyOf Try.prog 9 (.string S) = some (.string S.data.toList) := keyOf_string_mk Try.underlying9 hS
  have hkl : WideAt.IsKeyLit (.string S.data.toList) := bstrKeyed.key hk
  have hxb : (x == 0) = false := beq_eq_false_iff_ne.2 hx
  have hmm := @run_makeMap Try.prog
  have hmn := fun (W : World) q => run_eql_map_nil (P := Try.prog) W 109 9 114 q Try.underlying109
  have h0 : w.cell? ⟨D, 0, none⟩ = some (.map mo) := cell_of_row w D 0 _ _ _ h.box
  have z0' : w.frozen? ⟨D, 0, none⟩ = false := frozen_of_row w D 0 _ _ h.box
  have H := Lib.hid h
  have HV := Lib.hid hv
  have HB := Lib.hid hb
  have HD := Lib.hid hD
  have HN := Lib.hid hn
  have HX := Lib.hid hx
  have HK := Lib.hid hk
  have HKl := Lib.hid hkl
  clear h hv hb hD hn hx hk hkl hS
  go_enter Try.func63, Try.ntmps63
  go_upto_if 19 with (fail)
  go_cut [] (fun wx => ∃ M, BagSt wx D B n (some M) Dm s ∧ Only (bagS D mo) w wx ∧ (some M = mo ∨ w.heap.size ≤ M))
  case first =>
    rcases H.out.mp with ⟨rfl, hDm⟩ | ⟨M, rfl, hBM, ho⟩
    · have hs : D < w.heap.size := Nat.lt_of_lt_of_le H.out.lt H.out.le
      go_wp2
      go_meet
      have hsz : (w.setCell ⟨D, 0, none⟩ (.map (some w.heap.size))).heap.size = w.heap.size := by simp
      have hbw : Below (w.setCell ⟨D, 0, none⟩ (.map (some w.heap.size))).heap.size (w.setCell ⟨D, 0, none⟩ (.map (some w.heap.size))) ((w.setCell ⟨D, 0, none⟩ (.map (some w.heap.size))).alloc (.map #[] 0)) := bel0 _ (Below.refl _ _)
      have hbx := Go.heap_setCell_same w D 0 _ _ (.map (some w.heap.size)) H.out.box
      refine ⟨w.heap.size, ⟨(hbw.block D (by rw [hsz]; exact hs)).trans hbx, H.out.lt, by simp; have := H.out.le; omega, H.out.bal, .inr ⟨w.heap.size, rfl, H.out.le, ?_⟩⟩, ?_, .inr (Nat.le_refl _)⟩
      · have := World.ownsMap_made (w.setCell ⟨D, 0, none⟩ (.map (some w.heap.size))) Try.prog 9 entN
        rw [hsz] at this
        rw [hDm]
        exact this.mono (Nat.zero_le _)
      · exact ((Only.refl (bagS D none) w).set (.inl rfl) _).trans (Only.of (row := none) ⟨hbw.os, hbw.tape, hbw.output, hbw.size, fun i hi _ => hbw.block i hi⟩ (fun K hK => by cases hK))
    · go_wp2_with fail
      go_meet
      exact ⟨M, H.out, Only.refl _ _, .inl rfl⟩
  case rest =>
    obtain ⟨M, hst, hon, hM⟩ := hcut
    have HS := Lib.hid hst
    have HOn := Lib.hid hon
    have HM := Lib.hid hM
    have HBc := Lib.hid (show Below W0.heap.size W0 wc from HB.out.trans (H.out.lift hon HD.out (Nat.le_trans HD.out (Nat.le_of_lt H.out.lt)) (HB.out.size)))
    clear hst hon hM h0 z0'
    have h0 : wc.cell? ⟨D, 0, none⟩ = some (.map (some M)) := cell_of_row wc D 0 _ _ _ HS.out.box
    go_upto_region 4 with (fail)
    go_region_law (first
      | (go_simp; go_at_call 58; refine (bclone_any ra rl rc rv _ (by exact HV.out.below (by exact ⟨HBc.out.os, HBc.out.tape, HBc.out.output, HBc.out.size, HBc.out.block⟩)) HN.out hl).mono ?_; rintro e w8 ⟨a8, l8, c8, rfl, hb8⟩; have hst8 := HS.out.below (w' := w8) ⟨hb8.os, hb8.tape, hb8.output, hb8.size, hb8.block⟩; have h08 : w8.cell? ⟨D, 0, none⟩ = some (.map (some M)) := cell_of_row w8 D 0 _ _ _ hst8.box; obtain ⟨w9, hr9, ho9, ht9⟩ := bag_store hst8 HK.out a8 l8 c8 x (by omega); have H8 := Lib.hid hst8; have HO9 := Lib.hid ho9; have HT9 := Lib.hid ht9; have HB8 := Lib.hid hb8; clear hst8 ho9 ht9 hb8))
    all_goals go_end0
    all_goals exact ⟨rfl, set_fin HS.out HOn.out HM.out ⟨HB8.out.os, HB8.out.tape, HB8.out.output, HB8.out.size, HB8.out.block⟩ HO9.out HT9.out HKl.out HX.out⟩
/-- a row's key, as a map has it -/
def keyL (vs : List Val) : Option Lit := if allF vs = true then some (.string (strOfNums (keyVs vs)).data.toList) else none
/-- what is added to what is there -/
noncomputable def addS (s : Lit → Int) (k : Option Lit) (x : Int) : Lit → Int := match k with
  | none => s
  | some kl => updS s kl (s kl + x)
/-- what Add leaves -/
def AddPost (w : World) (D B n : Nat) (mo : Option Nat) (s' : Lit → Int) (e : Ending) (w' : World) : Prop := (∃ c : Int, e = .returned (.int .i64 c)) ∧ SetPost w D B n mo s' w'
theorem SetPost.later {w w1 w' : World} {D B n : Nat} {mo : Option Nat} {s' : Lit → Int} (hb : Below w.heap.size w w1) (h : SetPost w1 D B n mo s' w') : SetPost w D B n mo s' w' := by
  obtain ⟨mo', Dm', h1, h2, h3⟩ := h
  exact ⟨mo', Dm', h1, ((only_below hb).mono (fun _ => False.elim)).trans h2, h3.imp id (fun ⟨K, e, h⟩ => ⟨K, e, Nat.le_trans hb.size h⟩)⟩

set_option maxHeartbeats 3200000 in
theorem badd_any (W0 w : World) (D B n : Nat) (mo : Option Nat) (Dm : DataW Unit) (s : Lit → Int) (ra : Option Addr) (rl rc : Nat) (rv : List Val) (x : Int) (h : BagSt w D B n mo Dm s) (hx : -1000000000000 ≤ x ∧ x ≤ 1000000000000) (hs : ∀ k, -1000000000000 ≤ s k ∧ s k ≤ 1000000000000)
    (hv : IsV W0 ra rl rv) (hr : ∀ v ∈ rv, -9223372036854775808 ≤ v.2.1 ∧ v.2.1 ≤ 9223372036854775807) (hb : Below W0.heap.size W0 w) (hD : W0.heap.size ≤ D) (hn : ra = none → rl = 0 ∧ rc = 0) (hl : rl ≤ 1000) (hnn : n ≤ 1000000) :
    Calls Try.prog 51 #[.pointer (some ⟨D, 0, none⟩), .slice ra rl rc, .int .i64 x] w (AddPost w D B n mo (addS s (keyL rv) x)) := by
  have H := Lib.hid h
  have HV := Lib.hid hv
  have HB := Lib.hid hb
  have HD := Lib.hid hD
  have HN := Lib.hid hn
  have HX := Lib.hid hx
  have HS := Lib.hid hs
  have HR := Lib.hid hr
  clear h hv hb hD hn hx hs hr
  cases hf : allF rv with
  | false =>
    have HF := Lib.hid hf
    clear hf
    go_enter Try.func51, Try.ntmps51
    go_wp2_with fail
    refine (key_bad ra rl rc rv _ (by exact HV.out.below HB.out) HF.out).mono ?_
    rintro e w1 ⟨rfl, hb1⟩
    have HB1 := Lib.hid hb1
    clear hb1
    go_wp2
    go_ret
    refine ⟨⟨_, rfl⟩, SetPost.same H.out HB1.out (fun k => ?_)⟩
    unfold addS keyL
    rw [if_neg (by rw [HF.out]; simp)]
  | true =>
    have HF := Lib.hid hf
    clear hf
    go_enter Try.func51, Try.ntmps51
    go_wp2_with fail
    refine (key_good ra rl rc rv _ (by exact HV.out.below HB.out) (allF_ok HF.out HR.out) hl).mono ?_
    rintro e w1 ⟨v, rfl, hown, hb1⟩
    obtain ⟨ka, kL, kc, rfl, eL, iK, lK, nK, eC, eB⟩ := own_any hown (keyVs_range _)
    have HB1 := Lib.hid hb1
    have HB01 := Lib.hid (HB.out.trans (hb1.mono HB.out.size))
    have hst1 := H.out.below hb1
    have h0 : w1.cell? ⟨D, 0, none⟩ = some (.map mo) := cell_of_row w1 D 0 _ _ _ hst1.box
    have hSz : (strOfNums (keyVs rv)).size ≤ maxLen := by
      rw [numBytes_size]
      have h1 := keyVs_len (l := rv) (allF_ok HF.out HR.out)
      have h2 := HV.out.1
      unfold maxLen
      omega
    have hcv : ∀ n, (convert 81 9 (.slice ka kL kc)).run Try.prog (w1.drewN n) = .ok (.string (strOfNums (keyVs rv))) (w1.drewN n) := fun n => str_any (by exact iK) nK
    have HK := Lib.hid (show keyL rv = some (.string (strOfNums (keyVs rv)).data.toList) by unfold keyL; rw [if_pos HF.out])
    obtain ⟨q, hq⟩ : ∃ q, q = s (.string (strOfNums (keyVs rv)).data.toList) := ⟨_, rfl⟩
    obtain ⟨a1, l1, c1, hlk⟩ := hst1.looks _ hSz
    rw [← hq] at hlk
    have hfd : ∀ W, (Instr.field 114 (.agg #[.slice a1 l1 c1, .int .i64 q]) 1).run Try.prog W = .ok (.int .i64 q) W := fun W => rfl
    have hq0 : -1000000000000 ≤ q ∧ q ≤ 1000000000000 := by rw [hq]; exact HS.out _
    have HQ := Lib.hid hq
    have HQ0 := Lib.hid hq0
    have HS1 := Lib.hid hst1
    have HSz := Lib.hid hSz
    generalize strOfNums (keyVs rv) = S at *
    clear hown iK lK nK eL eC eB hq hq0 hst1 hSz hb1
    go_wp2
    go_quiet ((go_at_call 112; exact Calls.quiet_of_same (bplus_any _ _ _ HQ0.out HX.out)))
    go_wp2_with fail
    have hBn : Below W0.heap.size W0 (w1.drewN nq) := ⟨HB01.out.os, HB01.out.tape, HB01.out.output, HB01.out.size, HB01.out.block⟩
    have hset : Calls Try.prog 63 #[.pointer (some ⟨D, 0, none⟩), .string S, .slice ra rl rc, .int .i64 (q + x)] (w1.drewN nq) fun e w' => e = .returned (.tuple #[]) ∧ SetPost (w1.drewN nq) D B n mo (updS s (.string S.data.toList) (q + x)) w' := by
      by_cases h : q + x = 0
      · rw [h]; exact bset_del _ D B n mo Dm s S HSz.out ra rl rc (HS1.out.draw nq)
      · exact bset_put W0 _ D B n mo Dm s S HSz.out ra rl rc rv (q + x) h (HS1.out.draw nq) HV.out hBn HD.out HN.out hl hnn
    refine hset.mono ?_
    rintro e w2 ⟨rfl, hp⟩
    have HP := Lib.hid (show SetPost w D B n mo (addS s (keyL rv) x) w2 from by
      have h := SetPost.later (w := w) (w1 := w1.drewN nq) ⟨HB1.out.os, HB1.out.tape, HB1.out.output, HB1.out.size, HB1.out.block⟩ hp
      rw [HK.out]
      unfold addS
      rw [HQ.out] at h
      exact h)
    clear hp hset hlk hcv
    go_wp2
    go_ret
    exact ⟨⟨_, rfl⟩, HP.out⟩
end Go.Proofs.Ytplgkblahmndoaa
