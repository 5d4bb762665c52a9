/- The document's bag: Copy, SameBags. -/
import Derived.Test.YtplgkblahmndoaaBwAdd
namespace Go.Proofs.Ytplgkblahmndoaa
open Go.RowKit
set_option linter.unusedVariables false
set_option maxRecDepth 100000

def CopyPost (w : World) (S : List EntD) (e : Ending) (w' : World) : Prop := ∃ F, e = .returned (.pointer (some ⟨F, 0, none⟩)) ∧ w.heap.size ≤ F ∧ DocB w' F S ∧ Below w.heap.size w w'
/-- a new bag of the document's, of a list of the call's own -/
theorem DocB.made {w w1 : World} {S : List EntD} {n : Nat} {v : Value} (hok : OkL (S.map entOf)) (hown : w1.ownsRow w.heap.size 106 2 v n (flatE S)) (hr : ∀ x ∈ S, RowE w1 x) (hb : Below w.heap.size w w1) :
    DocB (w1.alloc (.cells #[v] 108)) w1.heap.size S ∧ Below w.heap.size w (w1.alloc (.cells #[v] 108)) ∧ w.heap.size ≤ w1.heap.size := by
  obtain ⟨a1, c1, rfl, hI1, hlc1, ha1⟩ := es_of_own hown hr
  have hb1 : Below w1.heap.size w1 (w1.alloc (.cells #[.slice a1 n c1] 108)) := bel0 _ (Below.refl _ _)
  refine ⟨⟨⟨a1, n, c1, Go.heap_alloc_new _ _, hI1.below hb1, hlc1, ?_⟩, hok⟩, bt hb hb1, hb.size⟩
  rcases ha1 with h0 | ⟨g, h0, _⟩
  · exact .inl h0
  · exact .inr ⟨g, h0⟩
set_option maxHeartbeats 1600000 in
theorem dcopy_any (w : World) (E : Nat) (S : List EntD) (h : DocB w E S) (hlen : S.length ≤ 10000) :
    Calls Try.prog 19 #[.pointer (some ⟨E, 0, none⟩)] w (CopyPost w S) := by
  obtain ⟨a, l, c, hbx, hI, hlc, hn⟩ := h.bx
  have h0 : w.cell? ⟨E, 0, none⟩ = some (.slice a l c) := cell_of_row w E 0 _ _ _ hbx
  have h1 : (w.alloc (.cells #[] 106)).cell? ⟨E, 0, none⟩ = some (.slice a l c) := ((bel0 (.cells #[] 106) (Below.refl w.heap.size w)).cell (p := ⟨E, 0, none⟩) h.lt).trans h0
  have HI := Lib.hid hI
  have HOk := Lib.hid h.ok
  have HN := Lib.hid (show a = none → l = 0 ∧ c = 0 from fun e => by
    rcases hn with ⟨_, h1, h2⟩ | ⟨g, h1⟩
    · exact ⟨h1, h2⟩
    · rw [e] at h1; cases h1)
  have hl := hI.1
  clear h hbx hI hn
  go_enter Try.func19, Try.ntmps19
  go_wp2_with (at_builtin; refine wpList_append_es _ rfl (.tmp 3) (.tmp 7) 22 106 entT_doc rfl w.heap.size (.slice (some ⟨w.heap.size, 0, none⟩) 0 0) 0 [] rfl (World.ownsRow_lit (base := w.heap.size) (e := 106) (size := 2) w #[] 0 (Nat.le_refl _) (by unfold maxLen; omega) rfl) a l c S rfl (HI.out.below (bel0 _ (Below.refl _ _))) HN.out (by omega) (by simp) ?_; intro v' w1 hown hgrow; obtain ⟨a7, l7, c7, rfl⟩ := own_slice hown)
  have hb1 : Below w.heap.size w w1 := (bel0 (.cells #[] 106) (Below.refl w.heap.size w)).grown hgrow (by simp) (fun k hk => by cases hk; exact Nat.le_refl _)
  have HM := Lib.hid (DocB.made (w := w) (w1 := w1) (v := .slice a7 l7 c7) (n := 0 + l) HOk.out (by simpa using hown) (fun x hx => (HI.out.rows x hx).below hb1) hb1)
  clear hown hgrow hb1
  go_wp2
  go_ret
  exact ⟨_, rfl, HM.out.2.2, HM.out.1, HM.out.2.1⟩
theorem take_same {A B : List Ent} {k : Nat} {x : Ent} (h : A.take k = B.take k) (ha : A[k]? = some x) (hb : B[k]? = some x) : A.take (k + 1) = B.take (k + 1) := by
  rw [take_snoc ha, take_snoc hb, h]
set_option maxHeartbeats 6400000 in
theorem dsame_any (w : World) (E F : Nat) (S T : List EntD) (h : DocB w E S) (k : DocB w F T) :
    Calls Try.prog 18 #[.pointer (some ⟨E, 0, none⟩), .pointer (some ⟨F, 0, none⟩)] w fun e w' => e = .returned (.bool (decide (S.map entOf = T.map entOf))) ∧ Below w.heap.size w w' := by
  obtain ⟨a, l, c, hbx, hI, hlc, hn⟩ := h.bx
  obtain ⟨a', l', c', kbx, kI, klc, kn⟩ := k.bx
  have h0 : w.cell? ⟨E, 0, none⟩ = some (.slice a l c) := cell_of_row w E 0 _ _ _ hbx
  have k0 : w.cell? ⟨F, 0, none⟩ = some (.slice a' l' c') := cell_of_row w F 0 _ _ _ kbx
  have HI := Lib.hid hI
  have KI := Lib.hid kI
  have HBx := Lib.hid hbx
  have KBx := Lib.hid kbx
  have HLt := Lib.hid h.lt
  have KLt := Lib.hid k.lt
  have hm := hI.2.1
  have km := kI.2.1
  have HL := Lib.hid (show (S.map entOf).length = l by rw [List.length_map]; exact hI.1)
  have KL := Lib.hid (show (T.map entOf).length = l' by rw [List.length_map]; exact kI.1)
  have HG := Lib.hid (show ∀ i, i < l → (S.map entOf)[i]? = some (entOf (S.getD i noE)) from fun i hi => map_get (by have := hI.1; omega))
  have KG := Lib.hid (show ∀ i, i < l' → (T.map entOf)[i]? = some (entOf (T.getD i noE)) from fun i hi => map_get (by have := kI.1; omega))
  obtain ⟨L, hL⟩ : ∃ L, L = S.map entOf := ⟨_, rfl⟩
  obtain ⟨M, hM⟩ : ∃ M, M = T.map entOf := ⟨_, rfl⟩
  rw [← hL] at HL HG ⊢
  rw [← hM] at KL KG ⊢
  clear h k hbx kbx hI kI hn kn hL hM hlc klc
  by_cases hll : l = l'
  · subst hll
    go_enter Try.func18, Try.ntmps18
    go_wp2_with fail
    go_quiet (fail)
    go_wp2_with fail
    go_loopw [22] (fun i wr => ∃ k : Nat, k ≤ l ∧ i = .int .i64 (k : Int) ∧ Hid (Below w.heap.size w wr ∧ L.take k = M.take k)) (fun i _ => l - (intOf i).toNat)
    case atStart => exact ⟨0, by omega, rfl, Lib.hid ⟨⟨rfl, rfl, rfl, Nat.le_refl _, fun _ _ => rfl⟩, by simp⟩⟩
    case round =>
      obtain ⟨k, hk, rfl, HK⟩ := hrel
      have hk0 : (0 : Int) ≤ (k : Int) := by omega
      by_cases hlt : k < l
      · have hki : (k : Int) < (l : Int) := by omega
        have h0 : wr.cell? ⟨E, 0, none⟩ = some (.slice a l c) := cell_of_row wr E 0 _ _ _ ((HK.out.1.block E HLt.out).trans HBx.out)
        have k0 : wr.cell? ⟨F, 0, none⟩ = some (.slice a' l c') := cell_of_row wr F 0 _ _ _ ((HK.out.1.block F KLt.out).trans KBx.out)
        rcases (HI.out.below HK.out.1).2.2 with z | ⟨b, off, rfl, hbl, hc⟩
        · omega
        rcases (KI.out.below HK.out.1).2.2 with z | ⟨b', off', rfl, hbl', hc'⟩
        · omega
        have hx := hc k hlt
        have hx' := hc' k hlt
        dsimp only at hx hx'
        have HX := Lib.hid hx
        have HX' := Lib.hid hx'
        have HGk := Lib.hid (HG.out k hlt)
        have KGk := Lib.hid (KG.out k hlt)
        have c0 := hx.c0
        have c1 := hx.c1
        have c0' := hx'.c0
        have c1' := hx'.c1
        generalize S.getD k noE = X at *
        generalize T.getD k noE = Y at *
        clear hx hx' hc hc'
        have HRW := Lib.hid (And.intro HX.out.row HX'.out.row)
        by_cases hn : X.n = Y.n
        · by_cases hr : X.rv = Y.rv
          · have HE := Lib.hid (show L.take (k + 1) = M.take (k + 1) from take_same HK.out.2 HGk.out (by rw [KGk.out]; unfold entOf; rw [hn, hr]))
            have HR2 := Lib.hid (decide_eq_true hr)
            have hnb : (X.n != Y.n) = false := by rw [bne_eq_false_iff_eq]; exact hn
            clear hn hr
            go_wp2_with fail
            go_region_held3 (fun W => W.cell? ⟨E, 0, none⟩ = some (.slice (some ⟨b, off, none⟩) l c) ∧ W.cell? ⟨F, 0, none⟩ = some (.slice (some ⟨b', off', none⟩) l c') ∧ W.cell? ⟨b, off + k * 2, none⟩ = some (.slice X.ra X.rl X.rc) ∧ W.cell? ⟨b, off + k * 2 + 1, none⟩ = some (.int .i64 X.n) ∧ W.cell? ⟨b', off' + k * 2, none⟩ = some (.slice Y.ra Y.rl Y.rc) ∧ W.cell? ⟨b', off' + k * 2 + 1, none⟩ = some (.int .i64 Y.n))
              (first | exact ⟨h0, k0, c0, c1, c0', c1'⟩ | exact hS7)
              ((go_at_call 61; refine (same_any X.ra X.rl X.rc X.rv Y.ra Y.rl Y.rc Y.rv _ (by exact HRW.out.1) (by exact HRW.out.2)).mono ?_; rintro e w7 ⟨rfl, hb7⟩; have hb8 : Below wr.heap.size wr w7 := ⟨hb7.os, hb7.tape, hb7.output, hb7.size, hb7.block⟩; have HB7 := Lib.hid hb8; have hS7 := keep6 hb8 h0 k0 c0 c1 c0' c1'; rw [HR2.out]; clear hb7 hb8))
            go_wp2
            go_roundw
            case rel => exact ⟨k + 1, by omega, by go_num, Lib.hid ⟨bt HK.out.1 HB7.out, HE.out⟩⟩
            case measure => simp [intOf]; omega
          · have HE := Lib.hid (show decide (L = M) = false from decide_eq_false (fun h => hr (by
              have h1 := HGk.out
              rw [h, KGk.out] at h1
              exact (congrArg Prod.fst (Option.some.inj h1)).symm)))
            have HR2 := Lib.hid (decide_eq_false hr)
            have hnb : (X.n != Y.n) = false := by rw [bne_eq_false_iff_eq]; exact hn
            clear hn hr
            go_wp2_with fail
            go_region_held3 (fun W => W.cell? ⟨E, 0, none⟩ = some (.slice (some ⟨b, off, none⟩) l c) ∧ W.cell? ⟨F, 0, none⟩ = some (.slice (some ⟨b', off', none⟩) l c') ∧ W.cell? ⟨b, off + k * 2, none⟩ = some (.slice X.ra X.rl X.rc) ∧ W.cell? ⟨b, off + k * 2 + 1, none⟩ = some (.int .i64 X.n) ∧ W.cell? ⟨b', off' + k * 2, none⟩ = some (.slice Y.ra Y.rl Y.rc) ∧ W.cell? ⟨b', off' + k * 2 + 1, none⟩ = some (.int .i64 Y.n))
              (first | exact ⟨h0, k0, c0, c1, c0', c1'⟩ | exact hS7)
              ((go_at_call 61; refine (same_any X.ra X.rl X.rc X.rv Y.ra Y.rl Y.rc Y.rv _ (by exact HRW.out.1) (by exact HRW.out.2)).mono ?_; rintro e w7 ⟨rfl, hb7⟩; have hb8 : Below wr.heap.size wr w7 := ⟨hb7.os, hb7.tape, hb7.output, hb7.size, hb7.block⟩; have HB7 := Lib.hid hb8; have hS7 := keep6 hb8 h0 k0 c0 c1 c0' c1'; rw [HR2.out]; clear hb7 hb8))
            go_wp2
            go_ret
            exact ⟨by rw [HE.out]; rfl, bt HK.out.1 HB7.out⟩
        · have HE := Lib.hid (show decide (L = M) = false from decide_eq_false (fun h => hn (by
            have h1 := HGk.out
            rw [h, KGk.out] at h1
            exact (congrArg Prod.snd (Option.some.inj h1)).symm)))
          have hnb : (X.n != Y.n) = true := bne_iff_ne.2 hn
          clear hn
          go_wp2_with fail
          go_quiet (fail)
          go_wp2
          go_ret
          first
            | exact ⟨by rw [HE.out]; rfl, bt HK.out.1 ⟨rfl, rfl, rfl, Nat.le_refl _, fun _ _ => rfl⟩⟩
            | exact ⟨by rw [HE.out]; rfl, HK.out.1⟩
      · obtain rfl : k = l := by omega
        have HE := Lib.hid (show decide (L = M) = true from decide_eq_true (by
          have h1 := HK.out.2
          rw [List.take_of_length_le (by rw [HL.out]; exact Nat.le_refl _), List.take_of_length_le (by rw [KL.out]; exact Nat.le_refl _)] at h1
          exact h1))
        go_wp2
        go_ret
        exact ⟨by rw [HE.out]; rfl, HK.out.1⟩
  · have hll1 : ((l : Int) != (l' : Int)) = true := bne_iff_ne.2 (by omega)
    have HR := Lib.hid (show decide (L = M) = false from decide_eq_false (fun h => hll (by rw [← HL.out, ← KL.out, h])))
    rw [HR.out]
    clear hll
    go_enter Try.func18, Try.ntmps18
    go_wp2_with fail
    go_quiet (fail)
    go_wp2
    go_ret
    exact ⟨rfl, ⟨rfl, rfl, rfl, Nat.le_refl _, fun _ _ => rfl⟩⟩
end Go.Proofs.Ytplgkblahmndoaa
