/- LexerWords: the law's walk. -/
import Derived.Test.YtplgkblahmndoaaDoorLdWords
namespace Go.Proofs.YtplgkblahmndoaaDoor
open Go.RowKit Go.Lib
set_option linter.unusedVariables false
set_option maxRecDepth 100000

/-- both answers alike -/
structure Alike (w : World) (v u : Value) (c : Int) (ws : List Wd) : Prop where
  l : ∃ B, w.ownsRow B 33 3 v ws.length (wsX ws)
  m : ∃ B, w.ownsRow B 41 3 u ws.length (wsX ws)
  few : ws.length ≤ 4000
set_option maxHeartbeats 6400000 in
theorem lexerWords_walk (s : ByteArray) (w : World) (hv : VOk w) (hN : gMax < w.heap.size ∧ gErr < w.heap.size) (hs : s.size ≤ 140737488355328) :
    Calls Tryd.prog 3 #[.string s] w fun e w' => e = .returned (.bool true) ∧ Below w.heap.size w w' := by
  have HV := Lib.hid hv
  clear hv
  go_enter Tryd.func3, Tryd.ntmps3
  go_wp2_with fail
  refine (awake_all _ HV.out hN).mono ?_
  rintro e w1 ⟨rfl, hb1⟩
  have HB1 := Lib.hid hb1
  have HV1 := Lib.hid (HV.out.below HB1.out hN)
  have hN1 : gMax < w1.heap.size ∧ gErr < w1.heap.size := ⟨Nat.lt_of_lt_of_le hN.1 HB1.out.size, Nat.lt_of_lt_of_le hN.2 HB1.out.size⟩
  clear hb1
  go_wp2_with fail
  refine (words_any s _ HV1.out hN1 (by omega)).mono ?_
  rintro e w2 hp
  have hx : ∃ v c ws, e = .returned (.tuple #[v, .int .i64 c]) ∧ Below w1.heap.size w1 w2 ∧ w2.ownsRow w1.heap.size 33 3 v ws.length (wsX ws) ∧ ws.length ≤ 600 ∧ (∀ W e' W', RWordsP W (wordsA s.data.toList) e' W' → ∃ u, e' = .returned (.tuple #[u, .int .i64 c]) ∧ Below W.heap.size W W' ∧ W'.ownsRow W.heap.size 41 3 u ws.length (wsX ws)) := by
    cases hr : wordsA s.data.toList with
    | no x =>
      rw [hr] at hp
      obtain ⟨rfl, _, hb⟩ := hp
      exact ⟨_, x, [], rfl, hb, World.ownsRow_nil _ _ _ _, by simp, fun W e' W' h => ⟨_, h.1, h.2, World.ownsRow_nil _ _ _ _⟩⟩
    | ok ws =>
      rw [hr] at hp
      obtain ⟨v, rfl, ho, hb⟩ := hp
      have h6 : ws.length ≤ 600 := by
        unfold wordsA at hr
        split at hr
        · cases hr
        · exact run_most _ _ _ _ _ _ (Nat.le_refl _) hr (by simp)
      exact ⟨v, 0, ws, rfl, hb, ho, h6, fun W e' W' h => by
        obtain ⟨u, rfl, ho2, hb2⟩ := h
        exact ⟨u, rfl, hb2, ho2⟩⟩
  obtain ⟨v, c, ws, rfl, hb2, ho, h6, hr⟩ := hx
  have HB2 := Lib.hid (bt HB1.out hb2)
  have HO := Lib.hid ho
  have HR := Lib.hid hr
  clear hp hb2 ho hr
  go_wp2_with fail
  refine (rwords_any s _ hs).mono ?_
  rintro e w3 hp
  obtain ⟨u, rfl, hb3, hu⟩ := HR.out _ _ _ hp
  have HB3 := Lib.hid (bt HB2.out hb3)
  have HO3 := Lib.hid (own_below HO.out hb3)
  have HU := Lib.hid hu
  clear hp hb3 hu HR
  go_wp2_with fail
  refine (same_yes v u _ _ ws _ HO3.out HU.out (by omega)).mono ?_
  rintro e w4 ⟨rfl, hb4⟩
  have HB4 := Lib.hid (bt HB3.out hb4)
  clear hb4
  go_wp2
  go_ret
  exact ⟨rfl, HB4.out⟩
end Go.Proofs.YtplgkblahmndoaaDoor
