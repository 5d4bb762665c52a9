/- The package's taker: sign, keyword, binaryLevel, leftLevel, aggregate (the word), literal, name. -/
import Derived.Test.YtafhgilikcablaaGreatDoorTkTak
import Derived.Test.YtafhgilikcablaaGreatDoorTkBuild
namespace Go.Proofs.YtafhgilikcablaaGreatDoor
open Go.RowKit
set_option linter.unusedVariables false
set_option linter.unusedSimpArgs false
set_option maxRecDepth 100000
theorem sign_any (t : Bs) (A : Nat → Prop) (N : Nat) (w : World) (wa : Option Addr) (wn wc : Nat) (ws : List Wd) (v : Value) (s : Tk) (ms : List PM) (h : TSt A N w wa wn wc ws v s ms) :
    Calls Tryz.prog 67 #[.pointer (some ⟨N, 0, none⟩), .string (bs t)] w (TakesP A N w wa wn wc ws v s ms (isW ws s.pos 4 t)) := by
  have HS := Lib.hid h
  clear h
  go_enter Tryz.func67, Tryz.ntmps67
  go_wp2_with fail
  refine (takes_any 4 t A N _ wa wn wc ws v s ms HS.out).mono ?_
  rintro e w1 ⟨rfl, hs, ht⟩
  have H1 := Lib.hid hs
  have HT := Lib.hid ht
  clear hs ht
  go_wp2
  go_ret
  exact ⟨rfl, H1.out, HT.out⟩
theorem kword_any (t : Bs) (A : Nat → Prop) (N : Nat) (w : World) (wa : Option Addr) (wn wc : Nat) (ws : List Wd) (v : Value) (s : Tk) (ms : List PM) (h : TSt A N w wa wn wc ws v s ms) :
    Calls Tryz.prog 66 #[.pointer (some ⟨N, 0, none⟩), .string (bs t)] w (TakesP A N w wa wn wc ws v s ms (isW ws s.pos 1 t)) := by
  have HS := Lib.hid h
  clear h
  go_enter Tryz.func66, Tryz.ntmps66
  go_wp2_with fail
  refine (takes_any 1 t A N _ wa wn wc ws v s ms HS.out).mono ?_
  rintro e w1 ⟨rfl, hs, ht⟩
  have H1 := Lib.hid hs
  have HT := Lib.hid ht
  clear hs ht
  go_wp2
  go_ret
  exact ⟨rfl, H1.out, HT.out⟩
set_option maxHeartbeats 3200000 in
theorem leftLevel_any (l : Int) (w : World) : Calls Tryz.prog 29 #[.int .i64 l] w fun e w' => e = .returned (.int .i64 (leftL l)) ∧ w' = w := by
  unfold leftL
  go_enter Tryz.func29, Tryz.ntmps29
  by_cases h : l = 4
  · subst h
    go_wp2
    go_ret
    exact ⟨rfl, rfl⟩
  · go_wp2
    go_ret
    exact ⟨rfl, rfl⟩
theorem lev_other {t : Bs} (h1 : t ≠ [79, 82]) (h2 : t ≠ [65, 78, 68]) (h3 : t ≠ [61]) (h4 : t ≠ [60, 62]) (h5 : t ≠ [60]) (h6 : t ≠ [60, 61]) (h7 : t ≠ [62]) (h8 : t ≠ [62, 61]) (h9 : t ≠ [43]) (h10 : t ≠ [45]) (h11 : t ≠ [42]) : levB t = 0 := by
  simp [levB, h1, h2, h3, h4, h5, h6, h7, h8, h9, h10, h11]
set_option maxHeartbeats 12800000 in
theorem binaryLevel_any (t : Bs) (w : World) : Calls Tryz.prog 36 #[.string (bs t)] w fun e w' => e = .returned (.int .i64 (levB t)) ∧ w' = w := by
  have one : ∀ (u : Bs), t = u → (∀ W : World, Calls Tryz.prog 36 #[.string ⟨u.toArray⟩] W fun e w' => e = .returned (.int .i64 (levB u)) ∧ w' = W) → Calls Tryz.prog 36 #[.string (bs t)] w fun e w' => e = .returned (.int .i64 (levB t)) ∧ w' = w := fun u hu h => by rw [hu]; exact h w
  by_cases h1 : t = [79, 82]
  · exact one _ h1 (fun W => by go_enter Tryz.func36, Tryz.ntmps36; go_wp2; go_ret; exact ⟨rfl, rfl⟩)
  by_cases h2 : t = [65, 78, 68]
  · exact one _ h2 (fun W => by go_enter Tryz.func36, Tryz.ntmps36; go_wp2; go_ret; exact ⟨rfl, rfl⟩)
  by_cases h3 : t = [61]
  · exact one _ h3 (fun W => by go_enter Tryz.func36, Tryz.ntmps36; go_wp2; go_ret; exact ⟨rfl, rfl⟩)
  by_cases h4 : t = [60, 62]
  · exact one _ h4 (fun W => by go_enter Tryz.func36, Tryz.ntmps36; go_wp2; go_ret; exact ⟨rfl, rfl⟩)
  by_cases h5 : t = [60]
  · exact one _ h5 (fun W => by go_enter Tryz.func36, Tryz.ntmps36; go_wp2; go_ret; exact ⟨rfl, rfl⟩)
  by_cases h6 : t = [60, 61]
  · exact one _ h6 (fun W => by go_enter Tryz.func36, Tryz.ntmps36; go_wp2; go_ret; exact ⟨rfl, rfl⟩)
  by_cases h7 : t = [62]
  · exact one _ h7 (fun W => by go_enter Tryz.func36, Tryz.ntmps36; go_wp2; go_ret; exact ⟨rfl, rfl⟩)
  by_cases h8 : t = [62, 61]
  · exact one _ h8 (fun W => by go_enter Tryz.func36, Tryz.ntmps36; go_wp2; go_ret; exact ⟨rfl, rfl⟩)
  by_cases h9 : t = [43]
  · exact one _ h9 (fun W => by go_enter Tryz.func36, Tryz.ntmps36; go_wp2; go_ret; exact ⟨rfl, rfl⟩)
  by_cases h10 : t = [45]
  · exact one _ h10 (fun W => by go_enter Tryz.func36, Tryz.ntmps36; go_wp2; go_ret; exact ⟨rfl, rfl⟩)
  by_cases h11 : t = [42]
  · exact one _ h11 (fun W => by go_enter Tryz.func36, Tryz.ntmps36; go_wp2; go_ret; exact ⟨rfl, rfl⟩)
  rw [lev_other h1 h2 h3 h4 h5 h6 h7 h8 h9 h10 h11]
  obtain ⟨x, hx⟩ : ∃ x, x = bs t := ⟨_, rfl⟩
  have hl : x.toList = t := by rw [hx, bs_list]
  rw [← hx]
  have e1 : (x.toList == [79, 82]) = false := by rw [hl]; simp [h1]
  have e2 : (x.toList == [65, 78, 68]) = false := by rw [hl]; simp [h2]
  have e3 : (x.toList == [61]) = false := by rw [hl]; simp [h3]
  have e4 : (x.toList == [60, 62]) = false := by rw [hl]; simp [h4]
  have e5 : (x.toList == [60]) = false := by rw [hl]; simp [h5]
  have e6 : (x.toList == [60, 61]) = false := by rw [hl]; simp [h6]
  have e7 : (x.toList == [62]) = false := by rw [hl]; simp [h7]
  have e8 : (x.toList == [62, 61]) = false := by rw [hl]; simp [h8]
  have e9 : (x.toList == [43]) = false := by rw [hl]; simp [h9]
  have e10 : (x.toList == [45]) = false := by rw [hl]; simp [h10]
  have e11 : (x.toList == [42]) = false := by rw [hl]; simp [h11]
  clear hl hx h1 h2 h3 h4 h5 h6 h7 h8 h9 h10 h11 one
  go_enter Tryz.func36, Tryz.ntmps36
  go_wp2
  go_ret
  exact ⟨rfl, rfl⟩
set_option maxHeartbeats 6400000 in
theorem aggWord_any (t : Bs) (w : World) : Calls Tryz.prog 37 #[.string (bs t)] w fun e w' => e = .returned (.bool (aggB t)) ∧ w' = w := by
  have one : ∀ (u : Bs), t = u → (∀ W : World, Calls Tryz.prog 37 #[.string ⟨u.toArray⟩] W fun e w' => e = .returned (.bool (aggB u)) ∧ w' = W) → Calls Tryz.prog 37 #[.string (bs t)] w fun e w' => e = .returned (.bool (aggB t)) ∧ w' = w := fun u hu h => by rw [hu]; exact h w
  by_cases h1 : t = [67, 79, 85, 78, 84]
  · exact one _ h1 (fun W => by go_enter Tryz.func37, Tryz.ntmps37; go_wp2; go_ret; exact ⟨rfl, rfl⟩)
  by_cases h2 : t = [83, 85, 77]
  · exact one _ h2 (fun W => by go_enter Tryz.func37, Tryz.ntmps37; go_wp2; go_ret; exact ⟨rfl, rfl⟩)
  by_cases h3 : t = [77, 73, 78]
  · exact one _ h3 (fun W => by go_enter Tryz.func37, Tryz.ntmps37; go_wp2; go_ret; exact ⟨rfl, rfl⟩)
  by_cases h4 : t = [77, 65, 88]
  · exact one _ h4 (fun W => by go_enter Tryz.func37, Tryz.ntmps37; go_wp2; go_ret; exact ⟨rfl, rfl⟩)
  rw [show aggB t = false by simp [aggB, h1, h2, h3, h4]]
  obtain ⟨x, hx⟩ : ∃ x, x = bs t := ⟨_, rfl⟩
  have hl : x.toList = t := by rw [hx, bs_list]
  rw [← hx]
  have e1 : (x.toList == [67, 79, 85, 78, 84]) = false := by rw [hl]; simp [h1]
  have e2 : (x.toList == [83, 85, 77]) = false := by rw [hl]; simp [h2]
  have e3 : (x.toList == [77, 73, 78]) = false := by rw [hl]; simp [h3]
  have e4 : (x.toList == [77, 65, 88]) = false := by rw [hl]; simp [h4]
  clear hl hx h1 h2 h3 h4 one
  go_enter Tryz.func37, Tryz.ntmps37
  go_wp2
  go_ret
  exact ⟨rfl, rfl⟩
end Go.Proofs.YtafhgilikcablaaGreatDoor
