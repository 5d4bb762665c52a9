/- The document's first: the first rune of a text. -/
import Derived.Test.YtplgkblahmndoaaDoorLnAgain
import Derived.Test.YtplgkblahmndoaaDoorLdNamed
import Derived.Test.YtplgkblahmndoaaDoorLdPure
namespace Go.Proofs.YtplgkblahmndoaaDoor
open Go.RowKit Go.Lib
set_option linter.unusedVariables false
set_option maxRecDepth 100000

/-- the rune that it answers: none is -1 -/
def rnZ (l : Bs) : Int := if (decodeL l).1 = 65533 ∧ (decodeL l).2 < 3 then -1 else ((decodeL l).1 : Int)
theorem rnZ_let (l : Bs) : letZ (rnZ l) = letL (decodeL l).1 := by
  unfold rnZ
  split
  · rename_i h; rw [h.1]; rfl
  · rfl
theorem rnZ_dig (l : Bs) : digZ (rnZ l) = digL (decodeL l).1 := by
  unfold rnZ
  split
  · rename_i h; rw [h.1]; rfl
  · rfl
set_option maxHeartbeats 3200000 in
theorem first_any (s : ByteArray) (w : World) (h0 : 0 < s.size) (hs : s.size ≤ 4000) :
    Calls Tryd.prog 23 #[.string s] w fun e w' => e = .returned (.tuple #[.int .i32 (rnZ s.data.toList), .int .i64 ((decodeL s.data.toList).2 : Int)]) ∧ Below w.heap.size w w' := by
  have hne : s.data.toList ≠ [] := fun e => by
    have := congrArg List.length e
    rw [len_list, List.length_nil] at this
    omega
  have hdl : Utf8.decode s 0 = decodeL s.data.toList := by rw [dec_list, List.drop_zero]
  have hwd := dec_wd _ hne
  rw [len_list] at hwd
  have HZ := Lib.hid (show rnZ s.data.toList = if (decodeL s.data.toList).1 = 65533 ∧ (decodeL s.data.toList).2 < 3 then -1 else ((decodeL s.data.toList).1 : Int) from rfl)
  have HBad := Lib.hid (dec_bad s.data.toList)
  have hn0 : ∀ ty, (Instr.next (.pointer (some ⟨w.heap.size, 0, none⟩)) true ty).run Tryd.prog (w.iter s 0) = .ok (.tuple #[.bool true, .int .i64 0, .int .i32 ((decodeL s.data.toList).1 : Int)]) (w.iter s (decodeL s.data.toList).2) := fun ty => by
    have := run_next_any (P := Tryd.prog) w s 0 ty h0
    rw [hdl] at this
    simpa using this
  have hcl : (decodeL s.data.toList).1 ≤ 1114111 := Lib.decodeL_rune _
  have HB := Lib.hid (show ∀ p, Below w.heap.size w (w.iter s p) from fun p => bel0 _ (Below.refl _ _))
  obtain ⟨z, hz⟩ : ∃ z, z = rnZ s.data.toList := ⟨_, rfl⟩
  rw [← hz] at HZ ⊢
  generalize (decodeL s.data.toList).1 = c at *
  generalize (decodeL s.data.toList).2 = n at *
  have hni : (n : Int) ≤ (s.size : Int) := by omega
  have hn1 : (1 : Int) ≤ (n : Int) := by omega
  have hsi : (s.size : Int) ≤ 4000 := by omega
  clear hne hdl hz
  go_enter Tryd.func23, Tryd.ntmps23
  go_wp2_with fail
  go_loopw [4, 5] (fun a b wr => (wr = w.iter s 0 ∧ a = .int .i64 (s.size : Int) ∧ b = .int .i32 (-1)) ∨ (wr = w.iter s n ∧ a = .int .i64 (s.size : Int) ∧ b = .int .i32 (c : Int))) (fun _ _ wr => s.size - wr.iterPos w.heap.size)
  case atStart => exact .inl ⟨rfl, rfl, rfl⟩
  case round =>
    rcases hrel with ⟨rfl, rfl, rfl⟩ | ⟨rfl, rfl, rfl⟩
    · go_wp2
      go_roundw
      case rel => exact .inr ⟨trivial, rfl, rfl⟩
      case measure => simp; omega
    · by_cases hp : n < s.size
      · have hnx : ∀ ty, (Instr.next (.pointer (some ⟨w.heap.size, 0, none⟩)) true ty).run Tryd.prog (w.iter s n) = _ := fun ty => run_next_any w s n ty hp
        clear hn0
        by_cases hb : c = 65533
        · have hcb : ((c : Int) == 65533) = true := by rw [hb]; rfl
          rcases HBad.out hb with hn | hn
          · have hz : z = -1 := by rw [HZ.out, if_pos ⟨hb, by omega⟩]
            clear hb
            subst hn
            go_wp2
            go_ret2
            first | exact ⟨rfl, HB.out _⟩ | exact ⟨by rw [hz]; rfl, HB.out _⟩
          · have hn3 : decide ((n : Int) < 3) = false := decide_eq_false (by omega)
            have hz : z = (c : Int) := by rw [HZ.out, if_neg (fun h => by omega)]
            clear hb
            go_wp2
            go_ret2
            first | exact ⟨rfl, HB.out _⟩ | exact ⟨by rw [hz]; rfl, HB.out _⟩
        · have hcb : ((c : Int) == 65533) = false := beq_eq_false_iff_ne.2 (by omega)
          have hz : z = (c : Int) := by rw [HZ.out, if_neg (fun h => hb h.1)]
          clear hb
          go_wp2
          go_ret2
          first | exact ⟨rfl, HB.out _⟩ | exact ⟨by rw [hz]; rfl, HB.out _⟩
      · have hnx : ∀ ty, (Instr.next (.pointer (some ⟨w.heap.size, 0, none⟩)) true ty).run Tryd.prog (w.iter s n) = _ := fun ty => run_next_end w s n ty hp
        have hsn : s.size = n := by omega
        clear hn0
        rw [hsn] at *
        by_cases hb : c = 65533
        · have hcb : ((c : Int) == 65533) = true := by rw [hb]; rfl
          rcases HBad.out hb with hn | hn
          · have hz : z = -1 := by rw [HZ.out, if_pos ⟨hb, by omega⟩]
            clear hb
            subst hn
            go_wp2
            go_ret2
            first | exact ⟨rfl, HB.out _⟩ | exact ⟨by rw [hz]; rfl, HB.out _⟩
          · have hn3 : decide ((n : Int) < 3) = false := decide_eq_false (by omega)
            have hz : z = (c : Int) := by rw [HZ.out, if_neg (fun h => by omega)]
            clear hb
            go_wp2
            go_ret2
            first | exact ⟨rfl, HB.out _⟩ | exact ⟨by rw [hz]; rfl, HB.out _⟩
        · have hcb : ((c : Int) == 65533) = false := beq_eq_false_iff_ne.2 (by omega)
          have hz : z = (c : Int) := by rw [HZ.out, if_neg (fun h => hb h.1)]
          clear hb
          go_wp2
          go_ret2
          first | exact ⟨rfl, HB.out _⟩ | exact ⟨by rw [hz]; rfl, HB.out _⟩
end Go.Proofs.YtplgkblahmndoaaDoor
