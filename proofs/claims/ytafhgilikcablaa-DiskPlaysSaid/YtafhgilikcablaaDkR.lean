/- Contracts of a disk's Read (a whole file). -/
import Derived.Test.YtafhgilikcablaaDkW1
namespace Go.Proofs.Ytafhgilikcablaa
open Go.RowKit
set_option linter.unusedVariables false
set_option maxRecDepth 100000

set_option maxHeartbeats 1600000 in
theorem dread0_any (w : World) (D B : Nat) (a0 : Option Addr) (c0 : Nat) (zs : List Int) (hd : w.cell? ⟨D, 0, none⟩ = some (.slice a0 zs.length c0)) (hdn : w.cell? ⟨D, 9, none⟩ = some (.bool false))
    (ho : w.ownsRow B 5 1 (.slice a0 zs.length c0) zs.length (zs.map (Value.int .u8))) (hr : ∀ z ∈ zs, 0 ≤ z ∧ z ≤ 255) (hl : zs.length ≤ 1000000) :
    Calls Try.prog 51 #[.pointer (some ⟨D, 0, none⟩), .int .i64 0, .int .i64 0, .int .i64 (zs.length : Int)] w fun e w' => ∃ v, e = .returned (.tuple #[v, .int .i64 0]) ∧ w'.ownsRow w.heap.size 5 1 v zs.length (zs.map (Value.int .u8)) ∧ Below w.heap.size w w' := by
  obtain ⟨a, L, c, he, hL, hI, hlo, hn, hle, _⟩ := own_any ho hr
  cases he
  have HI := Lib.hid hI
  have HN := Lib.hid hn
  have hsl : ∀ W, (Instr.slice 30 (.slice a0 zs.length c0) (some (.int .i64 0)) (some (.int .i64 (zs.length : Int))) none).run Try.prog W = .ok (.slice a0 zs.length c0) W := fun W => by
    have := slice_lh a0 zs.length c0 0 zs.length (Nat.zero_le _) hle .i64 .i64 W
    have e : offA a0 c0 0 = a0 := by
      unfold offA
      split
      · rfl
      · cases a0 with
        | none => rfl
        | some x => simp [Addr.add]
    rw [e] at this
    simpa using this
  clear ho hI hlo hn
  go_enter Try.func51, Try.ntmps51
  go_wp2_with fail
  refine (ready_ok D 0 (.inl rfl) _ hdn).mono ?_
  rintro e w1 ⟨rfl, hw⟩
  subst hw
  go_wp2_with (at_builtin; refine wpList_slice rfl (.const (.slice none 0 0)) (.tmp 50) rfl w1.heap.size (.slice none 0 0) [] a0 zs.length c0 zs rfl rfl (World.ownsRow_nil _ _ _ _) HI.out HN.out (by simp; omega) (Nat.le_refl _) ?_)
  intro v w2 hown hgr
  have HO := Lib.hid (show w2.ownsRow w1.heap.size 5 1 v zs.length (zs.map (Value.int .u8)) by simpa using hown)
  have HB := Lib.hid (grown_belowB hgr (Nat.le_refl _) (fun k hk => by cases hk))
  obtain ⟨a2, L2, c2, rfl⟩ := own_slice HO.out
  clear hown hgr
  go_wp2
  go_ret2
  exact ⟨_, rfl, HO.out, HB.out⟩

end Go.Proofs.Ytafhgilikcablaa
