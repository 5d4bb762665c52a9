/- append of another slice onto a row of the call's own, and where the new row lies: the old block, or the next one. -/
import Derived.Test.YtafhgilikcablaaApp1
import Derived.Maps.AppendAt
namespace Go.Proofs.Ytafhgilikcablaa
open Go.RowKit
set_option linter.unusedVariables false

section
variable {W : World} {ops : Array Oper} {rest : List Oper} {o : Oper} {a : Act} {K : Act → World → Prop} {Q : Exit → Act → World → Prop} {E : Prop}
theorem wp_slice_at (s x : Operand) (ho : o.op = .call { callee := .builtin .append, args := #[s, x], argTypes := #[30, 30] })
    (B : Nat) (v : Value) (zs : List Int) (d : Option Addr) (ld cd : Nat) (zd : List Int) (hs : a.eval s = v) (hx : a.eval x = .slice d ld cd)
    (hown : W.ownsRow B 5 1 v zs.length (zs.map (Value.int .u8))) (hd : IsB W d ld zd) (hn : d = none → ld = 0 ∧ cd = 0) (hlen : zs.length + ld ≤ 140737488355328) (hbase : B ≤ W.heap.size)
    (h : ∀ v' w', w'.ownsRow B 5 1 v' (zs ++ zd).length ((zs ++ zd).map (Value.int .u8)) → W.grownBy w' v.ownBlock → (v'.ownBlock = v.ownBlock ∨ v'.ownBlock = some W.heap.size) → K (a.put o.dst v') w') :
    o.wp Try.prog a W K Q := by
  obtain ⟨i0, hi, hz0, hz1, hz2⟩ := info_parts info5
  have hdl := hd.1
  cases d with
  | none =>
    obtain ⟨rfl, rfl⟩ := hn rfl
    obtain rfl := List.eq_nil_of_length_eq_zero hdl
    have hr := run_append_owned_none (P := Try.prog) W B 30 o.type 5 i0 1 Try.underlying30 hi v zs.length _ hown
    unfold Oper.wp execOp
    simp only [ho, resolve, invoke, builtin, Sem.run_bind, Sem.run_pure, Result.andThen_ok, List.map_toArray, List.map_cons, List.map_nil, hs, hx, hr]
    exact h v W (by simpa using hown) (World.grownBy.refl _ _) (.inl rfl)
  | some ad =>
    obtain ⟨v', w', hr, h2, h3, _, h5⟩ := run_append_own_at (P := Try.prog) W B 30 o.type 5 i0 (.int .u8 0) 1 1 Try.underlying30 hi hz0 hz1 hz2 rfl (by decide) v zs.length _ hown ad ld cd (zd.map (Value.int .u8)) (by rw [List.length_map, hdl, Nat.mul_one]) (hd.cells ad rfl) (by intro u hu; obtain ⟨_, _, rfl⟩ := List.mem_map.1 hu; rfl) (by unfold maxLen; omega) (by omega) hbase
    unfold Oper.wp execOp
    simp only [ho, resolve, invoke, builtin, Sem.run_bind, Sem.run_pure, Result.andThen_ok, List.map_toArray, List.map_cons, List.map_nil, hs, hx, hr]
    refine h v' w' ?_ h3 h5
    rw [← List.map_append] at h2
    rw [List.length_append, hdl]
    exact h2
theorem step_slice_at (hgd : o.guard = none) (s x : Operand) (ho : o.op = .call { callee := .builtin .append, args := #[s, x], argTypes := #[30, 30] })
    (B : Nat) (v : Value) (zs : List Int) (d : Option Addr) (ld cd : Nat) (zd : List Int) (hs : a.eval s = v) (hx : a.eval x = .slice d ld cd)
    (hown : W.ownsRow B 5 1 v zs.length (zs.map (Value.int .u8))) (hd : IsB W d ld zd) (hn : d = none → ld = 0 ∧ cd = 0) (hlen : zs.length + ld ≤ 140737488355328) (hbase : B ≤ W.heap.size)
    (h : ∀ v' w', w'.ownsRow B 5 1 v' (zs ++ zd).length ((zs ++ zd).map (Value.int .u8)) → W.grownBy w' v.ownBlock → (v'.ownBlock = v.ownBlock ∨ v'.ownBlock = some W.heap.size) → K (a.put o.dst v') w') :
    if Region.wanted o (yielded ops a.tmps) = true then Oper.wp Try.prog o a W K Q else E := by
  have hw : Region.wanted o (yielded ops a.tmps) = true := by simp [Region.wanted, hgd]
  rw [if_pos hw]
  exact wp_slice_at s x ho B v zs d ld cd zd hs hx hown hd hn hlen hbase h
end
end Go.Proofs.Ytafhgilikcablaa
