/- append of the document's words, behind a guard that says yes. -/
import Derived.Test.YtplgkblahmndoaaDoorLnSame
import Derived.Laws.OwnMore
namespace Go.Proofs.YtplgkblahmndoaaDoor
open Go.RowKit Go.Lib
set_option linter.unusedVariables false
set_option maxRecDepth 100000

theorem wsX_app (X Y : List Wd) : wsX X ++ wsX Y = wsX (X ++ Y) := by unfold wsX; rw [List.flatMap_append]
theorem wsX_one (ws : List Wd) : ∀ u ∈ wsX ws, u.oneCell' = true := fun u hu => by
  unfold wsX at hu
  obtain ⟨x, _, hx⟩ := List.mem_flatMap.1 hu
  simp [wordX] at hx
  rcases hx with rfl | rfl | rfl <;> rfl
/-- words behind words -/
theorem wp_app_ws (w : World) {ops : Array Oper} {rest : List Oper} {o : Oper} {a : Act} {Q : Exit → Act → World → Prop} (s x : Operand)
    (ho : o.op = .call { callee := .builtin .append, args := #[s, x], argTypes := #[27, 27] }) (hw : Region.wanted o (yielded ops a.tmps) = true)
    (base base2 : Nat) (v u : Value) (X Y : List Wd) (hs : a.eval s = v) (hx : a.eval x = u) (hX : w.ownsRow base 41 3 v X.length (wsX X)) (hY : w.ownsRow base2 41 3 u Y.length (wsX Y))
    (hnm : X.length + Y.length ≤ 100000) (hbase : base ≤ w.heap.size)
    (h : ∀ v' w', w'.ownsRow base 41 3 v' (X ++ Y).length (wsX (X ++ Y)) → w.grownBy w' v.ownBlock → wpList Tryd.prog ops Q rest (a.put o.dst v') w') : wpList Tryd.prog ops Q (o :: rest) a w := by
  obtain ⟨i0, hi, hz0, hz1, hz2⟩ := info_parts infoR
  refine wpList_step fun K hK => ?_
  rw [if_pos hw]
  rcases hY.2 with ⟨rfl, h0⟩ | ⟨g, cap, cur, rfl, hb, hg, hcap, hmax, hcs, hcur⟩
  · have hrun := run_append_owned_none (P := Tryd.prog) (w := w) base 27 o.type 41 i0 3 Tryd.underlying27 hi v X.length (wsX X) hX
    have hY0 : Y = [] := List.eq_nil_of_length_eq_zero h0
    subst hY0
    unfold Oper.wp
    simp [execOp, ho, resolve, invoke, builtin, hs, hx, hrun, Result.andThen]
    exact hK _ _ (h v w (by simpa using hX) ⟨rfl, rfl, rfl, Nat.le_refl _, fun _ _ _ => rfl⟩)
  · obtain ⟨v', w', hrun, h2, h3, _, _⟩ := run_append_own_at (P := Tryd.prog) w base 27 o.type 41 i0 (.agg #[.int .i64 0, .string ⟨#[]⟩, .int .i64 0]) 3 32 Tryd.underlying27 hi hz0 hz1 hz2 rfl (by decide) v X.length (wsX X) hX
      ⟨g, 0, none⟩ Y.length cap (wsX Y) (wsX_len Y) (hY.cells rfl) (wsX_one Y) (by unfold maxLen; omega) (by omega) hbase
    unfold Oper.wp execOp
    simp only [ho, resolve, invoke, builtin, Sem.run_bind, Sem.run_pure, Result.andThen_ok, List.map_toArray, List.map_cons, List.map_nil, hs, hx, hrun]
    refine hK _ _ (h v' w' ?_ h3)
    rw [← wsX_app, List.length_append]
    exact h2
end Go.Proofs.YtplgkblahmndoaaDoor
