/- PagerNil: Take of the first page. -/
import Derived.Test.YtbcjhngpcodaoaaGreatDoorPg4
import Derived.Deep.QuietTactic
import Derived.BigQuiet
namespace Go.Proofs.YtbcjhngpcodaoaaGreatDoor
open Go.RowKit
set_option linter.unusedVariables false
set_option maxRecDepth 100000

/-- a pager whose cache is empty -/
structure PgS (w : World) (P D F Q : Nat) (n : Int) (fr : Value) (ck : Int) : Prop where
  r : PgR w P (pgC D n fr (.map (some F)) ck (.map (some Q)) 1)
  f : w.heap[F]? = some (.map #[] 0)
  q : w.heap[Q]? = some (.map #[] 0)
  fp : F < P
  pq : P < Q
theorem PgS.cells {w : World} {P D F Q : Nat} {n : Int} {fr : Value} {ck : Int} (h : PgS w P D F Q n fr ck) : w.cell? ⟨P, 0, none⟩ = some (.pointer (some ⟨D, 0, none⟩)) ∧ w.cell? ⟨P, 1, none⟩ = some (.int .i64 4) ∧ w.cell? ⟨P, 2, none⟩ = some (.bool false) ∧ w.cell? ⟨P, 3, none⟩ = some (.int .i64 n) ∧ w.cell? ⟨P, 12, none⟩ = some (.slice none 0 0) ∧ w.cell? ⟨P, 28, none⟩ = some (.map (some F)) ∧ w.cell? ⟨P, 29, none⟩ = some (.int .i64 ck) ∧ w.cell? ⟨P, 30, none⟩ = some (.map (some Q)) ∧ w.cell? ⟨P, 33, none⟩ = some (.pointer none) ∧ (∀ j, w.frozen? ⟨P, j, none⟩ = false) :=
  ⟨cell_of_row w P 0 _ _ _ h.r, cell_of_row w P 1 _ _ _ h.r, cell_of_row w P 2 _ _ _ h.r, cell_of_row w P 3 _ _ _ h.r, cell_of_row w P 12 _ _ _ h.r, cell_of_row w P 28 _ _ _ h.r, cell_of_row w P 29 _ _ _ h.r, cell_of_row w P 30 _ _ _ h.r, cell_of_row w P 33 _ _ _ h.r, fun j => frozen_of_row w P j _ _ h.r⟩
theorem PgS.draw {w : World} {P D F Q : Nat} {n : Int} {fr : Value} {ck : Int} (h : PgS w P D F Q n fr ck) (m : Nat) : PgS (w.drewN m) P D F Q n fr ck := ⟨h.r, h.f, h.q, h.fp, h.pq⟩
theorem pnothing (w : World) (P D : Nat) (c0 : w.cell? ⟨P, 0, none⟩ = some (.pointer (some ⟨D, 0, none⟩))) : Calls Tryz.prog 30 #[.pointer (some ⟨P, 0, none⟩)] w fun e w' => e = .returned (.bool false) ∧ w' = w := by
  go_enter Tryz.func30, Tryz.ntmps30
  go_wp2
  go_ret
  exact ⟨rfl, rfl⟩
theorem pready {w : World} {P D F Q : Nat} {n : Int} {fr : Value} {ck : Int} (h : PgS w P D F Q n fr ck) : Calls Tryz.prog 38 #[.pointer (some ⟨P, 0, none⟩)] w fun e w' => e = .returned (.int .i64 0) ∧ w' = w := by
  obtain ⟨c0, c1, c2, c3, c12, c28, c29, c30, c33, cz⟩ := h.cells
  have H0 := Lib.hid c0
  clear h c0 c1 c3 c12 c28 c29 c30 c33 cz
  go_enter Tryz.func38, Tryz.ntmps38
  go_wp2_with fail
  refine (pnothing _ P D H0.out).mono ?_
  rintro e w1 ⟨rfl, hw⟩
  subst hw
  go_wp2
  go_ret
  exact ⟨rfl, rfl⟩
theorem ppages (w : World) (P D : Nat) (n : Int) (c0 : w.cell? ⟨P, 0, none⟩ = some (.pointer (some ⟨D, 0, none⟩))) (c3 : w.cell? ⟨P, 3, none⟩ = some (.int .i64 n)) : Calls Tryz.prog 17 #[.pointer (some ⟨P, 0, none⟩)] w fun e w' => e = .returned (.int .i64 n) ∧ w' = w := by
  have H0 := Lib.hid c0
  clear c0
  go_enter Tryz.func17, Tryz.ntmps17
  go_wp2_with fail
  refine (pnothing _ P D H0.out).mono ?_
  rintro e w1 ⟨rfl, hw⟩
  subst hw
  go_wp2
  go_ret
  exact ⟨rfl, rfl⟩
theorem pcached {w : World} {P D F Q : Nat} {n : Int} {fr : Value} {ck : Int} (h : PgS w P D F Q n fr ck) : Calls Tryz.prog 18 #[.pointer (some ⟨P, 0, none⟩)] w fun e w' => e = .returned (.int .i64 0) ∧ w' = w := by
  obtain ⟨c0, c1, c2, c3, c12, c28, c29, c30, c33, cz⟩ := h.cells
  have H0 := Lib.hid c0
  have hM := h.f
  have hl : ∀ ty, (Builtin.len_ #[61] ty #[.map (some F)]).run Tryz.prog w = .ok (.int .i64 0) w := fun ty => by
    simp [Builtin.len_, run_underlying Tryz.underlying61, MapKept.run_getObj_map hM, goInt, Result.andThen]
  clear h c0 c1 c3 c12 c29 c30 cz hM
  go_enter Tryz.func18, Tryz.ntmps18
  go_wp2_with fail
  refine (pnothing _ P D H0.out).mono ?_
  rintro e w1 ⟨rfl, hw⟩
  subst hw
  go_wp2
  go_ret
  exact ⟨rfl, rfl⟩
theorem pkept {w : World} {P D F Q : Nat} {n : Int} {fr : Value} {ck : Int} (h : PgS w P D F Q n fr ck) (k : Int) : Calls Tryz.prog 71 #[.pointer (some ⟨P, 0, none⟩), .int .i64 k] w fun e w' => e = .returned (.bool true) ∧ w' = w := by
  obtain ⟨c0, c1, c2, c3, c12, c28, c29, c30, c33, cz⟩ := h.cells
  clear h c0 c1 c2 c3 c12 c28 c29 c30 cz
  go_enter Tryz.func71, Tryz.ntmps71
  go_wp2
  go_ret
  exact ⟨rfl, rfl⟩
set_option maxHeartbeats 1600000 in
theorem pdropClean {w : World} {P D F Q : Nat} {n : Int} {fr : Value} {ck : Int} (h : PgS w P D F Q n fr ck) : Calls Tryz.prog 36 #[.pointer (some ⟨P, 0, none⟩)] w fun e w' => e = .returned (.bool true) ∧ ∃ m, w' = w.drewN m := by
  have H := Lib.hid h
  clear h
  go_enter Tryz.func36, Tryz.ntmps36
  go_wp2_with fail
  go_loopw [2] (fun v wr => v = .bool false ∧ Hid (wr = w)) (fun _ _ => 0)
  case atStart => exact ⟨rfl, Lib.hid rfl⟩
  case round =>
    obtain ⟨rfl, HR⟩ := hrel
    have hr := HR.out
    subst hr
    have k0 := fun m => Calls.quiet_of_same (pcached (H.out.draw m))
    have c1 : ∀ m, (wr.drewN m).cell? ⟨P, 1, none⟩ = some (.int .i64 4) := fun m => (H.out.draw m).cells.2.1
    go_wp2_with fail
    go_quiet ((go_at_call 18; exact k0 _))
    go_wp2
    go_ret
    exact ⟨rfl, _, rfl⟩
set_option maxHeartbeats 1600000 in
theorem pmakeRoom {w : World} {P D F Q : Nat} {n : Int} {fr : Value} {ck : Int} (h : PgS w P D F Q n fr ck) : Calls Tryz.prog 39 #[.pointer (some ⟨P, 0, none⟩)] w fun e w' => e = .returned (.int .i64 0) ∧ ∃ m, w' = w.drewN m := by
  have H := Lib.hid h
  clear h
  go_enter Tryz.func39, Tryz.ntmps39
  go_wp2_with fail
  go_loopw [2] (fun v wr => v = .int .i64 0 ∧ Hid (wr = w)) (fun _ _ => 0)
  case atStart => exact ⟨rfl, Lib.hid rfl⟩
  case round =>
    obtain ⟨rfl, HR⟩ := hrel
    have hr := HR.out
    subst hr
    go_wp2_with fail
    refine (pdropClean H.out).mono ?_
    rintro e w1 ⟨rfl, m, hw⟩
    subst hw
    go_wp2
    go_ret
    exact ⟨rfl, _, rfl⟩
theorem same_obj {w : World} {F : Nat} {o : Obj} (h : w.heap[F]? = some o) : ({ w with heap := w.heap.setIfInBounds F o } : World) = w := by
  have e : w.heap.setIfInBounds F o = w.heap := by
    apply Array.ext_getElem?
    intro i
    rw [Array.getElem?_setIfInBounds]
    split
    · rename_i hi
      subst hi
      rw [if_pos (Array.getElem?_eq_some_iff.1 h).1, h]
    · rfl
  rw [e]
/-- the frames' map and the places' map hold nothing at k -/
theorem del_none {t : TypeId} {et : TypeId} (ht : Tryz.prog.underlying t = some (.map 3 et)) {w : World} {F c : Nat} (h : w.heap[F]? = some (.map #[] c)) (k : Int) (ty : TypeId) : (Builtin.delete_ #[t, 3] ty #[.map (some F), .int .i64 k]).run Tryz.prog w = .ok (.tuple #[]) w := by
  have hc : (Instr.checkKey true 10000 3 (.int .i64 k)).run Tryz.prog w = .ok () w := MapKept.run_checkKey Tryz.underlying3 (by simp [MapKept.IsKey]) true 9999
  have hf : Instr.findNow (.int .i64) (.int .i64 k) ([] : List MapEntry) 0 = some none := rfl
  simp [Builtin.delete_, run_underlying ht, MapKept.run_getObj_map h, hc, MapKept.run_findKey Tryz.underlying3 hf, MapKept.run_setObj_map _ h, same_obj h, Result.andThen]
theorem look_none {w : World} {Q c : Nat} (h : w.heap[Q]? = some (.map #[] c)) (k : Int) : (Instr.lookup 63 (.map (some Q)) (.int .i64 k) true).run Tryz.prog w = .ok (.tuple #[.int .i64 0, .bool false]) w := by
  have hc : (Instr.checkKey true 10000 3 (.int .i64 k)).run Tryz.prog w = .ok () w := MapKept.run_checkKey Tryz.underlying3 (by simp [MapKept.IsKey]) true 9999
  have hf : Instr.findNow (.int .i64) (.int .i64 k) ([] : List MapEntry) 0 = some none := rfl
  have hz : (zeroValue 3).run Tryz.prog w = .ok (.int .i64 0) w := by kernel_rfl
  simp [Instr.lookup, run_underlying Tryz.underlying63, MapKept.run_getObj_map h, hc, MapKept.run_findKey Tryz.underlying3 hf, hz, Result.andThen]
end Go.Proofs.YtbcjhngpcodaoaaGreatDoor
