/-
  CatalogNil answers true for every object, kind and name; no condition.
-/
import Derived.Test.YtbcjhngpcodaoaaRows
import Derived.Test.YtbcjhngpcodaoaaCat7
import Derived.Test.YtbcjhngpcodaoaaRawIn
import Derived.Test.YtbcjhngpcodaoaaValsIn
import Derived.WalkKit
import Derived.ProofKit
import Derived.OpenShut
import Derived.ShutString
import Derived.ChangeOld
import Derived.SizedLaws
import Derived.Below
import Derived.Lib.SmallJoins
import Derived.Deep.Slices
namespace Go.Proofs.Ytbcjhngpcodaoaa.catalogNil
open Go.ChangeShapes Go.WideShapes Go.ChangeAt Go.RowKit Go.Joins Go.Deep
open Go.ChangeMaps (open_string shut_string)
set_option linter.unusedVariables false

theorem own : ownKnob Try.prog.godebug = none := by kernel_rfl
theorem laidOut : laidOutB Try.prog = true := by kernel_rfl

set_option maxRecDepth 100000 in
theorem lifted (os : Os) (started : os.Started) (H : Type) (enc : TypeId × Value → H) :
    ReturnsInHanded {} Try.checked os 9 .any (Rows.catalogNilSpec.pre6 enc Try.prog Try.f9 Rows.catalogNilRow.domain false) (Rows.catalogNilSpec.post enc Try.prog Try.f9 false true false false) := by
  refine returnsInHanded_of_change (C := Try.checked) own started (by kernel_rfl) Try.func9
    (ChangeSpec.witness6 (enc := enc) (C := Try.checked) false ⟨#[], #[.agg #[.int .i64 0, .string ByteArray.empty, .string ByteArray.empty, .slice none 0 0, .slice none 0 0, .bool false, .string ByteArray.empty, .slice none 0 0, .int .i64 0], .int .i64 0, .string ByteArray.empty], []⟩ 8 (by kernel_rfl) (by kernel_rfl) (by kernel_rfl) (by kernel_rfl)) ?_
  intro W base args ds gs before hval0 hW hcnd _
  have hval : ∀ (j : Nat) t v, Try.f9.params[j]? = some t → args[j]? = some v → Value.okWide Try.prog W .any base t v := hval0
  have hW' := hW
  obtain ⟨p, q, hA0, hV, rfl, hfz, hnd⟩ := hW
  have hA : DataW.TrodAll enc Try.prog W 0 (fun _ => true) true Try.f9.params.toList args.toList ds p := hA0
  rw [Try.params9] at hA hval
  obtain ⟨v0, vs0, d0, ds0, p0, q0, hargs, rfl, rfl, h0, r0⟩ := trodAll_cons hA
  obtain ⟨v1, vs1, d1, ds1, p1, q1, rfl, rfl, rfl, h1, r1⟩ := trodAll_cons r0
  obtain ⟨v2, vs2, d2, ds2, p2, q2, rfl, rfl, rfl, h2, r2⟩ := trodAll_cons r1
  obtain ⟨rfl, rfl, rfl⟩ := trodAll_nil r2
  obtain rfl : args = #[v0, v1, v2] := by cases args; simp_all
  obtain ⟨rfl, rfl⟩ := trodVars_none hV
  have k0 := h0
  have lt0 : ∀ x ∈ p0, x.block < W.heap.size := by obtain ⟨m, hm⟩ := k0; exact DataW.trod_lt m _ _ _ hm
  have k1 := h1
  have lt1 : ∀ x ∈ p1, x.block < W.heap.size := by obtain ⟨m, hm⟩ := k1; exact DataW.trod_lt m _ _ _ hm
  have k2 := h2
  have lt2 : ∀ x ∈ p2, x.block < W.heap.size := by obtain ⟨m, hm⟩ := k2; exact DataW.trod_lt m _ _ _ hm
  obtain ⟨cs0, m0, rfl, sz0, hf0⟩ := open_agg_any Try.underlying86 (by kernel_rfl) (by kernel_rfl) (hval 0 86 v0 rfl rfl) h0
  obtain ⟨c0_0, c0_1, c0_2, c0_3, c0_4, c0_5, c0_6, c0_7, c0_8, rfl⟩ := arr9 sz0
  obtain ⟨x0_0, y0_0, hc0_0, t0_0⟩ := hf0 0 _ rfl
  obtain rfl := some_eq hc0_0
  obtain ⟨a0_0, e0_0, _, w0_0⟩ := DataW.trod_int Try.underlying3 t0_0
  simp only [List.cons.injEq, and_true] at e0_0
  subst e0_0
  obtain ⟨x0_1, y0_1, hc0_1, t0_1⟩ := hf0 1 _ rfl
  obtain rfl := some_eq hc0_1
  obtain ⟨a0_1, e0_1, _, w0_1⟩ := DataW.trod_string Try.underlying9 t0_1
  simp only [List.cons.injEq, and_true] at e0_1
  subst e0_1
  obtain ⟨x0_2, y0_2, hc0_2, t0_2⟩ := hf0 2 _ rfl
  obtain rfl := some_eq hc0_2
  obtain ⟨a0_2, e0_2, _, w0_2⟩ := DataW.trod_string Try.underlying9 t0_2
  simp only [List.cons.injEq, and_true] at e0_2
  subst e0_2
  obtain ⟨x0_3, y0_3, hc0_3, t0_3⟩ := hf0 3 _ rfl
  obtain rfl := some_eq hc0_3
  obtain ⟨a0_3, l0_3, k0_3, e0_3, w0_3⟩ := open_raw Try.underlying83 t0_3
  subst e0_3
  obtain ⟨x0_4, y0_4, hc0_4, t0_4⟩ := hf0 4 _ rfl
  obtain rfl := some_eq hc0_4
  obtain ⟨a0_4, l0_4, k0_4, e0_4, w0_4⟩ := open_raw Try.underlying29 t0_4
  subst e0_4
  obtain ⟨x0_5, y0_5, hc0_5, t0_5⟩ := hf0 5 _ rfl
  obtain rfl := some_eq hc0_5
  obtain ⟨a0_5, e0_5, _⟩ := DataW.trod_bool Try.underlying4 t0_5
  simp only [List.cons.injEq, and_true] at e0_5
  subst e0_5
  obtain ⟨x0_6, y0_6, hc0_6, t0_6⟩ := hf0 6 _ rfl
  obtain rfl := some_eq hc0_6
  obtain ⟨a0_6, e0_6, _, w0_6⟩ := DataW.trod_string Try.underlying9 t0_6
  simp only [List.cons.injEq, and_true] at e0_6
  subst e0_6
  obtain ⟨x0_7, y0_7, hc0_7, t0_7⟩ := hf0 7 _ rfl
  obtain rfl := some_eq hc0_7
  obtain ⟨a0_7, l0_7, k0_7, e0_7, w0_7⟩ := open_raw Try.underlying84 t0_7
  subst e0_7
  obtain ⟨x0_8, y0_8, hc0_8, t0_8⟩ := hf0 8 _ rfl
  obtain rfl := some_eq hc0_8
  obtain ⟨a0_8, e0_8, _, w0_8⟩ := DataW.trod_int Try.underlying3 t0_8
  simp only [List.cons.injEq, and_true] at e0_8
  subst e0_8
  obtain ⟨a1, rfl, _, _, w1⟩ := open_int Try.underlying3 (hval 1 3 v1 rfl rfl) h1
  obtain ⟨a2, rfl, _, _, w2⟩ := open_string Try.underlying9 (hval 2 9 v2 rfl rfl) h2
  clear hA0 hval0
  refine (catalogNil_walk a0_0 a0_8 a0_1 a0_2 a0_6 a0_5 a0_3 a0_4 a0_7 l0_3 k0_3 l0_4 k0_4 l0_7 k0_7 a1 a2 W w0_3 w0_4 w0_7).mono fun e W' ⟨he, bel⟩ => ?_
  subst he
  exact ⟨_, rfl, _, _, _, [], _, [], hW', trodAll_mk1 (shut_bool Try.underlying4 _), (trodAll_cons_mk (Below.trod laidOut (by kernel_rfl) (of_decide_eq_true (by kernel_rfl)) k0 bel lt0) (trodAll_cons_mk (Below.trod laidOut (by kernel_rfl) (of_decide_eq_true (by kernel_rfl)) k1 bel lt1) (trodAll_cons_mk (Below.trod laidOut (by kernel_rfl) (of_decide_eq_true (by kernel_rfl)) k2 bel lt2) trodAll_mk0))), rfl, bel.frame _, fun h => by cases h⟩

theorem over : Rows.catalogNilRow.holds Try.pinned (OpenSpec.ofChange Rows.catalogNilSpec) :=
  OpenClaim.holds_of_wide 9 Try.f9 rfl rfl rfl rfl rfl rfl rfl ⟨rfl, rfl, rfl, rfl, rfl⟩ rfl rfl rfl rfl rfl (by kernel_rfl) Try.func9 (by kernel_rfl)
    (of_decide_eq_true (by kernel_rfl)) (by unfold Func.isWrapper; first | (rw [if_pos (by decide +kernel)]; kernel_rfl) | (rw [if_neg (by decide +kernel)]; exact ⟨rfl, rfl⟩))
    (fun os started H enc _ => lifted os started H enc)

theorem proved : Rows.CatalogNilSaid := over
#print axioms proved
end Go.Proofs.Ytbcjhngpcodaoaa.catalogNil
