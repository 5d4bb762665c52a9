/-
  CodeMeans answers true for all tables, numbers, expressions and rows; no condition.
-/
import Derived.Test.YtafhgilikcablaaRows
import Derived.Test.YtafhgilikcablaaCmmL
import Derived.Test.YtafhgilikcablaaRRIn
import Derived.WalkKit
import Derived.ProofKit
import Derived.OpenShut
import Derived.ShutString
import Derived.ChangeOld
import Derived.SizedLaws
import Derived.Below
import Derived.Lib.SmallJoins
import Derived.Deep.Slices
namespace Go.Proofs.Ytafhgilikcablaa.codeMeans
open Go.ChangeShapes Go.WideShapes Go.ChangeAt Go.RowKit Go.Joins Go.Deep
open Go.ChangeMaps (open_string shut_string)
set_option linter.unusedVariables false
set_option linter.unusedSimpArgs false

theorem own : ownKnob Try.prog.godebug = none := by kernel_rfl
theorem laidOut : laidOutB Try.prog = true := by kernel_rfl

set_option maxRecDepth 100000 in
theorem lifted (os : Os) (started : os.Started) (H : Type) (enc : TypeId × Value → H) :
    ReturnsInHanded {} Try.checked os 6 .any (Rows.codeMeansSpec.pre6 enc Try.prog Try.f6 Rows.codeMeansRow.domain false) (Rows.codeMeansSpec.post enc Try.prog Try.f6 false true false false) := by
  refine returnsInHanded_of_change (C := Try.checked) own started (by kernel_rfl) Try.func6
    (ChangeSpec.witness6 (enc := enc) (C := Try.checked) false ⟨#[], #[.slice none 0 0, .slice none 0 0, .agg #[.int .i64 0, .string ByteArray.empty, .int .i64 0, .int .i64 0, .string ByteArray.empty, .string ByteArray.empty, .string ByteArray.empty, .slice none 0 0], .slice none 0 0], []⟩ 8 (by kernel_rfl) (by kernel_rfl) (by kernel_rfl) (by kernel_rfl)) ?_
  intro W base args ds gs before hval0 hW hcnd _
  have hval : ∀ (j : Nat) t v, Try.f6.params[j]? = some t → args[j]? = some v → Value.okWide Try.prog W .any base t v := hval0
  have hW' := hW
  obtain ⟨p, q, hA0, hV, rfl, hfz, hnd⟩ := hW
  have hA : DataW.TrodAll enc Try.prog W 0 (fun _ => true) true Try.f6.params.toList args.toList ds p := hA0
  rw [Try.params6] at hA hval
  obtain ⟨v0, vs0, d0, ds0, p0, q0, hargs, rfl, rfl, h0, r0⟩ := trodAll_cons hA
  obtain ⟨v1, vs1, d1, ds1, p1, q1, rfl, rfl, rfl, h1, r1⟩ := trodAll_cons r0
  obtain ⟨v2, vs2, d2, ds2, p2, q2, rfl, rfl, rfl, h2, r2⟩ := trodAll_cons r1
  obtain ⟨v3, vs3, d3, ds3, p3, q3, rfl, rfl, rfl, h3, r3⟩ := trodAll_cons r2
  obtain ⟨rfl, rfl, rfl⟩ := trodAll_nil r3
  obtain rfl : args = #[v0, v1, v2, v3] := by cases args; simp_all
  obtain ⟨rfl, rfl⟩ := trodVars_none hV
  have k0 := h0
  have lt0 : ∀ x ∈ p0, x.block < W.heap.size := by obtain ⟨m, hm⟩ := k0; exact DataW.trod_lt m _ _ _ hm
  have k1 := h1
  have lt1 : ∀ x ∈ p1, x.block < W.heap.size := by obtain ⟨m, hm⟩ := k1; exact DataW.trod_lt m _ _ _ hm
  have k2 := h2
  have lt2 : ∀ x ∈ p2, x.block < W.heap.size := by obtain ⟨m, hm⟩ := k2; exact DataW.trod_lt m _ _ _ hm
  have k3 := h3
  have lt3 : ∀ x ∈ p3, x.block < W.heap.size := by obtain ⟨m, hm⟩ := k3; exact DataW.trod_lt m _ _ _ hm
  obtain ⟨a0, len0, cap0, rfl⟩ := okWide_slice Try.underlying36 (hval 0 36 v0 rfl rfl)
  obtain ⟨l0, hl0, w0, m0⟩ : ∃ l, len0 = l.length ∧ TabsAt W a0 l ∧ len0 ≤ 9223372036854775807 := by
    obtain ⟨fuel, hf⟩ := h0
    obtain ⟨a, c, l, he, hI, hle, hm⟩ := open_tables (show DataW.trod enc Try.prog W 0 (fun _ => true) true fuel 36 [.slice a0 len0 cap0] = some _ from hf)
    cases he
    exact ⟨l, rfl, hI, by unfold maxLen at hm; omega⟩
  obtain ⟨a1, len1, cap1, rfl⟩ := okWide_slice Try.underlying31 (hval 1 31 v1 rfl rfl)
  obtain ⟨l1, hl1, w1, m1⟩ : ∃ l, len1 = l.length ∧ IntsAt W a1 l ∧ len1 ≤ 9223372036854775807 := by
    obtain ⟨fuel, hf⟩ := h1
    obtain ⟨a, c, l, he, hI, hle, hm⟩ := open_numbers (show DataW.trod enc Try.prog W 0 (fun _ => true) true fuel 31 [.slice a1 len1 cap1] = some _ from hf)
    cases he
    exact ⟨l, rfl, hI, by unfold maxLen at hm; omega⟩
  obtain ⟨cs2, hv2⟩ : ∃ cs : Array Value, v2 = .agg cs := by
    have h := hval 2 41 v2 rfl rfl
    simp only [Value.okWide, Try.underlying41] at h
    obtain ⟨cs, h1, _⟩ := h
    exact ⟨cs, h1⟩
  subst hv2
  obtain ⟨y2, w2⟩ : ∃ y, EV W (fun _ => True) (.agg cs2) y := by
    obtain ⟨fuel, hf⟩ := h2
    obtain ⟨y, sa, sc, he, hr, hE⟩ := open_expr (show DataW.trod enc Try.prog W 0 (fun _ => true) true fuel 41 cs2.toList = some _ from hf)
    exact ⟨y, sa, sc, by rw [← he], hr, hE⟩
  obtain ⟨a3, len3, cap3, rfl⟩ := okWide_slice Try.underlying67 (hval 3 67 v3 rfl rfl)
  obtain ⟨R3, w3, g3⟩ : ∃ R, IsRR W a3 len3 R ∧ RowsR R := by
    obtain ⟨fuel, hf⟩ := h3
    obtain ⟨a, l, c, R, he, hI, hR⟩ := open_rr Try.underlying67 Try.underlying127 (by kernel_rfl) Try.underlying38 (by kernel_rfl) (by kernel_rfl) rfl rfl rfl Try.underlying3 Try.underlying2 Try.underlying9 (show DataW.trod enc Try.prog W 0 (fun _ => true) true fuel 67 [.slice a3 len3 cap3] = some _ from hf)
    cases he
    exact ⟨R, hI, hR⟩
  clear hA0 hval0
  refine (codeMeans_walk l0 l1 y2 R3 W _ a0 a1 len0 cap0 len1 cap1 _ a3 len3 cap3 w0 w1 hl0 hl1 m0 m1 w2 w3 g3).mono fun e W' ⟨he, bel⟩ => ?_
  subst he
  exact ⟨_, rfl, _, _, _, [], _, [], hW', trodAll_mk1 (shut_bool Try.underlying4 _), (trodAll_cons_mk (Below.trod laidOut (by kernel_rfl) (of_decide_eq_true (by kernel_rfl)) k0 bel lt0) (trodAll_cons_mk (Below.trod laidOut (by kernel_rfl) (of_decide_eq_true (by kernel_rfl)) k1 bel lt1) (trodAll_cons_mk (Below.trod laidOut (by kernel_rfl) (of_decide_eq_true (by kernel_rfl)) k2 bel lt2) (trodAll_cons_mk (Below.trod laidOut (by kernel_rfl) (of_decide_eq_true (by kernel_rfl)) k3 bel lt3) trodAll_mk0)))), rfl, bel.frame _, fun h => by cases h⟩

theorem over : Rows.codeMeansRow.holds Try.pinned (OpenSpec.ofChange Rows.codeMeansSpec) :=
  OpenClaim.holds_of_wide 6 Try.f6 rfl rfl rfl rfl rfl rfl rfl ⟨rfl, rfl, rfl, rfl, rfl⟩ rfl rfl rfl rfl rfl (by kernel_rfl) Try.func6 (by kernel_rfl)
    (of_decide_eq_true (by kernel_rfl)) (by unfold Func.isWrapper; first | (rw [if_pos (by decide +kernel)]; kernel_rfl) | (rw [if_neg (by decide +kernel)]; exact ⟨rfl, rfl⟩))
    (fun os started H enc _ => lifted os started H enc)

theorem proved : Rows.CodeMeansSaid := over
#print axioms proved
end Go.Proofs.Ytafhgilikcablaa.codeMeans
