/- ExprBack: its closed facts, joined. -/
import Derived.Test.YtpinalpigefenaaGreatDoorBkSt
import Derived.Test.YtpinalpigefenaaGreatDoorLnFr
import Derived.Lib.LaidTab
import Derived.Test.YtpinalpigefenaaGreatDoorLxPure
import Derived.Test.YtpinalpigefenaaGreatDoorProg
import Derived.Test.YtpinalpigefenaaGreatDoorTie
import Derived.Test.YtpinalpigefenaaGreatDoorCards
import Derived.JoinedOf
import Derived.ProofKit
import Derived.ClosedOfChecked
import Derived.WalkKit
import Derived.OpenShut
import Derived.ShutString
import Derived.ChangeOld
import Derived.SizedLaws
import Derived.Below
import Derived.Lib.SmallJoins
import Derived.Deep.Slices
import Derived.Lay
import Derived.LaidOnce
import Derived.SevenTiedAt
namespace Go.Proofs.YtpinalpigefenaaGreatDoor
open Go.RowKit
set_option linter.unusedVariables false
set_option linter.unusedSimpArgs false
set_option maxRecDepth 100000
theorem powType : (Tryz.prog.globals[gPow]?).map (·.type) = some 459 := by kernel_rfl
theorem powOk_of {w : World} {l : List (String × DataW Unit)} {d : DataW Unit} (hL : laidMet Tryz.prog l w) (hm : ("internal/strconv.uint64pow10", d) ∈ l) (hd : d = Lib.tabData .u64 Lib.pow10Tab) : PowOk w := by
  obtain ⟨ps, hl, _⟩ := hL
  obtain ⟨g, t, cs, fuel, p, h1, h2, h3, h4⟩ := laid_reads hl hm
  rw [powName] at h1
  cases h1
  rw [powType] at h2
  cases h2
  rw [hd] at h4
  have hc := Lib.cells_of_tab Tryz.underlying459 Tryz.underlying233 (by kernel_rfl) (by kernel_rfl) h4
  unfold PowOk Lib.TabIs
  rw [h3, ← hc]
end Go.Proofs.YtpinalpigefenaaGreatDoor
namespace Go.Proofs.YtpinalpigefenaaGreatDoor
open Go.ChangeShapes Go.WideShapes Go.Deep Go.RowKit
set_option linter.unusedVariables false
set_option linter.unusedSimpArgs false
set_option maxRecDepth 100000
section
variable {H : Type} {enc : TypeId × Value → H} {w : World} {base : Nat} {spare : Nat → Bool} {held : Bool}
theorem open_expr {fuel : Nat} {cs : List Value} {x : DataW H × List MemPlace} (h : DataW.trod enc Tryz.prog w base spare held fuel 26 cs = some x) : ∃ y sa sc, cs = etX y sa sc ∧ ERg y sa sc ∧ EL w (fun _ => True) sa y.parts :=
  open_et (t := 24) Tryz.underlying26 (by kernel_rfl) rfl rfl rfl rfl rfl rfl (by kernel_rfl) (by kernel_rfl) (by kernel_rfl) (by kernel_rfl) (by kernel_rfl) (by kernel_rfl) Tryz.underlying3 Tryz.underlying9 Tryz.underlying23 Tryz.underlying9 Tryz.underlying9 rfl rfl rfl rfl (by kernel_rfl) (by kernel_rfl) (by kernel_rfl) Tryz.underlying3 Tryz.underlying2 Tryz.underlying9
    (fun n _ v x h => open_el (t := 24) Tryz.underlying24 Tryz.underlying26 (by kernel_rfl) rfl rfl rfl rfl rfl rfl (by kernel_rfl) (by kernel_rfl) (by kernel_rfl) (by kernel_rfl) (by kernel_rfl) (by kernel_rfl) Tryz.underlying3 Tryz.underlying9 Tryz.underlying23 Tryz.underlying9 Tryz.underlying9 rfl rfl rfl rfl (by kernel_rfl) (by kernel_rfl) (by kernel_rfl) Tryz.underlying3 Tryz.underlying2 Tryz.underlying9 n n (Nat.le_refl _) v x h) h
end
end Go.Proofs.YtpinalpigefenaaGreatDoor
namespace Go.Proofs.YtpinalpigefenaaGreatDoor.exprBack
open Go.ChangeShapes Go.WideShapes Go.ChangeAt Go.RowKit
set_option linter.unusedVariables false
set_option linter.unusedSimpArgs false
theorem and_mk {a b : Bool} (ha : a = true) (hb : b = true) : (a && b) = true := by rw [ha, hb]; rfl
theorem closed3 : laidOutB Tryz.checked.prog = true ∧ mapsRowed Tryz.checked.prog = true ∧ Tryz.checked.prog.plainKeys = true := Go.ClosedOfChecked.closed_of_checked Tryz.checked (by kernel_rfl) (by kernel_rfl) (by kernel_rfl)
theorem laidOut : laidOutB Tryz.prog = true := closed3.1
theorem jf2 : mapsRowed Tryz.prog = true := closed3.2.1
theorem jf22 : (Rows.exprBackRow.plainKeys == Tryz.prog.plainKeys) = true := by rw [show Tryz.prog.plainKeys = true from closed3.2.2]; rfl
theorem jf9 : ((Rows.exprBackRow.inPlace == Tryz.prog.inPlace 3)) = true := by kernel_rfl
theorem jf10 : ((Rows.exprBackRow.unfollowed == Tryz.prog.unfollowed 3)) = true := by kernel_rfl
theorem jf11 : ((Rows.exprBackRow.recurses == Tryz.prog.recurses 3)) = true := by kernel_rfl
theorem jf12 : ((Rows.exprBackRow.named == Tryz.prog.varsNamed 3)) = true := by kernel_rfl
end Go.Proofs.YtpinalpigefenaaGreatDoor.exprBack
namespace Go.Proofs.YtpinalpigefenaaGreatDoor.exprBack
open Go.ChangeShapes Go.WideShapes Go.ChangeAt Go.RowKit Go.Joins Go.Deep
open Go.ChangeMaps (open_string shut_string)
set_option linter.unusedVariables false

theorem own : ownKnob Tryz.prog.godebug = none := by kernel_rfl

set_option maxRecDepth 100000 in
theorem lifted (os : Os) (started : os.Started) (H : Type) (enc : TypeId × Value → H) :
    ReturnsInHanded {} Tryz.checked os 3 .any (fun w args => (Rows.exprBackSpec.pre enc Tryz.prog Tryz.f3 [] false w args ∧ laidMetH Tryz.prog Rows.exprBackRow.laid w) ∧ sizedMet enc Tryz.prog Tryz.f3 (OpenSpec.ofChange Rows.exprBackSpec) false w args) (Rows.exprBackSpec.post enc Tryz.prog Tryz.f3 false true false false) := by
  refine wrap_shaped (C := Tryz.checked) (X := fun w _ => laidMetH Tryz.prog Rows.exprBackRow.laid w) (fun _ _ _ hh h => h.of_heap hh) own started (by kernel_rfl) Tryz.func3
    (ChangeSpec.witness_shaped (enc := enc) (C := Tryz.checked) (os := os) (X := fun w _ => laidMetH Tryz.prog Rows.exprBackRow.laid w) false (World.laidAll Tryz.prog os Rows.exprBackRow.laid) #[.agg #[.int .i64 0, .string ByteArray.empty, .int .i64 0, .int .i64 0, .string ByteArray.empty, .string ByteArray.empty, .string ByteArray.empty, .slice none 0 0]] 8 (World.laidAll_os _ _ _)
      (World.shaped_of_ZipB (by kernel_rfl) (by kernel_rfl)) (by kernel_rfl) (by kernel_rfl) (by kernel_rfl)
      (by rw [MakeChecks.laidMetH_plain _ _ _ (by kernel_rfl)]; exact laidMet_laidAll _ (by kernel_rfl) (by kernel_rfl))) ?_
  intro W base args ds gs before hval0 hW hcnd hsz0 hL hS _
  have hval : ∀ (j : Nat) t v, Tryz.f3.params[j]? = some t → args[j]? = some v → Value.okWide Tryz.prog W .any base t v := hval0
  have hW' := hW
  rw [MakeChecks.laidMetH_plain _ _ _ (by kernel_rfl)] at hL
  have hVk := vOk_of hS hL (d := Rows.laid_strconv_ErrRange) (by unfold Rows.exprBackRow; simp)
  have hPw := powOk_of hL (d := Rows.laid_internal_strconv_uint64pow10) (by unfold Rows.exprBackRow; simp) (by kernel_rfl)
  obtain ⟨p, q, hA0, hV, rfl, hfz, hnd⟩ := hW
  have hA : DataW.TrodAll enc Tryz.prog W 0 (fun _ => true) true Tryz.f3.params.toList args.toList ds p := hA0
  rw [Tryz.params3] at hA hval
  have hsz : (DataW.weightsEach Tryz.prog (Tryz.f3.params.toList ++ Rows.exprBackSpec.plain.varTypes Tryz.prog) (ds ++ gs)).all (· ≤ reachBytes) = true := hsz0
  rw [Tryz.params3] at hsz
  obtain ⟨v0, vs0, d0, ds0, p0, q0, hargs, rfl, rfl, h0, r0⟩ := trodAll_cons hA
  obtain ⟨rfl, rfl, rfl⟩ := trodAll_nil r0
  obtain rfl : args = #[v0] := by cases args; simp_all
  obtain ⟨rfl, rfl⟩ := trodVars_none hV
  have k0 := h0
  have lt0 : ∀ x ∈ p0, x.block < W.heap.size := by obtain ⟨m, hm⟩ := k0; exact DataW.trod_lt m _ _ _ hm
  obtain ⟨cs0, hv0⟩ : ∃ cs : Array Value, v0 = .agg cs := by
    have h := hval 0 26 v0 rfl rfl
    simp only [Value.okWide, Tryz.underlying26] at h
    obtain ⟨cs, h1, _⟩ := h
    exact ⟨cs, h1⟩
  subst hv0
  obtain ⟨y0, w0⟩ : ∃ y, EV W (fun _ => True) (.agg cs0) y := by
    obtain ⟨fuel, hf⟩ := h0
    obtain ⟨y, sa, sc, he, hr, hE⟩ := open_expr (show DataW.trod enc Tryz.prog W 0 (fun _ => true) true fuel 26 cs0.toList = some _ from hf)
    exact ⟨y, sa, sc, by rw [← he], hr, hE⟩
  clear hA0 hval0
  refine (exprBack_walk y0 W hVk hPw (vN_of hVk) (fun _ => True) _ w0).mono fun e W' ⟨he, bel⟩ => ?_
  subst he
  exact ⟨_, rfl, _, _, _, [], _, [], hW', trodAll_mk1 (shut_bool Tryz.underlying4 _), (trodAll_cons_mk (Below.trod laidOut (by kernel_rfl) (of_decide_eq_true (by kernel_rfl)) k0 bel lt0) trodAll_mk0), rfl, bel.frame _, fun h => by cases h⟩
end Go.Proofs.YtpinalpigefenaaGreatDoor.exprBack
namespace Go.Proofs.YtpinalpigefenaaGreatDoor.exprBack
open Go.ChangeShapes Go.WideShapes Go.ChangeAt Go.RowKit
set_option linter.unusedVariables false
set_option linter.unusedSimpArgs false
theorem jf24 : (Tryz.prog.stopsHeard) = true := by kernel_rfl
theorem jf25 : (Tryz.prog.mayEnter) = true := by kernel_rfl
theorem jf26 : ((Rows.exprBackRow.lifted == Tryz.prog.liftsFinal)) = true := by kernel_rfl
theorem jf27 : ((Tryz.prog.make == some Rows.exprBackRow.make)) = true := by kernel_rfl
theorem mainIs : Tryz.prog.mainIs = some ((true, "37115733ad16edb171187dc02544f8d44e8144147b86f6266bf5857d5ee00c2f").1, (true, "37115733ad16edb171187dc02544f8d44e8144147b86f6266bf5857d5ee00c2f").2.toList) := by kernel_rfl
theorem looksIs : true = Tryz.prog.looks [] := by kernel_rfl
theorem goesIs : false = Rows.exprBackRow.goesBy Tryz.prog := by kernel_rfl
theorem byText : Rows.exprBackRow.wfByText (OpenSpec.ofChange Rows.exprBackSpec) = true := by kernel_rfl
end Go.Proofs.YtpinalpigefenaaGreatDoor.exprBack
namespace Go.Proofs.YtpinalpigefenaaGreatDoor.exprBack
open Go.ChangeShapes Go.WideShapes Go.ChangeAt Go.RowKit
set_option linter.unusedVariables false
set_option linter.unusedSimpArgs false
theorem jf0 : (Rows.exprBackRow.wf (OpenSpec.ofChange Rows.exprBackSpec)) = true := by kernel_rfl
theorem jf3 : (Tryz.f3.params.all (Tryz.prog.readableRec ·)) = true := by kernel_rfl
theorem jf4 : (namedTie Tryz.prog Rows.exprBackRow.named Rows.exprBackSpec.vars) = true := by kernel_rfl
theorem jf5 : ((Rows.exprBackRow.stops == [])) = true := by kernel_rfl
theorem jf6 : ((Tryz.prog.stops == [])) = true := by kernel_rfl
theorem jf7 : ((Rows.exprBackRow.knobs == [])) = true := by kernel_rfl
theorem jf8 : ((Tryz.prog.stopKnobs == [])) = true := by kernel_rfl
theorem jf13 : ((Rows.exprBackRow.maps == (Tryz.f3.params.toList ++ Rows.exprBackSpec.plain.varTypes Tryz.prog).any (Tryz.prog.mapsRec ·))) = true := by kernel_rfl
theorem jf14 : ((Rows.exprBackRow.ifaces == (Tryz.f3.params.toList ++ Rows.exprBackSpec.plain.varTypes Tryz.prog).any (Tryz.prog.ifacesRec ·))) = true := by kernel_rfl
theorem jf15 : ((Rows.exprBackRow.mapsOut == Tryz.prog.mapsAmong Tryz.f3.resultTypes.toList)) = true := by kernel_rfl
theorem jf16 : ((Rows.exprBackRow.loops == (Tryz.f3.params.toList ++ Rows.exprBackSpec.plain.varTypes Tryz.prog).any (Tryz.prog.loopsFrom ·))) = true := by kernel_rfl
theorem jf17 : ((Rows.exprBackRow.wideKeys == (Tryz.f3.params.toList ++ Rows.exprBackSpec.plain.varTypes Tryz.prog ++ Tryz.f3.resultTypes.toList).any (Tryz.prog.wideKeysFrom ·))) = true := by kernel_rfl
theorem jf18 : (Rows.exprBackSpec.vars.all (Tryz.prog.varReadable ·)) = true := by kernel_rfl
theorem jf19 : (Tryz.f3.resultTypes.all (fun t => Tryz.prog.readableRec t && decide (t < Tryz.prog.types.size))) = true := by kernel_rfl
theorem jf20 : ((Rows.exprBackRow.ifacesOut == Tryz.f3.resultTypes.toList.any (Tryz.prog.ifacesRec ·))) = true := by kernel_rfl
theorem jf21 : ((Rows.exprBackRow.loopsOut == Tryz.f3.resultTypes.toList.any (Tryz.prog.loopsFrom ·))) = true := by kernel_rfl
theorem jf23 : (Rows.exprBackRow.shortTexts.isNone) = true := by kernel_rfl
theorem jf28 : ((Rows.exprBackRow.kinds == (if Rows.exprBackRow.domain.isEmpty then [] else Tryz.f3.params.toList.map fun t => match Tryz.prog.underlying t with | some (.int k) => some k | _ => none))) = true := by kernel_rfl
theorem jf29 : ((Rows.exprBackRow.pinned == Rows.exprBackRow.pinnedBy)) = true := by kernel_rfl
theorem jf30 : ((Rows.exprBackRow.veiled == (Tryz.f3.params.toList ++ Rows.exprBackSpec.plain.varTypes Tryz.prog ++ Tryz.f3.resultTypes.toList).any (Tryz.prog.veiledRec ·))) = true := by kernel_rfl
theorem jf31 : (Rows.exprBackRow.veiledFits Tryz.prog Tryz.f3.params.toList (Tryz.f3.params.toList ++ Rows.exprBackSpec.plain.varTypes Tryz.prog ++ Tryz.f3.resultTypes.toList)) = true := by kernel_rfl
set_option maxRecDepth 100000
theorem joined : joinedFacts Tryz.prog 3 Tryz.f3 Rows.exprBackSpec Rows.exprBackRow = true := by
  unfold joinedFacts
  exact (and_mk (and_mk (and_mk (and_mk (and_mk (and_mk (and_mk (and_mk (and_mk (and_mk (and_mk (and_mk (and_mk (and_mk (and_mk (and_mk (and_mk (and_mk (and_mk (and_mk (and_mk (and_mk (and_mk (and_mk (and_mk (and_mk (and_mk (and_mk (and_mk (and_mk (and_mk jf0 laidOut) jf2) jf3) jf4) jf5) jf6) jf7) jf8) jf9) jf10) jf11) jf12) jf13) jf14) jf15) jf16) jf17) jf18) jf19) jf20) jf21) jf22) jf23) jf24) jf25) jf26) jf27) jf28) jf29) jf30) jf31)
theorem funcIs : Tryz.prog.funcNamed Rows.exprBackRow.func = some 3 := by kernel_rfl
theorem funcStr : Tryz.prog.funcNamed "wainscot/wainscotlaw06.ExprBack" = some 3 := by kernel_rfl
theorem instIs : Tryz.f3.isInstance Tryz.prog Rows.exprBackRow.origin Rows.exprBackRow.targs := (of_decide_eq_true (by kernel_rfl))
theorem wrapIs : Tryz.f3.isWrapper Tryz.prog Rows.exprBackRow.wrapper Rows.exprBackRow.mainSum := by unfold Func.isWrapper; first | (rw [if_pos (by decide +kernel)]; kernel_rfl) | (rw [if_neg (by decide +kernel)]; exact ⟨rfl, rfl⟩)
end Go.Proofs.YtpinalpigefenaaGreatDoor.exprBack
