/- Contract of a disk's Write, whatever the room and the fuse. (Written by gendpwr.py.) -/
import Derived.Test.YtafhgilikcablaaDpSync
namespace Go.Proofs.Ytafhgilikcablaa
open Go.RowKit Go.Maps
set_option linter.unusedVariables false
set_option maxRecDepth 100000
theorem isB_keep {S : Nat → Prop} {w w' : World} {a : Option Addr} {len : Nat} {zs : List Int} (h : IsB w a len zs) (k : Only S w w') (hlo : ∀ x, len ≠ 0 → a = some x → x.block < w.heap.size) (hS : ∀ x, len ≠ 0 → a = some x → ¬ S x.block) : IsB w' a len zs := by
  obtain ⟨h1, h2, h3, h4⟩ := h
  refine ⟨h1, h2, ?_, h4⟩
  by_cases h0 : len = 0
  · exact .inl h0
  · rcases h3 with h3 | ⟨b, off, rfl, hc⟩
    · exact .inl h3
    · refine .inr ⟨b, off, rfl, fun i hi => ?_⟩
      rw [World.cell?_of_block (w' := w') (w := w) (k.block b (hlo _ h0 rfl) (hS _ h0 rfl))]
      exact hc i hi

set_option maxHeartbeats 3200000 in
theorem pfull0 (w : World) (D B : Nat) (cs : Array Value) (T : TypeId) (R : Int) (zs b : List Int) (va : Option Addr) (vc : Nat) (oa : Option Addr) (on oc : Nat) (p : Nat) (ba : Option Addr) (bl bc : Nat) (hbox : w.heap[D]? = some (.cells cs T (0, 0))) (h6 : cs[6]? = some (.int .i64 R)) (h9 : cs[9]? = some (.bool false))
    (hv : cs[0]? = some (.slice va zs.length vc)) (hov : cs[3]? = some (.slice oa on oc)) (hp : p ≤ zs.length) (hzl : zs.length ≤ 1000000) (hon : on ≤ 1000000) (hb5 : bl ≤ 25000) (hfull : zs.length < p + bl ∧ R < (p : Int) + (bl : Int) + (on : Int)) :
    Calls Try.prog 39 #[.pointer (some ⟨D, 0, none⟩), .int .i64 0, .int .i64 (p : Int), .slice ba bl bc] w fun e w' => e = .returned (.int .i64 15) ∧ ∃ n, w' = w.drewN n := by
  have d9 := (cell_of_row w D 9 cs T _ hbox).trans h9
  have d6 := (cell_of_row w D 6 cs T _ hbox).trans h6
  have d0 := (cell_of_row w D 0 cs T _ hbox).trans hv
  have d3 := (cell_of_row w D 3 cs T _ hbox).trans hov
  have hpi : (p : Int) ≤ (zs.length : Int) := by omega
  have hp0 : (0 : Int) ≤ (p : Int) := by omega
  clear hbox h6 h9 hv hov
  go_enter Try.func39, Try.ntmps39
  go_wp2_with fail
  refine (ready_ok D 0 (.inl rfl) _ d9).mono ?_
  rintro e w1 ⟨rfl, hw⟩
  subst hw
  go_wp2_with fail
  refine (size0 D _ _ _ _ d0).mono ?_
  rintro e w2 ⟨rfl, hw⟩
  subst hw
  have hwa : wrap64 ((p : Int) + (bl : Int)) = (p : Int) + (bl : Int) := by unfold wrap64; omega
  have hwb : wrap64 ((p : Int) + (bl : Int) + (on : Int)) = (p : Int) + (bl : Int) + (on : Int) := by unfold wrap64; omega
  go_upto_region 8 with (fail)
  have d3n : ∀ n, (w2.drewN n).cell? ⟨D, 3, none⟩ = some (.slice oa on oc) := fun n => d3
  have d6n : ∀ n, (w2.drewN n).cell? ⟨D, 6, none⟩ = some (.int .i64 R) := fun n => d6
  have hrl : R < (p : Int) + (bl : Int) + (on : Int) := hfull.2
  have hrd : decide (R < (p : Int) + (bl : Int) + (on : Int)) = true := decide_eq_true hrl
  have he : (zs.length : Int) < (p : Int) + (bl : Int) := by omega
  have hed : decide ((zs.length : Int) < (p : Int) + (bl : Int)) = true := decide_eq_true he
  clear hfull
  go_quiet ((go_at_call 40; exact Calls.quiet_of_same (size1 D oa on oc _ d3)))
  go_wp2
  go_ret
  exact ⟨rfl, _, rfl⟩
set_option maxHeartbeats 3200000 in
theorem pwrite0 (w : World) (D B : Nat) (cs : Array Value) (T : TypeId) (R : Int) (zs b : List Int) (va : Option Addr) (vc : Nat) (oa : Option Addr) (on oc : Nat) (p : Nat) (ba : Option Addr) (bl bc : Nat) (hbox : w.heap[D]? = some (.cells cs T (0, 0))) (h6 : cs[6]? = some (.int .i64 R)) (h9 : cs[9]? = some (.bool false))
    (hv : cs[0]? = some (.slice va zs.length vc)) (hov : cs[3]? = some (.slice oa on oc)) (hp : p ≤ zs.length) (hzl : zs.length ≤ 1000000) (hon : on ≤ 1000000) (hb5 : bl ≤ 25000) (hfit : p + bl ≤ zs.length ∨ (p : Int) + (bl : Int) + (on : Int) ≤ R)
    (L : List Lit) (m : Value) (armed : Bool) (fu fu' : Int) (hps : Passes armed fu fu') (h7 : cs[7]? = some (.bool armed)) (h8 : cs[8]? = some (.int .i64 fu)) (hm : cs[2]? = some m) (hDB : D < B) (hBw : B ≤ w.heap.size) (hF : FSt w B zs L (.slice va zs.length vc) m) (hll : L.length ≤ 1000000)
    (hb : IsB w ba bl b) (hbn : ba = none → bl = 0 ∧ bc = 0) (hble : bl ≤ bc) (hbo : ∀ x, bl ≠ 0 → ba = some x → ¬ ofFile D (.slice va zs.length vc) m x.block) :
    Calls Try.prog 39 #[.pointer (some ⟨D, 0, none⟩), .int .i64 0, .int .i64 (p : Int), .slice ba bl bc] w fun e w' => e = .returned (.int .i64 0) ∧ ∃ wc, ChP w D cs T fu' wc ∧ FPost wc D 0 B (cs.setIfInBounds 8 (.int .i64 fu')) T (.slice va zs.length vc) m (wrB zs b p) (L ++ secs p bl) w' := by
  have d9 := (cell_of_row w D 9 cs T _ hbox).trans h9
  have d6 := (cell_of_row w D 6 cs T _ hbox).trans h6
  have d0 := (cell_of_row w D 0 cs T _ hbox).trans hv
  have d3 := (cell_of_row w D 3 cs T _ hbox).trans hov
  have hpi : (p : Int) ≤ (zs.length : Int) := by omega
  have hp0 : (0 : Int) ≤ (p : Int) := by omega
  have HH := Lib.hid (And.intro hbox (And.intro h7 h8))
  have HV := Lib.hid (And.intro hv hm)
  have HB := Lib.hid (And.intro hDB hBw)
  have HF := Lib.hid hF
  have HP := Lib.hid hp
  have HPs := Lib.hid hps
  have HBb := Lib.hid hb
  have HBn := Lib.hid hbn
  have HBo := Lib.hid hbo
  clear hbox h6 h9 hv hov hps h7 h8 hm hDB hBw hF hb hbn hbo
  go_enter Try.func39, Try.ntmps39
  go_wp2_with fail
  refine (ready_ok D 0 (.inl rfl) _ d9).mono ?_
  rintro e w1 ⟨rfl, hw⟩
  subst hw
  go_wp2_with fail
  refine (size0 D _ _ _ _ d0).mono ?_
  rintro e w2 ⟨rfl, hw⟩
  subst hw
  have hwa : wrap64 ((p : Int) + (bl : Int)) = (p : Int) + (bl : Int) := by unfold wrap64; omega
  have hwb : wrap64 ((p : Int) + (bl : Int) + (on : Int)) = (p : Int) + (bl : Int) + (on : Int) := by unfold wrap64; omega
  go_upto_region 8 with (fail)
  have d3n : ∀ n, (w2.drewN n).cell? ⟨D, 3, none⟩ = some (.slice oa on oc) := fun n => d3
  have d6n : ∀ n, (w2.drewN n).cell? ⟨D, 6, none⟩ = some (.int .i64 R) := fun n => d6
  go_cut [48] (fun x wx => x = .bool false ∧ ∃ n, wx = w2.drewN n)
  case first =>
    by_cases he : (zs.length : Int) < (p : Int) + (bl : Int)
    · have hed : decide ((zs.length : Int) < (p : Int) + (bl : Int)) = true := decide_eq_true he
      have hrl : (p : Int) + (bl : Int) + (on : Int) ≤ R := by omega
      have hrd : decide (R < (p : Int) + (bl : Int) + (on : Int)) = false := decide_eq_false (by omega)
      clear hfit
      go_quiet ((go_at_call 40; exact Calls.quiet_of_same (size1 D oa on oc _ d3)))
      go_wp2_with fail
      go_meet
      exact ⟨rfl, _, rfl⟩
    · have hed : decide ((zs.length : Int) < (p : Int) + (bl : Int)) = false := decide_eq_false he
      have he' : (p : Int) + (bl : Int) ≤ (zs.length : Int) := by omega
      clear hfit
      go_quiet (fail)
      go_wp2_with fail
      go_meet
      exact ⟨rfl, _, rfl⟩
  case rest =>
    obtain ⟨rfl, n, rfl⟩ := hcut
    clear hfit
    go_wp2_with fail
    refine (change_pass D (w2.drewN n) cs T armed fu fu' HPs.out HH.out.1 HH.out.2.1 HH.out.2.2).mono ?_
    rintro e w3 ⟨rfl, hc⟩
    have HC := Lib.hid hc
    clear hc
    go_wp2_with fail
    have hDv : ∀ g, (Value.slice va zs.length vc).ownBlock = some g → ¬ g = D := fun g hg => by have := (own_at HF.out.own hg).1; have := HB.out.1; omega
    have hDm : ∀ g, m = .map (some g) → ¬ g = D := fun g hg => by
      rcases HF.out.mp with ⟨e0, _⟩ | ⟨M, e0, hM, _⟩
      · rw [hg] at e0; cases e0
      · rw [hg] at e0; cases e0; have := HB.out.1; omega
    have HOn := Lib.hid (show Only (fun i => i = D) w2 w3 from ⟨HC.out.2.os, HC.out.2.tape, HC.out.2.output, HC.out.2.size, HC.out.2.block⟩)
    refine (fwrite_any w3 D 0 B _ T zs b L _ m p ba bl bc HC.out.1 ((Array.getElem?_setIfInBounds_ne (by omega)).trans HV.out.1) ((Array.getElem?_setIfInBounds_ne (by omega)).trans HV.out.2) HB.out.1 (Nat.le_trans HB.out.2 HOn.out.size) (HF.out.only HOn.out hDv hDm) HP.out hzl hll (isB_keep HBb.out HOn.out (isB_low HBb.out) (fun x h1 h2 e => HBo.out x h1 h2 (.inl e))) HBn.out hble hb5 HBo.out).mono ?_
    rintro e w4 ⟨rfl, hf⟩
    have HFp := Lib.hid hf
    clear hf hDv hDm
    go_wp2
    go_ret
    exact ⟨rfl, _, ⟨HC.out.1, HOn.out⟩, HFp.out⟩
set_option maxHeartbeats 3200000 in
theorem pwgone0 (w : World) (D B : Nat) (cs : Array Value) (T : TypeId) (R : Int) (zs b : List Int) (va : Option Addr) (vc : Nat) (oa : Option Addr) (on oc : Nat) (p : Nat) (ba : Option Addr) (bl bc : Nat) (hbox : w.heap[D]? = some (.cells cs T (0, 0))) (h6 : cs[6]? = some (.int .i64 R)) (h9 : cs[9]? = some (.bool false))
    (hv : cs[0]? = some (.slice va zs.length vc)) (hov : cs[3]? = some (.slice oa on oc)) (hp : p ≤ zs.length) (hzl : zs.length ≤ 1000000) (hon : on ≤ 1000000) (hb5 : bl ≤ 25000) (hfit : p + bl ≤ zs.length ∨ (p : Int) + (bl : Int) + (on : Int) ≤ R)
    (h7 : cs[7]? = some (.bool true)) (h8 : cs[8]? = some (.int .i64 0)) :
    Calls Try.prog 39 #[.pointer (some ⟨D, 0, none⟩), .int .i64 0, .int .i64 (p : Int), .slice ba bl bc] w fun e w' => e = .returned (.int .i64 16) ∧ ∃ n, w' = (w.drewN n).setCell ⟨D, 9, none⟩ (.bool true) := by
  have d9 := (cell_of_row w D 9 cs T _ hbox).trans h9
  have d6 := (cell_of_row w D 6 cs T _ hbox).trans h6
  have d0 := (cell_of_row w D 0 cs T _ hbox).trans hv
  have d3 := (cell_of_row w D 3 cs T _ hbox).trans hov
  have hpi : (p : Int) ≤ (zs.length : Int) := by omega
  have hp0 : (0 : Int) ≤ (p : Int) := by omega
  have HH := Lib.hid (And.intro hbox (And.intro h7 (And.intro h8 h9)))
  clear hbox h6 h9 hv hov h7 h8
  go_enter Try.func39, Try.ntmps39
  go_wp2_with fail
  refine (ready_ok D 0 (.inl rfl) _ d9).mono ?_
  rintro e w1 ⟨rfl, hw⟩
  subst hw
  go_wp2_with fail
  refine (size0 D _ _ _ _ d0).mono ?_
  rintro e w2 ⟨rfl, hw⟩
  subst hw
  have hwa : wrap64 ((p : Int) + (bl : Int)) = (p : Int) + (bl : Int) := by unfold wrap64; omega
  have hwb : wrap64 ((p : Int) + (bl : Int) + (on : Int)) = (p : Int) + (bl : Int) + (on : Int) := by unfold wrap64; omega
  go_upto_region 8 with (fail)
  have d3n : ∀ n, (w2.drewN n).cell? ⟨D, 3, none⟩ = some (.slice oa on oc) := fun n => d3
  have d6n : ∀ n, (w2.drewN n).cell? ⟨D, 6, none⟩ = some (.int .i64 R) := fun n => d6
  go_cut [48] (fun x wx => x = .bool false ∧ ∃ n, wx = w2.drewN n)
  case first =>
    by_cases he : (zs.length : Int) < (p : Int) + (bl : Int)
    · have hed : decide ((zs.length : Int) < (p : Int) + (bl : Int)) = true := decide_eq_true he
      have hrl : (p : Int) + (bl : Int) + (on : Int) ≤ R := by omega
      have hrd : decide (R < (p : Int) + (bl : Int) + (on : Int)) = false := decide_eq_false (by omega)
      clear hfit
      go_quiet ((go_at_call 40; exact Calls.quiet_of_same (size1 D oa on oc _ d3)))
      go_wp2_with fail
      go_meet
      exact ⟨rfl, _, rfl⟩
    · have hed : decide ((zs.length : Int) < (p : Int) + (bl : Int)) = false := decide_eq_false he
      have he' : (p : Int) + (bl : Int) ≤ (zs.length : Int) := by omega
      clear hfit
      go_quiet (fail)
      go_wp2_with fail
      go_meet
      exact ⟨rfl, _, rfl⟩
  case rest =>
    obtain ⟨rfl, n, rfl⟩ := hcut
    clear hfit
    go_wp2_with fail
    refine (change_gone D (w2.drewN n) cs T HH.out.1 HH.out.2.1 HH.out.2.2.1 _ HH.out.2.2.2).mono ?_
    rintro e w3 ⟨rfl, hw⟩
    go_wp2
    go_ret
    exact ⟨rfl, _, rfl⟩

set_option maxHeartbeats 3200000 in
theorem pfull1 (w : World) (D B : Nat) (cs : Array Value) (T : TypeId) (R : Int) (zs b : List Int) (va : Option Addr) (vc : Nat) (oa : Option Addr) (on oc : Nat) (p : Nat) (ba : Option Addr) (bl bc : Nat) (hbox : w.heap[D]? = some (.cells cs T (0, 0))) (h6 : cs[6]? = some (.int .i64 R)) (h9 : cs[9]? = some (.bool false))
    (hv : cs[3]? = some (.slice va zs.length vc)) (hov : cs[0]? = some (.slice oa on oc)) (hp : p ≤ zs.length) (hzl : zs.length ≤ 1000000) (hon : on ≤ 1000000) (hb5 : bl ≤ 25000) (hfull : zs.length < p + bl ∧ R < (p : Int) + (bl : Int) + (on : Int)) :
    Calls Try.prog 39 #[.pointer (some ⟨D, 0, none⟩), .int .i64 1, .int .i64 (p : Int), .slice ba bl bc] w fun e w' => e = .returned (.int .i64 15) ∧ ∃ n, w' = w.drewN n := by
  have d9 := (cell_of_row w D 9 cs T _ hbox).trans h9
  have d6 := (cell_of_row w D 6 cs T _ hbox).trans h6
  have d3 := (cell_of_row w D 3 cs T _ hbox).trans hv
  have d0 := (cell_of_row w D 0 cs T _ hbox).trans hov
  have hpi : (p : Int) ≤ (zs.length : Int) := by omega
  have hp0 : (0 : Int) ≤ (p : Int) := by omega
  clear hbox h6 h9 hv hov
  go_enter Try.func39, Try.ntmps39
  go_wp2_with fail
  refine (ready_ok D 1 (.inr rfl) _ d9).mono ?_
  rintro e w1 ⟨rfl, hw⟩
  subst hw
  go_wp2_with fail
  refine (size1 D _ _ _ _ d3).mono ?_
  rintro e w2 ⟨rfl, hw⟩
  subst hw
  have hwa : wrap64 ((p : Int) + (bl : Int)) = (p : Int) + (bl : Int) := by unfold wrap64; omega
  have hwb : wrap64 ((p : Int) + (bl : Int) + (on : Int)) = (p : Int) + (bl : Int) + (on : Int) := by unfold wrap64; omega
  go_upto_region 8 with (fail)
  have d0n : ∀ n, (w2.drewN n).cell? ⟨D, 0, none⟩ = some (.slice oa on oc) := fun n => d0
  have d6n : ∀ n, (w2.drewN n).cell? ⟨D, 6, none⟩ = some (.int .i64 R) := fun n => d6
  have hrl : R < (p : Int) + (bl : Int) + (on : Int) := hfull.2
  have hrd : decide (R < (p : Int) + (bl : Int) + (on : Int)) = true := decide_eq_true hrl
  have he : (zs.length : Int) < (p : Int) + (bl : Int) := by omega
  have hed : decide ((zs.length : Int) < (p : Int) + (bl : Int)) = true := decide_eq_true he
  clear hfull
  go_quiet ((go_at_call 40; exact Calls.quiet_of_same (size0 D oa on oc _ d0)))
  go_wp2
  go_ret
  exact ⟨rfl, _, rfl⟩
set_option maxHeartbeats 3200000 in
theorem pwrite1 (w : World) (D B : Nat) (cs : Array Value) (T : TypeId) (R : Int) (zs b : List Int) (va : Option Addr) (vc : Nat) (oa : Option Addr) (on oc : Nat) (p : Nat) (ba : Option Addr) (bl bc : Nat) (hbox : w.heap[D]? = some (.cells cs T (0, 0))) (h6 : cs[6]? = some (.int .i64 R)) (h9 : cs[9]? = some (.bool false))
    (hv : cs[3]? = some (.slice va zs.length vc)) (hov : cs[0]? = some (.slice oa on oc)) (hp : p ≤ zs.length) (hzl : zs.length ≤ 1000000) (hon : on ≤ 1000000) (hb5 : bl ≤ 25000) (hfit : p + bl ≤ zs.length ∨ (p : Int) + (bl : Int) + (on : Int) ≤ R)
    (L : List Lit) (m : Value) (armed : Bool) (fu fu' : Int) (hps : Passes armed fu fu') (h7 : cs[7]? = some (.bool armed)) (h8 : cs[8]? = some (.int .i64 fu)) (hm : cs[5]? = some m) (hDB : D < B) (hBw : B ≤ w.heap.size) (hF : FSt w B zs L (.slice va zs.length vc) m) (hll : L.length ≤ 1000000)
    (hb : IsB w ba bl b) (hbn : ba = none → bl = 0 ∧ bc = 0) (hble : bl ≤ bc) (hbo : ∀ x, bl ≠ 0 → ba = some x → ¬ ofFile D (.slice va zs.length vc) m x.block) :
    Calls Try.prog 39 #[.pointer (some ⟨D, 0, none⟩), .int .i64 1, .int .i64 (p : Int), .slice ba bl bc] w fun e w' => e = .returned (.int .i64 0) ∧ ∃ wc, ChP w D cs T fu' wc ∧ FPost wc D 3 B (cs.setIfInBounds 8 (.int .i64 fu')) T (.slice va zs.length vc) m (wrB zs b p) (L ++ secs p bl) w' := by
  have d9 := (cell_of_row w D 9 cs T _ hbox).trans h9
  have d6 := (cell_of_row w D 6 cs T _ hbox).trans h6
  have d3 := (cell_of_row w D 3 cs T _ hbox).trans hv
  have d0 := (cell_of_row w D 0 cs T _ hbox).trans hov
  have hpi : (p : Int) ≤ (zs.length : Int) := by omega
  have hp0 : (0 : Int) ≤ (p : Int) := by omega
  have HH := Lib.hid (And.intro hbox (And.intro h7 h8))
  have HV := Lib.hid (And.intro hv hm)
  have HB := Lib.hid (And.intro hDB hBw)
  have HF := Lib.hid hF
  have HP := Lib.hid hp
  have HPs := Lib.hid hps
  have HBb := Lib.hid hb
  have HBn := Lib.hid hbn
  have HBo := Lib.hid hbo
  clear hbox h6 h9 hv hov hps h7 h8 hm hDB hBw hF hb hbn hbo
  go_enter Try.func39, Try.ntmps39
  go_wp2_with fail
  refine (ready_ok D 1 (.inr rfl) _ d9).mono ?_
  rintro e w1 ⟨rfl, hw⟩
  subst hw
  go_wp2_with fail
  refine (size1 D _ _ _ _ d3).mono ?_
  rintro e w2 ⟨rfl, hw⟩
  subst hw
  have hwa : wrap64 ((p : Int) + (bl : Int)) = (p : Int) + (bl : Int) := by unfold wrap64; omega
  have hwb : wrap64 ((p : Int) + (bl : Int) + (on : Int)) = (p : Int) + (bl : Int) + (on : Int) := by unfold wrap64; omega
  go_upto_region 8 with (fail)
  have d0n : ∀ n, (w2.drewN n).cell? ⟨D, 0, none⟩ = some (.slice oa on oc) := fun n => d0
  have d6n : ∀ n, (w2.drewN n).cell? ⟨D, 6, none⟩ = some (.int .i64 R) := fun n => d6
  go_cut [48] (fun x wx => x = .bool false ∧ ∃ n, wx = w2.drewN n)
  case first =>
    by_cases he : (zs.length : Int) < (p : Int) + (bl : Int)
    · have hed : decide ((zs.length : Int) < (p : Int) + (bl : Int)) = true := decide_eq_true he
      have hrl : (p : Int) + (bl : Int) + (on : Int) ≤ R := by omega
      have hrd : decide (R < (p : Int) + (bl : Int) + (on : Int)) = false := decide_eq_false (by omega)
      clear hfit
      go_quiet ((go_at_call 40; exact Calls.quiet_of_same (size0 D oa on oc _ d0)))
      go_wp2_with fail
      go_meet
      exact ⟨rfl, _, rfl⟩
    · have hed : decide ((zs.length : Int) < (p : Int) + (bl : Int)) = false := decide_eq_false he
      have he' : (p : Int) + (bl : Int) ≤ (zs.length : Int) := by omega
      clear hfit
      go_quiet (fail)
      go_wp2_with fail
      go_meet
      exact ⟨rfl, _, rfl⟩
  case rest =>
    obtain ⟨rfl, n, rfl⟩ := hcut
    clear hfit
    go_wp2_with fail
    refine (change_pass D (w2.drewN n) cs T armed fu fu' HPs.out HH.out.1 HH.out.2.1 HH.out.2.2).mono ?_
    rintro e w3 ⟨rfl, hc⟩
    have HC := Lib.hid hc
    clear hc
    go_wp2_with fail
    have hDv : ∀ g, (Value.slice va zs.length vc).ownBlock = some g → ¬ g = D := fun g hg => by have := (own_at HF.out.own hg).1; have := HB.out.1; omega
    have hDm : ∀ g, m = .map (some g) → ¬ g = D := fun g hg => by
      rcases HF.out.mp with ⟨e0, _⟩ | ⟨M, e0, hM, _⟩
      · rw [hg] at e0; cases e0
      · rw [hg] at e0; cases e0; have := HB.out.1; omega
    have HOn := Lib.hid (show Only (fun i => i = D) w2 w3 from ⟨HC.out.2.os, HC.out.2.tape, HC.out.2.output, HC.out.2.size, HC.out.2.block⟩)
    refine (fwrite_any w3 D 3 B _ T zs b L _ m p ba bl bc HC.out.1 ((Array.getElem?_setIfInBounds_ne (by omega)).trans HV.out.1) ((Array.getElem?_setIfInBounds_ne (by omega)).trans HV.out.2) HB.out.1 (Nat.le_trans HB.out.2 HOn.out.size) (HF.out.only HOn.out hDv hDm) HP.out hzl hll (isB_keep HBb.out HOn.out (isB_low HBb.out) (fun x h1 h2 e => HBo.out x h1 h2 (.inl e))) HBn.out hble hb5 HBo.out).mono ?_
    rintro e w4 ⟨rfl, hf⟩
    have HFp := Lib.hid hf
    clear hf hDv hDm
    go_wp2
    go_ret
    exact ⟨rfl, _, ⟨HC.out.1, HOn.out⟩, HFp.out⟩
set_option maxHeartbeats 3200000 in
theorem pwgone1 (w : World) (D B : Nat) (cs : Array Value) (T : TypeId) (R : Int) (zs b : List Int) (va : Option Addr) (vc : Nat) (oa : Option Addr) (on oc : Nat) (p : Nat) (ba : Option Addr) (bl bc : Nat) (hbox : w.heap[D]? = some (.cells cs T (0, 0))) (h6 : cs[6]? = some (.int .i64 R)) (h9 : cs[9]? = some (.bool false))
    (hv : cs[3]? = some (.slice va zs.length vc)) (hov : cs[0]? = some (.slice oa on oc)) (hp : p ≤ zs.length) (hzl : zs.length ≤ 1000000) (hon : on ≤ 1000000) (hb5 : bl ≤ 25000) (hfit : p + bl ≤ zs.length ∨ (p : Int) + (bl : Int) + (on : Int) ≤ R)
    (h7 : cs[7]? = some (.bool true)) (h8 : cs[8]? = some (.int .i64 0)) :
    Calls Try.prog 39 #[.pointer (some ⟨D, 0, none⟩), .int .i64 1, .int .i64 (p : Int), .slice ba bl bc] w fun e w' => e = .returned (.int .i64 16) ∧ ∃ n, w' = (w.drewN n).setCell ⟨D, 9, none⟩ (.bool true) := by
  have d9 := (cell_of_row w D 9 cs T _ hbox).trans h9
  have d6 := (cell_of_row w D 6 cs T _ hbox).trans h6
  have d3 := (cell_of_row w D 3 cs T _ hbox).trans hv
  have d0 := (cell_of_row w D 0 cs T _ hbox).trans hov
  have hpi : (p : Int) ≤ (zs.length : Int) := by omega
  have hp0 : (0 : Int) ≤ (p : Int) := by omega
  have HH := Lib.hid (And.intro hbox (And.intro h7 (And.intro h8 h9)))
  clear hbox h6 h9 hv hov h7 h8
  go_enter Try.func39, Try.ntmps39
  go_wp2_with fail
  refine (ready_ok D 1 (.inr rfl) _ d9).mono ?_
  rintro e w1 ⟨rfl, hw⟩
  subst hw
  go_wp2_with fail
  refine (size1 D _ _ _ _ d3).mono ?_
  rintro e w2 ⟨rfl, hw⟩
  subst hw
  have hwa : wrap64 ((p : Int) + (bl : Int)) = (p : Int) + (bl : Int) := by unfold wrap64; omega
  have hwb : wrap64 ((p : Int) + (bl : Int) + (on : Int)) = (p : Int) + (bl : Int) + (on : Int) := by unfold wrap64; omega
  go_upto_region 8 with (fail)
  have d0n : ∀ n, (w2.drewN n).cell? ⟨D, 0, none⟩ = some (.slice oa on oc) := fun n => d0
  have d6n : ∀ n, (w2.drewN n).cell? ⟨D, 6, none⟩ = some (.int .i64 R) := fun n => d6
  go_cut [48] (fun x wx => x = .bool false ∧ ∃ n, wx = w2.drewN n)
  case first =>
    by_cases he : (zs.length : Int) < (p : Int) + (bl : Int)
    · have hed : decide ((zs.length : Int) < (p : Int) + (bl : Int)) = true := decide_eq_true he
      have hrl : (p : Int) + (bl : Int) + (on : Int) ≤ R := by omega
      have hrd : decide (R < (p : Int) + (bl : Int) + (on : Int)) = false := decide_eq_false (by omega)
      clear hfit
      go_quiet ((go_at_call 40; exact Calls.quiet_of_same (size0 D oa on oc _ d0)))
      go_wp2_with fail
      go_meet
      exact ⟨rfl, _, rfl⟩
    · have hed : decide ((zs.length : Int) < (p : Int) + (bl : Int)) = false := decide_eq_false he
      have he' : (p : Int) + (bl : Int) ≤ (zs.length : Int) := by omega
      clear hfit
      go_quiet (fail)
      go_wp2_with fail
      go_meet
      exact ⟨rfl, _, rfl⟩
  case rest =>
    obtain ⟨rfl, n, rfl⟩ := hcut
    clear hfit
    go_wp2_with fail
    refine (change_gone D (w2.drewN n) cs T HH.out.1 HH.out.2.1 HH.out.2.2.1 _ HH.out.2.2.2).mono ?_
    rintro e w3 ⟨rfl, hw⟩
    go_wp2
    go_ret
    exact ⟨rfl, _, rfl⟩
end Go.Proofs.Ytafhgilikcablaa
