/- Contract of a disk's Truncate. (Written by gendptr.py.) -/
import Derived.Test.YtafhgilikcablaaDpSync
namespace Go.Proofs.Ytafhgilikcablaa
open Go.RowKit Go.Maps
set_option linter.unusedVariables false
set_option maxRecDepth 100000
/-- a file cut: its bytes are the first n ones, and its sectors are as they were -/
theorem FSt.cut {w : World} {B n c : Nat} {zs : List Int} {L : List Lit} {a : Option Addr} {m : Value} (h : FSt w B zs L (.slice a zs.length c) m) (hn : n ≤ zs.length) : FSt w B (zs.take n) L (.slice a n c) m :=
  ⟨own_prefix h.own hn, fun z hz => h.rg z (List.mem_of_mem_take hz), h.mp⟩
/-- what Truncate leaves -/
def TrP (w : World) (D off B : Nat) (cs : Array Value) (T : TypeId) (v' s : Value) (zs : List Int) (fu' : Int) (w' : World) : Prop :=
  ∃ wd, wd.heap[D]? = some (.cells ((cs.setIfInBounds 8 (.int .i64 fu')).setIfInBounds off v') T (0, 0)) ∧ Only (fun i => i = D) w wd ∧ SetP wd D off B ((cs.setIfInBounds 8 (.int .i64 fu')).setIfInBounds off v') T s zs w'

set_option maxHeartbeats 1600000 in
theorem ptrunc0 (w : World) (D B : Nat) (cs : Array Value) (T : TypeId) (zs ys : List Int) (L : List Lit) (va : Option Addr) (vc n : Nat) (s m : Value) (armed : Bool) (fu fu' : Int) (hn : n ≤ zs.length) (hp : Passes armed fu fu') (hbox : w.heap[D]? = some (.cells cs T (0, 0))) (h7 : cs[7]? = some (.bool armed)) (h8 : cs[8]? = some (.int .i64 fu)) (h9 : cs[9]? = some (.bool false))
    (hv : cs[0]? = some (.slice va zs.length vc)) (hs : cs[1]? = some s) (hm : cs[2]? = some m)
    (hDB : D < B) (hBw : B ≤ w.heap.size) (hF : FSt w B zs L (.slice va zs.length vc) m) (hY : w.ownsRow B 5 1 s ys.length (ys.map (Value.int .u8))) (hap : ∀ g, (Value.slice va zs.length vc).ownBlock = some g → s.ownBlock ≠ some g)
    (hu : ∀ i, i < ys.length → i < zs.length → sk (i / 64) ∉ L → ys.getD i 0 = zs.getD i 0) (hzl : zs.length ≤ 1000000) (hk : SecK L) :
    Calls Try.prog 45 #[.pointer (some ⟨D, 0, none⟩), .int .i64 0, .int .i64 (n : Int)] w fun e w' => e = .returned (.int .i64 0) ∧ TrP w D 0 B cs T (.slice va n vc) s (zs.take n) fu' w' := by
  obtain ⟨va2, vL2, vc2, hve2, hvL2, hvI, hvlo, hvn, hvle, hvB⟩ := own_any hF.own hF.rg
  cases hve2
  have d9 := (cell_of_row w D 9 cs T _ hbox).trans h9
  have d0 := (cell_of_row w D 0 cs T _ hbox).trans hv
  have HP := Lib.hid hp
  have HH := Lib.hid (And.intro hbox (And.intro h7 h8))
  have HV := Lib.hid (And.intro hv (And.intro hs hm))
  have HB := Lib.hid (And.intro hDB hBw)
  have HF := Lib.hid hF
  have HY := Lib.hid hY
  have HAp := Lib.hid hap
  have HU := Lib.hid hu
  have HK := Lib.hid hk
  have HN := Lib.hid hn
  have hn0 : (0 : Int) ≤ (n : Int) := by omega
  have hn1 : (n : Int) ≤ (zs.length : Int) := by omega
  have hs1 := slice_h va zs.length vc n (by omega) .i64
  clear hp hbox h7 h8 h9 hv hs hm hDB hBw hF hY hap hu hk hn hvI hvlo hvn hvB hvL2 hvle
  go_enter Try.func45, Try.ntmps45
  go_wp2_with fail
  refine (ready_ok D 0 (.inl rfl) _ d9).mono ?_
  rintro e w1 ⟨rfl, hw⟩
  subst hw
  go_wp2_with fail
  refine (size0 D va zs.length vc _ d0).mono ?_
  rintro e w1 ⟨rfl, hw⟩
  subst hw
  go_wp2_with fail
  refine (change_pass D _ cs T armed fu fu' HP.out HH.out.1 HH.out.2.1 HH.out.2.2).mono ?_
  rintro e w2 ⟨rfl, hc⟩
  have HC := Lib.hid hc
  have e0 := (cell_of_row w2 D 0 _ T _ hc.1).trans ((Array.getElem?_setIfInBounds_ne (by omega)).trans HV.out.1)
  have rz := frozen_of_row w2 D 0 _ T hc.1
  have rlt : D < w2.heap.size := (Array.getElem?_eq_some_iff.1 hc.1).1
  have HB6 := Lib.hid (Go.heap_setCell_same w2 D 0 _ _ (.slice va n vc) hc.1)
  have HOn := Lib.hid (show Only (fun i => i = D) _ (w2.setCell ⟨D, 0, none⟩ (.slice va n vc)) from HC.out.2.trans (Only.set (S := fun i => i = D) (Only.refl _ w2) rfl _))
  clear hc d9 d0
  go_upto_region 11 with (fail)
  clear e0 rz rlt hs1
  generalize w2.setCell ⟨D, 0, none⟩ (.slice va n vc) = wd at *
  go_wp2_with fail
  have hDv : ∀ g, (Value.slice va zs.length vc).ownBlock = some g → ¬ g = D := fun g hg => by have := (own_at HF.out.own hg).1; have := HB.out.1; omega
  have hDs : ∀ g, s.ownBlock = some g → ¬ g = D := fun g hg => by have := (own_at HY.out hg).1; have := HB.out.1; omega
  have hDm : ∀ g, m = .map (some g) → ¬ g = D := fun g hg => by
    rcases HF.out.mp with ⟨e0, _⟩ | ⟨M, e0, hM, _⟩
    · rw [hg] at e0; cases e0
    · rw [hg] at e0; cases e0; have := HB.out.1; omega
  have hsz : cs.size > 0 := (Array.getElem?_eq_some_iff.1 HV.out.1).1
  refine (settle_any _ D 0 B _ T (zs.take n) ys L (.slice va n vc) s m HB6.out (Array.getElem?_setIfInBounds_self_of_lt (by rw [Array.size_setIfInBounds]; exact hsz)) ((Array.getElem?_setIfInBounds_ne (by omega)).trans ((Array.getElem?_setIfInBounds_ne (by omega)).trans HV.out.2.1)) ((Array.getElem?_setIfInBounds_ne (by omega)).trans ((Array.getElem?_setIfInBounds_ne (by omega)).trans HV.out.2.2)) HB.out.1 (Nat.le_trans HB.out.2 HOn.out.size) ((HF.out.only HOn.out hDv hDm).cut HN.out) (own_only HY.out HOn.out hDs)
    (fun g hg => HAp.out g ((own_len va zs.length n vc).trans hg)) (fun i h1 h2 h3 => by
      rw [List.length_take] at h2
      rw [List.getD_eq_getElem?_getD (l := zs.take n), List.getElem?_take, if_pos (by omega), ← List.getD_eq_getElem?_getD]
      exact HU.out i h1 (by omega) h3) (by rw [List.length_take]; omega) HK.out).mono ?_
  rintro e w3 ⟨rfl, hs⟩
  have HS := Lib.hid hs
  clear hs hDv hDs hDm
  go_wp2
  go_ret
  exact ⟨rfl, _, HB6.out, HOn.out, HS.out⟩

set_option maxHeartbeats 1600000 in
theorem ptrunc1 (w : World) (D B : Nat) (cs : Array Value) (T : TypeId) (zs ys : List Int) (L : List Lit) (va : Option Addr) (vc n : Nat) (s m : Value) (armed : Bool) (fu fu' : Int) (hn : n ≤ zs.length) (hp : Passes armed fu fu') (hbox : w.heap[D]? = some (.cells cs T (0, 0))) (h7 : cs[7]? = some (.bool armed)) (h8 : cs[8]? = some (.int .i64 fu)) (h9 : cs[9]? = some (.bool false))
    (hv : cs[3]? = some (.slice va zs.length vc)) (hs : cs[4]? = some s) (hm : cs[5]? = some m)
    (hDB : D < B) (hBw : B ≤ w.heap.size) (hF : FSt w B zs L (.slice va zs.length vc) m) (hY : w.ownsRow B 5 1 s ys.length (ys.map (Value.int .u8))) (hap : ∀ g, (Value.slice va zs.length vc).ownBlock = some g → s.ownBlock ≠ some g)
    (hu : ∀ i, i < ys.length → i < zs.length → sk (i / 64) ∉ L → ys.getD i 0 = zs.getD i 0) (hzl : zs.length ≤ 1000000) (hk : SecK L) :
    Calls Try.prog 45 #[.pointer (some ⟨D, 0, none⟩), .int .i64 1, .int .i64 (n : Int)] w fun e w' => e = .returned (.int .i64 0) ∧ TrP w D 3 B cs T (.slice va n vc) s (zs.take n) fu' w' := by
  obtain ⟨va2, vL2, vc2, hve2, hvL2, hvI, hvlo, hvn, hvle, hvB⟩ := own_any hF.own hF.rg
  cases hve2
  have d9 := (cell_of_row w D 9 cs T _ hbox).trans h9
  have d0 := (cell_of_row w D 3 cs T _ hbox).trans hv
  have HP := Lib.hid hp
  have HH := Lib.hid (And.intro hbox (And.intro h7 h8))
  have HV := Lib.hid (And.intro hv (And.intro hs hm))
  have HB := Lib.hid (And.intro hDB hBw)
  have HF := Lib.hid hF
  have HY := Lib.hid hY
  have HAp := Lib.hid hap
  have HU := Lib.hid hu
  have HK := Lib.hid hk
  have HN := Lib.hid hn
  have hn0 : (0 : Int) ≤ (n : Int) := by omega
  have hn1 : (n : Int) ≤ (zs.length : Int) := by omega
  have hs1 := slice_h va zs.length vc n (by omega) .i64
  clear hp hbox h7 h8 h9 hv hs hm hDB hBw hF hY hap hu hk hn hvI hvlo hvn hvB hvL2 hvle
  go_enter Try.func45, Try.ntmps45
  go_wp2_with fail
  refine (ready_ok D 1 (.inr rfl) _ d9).mono ?_
  rintro e w1 ⟨rfl, hw⟩
  subst hw
  go_wp2_with fail
  refine (size1 D va zs.length vc _ d0).mono ?_
  rintro e w1 ⟨rfl, hw⟩
  subst hw
  go_wp2_with fail
  refine (change_pass D _ cs T armed fu fu' HP.out HH.out.1 HH.out.2.1 HH.out.2.2).mono ?_
  rintro e w2 ⟨rfl, hc⟩
  have HC := Lib.hid hc
  have e0 := (cell_of_row w2 D 3 _ T _ hc.1).trans ((Array.getElem?_setIfInBounds_ne (by omega)).trans HV.out.1)
  have rz := frozen_of_row w2 D 3 _ T hc.1
  have rlt : D < w2.heap.size := (Array.getElem?_eq_some_iff.1 hc.1).1
  have HB6 := Lib.hid (Go.heap_setCell_same w2 D 3 _ _ (.slice va n vc) hc.1)
  have HOn := Lib.hid (show Only (fun i => i = D) _ (w2.setCell ⟨D, 3, none⟩ (.slice va n vc)) from HC.out.2.trans (Only.set (S := fun i => i = D) (Only.refl _ w2) rfl _))
  clear hc d9 d0
  go_upto_region 11 with (fail)
  clear e0 rz rlt hs1
  generalize w2.setCell ⟨D, 3, none⟩ (.slice va n vc) = wd at *
  go_wp2_with fail
  have hDv : ∀ g, (Value.slice va zs.length vc).ownBlock = some g → ¬ g = D := fun g hg => by have := (own_at HF.out.own hg).1; have := HB.out.1; omega
  have hDs : ∀ g, s.ownBlock = some g → ¬ g = D := fun g hg => by have := (own_at HY.out hg).1; have := HB.out.1; omega
  have hDm : ∀ g, m = .map (some g) → ¬ g = D := fun g hg => by
    rcases HF.out.mp with ⟨e0, _⟩ | ⟨M, e0, hM, _⟩
    · rw [hg] at e0; cases e0
    · rw [hg] at e0; cases e0; have := HB.out.1; omega
  have hsz : cs.size > 3 := (Array.getElem?_eq_some_iff.1 HV.out.1).1
  refine (settle_any _ D 3 B _ T (zs.take n) ys L (.slice va n vc) s m HB6.out (Array.getElem?_setIfInBounds_self_of_lt (by rw [Array.size_setIfInBounds]; exact hsz)) ((Array.getElem?_setIfInBounds_ne (by omega)).trans ((Array.getElem?_setIfInBounds_ne (by omega)).trans HV.out.2.1)) ((Array.getElem?_setIfInBounds_ne (by omega)).trans ((Array.getElem?_setIfInBounds_ne (by omega)).trans HV.out.2.2)) HB.out.1 (Nat.le_trans HB.out.2 HOn.out.size) ((HF.out.only HOn.out hDv hDm).cut HN.out) (own_only HY.out HOn.out hDs)
    (fun g hg => HAp.out g ((own_len va zs.length n vc).trans hg)) (fun i h1 h2 h3 => by
      rw [List.length_take] at h2
      rw [List.getD_eq_getElem?_getD (l := zs.take n), List.getElem?_take, if_pos (by omega), ← List.getD_eq_getElem?_getD]
      exact HU.out i h1 (by omega) h3) (by rw [List.length_take]; omega) HK.out).mono ?_
  rintro e w3 ⟨rfl, hs⟩
  have HS := Lib.hid hs
  clear hs hDv hDs hDm
  go_wp2
  go_ret
  exact ⟨rfl, _, HB6.out, HOn.out, HS.out⟩
end Go.Proofs.Ytafhgilikcablaa
