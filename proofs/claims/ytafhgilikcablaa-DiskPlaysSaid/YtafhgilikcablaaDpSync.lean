/- Contract of a disk's Sync, whatever was synced before and whatever the fuse. -/
import Derived.Test.YtafhgilikcablaaDpCh
import Derived.Test.YtafhgilikcablaaDpSetL
namespace Go.Proofs.Ytafhgilikcablaa
open Go.RowKit Go.Maps
set_option linter.unusedVariables false
set_option maxRecDepth 100000

set_option maxHeartbeats 1600000 in
theorem psync0 (w : World) (D B : Nat) (cs : Array Value) (T : TypeId) (zs ys : List Int) (L : List Lit) (v s m : Value) (armed : Bool) (fu fu' : Int) (hp : Passes armed fu fu') (hbox : w.heap[D]? = some (.cells cs T (0, 0))) (h7 : cs[7]? = some (.bool armed)) (h8 : cs[8]? = some (.int .i64 fu)) (h9 : cs[9]? = some (.bool false))
    (hv : cs[0]? = some v) (hs : cs[1]? = some s) (hm : cs[2]? = some m)
    (hDB : D < B) (hBw : B ≤ w.heap.size) (hF : FSt w B zs L v m) (hY : w.ownsRow B 5 1 s ys.length (ys.map (Value.int .u8))) (hap : ∀ g, v.ownBlock = some g → s.ownBlock ≠ some g)
    (hu : ∀ i, i < ys.length → i < zs.length → sk (i / 64) ∉ L → ys.getD i 0 = zs.getD i 0) (hzl : zs.length ≤ 1000000) (hk : SecK L) :
    Calls Try.prog 43 #[.pointer (some ⟨D, 0, none⟩), .int .i64 0] w fun e w' => e = .returned (.int .i64 0) ∧ ∃ wc, ChP w D cs T fu' wc ∧ SetP wc D 0 B (cs.setIfInBounds 8 (.int .i64 fu')) T s zs w' := by
  have d9 := (cell_of_row w D 9 cs T _ hbox).trans h9
  have HP := Lib.hid hp
  have HH := Lib.hid (And.intro hbox (And.intro h7 h8))
  have HV := Lib.hid (And.intro hv (And.intro hs hm))
  have HB := Lib.hid (And.intro hDB hBw)
  have HF := Lib.hid hF
  have HY := Lib.hid hY
  have HAp := Lib.hid hap
  have HU := Lib.hid hu
  have HK := Lib.hid hk
  clear hp hbox h7 h8 h9 hv hs hm hDB hBw hF hY hap hu hk
  go_enter Try.func43, Try.ntmps43
  go_wp2_with fail
  refine (ready_ok D 0 (.inl rfl) _ d9).mono ?_
  rintro e w1 ⟨rfl, hw⟩
  subst hw
  go_wp2_with fail
  refine (change_pass D _ cs T armed fu fu' HP.out HH.out.1 HH.out.2.1 HH.out.2.2).mono ?_
  rintro e w2 ⟨rfl, hc⟩
  have HC := Lib.hid hc
  clear hc d9
  go_wp2_with fail
  have hDv : ∀ g, v.ownBlock = some g → ¬ g = D := fun g hg => by have := (own_at HF.out.own hg).1; have := HB.out.1; omega
  have hDs : ∀ g, s.ownBlock = some g → ¬ g = D := fun g hg => by have := (own_at HY.out hg).1; have := HB.out.1; omega
  have hDm : ∀ g, m = .map (some g) → ¬ g = D := fun g hg => by
    rcases HF.out.mp with ⟨e0, _⟩ | ⟨M, e0, hM, _⟩
    · rw [hg] at e0; cases e0
    · rw [hg] at e0; cases e0; have := HB.out.1; omega
  refine (settle_any _ D 0 B _ T zs ys L v s m HC.out.1 ((Array.getElem?_setIfInBounds_ne (by omega)).trans HV.out.1) ((Array.getElem?_setIfInBounds_ne (by omega)).trans HV.out.2.1) ((Array.getElem?_setIfInBounds_ne (by omega)).trans HV.out.2.2) HB.out.1 (Nat.le_trans HB.out.2 HC.out.2.size) (HF.out.only HC.out.2 hDv hDm) (own_only HY.out HC.out.2 hDs) HAp.out HU.out hzl HK.out).mono ?_
  rintro e w3 ⟨rfl, hs⟩
  have HS := Lib.hid hs
  clear hs hDv hDs hDm
  go_wp2
  go_ret
  exact ⟨rfl, _, HC.out, HS.out⟩

set_option maxHeartbeats 1600000 in
theorem psync1 (w : World) (D B : Nat) (cs : Array Value) (T : TypeId) (zs ys : List Int) (L : List Lit) (v s m : Value) (armed : Bool) (fu fu' : Int) (hp : Passes armed fu fu') (hbox : w.heap[D]? = some (.cells cs T (0, 0))) (h7 : cs[7]? = some (.bool armed)) (h8 : cs[8]? = some (.int .i64 fu)) (h9 : cs[9]? = some (.bool false))
    (hv : cs[3]? = some v) (hs : cs[4]? = some s) (hm : cs[5]? = some m)
    (hDB : D < B) (hBw : B ≤ w.heap.size) (hF : FSt w B zs L v m) (hY : w.ownsRow B 5 1 s ys.length (ys.map (Value.int .u8))) (hap : ∀ g, v.ownBlock = some g → s.ownBlock ≠ some g)
    (hu : ∀ i, i < ys.length → i < zs.length → sk (i / 64) ∉ L → ys.getD i 0 = zs.getD i 0) (hzl : zs.length ≤ 1000000) (hk : SecK L) :
    Calls Try.prog 43 #[.pointer (some ⟨D, 0, none⟩), .int .i64 1] w fun e w' => e = .returned (.int .i64 0) ∧ ∃ wc, ChP w D cs T fu' wc ∧ SetP wc D 3 B (cs.setIfInBounds 8 (.int .i64 fu')) T s zs w' := by
  have d9 := (cell_of_row w D 9 cs T _ hbox).trans h9
  have HP := Lib.hid hp
  have HH := Lib.hid (And.intro hbox (And.intro h7 h8))
  have HV := Lib.hid (And.intro hv (And.intro hs hm))
  have HB := Lib.hid (And.intro hDB hBw)
  have HF := Lib.hid hF
  have HY := Lib.hid hY
  have HAp := Lib.hid hap
  have HU := Lib.hid hu
  have HK := Lib.hid hk
  clear hp hbox h7 h8 h9 hv hs hm hDB hBw hF hY hap hu hk
  go_enter Try.func43, Try.ntmps43
  go_wp2_with fail
  refine (ready_ok D 1 (.inr rfl) _ d9).mono ?_
  rintro e w1 ⟨rfl, hw⟩
  subst hw
  go_wp2_with fail
  refine (change_pass D _ cs T armed fu fu' HP.out HH.out.1 HH.out.2.1 HH.out.2.2).mono ?_
  rintro e w2 ⟨rfl, hc⟩
  have HC := Lib.hid hc
  clear hc d9
  go_wp2_with fail
  have hDv : ∀ g, v.ownBlock = some g → ¬ g = D := fun g hg => by have := (own_at HF.out.own hg).1; have := HB.out.1; omega
  have hDs : ∀ g, s.ownBlock = some g → ¬ g = D := fun g hg => by have := (own_at HY.out hg).1; have := HB.out.1; omega
  have hDm : ∀ g, m = .map (some g) → ¬ g = D := fun g hg => by
    rcases HF.out.mp with ⟨e0, _⟩ | ⟨M, e0, hM, _⟩
    · rw [hg] at e0; cases e0
    · rw [hg] at e0; cases e0; have := HB.out.1; omega
  refine (settle_any _ D 3 B _ T zs ys L v s m HC.out.1 ((Array.getElem?_setIfInBounds_ne (by omega)).trans HV.out.1) ((Array.getElem?_setIfInBounds_ne (by omega)).trans HV.out.2.1) ((Array.getElem?_setIfInBounds_ne (by omega)).trans HV.out.2.2) HB.out.1 (Nat.le_trans HB.out.2 HC.out.2.size) (HF.out.only HC.out.2 hDv hDm) (own_only HY.out HC.out.2 hDs) HAp.out HU.out hzl HK.out).mono ?_
  rintro e w3 ⟨rfl, hs⟩
  have HS := Lib.hid hs
  clear hs hDv hDs hDm
  go_wp2
  go_ret
  exact ⟨rfl, _, HC.out, HS.out⟩
end Go.Proofs.Ytafhgilikcablaa
