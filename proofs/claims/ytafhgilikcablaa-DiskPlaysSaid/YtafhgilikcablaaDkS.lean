/- Contracts: a file's sector; settle of a file that was never synced. -/
import Derived.Test.YtafhgilikcablaaDkL
import Derived.Maps.RangeWalk
import Derived.Laws.IdiomRangeMap
namespace Go.Proofs.Ytafhgilikcablaa
open Go.RowKit Go.Maps
set_option linter.unusedVariables false
set_option maxRecDepth 100000

set_option maxHeartbeats 1600000 in
theorem fsector (w : World) (D off : Nat) (a : Option Addr) (n c s : Nat) (hs : s ≤ 100000) (hn : n ≤ 2000000) (q0 : w.cell? ⟨D, off, none⟩ = some (.slice a n c)) :
    Calls Try.prog 128 #[.pointer (some ⟨D, off, none⟩), .int .i64 (s : Int)] w fun e w' => e = .returned (.tuple #[.int .i64 ((min (s * 64) n : Nat) : Int), .int .i64 ((min (s * 64 + 64) n : Nat) : Int)]) ∧ ∃ k, w' = w.drewN k := by
  have hw1 : wrap64 ((s : Int) * 64) = (s : Int) * 64 := by unfold wrap64; omega
  have hw2 : IntKind.i64.wrap ((s : Int) * 64 + 64) = (s : Int) * 64 + 64 := by rw [IntKind.wrap_i64]; omega
  have hw3 : IntKind.i64.wrap ((s : Int) * 64) = (s : Int) * 64 := by rw [IntKind.wrap_i64]; omega
  have q0n : ∀ k, (w.drewN k).cell? ⟨D, off, none⟩ = some (.slice a n c) := fun k => q0
  obtain ⟨p, hp⟩ : ∃ p, p = min (s * 64) n := ⟨_, rfl⟩
  obtain ⟨q, hq⟩ : ∃ q, q = min (s * 64 + 64) n := ⟨_, rfl⟩
  have E1 := Lib.hid (show min ((s : Int) * 64) (n : Int) = (p : Int) by omega)
  have E2 := Lib.hid (show min ((s : Int) * 64 + 64) (n : Int) = (q : Int) by omega)
  rw [← hp, ← hq]
  clear hp hq
  go_enter Try.func128, Try.ntmps128
  go_wp2_with fail
  go_quiet (fail)
  rw [E1.out, E2.out]
  clear hw1 hw2 hw3
  go_wp2
  go_ret2
  exact ⟨rfl, _, rfl⟩

theorem has_fold {H : Type} (u : DataW H) (k : Lit) : ∀ (L : List Lit) (D : DataW H), has (L.foldl (fun m x => m.put x u) D) k = true → has D k = true ∨ k ∈ L
  | [], D, h => .inl h
  | x :: L, D, h => by
    rcases has_fold u k L (D.put x u) h with h1 | h1
    · by_cases e : k = x
      · exact .inr (by rw [e]; exact List.mem_cons_self)
      · rw [has_put_other e] at h1
        exact .inl h1
    · exact .inr (List.mem_cons_of_mem _ h1)
theorem has_setOf {H : Type} {u : DataW H} {L : List Lit} {k : Lit} (h : has (setOf u L) k = true) : k ∈ L := by
  rcases has_fold u k L _ h with h | h
  · cases h
  · exact h
/-- the sectors' keys -/
def SecK (L : List Lit) : Prop := ∀ k ∈ L, ∃ s : Nat, s ≤ 100000 ∧ k = sk s
theorem SecK.key {L : List Lit} (h : SecK L) : ∀ k ∈ L, WideAt.IsKeyLit k := fun k hk => by
  obtain ⟨s, hs, rfl⟩ := h k hk
  exact (Go.Maps.int_keyed Try.underlying3).key (Go.Maps.keyOf_int_mk Try.underlying3 (sk_wf hs))
theorem SecK.app {L M : List Lit} (h : SecK L) (k : SecK M) : SecK (L ++ M) := fun x hx => (List.mem_append.1 hx).elim (h x) (k x)
theorem secs_secK {p n : Nat} (h : p + n ≤ 2000000) : SecK (secs p n) := fun k hk => by
  rw [secs_nS] at hk
  obtain ⟨s, hs, rfl⟩ := List.mem_map.1 hk
  have := List.mem_range'_1.1 hs
  refine ⟨s, ?_, rfl⟩
  unfold nS at this
  split at this <;> omega
/-- behind settle: the new row in its cell, no sectors -/
def Settled (w : World) (D off : Nat) (cs : Array Value) (T : TypeId) (zs : List Int) (w' : World) : Prop :=
  ∃ v', w'.ownsRow w.heap.size 5 1 v' zs.length (zs.map (Value.int .u8)) ∧ w'.heap[D]? = some (.cells ((cs.setIfInBounds (off + 1) v').setIfInBounds (off + 2) (.map none)) T (0, 0)) ∧ Only (fun i => i = D) w w'

theorem own_base {w : World} {B B' : Nat} {e : TypeId} {size n : Nat} {v : Value} {xs : List Value} (h : w.ownsRow B' e size v n xs) (hB : B ≤ B') : w.ownsRow B e size v n xs :=
  ⟨h.1, h.2.imp id (fun ⟨g, cap, cur, e, b, r⟩ => ⟨g, cap, cur, e, Nat.le_trans hB b, r⟩)⟩
theorem settle_end {w wq w' : World} {D off : Nat} {cs : Array Value} {T : TypeId} {zs : List Int} {v' : Value} (hb : Below w.heap.size w wq) (hbox : w.heap[D]? = some (.cells cs T (0, 0)))
    (hown : w'.ownsRow wq.heap.size 5 1 v' zs.length (zs.map (Value.int .u8))) (hg : wq.drew.grownBy w' none) : Settled w D off cs T zs ((w'.setCell ⟨D, off + 1, none⟩ v').setCell ⟨D, off + 2, none⟩ (.map none)) := by
  have hD : D < w.heap.size := (Array.getElem?_eq_some_iff.1 hbox).1
  have hx1 : w'.heap[D]? = some (.cells cs T (0, 0)) := (hg.block D (Nat.lt_of_lt_of_le hD hb.size) (fun e => by cases e)).trans ((hb.block D hD).trans hbox)
  have hx2 := Go.heap_setCell_same w' D (off + 1) _ _ v' hx1
  have hx3 := Go.heap_setCell_same _ D (off + 2) _ _ (.map none) hx2
  have hlo : ∀ K, v'.ownBlock = some K → D < K := fun K hK => by have := (hown.lt K hK).1; have := hb.size; omega
  refine ⟨v', own_set_cell (own_set_cell (own_base hown hb.size) hlo _ _) hlo _ _, hx3, ?_⟩
  have h1 : Only (fun i => i = D) w w' := ⟨hg.os.trans hb.os, hg.tape.trans hb.tape, hg.output.trans hb.output, Nat.le_trans hb.size hg.size, fun i hi _ => (hg.block i (Nat.lt_of_lt_of_le hi hb.size) (fun e => by cases e)).trans (hb.block i hi)⟩
  exact (h1.set rfl _).set rfl _

theorem settle_arm {w wq w' : World} {D off : Nat} {cs : Array Value} {T : TypeId} {zs : List Int} {v' : Value} (hb : Below w.heap.size w wq) (hbox : w.heap[D]? = some (.cells cs T (0, 0))) (hs : cs[off + 1]? = some (.slice none 0 0)) {m : Value} (hm : cs[off + 2]? = some m)
    (hown : w'.ownsRow wq.heap.size 5 1 v' ([] ++ zs).length (([] ++ zs).map (Value.int .u8))) (hg : wq.drew.grownBy w' none) :
    ∃ a L c, v' = .slice a L c ∧ w'.cell? ⟨D, off + 1, none⟩ = some (.slice none 0 0) ∧ w'.cell? ⟨D, off + 2, none⟩ = some m ∧ w'.frozen? ⟨D, off + 1, none⟩ = false ∧ w'.frozen? ⟨D, off + 2, none⟩ = false ∧ D < w'.heap.size ∧ Settled w D off cs T zs ((w'.setCell ⟨D, off + 1, none⟩ v').setCell ⟨D, off + 2, none⟩ (.map none)) := by
  obtain ⟨a, L, c, rfl⟩ := own_slice hown
  have hD : D < w.heap.size := (Array.getElem?_eq_some_iff.1 hbox).1
  have hx1 : w'.heap[D]? = some (.cells cs T (0, 0)) := (hg.block D (Nat.lt_of_lt_of_le hD hb.size) (fun e => by cases e)).trans ((hb.block D hD).trans hbox)
  refine ⟨a, L, c, rfl, ?_, (cell_of_row w' D (off + 2) cs T _ hx1).trans hm, frozen_of_row w' D (off + 1) cs T hx1, frozen_of_row w' D (off + 2) cs T hx1, (Array.getElem?_eq_some_iff.1 hx1).1, settle_end hb hbox (by simpa using hown) hg⟩
  rw [cell_of_row w' D (off + 1) cs T _ hx1, hs]
set_option maxHeartbeats 3200000 in
theorem settle_new (w : World) (D off B : Nat) (cs : Array Value) (T : TypeId) (zs : List Int) (L : List Lit) (v m : Value) (hbox : w.heap[D]? = some (.cells cs T (0, 0))) (hv : cs[off]? = some v) (hs : cs[off + 1]? = some (.slice none 0 0)) (hm : cs[off + 2]? = some m)
    (hF : FSt w B zs L v m) (hzl : zs.length ≤ 1000000) (hk : SecK L) :
    Calls Try.prog 90 #[.pointer (some ⟨D, off, none⟩)] w fun e w' => e = .returned (.tuple #[]) ∧ Settled w D off cs T zs w' := by
  obtain ⟨va, vL, vc, hve, hvL, hvI, hvlo, hvn, hvle, hvB⟩ := own_any hF.own hF.rg
  subst hve
  subst hvL
  have q0 := cell_of_row w D off cs T _ hbox
  have q1 := cell_of_row w D (off + 1) cs T _ hbox
  have q2 := cell_of_row w D (off + 2) cs T _ hbox
  rw [hv] at q0
  rw [hs] at q1
  rw [hm] at q2
  have hDl : D < w.heap.size := (Array.getElem?_eq_some_iff.1 hbox).1
  have HI := Lib.hid hvI
  have HLo := Lib.hid hvlo
  have HN := Lib.hid hvn
  have HBox := Lib.hid hbox
  have HV := Lib.hid (And.intro hv (And.intro hs hm))
  have HK := Lib.hid hk
  have hmp := hF.mp
  have HLe := Lib.hid hvle
  have hd0 : decide ((zs.length : Int) < 0) = false := decide_eq_false (by omega)
  have q0n : ∀ k, (w.drewN k).cell? ⟨D, off, none⟩ = some (.slice va zs.length vc) := fun k => q0
  have q1n : ∀ k, (w.drewN k).cell? ⟨D, off + 1, none⟩ = some (.slice none 0 0) := fun k => q1
  clear hvI hvlo hvn hvle hvB hbox hv hs hm hk hF
  go_enter Try.func90, Try.ntmps90
  go_wp2_with fail
  go_quiet (fail)
  have HC := Lib.hid (show w.cell? ⟨D, off, none⟩ = some (.slice va zs.length vc) ∧ w.cell? ⟨D, off + 1, none⟩ = some (.slice none 0 0) ∧ w.frozen? ⟨D, off + 1, none⟩ = false ∧ w.frozen? ⟨D, off + 2, none⟩ = false from ⟨q0, q1, frozen_of_row w D (off + 1) cs T HBox.out, frozen_of_row w D (off + 2) cs T HBox.out⟩)
  have q2n : (w.drewN nq).cell? ⟨D, off + 2, none⟩ = some m := q2
  clear hd0 q0n q1n q0 q1 q2
  rcases hmp with ⟨rfl, rfl⟩ | ⟨M, rfl, _, ho⟩
  · have hrn := run_range_nilMap (P := Try.prog) (w.drewN nq) 89 3 186 Try.underlying89
    have hnx : ∀ ty, (Instr.next (.pointer (some ⟨w.heap.size, 0, none⟩)) false ty).run Try.prog ((w.drewN nq).alloc (.mapIter none 0 #[] 0)) = .ok (.tuple #[.bool false]) ((w.drewN nq).alloc (.mapIter none 0 #[] 0)) := fun ty => run_next_nilMap (w.drewN nq) ty 0 0 #[]
    have HBq0 := Lib.hid (show Below w.heap.size w ((w.drewN nq).alloc (.mapIter none 0 #[] 0)) from bel0 _ ⟨rfl, rfl, rfl, Nat.le_refl _, fun _ _ => rfl⟩)
    go_wp2_with fail
    refine wp_loop_rounds 1 ?_
    rw [rounds_succ]
    go_upto_region 9 with (fail)
    clear hrn hnx
    generalize (w.drewN nq).alloc (.mapIter none 0 #[] 0) = wq at *
    have HBq := Lib.hid HBq0.out
    have sl : ∀ W, (Instr.slice 30 (.slice va zs.length vc) (some (.int .i64 0)) none none).run Try.prog W = .ok (.slice va zs.length vc) W := fun W => by
      have := slice_l va zs.length vc 0 (Nat.zero_le _) .i64 W
      have e : offA va vc 0 = va := by
        unfold offA
        split
        · rfl
        · cases va with
          | none => rfl
          | some x => simp [Addr.add]
      rw [e] at this
      simpa using this
    obtain ⟨b0, bf⟩ := bcell HBq.out
    have q0 := (b0 D off hDl).trans HC.out.1
    have q1 := (b0 D (off + 1) hDl).trans HC.out.2.1
    have z1 := (bf D (off + 1) hDl).trans HC.out.2.2.1
    have z2 := (bf D (off + 2) hDl).trans HC.out.2.2.2
    have HIq := Lib.hid (HI.out.below HBq.out HLo.out)
    have hDq : D < wq.heap.size := Nat.lt_of_lt_of_le hDl HBq.out.size
    clear b0 bf
    go_region_law ((refine step_slice_at rfl (.tmp 74) (.tmp 84) rfl wq.heap.size (.slice none 0 0) [] va zs.length vc zs rfl rfl (World.ownsRow_nil _ _ _ _) (HIq.out.below (Below.drew (Below.refl _ _)) (isB_low HIq.out)) HN.out (by show 0 + zs.length ≤ _; omega) (by exact Nat.le_refl _) ?_; intro v' w' hown hgrow hat; obtain ⟨a2, L2, c2, rfl, e1, e2, f1, f2, hsD, hE⟩ := settle_arm HBq.out HBox.out HV.out.2.1 HV.out.2.2 hown hgrow; have HE := Lib.hid hE; clear hown hgrow hat hE))
    all_goals
      go_wp2
      go_end0
      exact ⟨rfl, HE.out⟩
  · have HM := Lib.hid ho
    go_wp2_with (at_range; refine wpList_range_own _ rfl _ 89 rfl 3 186 (Go.Maps.int_keyed Try.underlying3) Try.underlying89 _ M L.length _ rfl (by exact ho) ?_; intro w0 hrg0 hg0 hs0)
    go_frame
    have HR0 := Lib.hid hrg0
    have HB0 := Lib.hid (show Below w.heap.size w w0 from by have h := (Below.refl (w.drewN nq).heap.size (w.drewN nq)).grown hg0 (Nat.le_refl _) (fun j hj => (by cases hj)); exact ⟨h.os, h.tape, h.output, h.size, h.block⟩)
    clear hrg0 hg0 hs0 ho
    go_loopw [] (fun wr => ∃ (left : Lit → Bool) (cnt : Nat), Hid (wr.ranges Try.prog 3 (unitElem (H := Unit)) M w.heap.size L.length (Maps.setOf (.agg []) L) left cnt ∧ Below w.heap.size w wr)) (fun wr => wr.rangeLeft M w.heap.size)
    case atStart => exact ⟨_, _, Lib.hid ⟨HR0.out, HB0.out⟩⟩
    case round =>
      obtain ⟨left, cnt, HR⟩ := hrel
      go_wp2_with (at_next; refine wpList_next_ranges _ rfl _ rfl 3 (Go.Maps.int_keyed Try.underlying3) (unitElem (H := Unit)) (Value.int .i64) (fun _ : Unit => .agg #[]) (fun key kl hk => by obtain ⟨x, hx, _⟩ := Maps.keyOf_int_inv Try.underlying3 hk; exact ⟨x, hx⟩) (fun v y hv => by obtain ⟨h, _⟩ := unitElem_inv hv; exact ⟨(), h⟩) M w.heap.size L.length _ _ _ rfl HR.out.1 ?_ ?_)
      · intro hc0 hl0
        have HBq := Lib.hid HR.out.2
        go_upto_region 9 with (fail)
        generalize hwq : wr = wq at *
        clear hwq
        have sl : ∀ W, (Instr.slice 30 (.slice va zs.length vc) (some (.int .i64 0)) none none).run Try.prog W = .ok (.slice va zs.length vc) W := fun W => by
          have := slice_l va zs.length vc 0 (Nat.zero_le _) .i64 W
          have e : offA va vc 0 = va := by
            unfold offA
            split
            · rfl
            · cases va with
              | none => rfl
              | some x => simp [Addr.add]
          rw [e] at this
          simpa using this
        obtain ⟨b0, bf⟩ := bcell HBq.out
        have q0 := (b0 D off hDl).trans HC.out.1
        have q1 := (b0 D (off + 1) hDl).trans HC.out.2.1
        have z1 := (bf D (off + 1) hDl).trans HC.out.2.2.1
        have z2 := (bf D (off + 2) hDl).trans HC.out.2.2.2
        have HIq := Lib.hid (HI.out.below HBq.out HLo.out)
        have hDq : D < wq.heap.size := Nat.lt_of_lt_of_le hDl HBq.out.size
        clear b0 bf
        go_region_law ((refine step_slice_at rfl (.tmp 74) (.tmp 84) rfl wq.heap.size (.slice none 0 0) [] va zs.length vc zs rfl rfl (World.ownsRow_nil _ _ _ _) (HIq.out.below (Below.drew (Below.refl _ _)) (isB_low HIq.out)) HN.out (by show 0 + zs.length ≤ _; omega) (by exact Nat.le_refl _) ?_; intro v' w' hown hgrow hat; obtain ⟨a2, L2, c2, rfl, e1, e2, f1, f2, hsD, hE⟩ := settle_arm HBq.out HBox.out HV.out.2.1 HV.out.2.2 hown hgrow; have HE := Lib.hid hE; clear hown hgrow hat hE))
        all_goals
          go_wp2
          go_end0
          exact ⟨rfl, HE.out⟩
      · intro x kl yd yp w1 cnt1 hkey hlk hv hat hrg1 hlt hg1 hs1 hen
        have hhas := has_true_of_atKey hat
        obtain ⟨sc, hsc, hks⟩ := HK.out _ (has_setOf hhas)
        have hxs : x = (sc : Int) := by
          obtain ⟨x', e1, e2, _⟩ := Maps.keyOf_int_inv Try.underlying3 hkey
          cases e1
          rw [hks] at e2
          simpa [sk] using e2.symm
        subst hxs
        have hb1 : Below w.heap.size w w1 := HR.out.2.grown hg1 HR.out.2.size (fun j hj => by cases hj; exact Nat.le_refl _)
        have HB1 := Lib.hid hb1
        have HR1 := Lib.hid hrg1
        have HL := Lib.hid hlt
        obtain ⟨b0, bf⟩ := bcell hb1
        have q0 := (b0 D off hDl).trans HC.out.1
        have q1 := (b0 D (off + 1) hDl).trans HC.out.2.1
        obtain ⟨p, hp⟩ : ∃ p, p = min (sc * 64) zs.length := ⟨_, rfl⟩
        obtain ⟨q, hq⟩ : ∃ q, q = min (sc * 64 + 64) zs.length := ⟨_, rfl⟩
        have hsec := fsector w1 D off va zs.length vc sc hsc (by omega) q0
        rw [← hp, ← hq] at hsec
        have HSec := Lib.hid hsec
        clear b0 bf hsec hp hq hrg1 hg1 hs1 hlt hb1 hkey hlk hv hat hhas hks hsc
        have hp0 : (0 : Int) ≤ (p : Int) := by omega
        have hq0 : (0 : Int) ≤ (q : Int) := by omega
        have hmin : min (q : Int) 0 = 0 := by omega
        have hlt0 : decide ((p : Int) < 0) = false := decide_eq_false (by omega)
        go_wp2_with fail
        refine HSec.out.mono ?_
        rintro e w2 ⟨rfl, k2, hw2⟩
        have HR2 := Lib.hid (show w2.ranges Try.prog 3 (unitElem (H := Unit)) M w.heap.size L.length (Maps.setOf (.agg []) L) (fun z => left z && !z.sameKey kl) cnt1 from by rw [hw2]; exact HR1.out)
        have HB2 := Lib.hid (show Below w.heap.size w w2 from by rw [hw2]; exact ⟨HB1.out.os, HB1.out.tape, HB1.out.output, HB1.out.size, HB1.out.block⟩)
        have q1' : w2.cell? ⟨D, off + 1, none⟩ = some (.slice none 0 0) := by rw [hw2]; exact q1
        clear hw2 q0 q1 hen
        go_wp2
        go_roundw
        case rel =>
          first
            | exact ⟨_, cnt1, Lib.hid ⟨HR2.out, HB2.out⟩⟩
            | (repeat apply Exists.intro
               refine ⟨?_, rfl⟩
               exact ⟨_, cnt1, Lib.hid ⟨HR2.out, HB2.out⟩⟩)
        case measure => rw [HR2.out.left_eq, HR.out.1.left_eq]; exact HL.out
end Go.Proofs.Ytafhgilikcablaa
