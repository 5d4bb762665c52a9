/- The document's disk: settle, Sync. -/
import Derived.Test.YtafhgilikcablaaDpD1
namespace Go.Proofs.Ytafhgilikcablaa
open Go.RowKit Go.Maps
set_option linter.unusedVariables false
set_option maxRecDepth 100000

/-- behind the document's settle -/
def SettledR (w : World) (E off : Nat) (cs : Array Value) (T : TypeId) (zs : List Int) (w' : World) : Prop :=
  ∃ l N, w'.ownsRow w.heap.size 5 1 l zs.length (zs.map (Value.int .u8)) ∧ TIn w' N [] ∧ w.heap.size ≤ N ∧ w'.heap[E]? = some (.cells ((cs.setIfInBounds (off + 1) l).setIfInBounds (off + 2) (.map (some N))) T (0, 0)) ∧ Only (fun i => i = E) w w'
theorem only_alloc (S : Nat → Prop) (w : World) (o : Obj) : Only S w (w.alloc o) := (Only.of (S := fun _ => False) (World.grownBy_alloc w o none) (fun K hK => by cases hK)).mono (fun _ => False.elim)
/-- an own row is made in new memory: what was there is as it was -/
theorem only_new {w w2 : World} {o : Obj} {S : Nat → Prop} (hg : (w.alloc o).grownBy w2 (some w.heap.size)) : Only S w w2 := by
  refine ⟨hg.os, hg.tape, hg.output, ?_, fun i hi _ => ?_⟩
  · have := hg.size
    have : (w.alloc o).heap.size = w.heap.size + 1 := by simp
    omega
  · exact (hg.block i (by simp; omega) (fun e => by cases e; omega)).trans ((World.grownBy_alloc w o none).block i hi (fun e => by cases e))
theorem rsettle_end {w w2 : World} {E off : Nat} {cs : Array Value} {T : TypeId} {zs : List Int} {v2 : Value} (hbox : w.heap[E]? = some (.cells cs T (0, 0))) (hown : w2.ownsRow w.heap.size 5 1 v2 zs.length (zs.map (Value.int .u8))) (hg : (w.alloc (.cells #[] 5)).grownBy w2 (some w.heap.size)) :
    w2.heap[E]? = some (.cells cs T (0, 0)) ∧ SettledR w E off cs T zs (((w2.setCell ⟨E, off + 1, none⟩ v2).setCell ⟨E, off + 2, none⟩ (.map (some w2.heap.size))).alloc (.map #[] 0)) := by
  have hE : E < w.heap.size := (Array.getElem?_eq_some_iff.1 hbox).1
  have k2 : Only (fun i => i = E) w w2 := only_new hg
  have k2' : Only (fun _ => False) w w2 := only_new hg
  have hx2 : w2.heap[E]? = some (.cells cs T (0, 0)) := (k2'.block E hE id).trans hbox
  have hx4 := Go.heap_setCell_same _ E (off + 1) _ _ v2 hx2
  have hx5 := Go.heap_setCell_same _ E (off + 2) _ _ (.map (some w2.heap.size)) hx4
  have hlo : ∀ K, v2.ownBlock = some K → E < K := fun K hK => by have := (own_at hown hK).1; omega
  have k3 : Only (fun i => i = E) w ((w2.setCell ⟨E, off + 1, none⟩ v2).setCell ⟨E, off + 2, none⟩ (.map (some w2.heap.size))) := (k2.set (S := fun i => i = E) rfl _).set rfl _
  have hsz : ((w2.setCell ⟨E, off + 1, none⟩ v2).setCell ⟨E, off + 2, none⟩ (.map (some w2.heap.size))).heap.size = w2.heap.size := by simp
  have ht := TIn.made ((w2.setCell ⟨E, off + 1, none⟩ v2).setCell ⟨E, off + 2, none⟩ (.map (some w2.heap.size)))
  rw [hsz] at ht
  have hx6 := ((only_alloc (fun _ => False) _ (.map #[] 0)).block E (Array.getElem?_eq_some_iff.1 hx5).1 id).trans hx5
  exact ⟨hx2, v2, w2.heap.size, (own_set_cell (own_set_cell hown hlo _ _) hlo _ _).alloc _, ht, k2.size, hx6, k3.trans (only_alloc _ _ _)⟩
set_option maxHeartbeats 1600000 in
theorem rsettle (w : World) (E off B : Nat) (cs : Array Value) (T : TypeId) (zs : List Int) (v x y : Value) (hbox : w.heap[E]? = some (.cells cs T (0, 0))) (hv : cs[off]? = some v) (hs : cs[off + 1]? = some x) (hm : cs[off + 2]? = some y)
    (hown : w.ownsRow B 5 1 v zs.length (zs.map (Value.int .u8))) (hrz : ∀ z ∈ zs, 0 ≤ z ∧ z ≤ 255) (hzl : zs.length ≤ 1000000) :
    Calls Try.prog 91 #[.pointer (some ⟨E, off, none⟩)] w fun e w' => e = .returned (.tuple #[]) ∧ SettledR w E off cs T zs w' := by
  obtain ⟨va, vL, vc, hve, hvL, hvI, hvlo, hvn, hvle, hvB⟩ := own_any hown hrz
  subst hve
  subst hvL
  have c0 := (cell_of_row w E off cs T _ hbox).trans hv
  have hE : E < w.heap.size := (Array.getElem?_eq_some_iff.1 hbox).1
  have HI := Lib.hid (isB_keep hvI (only_alloc (fun _ => False) w (.cells #[] 5)) hvlo (fun _ _ _ => id))
  have HN := Lib.hid hvn
  have HBox := Lib.hid hbox
  have HS := Lib.hid hs
  have HM := Lib.hid hm
  have hmm := @run_makeMap Try.prog
  clear hbox hv hs hm hown hrz hvI hvlo hvn hvle hvB
  go_enter Try.func91, Try.ntmps91
  go_wp2_with (at_builtin; refine wpList_slice rfl (.tmp 4) (.tmp 8) rfl w.heap.size (.slice (some ⟨w.heap.size, 0, none⟩) 0 0) [] va zs.length vc zs rfl rfl (World.ownsRow_made w #[] 0 (Nat.le_refl _) (Nat.zero_le _) rfl) HI.out HN.out (by show 0 + zs.length ≤ _; omega) (by simp) ?_)
  intro v2 w2 hown hgr
  have hown2 : w2.ownsRow w.heap.size 5 1 v2 zs.length (zs.map (Value.int .u8)) := by simpa using hown
  have he := rsettle_end (off := off) HBox.out hown2 hgr
  have e1 := (cell_of_row w2 E (off + 1) _ T _ he.1).trans HS.out
  have e2 := (cell_of_row w2 E (off + 2) _ T _ he.1).trans HM.out
  have f1 := frozen_of_row w2 E (off + 1) _ T he.1
  have f2 := frozen_of_row w2 E (off + 2) _ T he.1
  have hE2 : E < w2.heap.size := (Array.getElem?_eq_some_iff.1 he.1).1
  have HE := Lib.hid he.2
  obtain ⟨a2, L2, c2, rfl⟩ := own_slice hown2
  clear hown hgr hown2 he c0
  go_wp2
  go_end0
  exact ⟨rfl, HE.out⟩
theorem DPost.from {w w1 w' : World} {E B : Nat} {i0 k0 : Value} {M0 : Nat} {i1 k1 : Value} {M1 : Nat} {a' : DA} (k : Only (fun i => i = E) w w1) (h : DPost w1 E B i0 k0 M0 i1 k1 M1 a' w') : DPost w E B i0 k0 M0 i1 k1 M1 a' w' := by
  obtain ⟨u0, t0, n0, u1, t1, n1, h1, h2, h3⟩ := h
  exact ⟨_, _, _, _, _, _, h1, fun i hi => (h2 i hi).imp id (fun h => Nat.le_trans k.size h), (k.mono (fun i hi => .inl hi)).trans h3⟩
/-- a new row for file 0, and settled -/
theorem RC.settled0 {w w1 w' : World} {E B : Nat} {i0 k0 j : Value} {M0 : Nat} {i1 k1 : Value} {M1 : Nat} {a : DA} {zs : List Int} (h : RC w E B i0 k0 M0 i1 k1 M1 a) (k : Only (fun i => i = E) w w1) (hj : w1.ownsRow B 5 1 j zs.length (zs.map (Value.int .u8)))
    (nj : ∀ g, j.ownBlock = some g → i0.ownBlock = some g ∨ w.heap.size ≤ g) (hs : SettledR w1 E 0 ((rCs i0 k0 M0 i1 k1 M1 a).setIfInBounds 0 j) 100 zs w') : DPost w E B i0 k0 M0 i1 k1 M1 { a with f0 := ⟨zs, zs, []⟩ } w' := by
  obtain ⟨l, N, s1, s2, s3, s4, s5⟩ := hs
  have kk : Only (fun i => i = E) w w' := k.trans s5
  refine h.put0 (a' := { a with f0 := ⟨zs, zs, []⟩ }) rfl (kk.mono (fun i hi => .inl hi)) s4 (own_only hj s5 (fun g hg => ?_)) (own_base s1 (Nat.le_trans h.le k.size)) s2 nj (fun g hg => .inr ?_) (.inr (Nat.le_trans k.size s3))
  · have := (own_lt hj hg).1
    have := h.lt
    omega
  · exact Nat.le_trans k.size (own_lt s1 hg).1
/-- a new row for file 1, and settled -/
theorem RC.settled1 {w w1 w' : World} {E B : Nat} {i0 k0 j : Value} {M0 : Nat} {i1 k1 : Value} {M1 : Nat} {a : DA} {zs : List Int} (h : RC w E B i0 k0 M0 i1 k1 M1 a) (k : Only (fun i => i = E) w w1) (hj : w1.ownsRow B 5 1 j zs.length (zs.map (Value.int .u8)))
    (nj : ∀ g, j.ownBlock = some g → i1.ownBlock = some g ∨ w.heap.size ≤ g) (hs : SettledR w1 E 3 ((rCs i0 k0 M0 i1 k1 M1 a).setIfInBounds 3 j) 100 zs w') : DPost w E B i0 k0 M0 i1 k1 M1 { a with f1 := ⟨zs, zs, []⟩ } w' := by
  obtain ⟨l, N, s1, s2, s3, s4, s5⟩ := hs
  have kk : Only (fun i => i = E) w w' := k.trans s5
  refine h.put1 (a' := { a with f1 := ⟨zs, zs, []⟩ }) rfl (kk.mono (fun i hi => .inl hi)) s4 (own_only hj s5 (fun g hg => ?_)) (own_base s1 (Nat.le_trans h.le k.size)) s2 nj (fun g hg => .inr ?_) (.inr (Nat.le_trans k.size s3))
  · have := (own_lt hj hg).1
    have := h.lt
    omega
  · exact Nat.le_trans k.size (own_lt s1 hg).1

set_option maxHeartbeats 1600000 in
theorem rsync_any (w : World) (E B : Nat) (i0 k0 : Value) (M0 : Nat) (i1 k1 : Value) (M1 : Nat) (a : DA) (f : Int) (h : RC w E B i0 k0 M0 i1 k1 M1 a) (hW : a.Wf) (hf : a.few 1000000) :
    Calls Try.prog 44 #[.pointer (some ⟨E, 0, none⟩), .int .i64 f] w fun e w' => e = .returned (.int .i64 (a.sync f).1) ∧ DPost w E B i0 k0 M0 i1 k1 M1 (a.sync f).2 w' := by
  obtain ⟨hf0, hl0, hf1, hl1⟩ := hf
  have d8 := h.d8
  have H := Lib.hid h
  have HW := Lib.hid hW
  by_cases hff : f ≠ 0 ∧ f ≠ 1
  · have e1 : a.sync f = (1, a) := by unfold DA.sync; rw [if_pos hff]
    rw [e1]
    have HFF := Lib.hid hff
    clear hff h hW e1
    go_enter Try.func44, Try.ntmps44
    go_wp2_with fail
    refine (rthere_no f HFF.out _).mono ?_
    rintro e w1 ⟨rfl, hw⟩
    subst hw
    go_wp2
    go_ret
    exact ⟨rfl, H.out.stay⟩
  have hff' : f = 0 ∨ f = 1 := by omega
  have HFF := Lib.hid hff'
  by_cases hd : a.down = true
  · have e1 : a.sync f = (16, a) := by unfold DA.sync; rw [if_neg hff, if_pos hd]
    rw [e1]
    rw [hd] at d8
    clear hff hff' h hW hd e1
    go_enter Try.func44, Try.ntmps44
    go_wp2_with fail
    refine (rthere_yes f HFF.out _).mono ?_
    rintro e w1 ⟨rfl, hw⟩
    subst hw
    go_wp2
    go_ret
    exact ⟨rfl, H.out.stay⟩
  have hd' : a.down = false := by simpa using hd
  rw [hd'] at d8
  by_cases hp : a.pow = false
  · have e1 : a.sync f = (16, a.gone) := by unfold DA.sync; rw [if_neg hff, if_neg hd, if_pos hp]
    rw [e1]
    have HP := Lib.hid hp
    clear hff hff' h hW hd hd' hp e1
    go_enter Try.func44, Try.ntmps44
    go_wp2_with fail
    refine (rthere_yes f HFF.out _).mono ?_
    rintro e w1 ⟨rfl, hw⟩
    subst hw
    go_wp2_with fail
    refine (rchange_gone _ E B i0 k0 M0 i1 k1 M1 a H.out HP.out).mono ?_
    rintro e w2 ⟨rfl, hg, hk⟩
    have HG := Lib.hid (hg.same (a := a) hk)
    clear hg hk
    go_wp2
    go_ret
    exact ⟨rfl, HG.out⟩
  have hp' : a.pow = true := by simpa using hp
  have e1 : a.sync f = (0, a.tick.put f (a.on f).sync) := by unfold DA.sync; rw [if_neg hff, if_neg hd, if_neg hp]
  rw [e1]
  have HP := Lib.hid hp'
  clear hff h hW hd hd' hp hp' e1
  rcases hff' with rfl | rfl
  · go_enter Try.func44, Try.ntmps44
    go_wp2_with fail
    refine (rthere_yes 0 (.inl rfl) _).mono ?_
    rintro e w1 ⟨rfl, hw⟩
    subst hw
    go_wp2_with fail
    refine (rchange_pass _ E B i0 k0 M0 i1 k1 M1 a H.out HW.out HP.out).mono ?_
    rintro e w2 ⟨rfl, hg, hk⟩
    have HG := Lib.hid hg
    have HK := Lib.hid hk
    clear hg hk d8
    go_wp2_with fail
    refine (rsettle _ E 0 B _ _ a.f0.zs i0 k0 (.map (some M0)) HG.out.box rfl rfl rfl HG.out.is0 HW.out.w0.rz hf0).mono ?_
    rintro e w3 ⟨rfl, hs⟩
    have HS := Lib.hid (DPost.from HK.out (HG.out.settled0 (j := i0) (Only.refl _ _) HG.out.is0 (fun g hg => .inl hg) hs))
    clear hs
    go_wp2
    go_ret
    exact ⟨rfl, HS.out⟩
  · go_enter Try.func44, Try.ntmps44
    go_wp2_with fail
    refine (rthere_yes 1 (.inr rfl) _).mono ?_
    rintro e w1 ⟨rfl, hw⟩
    subst hw
    go_wp2_with fail
    refine (rchange_pass _ E B i0 k0 M0 i1 k1 M1 a H.out HW.out HP.out).mono ?_
    rintro e w2 ⟨rfl, hg, hk⟩
    have HG := Lib.hid hg
    have HK := Lib.hid hk
    clear hg hk d8
    go_wp2_with fail
    refine (rsettle _ E 3 B _ _ a.f1.zs i1 k1 (.map (some M1)) HG.out.box rfl rfl rfl HG.out.is1 HW.out.w1.rz hf1).mono ?_
    rintro e w3 ⟨rfl, hs⟩
    have HS := Lib.hid (DPost.from HK.out (HG.out.settled1 (j := i1) (Only.refl _ _) HG.out.is1 (fun g hg => .inl hg) hs))
    clear hs
    go_wp2
    go_ret
    exact ⟨rfl, HS.out⟩
end Go.Proofs.Ytafhgilikcablaa
