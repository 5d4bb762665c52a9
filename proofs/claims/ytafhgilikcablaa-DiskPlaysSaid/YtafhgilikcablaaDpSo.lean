/- The sorted keys of a file's sectors are its sectors, in their order; the program's Crash in any state. -/
import Derived.Test.YtafhgilikcablaaDpPw
namespace Go.Proofs.Ytafhgilikcablaa
open Go.RowKit Go.Maps
set_option linter.unusedVariables false
set_option maxRecDepth 100000

theorem sk_is (s : Nat) : WideAt.IsKeyLit (sk s) → True := fun _ => trivial
theorem has_of_mem {u : DataW Unit} {k : Lit} : ∀ (L : List Lit) (D : DataW Unit), IsMap D → (∀ x ∈ L, WideAt.IsKeyLit x) → (has D k = true ∨ k ∈ L) → has (L.foldl (fun m x => m.put x u) D) k = true
  | [], D, _, _, h => h.elim id (fun h => by cases h)
  | x :: L, D, hD, hk, h => by
    have hx := hk x List.mem_cons_self
    refine has_of_mem L (D.put x u) (hD.put _ _) (fun y hy => hk y (List.mem_cons_of_mem _ hy)) ?_
    by_cases e : k = x
    · left; rw [e]; exact has_put_same hD hx u
    · rcases h with h | h
      · left; rw [has_put_other e]; exact h
      · rcases List.mem_cons.1 h with h | h
        · exact absurd h e
        · exact .inr h
theorem srt_secs {w : World} {B : Nat} {v m : Value} {a : FA} (hW : a.Wf) (hF : FSt w B a.zs a.L v m) {n : Nat} (hn : a.zs.length ≤ 1000000) {xs : List Int} (h : SrtOf m a.L xs) : xs = a.secs := by
  have hk : SecK a.L := hW.secK hn (Nat.le_refl _)
  rcases h with ⟨rfl, rfl⟩ | ⟨⟨M, rfl⟩, ss, hp, rfl⟩
  · rcases hF.mp with ⟨_, e⟩ | ⟨M', e, _, _⟩
    · refine sorted_same List.Pairwise.nil (secN_sorted _ _) (fun x => ⟨fun hx => (by cases hx), fun hx => ?_⟩)
      obtain ⟨s, _, hs⟩ := (secs_all hW x).1 hx
      rw [e] at hs; cases hs
    · cases e
  · rcases hF.mp with ⟨e, _⟩ | ⟨M', e, _, ho⟩
    · cases e
    · cases e
      obtain ⟨es, hD, hap, hkey⟩ := World.ownsMap.entries ho (Go.Maps.int_keyed Try.underlying3)
      have hmem : ∀ x, x ∈ intKeys (Maps.setOf (.agg [] : DataW Unit) a.L) ↔ ∃ s : Nat, x = (s : Int) ∧ sk s ∈ a.L := fun x => by
        constructor
        · intro hx
          obtain ⟨s, _, e, hs⟩ := keys_secs ho hk x hx
          exact ⟨s, e, hs⟩
        · rintro ⟨s, rfl, hs⟩
          have hh : has (Maps.setOf (.agg [] : DataW Unit) a.L) (sk s) = true := has_of_mem a.L _ ⟨[], rfl⟩ hk.key (.inr hs)
          rw [hD] at hh ⊢
          rw [has_eq, List.any_eq_true] at hh
          obtain ⟨p, hp1, hp2⟩ := hh
          have hp0 : has (Maps.setOf (.agg [] : DataW Unit) a.L) p.1 = true := by
            rw [hD, has_eq, List.any_eq_true]
            exact ⟨p, hp1, WideAt.sameKey_self (hkey p hp1)⟩
          obtain ⟨t, ht, e⟩ := hk _ (has_setOf hp0)
          rw [e, sk_same] at hp2
          have : t = s := of_decide_eq_true hp2
          subst this
          exact List.mem_map.2 ⟨p, hp1, by rw [e]; rfl⟩
      have hnd : (intKeys (Maps.setOf (.agg [] : DataW Unit) a.L)).Nodup := by
        rw [hD]
        unfold intKeys List.Nodup
        rw [List.pairwise_map]
        refine hap.imp_of_mem (fun {p q} hp1 hq1 hne => ?_)
        intro e
        have hg : ∀ r ∈ es, ∃ t : Nat, r.1 = sk t := fun r hr => by
          have hp0 : has (Maps.setOf (.agg [] : DataW Unit) a.L) r.1 = true := by
            rw [hD, has_eq, List.any_eq_true]
            exact ⟨r, hr, WideAt.sameKey_self (hkey r hr)⟩
          obtain ⟨t, ht, e⟩ := hk _ (has_setOf hp0)
          exact ⟨t, e⟩
        obtain ⟨t1, e1⟩ := hg p hp1
        obtain ⟨t2, e2⟩ := hg q hq1
        rw [e1, e2] at e hne
        have : (t1 : Int) = (t2 : Int) := e
        exact hne (by rw [show t1 = t2 by omega])
      refine sorted_same ?_ (secN_sorted _ _) (fun x => ?_)
      · have h1 : (ss.mergeSort (fun x y => decide (x ≤ y))).Pairwise (fun x y => decide (x ≤ y) = true) := List.pairwise_mergeSort (fun a b c h1 h2 => by simp at *; omega) (fun a b => by simp; omega) ss
        have h2 : (ss.mergeSort (fun x y => decide (x ≤ y))).Nodup := ((List.mergeSort_perm ss _).trans hp).nodup_iff.2 hnd
        refine (h1.and h2).imp (fun h => ?_)
        have := of_decide_eq_true h.1
        have := h.2
        omega
      · rw [List.mem_mergeSort, hp.mem_iff, hmem]
        exact (secs_all hW x).symm

/-- so many files are left of a crash -/
def DA.part (a : DA) (kz : List Int) : Nat → DA
  | 0 => { a with down := false, armed := false, fu := 0 }
  | 1 => { a with f0 := a.f0.crash kz 0, down := false, armed := false, fu := 0 }
  | _ => a.crash kz
def DA.turn (a : DA) : Nat → Nat
  | 0 => 0
  | 1 => a.f0.secs.length
  | _ => a.f0.secs.length + a.f1.secs.length
set_option maxHeartbeats 3200000 in
theorem pcr_any (W0 w : World) (D B : Nat) (v0 s0 m0 v1 s1 m1 : Value) (a : DA) (ka : Option Addr) (kl kc : Nat) (kz : List Int) (h : PC w D B v0 s0 m0 v1 s1 m1 a) (hW : a.Wf) (hf : a.few 1000000) (hK : IsK W0 ka kl kz) (hb : Below W0.heap.size W0 w) (hD : W0.heap.size ≤ D) (hkl : kl ≤ 200) :
    Calls Try.prog 49 #[.pointer (some ⟨D, 0, none⟩), .slice ka kl kc] w fun e w' => e = .returned (.tuple #[]) ∧ PPost w D B v0 s0 m0 v1 s1 m1 (a.crash kz) w' := by
  have hDl := (Array.getElem?_eq_some_iff.1 h.box).1
  have c7 := cell_of_row w D 7 _ _ _ h.box
  have c8 := cell_of_row w D 8 _ _ _ h.box
  have c9 := cell_of_row w D 9 _ _ _ h.box
  simp only [pCs, List.getElem?_toArray, List.getElem?_cons_zero, List.getElem?_cons_succ] at c7 c8 c9
  have f7 := frozen_of_row w D 7 _ _ h.box
  have f8 := frozen_of_row w D 8 _ _ h.box
  have f9 := frozen_of_row w D 9 _ _ h.box
  have x1 := Go.heap_setCell_same w D 9 _ _ (.bool false) h.box
  have x2 := Go.heap_setCell_same _ D 7 _ _ (.bool false) x1
  have x3 := Go.heap_setCell_same _ D 8 _ _ (.int .i64 0) x2
  have k3 : Only (fun i => i = D) w (((w.setCell ⟨D, 9, none⟩ (.bool false)).setCell ⟨D, 7, none⟩ (.bool false)).setCell ⟨D, 8, none⟩ (.int .i64 0)) := (((Only.refl _ w).set (S := fun i => i = D) rfl _).set rfl _).set rfl _
  have H3 := Lib.hid ((h.scal (a' := a.part kz 0) rfl rfl x3 k3).same (a := a) k3)
  have HPC := Lib.hid h
  have HWf := Lib.hid hW
  have HFw := Lib.hid hf
  have HB := Lib.hid hb
  have HK := Lib.hid hK
  have HD := Lib.hid hD
  clear h hW hf hb hK hD x1 x2 x3 k3
  go_enter Try.func49, Try.ntmps49
  go_wp2_with fail
  go_loopw [4, 17] (fun tk i wr => ∃ k : Nat, k ≤ 2 ∧ i = .int .i64 (k : Int) ∧ tk = .int .i64 (a.turn k : Int) ∧ Hid (PPost w D B v0 s0 m0 v1 s1 m1 (a.part kz k) wr)) (fun _ i _ => 2 - (intOf i).toNat)
  case atStart => exact ⟨0, by omega, rfl, rfl, H3⟩
  case round =>
    obtain ⟨k, hk, rfl, rfl, HR⟩ := hrel
    have below : ∀ {wr : World}, Only (pS D v0 s0 m0 v1 s1 m1) w wr → Below W0.heap.size W0 wr := fun {wr} ho => by
      have hb := HB.out
      refine ⟨ho.os.trans hb.os, ho.tape.trans hb.tape, ho.output.trans hb.output, Nat.le_trans hb.size ho.size, fun i hi => (ho.block i (Nat.lt_of_lt_of_le hi hb.size) (fun hS => ?_)).trans (hb.block i hi)⟩
      have := (HPC.out.bound hS).1
      have := HD.out
      omega
    have hk3 : k = 0 ∨ k = 1 ∨ k = 2 := by omega
    rcases hk3 with rfl | rfl | rfl
    · obtain ⟨u0, t0, n0, u1, t1, n1, hpc, hi, hor⟩ := HR.out
      have HF := Lib.hid hpc
      have HI := Lib.hid hi
      have HO := Lib.hid hor
      have HBr := Lib.hid (below hor)
      have HT := Lib.hid (show a.turn 0 = 0 from rfl)
      clear hpc hi hor HR hk below
      go_wp2_with fail
      refine (crash_any W0 _ D 0 B _ _ u0 t0 n0 a.f0.zs a.f0.ys a.f0.L ka kl kc kz 0 ⟨HF.out.box, rfl, rfl, HF.out.lt, HF.out.f0.own, HF.out.r0, HWf.out.w0.rz, HWf.out.w0.ry, HF.out.a1⟩ rfl HF.out.f0 (HWf.out.w0.secK HFw.out.1 (Nat.le_refl _)) HK.out HBr.out (by have := HD.out; omega) HWf.out.w0.le HFw.out.1 HFw.out.2.1 (by omega) hkl).mono ?_
      rintro e w3 ⟨xs, hxs, rfl, hcr⟩
      have ex := srt_secs (n := 0) HWf.out.w0 HF.out.f0 HFw.out.1 hxs
      subst ex
      rw [left_same HWf.out.w0] at hcr
      have hp := PPost.trans HO.out HI.out (HF.out.crashed0 hcr)
      have HP := Lib.hid hp
      clear hcr hp hxs
      go_wp2
      go_roundw
      case rel => exact ⟨1, by omega, by go_num, by first | rfl | (show _ = Value.int .i64 ((a.f0.secs.length : Nat) : Int); go_num), HP⟩
      case measure => simp [intOf]
    · obtain ⟨u0, t0, n0, u1, t1, n1, hpc, hi, hor⟩ := HR.out
      have HF := Lib.hid hpc
      have HI := Lib.hid hi
      have HO := Lib.hid hor
      have HBr := Lib.hid (below hor)
      have hsl : a.f0.secs.length ≤ 1000000 := by
        have h1 := secN_len a.f0.L (a.f0.zs.length / 64 + 1)
        have := HFw.out.1
        have h2 : a.f0.secs.length ≤ a.f0.zs.length / 64 + 1 := h1
        omega
      have hsl1 : a.f1.secs.length ≤ 1000000 := by
        have h1 := secN_len a.f1.L (a.f1.zs.length / 64 + 1)
        have := HFw.out.2.2.1
        have h2 : a.f1.secs.length ≤ a.f1.zs.length / 64 + 1 := h1
        omega
      have HT2 := Lib.hid (show a.turn 2 = a.f0.secs.length + a.f1.secs.length from rfl)
      have ht1 : a.turn 1 = a.f0.secs.length := rfl
      rw [ht1]
      obtain ⟨q, hq⟩ : ∃ q, q = a.f0.secs.length := ⟨_, rfl⟩
      have HQ := Lib.hid hq
      rw [← hq] at hsl ⊢
      clear hpc hi hor HR hk below ht1 hq
      go_wp2_with fail
      refine (crash_any W0 _ D 3 B _ _ u1 t1 n1 a.f1.zs a.f1.ys a.f1.L ka kl kc kz q ⟨HF.out.box, rfl, rfl, HF.out.lt, HF.out.f1.own, HF.out.r1, HWf.out.w1.rz, HWf.out.w1.ry, HF.out.a6⟩ rfl HF.out.f1 (HWf.out.w1.secK HFw.out.2.2.1 (Nat.le_refl _)) HK.out HBr.out (by have := HD.out; omega) HWf.out.w1.le HFw.out.2.2.1 HFw.out.2.2.2 (by omega) hkl).mono ?_
      rintro e w3 ⟨xs, hxs, rfl, hcr⟩
      have ex := srt_secs (n := 0) HWf.out.w1 HF.out.f1 HFw.out.2.2.1 hxs
      subst ex
      rw [left_same HWf.out.w1, HQ.out] at hcr
      have hp := PPost.trans HO.out HI.out (HF.out.crashed1 hcr)
      have HP := Lib.hid (show PPost w D B v0 s0 m0 v1 s1 m1 (a.part kz 2) w3 from hp)
      have HT3 := Lib.hid (show ((q + a.f1.secs.length : Nat) : Int) = (a.turn 2 : Int) by rw [HT2.out, HQ.out])
      clear hcr hp hxs
      generalize q + a.f1.secs.length = qq at *
      go_wp2
      go_roundw
      case rel => exact ⟨2, by omega, by go_num, by rw [← HT3.out], HP⟩
      case measure => simp [intOf]
    · go_wp2
      go_end0
      exact ⟨rfl, HR.out⟩
end Go.Proofs.Ytafhgilikcablaa
