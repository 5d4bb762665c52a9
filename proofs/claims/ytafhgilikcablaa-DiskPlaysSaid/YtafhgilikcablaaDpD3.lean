/- The document's disk: Truncate, Read. (Written by gendpd3.py.) -/
import Derived.Test.YtafhgilikcablaaDpD2
namespace Go.Proofs.Ytafhgilikcablaa
open Go.RowKit Go.Maps
set_option linter.unusedVariables false
set_option maxRecDepth 100000

/-- what a Read answers: a row of its own -/
def RdPost (w : World) (r : Int × List Int) (e : Ending) (w' : World) : Prop := ∃ g l c, e = .returned (.tuple #[.slice g l c, .int .i64 r.1]) ∧ IsB w' g l r.2 ∧ (g = none → l = 0 ∧ c = 0) ∧ (∀ a, l ≠ 0 → g = some a → a.block < w'.heap.size) ∧ (∀ a, g = some a → w.heap.size ≤ a.block) ∧ l ≤ c ∧ Below w.heap.size w w'
theorem rdPost_err (w : World) (k : Int) : RdPost w (k, []) (.returned (.tuple #[.slice none 0 0, .int .i64 k])) w := ⟨none, 0, 0, rfl, isB_nil _, fun _ => ⟨rfl, rfl⟩, fun a h => absurd rfl h, fun a h => (by cases h), Nat.le_refl _, Below.refl _ _⟩
theorem rdPost_row {w w' : World} {v : Value} {zs : List Int} (ho : w'.ownsRow w.heap.size 5 1 v zs.length (zs.map (Value.int .u8))) (hr : ∀ z ∈ zs, 0 ≤ z ∧ z ≤ 255) (hb : Below w.heap.size w w') : RdPost w (0, zs) (.returned (.tuple #[v, .int .i64 0])) w' := by
  obtain ⟨a, L, c, rfl, rfl, hI, hlo, hn, hle, hB⟩ := own_any ho hr
  exact ⟨a, _, c, rfl, hI, hn, hlo, hB, hle, hb⟩
theorem below_only {w w' : World} (h : Only (fun _ => False) w w') : Below w.heap.size w w' := ⟨h.os, h.tape, h.output, h.size, fun i hi => h.block i hi id⟩
theorem rcut_row {w w3 : World} {E off : Nat} {cs : Array Value} {T : TypeId} {zs : List Int} {v3 : Value} (hbox : w.heap[E]? = some (.cells cs T (0, 0))) (hown : w3.ownsRow w.heap.size 5 1 v3 zs.length (zs.map (Value.int .u8))) (hg : (w.alloc (.cells #[] 5)).grownBy w3 (some w.heap.size)) :
    w3.heap[E]? = some (.cells cs T (0, 0)) ∧ (w3.setCell ⟨E, off, none⟩ v3).heap[E]? = some (.cells (cs.setIfInBounds off v3) T (0, 0)) ∧ (w3.setCell ⟨E, off, none⟩ v3).ownsRow w.heap.size 5 1 v3 zs.length (zs.map (Value.int .u8)) ∧ Only (fun i => i = E) w (w3.setCell ⟨E, off, none⟩ v3) := by
  have hE : E < w.heap.size := (Array.getElem?_eq_some_iff.1 hbox).1
  have k2 : Only (fun i => i = E) w w3 := only_new hg
  have k2' : Only (fun _ => False) w w3 := only_new hg
  have hx2 : w3.heap[E]? = some (.cells cs T (0, 0)) := (k2'.block E hE id).trans hbox
  have hlo : ∀ K, v3.ownBlock = some K → E < K := fun K hK => by have := (own_at hown hK).1; omega
  exact ⟨hx2, Go.heap_setCell_same _ E off _ _ v3 hx2, own_set_cell hown hlo _ _, k2.set (S := fun i => i = E) rfl _⟩

set_option maxHeartbeats 1600000 in
theorem rcut_go0 (w : World) (E B : Nat) (i0 k0 : Value) (M0 : Nat) (i1 k1 : Value) (M1 : Nat) (a : DA) (n : Nat) (h : RC w E B i0 k0 M0 i1 k1 M1 a) (hW : a.Wf) (hf : a.f0.zs.length ≤ 1000000) (hd : a.down = false) (hp : a.pow = true) (hn : n ≤ a.f0.zs.length) :
    Calls Try.prog 46 #[.pointer (some ⟨E, 0, none⟩), .int .i64 0, .int .i64 (n : Int)] w fun e w' => e = .returned (.int .i64 0) ∧ DPost w E B i0 k0 M0 i1 k1 M1 (a.tick.put 0 (a.f0.cut n)) w' := by
  have d8 := h.d8
  rw [hd] at d8
  have H := Lib.hid h
  have HW := Lib.hid hW
  have HP := Lib.hid hp
  have HN := Lib.hid hn
  have hn0 : (0 : Int) ≤ (n : Int) := by omega
  have hn1 : (n : Int) ≤ ((a.f0.zs.length : Nat) : Int) := by omega
  have S0 := Lib.hid (fun (w' : World) (hw : w' = w) => rsize_any w' E B i0 k0 M0 i1 k1 M1 a 0 (by rw [hw]; exact h) hW)
  have HSz := Lib.hid (show a.size 0 = a.f0.zs.length from rfl)
  have hlt : ((a.f0.zs.take n).length : Nat) = n := by rw [List.length_take]; omega
  have HLt := Lib.hid hlt
  clear h hW hp hn hlt hd
  go_enter Try.func46, Try.ntmps46
  go_wp2_with fail
  refine (rthere_yes 0 (by decide) _).mono ?_
  rintro e w1 ⟨rfl, hw⟩
  subst hw
  go_wp2_with fail
  refine (S0.out _ rfl).mono ?_
  rintro e w1 ⟨rfl, hw⟩
  subst hw
  rw [HSz.out]
  go_wp2_with fail
  refine (rchange_pass _ E B i0 k0 M0 i1 k1 M1 a H.out HW.out HP.out).mono ?_
  rintro e w2 ⟨rfl, hg, hk⟩
  have hi0 : w2.ownsRow B 5 1 i0 a.f0.zs.length (a.f0.zs.map (Value.int .u8)) := hg.is0
  obtain ⟨va, vL, vc, hve, hvL, hvI, hvlo, hvn, hvle, hvB⟩ := own_any hi0 HW.out.w0.rz
  subst hvL
  clear hi0
  have c0 : w2.cell? ⟨E, 0, none⟩ = some (.slice va a.f0.zs.length vc) := by rw [cell_of_row w2 E 0 _ _ _ hg.box, ← hve]; rfl
  have hE : E < w2.heap.size := (Array.getElem?_eq_some_iff.1 hg.box).1
  have HG := Lib.hid hg
  have HK := Lib.hid hk
  have HI := Lib.hid (isB_take (isB_keep hvI (only_alloc (fun _ => False) w2 (.cells #[] 5)) hvlo (fun _ _ _ => id)) HN.out)
  have HNn := Lib.hid (show va = none → n = 0 ∧ vc = 0 from fun e => by have := hvn e; have := HN.out; omega)
  have hs1 := slice_h va a.f0.zs.length vc n (by have := HN.out; omega) .i64
  have hle6 : n ≤ 1000000 := by have := HN.out; omega
  have f0 := frozen_of_row w2 E 0 _ _ hg.box
  have HVe := Lib.hid hve
  clear hg hk d8 hvI hvlo hvn hvle hvB hve S0
  go_wp2_with (at_builtin; refine wpList_slice rfl (.tmp 37) (.tmp 43) rfl w2.heap.size (.slice (some ⟨w2.heap.size, 0, none⟩) 0 0) [] va n vc (a.f0.zs.take n) rfl rfl (World.ownsRow_made w2 #[] 0 (Nat.le_refl _) (Nat.zero_le _) rfl) HI.out HNn.out (by show 0 + n ≤ _; omega) (by simp) ?_)
  intro v3 w3 hown hgr
  have hown3 : w3.ownsRow w2.heap.size 5 1 v3 (a.f0.zs.take n).length ((a.f0.zs.take n).map (Value.int .u8)) := by simpa using hown
  obtain ⟨r1, r2, r3, r4⟩ := rcut_row (off := 0) HG.out.box hown3 hgr
  have e0 := cell_of_row w3 E 0 _ _ _ r1
  have f0 := frozen_of_row w3 E 0 _ _ r1
  simp only [rCs, List.getElem?_toArray, List.getElem?_cons_zero, List.getElem?_cons_succ] at e0
  have hE3 : E < w3.heap.size := (Array.getElem?_eq_some_iff.1 r1).1
  have R2 := Lib.hid r2
  have R3 := Lib.hid r3
  have R4 := Lib.hid r4
  have HBw := Lib.hid HG.out.le
  obtain ⟨a3, L3, c3, rfl⟩ := own_slice hown3
  clear hown hgr hown3 r1 r2 r3 r4 c0
  go_wp2_with fail
  refine (rsettle _ E 0 B _ _ (a.f0.zs.take n) (.slice a3 L3 c3) k0 (.map (some M0)) R2.out rfl rfl rfl (own_base R3.out HBw.out) (fun z hz => HW.out.w0.rz z (List.mem_of_mem_take hz)) (by rw [HLt.out]; omega)).mono ?_
  rintro e w4 ⟨rfl, hs⟩
  have HS := Lib.hid (DPost.from HK.out (HG.out.settled0 (zs := a.f0.zs.take n) R4.out (own_base R3.out HBw.out) (fun g hg => .inr (own_lt R3.out hg).1) hs))
  clear hs
  go_wp2
  go_ret
  exact ⟨rfl, HS.out⟩
set_option maxHeartbeats 1600000 in
theorem rread_go0 (w : World) (E B : Nat) (i0 k0 : Value) (M0 : Nat) (i1 k1 : Value) (M1 : Nat) (a : DA) (p n : Nat) (h : RC w E B i0 k0 M0 i1 k1 M1 a) (hW : a.Wf) (hf : a.f0.zs.length ≤ 1000000) (hd : a.down = false) (hn : p + n ≤ a.f0.zs.length) :
    Calls Try.prog 52 #[.pointer (some ⟨E, 0, none⟩), .int .i64 0, .int .i64 (p : Int), .int .i64 (n : Int)] w (RdPost w (0, (a.f0.zs.drop p).take n)) := by
  have d8 := h.d8
  rw [hd] at d8
  obtain ⟨va, vL, vc, hve, hvL, hvI, hvlo, hvn, hvle, hvB⟩ := own_any h.is0 hW.w0.rz
  subst hvL
  have c0 : w.cell? ⟨E, 0, none⟩ = some (.slice va a.f0.zs.length vc) := by rw [cell_of_row w E 0 _ _ _ h.box, ← hve]; rfl
  have hE : E < w.heap.size := (Array.getElem?_eq_some_iff.1 h.box).1
  have S0 := Lib.hid (fun (w' : World) (hw : w' = w) => rsize_any w' E B i0 k0 M0 i1 k1 M1 a 0 (by rw [hw]; exact h) hW)
  have HSz := Lib.hid (show a.size 0 = a.f0.zs.length from rfl)
  have HRg := Lib.hid (show ∀ z ∈ (a.f0.zs.drop p).take n, 0 ≤ z ∧ z ≤ 255 from fun z hz => hW.w0.rz z (List.mem_of_mem_drop (List.mem_of_mem_take hz)))
  have HLt := Lib.hid (show ((a.f0.zs.drop p).take n).length = n by rw [List.length_take, List.length_drop]; omega)
  generalize a.f0.zs = zs at *
  obtain ⟨q, hq⟩ : ∃ q, q = p + n := ⟨_, rfl⟩
  have e1 : q - p = n := by omega
  have hIb := isB_take (k := q - p) (isB_off (cap := vc) (k := p) hvI (by omega) hvle) (by omega)
  rw [e1] at hIb
  have hlo2 : ∀ x, n ≠ 0 → offA va vc p = some x → x.block < w.heap.size := fun x h0 hx => by
    unfold offA at hx
    split at hx
    · exact hvlo x (by omega) hx
    · obtain ⟨y, hy, rfl⟩ := Option.map_eq_some_iff.1 hx
      have hb : (y.add p).block = y.block := by unfold Addr.add; split <;> rfl
      rw [hb]
      exact hvlo y (by omega) hy
  have HI := Lib.hid (isB_keep hIb (only_alloc (fun _ => False) w (.cells #[] 5)) hlo2 (fun _ _ _ => id))
  have HNn := Lib.hid (show offA va vc p = none → n = 0 ∧ vc - p = 0 from fun h => by have := offA_nil (cap := vc) (k := p) hvn h; omega)
  have hsl := slice_lh va zs.length vc p q (by omega) (by omega) .i64 .i64
  rw [e1] at hsl
  have hqi : (q : Int) = (p : Int) + (n : Int) := by omega
  simp only [hqi] at hsl
  have hw1 : wrap64 ((p : Int) + (n : Int)) = (p : Int) + (n : Int) := by unfold wrap64; omega
  have hw2 : wrap64 ((zs.length : Int) - (p : Int)) = (zs.length : Int) - (p : Int) := by unfold wrap64; omega
  have i1 : (0 : Int) ≤ (p : Int) := by omega
  have i2 : (0 : Int) ≤ (n : Int) := by omega
  have i3 : (p : Int) ≤ (zs.length : Int) := by omega
  have i4 : (n : Int) ≤ (zs.length : Int) - (p : Int) := by omega
  have HN1 := Lib.hid (show n ≤ 1000000 by omega)
  clear h hW hvI hvlo hvn hvle hvB hve hIb hlo2 hqi hq e1 hd hn
  go_enter Try.func52, Try.ntmps52
  go_wp2_with fail
  refine (rthere_yes 0 (by decide) _).mono ?_
  rintro e w1 ⟨rfl, hw⟩
  subst hw
  go_wp2_with fail
  refine (S0.out _ rfl).mono ?_
  rintro e w1 ⟨rfl, hw⟩
  subst hw
  rw [HSz.out]
  go_wp2_with fail
  refine (S0.out _ rfl).mono ?_
  rintro e w1 ⟨rfl, hw⟩
  subst hw
  rw [HSz.out]
  go_wp2_with (at_builtin; refine wpList_slice rfl (.tmp 42) (.tmp 54) rfl w1.heap.size (.slice (some ⟨w1.heap.size, 0, none⟩) 0 0) [] (offA va vc p) n (vc - p) ((zs.drop p).take n) rfl rfl (World.ownsRow_made w1 #[] 0 (Nat.le_refl _) (Nat.zero_le _) rfl) HI.out HNn.out (by have := HN1.out; show 0 + n ≤ _; omega) (by simp) ?_)
  intro v2 w2 hown hgr
  have HO := Lib.hid (show w2.ownsRow w1.heap.size 5 1 v2 ((zs.drop p).take n).length (((zs.drop p).take n).map (Value.int .u8)) by simpa using hown)
  have HB := Lib.hid (below_only (only_new (S := fun _ => False) hgr))
  obtain ⟨a2, L2, c2, rfl⟩ := own_slice HO.out
  clear hown hgr
  go_wp2
  go_ret2
  exact rdPost_row HO.out HRg.out HB.out

set_option maxHeartbeats 1600000 in
theorem rcut_go1 (w : World) (E B : Nat) (i0 k0 : Value) (M0 : Nat) (i1 k1 : Value) (M1 : Nat) (a : DA) (n : Nat) (h : RC w E B i0 k0 M0 i1 k1 M1 a) (hW : a.Wf) (hf : a.f1.zs.length ≤ 1000000) (hd : a.down = false) (hp : a.pow = true) (hn : n ≤ a.f1.zs.length) :
    Calls Try.prog 46 #[.pointer (some ⟨E, 0, none⟩), .int .i64 1, .int .i64 (n : Int)] w fun e w' => e = .returned (.int .i64 0) ∧ DPost w E B i0 k0 M0 i1 k1 M1 (a.tick.put 1 (a.f1.cut n)) w' := by
  have d8 := h.d8
  rw [hd] at d8
  have H := Lib.hid h
  have HW := Lib.hid hW
  have HP := Lib.hid hp
  have HN := Lib.hid hn
  have hn0 : (0 : Int) ≤ (n : Int) := by omega
  have hn1 : (n : Int) ≤ ((a.f1.zs.length : Nat) : Int) := by omega
  have S0 := Lib.hid (fun (w' : World) (hw : w' = w) => rsize_any w' E B i0 k0 M0 i1 k1 M1 a 1 (by rw [hw]; exact h) hW)
  have HSz := Lib.hid (show a.size 1 = a.f1.zs.length from rfl)
  have hlt : ((a.f1.zs.take n).length : Nat) = n := by rw [List.length_take]; omega
  have HLt := Lib.hid hlt
  clear h hW hp hn hlt hd
  go_enter Try.func46, Try.ntmps46
  go_wp2_with fail
  refine (rthere_yes 1 (by decide) _).mono ?_
  rintro e w1 ⟨rfl, hw⟩
  subst hw
  go_wp2_with fail
  refine (S0.out _ rfl).mono ?_
  rintro e w1 ⟨rfl, hw⟩
  subst hw
  rw [HSz.out]
  go_wp2_with fail
  refine (rchange_pass _ E B i0 k0 M0 i1 k1 M1 a H.out HW.out HP.out).mono ?_
  rintro e w2 ⟨rfl, hg, hk⟩
  have hi0 : w2.ownsRow B 5 1 i1 a.f1.zs.length (a.f1.zs.map (Value.int .u8)) := hg.is1
  obtain ⟨va, vL, vc, hve, hvL, hvI, hvlo, hvn, hvle, hvB⟩ := own_any hi0 HW.out.w1.rz
  subst hvL
  clear hi0
  have c0 : w2.cell? ⟨E, 3, none⟩ = some (.slice va a.f1.zs.length vc) := by rw [cell_of_row w2 E 3 _ _ _ hg.box, ← hve]; rfl
  have hE : E < w2.heap.size := (Array.getElem?_eq_some_iff.1 hg.box).1
  have HG := Lib.hid hg
  have HK := Lib.hid hk
  have HI := Lib.hid (isB_take (isB_keep hvI (only_alloc (fun _ => False) w2 (.cells #[] 5)) hvlo (fun _ _ _ => id)) HN.out)
  have HNn := Lib.hid (show va = none → n = 0 ∧ vc = 0 from fun e => by have := hvn e; have := HN.out; omega)
  have hs1 := slice_h va a.f1.zs.length vc n (by have := HN.out; omega) .i64
  have hle6 : n ≤ 1000000 := by have := HN.out; omega
  have f0 := frozen_of_row w2 E 3 _ _ hg.box
  have HVe := Lib.hid hve
  clear hg hk d8 hvI hvlo hvn hvle hvB hve S0
  go_wp2_with (at_builtin; refine wpList_slice rfl (.tmp 37) (.tmp 43) rfl w2.heap.size (.slice (some ⟨w2.heap.size, 0, none⟩) 0 0) [] va n vc (a.f1.zs.take n) rfl rfl (World.ownsRow_made w2 #[] 0 (Nat.le_refl _) (Nat.zero_le _) rfl) HI.out HNn.out (by show 0 + n ≤ _; omega) (by simp) ?_)
  intro v3 w3 hown hgr
  have hown3 : w3.ownsRow w2.heap.size 5 1 v3 (a.f1.zs.take n).length ((a.f1.zs.take n).map (Value.int .u8)) := by simpa using hown
  obtain ⟨r1, r2, r3, r4⟩ := rcut_row (off := 3) HG.out.box hown3 hgr
  have e0 := cell_of_row w3 E 3 _ _ _ r1
  have f0 := frozen_of_row w3 E 3 _ _ r1
  simp only [rCs, List.getElem?_toArray, List.getElem?_cons_zero, List.getElem?_cons_succ] at e0
  have hE3 : E < w3.heap.size := (Array.getElem?_eq_some_iff.1 r1).1
  have R2 := Lib.hid r2
  have R3 := Lib.hid r3
  have R4 := Lib.hid r4
  have HBw := Lib.hid HG.out.le
  obtain ⟨a3, L3, c3, rfl⟩ := own_slice hown3
  clear hown hgr hown3 r1 r2 r3 r4 c0
  go_wp2_with fail
  refine (rsettle _ E 3 B _ _ (a.f1.zs.take n) (.slice a3 L3 c3) k1 (.map (some M1)) R2.out rfl rfl rfl (own_base R3.out HBw.out) (fun z hz => HW.out.w1.rz z (List.mem_of_mem_take hz)) (by rw [HLt.out]; omega)).mono ?_
  rintro e w4 ⟨rfl, hs⟩
  have HS := Lib.hid (DPost.from HK.out (HG.out.settled1 (zs := a.f1.zs.take n) R4.out (own_base R3.out HBw.out) (fun g hg => .inr (own_lt R3.out hg).1) hs))
  clear hs
  go_wp2
  go_ret
  exact ⟨rfl, HS.out⟩
set_option maxHeartbeats 1600000 in
theorem rread_go1 (w : World) (E B : Nat) (i0 k0 : Value) (M0 : Nat) (i1 k1 : Value) (M1 : Nat) (a : DA) (p n : Nat) (h : RC w E B i0 k0 M0 i1 k1 M1 a) (hW : a.Wf) (hf : a.f1.zs.length ≤ 1000000) (hd : a.down = false) (hn : p + n ≤ a.f1.zs.length) :
    Calls Try.prog 52 #[.pointer (some ⟨E, 0, none⟩), .int .i64 1, .int .i64 (p : Int), .int .i64 (n : Int)] w (RdPost w (0, (a.f1.zs.drop p).take n)) := by
  have d8 := h.d8
  rw [hd] at d8
  obtain ⟨va, vL, vc, hve, hvL, hvI, hvlo, hvn, hvle, hvB⟩ := own_any h.is1 hW.w1.rz
  subst hvL
  have c0 : w.cell? ⟨E, 3, none⟩ = some (.slice va a.f1.zs.length vc) := by rw [cell_of_row w E 3 _ _ _ h.box, ← hve]; rfl
  have hE : E < w.heap.size := (Array.getElem?_eq_some_iff.1 h.box).1
  have S0 := Lib.hid (fun (w' : World) (hw : w' = w) => rsize_any w' E B i0 k0 M0 i1 k1 M1 a 1 (by rw [hw]; exact h) hW)
  have HSz := Lib.hid (show a.size 1 = a.f1.zs.length from rfl)
  have HRg := Lib.hid (show ∀ z ∈ (a.f1.zs.drop p).take n, 0 ≤ z ∧ z ≤ 255 from fun z hz => hW.w1.rz z (List.mem_of_mem_drop (List.mem_of_mem_take hz)))
  have HLt := Lib.hid (show ((a.f1.zs.drop p).take n).length = n by rw [List.length_take, List.length_drop]; omega)
  generalize a.f1.zs = zs at *
  obtain ⟨q, hq⟩ : ∃ q, q = p + n := ⟨_, rfl⟩
  have e1 : q - p = n := by omega
  have hIb := isB_take (k := q - p) (isB_off (cap := vc) (k := p) hvI (by omega) hvle) (by omega)
  rw [e1] at hIb
  have hlo2 : ∀ x, n ≠ 0 → offA va vc p = some x → x.block < w.heap.size := fun x h0 hx => by
    unfold offA at hx
    split at hx
    · exact hvlo x (by omega) hx
    · obtain ⟨y, hy, rfl⟩ := Option.map_eq_some_iff.1 hx
      have hb : (y.add p).block = y.block := by unfold Addr.add; split <;> rfl
      rw [hb]
      exact hvlo y (by omega) hy
  have HI := Lib.hid (isB_keep hIb (only_alloc (fun _ => False) w (.cells #[] 5)) hlo2 (fun _ _ _ => id))
  have HNn := Lib.hid (show offA va vc p = none → n = 0 ∧ vc - p = 0 from fun h => by have := offA_nil (cap := vc) (k := p) hvn h; omega)
  have hsl := slice_lh va zs.length vc p q (by omega) (by omega) .i64 .i64
  rw [e1] at hsl
  have hqi : (q : Int) = (p : Int) + (n : Int) := by omega
  simp only [hqi] at hsl
  have hw1 : wrap64 ((p : Int) + (n : Int)) = (p : Int) + (n : Int) := by unfold wrap64; omega
  have hw2 : wrap64 ((zs.length : Int) - (p : Int)) = (zs.length : Int) - (p : Int) := by unfold wrap64; omega
  have i1 : (0 : Int) ≤ (p : Int) := by omega
  have i2 : (0 : Int) ≤ (n : Int) := by omega
  have i3 : (p : Int) ≤ (zs.length : Int) := by omega
  have i4 : (n : Int) ≤ (zs.length : Int) - (p : Int) := by omega
  have HN1 := Lib.hid (show n ≤ 1000000 by omega)
  clear h hW hvI hvlo hvn hvle hvB hve hIb hlo2 hqi hq e1 hd hn
  go_enter Try.func52, Try.ntmps52
  go_wp2_with fail
  refine (rthere_yes 1 (by decide) _).mono ?_
  rintro e w1 ⟨rfl, hw⟩
  subst hw
  go_wp2_with fail
  refine (S0.out _ rfl).mono ?_
  rintro e w1 ⟨rfl, hw⟩
  subst hw
  rw [HSz.out]
  go_wp2_with fail
  refine (S0.out _ rfl).mono ?_
  rintro e w1 ⟨rfl, hw⟩
  subst hw
  rw [HSz.out]
  go_wp2_with (at_builtin; refine wpList_slice rfl (.tmp 42) (.tmp 54) rfl w1.heap.size (.slice (some ⟨w1.heap.size, 0, none⟩) 0 0) [] (offA va vc p) n (vc - p) ((zs.drop p).take n) rfl rfl (World.ownsRow_made w1 #[] 0 (Nat.le_refl _) (Nat.zero_le _) rfl) HI.out HNn.out (by have := HN1.out; show 0 + n ≤ _; omega) (by simp) ?_)
  intro v2 w2 hown hgr
  have HO := Lib.hid (show w2.ownsRow w1.heap.size 5 1 v2 ((zs.drop p).take n).length (((zs.drop p).take n).map (Value.int .u8)) by simpa using hown)
  have HB := Lib.hid (below_only (only_new (S := fun _ => False) hgr))
  obtain ⟨a2, L2, c2, rfl⟩ := own_slice HO.out
  clear hown hgr
  go_wp2
  go_ret2
  exact rdPost_row HO.out HRg.out HB.out

set_option maxHeartbeats 3200000 in
theorem rcut_any (w : World) (E B : Nat) (i0 k0 : Value) (M0 : Nat) (i1 k1 : Value) (M1 : Nat) (a : DA) (f p : Int) (h : RC w E B i0 k0 M0 i1 k1 M1 a) (hW : a.Wf) (hf : a.few 1000000) :
    Calls Try.prog 46 #[.pointer (some ⟨E, 0, none⟩), .int .i64 f, .int .i64 p] w fun e w' => e = .returned (.int .i64 (a.cut f p).1) ∧ DPost w E B i0 k0 M0 i1 k1 M1 (a.cut f p).2 w' := by
  obtain ⟨hf0, hl0, hf1, hl1⟩ := hf
  have d8 := h.d8
  have H := Lib.hid h
  have HW := Lib.hid hW
  have S0 := Lib.hid (fun (w' : World) (hw : w' = w) => rsize_any w' E B i0 k0 M0 i1 k1 M1 a f (by rw [hw]; exact h) hW)
  by_cases hff : f ≠ 0 ∧ f ≠ 1
  · have e1 : a.cut f p = (1, a) := by unfold DA.cut; rw [if_pos hff]
    rw [e1]
    have HFF := Lib.hid hff
    clear hff h hW e1
    go_enter Try.func46, Try.ntmps46
    go_wp2_with fail
    refine (rthere_no f HFF.out _).mono ?_
    rintro e w1 ⟨rfl, hw⟩
    subst hw
    go_wp2
    go_ret
    exact ⟨rfl, H.out.stay⟩
  have hff' : f = 0 ∨ f = 1 := by omega
  have HFF := Lib.hid hff'
  by_cases hd : a.down = true
  · have e1 : a.cut f p = (16, a) := by unfold DA.cut; rw [if_neg hff, if_pos hd]
    rw [e1]
    rw [hd] at d8
    clear hff hff' h hW hd e1
    go_enter Try.func46, Try.ntmps46
    go_wp2_with fail
    refine (rthere_yes f HFF.out _).mono ?_
    rintro e w1 ⟨rfl, hw⟩
    subst hw
    go_wp2
    go_ret
    exact ⟨rfl, H.out.stay⟩
  have hd' : a.down = false := by simpa using hd
  rw [hd'] at d8
  by_cases ho : p < 0 ∨ (a.size f : Int) < p
  · have e1 : a.cut f p = (1, a) := by unfold DA.cut; rw [if_neg hff, if_neg hd, if_pos ho]
    rw [e1]
    by_cases hn : p < 0
    · have hnd : decide (p < 0) = true := decide_eq_true hn
      clear hff hff' h hW hd hd' ho e1
      go_enter Try.func46, Try.ntmps46
      go_wp2_with fail
      refine (rthere_yes f HFF.out _).mono ?_
      rintro e w1 ⟨rfl, hw⟩
      subst hw
      go_wp2
      go_ret
      exact ⟨rfl, H.out.stay⟩
    · have hn0 : 0 ≤ p := by omega
      have hl : (a.size f : Int) < p := by omega
      clear hff hff' h hW hd hd' ho e1 hn
      go_enter Try.func46, Try.ntmps46
      go_wp2_with fail
      refine (rthere_yes f HFF.out _).mono ?_
      rintro e w1 ⟨rfl, hw⟩
      subst hw
      go_wp2_with fail
      refine (S0.out _ rfl).mono ?_
      rintro e w1 ⟨rfl, hw⟩
      subst hw
      go_wp2
      go_ret
      exact ⟨rfl, H.out.stay⟩
  obtain ⟨k, rfl⟩ : ∃ k : Nat, p = (k : Int) := ⟨p.toNat, by omega⟩
  by_cases hp : a.pow = false
  · have e1 : a.cut f (k : Int) = (16, a.gone) := by unfold DA.cut; rw [if_neg hff, if_neg hd, if_neg ho, if_pos hp]
    rw [e1]
    have HP := Lib.hid hp
    have hn0 : (0 : Int) ≤ (k : Int) := by omega
    have hn1 : (k : Int) ≤ (a.size f : Int) := by omega
    clear hff hff' h hW hd hd' hp e1 ho
    go_enter Try.func46, Try.ntmps46
    go_wp2_with fail
    refine (rthere_yes f HFF.out _).mono ?_
    rintro e w1 ⟨rfl, hw⟩
    subst hw
    go_wp2_with fail
    refine (S0.out _ rfl).mono ?_
    rintro e w1 ⟨rfl, hw⟩
    subst hw
    go_wp2_with fail
    refine (rchange_gone _ E B i0 k0 M0 i1 k1 M1 a H.out HP.out).mono ?_
    rintro e w2 ⟨rfl, hg, hk⟩
    have HG := Lib.hid (hg.same (a := a) hk)
    clear hg hk
    go_wp2
    go_ret
    exact ⟨rfl, HG.out⟩
  have hp' : a.pow = true := by simpa using hp
  have e1 : a.cut f (k : Int) = (0, a.tick.put f ((a.on f).cut k)) := by unfold DA.cut; rw [if_neg hff, if_neg hd, if_neg ho, if_neg hp, Int.toNat_natCast]
  rw [e1]
  have hks : k ≤ a.size f := by omega
  rcases hff' with rfl | rfl
  · exact rcut_go0 w E B i0 k0 M0 i1 k1 M1 a k h hW hf0 hd' hp' hks
  · exact rcut_go1 w E B i0 k0 M0 i1 k1 M1 a k h hW hf1 hd' hp' hks
set_option maxHeartbeats 3200000 in
theorem rread_any (w : World) (E B : Nat) (i0 k0 : Value) (M0 : Nat) (i1 k1 : Value) (M1 : Nat) (a : DA) (f p n : Int) (h : RC w E B i0 k0 M0 i1 k1 M1 a) (hW : a.Wf) (hf : a.few 1000000) :
    Calls Try.prog 52 #[.pointer (some ⟨E, 0, none⟩), .int .i64 f, .int .i64 p, .int .i64 n] w (RdPost w (a.read f p n)) := by
  obtain ⟨hf0, hl0, hf1, hl1⟩ := hf
  have d8 := h.d8
  have S0 := Lib.hid (fun (w' : World) (hw : w' = w) => rsize_any w' E B i0 k0 M0 i1 k1 M1 a f (by rw [hw]; exact h) hW)
  by_cases hff : f ≠ 0 ∧ f ≠ 1
  · have e1 : a.read f p n = (1, []) := by unfold DA.read; rw [if_pos hff]
    rw [e1]
    have HFF := Lib.hid hff
    clear hff h hW e1
    go_enter Try.func52, Try.ntmps52
    go_wp2_with fail
    refine (rthere_no f HFF.out _).mono ?_
    rintro e w1 ⟨rfl, hw⟩
    subst hw
    go_wp2
    go_ret2
    exact rdPost_err _ _
  have hff' : f = 0 ∨ f = 1 := by omega
  have HFF := Lib.hid hff'
  by_cases hd : a.down = true
  · have e1 : a.read f p n = (16, []) := by unfold DA.read; rw [if_neg hff, if_pos hd]
    rw [e1]
    rw [hd] at d8
    clear hff hff' h hW hd e1
    go_enter Try.func52, Try.ntmps52
    go_wp2_with fail
    refine (rthere_yes f HFF.out _).mono ?_
    rintro e w1 ⟨rfl, hw⟩
    subst hw
    go_wp2
    go_ret2
    exact rdPost_err _ _
  have hd' : a.down = false := by simpa using hd
  rw [hd'] at d8
  have hsz : a.size f ≤ 1000000 := by
    rcases hff' with rfl | rfl
    · exact hf0
    · exact hf1
  by_cases ho : p < 0 ∨ n < 0 ∨ (a.size f : Int) < p ∨ (a.size f : Int) - p < n
  · have e1 : a.read f p n = (1, []) := by unfold DA.read; rw [if_neg hff, if_neg hd, if_pos ho]
    rw [e1]
    by_cases hn : p < 0
    · have hnd : decide (p < 0) = true := decide_eq_true hn
      clear hff hff' h hW hd hd' ho e1
      go_enter Try.func52, Try.ntmps52
      go_wp2_with fail
      refine (rthere_yes f HFF.out _).mono ?_
      rintro e w1 ⟨rfl, hw⟩
      subst hw
      go_wp2
      go_ret2
      exact rdPost_err _ _
    have hp0 : 0 ≤ p := by omega
    by_cases hm : n < 0
    · have hnd : decide (n < 0) = true := decide_eq_true hm
      clear hff hff' h hW hd hd' ho e1 hn
      go_enter Try.func52, Try.ntmps52
      go_wp2_with fail
      refine (rthere_yes f HFF.out _).mono ?_
      rintro e w1 ⟨rfl, hw⟩
      subst hw
      go_wp2
      go_ret2
      exact rdPost_err _ _
    have hn0 : 0 ≤ n := by omega
    by_cases hl : (a.size f : Int) < p
    · clear hff hff' h hW hd hd' ho e1 hn hm
      go_enter Try.func52, Try.ntmps52
      go_wp2_with fail
      refine (rthere_yes f HFF.out _).mono ?_
      rintro e w1 ⟨rfl, hw⟩
      subst hw
      go_wp2_with fail
      refine (S0.out _ rfl).mono ?_
      rintro e w1 ⟨rfl, hw⟩
      subst hw
      go_wp2
      go_ret2
      exact rdPost_err _ _
    have hl' : p ≤ (a.size f : Int) := by omega
    have hr : (a.size f : Int) - p < n := by omega
    have hwr : wrap64 ((a.size f : Int) - p) = (a.size f : Int) - p := by unfold wrap64; omega
    clear hff hff' h hW hd hd' ho e1 hn hm hl
    go_enter Try.func52, Try.ntmps52
    go_wp2_with fail
    refine (rthere_yes f HFF.out _).mono ?_
    rintro e w1 ⟨rfl, hw⟩
    subst hw
    go_wp2_with fail
    refine (S0.out _ rfl).mono ?_
    rintro e w1 ⟨rfl, hw⟩
    subst hw
    go_wp2_with fail
    refine (S0.out _ rfl).mono ?_
    rintro e w1 ⟨rfl, hw⟩
    subst hw
    go_wp2
    go_ret2
    exact rdPost_err _ _
  obtain ⟨k, rfl⟩ : ∃ k : Nat, p = (k : Int) := ⟨p.toNat, by omega⟩
  obtain ⟨m, rfl⟩ : ∃ m : Nat, n = (m : Int) := ⟨n.toNat, by omega⟩
  have e1 : a.read f (k : Int) (m : Int) = (0, ((a.on f).zs.drop k).take m) := by unfold DA.read; rw [if_neg hff, if_neg hd, if_neg ho, Int.toNat_natCast, Int.toNat_natCast]
  rw [e1]
  have hkm : k + m ≤ a.size f := by omega
  rcases hff' with rfl | rfl
  · exact rread_go0 w E B i0 k0 M0 i1 k1 M1 a k m h hW hf0 hd' hkm
  · exact rread_go1 w E B i0 k0 M0 i1 k1 M1 a k m h hW hf1 hd' hkm
end Go.Proofs.Ytafhgilikcablaa
