/- The document's disk: Crash. (Written by gendpd6.py.) -/
import Derived.Test.YtafhgilikcablaaDpD4
import Derived.Test.YtafhgilikcablaaDpSo
import Derived.Deep.CutBlock
namespace Go.Proofs.Ytafhgilikcablaa
open Go.RowKit Go.Maps
set_option linter.unusedVariables false
set_option maxRecDepth 100000

theorem rsec_facts {s n : Nat} (hs : 64 * s < n) (hn : n ≤ 1000000) : wrap64 (64 * (s : Int)) = ((64 * s : Nat) : Int) ∧ IntKind.i64.wrap (64 * (s : Int)) = ((64 * s : Nat) : Int) ∧ wrap64 (((64 * s : Nat) : Int) + 64) = ((64 * s : Nat) : Int) + 64 ∧ min (((64 * s : Nat) : Int) + 64) (n : Int) = ((min (64 * s + 64) n : Nat) : Int) ∧ ((64 * s : Nat) : Int) < (n : Int) ∧ (0 : Int) ≤ ((64 * s : Nat) : Int) ∧ (0 : Int) ≤ (s : Int) :=
  ⟨(wrap64_in (by omega) (by omega)).trans (by omega), (wrapI_in (by omega) (by omega)).trans (by omega), wrap64_in (by omega) (by omega), by omega, by omega, by omega, by omega⟩
set_option maxHeartbeats 1600000 in
theorem rsector (w : World) (va : Option Addr) (n vc s : Nat) (hs : 64 * s < n) (hn : n ≤ 1000000) (hle : n ≤ vc) :
    Calls Try.prog 93 #[.slice va n vc, .int .i64 (s : Int)] w fun e w' => e = .returned (.slice (offA va vc (64 * s)) (min (64 * s + 64) n - 64 * s) (vc - 64 * s)) ∧ w' = w := by
  obtain ⟨f1, f2, f3, f4, f5, f6, f7⟩ := rsec_facts hs hn
  have hsl := slice_lh va n vc (64 * s) (min (64 * s + 64) n) (by omega) (by omega) .i64 .i64
  obtain ⟨q, hq⟩ : ∃ q, q = 64 * s := ⟨_, rfl⟩
  obtain ⟨m, hm⟩ : ∃ m, m = min (64 * s + 64) n := ⟨_, rfl⟩
  rw [← hm] at f4 hsl ⊢
  rw [← hq] at f1 f2 f3 f4 f5 f6 hsl ⊢
  clear hq hm hs
  rw [← f4] at hsl
  clear f4
  go_enter Try.func93, Try.ntmps93
  go_upto_region 3 with (fail)
  go_wp2
  go_ret
  exact ⟨rfl, rfl⟩

/-- the first i bytes as a crash leaves them -/
def fillK (l : List Int) (kv : Int) (i : Nat) : List Int := if kv = 1 then l else List.replicate i (kv % 256) ++ l.drop i
theorem fillK_zero (l : List Int) (kv : Int) : fillK l kv 0 = l := by unfold fillK; split <;> simp
theorem fillK_length {l : List Int} {kv : Int} {i : Nat} (h : i ≤ l.length) : (fillK l kv i).length = l.length := by
  unfold fillK
  split
  · rfl
  · rw [List.length_append, List.length_replicate, List.length_drop]; omega
theorem fillK_one (l : List Int) (i j : Nat) : fillK l 1 i = fillK l 1 j := by unfold fillK; rw [if_pos rfl, if_pos rfl]
theorem fillK_succ {l : List Int} {kv : Int} {i : Nat} (hi : i < l.length) (hk : kv ≠ 1) : (fillK l kv i).set i (kv % 256) = fillK l kv (i + 1) := by
  unfold fillK
  rw [if_neg hk, if_neg hk, List.set_append_right _ _ (by simp), List.length_replicate, Nat.sub_self, List.drop_eq_getElem_cons hi, List.set_cons_zero, List.replicate_succ', List.append_assoc]
  rfl
theorem fillK_at {l : List Int} {kv : Int} {j : Nat} (hj : j < l.length) : (fillK l kv l.length).getD j 0 = if kv = 1 then l.getD j 0 else kv % 256 := by
  unfold fillK
  split
  · rfl
  · rw [List.drop_length, List.append_nil, List.getD_eq_getElem?_getD, List.getElem?_replicate, if_pos hj]; rfl
theorem fillK_range {l : List Int} {kv : Int} {i : Nat} (h : ∀ z ∈ l, 0 ≤ z ∧ z ≤ 255) : ∀ z ∈ fillK l kv i, 0 ≤ z ∧ z ≤ 255 := fun z hz => by
  unfold fillK at hz
  split at hz
  · exact h z hz
  · rcases List.mem_append.1 hz with hz | hz
    · rw [List.eq_of_mem_replicate hz]; omega
    · exact h z (List.mem_of_mem_drop hz)
theorem cpB_mid {zs b : List Int} {p : Nat} (h : p + b.length ≤ zs.length) : cpB zs b p = midB zs b p := by
  have hm : Nat.min b.length (zs.length - p) = b.length := by
    show Min.min _ _ = _
    omega
  unfold cpB midB
  rw [hm, List.take_of_length_le (Nat.le_refl _)]
theorem crash_put {zs out : List Int} {s k c : Nat} {kv : Int} (hc : c = min (64 * s + 64) zs.length - 64 * s) (hs : 64 * s < zs.length) (h1 : 64 * s + c ≤ out.length + k) (h2 : k = 0 ∨ out.length + k ≤ 64 * s + c) :
    cpB (out ++ List.replicate k 0) (fillK ((zs.drop (64 * s)).take c) kv c) (64 * s) = putS zs out s kv := by
  have hl : ((zs.drop (64 * s)).take c).length = c := by rw [List.length_take, List.length_drop]; omega
  have hfl : (fillK ((zs.drop (64 * s)).take c) kv c).length = c := by rw [fillK_length (by omega), hl]
  have hol : (out ++ List.replicate k 0).length = out.length + k := by rw [List.length_append, List.length_replicate]
  have hfit : 64 * s + (fillK ((zs.drop (64 * s)).take c) kv c).length ≤ (out ++ List.replicate k 0).length := by rw [hfl, hol]; exact h1
  rw [cpB_mid hfit]
  apply ext_getD
  · rw [midB_length hfit, hol, putS_length]; omega
  · intro i hi
    rw [midB_length hfit, hol] at hi
    rw [midB_at hfit (by rw [hol]; exact hi), hfl, putS_at (by omega)]
    by_cases hin : 64 * s ≤ i ∧ i < 64 * s + c
    · rw [if_pos hin, if_pos (by omega)]
      have e : fillK ((zs.drop (64 * s)).take c) kv c = fillK ((zs.drop (64 * s)).take c) kv ((zs.drop (64 * s)).take c).length := by rw [hl]
      rw [e, fillK_at (by rw [hl]; omega)]
      split
      · rw [List.getD_eq_getElem?_getD, List.getElem?_take, if_pos (by omega), List.getElem?_drop, List.getD_eq_getElem?_getD]
        congr 2
        omega
      · rfl
    · rw [if_neg hin, if_neg (by omega)]
      by_cases ho : i < out.length
      · rw [if_pos ho, List.getD_eq_getElem?_getD, List.getElem?_append_left ho, List.getD_eq_getElem?_getD]
      · rw [if_neg ho, List.getD_eq_getElem?_getD, List.getElem?_append_right (by omega), List.getElem?_replicate, if_pos (by omega)]
        rfl
/-- one byte is written into a row of its own -/
theorem GrIn.put {W wr : World} {zk : List Int} {g n c : Nat} (h : GrIn W zk (.slice (some ⟨g, 0, none⟩) n c) wr) (j : Nat) (x : Int) : GrIn W (zk.set j x) (.slice (some ⟨g, 0, none⟩) n c) (wr.setCell ⟨g, j, none⟩ (.int .u8 x)) := by
  have hn : n = zk.length := by
    rcases h.1.2 with ⟨e, _⟩ | ⟨_, _, _, e, _⟩
    · cases e
    · cases e; rfl
  subst hn
  obtain ⟨h1, h2⟩ := World.ownsRow.stored h.1 j (.int .u8 x)
  refine ⟨?_, own_grow h.1 h.2 h2⟩
  rw [List.length_set, List.map_set]
  exact h1
theorem GrIn.over {W wr w' : World} {zk : List Int} {v : Value} (h : GrIn W zk v wr) (k : Only (fun _ => False) wr w') : GrIn W zk v w' := ⟨own_only h.1 k (fun _ _ => id), h.2.trans k⟩
theorem IsK.only {w w' : World} {S : Nat → Prop} {a : Option Addr} {len : Nat} {kz : List Int} (h : IsK w a len kz) (k : Only (fun _ => False) w w') : IsK w' a len kz := h.below (below_only k)
theorem foldD_step0 {kz ys zs : List Int} {t s : Nat} {L : List Lit} (h : inL L s = true) (hk : keepV kz (t + (secN L s).length) = 0) : (foldD kz ys zs t (secN L (s + 1))).1 = (foldD kz ys zs t (secN L s)).1 := by
  rw [secN_succ, if_pos h, foldD_snoc]
  show (if keepV kz (foldD kz ys zs t (secN L s)).2 = 0 then _ else _ : List Int) = _
  rw [foldD_turn, if_pos hk]
theorem foldD_step1 {kz ys zs : List Int} {t s : Nat} {L : List Lit} (h : inL L s = true) (hk : keepV kz (t + (secN L s).length) ≠ 0) : (foldD kz ys zs t (secN L (s + 1))).1 = putS zs (foldD kz ys zs t (secN L s)).1 s (keepV kz (t + (secN L s).length)) := by
  rw [secN_succ, if_pos h, foldD_snoc]
  show (if keepV kz (foldD kz ys zs t (secN L s)).2 = 0 then (foldD kz ys zs t (secN L s)).1 else putS zs (foldD kz ys zs t (secN L s)).1 (s : Int).toNat (keepV kz (foldD kz ys zs t (secN L s)).2)) = _
  rw [foldD_turn, if_neg hk, Int.toNat_natCast]
theorem secN_yes {L : List Lit} {s : Nat} (h : inL L s = true) : (secN L (s + 1)).length = (secN L s).length + 1 := by rw [secN_succ, if_pos h, List.length_append]; rfl
theorem secN_not {L : List Lit} {s : Nat} (h : inL L s = false) : secN L (s + 1) = secN L s := by rw [secN_succ, h]; simp
theorem own_not {w : World} {B n size g : Nat} {e : TypeId} {v : Value} {xs : List Value} (h : w.ownsRow B e size v n xs) (hK : w.heap.size ≤ g) : v.ownBlock ≠ some g := fun e => by have := (own_lt h e).2; omega
theorem put_len {ou b P : List Int} {k q : Nat} (h : cpB (ou ++ List.replicate k 0) b q = P) (hq : q ≤ ou.length + k) : P.length = ou.length + k := by
  have hl : (ou ++ List.replicate k 0).length = ou.length + k := by rw [List.length_append, List.length_replicate]
  rw [← h, cpB_length (by rw [hl]; exact hq), hl]
theorem alloc_le (w : World) (o : Obj) : w.heap.size ≤ (w.alloc o).heap.size := by simp
theorem isB_grow {w w' : World} {o : Obj} {r : Option Nat} {g n : Nat} {zs : List Int} (h : IsB w (some ⟨g, 0, none⟩) n zs) (hg : g < w.heap.size) (k : (w.alloc o).grownBy w' r) (hr : r ≠ some g) : IsB w' (some ⟨g, 0, none⟩) n zs :=
  isB_keep (isB_keep h (only_alloc (fun _ => False) w o) (fun x _ hx => by cases hx; exact hg) (fun _ _ _ => id)) (Only.of (S := fun i => r = some i) k (fun K hK => hK)) (fun x _ hx => by cases hx; simp; omega) (fun x _ hx => by cases hx; exact hr)
theorem row_in {w w3 : World} {E off : Nat} {cs : Array Value} {T : TypeId} {zs : List Int} {v3 : Value} (hbox : w.heap[E]? = some (.cells cs T (0, 0))) (h : GrIn w zs v3 w3) :
    w3.heap[E]? = some (.cells cs T (0, 0)) ∧ (w3.setCell ⟨E, off, none⟩ v3).heap[E]? = some (.cells (cs.setIfInBounds off v3) T (0, 0)) ∧ (w3.setCell ⟨E, off, none⟩ v3).ownsRow w.heap.size 5 1 v3 zs.length (zs.map (Value.int .u8)) ∧ Only (fun i => i = E) w (w3.setCell ⟨E, off, none⟩ v3) := by
  have hE : E < w.heap.size := (Array.getElem?_eq_some_iff.1 hbox).1
  have hx2 : w3.heap[E]? = some (.cells cs T (0, 0)) := (h.2.block E hE id).trans hbox
  have hlo : ∀ K, v3.ownBlock = some K → E < K := fun K hK => by have := (own_at h.1 hK).1; omega
  exact ⟨hx2, Go.heap_setCell_same _ E off _ _ v3 hx2, own_set_cell h.1 hlo _ _, (h.2.mono (fun _ => False.elim)).set (S := fun i => i = E) rfl _⟩
/-- so many files of the document's are left -/
def DA.half (a : DA) (kz : List Int) : Nat → DA
  | 0 => a
  | 1 => { a with f0 := a.f0.crash kz 0 }
  | _ => { a with f0 := a.f0.crash kz 0, f1 := a.f1.crash kz a.f0.secs.length }
theorem cr_facts {n : Nat} (hn : n ≤ 1000000) : wrap64 ((n : Int) / 64) = ((n / 64 : Nat) : Int) ∧ IntKind.i64.wrap ((n : Int) / 64) = ((n / 64 : Nat) : Int) ∧ wrap64 (((n / 64 : Nat) : Int) + 1) = ((n / 64 + 1 : Nat) : Int) ∧ IntKind.i64.wrap (((n / 64 : Nat) : Int) + 1) = ((n / 64 + 1 : Nat) : Int) :=
  ⟨(wrap64_in (by omega) (by omega)).trans (by omega), (wrapI_in (by omega) (by omega)).trans (by omega), (wrap64_in (by omega) (by omega)).trans (by omega), (wrapI_in (by omega) (by omega)).trans (by omega)⟩
theorem cr_facts2 {s n c : Nat} (hs : 64 * s < n) (hn : n ≤ 1000000) (hc : c ≤ 64) : wrap64 (64 * (s : Int)) = ((64 * s : Nat) : Int) ∧ IntKind.i64.wrap (64 * (s : Int)) = ((64 * s : Nat) : Int) ∧ wrap64 (((64 * s : Nat) : Int) + (c : Int)) = ((64 * s : Nat) : Int) + (c : Int) ∧ IntKind.i64.wrap (((64 * s : Nat) : Int) + (c : Int)) = ((64 * s : Nat) : Int) + (c : Int) :=
  ⟨(wrap64_in (by omega) (by omega)).trans (by omega), (wrapI_in (by omega) (by omega)).trans (by omega), wrap64_in (by omega) (by omega), wrapI_in (by omega) (by omega)⟩

set_option maxHeartbeats 12800000 in
theorem rcrash_any (W0 w : World) (E B : Nat) (i0 k0 : Value) (M0 : Nat) (i1 k1 : Value) (M1 : Nat) (a : DA) (ka : Option Addr) (kl kc : Nat) (kz : List Int) (h : RC w E B i0 k0 M0 i1 k1 M1 a) (hW : a.Wf) (hf : a.few 1000000) (hK : IsK W0 ka kl kz) (hb : Below W0.heap.size W0 w) (hE : W0.heap.size ≤ E) (hkl : kl ≤ 200) :
    Calls Try.prog 50 #[.pointer (some ⟨E, 0, none⟩), .slice ka kl kc] w fun e w' => e = .returned (.tuple #[]) ∧ DPost w E B i0 k0 M0 i1 k1 M1 (a.crash kz) w' := by
  have HRC := Lib.hid h
  have HW := Lib.hid hW
  have HF := Lib.hid hf
  have HK := Lib.hid hK
  have HB := Lib.hid hb
  have HE := Lib.hid hE
  have H0 := Lib.hid h.stay
  clear h hW hf hK hb hE
  go_enter Try.func50, Try.ntmps50
  go_wp2_with fail
  go_loopw [4, 12] (fun tk i wr => ∃ k : Nat, k ≤ 2 ∧ i = .int .i64 (k : Int) ∧ tk = .int .i64 (a.turn k : Int) ∧ Hid (DPost w E B i0 k0 M0 i1 k1 M1 (a.half kz k) wr)) (fun _ i _ => 2 - (intOf i).toNat)
  case atStart => exact ⟨0, by omega, rfl, rfl, H0⟩
  case round =>
    obtain ⟨k, hk, rfl, rfl, HR⟩ := hrel
    have hkeep : ∀ {wr : World}, Only (rS E i0 k0 M0 i1 k1 M1) w wr → IsK wr ka kl kz := fun {wr} ho => by
      have hb := HB.out
      refine HK.out.below ⟨ho.os.trans hb.os, ho.tape.trans hb.tape, ho.output.trans hb.output, Nat.le_trans hb.size ho.size, fun i hi => (ho.block i (Nat.lt_of_lt_of_le hi hb.size) (fun hS => ?_)).trans (hb.block i hi)⟩
      have := (HRC.out.bound hS).1
      have := HE.out
      omega
    have hk3 : k = 0 ∨ k = 1 ∨ k = 2 := by omega
    rcases hk3 with rfl | rfl | rfl
    · obtain ⟨wf, rfl⟩ : ∃ x, x = wr := ⟨_, rfl⟩
      obtain ⟨u0, t0, n0, u1, t1, n1, hrc, hi, hor⟩ := HR.out
      have HC := Lib.hid hrc
      have HI := Lib.hid hi
      have HO := Lib.hid hor
      have HKr := Lib.hid (hkeep hor)
      have hWf : (a.f0).Wf := HW.out.w0
      have hzl : a.f0.zs.length ≤ 1000000 := by obtain ⟨x0, _, x1, _⟩ := HF.out; exact x0
      have ho0 : wf.ownsRow B 5 1 u0 a.f0.zs.length (a.f0.zs.map (Value.int .u8)) := hrc.is0
      have hok : wf.ownsRow B 5 1 t0 a.f0.ys.length (a.f0.ys.map (Value.int .u8)) := hrc.kp0
      have htn : TIn wf n0 a.f0.L := hrc.t0
      have hEw : E < wf.heap.size := (Array.getElem?_eq_some_iff.1 hrc.box).1
      obtain ⟨tt, htt⟩ : ∃ tt, tt = 0 := ⟨_, rfl⟩
      have HTu := Lib.hid (show a.turn 0 = tt ∧ a.turn 1 = tt + a.f0.secs.length from ⟨by rw [htt]; rfl, by rw [htt]; first | rfl | exact (Nat.zero_add _).symm⟩)
      have HTl := Lib.hid (show tt ≤ 20000 by
        rw [htt]
        have h1 := secN_len a.f0.L (a.f0.zs.length / 64 + 1)
        have h2 : a.f0.secs.length ≤ a.f0.zs.length / 64 + 1 := h1
        have := HF.out.1
        omega)
      have HDone := Lib.hid (show ∀ (w1 w' : World) (j : Value) (zs : List Int), zs = a.f0.left kz tt → Only (fun i => i = E) wf w1 → w1.ownsRow B 5 1 j zs.length (zs.map (Value.int .u8)) → (∀ g, j.ownBlock = some g → u0.ownBlock = some g ∨ wf.heap.size ≤ g) → SettledR w1 E 0 ((rCs u0 t0 n0 u1 t1 n1 (a.half kz 0)).setIfInBounds 0 j) 100 zs w' → DPost w E B i0 k0 M0 i1 k1 M1 (a.half kz 1) w' from fun _ _ _ _ e q1 q2 q3 q4 => by
        subst e
        rw [htt] at q2 q4
        exact DPost.trans HO.out HI.out (HC.out.settled0 q1 q2 q3 q4))
      rw [HTu.out.1]
      clear hrc hi hor hk hkeep HR htt
      obtain ⟨ya, yL, yc, hye, hyL, hyI, hylo, hyn, hyle, hyB⟩ := own_any hok hWf.ry
      subst hyL
      obtain ⟨za, zL, zc, hze, hzL, hzI, hzlo, hzn, hzle, hzB⟩ := own_any ho0 hWf.rz
      subst hzL
      have hbx : wf.heap[E]? = some (.cells (rCs u0 t0 n0 u1 t1 n1 (a.half kz 0)) 100 (0, 0)) := HC.out.box
      have c0 : ∀ {W : World}, Only (fun _ => False) wf W → W.cell? ⟨E, 0, none⟩ = some (.slice za a.f0.zs.length zc) := fun {W} k => by
        rw [cell_of_row W E 0 _ _ _ ((k.block E hEw id).trans hbx), ← hze]; rfl
      have c1 : wf.cell? ⟨E, 1, none⟩ = some (.slice ya a.f0.ys.length yc) := by
        rw [cell_of_row wf E 1 _ _ _ hbx, ← hye]; rfl
      have c2 : ∀ {W : World}, Only (fun _ => False) wf W → W.cell? ⟨E, 2, none⟩ = some (.map (some n0)) := fun {W} k => by
        rw [cell_of_row W E 2 _ _ _ ((k.block E hEw id).trans hbx)]; rfl
      have C0 := Lib.hid (fun W k => c0 (W := W) k)
      have C2 := Lib.hid (fun W k => c2 (W := W) k)
      have HBx := Lib.hid hbx
      have HWf := Lib.hid hWf
      have HTn := Lib.hid htn
      have HYI := Lib.hid (isB_keep hyI (only_alloc (fun _ => False) wf (.cells #[] 5)) hylo (fun _ _ _ => id))
      have HYn := Lib.hid hyn
      have HZI := Lib.hid hzI
      have HZlo := Lib.hid hzlo
      have HZn := Lib.hid hzn
      have HZle := Lib.hid hzle
      have HYle := Lib.hid hWf.le
      have HBw := Lib.hid HC.out.le
      have hyl : a.f0.ys.length ≤ 1000000 := Nat.le_trans hWf.le hzl
      clear hbx hWf htn hyI hylo hyn hyle hyB hzI hzlo hzn hzle hzB hye hze ho0 hok c0 c2
      have HSecs := Lib.hid (show a.f0.secs = secN a.f0.L (a.f0.zs.length / 64 + 1) ∧ a.f0.left kz tt = (foldD kz a.f0.ys a.f0.zs tt a.f0.secs).1 from ⟨rfl, rfl⟩)
      have HSec := Lib.hid (show ∀ s, inL a.f0.L s = true → 64 * s < a.f0.zs.length from fun s hs => by
        obtain ⟨u, e, hu⟩ := HWf.out.sec _ ((inL_iff HWf.out s).1 hs)
        have := sk_inj e
        omega)
      have HSk := Lib.hid (HWf.out.secK hzl (Nat.le_refl _))
      have HRz := Lib.hid HWf.out.rz
      have HRy := Lib.hid HWf.out.ry
      have C00 := C0.out wf (Only.refl _ _)
      generalize a.f0.zs = zs at *
      generalize a.f0.ys = ys at *
      generalize a.f0.L = L at *
      go_wp2_with (at_builtin; refine wpList_slice rfl (.tmp 20) (.tmp 24) rfl wf.heap.size (.slice (some ⟨wf.heap.size, 0, none⟩) 0 0) [] ya ys.length yc ys rfl rfl (World.ownsRow_made wf #[] 0 (Nat.le_refl _) (Nat.zero_le _) rfl) HYI.out HYn.out (by show 0 + ys.length ≤ _; omega) (by simp) ?_)
      intro v3 w3 hown hgr
      have HG3 := Lib.hid (show GrIn wf (foldD kz ys zs tt (secN L 0)).1 v3 w3 from by
        have e : (foldD kz ys zs tt (secN L 0)).1 = ys := rfl
        rw [e]
        exact ⟨by simpa using hown, only_new hgr⟩)
      obtain ⟨a3, L3, c3, rfl⟩ := own_slice hown
      have C03 := C0.out w3 HG3.out.2
      clear hown hgr c1 C00
      obtain ⟨n, hn⟩ : ∃ n, n = zs.length := ⟨_, rfl⟩
      rw [← hn] at C03 hzl
      obtain ⟨q1, q2, q3, q4⟩ := cr_facts hzl
      have HNn := Lib.hid hn
      obtain ⟨N, hN⟩ : ∃ N, N = n / 64 + 1 := ⟨_, rfl⟩
      rw [← hN] at q3 q4
      have HNN := Lib.hid hN
      obtain ⟨m, hm⟩ : ∃ m, m = n / 64 := ⟨_, rfl⟩
      rw [← hm] at q1 q2 q3 q4
      clear hn hN hm
      go_wp2_with fail
      go_loopw [4, 7, 33] (fun tk v i wr2 => ∃ s : Nat, s ≤ N ∧ i = .int .i64 (s : Int) ∧ tk = .int .i64 ((tt + (secN L s).length : Nat) : Int) ∧ Hid (GrIn wf (foldD kz ys zs tt (secN L s)).1 v wr2)) (fun _ _ i _ => N - (intOf i).toNat)
      case atStart => exact ⟨0, Nat.zero_le _, rfl, by rw [show (secN L 0).length = 0 from rfl]; rfl, HG3⟩
      case round =>
        obtain ⟨w2, rfl⟩ : ∃ x, x = wr := ⟨_, rfl⟩
        obtain ⟨s, hsN, rfl, rfl, HR⟩ := hrel
        clear q1 q2 q3 q4
        have HOl := Lib.hid (show (foldD kz ys zs tt (secN L s)).1.length ≤ zs.length from foldD_len HYle.out _)
        have HOr := Lib.hid (foldD_range (kz := kz) (t := tt) HRz.out HRy.out (secN L s))
        have HTs := Lib.hid (secN_len L s)
        have hs0 : (0 : Int) ≤ (s : Int) := by omega
        have hs2 : s ≤ 20000 := by have := HNN.out; omega
        by_cases hlt : s < N
        · have hlti : (s : Int) < (N : Int) := by omega
          have C02 := C0.out w2 HR.out.2
          rw [← HNn.out] at C02
          have C22 := C2.out w2 HR.out.2
          have hlook := (HTn.out.far (HR.out.2.block n0 HTn.out.lt id)).look HSk.out s (by omega)
          cases hin : inL L s with
          | false =>
            have HNot := Lib.hid (secN_not hin)
            rw [hin] at hlook
            clear hin
            go_wp2
            go_roundw
            case rel =>
              first
                | exact ⟨s + 1, by omega, by go_num, by rw [HNot.out], by rw [HNot.out]; exact HR⟩
                | (repeat apply Exists.intro
                   refine ⟨?_, rfl⟩
                   exact ⟨s + 1, by omega, by go_num, by rw [HNot.out], by rw [HNot.out]; exact HR⟩)
            case measure => simp [intOf]; omega
          | true =>
            rw [hin] at hlook
            have HS64 := Lib.hid (HSec.out s hin)
            have HYes := Lib.hid (secN_yes hin)
            obtain ⟨kv, hkv⟩ : ∃ kv, kv = keepV kz (tt + (secN L s).length) := ⟨_, rfl⟩
            have HKv := Lib.hid hkv
            have HS0 := Lib.hid (show kv = 0 → (foldD kz ys zs tt (secN L (s + 1))).1 = (foldD kz ys zs tt (secN L s)).1 from fun e => foldD_step0 hin (hkv.symm.trans e))
            have HS1 := Lib.hid (show kv ≠ 0 → (foldD kz ys zs tt (secN L (s + 1))).1 = putS zs (foldD kz ys zs tt (secN L s)).1 s kv from fun e => by rw [hkv]; exact foldD_step1 hin (fun h => e (hkv.trans h)))
            have hkb := keepV_in HKr.out (tt + (secN L s).length)
            rw [← hkv] at hkb
            obtain ⟨hkb0, hkb1⟩ := hkb
            obtain ⟨tn, htn⟩ : ∃ tn, tn = tt + (secN L s).length := ⟨_, rfl⟩
            have HTn2 := Lib.hid htn
            have htnb : ((tn : Nat) : Int) ≤ 1000000 := by have := HTl.out; have := HTs.out; omega
            have htn0 : (0 : Int) ≤ ((tn : Nat) : Int) := by omega
            have HKin := Lib.hid (HKr.out.only (S := fun _ => False) HR.out.2)
            rw [← htn] at HKv ⊢
            clear hkv hin htn
            go_upto_if 45 with (fail)
            go_cut [9] (fun u wx => wx = w2 ∧ u = .int .i64 kv)
            case first =>
              by_cases h0 : 0 < (kl : Int)
              · obtain ⟨hk1, hk2, hk3⟩ := HKin.out
                rcases hk2 with hk2 | ⟨kb, ko, rfl, hkb, hkc⟩
                · omega
                obtain ⟨j, hj⟩ : ∃ j, j = tn % kl := ⟨_, rfl⟩
                have hjl : j < kl := by rw [hj]; exact Nat.mod_lt _ (by omega)
                have e2 : ((tn : Nat) : Int).tmod (kl : Int) = (j : Int) := by rw [hj, Int.natCast_emod]; exact Int.tmod_eq_emod_of_nonneg (by omega)
                have cj := hkc j hjl
                have hjv : kz.getD j 0 = kv := by
                  rw [HKv.out]
                  unfold keepV
                  rw [if_neg (by omega), hk1, hj]
                rw [hjv] at cj
                have hji : (j : Int) < (kl : Int) := by omega
                have hj0 : (0 : Int) ≤ (j : Int) := by omega
                have hkl2 : ¬ ((kl : Int) = 0) := by omega
                have hkl3 : ¬ (kl = 0) := by omega
                have e3 : IntKind.i64.wrap (j : Int) = (j : Int) := wrapI_in (by omega) (by omega)
                have e4 : wrap64 (j : Int) = (j : Int) := wrap64_in (by omega) (by omega)
                clear hk1 hk3 hkc hj hjl hjv
                go_wp2_with fail
                go_meet
                exact ⟨rfl, rfl⟩
              · have h0' : (kl : Int) ≤ 0 := by omega
                have hkv0 : kv = 0 := by
                  rw [HKv.out]
                  unfold keepV
                  rw [if_pos (by have := HKin.out.1; omega)]
                subst hkv0
                clear h0
                go_wp2_with fail
                go_meet
                exact ⟨rfl, rfl⟩
            case rest =>
              obtain ⟨hw, hu⟩ := hcut
              subst hw hu
              obtain ⟨wa, rfl⟩ : ∃ x, x = wc := ⟨_, rfl⟩
              have hs64 : 64 * s < n := by have := HS64.out; have := HNn.out; omega
              obtain ⟨c, hc⟩ : ∃ c, c = min (64 * s + 64) n - 64 * s := ⟨_, rfl⟩
              have hc64 : c ≤ 64 ∧ 0 < c ∧ 64 * s + c ≤ n := by omega
              have HCc := Lib.hid (show c = min (64 * s + 64) zs.length - 64 * s by rw [hc, HNn.out])
              have hsect := fun W => rsector W za n zc s hs64 hzl (by have := HZle.out; have := HNn.out; omega)
              rw [← hc] at hsect
              have HI5 := Lib.hid (isB_keep (isB_take (k := c) (isB_off (cap := zc) (k := 64 * s) HZI.out (by have := HNn.out; omega) HZle.out) (by have := HNn.out; omega)) (HR.out.2.trans (only_alloc (fun _ => False) wa (.cells #[] 5))) (fun x h0 hx => by
                unfold offA at hx
                split at hx
                · exact HZlo.out x (by have := HNn.out; omega) hx
                · obtain ⟨y, hy, rfl⟩ := Option.map_eq_some_iff.1 hx
                  have hb : (y.add (64 * s)).block = y.block := by unfold Addr.add; split <;> rfl
                  rw [hb]
                  exact HZlo.out y (by have := HNn.out; omega) hy) (fun _ _ _ => id))
              have HN5 := Lib.hid (show offA za zc (64 * s) = none → c = 0 ∧ zc - 64 * s = 0 from fun h => by have := offA_nil (cap := zc) (k := 64 * s) HZn.out h; have := HNn.out; omega)
              obtain ⟨oa, hoa⟩ : ∃ oa, oa = offA za zc (64 * s) := ⟨_, rfl⟩
              obtain ⟨oc, hoc⟩ : ∃ oc, oc = zc - 64 * s := ⟨_, rfl⟩
              obtain ⟨sec, hsec⟩ : ∃ sec, sec = (zs.drop (64 * s)).take c := ⟨_, rfl⟩
              rw [← hoa, ← hoc] at hsect HN5
              rw [← hoa, ← hsec] at HI5
              have HSe := Lib.hid hsect
              have HSl := Lib.hid (show sec.length = c by rw [hsec, List.length_take, List.length_drop, ← HNn.out]; omega)
              have HSr := Lib.hid (show ∀ z ∈ sec, 0 ≤ z ∧ z ≤ 255 from fun z hz => by rw [hsec] at hz; exact HRz.out z (List.mem_of_mem_drop (List.mem_of_mem_take hz)))
              have HPut := Lib.hid (fun (out : List Int) (k : Nat) (q1 : 64 * s + c ≤ out.length + k) (q2 : k = 0 ∨ out.length + k ≤ 64 * s + c) => (show cpB (out ++ List.replicate k 0) (fillK sec kv c) (64 * s) = putS zs out s kv by rw [hsec]; exact crash_put HCc.out HS64.out q1 q2))
              have HT1 := Lib.hid (show ((tn : Nat) : Int) + 1 = ((tt + (secN L (s + 1)).length : Nat) : Int) by rw [HYes.out, HTn2.out]; omega)
              have HF2 := Lib.hid (cr_facts2 hs64 hzl hc64.1)
              have hc0 : 0 < c := hc64.2.1
              have hcc : c ≤ 64 := hc64.1
              have HCb := Lib.hid (show ([] : List Int).length + c ≤ 140737488355328 from by show 0 + c ≤ _; omega)
              have HC0 := Lib.hid (show c ≠ 0 by omega)
              have h64 : 64 * s ≤ 1000000 := by omega
              have hE2 : E < wa.heap.size := Nat.lt_of_lt_of_le hEw HR.out.2.size
              clear hsect hsec hoa hoc hc hc64 hs64 hlook C22
              go_wp2_with fail
              refine (HSe.out _).mono ?_
              rintro e w4 ⟨rfl, hw⟩
              subst hw
              go_wp2_with (at_builtin; go_loud (refine wpList_slice rfl (.tmp 55) (.tmp 61) rfl wa.heap.size (.slice (some ⟨wa.heap.size, 0, none⟩) 0 0) [] oa c oc sec rfl rfl (World.ownsRow_made wa #[] 0 (Nat.le_refl _) (Nat.zero_le _) rfl) HI5.out HN5.out HCb.out (by simp) ?_))
              intro v5 w5 hown hgr
              have HG5 := Lib.hid (show GrIn wa sec v5 w5 from ⟨by simpa using hown, only_new hgr⟩)
              obtain ⟨ia, iL, ic, e1, e2, _, _, _, _, _⟩ := own_any HG5.out.1 HSr.out
              subst e1
              have e3 : iL = c := e2.trans HSl.out
              subst e3
              obtain ⟨g, rfl⟩ : ∃ g, ia = some ⟨g, 0, none⟩ := by
                rcases HG5.out.1.2 with ⟨e, _⟩ | ⟨g', _, _, e, _⟩
                · injection e with _ e2 _; exact absurd e2 HC0.out
                · injection e with e1 _ _; exact ⟨g', e1⟩
              have HR5 := Lib.hid (HR.out.over HG5.out.2)
              have C05 := C0.out w5 HR5.out.2
              rw [← HNn.out] at C05
              clear hown hgr e2 C02
              by_cases h0 : kv = 0
              · have HS00 := Lib.hid (HS0.out h0)
                have hz : (kv == 0) = true := by rw [h0]; rfl
                have HR6 := Lib.hid (show GrIn wf (foldD kz ys zs tt (secN L (s + 1))).1 _ w5 by rw [HS00.out]; exact HR5.out)
                clear h0
                go_wp2
                go_roundw
                case rel =>
                  first
                    | exact ⟨s + 1, by omega, by go_num, by rw [← HT1.out], HR6⟩
                    | (repeat apply Exists.intro
                       refine ⟨?_, rfl⟩
                       exact ⟨s + 1, by omega, by go_num, by rw [← HT1.out], HR6⟩)
                case measure => simp [intOf]; omega
              · have HS11 := Lib.hid (HS1.out h0)
                have hz : (kv == 0) = false := beq_eq_false_iff_ne.2 h0
                clear h0
                have HLoop := Lib.hid (show GrIn wa (fillK sec kv 0) (.slice (some ⟨g, 0, none⟩) iL ic) w5 by rw [fillK_zero]; exact HG5.out)
                go_upto_block 4 with (fail)
                go_cut [] (fun wx => Hid (GrIn wa (fillK sec kv iL) (.slice (some ⟨g, 0, none⟩) iL ic) wx))
                case first =>
                  go_wp2_with fail
                  go_loopw [67] (fun i w6 => ∃ j : Nat, j ≤ iL ∧ i = .int .i64 (j : Int) ∧ Hid (GrIn wa (fillK sec kv j) (.slice (some ⟨g, 0, none⟩) iL ic) w6)) (fun i _ => iL - (intOf i).toNat)
                  case atStart => exact ⟨0, Nat.zero_le _, rfl, HLoop⟩
                  case round =>
                    obtain ⟨w6, rfl⟩ : ∃ x, x = wr := ⟨_, rfl⟩
                    obtain ⟨j, hj, rfl, HR6⟩ := hrel
                    have hj0 : (0 : Int) ≤ (j : Int) := Int.natCast_nonneg j
                    by_cases hjl : j < iL
                    · have hji : (j : Int) < (iL : Int) := Int.ofNat_lt.2 hjl
                      by_cases hk1 : kv = 1
                      · have hk1b : (kv == 1) = true := by rw [hk1]; rfl
                        have hk1c : (kv != 1) = false := by rw [hk1]; rfl
                        have HR7 := Lib.hid (show GrIn wa (fillK sec kv (j + 1)) (.slice (some ⟨g, 0, none⟩) iL ic) w6 by rw [hk1, fillK_one sec (j + 1) j, ← hk1]; exact HR6.out)
                        clear hk1
                        go_wp2
                        go_roundw
                        case rel => exact ⟨j + 1, hjl, by go_num, HR7⟩
                        case measure => simp [intOf]; omega
                      · have hk1b : (kv == 1) = false := beq_eq_false_iff_ne.2 hk1
                        have hk1c : (kv != 1) = true := by simp [hk1]
                        have HR7 := Lib.hid (show GrIn wa (fillK sec kv (j + 1)) (.slice (some ⟨g, 0, none⟩) iL ic) (w6.setCell ⟨g, j, none⟩ (.int .u8 (kv % 256))) by rw [← fillK_succ (by rw [HSl.out]; exact hjl) hk1]; exact HR6.out.put j _)
                        have hfl : (fillK sec kv j).length = iL := (fillK_length (by rw [HSl.out]; exact hj)).trans HSl.out
                        have hown6 := HR6.out.1
                        rw [hfl] at hown6
                        have fz := World.ownsRow.frozenAt hown6 j
                        have cz : ∃ cur : Int, w6.cell? ⟨g, j, none⟩ = some (.int .u8 cur) := by
                          have cz0 := hown6.cellAt j (by rw [Nat.mul_one]; exact hjl)
                          rw [List.getElem?_map, List.getElem?_eq_getElem (by rw [hfl]; exact hjl)] at cz0
                          exact ⟨_, cz0⟩
                        obtain ⟨cur, cz⟩ := cz
                        clear hk1 hown6 hfl
                        go_wp2
                        go_roundw
                        case rel => exact ⟨j + 1, hjl, by go_num, HR7⟩
                        case measure => simp [intOf]; omega
                    · have hji : (iL : Int) ≤ (j : Int) := Int.ofNat_le.2 (Nat.le_of_not_lt hjl)
                      have hje : j = iL := Nat.le_antisymm hj (Nat.le_of_not_lt hjl)
                      have HE6 := Lib.hid (show GrIn wa (fillK sec kv iL) (.slice (some ⟨g, 0, none⟩) iL ic) w6 by have h6 := HR6.out; rw [hje] at h6; exact h6)
                      clear hje hjl hj
                      go_wp2_with fail
                      go_meet
                      exact HE6
                case rest =>
                  obtain ⟨w6, rfl⟩ : ∃ x, x = wc := ⟨_, rfl⟩
                  have HR6 := hcut
                  clear hcut
                  have HR7 := Lib.hid (HR.out.over HR6.out.2)
                  have HIs := Lib.hid (show IsB w6 (some ⟨g, 0, none⟩) iL (fillK sec kv iL) ∧ g < w6.heap.size ∧ wa.heap.size ≤ g by
                    obtain ⟨_, _, _, q1, q2, q3, q4, _, _, q5⟩ := own_any HR6.out.1 (fillK_range HSr.out)
                    cases q1
                    exact ⟨q3, q4 _ HC0.out rfl, q5 _ rfl⟩)
                  have HNov := Lib.hid (own_not HR.out.1 HIs.out.2.2)
                  obtain ⟨ou, hou⟩ : ∃ ou, ou = (foldD kz ys zs tt (secN L s)).1 := ⟨_, rfl⟩
                  rw [← hou] at HR7 HS11 HOl HOr
                  obtain ⟨b, hb⟩ : ∃ b, b = fillK sec kv iL := ⟨_, rfl⟩
                  rw [← hb] at HIs HPut
                  have hoz : ou.length ≤ 1000000 := Nat.le_trans HOl.out (by rw [← HNn.out]; exact hzl)
                  obtain ⟨q, hq⟩ : ∃ q, q = 64 * s := ⟨_, rfl⟩
                  have HF3 := Lib.hid (show wrap64 (64 * (s : Int)) = (q : Int) ∧ IntKind.i64.wrap (64 * (s : Int)) = (q : Int) ∧ wrap64 ((q : Int) + (iL : Int)) = (q : Int) + (iL : Int) ∧ IntKind.i64.wrap ((q : Int) + (iL : Int)) = (q : Int) + (iL : Int) by rw [hq]; exact HF2.out)
                  rw [← hq] at h64 HPut
                  have hq0 : (0 : Int) ≤ (q : Int) := Int.natCast_nonneg q
                  have hi0 : (0 : Int) ≤ (iL : Int) := Int.natCast_nonneg iL
                  clear hq hb hou
                  go_upto_block 6 with (fail)
                  go_cut [7] (fun v wx => ∃ (k : Nat) (zk : List Int), Hid ((k = 0 ∨ ou.length + k ≤ q + iL) ∧ q + iL ≤ ou.length + k ∧ zk = ou ++ List.replicate k 0 ∧ zk.length = ou.length + k ∧ GrIn wf zk v wx ∧ IsB wx (some ⟨g, 0, none⟩) iL b))
                  case first =>
                    go_wp2_with fail
                    go_loopw [7] (fun v w7 => ∃ (k : Nat) (zk : List Int), (k = 0 ∨ ou.length + k ≤ q + iL) ∧ Hid (zk = ou ++ List.replicate k 0 ∧ zk.length = ou.length + k ∧ GrIn wf zk v w7 ∧ IsB w7 (some ⟨g, 0, none⟩) iL b ∧ g < w7.heap.size ∧ v.ownBlock ≠ some g)) (fun v _ => q + iL - lenV v)
                    case atStart => exact ⟨0, ou, .inl rfl, Lib.hid ⟨by simp, rfl, HR7.out, HIs.out.1, HIs.out.2.1, HNov.out⟩⟩
                    case round =>
                      obtain ⟨w7, rfl⟩ : ∃ x, x = wr := ⟨_, rfl⟩
                      obtain ⟨k, zk, hk, HR8⟩ := hrel
                      obtain ⟨ra, rl, rc, e1, e2, rI, rlo, rn, rle, rB⟩ := own_any HR8.out.2.2.1.1 (fun z hz => by
                        rw [HR8.out.1] at hz
                        rcases List.mem_append.1 hz with hz | hz
                        · exact HOr.out z hz
                        · rw [List.eq_of_mem_replicate hz]; exact ⟨by decide, by decide⟩)
                      subst e1
                      have HRl := Lib.hid (show rl = zk.length ∧ zk.length = ou.length + k from ⟨e2, HR8.out.2.1⟩)
                      have hrl : rl ≤ 1000064 := by have := HRl.out; rcases hk with h | h <;> omega
                      have HRo := Lib.hid (show w7.ownsRow wf.heap.size 5 1 (.slice ra rl rc) zk.length (zk.map (Value.int .u8)) from HR8.out.2.2.1.1)
                      have hrl0 : (0 : Int) ≤ (rl : Int) := Int.natCast_nonneg rl
                      clear e2 rI rlo rn rle rB
                      by_cases hlt4 : (rl : Int) < (q : Int) + (iL : Int)
                      · have HC2 := Lib.hid (show zk.length ≤ 140737488355000 by have := HRl.out; omega)
                        have HC3 := Lib.hid (show wf.heap.size ≤ w7.heap.size + 1 from Nat.le_trans HR8.out.2.2.1.2.size (Nat.le_succ _))
                        have HK1 := Lib.hid (show ou.length + (k + 1) ≤ q + iL by have := HRl.out; omega)
                        have HM1 := Lib.hid (show q + iL - (zk.length + 1) < q + iL - rl by have := HRl.out; omega)
                        obtain ⟨f1, f2, f3, f4⟩ := HF3.out
                        go_wp2_with (at_builtin; refine wpList_byte rfl (.tmp 86) (.tmp 87) rfl wf.heap.size (.slice ra rl rc) zk w7.heap.size 0 rfl rfl (HRo.out.alloc _) ?c1 ?c2 ?c3 ?_)
                        case c1 => simp [go_sem]
                        case c2 => exact HC2.out
                        case c3 => simpa using HC3.out
                        intro g2 cap w8 hown4 hgrow hat hltg
                        have HR9 := Lib.hid (And.intro (show zk ++ [0] = ou ++ List.replicate (k + 1) 0 by rw [HR8.out.1, List.replicate_succ', List.append_assoc]) (And.intro (show (zk ++ [0]).length = ou.length + (k + 1) by rw [List.length_append, HR8.out.2.1]; rfl) (And.intro (show GrIn wf (zk ++ [0]) (.slice (some ⟨g2, 0, none⟩) (zk.length + 1) cap) w8 from ⟨by simpa using hown4, grow_alloc hgrow HR8.out.2.2.1.2 (fun K hK => (own_at HR8.out.2.2.1.1 hK).1)⟩) (And.intro (isB_grow HR8.out.2.2.2.1 HR8.out.2.2.2.2.1 hgrow HR8.out.2.2.2.2.2) (And.intro (show g < w8.heap.size from Nat.lt_of_lt_of_le HR8.out.2.2.2.2.1 (Nat.le_trans (alloc_le _ _) hgrow.size)) (show (Value.slice (some ⟨g2, 0, none⟩) (zk.length + 1) cap).ownBlock ≠ some g from fun e => by
                          have e : g2 = g := by simpa [Value.ownBlock] using e
                          subst e
                          rcases hat with hat | hat
                          · exact HR8.out.2.2.2.2.2 hat
                          · exact Nat.lt_irrefl _ (Nat.lt_of_lt_of_le HR8.out.2.2.2.2.1 (by rw [hat]; exact Nat.le_succ _))))))))
                        clear hown4 hgrow hat hltg
                        go_wp2
                        go_roundw
                        case rel => exact ⟨k + 1, _, .inr HK1.out, HR9⟩
                        case measure => exact HM1.out
                      · have hle4 : (q : Int) + (iL : Int) ≤ (rl : Int) := by omega
                        have HE8 := Lib.hid (And.intro hk (And.intro (show q + iL ≤ ou.length + k by have := HRl.out; omega) (And.intro HR8.out.1 (And.intro HR8.out.2.1 (And.intro HR8.out.2.2.1 HR8.out.2.2.2.1)))))
                        obtain ⟨f1, f2, f3, f4⟩ := HF3.out
                        clear hk
                        go_wp2_with fail
                        go_meet
                        exact ⟨k, zk, HE8⟩
                  case rest =>
                    obtain ⟨k, zk, HR8⟩ := hcut
                    obtain ⟨w7, rfl⟩ : ∃ x, x = wc := ⟨_, rfl⟩
                    obtain ⟨hk, HP1, e3, e4, hgr8, hib8⟩ := HR8.out
                    obtain ⟨ra, rl, rc, e1, e2, rI, rlo, rn, rle, rB⟩ := own_any hgr8.1 (fun z hz => by
                      rw [e3] at hz
                      rcases List.mem_append.1 hz with hz | hz
                      · exact HOr.out z hz
                      · rw [List.eq_of_mem_replicate hz]; exact ⟨by decide, by decide⟩)
                    subst e1
                    have HRl := Lib.hid (show rl = zk.length ∧ zk.length = ou.length + k from ⟨e2, e4⟩)
                    have hqr : q ≤ rl := by rw [e2, e4]; exact Nat.le_trans (Nat.le_add_right _ _) HP1
                    have s1 : ∀ W, (Instr.slice 30 (.slice ra rl rc) (some (.int .i64 (q : Int))) none none).run Try.prog W = .ok (.slice (offA ra rc q) (rl - q) (rc - q)) W := fun W => slice_l ra _ rc q hqr .i64 W
                    have HRp := Lib.hid (show w7.ownsRow wf.heap.size 5 1 (.slice ra zk.length rc) zk.length (zk.map (Value.int .u8)) by have := hgr8.1; rw [e2] at this; exact this)
                    have HIB := Lib.hid hib8
                    have HGr := Lib.hid hgr8.2
                    have HZ := Lib.hid e3
                    have HC4 := Lib.hid (show q ≤ zk.length by rw [← e2]; exact hqr)
                    have HX := Lib.hid ((put_len (HPut.out ou k HP1 hk) (by rw [← e4, ← e2]; exact hqr)).trans (e4.symm.trans e2.symm))
                    have HPu := Lib.hid (HPut.out ou k HP1 hk)
                    have hrl0 : (0 : Int) ≤ (rl : Int) := Int.natCast_nonneg rl
                    obtain ⟨f1, f2, f3, f4⟩ := HF3.out
                    clear hk HP1 e3 e4 hgr8 hib8 e2 rI rlo rn rle rB HR8
                    go_wp2_with (refine wpList_copy_at rfl (.tmp 92) (.tmp 93) rfl wf.heap.size ra rc zk b q ?c0 HRp.out (some ⟨g, 0, none⟩) iL ic ?c1 rfl HIB.out ?_)
                    case c0 => exact HC4.out
                    case c1 => rw [← HRl.out.1]; rfl
                    intro w9 hown9 hg9
                    rw [HZ.out, HPu.out] at hown9
                    have HR9 := Lib.hid (show GrIn wf (foldD kz ys zs tt (secN L (s + 1))).1 (.slice ra rl rc) w9 from by
                      rw [HS11.out]
                      refine ⟨?_, own_grow HRp.out HGr.out hg9⟩
                      rw [HX.out]
                      have h9 := hown9
                      rw [← HZ.out, ← HRl.out.1] at h9
                      exact h9)
                    clear hown9 hg9 s1
                    go_wp2
                    go_roundw
                    case rel =>
                      first
                        | exact ⟨s + 1, by omega, by go_num, by rw [← HT1.out], HR9⟩
                        | (repeat apply Exists.intro
                           refine ⟨?_, rfl⟩
                           exact ⟨s + 1, by omega, by go_num, by rw [← HT1.out], HR9⟩)
                    case measure => simp [intOf]; omega
        · have hle : (N : Int) ≤ (s : Int) := by omega
          have hsN2 : s = N := by omega
          have HLf := Lib.hid (show (foldD kz ys zs tt (secN L s)).1 = a.f0.left kz tt by rw [HSecs.out.2, HSecs.out.1, hsN2, HNN.out, HNn.out])
          have HTf := Lib.hid (show ((tt + (secN L s).length : Nat) : Int) = (a.turn 1 : Int) by rw [HTu.out.2, HSecs.out.1, hsN2, HNN.out, HNn.out])
          obtain ⟨ra, rl, rc, e1, e2, _, _, _, _, _⟩ := own_any HR.out.1 HOr.out
          subst e1
          obtain ⟨r1, r2, r3, r4⟩ := row_in (off := 0) HBx.out HR.out
          have e0 := cell_of_row w2 E 0 _ _ _ r1
          have f0 := frozen_of_row w2 E 0 _ _ r1
          simp only [rCs, List.getElem?_toArray, List.getElem?_cons_zero, List.getElem?_cons_succ] at e0
          have hE2 : E < w2.heap.size := (Array.getElem?_eq_some_iff.1 r1).1
          have R2 := Lib.hid r2
          have R3 := Lib.hid r3
          have R4 := Lib.hid r4
          have HLen := Lib.hid (show (foldD kz ys zs tt (secN L s)).1.length ≤ 1000000 by have := HOl.out; have := HNn.out; omega)
          clear r1 r2 r3 r4 e2
          go_wp2_with fail
          refine (rsettle _ E 0 B _ _ (foldD kz ys zs tt (secN L s)).1 (.slice ra rl rc) t0 (.map (some n0)) R2.out rfl rfl rfl (own_base R3.out HBw.out) HOr.out HLen.out).mono ?_
          rintro e w4 ⟨rfl, hs⟩
          have HP := Lib.hid (HDone.out _ _ _ _ HLf.out R4.out (own_base R3.out HBw.out) (fun g hg => .inr (own_lt R3.out hg).1) hs)
          clear hs
          rw [HTf.out]
          go_wp2
          go_roundw
          case rel =>
            first
              | exact ⟨1, by omega, by go_num, rfl, HP⟩
              | (repeat apply Exists.intro
                 refine ⟨?_, rfl⟩
                 exact ⟨1, by omega, by go_num, rfl, HP⟩)
          case measure => simp [intOf]
    · obtain ⟨wf, rfl⟩ : ∃ x, x = wr := ⟨_, rfl⟩
      obtain ⟨u0, t0, n0, u1, t1, n1, hrc, hi, hor⟩ := HR.out
      have HC := Lib.hid hrc
      have HI := Lib.hid hi
      have HO := Lib.hid hor
      have HKr := Lib.hid (hkeep hor)
      have hWf : (a.f1).Wf := HW.out.w1
      have hzl : a.f1.zs.length ≤ 1000000 := by obtain ⟨x0, _, x1, _⟩ := HF.out; exact x1
      have ho0 : wf.ownsRow B 5 1 u1 a.f1.zs.length (a.f1.zs.map (Value.int .u8)) := hrc.is1
      have hok : wf.ownsRow B 5 1 t1 a.f1.ys.length (a.f1.ys.map (Value.int .u8)) := hrc.kp1
      have htn : TIn wf n1 a.f1.L := hrc.t1
      have hEw : E < wf.heap.size := (Array.getElem?_eq_some_iff.1 hrc.box).1
      obtain ⟨tt, htt⟩ : ∃ tt, tt = a.f0.secs.length := ⟨_, rfl⟩
      have HTu := Lib.hid (show a.turn 1 = tt ∧ a.turn 2 = tt + a.f1.secs.length from ⟨by rw [htt]; rfl, by rw [htt]; first | rfl | exact (Nat.zero_add _).symm⟩)
      have HTl := Lib.hid (show tt ≤ 20000 by
        rw [htt]
        have h1 := secN_len a.f0.L (a.f0.zs.length / 64 + 1)
        have h2 : a.f0.secs.length ≤ a.f0.zs.length / 64 + 1 := h1
        have := HF.out.1
        omega)
      have HDone := Lib.hid (show ∀ (w1 w' : World) (j : Value) (zs : List Int), zs = a.f1.left kz tt → Only (fun i => i = E) wf w1 → w1.ownsRow B 5 1 j zs.length (zs.map (Value.int .u8)) → (∀ g, j.ownBlock = some g → u1.ownBlock = some g ∨ wf.heap.size ≤ g) → SettledR w1 E 3 ((rCs u0 t0 n0 u1 t1 n1 (a.half kz 1)).setIfInBounds 3 j) 100 zs w' → DPost w E B i0 k0 M0 i1 k1 M1 (a.half kz 2) w' from fun _ _ _ _ e q1 q2 q3 q4 => by
        subst e
        rw [htt] at q2 q4
        exact DPost.trans HO.out HI.out (HC.out.settled1 q1 q2 q3 q4))
      rw [HTu.out.1]
      clear hrc hi hor hk hkeep HR htt
      obtain ⟨ya, yL, yc, hye, hyL, hyI, hylo, hyn, hyle, hyB⟩ := own_any hok hWf.ry
      subst hyL
      obtain ⟨za, zL, zc, hze, hzL, hzI, hzlo, hzn, hzle, hzB⟩ := own_any ho0 hWf.rz
      subst hzL
      have hbx : wf.heap[E]? = some (.cells (rCs u0 t0 n0 u1 t1 n1 (a.half kz 1)) 100 (0, 0)) := HC.out.box
      have c0 : ∀ {W : World}, Only (fun _ => False) wf W → W.cell? ⟨E, 3, none⟩ = some (.slice za a.f1.zs.length zc) := fun {W} k => by
        rw [cell_of_row W E 3 _ _ _ ((k.block E hEw id).trans hbx), ← hze]; rfl
      have c1 : wf.cell? ⟨E, 4, none⟩ = some (.slice ya a.f1.ys.length yc) := by
        rw [cell_of_row wf E 4 _ _ _ hbx, ← hye]; rfl
      have c2 : ∀ {W : World}, Only (fun _ => False) wf W → W.cell? ⟨E, 5, none⟩ = some (.map (some n1)) := fun {W} k => by
        rw [cell_of_row W E 5 _ _ _ ((k.block E hEw id).trans hbx)]; rfl
      have C0 := Lib.hid (fun W k => c0 (W := W) k)
      have C2 := Lib.hid (fun W k => c2 (W := W) k)
      have HBx := Lib.hid hbx
      have HWf := Lib.hid hWf
      have HTn := Lib.hid htn
      have HYI := Lib.hid (isB_keep hyI (only_alloc (fun _ => False) wf (.cells #[] 5)) hylo (fun _ _ _ => id))
      have HYn := Lib.hid hyn
      have HZI := Lib.hid hzI
      have HZlo := Lib.hid hzlo
      have HZn := Lib.hid hzn
      have HZle := Lib.hid hzle
      have HYle := Lib.hid hWf.le
      have HBw := Lib.hid HC.out.le
      have hyl : a.f1.ys.length ≤ 1000000 := Nat.le_trans hWf.le hzl
      clear hbx hWf htn hyI hylo hyn hyle hyB hzI hzlo hzn hzle hzB hye hze ho0 hok c0 c2
      have HSecs := Lib.hid (show a.f1.secs = secN a.f1.L (a.f1.zs.length / 64 + 1) ∧ a.f1.left kz tt = (foldD kz a.f1.ys a.f1.zs tt a.f1.secs).1 from ⟨rfl, rfl⟩)
      have HSec := Lib.hid (show ∀ s, inL a.f1.L s = true → 64 * s < a.f1.zs.length from fun s hs => by
        obtain ⟨u, e, hu⟩ := HWf.out.sec _ ((inL_iff HWf.out s).1 hs)
        have := sk_inj e
        omega)
      have HSk := Lib.hid (HWf.out.secK hzl (Nat.le_refl _))
      have HRz := Lib.hid HWf.out.rz
      have HRy := Lib.hid HWf.out.ry
      have C00 := C0.out wf (Only.refl _ _)
      generalize a.f1.zs = zs at *
      generalize a.f1.ys = ys at *
      generalize a.f1.L = L at *
      go_wp2_with (at_builtin; refine wpList_slice rfl (.tmp 20) (.tmp 24) rfl wf.heap.size (.slice (some ⟨wf.heap.size, 0, none⟩) 0 0) [] ya ys.length yc ys rfl rfl (World.ownsRow_made wf #[] 0 (Nat.le_refl _) (Nat.zero_le _) rfl) HYI.out HYn.out (by show 0 + ys.length ≤ _; omega) (by simp) ?_)
      intro v3 w3 hown hgr
      have HG3 := Lib.hid (show GrIn wf (foldD kz ys zs tt (secN L 0)).1 v3 w3 from by
        have e : (foldD kz ys zs tt (secN L 0)).1 = ys := rfl
        rw [e]
        exact ⟨by simpa using hown, only_new hgr⟩)
      obtain ⟨a3, L3, c3, rfl⟩ := own_slice hown
      have C03 := C0.out w3 HG3.out.2
      clear hown hgr c1 C00
      obtain ⟨n, hn⟩ : ∃ n, n = zs.length := ⟨_, rfl⟩
      rw [← hn] at C03 hzl
      obtain ⟨q1, q2, q3, q4⟩ := cr_facts hzl
      have HNn := Lib.hid hn
      obtain ⟨N, hN⟩ : ∃ N, N = n / 64 + 1 := ⟨_, rfl⟩
      rw [← hN] at q3 q4
      have HNN := Lib.hid hN
      obtain ⟨m, hm⟩ : ∃ m, m = n / 64 := ⟨_, rfl⟩
      rw [← hm] at q1 q2 q3 q4
      clear hn hN hm
      go_wp2_with fail
      go_loopw [4, 7, 33] (fun tk v i wr2 => ∃ s : Nat, s ≤ N ∧ i = .int .i64 (s : Int) ∧ tk = .int .i64 ((tt + (secN L s).length : Nat) : Int) ∧ Hid (GrIn wf (foldD kz ys zs tt (secN L s)).1 v wr2)) (fun _ _ i _ => N - (intOf i).toNat)
      case atStart => exact ⟨0, Nat.zero_le _, rfl, by rw [show (secN L 0).length = 0 from rfl]; rfl, HG3⟩
      case round =>
        obtain ⟨w2, rfl⟩ : ∃ x, x = wr := ⟨_, rfl⟩
        obtain ⟨s, hsN, rfl, rfl, HR⟩ := hrel
        clear q1 q2 q3 q4
        have HOl := Lib.hid (show (foldD kz ys zs tt (secN L s)).1.length ≤ zs.length from foldD_len HYle.out _)
        have HOr := Lib.hid (foldD_range (kz := kz) (t := tt) HRz.out HRy.out (secN L s))
        have HTs := Lib.hid (secN_len L s)
        have hs0 : (0 : Int) ≤ (s : Int) := by omega
        have hs2 : s ≤ 20000 := by have := HNN.out; omega
        by_cases hlt : s < N
        · have hlti : (s : Int) < (N : Int) := by omega
          have C02 := C0.out w2 HR.out.2
          rw [← HNn.out] at C02
          have C22 := C2.out w2 HR.out.2
          have hlook := (HTn.out.far (HR.out.2.block n1 HTn.out.lt id)).look HSk.out s (by omega)
          cases hin : inL L s with
          | false =>
            have HNot := Lib.hid (secN_not hin)
            rw [hin] at hlook
            clear hin
            go_wp2
            go_roundw
            case rel =>
              first
                | exact ⟨s + 1, by omega, by go_num, by rw [HNot.out], by rw [HNot.out]; exact HR⟩
                | (repeat apply Exists.intro
                   refine ⟨?_, rfl⟩
                   exact ⟨s + 1, by omega, by go_num, by rw [HNot.out], by rw [HNot.out]; exact HR⟩)
            case measure => simp [intOf]; omega
          | true =>
            rw [hin] at hlook
            have HS64 := Lib.hid (HSec.out s hin)
            have HYes := Lib.hid (secN_yes hin)
            obtain ⟨kv, hkv⟩ : ∃ kv, kv = keepV kz (tt + (secN L s).length) := ⟨_, rfl⟩
            have HKv := Lib.hid hkv
            have HS0 := Lib.hid (show kv = 0 → (foldD kz ys zs tt (secN L (s + 1))).1 = (foldD kz ys zs tt (secN L s)).1 from fun e => foldD_step0 hin (hkv.symm.trans e))
            have HS1 := Lib.hid (show kv ≠ 0 → (foldD kz ys zs tt (secN L (s + 1))).1 = putS zs (foldD kz ys zs tt (secN L s)).1 s kv from fun e => by rw [hkv]; exact foldD_step1 hin (fun h => e (hkv.trans h)))
            have hkb := keepV_in HKr.out (tt + (secN L s).length)
            rw [← hkv] at hkb
            obtain ⟨hkb0, hkb1⟩ := hkb
            obtain ⟨tn, htn⟩ : ∃ tn, tn = tt + (secN L s).length := ⟨_, rfl⟩
            have HTn2 := Lib.hid htn
            have htnb : ((tn : Nat) : Int) ≤ 1000000 := by have := HTl.out; have := HTs.out; omega
            have htn0 : (0 : Int) ≤ ((tn : Nat) : Int) := by omega
            have HKin := Lib.hid (HKr.out.only (S := fun _ => False) HR.out.2)
            rw [← htn] at HKv ⊢
            clear hkv hin htn
            go_upto_if 45 with (fail)
            go_cut [9] (fun u wx => wx = w2 ∧ u = .int .i64 kv)
            case first =>
              by_cases h0 : 0 < (kl : Int)
              · obtain ⟨hk1, hk2, hk3⟩ := HKin.out
                rcases hk2 with hk2 | ⟨kb, ko, rfl, hkb, hkc⟩
                · omega
                obtain ⟨j, hj⟩ : ∃ j, j = tn % kl := ⟨_, rfl⟩
                have hjl : j < kl := by rw [hj]; exact Nat.mod_lt _ (by omega)
                have e2 : ((tn : Nat) : Int).tmod (kl : Int) = (j : Int) := by rw [hj, Int.natCast_emod]; exact Int.tmod_eq_emod_of_nonneg (by omega)
                have cj := hkc j hjl
                have hjv : kz.getD j 0 = kv := by
                  rw [HKv.out]
                  unfold keepV
                  rw [if_neg (by omega), hk1, hj]
                rw [hjv] at cj
                have hji : (j : Int) < (kl : Int) := by omega
                have hj0 : (0 : Int) ≤ (j : Int) := by omega
                have hkl2 : ¬ ((kl : Int) = 0) := by omega
                have hkl3 : ¬ (kl = 0) := by omega
                have e3 : IntKind.i64.wrap (j : Int) = (j : Int) := wrapI_in (by omega) (by omega)
                have e4 : wrap64 (j : Int) = (j : Int) := wrap64_in (by omega) (by omega)
                clear hk1 hk3 hkc hj hjl hjv
                go_wp2_with fail
                go_meet
                exact ⟨rfl, rfl⟩
              · have h0' : (kl : Int) ≤ 0 := by omega
                have hkv0 : kv = 0 := by
                  rw [HKv.out]
                  unfold keepV
                  rw [if_pos (by have := HKin.out.1; omega)]
                subst hkv0
                clear h0
                go_wp2_with fail
                go_meet
                exact ⟨rfl, rfl⟩
            case rest =>
              obtain ⟨hw, hu⟩ := hcut
              subst hw hu
              obtain ⟨wa, rfl⟩ : ∃ x, x = wc := ⟨_, rfl⟩
              have hs64 : 64 * s < n := by have := HS64.out; have := HNn.out; omega
              obtain ⟨c, hc⟩ : ∃ c, c = min (64 * s + 64) n - 64 * s := ⟨_, rfl⟩
              have hc64 : c ≤ 64 ∧ 0 < c ∧ 64 * s + c ≤ n := by omega
              have HCc := Lib.hid (show c = min (64 * s + 64) zs.length - 64 * s by rw [hc, HNn.out])
              have hsect := fun W => rsector W za n zc s hs64 hzl (by have := HZle.out; have := HNn.out; omega)
              rw [← hc] at hsect
              have HI5 := Lib.hid (isB_keep (isB_take (k := c) (isB_off (cap := zc) (k := 64 * s) HZI.out (by have := HNn.out; omega) HZle.out) (by have := HNn.out; omega)) (HR.out.2.trans (only_alloc (fun _ => False) wa (.cells #[] 5))) (fun x h0 hx => by
                unfold offA at hx
                split at hx
                · exact HZlo.out x (by have := HNn.out; omega) hx
                · obtain ⟨y, hy, rfl⟩ := Option.map_eq_some_iff.1 hx
                  have hb : (y.add (64 * s)).block = y.block := by unfold Addr.add; split <;> rfl
                  rw [hb]
                  exact HZlo.out y (by have := HNn.out; omega) hy) (fun _ _ _ => id))
              have HN5 := Lib.hid (show offA za zc (64 * s) = none → c = 0 ∧ zc - 64 * s = 0 from fun h => by have := offA_nil (cap := zc) (k := 64 * s) HZn.out h; have := HNn.out; omega)
              obtain ⟨oa, hoa⟩ : ∃ oa, oa = offA za zc (64 * s) := ⟨_, rfl⟩
              obtain ⟨oc, hoc⟩ : ∃ oc, oc = zc - 64 * s := ⟨_, rfl⟩
              obtain ⟨sec, hsec⟩ : ∃ sec, sec = (zs.drop (64 * s)).take c := ⟨_, rfl⟩
              rw [← hoa, ← hoc] at hsect HN5
              rw [← hoa, ← hsec] at HI5
              have HSe := Lib.hid hsect
              have HSl := Lib.hid (show sec.length = c by rw [hsec, List.length_take, List.length_drop, ← HNn.out]; omega)
              have HSr := Lib.hid (show ∀ z ∈ sec, 0 ≤ z ∧ z ≤ 255 from fun z hz => by rw [hsec] at hz; exact HRz.out z (List.mem_of_mem_drop (List.mem_of_mem_take hz)))
              have HPut := Lib.hid (fun (out : List Int) (k : Nat) (q1 : 64 * s + c ≤ out.length + k) (q2 : k = 0 ∨ out.length + k ≤ 64 * s + c) => (show cpB (out ++ List.replicate k 0) (fillK sec kv c) (64 * s) = putS zs out s kv by rw [hsec]; exact crash_put HCc.out HS64.out q1 q2))
              have HT1 := Lib.hid (show ((tn : Nat) : Int) + 1 = ((tt + (secN L (s + 1)).length : Nat) : Int) by rw [HYes.out, HTn2.out]; omega)
              have HF2 := Lib.hid (cr_facts2 hs64 hzl hc64.1)
              have hc0 : 0 < c := hc64.2.1
              have hcc : c ≤ 64 := hc64.1
              have HCb := Lib.hid (show ([] : List Int).length + c ≤ 140737488355328 from by show 0 + c ≤ _; omega)
              have HC0 := Lib.hid (show c ≠ 0 by omega)
              have h64 : 64 * s ≤ 1000000 := by omega
              have hE2 : E < wa.heap.size := Nat.lt_of_lt_of_le hEw HR.out.2.size
              clear hsect hsec hoa hoc hc hc64 hs64 hlook C22
              go_wp2_with fail
              refine (HSe.out _).mono ?_
              rintro e w4 ⟨rfl, hw⟩
              subst hw
              go_wp2_with (at_builtin; go_loud (refine wpList_slice rfl (.tmp 55) (.tmp 61) rfl wa.heap.size (.slice (some ⟨wa.heap.size, 0, none⟩) 0 0) [] oa c oc sec rfl rfl (World.ownsRow_made wa #[] 0 (Nat.le_refl _) (Nat.zero_le _) rfl) HI5.out HN5.out HCb.out (by simp) ?_))
              intro v5 w5 hown hgr
              have HG5 := Lib.hid (show GrIn wa sec v5 w5 from ⟨by simpa using hown, only_new hgr⟩)
              obtain ⟨ia, iL, ic, e1, e2, _, _, _, _, _⟩ := own_any HG5.out.1 HSr.out
              subst e1
              have e3 : iL = c := e2.trans HSl.out
              subst e3
              obtain ⟨g, rfl⟩ : ∃ g, ia = some ⟨g, 0, none⟩ := by
                rcases HG5.out.1.2 with ⟨e, _⟩ | ⟨g', _, _, e, _⟩
                · injection e with _ e2 _; exact absurd e2 HC0.out
                · injection e with e1 _ _; exact ⟨g', e1⟩
              have HR5 := Lib.hid (HR.out.over HG5.out.2)
              have C05 := C0.out w5 HR5.out.2
              rw [← HNn.out] at C05
              clear hown hgr e2 C02
              by_cases h0 : kv = 0
              · have HS00 := Lib.hid (HS0.out h0)
                have hz : (kv == 0) = true := by rw [h0]; rfl
                have HR6 := Lib.hid (show GrIn wf (foldD kz ys zs tt (secN L (s + 1))).1 _ w5 by rw [HS00.out]; exact HR5.out)
                clear h0
                go_wp2
                go_roundw
                case rel =>
                  first
                    | exact ⟨s + 1, by omega, by go_num, by rw [← HT1.out], HR6⟩
                    | (repeat apply Exists.intro
                       refine ⟨?_, rfl⟩
                       exact ⟨s + 1, by omega, by go_num, by rw [← HT1.out], HR6⟩)
                case measure => simp [intOf]; omega
              · have HS11 := Lib.hid (HS1.out h0)
                have hz : (kv == 0) = false := beq_eq_false_iff_ne.2 h0
                clear h0
                have HLoop := Lib.hid (show GrIn wa (fillK sec kv 0) (.slice (some ⟨g, 0, none⟩) iL ic) w5 by rw [fillK_zero]; exact HG5.out)
                go_upto_block 4 with (fail)
                go_cut [] (fun wx => Hid (GrIn wa (fillK sec kv iL) (.slice (some ⟨g, 0, none⟩) iL ic) wx))
                case first =>
                  go_wp2_with fail
                  go_loopw [67] (fun i w6 => ∃ j : Nat, j ≤ iL ∧ i = .int .i64 (j : Int) ∧ Hid (GrIn wa (fillK sec kv j) (.slice (some ⟨g, 0, none⟩) iL ic) w6)) (fun i _ => iL - (intOf i).toNat)
                  case atStart => exact ⟨0, Nat.zero_le _, rfl, HLoop⟩
                  case round =>
                    obtain ⟨w6, rfl⟩ : ∃ x, x = wr := ⟨_, rfl⟩
                    obtain ⟨j, hj, rfl, HR6⟩ := hrel
                    have hj0 : (0 : Int) ≤ (j : Int) := Int.natCast_nonneg j
                    by_cases hjl : j < iL
                    · have hji : (j : Int) < (iL : Int) := Int.ofNat_lt.2 hjl
                      by_cases hk1 : kv = 1
                      · have hk1b : (kv == 1) = true := by rw [hk1]; rfl
                        have hk1c : (kv != 1) = false := by rw [hk1]; rfl
                        have HR7 := Lib.hid (show GrIn wa (fillK sec kv (j + 1)) (.slice (some ⟨g, 0, none⟩) iL ic) w6 by rw [hk1, fillK_one sec (j + 1) j, ← hk1]; exact HR6.out)
                        clear hk1
                        go_wp2
                        go_roundw
                        case rel => exact ⟨j + 1, hjl, by go_num, HR7⟩
                        case measure => simp [intOf]; omega
                      · have hk1b : (kv == 1) = false := beq_eq_false_iff_ne.2 hk1
                        have hk1c : (kv != 1) = true := by simp [hk1]
                        have HR7 := Lib.hid (show GrIn wa (fillK sec kv (j + 1)) (.slice (some ⟨g, 0, none⟩) iL ic) (w6.setCell ⟨g, j, none⟩ (.int .u8 (kv % 256))) by rw [← fillK_succ (by rw [HSl.out]; exact hjl) hk1]; exact HR6.out.put j _)
                        have hfl : (fillK sec kv j).length = iL := (fillK_length (by rw [HSl.out]; exact hj)).trans HSl.out
                        have hown6 := HR6.out.1
                        rw [hfl] at hown6
                        have fz := World.ownsRow.frozenAt hown6 j
                        have cz : ∃ cur : Int, w6.cell? ⟨g, j, none⟩ = some (.int .u8 cur) := by
                          have cz0 := hown6.cellAt j (by rw [Nat.mul_one]; exact hjl)
                          rw [List.getElem?_map, List.getElem?_eq_getElem (by rw [hfl]; exact hjl)] at cz0
                          exact ⟨_, cz0⟩
                        obtain ⟨cur, cz⟩ := cz
                        clear hk1 hown6 hfl
                        go_wp2
                        go_roundw
                        case rel => exact ⟨j + 1, hjl, by go_num, HR7⟩
                        case measure => simp [intOf]; omega
                    · have hji : (iL : Int) ≤ (j : Int) := Int.ofNat_le.2 (Nat.le_of_not_lt hjl)
                      have hje : j = iL := Nat.le_antisymm hj (Nat.le_of_not_lt hjl)
                      have HE6 := Lib.hid (show GrIn wa (fillK sec kv iL) (.slice (some ⟨g, 0, none⟩) iL ic) w6 by have h6 := HR6.out; rw [hje] at h6; exact h6)
                      clear hje hjl hj
                      go_wp2_with fail
                      go_meet
                      exact HE6
                case rest =>
                  obtain ⟨w6, rfl⟩ : ∃ x, x = wc := ⟨_, rfl⟩
                  have HR6 := hcut
                  clear hcut
                  have HR7 := Lib.hid (HR.out.over HR6.out.2)
                  have HIs := Lib.hid (show IsB w6 (some ⟨g, 0, none⟩) iL (fillK sec kv iL) ∧ g < w6.heap.size ∧ wa.heap.size ≤ g by
                    obtain ⟨_, _, _, q1, q2, q3, q4, _, _, q5⟩ := own_any HR6.out.1 (fillK_range HSr.out)
                    cases q1
                    exact ⟨q3, q4 _ HC0.out rfl, q5 _ rfl⟩)
                  have HNov := Lib.hid (own_not HR.out.1 HIs.out.2.2)
                  obtain ⟨ou, hou⟩ : ∃ ou, ou = (foldD kz ys zs tt (secN L s)).1 := ⟨_, rfl⟩
                  rw [← hou] at HR7 HS11 HOl HOr
                  obtain ⟨b, hb⟩ : ∃ b, b = fillK sec kv iL := ⟨_, rfl⟩
                  rw [← hb] at HIs HPut
                  have hoz : ou.length ≤ 1000000 := Nat.le_trans HOl.out (by rw [← HNn.out]; exact hzl)
                  obtain ⟨q, hq⟩ : ∃ q, q = 64 * s := ⟨_, rfl⟩
                  have HF3 := Lib.hid (show wrap64 (64 * (s : Int)) = (q : Int) ∧ IntKind.i64.wrap (64 * (s : Int)) = (q : Int) ∧ wrap64 ((q : Int) + (iL : Int)) = (q : Int) + (iL : Int) ∧ IntKind.i64.wrap ((q : Int) + (iL : Int)) = (q : Int) + (iL : Int) by rw [hq]; exact HF2.out)
                  rw [← hq] at h64 HPut
                  have hq0 : (0 : Int) ≤ (q : Int) := Int.natCast_nonneg q
                  have hi0 : (0 : Int) ≤ (iL : Int) := Int.natCast_nonneg iL
                  clear hq hb hou
                  go_upto_block 6 with (fail)
                  go_cut [7] (fun v wx => ∃ (k : Nat) (zk : List Int), Hid ((k = 0 ∨ ou.length + k ≤ q + iL) ∧ q + iL ≤ ou.length + k ∧ zk = ou ++ List.replicate k 0 ∧ zk.length = ou.length + k ∧ GrIn wf zk v wx ∧ IsB wx (some ⟨g, 0, none⟩) iL b))
                  case first =>
                    go_wp2_with fail
                    go_loopw [7] (fun v w7 => ∃ (k : Nat) (zk : List Int), (k = 0 ∨ ou.length + k ≤ q + iL) ∧ Hid (zk = ou ++ List.replicate k 0 ∧ zk.length = ou.length + k ∧ GrIn wf zk v w7 ∧ IsB w7 (some ⟨g, 0, none⟩) iL b ∧ g < w7.heap.size ∧ v.ownBlock ≠ some g)) (fun v _ => q + iL - lenV v)
                    case atStart => exact ⟨0, ou, .inl rfl, Lib.hid ⟨by simp, rfl, HR7.out, HIs.out.1, HIs.out.2.1, HNov.out⟩⟩
                    case round =>
                      obtain ⟨w7, rfl⟩ : ∃ x, x = wr := ⟨_, rfl⟩
                      obtain ⟨k, zk, hk, HR8⟩ := hrel
                      obtain ⟨ra, rl, rc, e1, e2, rI, rlo, rn, rle, rB⟩ := own_any HR8.out.2.2.1.1 (fun z hz => by
                        rw [HR8.out.1] at hz
                        rcases List.mem_append.1 hz with hz | hz
                        · exact HOr.out z hz
                        · rw [List.eq_of_mem_replicate hz]; exact ⟨by decide, by decide⟩)
                      subst e1
                      have HRl := Lib.hid (show rl = zk.length ∧ zk.length = ou.length + k from ⟨e2, HR8.out.2.1⟩)
                      have hrl : rl ≤ 1000064 := by have := HRl.out; rcases hk with h | h <;> omega
                      have HRo := Lib.hid (show w7.ownsRow wf.heap.size 5 1 (.slice ra rl rc) zk.length (zk.map (Value.int .u8)) from HR8.out.2.2.1.1)
                      have hrl0 : (0 : Int) ≤ (rl : Int) := Int.natCast_nonneg rl
                      clear e2 rI rlo rn rle rB
                      by_cases hlt4 : (rl : Int) < (q : Int) + (iL : Int)
                      · have HC2 := Lib.hid (show zk.length ≤ 140737488355000 by have := HRl.out; omega)
                        have HC3 := Lib.hid (show wf.heap.size ≤ w7.heap.size + 1 from Nat.le_trans HR8.out.2.2.1.2.size (Nat.le_succ _))
                        have HK1 := Lib.hid (show ou.length + (k + 1) ≤ q + iL by have := HRl.out; omega)
                        have HM1 := Lib.hid (show q + iL - (zk.length + 1) < q + iL - rl by have := HRl.out; omega)
                        obtain ⟨f1, f2, f3, f4⟩ := HF3.out
                        go_wp2_with (at_builtin; refine wpList_byte rfl (.tmp 86) (.tmp 87) rfl wf.heap.size (.slice ra rl rc) zk w7.heap.size 0 rfl rfl (HRo.out.alloc _) ?c1 ?c2 ?c3 ?_)
                        case c1 => simp [go_sem]
                        case c2 => exact HC2.out
                        case c3 => simpa using HC3.out
                        intro g2 cap w8 hown4 hgrow hat hltg
                        have HR9 := Lib.hid (And.intro (show zk ++ [0] = ou ++ List.replicate (k + 1) 0 by rw [HR8.out.1, List.replicate_succ', List.append_assoc]) (And.intro (show (zk ++ [0]).length = ou.length + (k + 1) by rw [List.length_append, HR8.out.2.1]; rfl) (And.intro (show GrIn wf (zk ++ [0]) (.slice (some ⟨g2, 0, none⟩) (zk.length + 1) cap) w8 from ⟨by simpa using hown4, grow_alloc hgrow HR8.out.2.2.1.2 (fun K hK => (own_at HR8.out.2.2.1.1 hK).1)⟩) (And.intro (isB_grow HR8.out.2.2.2.1 HR8.out.2.2.2.2.1 hgrow HR8.out.2.2.2.2.2) (And.intro (show g < w8.heap.size from Nat.lt_of_lt_of_le HR8.out.2.2.2.2.1 (Nat.le_trans (alloc_le _ _) hgrow.size)) (show (Value.slice (some ⟨g2, 0, none⟩) (zk.length + 1) cap).ownBlock ≠ some g from fun e => by
                          have e : g2 = g := by simpa [Value.ownBlock] using e
                          subst e
                          rcases hat with hat | hat
                          · exact HR8.out.2.2.2.2.2 hat
                          · exact Nat.lt_irrefl _ (Nat.lt_of_lt_of_le HR8.out.2.2.2.2.1 (by rw [hat]; exact Nat.le_succ _))))))))
                        clear hown4 hgrow hat hltg
                        go_wp2
                        go_roundw
                        case rel => exact ⟨k + 1, _, .inr HK1.out, HR9⟩
                        case measure => exact HM1.out
                      · have hle4 : (q : Int) + (iL : Int) ≤ (rl : Int) := by omega
                        have HE8 := Lib.hid (And.intro hk (And.intro (show q + iL ≤ ou.length + k by have := HRl.out; omega) (And.intro HR8.out.1 (And.intro HR8.out.2.1 (And.intro HR8.out.2.2.1 HR8.out.2.2.2.1)))))
                        obtain ⟨f1, f2, f3, f4⟩ := HF3.out
                        clear hk
                        go_wp2_with fail
                        go_meet
                        exact ⟨k, zk, HE8⟩
                  case rest =>
                    obtain ⟨k, zk, HR8⟩ := hcut
                    obtain ⟨w7, rfl⟩ : ∃ x, x = wc := ⟨_, rfl⟩
                    obtain ⟨hk, HP1, e3, e4, hgr8, hib8⟩ := HR8.out
                    obtain ⟨ra, rl, rc, e1, e2, rI, rlo, rn, rle, rB⟩ := own_any hgr8.1 (fun z hz => by
                      rw [e3] at hz
                      rcases List.mem_append.1 hz with hz | hz
                      · exact HOr.out z hz
                      · rw [List.eq_of_mem_replicate hz]; exact ⟨by decide, by decide⟩)
                    subst e1
                    have HRl := Lib.hid (show rl = zk.length ∧ zk.length = ou.length + k from ⟨e2, e4⟩)
                    have hqr : q ≤ rl := by rw [e2, e4]; exact Nat.le_trans (Nat.le_add_right _ _) HP1
                    have s1 : ∀ W, (Instr.slice 30 (.slice ra rl rc) (some (.int .i64 (q : Int))) none none).run Try.prog W = .ok (.slice (offA ra rc q) (rl - q) (rc - q)) W := fun W => slice_l ra _ rc q hqr .i64 W
                    have HRp := Lib.hid (show w7.ownsRow wf.heap.size 5 1 (.slice ra zk.length rc) zk.length (zk.map (Value.int .u8)) by have := hgr8.1; rw [e2] at this; exact this)
                    have HIB := Lib.hid hib8
                    have HGr := Lib.hid hgr8.2
                    have HZ := Lib.hid e3
                    have HC4 := Lib.hid (show q ≤ zk.length by rw [← e2]; exact hqr)
                    have HX := Lib.hid ((put_len (HPut.out ou k HP1 hk) (by rw [← e4, ← e2]; exact hqr)).trans (e4.symm.trans e2.symm))
                    have HPu := Lib.hid (HPut.out ou k HP1 hk)
                    have hrl0 : (0 : Int) ≤ (rl : Int) := Int.natCast_nonneg rl
                    obtain ⟨f1, f2, f3, f4⟩ := HF3.out
                    clear hk HP1 e3 e4 hgr8 hib8 e2 rI rlo rn rle rB HR8
                    go_wp2_with (refine wpList_copy_at rfl (.tmp 92) (.tmp 93) rfl wf.heap.size ra rc zk b q ?c0 HRp.out (some ⟨g, 0, none⟩) iL ic ?c1 rfl HIB.out ?_)
                    case c0 => exact HC4.out
                    case c1 => rw [← HRl.out.1]; rfl
                    intro w9 hown9 hg9
                    rw [HZ.out, HPu.out] at hown9
                    have HR9 := Lib.hid (show GrIn wf (foldD kz ys zs tt (secN L (s + 1))).1 (.slice ra rl rc) w9 from by
                      rw [HS11.out]
                      refine ⟨?_, own_grow HRp.out HGr.out hg9⟩
                      rw [HX.out]
                      have h9 := hown9
                      rw [← HZ.out, ← HRl.out.1] at h9
                      exact h9)
                    clear hown9 hg9 s1
                    go_wp2
                    go_roundw
                    case rel =>
                      first
                        | exact ⟨s + 1, by omega, by go_num, by rw [← HT1.out], HR9⟩
                        | (repeat apply Exists.intro
                           refine ⟨?_, rfl⟩
                           exact ⟨s + 1, by omega, by go_num, by rw [← HT1.out], HR9⟩)
                    case measure => simp [intOf]; omega
        · have hle : (N : Int) ≤ (s : Int) := by omega
          have hsN2 : s = N := by omega
          have HLf := Lib.hid (show (foldD kz ys zs tt (secN L s)).1 = a.f1.left kz tt by rw [HSecs.out.2, HSecs.out.1, hsN2, HNN.out, HNn.out])
          have HTf := Lib.hid (show ((tt + (secN L s).length : Nat) : Int) = (a.turn 2 : Int) by rw [HTu.out.2, HSecs.out.1, hsN2, HNN.out, HNn.out])
          obtain ⟨ra, rl, rc, e1, e2, _, _, _, _, _⟩ := own_any HR.out.1 HOr.out
          subst e1
          obtain ⟨r1, r2, r3, r4⟩ := row_in (off := 3) HBx.out HR.out
          have e0 := cell_of_row w2 E 3 _ _ _ r1
          have f0 := frozen_of_row w2 E 3 _ _ r1
          simp only [rCs, List.getElem?_toArray, List.getElem?_cons_zero, List.getElem?_cons_succ] at e0
          have hE2 : E < w2.heap.size := (Array.getElem?_eq_some_iff.1 r1).1
          have R2 := Lib.hid r2
          have R3 := Lib.hid r3
          have R4 := Lib.hid r4
          have HLen := Lib.hid (show (foldD kz ys zs tt (secN L s)).1.length ≤ 1000000 by have := HOl.out; have := HNn.out; omega)
          clear r1 r2 r3 r4 e2
          go_wp2_with fail
          refine (rsettle _ E 3 B _ _ (foldD kz ys zs tt (secN L s)).1 (.slice ra rl rc) t1 (.map (some n1)) R2.out rfl rfl rfl (own_base R3.out HBw.out) HOr.out HLen.out).mono ?_
          rintro e w4 ⟨rfl, hs⟩
          have HP := Lib.hid (HDone.out _ _ _ _ HLf.out R4.out (own_base R3.out HBw.out) (fun g hg => .inr (own_lt R3.out hg).1) hs)
          clear hs
          rw [HTf.out]
          go_wp2
          go_roundw
          case rel =>
            first
              | exact ⟨2, by omega, by go_num, rfl, HP⟩
              | (repeat apply Exists.intro
                 refine ⟨?_, rfl⟩
                 exact ⟨2, by omega, by go_num, rfl, HP⟩)
          case measure => simp [intOf]
    · obtain ⟨u0, t0, n0, u1, t1, n1, hrc, hi, hor⟩ := HR.out
      have x1 := Go.heap_setCell_same wr E 8 _ _ (.bool false) hrc.box
      have x2 := Go.heap_setCell_same _ E 7 _ _ (.int .i64 (-1)) x1
      have k2 : Only (fun i => i = E) wr ((wr.setCell ⟨E, 8, none⟩ (.bool false)).setCell ⟨E, 7, none⟩ (.int .i64 (-1))) := ((Only.refl _ wr).set (S := fun i => i = E) rfl _).set rfl _
      have HP := Lib.hid (show DPost w E B i0 k0 M0 i1 k1 M1 (a.crash kz) _ from DPost.trans hor hi ((hrc.scal (a' := a.crash kz) rfl rfl x2 k2).same (a := a) k2))
      have c7 := hrc.d7
      have c8 := hrc.d8
      have f7 := frozen_of_row wr E 7 _ _ hrc.box
      have f8 := frozen_of_row wr E 8 _ _ hrc.box
      have hEw : E < wr.heap.size := (Array.getElem?_eq_some_iff.1 hrc.box).1
      clear hrc hi hor x1 x2 k2 HR hkeep
      go_wp2
      go_end0
      exact ⟨rfl, HP.out⟩
end Go.Proofs.Ytafhgilikcablaa
