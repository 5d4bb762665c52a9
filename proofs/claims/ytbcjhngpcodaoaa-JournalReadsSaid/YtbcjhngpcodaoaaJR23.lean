/- The document's Read: what its loops hold; the region that keeps a record. -/
import Derived.Test.YtbcjhngpcodaoaaJRd
import Derived.Test.YtbcjhngpcodaoaaJRr
import Derived.Test.YtbcjhngpcodaoaaJGot2
import Derived.BigRegion
import Derived.Deep.RegionLaw
import Derived.Deep.RegionHeld3
import Derived.Deep.DeepCutAuto
import Derived.Deep.CutBlock
import Derived.Outline
namespace Go.Proofs.Ytbcjhngpcodaoaa
open Go.RowKit
set_option linter.unusedVariables false
set_option maxRecDepth 100000

/-- how many records the best of the first k heads tells, -1 without one -/
def many (b : Bool × Int × Int × Int) : Int := if b.1 then b.2.2.2 else -1
/-- amid the first loop -/
structure HInv (w : World) (z : List Int) (k : Nat) (wr : World) : Prop where
  box : wr.heap[w.heap.size]? = some (.cells (foundX 0 0 (.slice none 0 0) (.slice none 0 0)) 35 (0, 0))
  found : wr.heap[w.heap.size + 1]? = some (.cells (foundX (bK z k).2.1 (bK z k).2.2.1 (.slice none 0 0) (.slice none 0 0)) 35 (0, 0))
  bel : Below w.heap.size w wr
theorem HInv.size {w wr : World} {z : List Int} {k : Nat} (h : HInv w z k wr) : w.heap.size + 1 < wr.heap.size := (Array.getElem?_eq_some_iff.1 h.found).1
theorem HInv.later {w wr wx : World} {z : List Int} {k : Nat} (h : HInv w z k wr) (hb : Below wr.heap.size wr wx) : HInv w z k wx :=
  ⟨(hb.block _ (by have := h.size; omega)).trans h.box, (hb.block _ h.size).trans h.found, bt h.bel hb⟩
theorem HInv.same {w wr : World} {z : List Int} {k j : Nat} (h : HInv w z k wr) (he : bK z j = bK z k) : HInv w z j wr := ⟨h.box, by rw [he]; exact h.found, h.bel⟩
theorem set4 (w : World) (N : Nat) (T : TypeId) (c0 c1 c2 c3 v0 v1 v2 v3 : Value) (h : w.heap[N]? = some (.cells #[c0, c1, c2, c3] T (0, 0))) :
    ((((w.setCell ⟨N, 0, none⟩ v0).setCell ⟨N, 1, none⟩ v1).setCell ⟨N, 2, none⟩ v2).setCell ⟨N, 3, none⟩ v3).heap[N]? = some (.cells #[v0, v1, v2, v3] T (0, 0)) := by
  have h0 := Go.heap_setCell_same w N 0 _ _ v0 h
  have h1 := Go.heap_setCell_same _ N 1 _ _ v1 h0
  have h2 := Go.heap_setCell_same _ N 2 _ _ v2 h1
  have h3 := Go.heap_setCell_same _ N 3 _ _ v3 h2
  exact h3
theorem HInv.set {w wr : World} {z : List Int} {k j : Nat} (h : HInv w z k wr) {s p r : Int} (he : bK z j = (true, s, p, r)) :
    HInv w z j ((((wr.setCell ⟨w.heap.size + 1, 0, none⟩ (.int .u64 s)).setCell ⟨w.heap.size + 1, 1, none⟩ (.int .i64 p)).setCell ⟨w.heap.size + 1, 2, none⟩ (.slice none 0 0)).setCell ⟨w.heap.size + 1, 3, none⟩ (.slice none 0 0)) := by
  refine ⟨?_, ?_, ?_⟩
  · rw [heap_setCell_other _ _ _ _ (by show w.heap.size ≠ w.heap.size + 1; omega), heap_setCell_other _ _ _ _ (by show w.heap.size ≠ w.heap.size + 1; omega), heap_setCell_other _ _ _ _ (by show w.heap.size ≠ w.heap.size + 1; omega), heap_setCell_other _ _ _ _ (by show w.heap.size ≠ w.heap.size + 1; omega)]
    exact h.box
  · rw [he]
    exact set4 _ _ _ _ _ _ _ _ _ _ _ h.found
  · exact (((h.bel.setCell (by simp) _).setCell (by simp) _).setCell (by simp) _).setCell (by simp) _

/-- amid the second loop -/
structure RInvR (w : World) (z : List Int) (k : Nat) (v1 v2 : Value) (xs : List Value) (wr : World) : Prop where
  box : wr.heap[w.heap.size]? = some (.cells (foundX 0 0 (.slice none 0 0) (.slice none 0 0)) 35 (0, 0))
  found : wr.heap[w.heap.size + 1]? = some (.cells (foundX (bK z 2).2.1 (bK z 2).2.2.1 v1 v2) 35 (0, 0))
  got : Got (w.heap.size + 1) wr v1 v2 (nsK z k) (dsK z k) xs
  bel : Below w.heap.size w wr
theorem RInvR.size {w wr : World} {z : List Int} {k : Nat} {v1 v2 : Value} {xs : List Value} (h : RInvR w z k v1 v2 xs wr) : w.heap.size + 1 < wr.heap.size := (Array.getElem?_eq_some_iff.1 h.found).1
theorem RInvR.later {w wr wx : World} {z : List Int} {k : Nat} {v1 v2 : Value} {xs : List Value} (h : RInvR w z k v1 v2 xs wr) (hb : Below wr.heap.size wr wx) : RInvR w z k v1 v2 xs wx :=
  ⟨(hb.block _ (by have := h.size; omega)).trans h.box, (hb.block _ h.size).trans h.found, h.got.below hb, bt h.bel hb⟩
theorem RInvR.set {w wr W : World} {z : List Int} {k : Nat} {v1 v2 v1' v2' : Value} {xs xs' : List Value} (h : RInvR w z k v1 v2 xs wr) (hk : Kept (w.heap.size + 1) w wr W) (hg : Got (w.heap.size + 1) W v1' v2' (nsK z (k + 1)) (dsK z (k + 1)) xs') :
    RInvR w z (k + 1) v1' v2' xs' ((W.setCell ⟨w.heap.size + 1, 2, none⟩ v1').setCell ⟨w.heap.size + 1, 3, none⟩ v2') := by
  obtain ⟨k1, k2, k3⟩ := hk
  refine ⟨?_, ?_, (hg.set 2 _).set 3 _, (k2.setCell (by simp) _).setCell (by simp) _⟩
  · rw [heap_setCell_other _ _ _ _ (by show w.heap.size ≠ w.heap.size + 1; omega), heap_setCell_other _ _ _ _ (by show w.heap.size ≠ w.heap.size + 1; omega)]
    exact (k1 _ (by omega)).trans h.box
  · have h1 := Go.heap_setCell_same W (w.heap.size + 1) 2 _ _ v1' ((k1 _ (Nat.le_refl _)).trans h.found)
    have h2 := Go.heap_setCell_same _ (w.heap.size + 1) 3 _ _ v2' h1
    exact h2
theorem rN_drop (z : List Int) (k : Nat) : numN ((z.drop (128 + 576 * k)).take 4) = rN (rAt z k) := by
  unfold rN rAt
  rw [List.take_take]
  rfl
theorem rD_drop (z : List Int) (k : Nat) : (z.drop (128 + 576 * k + 4)).take 512 = rD (rAt z k) := by
  unfold rD rAt
  rw [List.drop_take, List.take_take, List.drop_drop]
  rfl

/-- the regions of a code, by number -/
def regOf (n : Nat) : Code → Option Code
  | .region id ops b => if id = n then some (.region id ops b) else none
  | .seq a b => match regOf n a with
    | some c => some c
    | none => regOf n b
  | .block _ c => regOf n c
  | .scope c => regOf n c
  | .loop c => regOf n c
  | .cond _ a b => match regOf n a with
    | some c => some c
    | none => regOf n b
  | _ => none
noncomputable def R23 : Code := ((Try.f14.body.bind (regOf 23)).getD .skip)
/-- what the region leaves -/
def Kept23 (w : World) (z : List Int) (k : Nat) (w' : World) : Prop := ∃ v1' v2' xs', RInvR w z (k + 1) v1' v2' xs' w'

set_option maxHeartbeats 40000000 in
theorem reg23_any (a a1 a2 ap4 : Option Addr) (len cap n1 c1 n2 c2 cp4 A k : Nat) (z y : List Int) (xs : List Value) (w w9 : World) (x1 x2 x3 x5 x6 x7 x8 x9 x10 x11 x14 x15 x16 x17 x18 x19 x20 x21 x22 x23 x24 x25 x26 x27 x28 x29 x30 x31 x32 x33 x34 x35 x36 x37 x38 x39 x40 x41 x42 x43 x44 x45 x46 x47 x48 x49 x50 x51 x52 x53 x54 x55 x56 x57 x58 x59 x60 x61 x62 x63 x64 x65 x66 x67 x68 x69 x70 x71 x72 x73 x74 x75 x76 x77 x78 x79 x80 x81 x82 x83 x84 x85 x86 x87 x88 x89 x90 x91 x92 x93 x94 x95 x96 x97 x98 x99 x100 x101 x102 x103 x104 x105 x106 x107 x108 x109 x110 x111 x112 x113 x114 : Value)
    (hR : RInvR w z k (.slice a1 n1 c1) (.slice a2 n2 c2) xs w9) (hk : (k : Int) ≤ 10000) (hA : 0 ≤ (A : Int) ∧ (A : Int) ≤ 6000000)
    (hs2 : ∀ W, (Instr.slice 26 (.slice a len cap) (some (.int .i64 ((A : Int) + 4))) (some (.int .i64 ((A : Int) + 516))) none).run Try.prog W = .ok (.slice ap4 512 cp4) W)
    (hP4 : IsB w ap4 512 (rD y)) (hP4l : ∀ x, (512 : Nat) ≠ 0 → ap4 = some x → x.block < w.heap.size) (hP4n : ap4 = none → (512 : Nat) = 0 ∧ cp4 = 0)
    (hDl : (rD y).length = 512) (hDr : ∀ x ∈ rD y, 0 ≤ x ∧ x ≤ 255) (hy : rAt z k = y) :
    Code.wp Try.prog R23 (fun e a' w' => e = .normal ∧ (∃ u94 u95 u96 u97 u98 u99 u100 u101 u102 u103 u104 u105 u106 u107 u108 u109 u110 u111 u112 : Value, a' = ⟨#[.slice a len cap, x1, x2, x3, .pointer (some ⟨w.heap.size + 1, 0, none⟩), x5, x6, x7, x8, x9, x10, x11, .int .i64 (A : Int), .int .i64 (rN y), x14, x15, x16, x17, x18, x19, x20, x21, x22, x23, x24, x25, x26, x27, x28, x29, x30, x31, x32, x33, x34, x35, x36, x37, x38, x39, x40, x41, x42, x43, x44, x45, x46, x47, x48, x49, x50, x51, x52, x53, x54, x55, x56, x57, x58, x59, x60, x61, x62, x63, x64, x65, x66, x67, x68, x69, x70, x71, x72, x73, x74, x75, x76, x77, x78, x79, x80, x81, x82, x83, x84, x85, x86, x87, x88, x89, x90, x91, x92, x93, u94, u95, u96, u97, u98, u99, u100, u101, u102, u103, u104, u105, u106, u107, u108, u109, u110, u111, u112, x113, x114], []⟩) ∧ Kept23 w z k w') ⟨#[.slice a len cap, x1, x2, x3, .pointer (some ⟨w.heap.size + 1, 0, none⟩), x5, x6, x7, x8, x9, x10, x11, .int .i64 (A : Int), .int .i64 (rN y), x14, x15, x16, x17, x18, x19, x20, x21, x22, x23, x24, x25, x26, x27, x28, x29, x30, x31, x32, x33, x34, x35, x36, x37, x38, x39, x40, x41, x42, x43, x44, x45, x46, x47, x48, x49, x50, x51, x52, x53, x54, x55, x56, x57, x58, x59, x60, x61, x62, x63, x64, x65, x66, x67, x68, x69, x70, x71, x72, x73, x74, x75, x76, x77, x78, x79, x80, x81, x82, x83, x84, x85, x86, x87, x88, x89, x90, x91, x92, x93, x94, x95, x96, x97, x98, x99, x100, x101, x102, x103, x104, x105, x106, x107, x108, x109, x110, x111, x112, x113, x114], []⟩ w9 := by
  have hw4 : IntKind.i64.wrap ((A : Int) + 4) = (A : Int) + 4 := by rw [IntKind.wrap_i64]; omega
  have hw5 : IntKind.i64.wrap ((A : Int) + 516) = (A : Int) + 516 := by rw [IntKind.wrap_i64]; omega
  have HR9 := Lib.hid hR
  have HKk := Lib.hid (show True ∧ (k : Int) ≤ 10000 from ⟨trivial, hk⟩)
  have HP4w := Lib.hid hP4
  have HP4wl := Lib.hid hP4l
  have HP4n := Lib.hid hP4n
  have HDl := Lib.hid hDl
  have HDr := Lib.hid hDr
  have Hy := Lib.hid hy
  have f2 : w9.cell? ⟨w.heap.size + 1, 2, none⟩ = some (.slice a1 n1 c1) := cell_of_row _ _ 2 _ _ _ HR9.out.found
  have f3 : w9.cell? ⟨w.heap.size + 1, 3, none⟩ = some (.slice a2 n2 c2) := cell_of_row _ _ 3 _ _ _ HR9.out.found
  have y2 := frozen_of_row _ _ 2 _ _ HR9.out.found
  have y3 := frozen_of_row _ _ 3 _ _ HR9.out.found
  have hF9 := HR9.out.size
  have hF9' : w.heap.size + 1 < w9.heap.size + 1 := by omega
  have hF9'' : w.heap.size + 1 < w9.heap.size + 1 + 1 := by omega
  clear hR hk hA hP4 hP4l hP4n hDl hDr hy
  conv => arg 2; whnf
  refine wp_region_noPanic ?_
  go_region_law (first
    | (refine step_int1 rfl (.tmp 95) (.tmp 97) rfl (w.heap.size + 1 + 1) (.slice a1 n1 c1) (nsK z k).length ((nsK z k).map (Value.int .i64)) _ (rN y) rfl rfl (by first | exact HR9.out.got.own1 | exact (HR9.out.got.below (bel0 _ (Below.refl _ _))).own1 | exact (HR9.out.got.below (bel0 _ (bel0 _ (Below.refl _ _)))).own1) (by simp [go_sem]) (by rw [nsK_len]; have := HKk.out.2; omega) (by have := HR9.out.size; simp; omega) ?_; intro g10 c10 w10 hown10 hgr10 hor10 hlt10; have HKb := Lib.hid (fun K (h1 : w9.heap.size ≤ K) h2 => hgr10.block K h2 (fun e => (HR9.out.got.n2 (.inl h1)).1 e.symm)); have HK10 := Lib.hid (((Kept.start HR9.out.bel HR9.out.size).below (by repeat (first | exact Below.refl _ _ | refine bel0 _ ?_ | refine Below.drew ?_))).app (by omega) hgr10 HR9.out.got.row1); have HS10 := Lib.hid (show w9.heap.size ≤ w10.heap.size from Nat.le_trans (by first | exact Nat.le_refl _ | (simp; done) | (simp; omega)) hgr10.size); have HG10 := Lib.hid ((HR9.out.got.below (by repeat (first | exact Below.refl _ _ | refine bel0 _ ?_ | refine Below.drew ?_))).app1 hown10 hgr10 hor10); have p2 : w10.cell? ⟨w.heap.size + 1, 2, none⟩ = some (.slice a1 n1 c1) := cell_of_row _ _ 2 _ _ _ ((HK10.out.1 _ (Nat.le_refl _)).trans HR9.out.found); have p3 : w10.cell? ⟨w.heap.size + 1, 3, none⟩ = some (.slice a2 n2 c2) := cell_of_row _ _ 3 _ _ _ ((HK10.out.1 _ (Nat.le_refl _)).trans HR9.out.found); have pf2 := frozen_of_row _ _ 2 _ _ ((HK10.out.1 _ (Nat.le_refl _)).trans HR9.out.found); have pf3 := frozen_of_row _ _ 3 _ _ ((HK10.out.1 _ (Nat.le_refl _)).trans HR9.out.found); have plt := HK10.out.2.2; have plt2 : w.heap.size + 1 < w10.heap.size + 1 := Nat.lt_succ_of_lt plt; clear hown10 hgr10 hor10 hlt10)
    | (refine step_slice rfl (.tmp 101) (.tmp 107) rfl w9.heap.size _ [] ap4 512 cp4 (rD y) rfl rfl (own_empty (by first | exact Go.heap_alloc_new w10 _ | exact (HKb.out _ (by first | (simp; done) | (simp; omega)) (by first | (simp; done) | (simp; omega))).trans (two_boxes w9 _ _).2 | exact (HKb.out _ (by first | (simp; done) | (simp; omega)) (by first | (simp; done) | (simp; omega))).trans (two_boxes w9 _ _).1) (by first | exact HS10.out | (simp; done) | (simp; omega))) (HP4w.out.below (HK10.out.below (by repeat (first | exact Below.refl _ _ | refine bel0 _ ?_ | refine Below.drew ?_))).2.1 HP4wl.out) HP4n.out (by simp) (by have := HS10.out; first | omega | (simp; omega)) ?_; intro v11 w11 hown11 hgr11; rw [List.nil_append, HDl.out] at hown11; obtain ⟨gi, ci, rfl⟩ := own_addr hown11 (by omega); have HK11 := Lib.hid ((HK10.out.below (by repeat (first | exact Below.refl _ _ | refine bel0 _ ?_ | refine Below.drew ?_))).app (by omega) hgr11 (fun K hK => by cases hK; have := HR9.out.size; have := HS10.out; first | omega | (simp; omega))); have HG11 := Lib.hid ((HG10.out.below (by repeat (first | exact Below.refl _ _ | refine bel0 _ ?_ | refine Below.drew ?_))).keptEmpty (by first | exact Go.heap_alloc_new w10 _ | exact (HKb.out _ (by first | (simp; done) | (simp; omega)) (by first | (simp; done) | (simp; omega))).trans (two_boxes w9 _ _).2 | exact (HKb.out _ (by first | (simp; done) | (simp; omega)) (by first | (simp; done) | (simp; omega))).trans (two_boxes w9 _ _).1) hgr11 (by decide) (by decide)); have HO11 := Lib.hid hown11; have HI11 := Lib.hid (own_isB hown11 HDl.out HDr.out); have q2 : w11.cell? ⟨w.heap.size + 1, 2, none⟩ = some (.slice a1 n1 c1) := cell_of_row _ _ 2 _ _ _ ((HK11.out.1 _ (Nat.le_refl _)).trans HR9.out.found); have q3 : w11.cell? ⟨w.heap.size + 1, 3, none⟩ = some (.slice a2 n2 c2) := cell_of_row _ _ 3 _ _ _ ((HK11.out.1 _ (Nat.le_refl _)).trans HR9.out.found); have qf2 := frozen_of_row _ _ 2 _ _ ((HK11.out.1 _ (Nat.le_refl _)).trans HR9.out.found); have qf3 := frozen_of_row _ _ 3 _ _ ((HK11.out.1 _ (Nat.le_refl _)).trans HR9.out.found); have qlt := HK11.out.2.2; have qlt2 : w.heap.size + 1 < w11.heap.size + 1 := Nat.lt_succ_of_lt qlt; clear hown11 hgr11)
    | (refine step_sl1 rfl (.tmp 100) (.tmp 109) rfl (w.heap.size + 1 + 1) (.slice a2 n2 c2) (dsK z k).length xs _ (some ⟨gi, 0, none⟩) 512 ci rfl rfl (by first | exact HG11.out.own2 | exact (HG11.out.below (bel0 _ (Below.refl _ _))).own2) (by simp [go_sem]) (by rw [dsK_len]; have := HKk.out.2; omega) (by have := HK11.out.2.2; first | omega | (simp; omega)) ?_; intro g12 c12 w12 hown12 hgr12 hor12 hlt12; have HK12 := Lib.hid ((HK11.out.below (by repeat (first | exact Below.refl _ _ | refine bel0 _ ?_ | refine Below.drew ?_))).app (by omega) hgr12 HR9.out.got.row2); have HG12 := Lib.hid ((HG11.out.below (by repeat (first | exact Below.refl _ _ | refine bel0 _ ?_ | refine Below.drew ?_))).app2 (HI11.out.below (by repeat (first | exact Below.refl _ _ | refine bel0 _ ?_ | refine Below.drew ?_)) (fun x _ hx => by cases hx; exact own_low HO11.out)) (by have := own_lo HO11.out; have := HR9.out.size; omega) (by have := own_low HO11.out; first | omega | (simp; omega)) (own_ne HG11.out.own1 HO11.out (by decide)) (own_ne HG11.out.own2 HO11.out (by decide)) hown12 hgr12 hor12); have r2 : w12.cell? ⟨w.heap.size + 1, 2, none⟩ = some (.slice a1 n1 c1) := cell_of_row _ _ 2 _ _ _ ((HK12.out.1 _ (Nat.le_refl _)).trans HR9.out.found); have r3 : w12.cell? ⟨w.heap.size + 1, 3, none⟩ = some (.slice a2 n2 c2) := cell_of_row _ _ 3 _ _ _ ((HK12.out.1 _ (Nat.le_refl _)).trans HR9.out.found); have rf2 := frozen_of_row _ _ 2 _ _ ((HK12.out.1 _ (Nat.le_refl _)).trans HR9.out.found); have rf3 := frozen_of_row _ _ 3 _ _ ((HK12.out.1 _ (Nat.le_refl _)).trans HR9.out.found); have rlt := HK12.out.2.2; have rlt2 : w.heap.size + 1 < w12.heap.size + 1 := Nat.lt_succ_of_lt rlt; clear hown12 hgr12 hor12 hlt12))
  all_goals
    refine NoPanic.normal ?_
    exact ⟨rfl, ⟨_, _, _, _, _, _, _, _, _, _, _, _, _, _, _, _, _, _, _, rfl⟩, _, _, _, HR9.out.set HK12.out (by rw [nsK_succ z k, dsK_succ z k, Hy.out]; exact HG12.out)⟩
end Go.Proofs.Ytbcjhngpcodaoaa
