/- Contract of journal's Read: every slice of bytes. -/
import Derived.Test.YtbcjhngpcodaoaaJGot
import Derived.Test.YtbcjhngpcodaoaaJBest
import Derived.Test.YtbcjhngpcodaoaaJRec
import Derived.Deep.RegionLaw
import Derived.BigRegion
namespace Go.Proofs.Ytbcjhngpcodaoaa
open Go.RowKit
set_option linter.unusedVariables false
set_option maxRecDepth 100000

/-- what Read answers -/
def ReadPost (w : World) (z : List Int) (e : Ending) (w' : World) : Prop :=
  (∃ f, e = .returned (.tuple #[f, .bool (allR z)]) ∧ FoundIs w' w.heap.size f (tS z) (tP z) (tN z) (tD z)) ∧ Below w.heap.size w w'
theorem goodR_out {s : Int} {z : List Int} {k : Nat} (h : ¬ 128 + 576 * (k + 1) ≤ z.length) : goodR s z k = false := by unfold goodR; rw [decide_eq_false h]; rfl
theorem goodR_in {s : Int} {z : List Int} {k : Nat} (h : 128 + 576 * (k + 1) ≤ z.length) : goodR s z k = rOk s (rAt z k) := by unfold goodR; rw [decide_eq_true h]; rfl
theorem readRecord_yes (s : Int) (a : Option Addr) (cap : Nat) (y : List Int) (w : World) (s0 : 0 ≤ s) (s1 : s ≤ 18446744073709551615) (h : IsB w a 576 y) (hlow : ∀ x, 576 ≠ 0 → a = some x → x.block < w.heap.size) (hn : a = none → 576 = 0 ∧ cap = 0) (hc : 576 ≤ cap) (ho : rOk s y = true) :
    Calls Try.prog 69 #[.int .u64 s, .slice a 576 cap] w fun e w' => (∃ g c, e = .returned (.tuple #[.int .i64 (rN y), .slice (some ⟨g, 0, none⟩) 512 c, .bool true]) ∧ IsB w' (some ⟨g, 0, none⟩) 512 (rD y) ∧ w.heap.size ≤ g ∧ g < w'.heap.size) ∧ Below w.heap.size w w' :=
  (readRecord_any s a cap y w s0 s1 h hlow hn hc).mono fun e w' ⟨hor, hb⟩ => by
    rcases hor with ⟨_, h⟩ | ⟨h, _⟩
    · exact ⟨h, hb⟩
    · rw [ho] at h; cases h
theorem readRecord_no (s : Int) (a : Option Addr) (cap : Nat) (y : List Int) (w : World) (s0 : 0 ≤ s) (s1 : s ≤ 18446744073709551615) (h : IsB w a 576 y) (hlow : ∀ x, 576 ≠ 0 → a = some x → x.block < w.heap.size) (hn : a = none → 576 = 0 ∧ cap = 0) (hc : 576 ≤ cap) (ho : rOk s y = false) :
    Calls Try.prog 69 #[.int .u64 s, .slice a 576 cap] w fun e w' => e = .returned (.tuple #[.int .i64 0, .slice none 0 0, .bool false]) ∧ Below w.heap.size w w' :=
  (readRecord_any s a cap y w s0 s1 h hlow hn hc).mono fun e w' ⟨hor, hb⟩ => by
    rcases hor with ⟨h, _⟩ | ⟨_, h⟩
    · rw [ho] at h; cases h
    · exact ⟨h, hb⟩

def foundX (s p : Int) (v1 v2 : Value) : Array Value := #[.int .u64 s, .int .i64 p, v1, v2]
/-- amid the loop: the result's box, the head's, the found's -/
structure RInv (w : World) (z : List Int) (H F k : Nat) (v1 v2 : Value) (xs : List Value) (wr : World) : Prop where
  box : wr.heap[w.heap.size]? = some (.cells (foundX 0 0 (.slice none 0 0) (.slice none 0 0)) 32 (0, 0))
  head : wr.heap[H]? = some (.cells (hdX (bK z 2)) 133 (0, 0))
  found : wr.heap[F]? = some (.cells (foundX (bK z 2).2.1 (bK z 2).2.2.1 v1 v2) 32 (0, 0))
  lt : w.heap.size < H ∧ H < F
  got : Got F wr v1 v2 (nsK z k) (dsK z k) xs
  bel : Below w.heap.size w wr
theorem RInv.size {w wr : World} {z : List Int} {H F k : Nat} {v1 v2 : Value} {xs : List Value} (h : RInv w z H F k v1 v2 xs wr) : F < wr.heap.size := (Array.getElem?_eq_some_iff.1 h.found).1
theorem RInv.later {w wr wx : World} {z : List Int} {H F k : Nat} {v1 v2 : Value} {xs : List Value} (h : RInv w z H F k v1 v2 xs wr) (hb : Below wr.heap.size wr wx) : RInv w z H F k v1 v2 xs wx :=
  ⟨(hb.block _ (by have := h.size; have := h.lt; omega)).trans h.box, (hb.block _ (by have := h.size; have := h.lt; omega)).trans h.head, (hb.block _ h.size).trans h.found, h.lt, h.got.below hb, bt h.bel hb⟩
theorem RInv.set {w wr W : World} {z : List Int} {H F k : Nat} {v1 v2 v1' v2' : Value} {xs xs' : List Value} (h : RInv w z H F k v1 v2 xs wr) (hk : Kept F w wr W) (hg : Got F W v1' v2' (nsK z (k + 1)) (dsK z (k + 1)) xs') :
    RInv w z H F (k + 1) v1' v2' xs' ((W.setCell ⟨F, 2, none⟩ v1').setCell ⟨F, 3, none⟩ v2') := by
  obtain ⟨k1, k2, k3⟩ := hk
  have hl := h.lt
  have e : ∀ K, K < F → ((W.setCell ⟨F, 2, none⟩ v1').setCell ⟨F, 3, none⟩ v2').heap[K]? = wr.heap[K]? := fun K hK => by
    rw [heap_setCell_other _ _ _ _ (by show K ≠ F; omega), heap_setCell_other _ _ _ _ (by show K ≠ F; omega)]
    exact k1 K (by omega)
  refine ⟨(e _ (by omega)).trans h.box, (e _ (by omega)).trans h.head, ?_, hl, (hg.set 2 _).set 3 _, (k2.setCell (by show w.heap.size ≤ F; omega) _).setCell (by show w.heap.size ≤ F; omega) _⟩
  have h1 := Go.heap_setCell_same W F 2 _ _ v1' ((k1 F (Nat.le_refl _)).trans h.found)
  have h2 := Go.heap_setCell_same _ F 3 _ _ v2' h1
  exact h2
/-- the region of the call's end -/
def RecGot (wr : World) (y : List Int) (b : Value) (wx : World) : Prop :=
  ∃ g c, b = .slice (some ⟨g, 0, none⟩) 512 c ∧ IsB wx (some ⟨g, 0, none⟩) 512 (rD y) ∧ wr.heap.size ≤ g ∧ g < wx.heap.size ∧ Below wr.heap.size wr wx
/-- the round's end -/
def RoundEnd (w : World) (z : List Int) (H F k : Nat) (wx : World) : Prop := ∃ v1 v2 xs, RInv w z H F (k + 1) v1 v2 xs wx

set_option maxHeartbeats 6400000 in
theorem read_any (a : Option Addr) (len cap : Nat) (z : List Int) (w : World) (h : IsB w a len z) (hlow : ∀ x, len ≠ 0 → a = some x → x.block < w.heap.size) (hn : a = none → len = 0 ∧ cap = 0) (hlc : len ≤ cap) :
    Calls Try.prog 13 #[.slice a len cap] w (ReadPost w z) := by
  have hm := h.2.1
  have hbd := bK_bd h.mem 2
  have HI := Lib.hid h
  have HL := Lib.hid h.1
  have HLow := Lib.hid hlow
  have HN := Lib.hid hn
  have HC := Lib.hid hlc
  have HBd := Lib.hid hbd
  obtain ⟨W0, hW0⟩ : ∃ W0, W0 = w.alloc (.cells #[.int .u64 0, .int .i64 0, .slice none 0 0, .slice none 0 0] 32) := ⟨_, rfl⟩
  have hb0 : Below w.heap.size w W0 := by rw [hW0]; exact bel0 _ (Below.refl _ _)
  have hx0 : W0.heap[w.heap.size]? = some (.cells (foundX 0 0 (.slice none 0 0) (.slice none 0 0)) 32 (0, 0)) := by rw [hW0]; exact Go.heap_alloc_new w _
  have HX0 := Lib.hid hx0
  have HB0 := Lib.hid hb0
  have HW := Lib.hid hW0
  have HI0 := Lib.hid (h.below hb0 hlow)
  have HLow0 := Lib.hid (fun x (hx : len ≠ 0) hy => Nat.lt_of_lt_of_le (hlow x hx hy) hb0.size)
  clear h hlow hn hlc hbd hW0 hb0 hx0
  go_enter Try.func13, Try.ntmps13
  go_wp2_with fail
  rw [← HW.out]
  refine (best_any a len cap z _ HI0.out HLow0.out HN.out HC.out).mono ?_
  rintro e w1 ⟨rfl, hb1⟩
  rw [show hdF (bK z 2) = .agg #[.int .u64 (bK z 2).2.1, .int .i64 (bK z 2).2.2.1, .int .i64 (bK z 2).2.2.2] from rfl]
  have hx1 := (hb1.block _ (Array.getElem?_eq_some_iff.1 HX0.out).1).trans HX0.out
  have HX1 := Lib.hid hx1
  have HB1 := Lib.hid (bt HB0.out hb1)
  have HZ1 := Lib.hid (Nat.lt_of_lt_of_le (Array.getElem?_eq_some_iff.1 HX0.out).1 hb1.size)
  clear hb1 hx1
  by_cases hv : (bK z 2).1 = false
  · have HE := Lib.hid (allR_none hv)
    rw [hv]
    have u0 := cell_of_row _ _ 0 _ _ _ HX1.out
    have u1 := cell_of_row _ _ 1 _ _ _ HX1.out
    have u2 := cell_of_row _ _ 2 _ _ _ HX1.out
    have u3 := cell_of_row _ _ 3 _ _ _ HX1.out
    simp only [foundX, List.getElem?_toArray, List.getElem?_cons_zero, List.getElem?_cons_succ] at u0 u1 u2 u3
    have y0 := frozen_of_row _ _ 0 _ _ HX1.out
    have y1 := frozen_of_row _ _ 1 _ _ HX1.out
    have y2 := frozen_of_row _ _ 2 _ _ HX1.out
    have y3 := frozen_of_row _ _ 3 _ _ HX1.out
    have hz := HZ1.out
    clear hv
    go_wp2
    refine bodyPost_ret (v := .tuple #[found0, .bool false]) (by simp [results, Try.results13, go_sem, found0, u0, u1, u2, u3, hz]) rfl ⟨⟨found0, by rw [HE.out], found_none _ _ HE.out⟩, ?_⟩
    repeat (first | exact HB1.out | (refine Below.setCell ?_ (by simp) _) | (refine bel0 _ ?_))
  · have hv' : (bK z 2).1 = true := by simpa using hv
    have HV := Lib.hid hv'
    rw [hv']
    clear hv hv'
    have hz := HZ1.out
    have hr0 := HBd.out.2.2.1
    have hr1 := HBd.out.2.2.2
    have HS0 := Lib.hid (show RInv w z w1.heap.size (w1.heap.size + 1) 0 (.slice none 0 0) (.slice none 0 0) [] ((w1.alloc (.cells #[.int .u64 (bK z 2).2.1, .int .i64 (bK z 2).2.2.1, .int .i64 (bK z 2).2.2.2] 133)).alloc (.cells #[.int .u64 (bK z 2).2.1, .int .i64 (bK z 2).2.2.1, .slice none 0 0, .slice none 0 0] 32)) from by
      have h2 := two_boxes w1 (.cells #[.int .u64 (bK z 2).2.1, .int .i64 (bK z 2).2.2.1, .int .i64 (bK z 2).2.2.2] 133) (.cells #[.int .u64 (bK z 2).2.1, .int .i64 (bK z 2).2.2.1, .slice none 0 0, .slice none 0 0] 32)
      exact ⟨((bel0 _ (bel0 _ (Below.refl _ _)) : Below w1.heap.size w1 _).block _ hz).trans HX1.out, h2.1, h2.2, ⟨hz, Nat.lt_succ_self _⟩, Got.nil _ _, bt HB1.out (bel0 _ (bel0 _ (Below.refl _ _)))⟩)
    go_wp2
    generalize w1.heap.size = H at *
    go_loopw [27] (fun i wr => ∃ (k : Nat) (v1 v2 : Value) (xs : List Value), (k : Int) ≤ (bK z 2).2.2.2 ∧ i = .int .i64 (k : Int) ∧ Hid (∀ j, j < k → goodR (bK z 2).2.1 z j = true) ∧ Hid (RInv w z H (H + 1) k v1 v2 xs wr)) (fun i _ => ((bK z 2).2.2.2 - intOf i).toNat)
    case atStart => exact ⟨0, _, _, _, hr0, rfl, Lib.hid (fun j hj => absurd hj (Nat.not_lt_zero _)), HS0⟩
    case round =>
      obtain ⟨k, v1, v2, xs, hk, rfl, HG, HR⟩ := hrel
      clear HS0 HX1 HB1 HZ1 hz
      obtain ⟨a1, n1, c1, rfl⟩ := own_slice HR.out.got.own1
      obtain ⟨a2, n2, c2, rfl⟩ := own_slice HR.out.got.own2
      by_cases hlt : (k : Int) < (bK z 2).2.2.2
      · have hk0 : (0 : Int) ≤ (k : Int) := by omega
        have hk1 : (k : Int) ≤ 10000 := by omega
        obtain ⟨A, hA⟩ : ∃ A : Nat, A = 128 + 576 * k := ⟨_, rfl⟩
        have hAc : 128 + (k : Int) * 576 = (A : Int) := by omega
        have hA0 : (0 : Int) ≤ (A : Int) := by omega
        have hA1 : (A : Int) ≤ 6000000 := by omega
        have HA := Lib.hid hA
        clear hA
        have q0 : wr.cell? ⟨H, 0, none⟩ = some (.int .u64 (bK z 2).2.1) := cell_of_row _ _ 0 _ _ _ HR.out.head
        by_cases hlen : A + 576 ≤ len
        · have hAl : (576 : Int) ≤ (len : Int) - (A : Int) := by omega
          have hw : IntKind.i64.wrap ((A : Int) + 576) = (A : Int) + 576 := by rw [IntKind.wrap_i64]; omega
          have hsl : ∀ W, (Instr.slice 26 (.slice a len cap) (some (.int .i64 (A : Int))) (some (.int .i64 ((A : Int) + 576))) none).run Try.prog W = .ok (.slice (offA a cap A) 576 (cap - A)) W := fun W => by
            have := slice_lh a len cap A (A + 576) (by omega) (by have := HC.out; omega) .i64 .i64 W
            rw [show A + 576 - A = 576 by omega] at this
            simpa using this
          have HP := Lib.hid (show IsB wr (offA a cap A) 576 (rAt z k) from by
            have := isB_part (k := A) (n := 576) (HI.out.below HR.out.bel HLow.out) hlen HC.out
            rw [HA.out] at this ⊢
            exact this)
          have HPl := Lib.hid (show ∀ x, 576 ≠ 0 → offA a cap A = some x → x.block < wr.heap.size from fun x _ hx => Nat.lt_of_lt_of_le (offA_low (k := A) HLow.out x (by omega) hx) HR.out.bel.size)
          have HPn := Lib.hid (show offA a cap A = none → 576 = 0 ∧ cap - A = 0 from fun hx => by have := offA_nil (k := A) HN.out hx; omega)
          have HPc := Lib.hid (show 576 ≤ cap - A by have := HC.out; omega)
          have HLen := Lib.hid (show 128 + 576 * (k + 1) ≤ z.length by rw [HL.out]; have := HA.out; omega)
          have HQ0 := Lib.hid q0
          have HKk := Lib.hid (show (k : Int) < (bK z 2).2.2.2 ∧ (k : Int) ≤ 10000 from ⟨hlt, hk1⟩)
          clear hlen hk
          generalize offA a cap A = ap at *
          generalize cap - A = cp at *
          by_cases hok : rOk (bK z 2).2.1 (rAt z k) = true
          · have HO := Lib.hid hok
            clear hok
            go_upto_region 11 with (fail)
            go_region_law (first
              | (go_simp; go_at_call 69; refine (readRecord_yes (bK z 2).2.1 ap cp (rAt z k) _ HBd.out.1.1 HBd.out.1.2 (by exact HP.out) (by exact HPl.out) HPn.out HPc.out HO.out).mono ?_; rintro e w8 ⟨⟨g8, c8, rfl, hI8, hg8⟩, hb8⟩; have hb9 : Below wr.heap.size wr w8 := ⟨hb8.os, hb8.tape, hb8.output, hb8.size, hb8.block⟩; have HB8 := Lib.hid hb9; have HI8 := Lib.hid hI8; have HG8 := Lib.hid (show wr.heap.size ≤ g8 ∧ g8 < w8.heap.size from hg8); clear hb8 hb9 hI8 hg8))
            have HR8 := Lib.hid (HR.out.later HB8.out)
            have f2 : w8.cell? ⟨H + 1, 2, none⟩ = some (.slice a1 n1 c1) := cell_of_row _ _ 2 _ _ _ HR8.out.found
            have f3 : w8.cell? ⟨H + 1, 3, none⟩ = some (.slice a2 n2 c2) := cell_of_row _ _ 3 _ _ _ HR8.out.found
            have y2 := frozen_of_row _ _ 2 _ _ HR8.out.found
            have y3 := frozen_of_row _ _ 3 _ _ HR8.out.found
            have hF8 := HR8.out.size
            have hF8' : H + 1 < w8.heap.size + 1 := by omega
            clear q0 hsl hw hAl
            go_upto_region 14 with (fail)
            go_region_law (first
              | (refine step_int1 rfl (.tmp 55) (.tmp 57) rfl (H + 1 + 1) (.slice a1 n1 c1) (nsK z k).length ((nsK z k).map (Value.int .i64)) _ (rN (rAt z k)) rfl rfl (by first | exact HR8.out.got.own1 | exact (HR8.out.got.below (bel0 _ (Below.refl _ _))).own1 | exact (HR8.out.got.below (bel0 _ (bel0 _ (Below.refl _ _)))).own1) (by simp [go_sem]) (by rw [nsK_len]; have := HKk.out.2; omega) (by have := HR8.out.size; simp; omega) ?_; intro g9 c9 w9 hown9 hgr9 hor9 hlt9; have HKb := Lib.hid (fun K (h1 : w8.heap.size ≤ K) h2 => hgr9.block K h2 (fun e => (HR8.out.got.n2 (.inl h1)).1 e.symm)); have HK9 := Lib.hid (((Kept.start HR8.out.bel HR8.out.size).below (by repeat (first | exact Below.refl _ _ | refine bel0 _ ?_ | refine Below.drew ?_))).app (by have := HR8.out.lt; omega) hgr9 HR8.out.got.row1); have HD9 := Lib.hid ((HR8.out.got.below (by repeat (first | exact Below.refl _ _ | refine bel0 _ ?_ | refine Below.drew ?_))).app1_data (m := (nsK z k).length + 1) (c := c9) (HI8.out.below (by repeat (first | exact Below.refl _ _ | refine bel0 _ ?_ | refine Below.drew ?_)) (fun x _ hx => by cases hx; exact HG8.out.2)) (by have := HG8.out.2; simp; omega) (HR.out.got.n2 (.inl HG8.out.1)).1 hgr9 hor9); have HG9 := Lib.hid ((HR8.out.got.below (by repeat (first | exact Below.refl _ _ | refine bel0 _ ?_ | refine Below.drew ?_))).app1 hown9 hgr9 hor9); have e2 : w9.cell? ⟨H + 1, 2, none⟩ = some (.slice a1 n1 c1) := cell_of_row _ _ 2 _ _ _ ((HK9.out.1 _ (Nat.le_refl _)).trans HR8.out.found); have e3 : w9.cell? ⟨H + 1, 3, none⟩ = some (.slice a2 n2 c2) := cell_of_row _ _ 3 _ _ _ ((HK9.out.1 _ (Nat.le_refl _)).trans HR8.out.found); have z2 := frozen_of_row _ _ 2 _ _ ((HK9.out.1 _ (Nat.le_refl _)).trans HR8.out.found); have z3 := frozen_of_row _ _ 3 _ _ ((HK9.out.1 _ (Nat.le_refl _)).trans HR8.out.found); have hF9 := HK9.out.2.2; have hF9' : H + 1 < w9.heap.size + 1 := Nat.lt_succ_of_lt hF9; clear hown9 hgr9 hor9 hlt9)
              | (refine step_sl1 rfl (.tmp 60) (.tmp 62) rfl (H + 1 + 1) (.slice a2 n2 c2) (dsK z k).length xs _ (some ⟨g8, 0, none⟩) 512 c8 rfl rfl (by first | exact HG9.out.own2 | exact (HG9.out.below (bel0 _ (Below.refl _ _))).own2) (by first | (simp [go_sem]; done) | exact (World.cell?_of_block (HKb.out _ (by first | (simp; done) | (simp; omega)) (by first | (simp; done) | (simp; omega)))).trans (by simp [go_sem])) (by rw [dsK_len]; have := HKk.out.2; omega) (by have := HK9.out.2.2; first | omega | (simp; omega)) ?_; intro g10 c10 w10 hown10 hgr10 hor10 hlt10; have HK10 := Lib.hid ((HK9.out.below (by repeat (first | exact Below.refl _ _ | refine bel0 _ ?_ | refine Below.drew ?_))).app (by have := HR8.out.lt; omega) hgr10 HR8.out.got.row2); have HG10 := Lib.hid ((HG9.out.below (by repeat (first | exact Below.refl _ _ | refine bel0 _ ?_ | refine Below.drew ?_))).app2 (HD9.out.1.below (by repeat (first | exact Below.refl _ _ | refine bel0 _ ?_ | refine Below.drew ?_)) (fun x _ hx => by cases hx; exact HD9.out.2.1)) (by have := HG8.out.1; have := HR.out.size; omega) (by have := HD9.out.2.1; first | omega | (simp; omega)) HD9.out.2.2 (HR.out.got.n2 (.inl HG8.out.1)).2 hown10 hgr10 hor10); have x2 : w10.cell? ⟨H + 1, 2, none⟩ = some (.slice a1 n1 c1) := cell_of_row _ _ 2 _ _ _ ((HK10.out.1 _ (Nat.le_refl _)).trans HR8.out.found); have x3 : w10.cell? ⟨H + 1, 3, none⟩ = some (.slice a2 n2 c2) := cell_of_row _ _ 3 _ _ _ ((HK10.out.1 _ (Nat.le_refl _)).trans HR8.out.found); have v2 := frozen_of_row _ _ 2 _ _ ((HK10.out.1 _ (Nat.le_refl _)).trans HR8.out.found); have v3 := frozen_of_row _ _ 3 _ _ ((HK10.out.1 _ (Nat.le_refl _)).trans HR8.out.found); have hF10 := HK10.out.2.2; clear hown10 hgr10 hor10 hlt10))
            all_goals
              have HN9 := Lib.hid (show RInv w z H (H + 1) (k + 1) _ _ _ _ from HR8.out.set HK10.out (by rw [nsK_succ z k, dsK_succ z k]; exact HG10.out))
              go_wp2
              go_roundw
              case rel => exact ⟨k + 1, _, _, _, by have := HKk.out.1; omega, by go_num, Lib.hid (fun j hj => by
                rcases Nat.lt_succ_iff_lt_or_eq.1 hj with h | rfl
                · exact HG.out j h
                · rw [goodR_in HLen.out]; exact HO.out), HN9⟩
              case measure => have := HKk.out.1; simp [intOf]; omega
          · have HO := Lib.hid (show rOk (bK z 2).2.1 (rAt z k) = false by simpa using hok)
            clear hok
            have HE := Lib.hid (allR_no (z := z) k HKk.out.1 (by rw [goodR_in HLen.out]; exact HO.out))
            go_upto_region 11 with (fail)
            go_region_law (first
              | (go_simp; go_at_call 69; refine (readRecord_no (bK z 2).2.1 ap cp (rAt z k) _ HBd.out.1.1 HBd.out.1.2 (by exact HP.out) (by exact HPl.out) HPn.out HPc.out HO.out).mono ?_; rintro e w8 ⟨rfl, hb8⟩; have hb9 : Below wr.heap.size wr w8 := ⟨hb8.os, hb8.tape, hb8.output, hb8.size, hb8.block⟩; have HB8 := Lib.hid hb9; clear hb8 hb9))
            have HR8 := Lib.hid (HR.out.later HB8.out)
            have u0 := cell_of_row _ _ 0 _ _ _ HR8.out.box
            have u1 := cell_of_row _ _ 1 _ _ _ HR8.out.box
            have u2 := cell_of_row _ _ 2 _ _ _ HR8.out.box
            have u3 := cell_of_row _ _ 3 _ _ _ HR8.out.box
            simp only [foundX, List.getElem?_toArray, List.getElem?_cons_zero, List.getElem?_cons_succ] at u0 u1 u2 u3
            have y0 := frozen_of_row _ _ 0 _ _ HR8.out.box
            have y1 := frozen_of_row _ _ 1 _ _ HR8.out.box
            have y2 := frozen_of_row _ _ 2 _ _ HR8.out.box
            have y3 := frozen_of_row _ _ 3 _ _ HR8.out.box
            clear q0 hsl hw hAl
            go_wp2
            refine bodyPost_ret (v := .tuple #[found0, .bool false]) (by simp [results, Try.results13, go_sem, found0, u0, u1, u2, u3]) rfl ⟨⟨found0, by rw [HE.out], found_none _ _ HE.out⟩, ?_⟩
            repeat (first | exact HR8.out.bel | (refine Below.setCell ?_ (by simp) _))
        · have hAl : (len : Int) - (A : Int) < 576 := by omega
          have HE := Lib.hid (allR_no (z := z) k hlt (goodR_out (by rw [HL.out]; have := HA.out; omega)))
          have u0 := cell_of_row _ _ 0 _ _ _ HR.out.box
          have u1 := cell_of_row _ _ 1 _ _ _ HR.out.box
          have u2 := cell_of_row _ _ 2 _ _ _ HR.out.box
          have u3 := cell_of_row _ _ 3 _ _ _ HR.out.box
          simp only [foundX, List.getElem?_toArray, List.getElem?_cons_zero, List.getElem?_cons_succ] at u0 u1 u2 u3
          have y0 := frozen_of_row _ _ 0 _ _ HR.out.box
          have y1 := frozen_of_row _ _ 1 _ _ HR.out.box
          have y2 := frozen_of_row _ _ 2 _ _ HR.out.box
          have y3 := frozen_of_row _ _ 3 _ _ HR.out.box
          clear hlen
          go_wp2
          refine bodyPost_ret (v := .tuple #[found0, .bool false]) (by simp [results, Try.results13, go_sem, found0, u0, u1, u2, u3]) rfl ⟨⟨found0, by rw [HE.out], found_none _ _ HE.out⟩, ?_⟩
          repeat (first | exact HR.out.bel | (refine Below.setCell ?_ (by simp) _))
      · have HE := Lib.hid (allR_yes HV.out k (by omega) HG.out)
        have HK := Lib.hid (show (bK z 2).2.2.2.toNat = k by omega)
        have t0 := cell_of_row _ _ 0 _ _ _ HR.out.found
        have t1 := cell_of_row _ _ 1 _ _ _ HR.out.found
        have t2 := cell_of_row _ _ 2 _ _ _ HR.out.found
        have t3 := cell_of_row _ _ 3 _ _ _ HR.out.found
        have u0 := cell_of_row _ _ 0 _ _ _ HR.out.box
        have u1 := cell_of_row _ _ 1 _ _ _ HR.out.box
        have u2 := cell_of_row _ _ 2 _ _ _ HR.out.box
        have u3 := cell_of_row _ _ 3 _ _ _ HR.out.box
        simp only [foundX, List.getElem?_toArray, List.getElem?_cons_zero, List.getElem?_cons_succ] at t0 t1 t2 t3 u0 u1 u2 u3
        have y0 := frozen_of_row _ _ 0 _ _ HR.out.box
        have y1 := frozen_of_row _ _ 1 _ _ HR.out.box
        have y2 := frozen_of_row _ _ 2 _ _ HR.out.box
        have y3 := frozen_of_row _ _ 3 _ _ HR.out.box
        go_wp2
        refine bodyPost_ret (v := .tuple #[.agg (foundX (bK z 2).2.1 (bK z 2).2.2.1 (.slice a1 n1 c1) (.slice a2 n2 c2)), .bool true]) (by simp [results, Try.results13, go_sem, foundX, t0, t1, t2, t3, u0, u1, u2, u3]) rfl ⟨⟨.agg (foundX (bK z 2).2.1 (bK z 2).2.2.1 (.slice a1 n1 c1) (.slice a2 n2 c2)), by rw [HE.out], ?_⟩, ?_⟩
        · unfold tS tP tN tD
          rw [HE.out, HK.out]
          simp only [if_true]
          refine Got.found (F := H + 1) (xs := xs) ?_ (by have := HR.out.lt; omega)
          have hle : w.heap.size ≤ H + 1 := by have := HR.out.lt; omega
          exact (((HR.out.got.setK hle 0 _).setK hle 1 _).setK hle 2 _).setK hle 3 _
        · repeat (first | exact HR.out.bel | (refine Below.setCell ?_ (by simp) _))
end Go.Proofs.Ytbcjhngpcodaoaa
