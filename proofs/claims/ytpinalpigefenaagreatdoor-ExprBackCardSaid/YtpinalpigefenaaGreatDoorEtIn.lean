/- Small contracts beneath an expression's shape: the document's in, the program's binaryLevel and aggregate. -/
import Derived.Test.YtpinalpigefenaaGreatDoorLxPure
import Derived.Test.YtpinalpigefenaaGreatDoorProg
import Derived.Test.YtpinalpigefenaaGreatDoorAggIn
import Derived.Deep.Upon
import Derived.Deep.AppendSrc
import Derived.Laws.IdiomCopy
import Derived.Deep.DeepCutAuto
namespace Go.Proofs.YtpinalpigefenaaGreatDoor
open Go.RowKit
set_option linter.unusedVariables false
set_option linter.unusedSimpArgs false
set_option maxRecDepth 100000

mutual
def memN : ET → Int → Int
  | .mk _ _ _ _ _ _ _ ps, most => memL ps most 1
def memL : List ET → Int → Int → Int
  | [], _, n => n
  | p :: ps, most, n => if most < n then n else memL ps most (n + memN p (most - n))
end
mutual
def etSz : ET → Nat
  | .mk _ _ _ _ _ _ _ ps => 1 + elSz ps
def elSz : List ET → Nat
  | [] => 0
  | p :: ps => etSz p + elSz ps
end
theorem memN_is (e : ET) (m : Int) : memN e m = memL e.parts m 1 := by cases e; rfl
theorem etSz_is (e : ET) : etSz e = 1 + elSz e.parts := by cases e; rfl
theorem elSz_mem {p : ET} : ∀ {l : List ET}, p ∈ l → etSz p ≤ elSz l
  | q :: l, h => by
    show _ ≤ etSz q + elSz l
    rcases List.mem_cons.1 h with rfl | h
    · omega
    · have := elSz_mem h; omega
theorem etSz_part {e p : ET} (h : p ∈ e.parts) : etSz p < etSz e := by
  rw [etSz_is e]
  have := elSz_mem h
  omega
theorem memN_b : ∀ (N : Nat) (e : ET) (m : Int), etSz e ≤ N → 1 ≤ memN e m ∧ memN e m ≤ max (m + 1) 1 := by
  intro N
  induction N with
  | zero => intro e m h; rw [etSz_is] at h; omega
  | succ N ih =>
    intro e m h
    rw [memN_is]
    have key : ∀ (l : List ET), (∀ p ∈ l, etSz p ≤ N) → ∀ n, 1 ≤ n → n ≤ memL l m n ∧ memL l m n ≤ max (m + 1) n := by
      intro l
      induction l with
      | nil => intro _ n hn; exact ⟨Int.le_refl _, by show n ≤ _; omega⟩
      | cons p l il =>
        intro hp n hn
        show n ≤ (if m < n then n else memL l m (n + memN p (m - n))) ∧ (if m < n then n else memL l m (n + memN p (m - n))) ≤ _
        by_cases hmn : m < n
        · rw [if_pos hmn]; omega
        · rw [if_neg hmn]
          obtain ⟨q1, q2⟩ := ih p (m - n) (hp p List.mem_cons_self)
          obtain ⟨r1, r2⟩ := il (fun x hx => hp x (List.mem_cons_of_mem _ hx)) (n + memN p (m - n)) (by omega)
          omega
    refine key e.parts (fun p hp => ?_) 1 (by omega)
    have := etSz_part hp
    omega
theorem memL_ge : ∀ (l : List ET) (m n : Int), 1 ≤ n → n ≤ memL l m n
  | [], m, n, _ => Int.le_refl _
  | p :: l, m, n, hn => by
    show n ≤ (if m < n then n else memL l m (n + memN p (m - n)))
    by_cases hmn : m < n
    · rw [if_pos hmn]; omega
    · rw [if_neg hmn]
      have q := (memN_b (etSz p) p (m - n) (Nat.le_refl _)).1
      have := memL_ge l m (n + memN p (m - n)) (by omega)
      omega
theorem memN_sz : ∀ (N : Nat) (e : ET) (m : Int), etSz e ≤ N → memN e m ≤ m → memN e m = etSz e := by
  intro N
  induction N with
  | zero => intro e m h; rw [etSz_is] at h; omega
  | succ N ih =>
    intro e m h
    rw [memN_is, etSz_is]
    have key : ∀ (l : List ET), (∀ p ∈ l, etSz p ≤ N) → ∀ n, 1 ≤ n → memL l m n ≤ m → memL l m n = n + (elSz l : Int) := by
      intro l
      induction l with
      | nil => intro _ n hn _; show n = n + ((0 : Nat) : Int); omega
      | cons p l il =>
        intro hp n hn
        show (if m < n then n else memL l m (n + memN p (m - n))) ≤ m → (if m < n then n else memL l m (n + memN p (m - n))) = n + ((etSz p + elSz l : Nat) : Int)
        by_cases hmn : m < n
        · rw [if_pos hmn]; omega
        · rw [if_neg hmn]
          intro hle
          have q1 := (memN_b N p (m - n) (hp p List.mem_cons_self)).1
          have q2 := memL_ge l m (n + memN p (m - n)) (by omega)
          have q3 := ih p (m - n) (hp p List.mem_cons_self) (by omega)
          rw [il (fun x hx => hp x (List.mem_cons_of_mem _ hx)) _ (by omega) hle, q3]
          omega
    intro hle
    have := key e.parts (fun p hp => by have := etSz_part hp; omega) 1 (by omega) hle
    omega
def smallB (e : ET) : Bool := decide (memN e 300 ≤ 300)
theorem small_sz {e : ET} (h : smallB e = true) : etSz e ≤ 300 := by
  have h := of_decide_eq_true h
  have := memN_sz (etSz e) e 300 (Nat.le_refl _) h
  omega
theorem memL_drop {l : List ET} {k : Nat} (h : k < l.length) (m n : Int) : memL (l.drop k) m n = if m < n then n else memL (l.drop (k + 1)) m (n + memN (l[k]) (m - n)) := by
  rw [List.drop_eq_getElem_cons h]
  rfl
set_option maxHeartbeats 3200000 in
theorem members_any : ∀ (N : Nat) (e : ET), etSz e ≤ N → ∀ (w : World) (Q : Nat → Prop) (v : Value) (m : Int), 0 ≤ m → m ≤ 300 → EV w Q v e →
    Calls Tryz.prog 36 #[v, .int .i64 m] w fun e' w' => e' = .returned (.int .i64 (memN e m)) ∧ Below w.heap.size w w' := by
  intro N
  induction N with
  | zero => intro e h; rw [etSz_is] at h; omega
  | succ N ih =>
    intro e hN w Q v m hm0 hm1 hv
    obtain ⟨sa, sc, rfl, hrg, hel⟩ := hv
    have HN := Lib.hid hN
    have HR := Lib.hid hrg
    have HE := Lib.hid hel
    have HIH := Lib.hid ih
    have hlen : e.parts.length ≤ 9223372036854775807 := by have := hrg.le; have := hrg.cap; unfold maxLen at this; omega
    have HMN := Lib.hid (memN_is e m)
    obtain ⟨n, hn⟩ : ∃ n, n = e.parts.length := ⟨_, rfl⟩
    have HNl := Lib.hid hn
    have e0 : (etX e sa sc).toArray = #[.int .i64 e.kind, .string e.op, .int .i64 e.vk, .int .i64 e.vn, .string e.vs, .string e.tab, .string e.col, .slice sa n sc] := by rw [hn]; rfl
    rw [e0]
    rw [← hn] at hlen
    have HB0 := Lib.hid (show Below w.heap.size w (w.alloc (.cells #[.int .i64 e.kind, .string e.op, .int .i64 e.vk, .int .i64 e.vn, .string e.vs, .string e.tab, .string e.col, .slice sa n sc] 26)) from bel0 _ (Below.refl _ _))
    have hb : (w.alloc (.cells #[.int .i64 e.kind, .string e.op, .int .i64 e.vk, .int .i64 e.vn, .string e.vs, .string e.tab, .string e.col, .slice sa n sc] 26)).heap[w.heap.size]? = some (.cells #[.int .i64 e.kind, .string e.op, .int .i64 e.vk, .int .i64 e.vn, .string e.vs, .string e.tab, .string e.col, .slice sa n sc] 26 (0, 0)) := Go.heap_alloc_new w _
    have HBx := Lib.hid hb
    have HW1 := Lib.hid (show (w.alloc (.cells #[.int .i64 e.kind, .string e.op, .int .i64 e.vk, .int .i64 e.vn, .string e.vs, .string e.tab, .string e.col, .slice sa n sc] 26)).heap.size = w.heap.size + 1 by simp)
    clear hrg hel ih hn hN e0 hb
    go_enter Tryz.func36, Tryz.ntmps36
    go_upto_region 1 with (fail)
    generalize w.alloc (.cells #[.int .i64 e.kind, .string e.op, .int .i64 e.vk, .int .i64 e.vn, .string e.vs, .string e.tab, .string e.col, .slice sa n sc] 26) = w1 at *
    have c7 := cell_of_row w1 w.heap.size 7 _ _ _ HBx.out
    simp only [List.getElem?_toArray, List.getElem?_cons_zero, List.getElem?_cons_succ] at c7
    go_wp2_with fail
    clear c7
    go_loopw [5, 10] (fun u i wr => ∃ (k : Nat) (x : Int), k ≤ n ∧ i = .int .i64 (k : Int) ∧ u = .int .i64 x ∧ 1 ≤ x ∧ x ≤ 301 ∧ Hid (memL (e.parts.drop k) m x = memN e m ∧ Below w1.heap.size w1 wr)) (fun _ i _ => n - (intOf i).toNat)
    case atStart => exact ⟨0, 1, by omega, rfl, rfl, by omega, by omega, Lib.hid ⟨HMN.out.symm, Below.refl _ _⟩⟩
    case round =>
      obtain ⟨k, x, hk, rfl, rfl, hx1, hx2, HL⟩ := hrel
      have hk0 : (0 : Int) ≤ (k : Int) := by omega
      by_cases hlt : k < n
      · have hki : (k : Int) < (n : Int) := by omega
        have HD := Lib.hid (memL_drop (l := e.parts) (k := k) (by rw [← HNl.out]; exact hlt) m x)
        by_cases hmx : m < x
        · have HEq := Lib.hid (show x = memN e m by have h1 := HL.out.1; rw [HD.out, if_pos hmx] at h1; exact h1)
          have HB := Lib.hid (bt HB0.out (show Below w1.heap.size w1 wr from HL.out.2))
          go_wp2
          go_ret
          rw [← HEq.out]
          exact ⟨rfl, HB.out⟩
        · have hmx' : x ≤ m := by omega
          obtain ⟨b, off, pa, pc, hsa, hbl, hat, hprg, hpl⟩ := HE.out.at (i := k) (by rw [← HNl.out]; exact hlt)
          subst hsa
          have HBw := Lib.hid (bt HB0.out (show Below w1.heap.size w1 wr from HL.out.2))
          have hat2 := hat.below hbl HBw.out
          have g7 := (HL.out.2.cell (p := ⟨w.heap.size, 7, none⟩) (by rw [HW1.out]; show w.heap.size < _; omega)).trans (cell_of_row w1 w.heap.size 7 _ _ _ HBx.out)
          simp only [List.getElem?_toArray, List.getElem?_cons_zero, List.getElem?_cons_succ] at g7
          have q0 := hat2.c0
          have q1 := hat2.c1
          have q2 := hat2.c2
          have q3 := hat2.c3
          have q4 := hat2.c4
          have q5 := hat2.c5
          have q6 := hat2.c6
          have q7 := hat2.c7
          have hpm : e.parts[k]'(by rw [← HNl.out]; exact hlt) ∈ e.parts := List.getElem_mem _
          obtain ⟨p, hp⟩ : ∃ p, p = e.parts[k]'(by rw [← HNl.out]; exact hlt) := ⟨_, rfl⟩
          rw [← hp] at q0 q1 q2 q3 q4 q5 q6 q7 hprg hpl hpm HD
          have HSz := Lib.hid (show etSz p ≤ N by have := etSz_part hpm; have := HN.out; omega)
          have HEv := Lib.hid (show EV wr Q (.agg (etX p pa pc).toArray) p from ⟨pa, pc, rfl, hprg, hpl.keep HBw.out⟩)
          have HMb := Lib.hid (memN_b (etSz p) p (m - x) (Nat.le_refl _))
          have HNx := Lib.hid (show memL (e.parts.drop (k + 1)) m (x + memN p (m - x)) = memN e m by have h1 := HL.out.1; rw [HD.out, if_neg hmx] at h1; exact h1)
          have HLt := Lib.hid hlt
          clear hat hat2 hprg hpl hpm hp hlt hk HD hbl
          have hws : wrap64 (m - x) = m - x := by unfold wrap64; omega
          go_wp2_with fail
          refine (HIH.out p HSz.out wr Q _ (m - x) (by omega) (by omega) HEv.out).mono ?_
          rintro e' w3 ⟨rfl, hb3⟩
          have HB3 := Lib.hid (bt (show Below w1.heap.size w1 wr from HL.out.2) hb3)
          obtain ⟨y, hy⟩ : ∃ y, y = memN p (m - x) := ⟨_, rfl⟩
          rw [← hy] at HMb HNx ⊢
          have hy1 : 1 ≤ y := HMb.out.1
          have hy2 : x + y ≤ 301 := by have := HMb.out.2; omega
          clear hb3 hy q0 q1 q2 q3 q4 q5 q6 q7 g7 hws
          go_wp2
          go_roundw
          case rel => exact ⟨k + 1, x + y, HLt.out, by go_num, rfl, by omega, hy2, Lib.hid ⟨HNx.out, HB3.out⟩⟩
          case measure => have := HLt.out; simp [intOf]; omega
      · have hkk : (n : Int) ≤ (k : Int) := by omega
        have HEq := Lib.hid (show x = memN e m by
          have h1 := HL.out.1
          rw [List.drop_of_length_le (by rw [← HNl.out]; omega)] at h1
          exact h1)
        have HB := Lib.hid (bt HB0.out (show Below w1.heap.size w1 wr from HL.out.2))
        go_wp2
        go_ret
        rw [← HEq.out]
        exact ⟨rfl, HB.out⟩
set_option maxHeartbeats 1600000 in
theorem small_any (w : World) (Q : Nat → Prop) (v : Value) (e : ET) (hv : EV w Q v e) : Calls Tryz.prog 10 #[v] w fun e' w' => e' = .returned (.bool (smallB e)) ∧ Below w.heap.size w w' := by
  obtain ⟨sa, sc, rfl, hrg, hel⟩ := hv
  have e0 : (etX e sa sc).toArray = #[.int .i64 e.kind, .string e.op, .int .i64 e.vk, .int .i64 e.vn, .string e.vs, .string e.tab, .string e.col, .slice sa e.parts.length sc] := rfl
  rw [e0]
  have HB0 := Lib.hid (show Below w.heap.size w (w.alloc (.cells #[.int .i64 e.kind, .string e.op, .int .i64 e.vk, .int .i64 e.vn, .string e.vs, .string e.tab, .string e.col, .slice sa e.parts.length sc] 26)) from bel0 _ (Below.refl _ _))
  have HEv := Lib.hid (show EV (w.alloc (.cells #[.int .i64 e.kind, .string e.op, .int .i64 e.vk, .int .i64 e.vn, .string e.vs, .string e.tab, .string e.col, .slice sa e.parts.length sc] 26)) Q (.agg (etX e sa sc).toArray) e from ⟨sa, sc, rfl, hrg, hel.keep HB0.out⟩)
  have HMb := Lib.hid (memN_b (etSz e) e 300 (Nat.le_refl _))
  unfold smallB
  obtain ⟨y, hy⟩ : ∃ y, y = memN e 300 := ⟨_, rfl⟩
  have HY := Lib.hid hy
  rw [← hy]
  clear hrg hel e0 hy
  by_cases hle : y ≤ 300
  · have hd : decide (y ≤ 300) = true := decide_eq_true hle
    rw [hd]
    go_enter Tryz.func10, Tryz.ntmps10
    go_wp2_with fail
    refine (members_any (etSz e) e (Nat.le_refl _) _ Q _ 300 (by omega) (by omega) HEv.out).mono ?_
    rintro e' w3 ⟨rfl, hb3⟩
    have HB := Lib.hid (bt HB0.out hb3)
    rw [← HY.out]
    clear hb3
    go_wp2
    go_ret
    exact ⟨rfl, HB.out⟩
  · have hd : decide (y ≤ 300) = false := decide_eq_false hle
    have hgt : 300 < y := by omega
    rw [hd]
    go_enter Tryz.func10, Tryz.ntmps10
    go_wp2_with fail
    refine (members_any (etSz e) e (Nat.le_refl _) _ Q _ 300 (by omega) (by omega) HEv.out).mono ?_
    rintro e' w3 ⟨rfl, hb3⟩
    have HB := Lib.hid (bt HB0.out hb3)
    rw [← HY.out]
    clear hb3
    go_wp2
    go_ret
    exact ⟨rfl, HB.out⟩
end Go.Proofs.YtpinalpigefenaaGreatDoor
namespace Go.Proofs.YtpinalpigefenaaGreatDoor
open Go.RowKit
set_option linter.unusedVariables false
set_option linter.unusedSimpArgs false
set_option maxRecDepth 100000

def inB (s : ByteArray) : List ByteArray → Bool
  | [] => false
  | x :: l => if (x.toList == s.toList) = true then true else inB s l
def levelB (s : ByteArray) : Int :=
  if (s.toList == [79, 82]) = true then 1 else if (s.toList == [65, 78, 68]) = true then 2 else if (s.toList == [61]) = true then 4 else if (s.toList == [60, 62]) = true then 4 else if (s.toList == [60]) = true then 4 else if (s.toList == [60, 61]) = true then 4 else if (s.toList == [62]) = true then 4 else if (s.toList == [62, 61]) = true then 4 else if (s.toList == [43]) = true then 5 else if (s.toList == [45]) = true then 5 else if (s.toList == [42]) = true then 6 else 0
def aggrB (s : ByteArray) : Bool :=
  if (s.toList == [67, 79, 85, 78, 84]) = true then true else if (s.toList == [83, 85, 77]) = true then true else if (s.toList == [77, 73, 78]) = true then true else if (s.toList == [77, 65, 88]) = true then true else false
set_option maxHeartbeats 6400000 in
theorem level_any (w : World) (s : ByteArray) : Calls Tryz.prog 168 #[.string s] w fun e w' => e = .returned (.int .i64 (levelB s)) ∧ Below w.heap.size w w' := by
  by_cases h0 : (s.toList == [79, 82]) = true
  · have HF := Lib.hid (show levelB s = 1 by unfold levelB; rw [if_pos h0])
    go_enter Tryz.func168, Tryz.ntmps168
    go_wp2
    go_ret
    rw [HF.out]
    exact ⟨rfl, Below.refl _ _⟩
  by_cases h1 : (s.toList == [65, 78, 68]) = true
  · have HF := Lib.hid (show levelB s = 2 by unfold levelB; rw [if_neg h0, if_pos h1])
    rw [Bool.not_eq_true] at h0
    go_enter Tryz.func168, Tryz.ntmps168
    go_wp2
    go_ret
    rw [HF.out]
    exact ⟨rfl, Below.refl _ _⟩
  by_cases h2 : (s.toList == [61]) = true
  · have HF := Lib.hid (show levelB s = 4 by unfold levelB; rw [if_neg h0, if_neg h1, if_pos h2])
    rw [Bool.not_eq_true] at h0
    rw [Bool.not_eq_true] at h1
    go_enter Tryz.func168, Tryz.ntmps168
    go_wp2
    go_ret
    rw [HF.out]
    exact ⟨rfl, Below.refl _ _⟩
  by_cases h3 : (s.toList == [60, 62]) = true
  · have HF := Lib.hid (show levelB s = 4 by unfold levelB; rw [if_neg h0, if_neg h1, if_neg h2, if_pos h3])
    rw [Bool.not_eq_true] at h0
    rw [Bool.not_eq_true] at h1
    rw [Bool.not_eq_true] at h2
    go_enter Tryz.func168, Tryz.ntmps168
    go_wp2
    go_ret
    rw [HF.out]
    exact ⟨rfl, Below.refl _ _⟩
  by_cases h4 : (s.toList == [60]) = true
  · have HF := Lib.hid (show levelB s = 4 by unfold levelB; rw [if_neg h0, if_neg h1, if_neg h2, if_neg h3, if_pos h4])
    rw [Bool.not_eq_true] at h0
    rw [Bool.not_eq_true] at h1
    rw [Bool.not_eq_true] at h2
    rw [Bool.not_eq_true] at h3
    go_enter Tryz.func168, Tryz.ntmps168
    go_wp2
    go_ret
    rw [HF.out]
    exact ⟨rfl, Below.refl _ _⟩
  by_cases h5 : (s.toList == [60, 61]) = true
  · have HF := Lib.hid (show levelB s = 4 by unfold levelB; rw [if_neg h0, if_neg h1, if_neg h2, if_neg h3, if_neg h4, if_pos h5])
    rw [Bool.not_eq_true] at h0
    rw [Bool.not_eq_true] at h1
    rw [Bool.not_eq_true] at h2
    rw [Bool.not_eq_true] at h3
    rw [Bool.not_eq_true] at h4
    go_enter Tryz.func168, Tryz.ntmps168
    go_wp2
    go_ret
    rw [HF.out]
    exact ⟨rfl, Below.refl _ _⟩
  by_cases h6 : (s.toList == [62]) = true
  · have HF := Lib.hid (show levelB s = 4 by unfold levelB; rw [if_neg h0, if_neg h1, if_neg h2, if_neg h3, if_neg h4, if_neg h5, if_pos h6])
    rw [Bool.not_eq_true] at h0
    rw [Bool.not_eq_true] at h1
    rw [Bool.not_eq_true] at h2
    rw [Bool.not_eq_true] at h3
    rw [Bool.not_eq_true] at h4
    rw [Bool.not_eq_true] at h5
    go_enter Tryz.func168, Tryz.ntmps168
    go_wp2
    go_ret
    rw [HF.out]
    exact ⟨rfl, Below.refl _ _⟩
  by_cases h7 : (s.toList == [62, 61]) = true
  · have HF := Lib.hid (show levelB s = 4 by unfold levelB; rw [if_neg h0, if_neg h1, if_neg h2, if_neg h3, if_neg h4, if_neg h5, if_neg h6, if_pos h7])
    rw [Bool.not_eq_true] at h0
    rw [Bool.not_eq_true] at h1
    rw [Bool.not_eq_true] at h2
    rw [Bool.not_eq_true] at h3
    rw [Bool.not_eq_true] at h4
    rw [Bool.not_eq_true] at h5
    rw [Bool.not_eq_true] at h6
    go_enter Tryz.func168, Tryz.ntmps168
    go_wp2
    go_ret
    rw [HF.out]
    exact ⟨rfl, Below.refl _ _⟩
  by_cases h8 : (s.toList == [43]) = true
  · have HF := Lib.hid (show levelB s = 5 by unfold levelB; rw [if_neg h0, if_neg h1, if_neg h2, if_neg h3, if_neg h4, if_neg h5, if_neg h6, if_neg h7, if_pos h8])
    rw [Bool.not_eq_true] at h0
    rw [Bool.not_eq_true] at h1
    rw [Bool.not_eq_true] at h2
    rw [Bool.not_eq_true] at h3
    rw [Bool.not_eq_true] at h4
    rw [Bool.not_eq_true] at h5
    rw [Bool.not_eq_true] at h6
    rw [Bool.not_eq_true] at h7
    go_enter Tryz.func168, Tryz.ntmps168
    go_wp2
    go_ret
    rw [HF.out]
    exact ⟨rfl, Below.refl _ _⟩
  by_cases h9 : (s.toList == [45]) = true
  · have HF := Lib.hid (show levelB s = 5 by unfold levelB; rw [if_neg h0, if_neg h1, if_neg h2, if_neg h3, if_neg h4, if_neg h5, if_neg h6, if_neg h7, if_neg h8, if_pos h9])
    rw [Bool.not_eq_true] at h0
    rw [Bool.not_eq_true] at h1
    rw [Bool.not_eq_true] at h2
    rw [Bool.not_eq_true] at h3
    rw [Bool.not_eq_true] at h4
    rw [Bool.not_eq_true] at h5
    rw [Bool.not_eq_true] at h6
    rw [Bool.not_eq_true] at h7
    rw [Bool.not_eq_true] at h8
    go_enter Tryz.func168, Tryz.ntmps168
    go_wp2
    go_ret
    rw [HF.out]
    exact ⟨rfl, Below.refl _ _⟩
  by_cases h10 : (s.toList == [42]) = true
  · have HF := Lib.hid (show levelB s = 6 by unfold levelB; rw [if_neg h0, if_neg h1, if_neg h2, if_neg h3, if_neg h4, if_neg h5, if_neg h6, if_neg h7, if_neg h8, if_neg h9, if_pos h10])
    rw [Bool.not_eq_true] at h0
    rw [Bool.not_eq_true] at h1
    rw [Bool.not_eq_true] at h2
    rw [Bool.not_eq_true] at h3
    rw [Bool.not_eq_true] at h4
    rw [Bool.not_eq_true] at h5
    rw [Bool.not_eq_true] at h6
    rw [Bool.not_eq_true] at h7
    rw [Bool.not_eq_true] at h8
    rw [Bool.not_eq_true] at h9
    go_enter Tryz.func168, Tryz.ntmps168
    go_wp2
    go_ret
    rw [HF.out]
    exact ⟨rfl, Below.refl _ _⟩
  have HF := Lib.hid (show levelB s = 0 by unfold levelB; rw [if_neg h0, if_neg h1, if_neg h2, if_neg h3, if_neg h4, if_neg h5, if_neg h6, if_neg h7, if_neg h8, if_neg h9, if_neg h10])
  rw [Bool.not_eq_true] at h0
  rw [Bool.not_eq_true] at h1
  rw [Bool.not_eq_true] at h2
  rw [Bool.not_eq_true] at h3
  rw [Bool.not_eq_true] at h4
  rw [Bool.not_eq_true] at h5
  rw [Bool.not_eq_true] at h6
  rw [Bool.not_eq_true] at h7
  rw [Bool.not_eq_true] at h8
  rw [Bool.not_eq_true] at h9
  rw [Bool.not_eq_true] at h10
  go_enter Tryz.func168, Tryz.ntmps168
  go_wp2
  go_ret
  rw [HF.out]
  exact ⟨rfl, Below.refl _ _⟩
set_option maxHeartbeats 6400000 in
theorem aggr_any (w : World) (s : ByteArray) : Calls Tryz.prog 260 #[.string s] w fun e w' => e = .returned (.bool (aggrB s)) ∧ Below w.heap.size w w' := by
  by_cases h0 : (s.toList == [67, 79, 85, 78, 84]) = true
  · have HF := Lib.hid (show aggrB s = true by unfold aggrB; rw [if_pos h0])
    go_enter Tryz.func260, Tryz.ntmps260
    go_wp2
    go_ret
    rw [HF.out]
    exact ⟨rfl, Below.refl _ _⟩
  by_cases h1 : (s.toList == [83, 85, 77]) = true
  · have HF := Lib.hid (show aggrB s = true by unfold aggrB; rw [if_neg h0, if_pos h1])
    rw [Bool.not_eq_true] at h0
    go_enter Tryz.func260, Tryz.ntmps260
    go_wp2
    go_ret
    rw [HF.out]
    exact ⟨rfl, Below.refl _ _⟩
  by_cases h2 : (s.toList == [77, 73, 78]) = true
  · have HF := Lib.hid (show aggrB s = true by unfold aggrB; rw [if_neg h0, if_neg h1, if_pos h2])
    rw [Bool.not_eq_true] at h0
    rw [Bool.not_eq_true] at h1
    go_enter Tryz.func260, Tryz.ntmps260
    go_wp2
    go_ret
    rw [HF.out]
    exact ⟨rfl, Below.refl _ _⟩
  by_cases h3 : (s.toList == [77, 65, 88]) = true
  · have HF := Lib.hid (show aggrB s = true by unfold aggrB; rw [if_neg h0, if_neg h1, if_neg h2, if_pos h3])
    rw [Bool.not_eq_true] at h0
    rw [Bool.not_eq_true] at h1
    rw [Bool.not_eq_true] at h2
    go_enter Tryz.func260, Tryz.ntmps260
    go_wp2
    go_ret
    rw [HF.out]
    exact ⟨rfl, Below.refl _ _⟩
  have HF := Lib.hid (show aggrB s = false by unfold aggrB; rw [if_neg h0, if_neg h1, if_neg h2, if_neg h3])
  rw [Bool.not_eq_true] at h0
  rw [Bool.not_eq_true] at h1
  rw [Bool.not_eq_true] at h2
  rw [Bool.not_eq_true] at h3
  go_enter Tryz.func260, Tryz.ntmps260
  go_wp2
  go_ret
  rw [HF.out]
  exact ⟨rfl, Below.refl _ _⟩
end Go.Proofs.YtpinalpigefenaaGreatDoor
