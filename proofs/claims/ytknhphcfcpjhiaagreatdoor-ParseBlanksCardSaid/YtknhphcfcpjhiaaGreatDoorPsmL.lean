/- parse.sameList. -/
import Derived.Test.YtknhphcfcpjhiaaGreatDoorTkAgg
import Derived.Test.YtknhphcfcpjhiaaGreatDoorVRecPure
import Derived.Test.YtknhphcfcpjhiaaGreatDoorPsQ
namespace Go.Proofs.YtknhphcfcpjhiaaGreatDoor
open Go.RowKit
set_option linter.unusedVariables false
set_option linter.unusedSimpArgs false
set_option maxRecDepth 100000
theorem cells8E {w : World} {N : Nat} {T : TypeId} {a0 a1 a2 a3 a4 a5 a6 a7 : Value} (h : w.heap[N]? = some (.cells #[a0, a1, a2, a3, a4, a5, a6, a7] T (0, 0))) : w.cell? ⟨N, 0, none⟩ = some a0 ∧ w.cell? ⟨N, 1, none⟩ = some a1 ∧ w.cell? ⟨N, 2, none⟩ = some a2 ∧ w.cell? ⟨N, 3, none⟩ = some a3 ∧ w.cell? ⟨N, 4, none⟩ = some a4 ∧ w.cell? ⟨N, 5, none⟩ = some a5 ∧ w.cell? ⟨N, 6, none⟩ = some a6 ∧ w.cell? ⟨N, 7, none⟩ = some a7 :=
  ⟨cell_of_row _ _ 0 _ _ _ h, cell_of_row _ _ 1 _ _ _ h, cell_of_row _ _ 2 _ _ _ h, cell_of_row _ _ 3 _ _ _ h, cell_of_row _ _ 4 _ _ _ h, cell_of_row _ _ 5 _ _ _ h, cell_of_row _ _ 6 _ _ _ h, cell_of_row _ _ 7 _ _ _ h⟩
def headE (a b : ET) : Bool := (a.kind == b.kind) && ((a.op.toList == b.op.toList) && ((a.vk == b.vk) && ((a.vn == b.vn) && ((a.vs.toList == b.vs.toList) && ((a.tab.toList == b.tab.toList) && (a.col.toList == b.col.toList))))))
mutual
def sameE : ET → ET → Bool
  | .mk k o vk vn vs s c ps, b => headE (.mk k o vk vn vs s c []) b && sameEL ps b.parts
def sameEL : List ET → List ET → Bool
  | [], m => m.isEmpty
  | a :: l, m => match m with
    | [] => false
    | b :: m => sameE a b && sameEL l m
end
theorem sameE_is (a b : ET) : sameE a b = (headE a b && sameEL a.parts b.parts) := by cases a; rfl
theorem sameEL_len : ∀ (l m : List ET), l.length ≠ m.length → sameEL l m = false
  | [], [], h => (h rfl).elim
  | [], b :: m, _ => rfl
  | a :: l, [], _ => rfl
  | a :: l, b :: m, h => by
    show (sameE a b && sameEL l m) = false
    rw [sameEL_len l m (fun e => h (by rw [List.length_cons, List.length_cons, e])), Bool.and_false]
theorem sameEL_drop {l m : List ET} {k : Nat} (h : k < l.length) (h' : k < m.length) : sameEL (l.drop k) (m.drop k) = (sameE (l[k]) (m[k]) && sameEL (l.drop (k + 1)) (m.drop (k + 1))) := by
  rw [List.drop_eq_getElem_cons h, List.drop_eq_getElem_cons h']
  rfl
theorem sameEL_end {l m : List ET} (h : l.length = m.length) : sameEL (l.drop l.length) (m.drop l.length) = true := by
  rw [List.drop_length, h, List.drop_length]
  rfl
theorem headE_refl (a : ET) : headE a a = true := by unfold headE; simp
theorem sameE_refl : ∀ (N : Nat) (a : ET), etSz a ≤ N → sameE a a = true := by
  intro N
  induction N with
  | zero => intro a h; rw [etSz_is] at h; omega
  | succ N ih =>
    intro a h
    rw [sameE_is, headE_refl, Bool.true_and]
    have key : ∀ l : List ET, (∀ p ∈ l, etSz p ≤ N) → sameEL l l = true := by
      intro l
      induction l with
      | nil => intro _; rfl
      | cons p l il =>
        intro hp
        show (sameE p p && sameEL l l) = true
        rw [ih p (hp p List.mem_cons_self), il (fun x hx => hp x (List.mem_cons_of_mem _ hx))]
        rfl
    exact key _ (fun p hp => by have := etSz_part hp; omega)
set_option maxHeartbeats 3200000 in
theorem equalE_any (N : Nat) (ih : ∀ (a : ET), etSz a ≤ N → ∀ (b : ET) (w : World) (Q Q' : Nat → Prop) (v v' : Value), EV w Q v a → EV w Q' v' b → Calls Tryz.prog 76 #[v, v'] w fun e' w' => e' = .returned (.bool (sameE a b)) ∧ Below w.heap.size w w')
    (l m : List ET) (hl : ∀ p ∈ l, etSz p ≤ N) (w : World) (Q Q' : Nat → Prop) (sa sa' : Option Addr) (n c n' c' : Nat) (hn : n = l.length) (hm : n' = m.length) (hle : n ≤ 9223372036854775807) (hle' : n' ≤ 9223372036854775807) (hE : EL w Q sa l) (hE' : EL w Q' sa' m) :
    Calls Tryz.prog 75 #[.slice sa n c, .slice sa' n' c', .func (Fn.func 76) #[] #[]] w fun e' w' => e' = .returned (.bool (sameEL l m)) ∧ Below w.heap.size w w' := by
  have HIH := Lib.hid ih
  have HSz := Lib.hid hl
  have HE := Lib.hid hE
  have HE' := Lib.hid hE'
  have HNl := Lib.hid hn
  have HMl := Lib.hid hm
  clear ih hl hE hE'
  by_cases hnm : n = n'
  · have HNm := Lib.hid hnm
    subst hnm
    have H0 := Lib.hid (show sameEL (l.drop 0) (m.drop 0) = sameEL l m from rfl)
    clear hn hm
    go_enter Tryz.func75, Tryz.ntmps75
    go_wp2_with fail
    go_loopw [17] (fun i wr => ∃ (k : Nat), k ≤ n ∧ i = .int .i64 (k : Int) ∧ Hid (sameEL (l.drop k) (m.drop k) = sameEL l m ∧ Below w.heap.size w wr)) (fun i _ => n - (intOf i).toNat)
    case atStart => exact ⟨0, by omega, rfl, Lib.hid ⟨H0.out, Below.refl _ _⟩⟩
    case round =>
      obtain ⟨k, hk, rfl, HL⟩ := hrel
      have hk0 : (0 : Int) ≤ (k : Int) := by omega
      by_cases hlt : k < n
      · have hki : (k : Int) < (n : Int) := by omega
        have hkp : k < l.length := by rw [← HNl.out]; exact hlt
        have hkq : k < m.length := by rw [← HMl.out]; exact hlt
        obtain ⟨g, off, pa, pc, hsa, hgl, hat, hprg, hpl⟩ := HE.out.at (i := k) hkp
        obtain ⟨g', off', pa', pc', hsa', hgl', hat', hprg', hpl'⟩ := HE'.out.at (i := k) hkq
        subst hsa
        subst hsa'
        have HBw := Lib.hid HL.out.2
        have hat2 := hat.below hgl HBw.out
        have hat2' := hat'.below hgl' HBw.out
        have hgw : g < wr.heap.size := Nat.lt_of_lt_of_le hgl HBw.out.size
        have hgw' : g' < wr.heap.size := Nat.lt_of_lt_of_le hgl' HBw.out.size
        have q0 := hat2.c0
        have q1 := hat2.c1
        have q2 := hat2.c2
        have q3 := hat2.c3
        have q4 := hat2.c4
        have q5 := hat2.c5
        have q6 := hat2.c6
        have q7 := hat2.c7
        have r0 := hat2'.c0
        have r1 := hat2'.c1
        have r2 := hat2'.c2
        have r3 := hat2'.c3
        have r4 := hat2'.c4
        have r5 := hat2'.c5
        have r6 := hat2'.c6
        have r7 := hat2'.c7
        have HD := Lib.hid (sameEL_drop hkp hkq)
        have hpm : l[k] ∈ l := List.getElem_mem _
        obtain ⟨p, hp⟩ : ∃ p, p = l[k] := ⟨_, rfl⟩
        obtain ⟨r, hr⟩ : ∃ r, r = m[k] := ⟨_, rfl⟩
        rw [← hp] at q0 q1 q2 q3 q4 q5 q6 q7 hprg hpl hpm HD
        rw [← hr] at r0 r1 r2 r3 r4 r5 r6 r7 hprg' hpl' HD
        have HCz := Lib.hid (HSz.out p hpm)
        have HEv := Lib.hid (show ∀ W, Below wr.heap.size wr W → EV W Q (.agg #[.int .i64 p.kind, .string p.op, .int .i64 p.vk, .int .i64 p.vn, .string p.vs, .string p.tab, .string p.col, .slice pa p.parts.length pc]) p from fun W hW => ⟨pa, pc, rfl, hprg, hpl.keep (bt HBw.out hW)⟩)
        have HEv' := Lib.hid (show ∀ W, Below wr.heap.size wr W → EV W Q' (.agg #[.int .i64 r.kind, .string r.op, .int .i64 r.vk, .int .i64 r.vn, .string r.vs, .string r.tab, .string r.col, .slice pa' r.parts.length pc']) r from fun W hW => ⟨pa', pc', rfl, hprg', hpl'.keep (bt HBw.out hW)⟩)
        have HLt := Lib.hid hlt
        clear hat hat2 hprg hpl hp hkp hat' hat2' hprg' hpl' hr hkq hlt hk hgl hgl' hpm
        go_wp2_with fail
        refine (HIH.out p HCz.out r _ Q Q' _ _ (HEv.out _ (bel0 _ (bel0 _ (Below.refl _ _)))) (HEv'.out _ (bel0 _ (bel0 _ (Below.refl _ _))))).mono ?_
        rintro e' w3 ⟨rfl, hb3⟩
        have HB3 := Lib.hid (bt HBw.out (bt (bel0 _ (bel0 _ (Below.refl _ _))) hb3))
        clear hb3 q0 q1 q2 q3 q4 q5 q6 q7 r0 r1 r2 r3 r4 r5 r6 r7
        cases hs : sameE p r with
        | false =>
          have HQ := Lib.hid (show sameEL l m = false by rw [← HL.out.1, HD.out, hs]; rfl)
          go_wp2
          go_ret
          rw [HQ.out]
          exact ⟨rfl, HB3.out⟩
        | true =>
          have HQ := Lib.hid (show sameEL (l.drop (k + 1)) (m.drop (k + 1)) = sameEL l m by rw [← HL.out.1, HD.out, hs]; rfl)
          go_wp2
          go_roundw
          case rel => first | exact ⟨k + 1, HLt.out, by go_num, Lib.hid ⟨HQ.out, HB3.out⟩⟩ | exact ⟨_, _, ⟨k + 1, HLt.out, by go_num, Lib.hid ⟨HQ.out, HB3.out⟩⟩, rfl⟩
          case measure => have := HLt.out; simp [intOf]; omega
      · have hkk : ¬ ((k : Int) < (n : Int)) := by omega
        have HQ := Lib.hid (show sameEL l m = true by
          have h1 := HL.out.1
          rw [show k = l.length by rw [← HNl.out]; omega, sameEL_end (by rw [← HNl.out, ← HMl.out])] at h1
          exact h1.symm)
        go_wp2
        go_ret
        rw [HQ.out]
        exact ⟨rfl, HL.out.2⟩
  · have HQ := Lib.hid (show sameEL l m = false from sameEL_len l m (by rw [← hn, ← hm]; exact hnm))
    have hne : ((n : Int) != (n' : Int)) = true := by rw [bne_iff_ne]; omega
    have hne2 : ¬ ((n : Int) = (n' : Int)) := by omega
    clear hn hm
    go_enter Tryz.func75, Tryz.ntmps75
    go_wp2
    go_ret
    rw [HQ.out]
    exact ⟨rfl, Below.refl _ _⟩
set_option maxHeartbeats 3200000 in
theorem sameE_any : ∀ (N : Nat) (a : ET), etSz a ≤ N → ∀ (b : ET) (w : World) (Q Q' : Nat → Prop) (v v' : Value), EV w Q v a → EV w Q' v' b →
    Calls Tryz.prog 76 #[v, v'] w fun e' w' => e' = .returned (.bool (sameE a b)) ∧ Below w.heap.size w w' := by
  intro N
  induction N with
  | zero => intro a h; rw [etSz_is] at h; omega
  | succ N ih =>
    intro a hN b w Q Q' v v' hv hv'
    obtain ⟨sa, sc, rfl, hrg, hel⟩ := hv
    obtain ⟨sa', sc', rfl, hrg', hel'⟩ := hv'
    have HE := Lib.hid hel
    have HE' := Lib.hid hel'
    have HIH := Lib.hid ih
    have hlen : a.parts.length ≤ 9223372036854775807 := by have := hrg.le; have := hrg.cap; unfold maxLen at this; omega
    have hlen' : b.parts.length ≤ 9223372036854775807 := by have := hrg'.le; have := hrg'.cap; unfold maxLen at this; omega
    have HSm := Lib.hid (sameE_is a b)
    have HPz := Lib.hid (show ∀ p ∈ a.parts, etSz p ≤ N from fun p hp => by have := etSz_part hp; omega)
    obtain ⟨n, hn⟩ : ∃ n, n = a.parts.length := ⟨_, rfl⟩
    obtain ⟨m, hm⟩ : ∃ m, m = b.parts.length := ⟨_, rfl⟩
    have HNl := Lib.hid hn
    have HMl := Lib.hid hm
    have e0 : (etX a sa sc).toArray = #[.int .i64 a.kind, .string a.op, .int .i64 a.vk, .int .i64 a.vn, .string a.vs, .string a.tab, .string a.col, .slice sa n sc] := by rw [hn]; rfl
    have e1 : (etX b sa' sc').toArray = #[.int .i64 b.kind, .string b.op, .int .i64 b.vk, .int .i64 b.vn, .string b.vs, .string b.tab, .string b.col, .slice sa' m sc'] := by rw [hm]; rfl
    rw [e0, e1]
    rw [← hn] at hlen
    rw [← hm] at hlen'
    have HL := Lib.hid hlen
    have HL' := Lib.hid hlen'
    have HB := Lib.hid (bel0 (.cells #[.int .i64 b.kind, .string b.op, .int .i64 b.vk, .int .i64 b.vn, .string b.vs, .string b.tab, .string b.col, .slice sa' m sc'] 82) (bel0 (.cells #[.int .i64 a.kind, .string a.op, .int .i64 a.vk, .int .i64 a.vn, .string a.vs, .string a.tab, .string a.col, .slice sa n sc] 82) (Below.refl w.heap.size w)))
    have HBX := Lib.hid (boxes_lit w (.cells #[.int .i64 a.kind, .string a.op, .int .i64 a.vk, .int .i64 a.vn, .string a.vs, .string a.tab, .string a.col, .slice sa n sc] 82 (0, 0)) (.cells #[.int .i64 b.kind, .string b.op, .int .i64 b.vk, .int .i64 b.vn, .string b.vs, .string b.tab, .string b.col, .slice sa' m sc'] 82 (0, 0)))
    clear hrg hel hrg' hel' ih hn hm hN e0 e1
    go_enter Tryz.func76, Tryz.ntmps76
    go_upto_region 1 with (fail)
    generalize ((w.alloc (.cells #[.int .i64 a.kind, .string a.op, .int .i64 a.vk, .int .i64 a.vn, .string a.vs, .string a.tab, .string a.col, .slice sa n sc] 82)).alloc (.cells #[.int .i64 b.kind, .string b.op, .int .i64 b.vk, .int .i64 b.vn, .string b.vs, .string b.tab, .string b.col, .slice sa' m sc'] 82)) = w1 at *
    obtain ⟨⟨hA, hB⟩, hsz⟩ := HBX.out
    have hs0 : w.heap.size < w1.heap.size := by omega
    have hs1 : w.heap.size + 1 < w1.heap.size := by omega
    obtain ⟨c0, c1, c2, c3, c4, c5, c6, c7⟩ := cells8E hA
    obtain ⟨d0, d1, d2, d3, d4, d5, d6, d7⟩ := cells8E hB
    clear hA hB hsz HBX
    go_wp2_with (go_at_call 75; refine (equalE_any N HIH.out a.parts b.parts HPz.out _ Q Q' sa sa' n sc m sc' HNl.out HMl.out HL.out HL'.out (HE.out.keep HB.out) (HE'.out.keep HB.out)).mono ?_; rintro e' w3 ⟨rfl, hb3⟩)
    all_goals
      go_ret
      rw [HSm.out]
      first
        | (refine ⟨?_, bt HB.out hb3⟩
           cases hd : headE a b with
           | false =>
             unfold headE at hd
             simp [*] at hd
           | true => simp)
        | (refine ⟨?_, HB.out⟩
           cases hd : headE a b with
           | false => first | rfl | simp
           | true =>
             unfold headE at hd
             simp only [Bool.and_eq_true, beq_iff_eq] at hd
             obtain ⟨h1, h2, h3, h4, h5, h6, h7⟩ := hd
             exfalso
             first | contradiction | simp_all)
end Go.Proofs.YtknhphcfcpjhiaaGreatDoor
namespace Go.Proofs.YtknhphcfcpjhiaaGreatDoor
open Go.RowKit
set_option linter.unusedVariables false
set_option linter.unusedSimpArgs false
set_option maxRecDepth 100000
def sameLB {α : Type} (f : α → α → Bool) : List α → List α → Bool
  | [], m => m.isEmpty
  | a :: l, m => match m with
    | [] => false
    | b :: m => f a b && sameLB f l m
theorem sameLB_len {α : Type} (f : α → α → Bool) : ∀ (l m : List α), l.length ≠ m.length → sameLB f l m = false
  | [], [], h => (h rfl).elim
  | [], b :: m, _ => rfl
  | a :: l, [], _ => rfl
  | a :: l, b :: m, h => by
    show (f a b && sameLB f l m) = false
    rw [sameLB_len f l m (fun e => h (by rw [List.length_cons, List.length_cons, e])), Bool.and_false]
theorem sameLB_drop {α : Type} {f : α → α → Bool} {l m : List α} {k : Nat} (h : k < l.length) (h' : k < m.length) : sameLB f (l.drop k) (m.drop k) = (f (l[k]) (m[k]) && sameLB f (l.drop (k + 1)) (m.drop (k + 1))) := by
  rw [List.drop_eq_getElem_cons h, List.drop_eq_getElem_cons h']
  rfl
theorem sameLB_end {α : Type} {f : α → α → Bool} {l m : List α} (h : l.length = m.length) : sameLB f (l.drop l.length) (m.drop l.length) = true := by
  rw [List.drop_length, h, List.drop_length]
  rfl
theorem sameLB_refl {α : Type} {f : α → α → Bool} (hf : ∀ a, f a a = true) : ∀ l, sameLB f l l = true
  | [] => rfl
  | a :: l => by
    show (f a a && sameLB f l l) = true
    rw [hf a, sameLB_refl hf l]
    rfl
def sameSt (a b : ByteArray) : Bool := a.toList == b.toList
def sameCo (a b : Co) : Bool := (a.name.toList == b.name.toList) && ((a.kind == b.kind) && ((a.nn == b.nn) && (a.un == b.un)))
def sameIt (a b : It) : Bool := (a.name.toList == b.name.toList) && sameE a.e b.e
def sameAs (a b : As) : Bool := (a.col.toList == b.col.toList) && sameE a.e b.e
def sameSo (a b : So) : Bool := (a.tab.toList == b.tab.toList) && ((a.name.toList == b.name.toList) && sameE a.on b.on)
def sameOd (a b : Od) : Bool := (a.desc == b.desc) && sameE a.e b.e
def sameQ (a b : QT) : Bool := (a.dist == b.dist) && ((a.star == b.star) && ((a.lim == b.lim) && (sameLB sameIt a.items b.items && (sameLB sameSo a.src b.src && (sameEL a.whr b.whr && (sameEL a.group b.group && sameLB sameOd a.ord b.ord))))))
def sameS (a b : ST) : Bool := (a.kind == b.kind) && ((a.name.toList == b.name.toList) && ((a.on.toList == b.on.toList) && ((a.uniq == b.uniq) && (sameLB sameCo a.cols b.cols && (sameLB sameSt a.keys b.keys && (sameLB sameEL a.rows b.rows && (sameLB sameAs a.sets b.sets && (sameEL a.whr b.whr && sameQ a.q b.q))))))))
theorem sameE_rfl (e : ET) : sameE e e = true := sameE_refl (etSz e) e (Nat.le_refl _)
theorem sameEL_rfl : ∀ l : List ET, sameEL l l = true
  | [] => rfl
  | a :: l => by
    show (sameE a a && sameEL l l) = true
    rw [sameE_rfl, sameEL_rfl l]
    rfl
theorem sameS_refl (s : ST) : sameS s s = true := by
  have h1 : ∀ x, sameCo x x = true := fun x => by unfold sameCo; simp
  have h2 : ∀ x, sameSt x x = true := fun x => by unfold sameSt; simp
  have h3 : ∀ x, sameAs x x = true := fun x => by unfold sameAs; simp [sameE_rfl]
  have h4 : ∀ x, sameIt x x = true := fun x => by unfold sameIt; simp [sameE_rfl]
  have h5 : ∀ x, sameSo x x = true := fun x => by unfold sameSo; simp [sameE_rfl]
  have h6 : ∀ x, sameOd x x = true := fun x => by unfold sameOd; simp [sameE_rfl]
  unfold sameS sameQ
  simp [sameLB_refl h1, sameLB_refl h2, sameLB_refl h3, sameLB_refl h4, sameLB_refl h5, sameLB_refl h6, sameLB_refl sameEL_rfl, sameEL_rfl]
end Go.Proofs.YtknhphcfcpjhiaaGreatDoor
namespace Go.Proofs.YtknhphcfcpjhiaaGreatDoor
open Go.RowKit
set_option linter.unusedVariables false
set_option linter.unusedSimpArgs false
set_option maxRecDepth 100000
theorem sz_sum : ∀ (l : List ET) (p : ET), p ∈ l → etSz p ≤ (l.map etSz).sum
  | [], p, h => by cases h
  | a :: l, p, h => by
    rw [List.map_cons, List.sum_cons]
    rcases List.mem_cons.1 h with rfl | h
    · omega
    · have := sz_sum l p h
      omega
set_option maxHeartbeats 3200000 in
theorem plist_same (l m : List ET) (w : World) (Q Q' : Nat → Prop) (v v' : Value) (h : LeV w Q v l) (h' : LeV w Q' v' m) :
    Calls Tryz.prog 37 #[v, v'] w fun e w' => e = .returned (.bool (sameEL l m)) ∧ Below w.heap.size w w' := by
  obtain ⟨sa, sc, rfl, hE, hle, hcap⟩ := h
  obtain ⟨sa', sc', rfl, hE', hle', hcap'⟩ := h'
  have HC := Lib.hid (equalE_any (l.map etSz).sum (sameE_any (l.map etSz).sum) l m (sz_sum l) w Q Q' sa sa' l.length sc m.length sc' rfl rfl (by unfold maxLen at hcap; omega) (by unfold maxLen at hcap'; omega) hE hE')
  clear hE hE'
  go_enter Tryz.func37, Tryz.ntmps37
  go_wp2_with (go_at_call 75; refine HC.out.mono ?_)
  rintro e w1 ⟨rfl, hb⟩
  have HB := Lib.hid hb
  clear hb
  go_wp2
  go_ret
  exact ⟨rfl, HB.out⟩
end Go.Proofs.YtknhphcfcpjhiaaGreatDoor
