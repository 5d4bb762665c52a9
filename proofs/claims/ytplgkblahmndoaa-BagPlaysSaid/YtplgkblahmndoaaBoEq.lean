/- Two bags of the same sums are the same. -/
import Derived.Test.YtplgkblahmndoaaBoAdd
import Derived.Maps.RangeWalk
import Derived.Maps.StringElems
import Derived.Deep.RegionHeld3
namespace Go.Proofs.Ytplgkblahmndoaa
open Go.RowKit Go.WideMaps Go.Maps
set_option linter.unusedVariables false
set_option maxRecDepth 100000

set_option maxHeartbeats 1600000 in
theorem beq_one (a a' : Option Addr) (l c l' c' : Nat) (n : Int) (w : World) : Calls Try.prog 60 #[.agg #[.slice a l c, .int .i64 n], .agg #[.slice a' l' c', .int .i64 n]] w fun e w' => e = .returned (.bool true) ∧ Below w.heap.size w w' := by
  have hb : Below w.heap.size w ((w.alloc (.cells #[.slice a l c, .int .i64 n] 114)).alloc (.cells #[.slice a' l' c', .int .i64 n] 114)) := bel0 _ (bel0 _ (Below.refl _ _))
  have HB := Lib.hid hb
  clear hb
  go_enter Try.func60, Try.ntmps60
  go_wp2
  go_ret
  exact ⟨rfl, HB.out⟩

theorem key_str {v : Value} {l : Lit} (h : keyOf Try.prog 9 v = some l) : ∃ s : ByteArray, v = .string s ∧ l = .string s.data.toList ∧ s.size ≤ maxLen := by
  rw [keyOf_string Try.underlying9] at h
  cases v <;> simp [mapKey, Try.underlying9] at h
  obtain ⟨h1, h2⟩ := h
  exact ⟨_, rfl, h2.symm, h1⟩
set_option maxHeartbeats 3200000 in
theorem equal_any (w : World) (M N n m : Nat) (Dm : DataW Unit) (s : Lit → Int) (h1 : w.ownsMap Try.prog 9 entN M n Dm) (h2 : w.ownsMap Try.prog 9 entN N m Dm) (hb : Bal Dm s) :
    Calls Try.prog 59 #[.map (some M), .map (some N), .func (Fn.func 60) #[] #[]] w fun e w' => e = .returned (.bool true) ∧ Below w.heap.size w w' := by
  have hl1 := fun ty => h1.len Try.underlying109 ty
  have hl2 := fun ty => h2.len Try.underlying109 ty
  have H1 := Lib.hid h1
  have H2 := Lib.hid h2
  have HB := Lib.hid hb
  clear h1 h2 hb
  go_enter Try.func59, Try.ntmps59
  go_wp2_with (at_range; refine wpList_range_own _ rfl _ 109 rfl 9 114 bstrKeyed Try.underlying109 _ M n _ rfl H1.out ?_; intro w0 hrg0 hg0 hs0)
  go_frame
  have HR0 := Lib.hid hrg0
  have HE0 := Lib.hid (show w0.ownsMap Try.prog 9 entN N m Dm from H2.out.kept hg0 (by simp))
  have HB0 := Lib.hid (show Below w.heap.size w w0 from (Below.refl _ _).grown hg0 (Nat.le_refl _) (fun j hj => by cases hj))
  have HNl := Lib.hid H2.out.lt
  clear hrg0 hg0 hs0 hl1 hl2
  go_loopw [] (fun wr => ∃ (left : Lit → Bool) (cnt : Nat), Hid (wr.ranges Try.prog 9 entN M w.heap.size n Dm left cnt ∧ wr.ownsMap Try.prog 9 entN N m Dm ∧ Below w.heap.size w wr)) (fun wr => wr.rangeLeft M w.heap.size)
  case atStart => exact ⟨_, _, Lib.hid ⟨HR0.out, HE0.out, HB0.out⟩⟩
  case round =>
    obtain ⟨left, cnt, HR⟩ := hrel
    go_wp2_with (at_next; refine wpList_next_ranges _ rfl _ rfl 9 bstrKeyed entN Value.string (fun t : Option Addr × Nat × Nat × Int => .agg #[.slice t.1 t.2.1 t.2.2.1, .int .i64 t.2.2.2]) (fun key kl hk => by obtain ⟨x, hx, _⟩ := key_str hk; exact ⟨x, hx⟩) (fun v y hv => by obtain ⟨a, l, c, q, rfl, _⟩ := entN_inv hv; exact ⟨(a, l, c, q), rfl⟩) M w.heap.size n _ _ _ rfl HR.out.1 ?_ ?_)
    · intro hc0 hl0
      go_wp2
      go_ret
      exact ⟨rfl, HR.out.2.2⟩
    · intro x a l c q kl yd yp w1 cnt1 hkey hlk hv hat hrg1 hlt hg1 hs1 hen
      have HN1 := Lib.hid (show w1.ownsMap Try.prog 9 entN N m Dm from HR.out.2.1.kept hg1 (fun e => by have := HNl.out; have e := Option.some.inj e; omega))
      have hb1 : Below w.heap.size w w1 := HR.out.2.2.grown hg1 HR.out.2.2.size (fun j hj => by cases hj; exact Nat.le_refl _)
      have HB1 := Lib.hid hb1
      have hlook : ∃ a2 l2 c2, (Instr.lookup 109 (.map (some N)) (.string x) true).run Try.prog (w1.alloc (.cells #[.slice a l c, .int .i64 q] 114)) = .ok (.tuple #[.agg #[.slice a2 l2 c2, .int .i64 q], .bool true]) (w1.alloc (.cells #[.slice a l c, .int .i64 q] 114)) := by
        have ho : (w1.alloc (.cells #[.slice a l c, .int .i64 q] 114)).ownsMap Try.prog 9 entN N m Dm := HN1.out.alloc _
        obtain ⟨v, ps, hrun, hv2⟩ := ho.look_ok bstrKeyed Try.underlying109 (bzeroEntry _) (entN_mk none 0 0 0) hkey
        rw [has_true_of_atKey hat] at hrun
        rw [hat] at hv2
        obtain ⟨a2, l2, c2, q2, rfl, e2⟩ := entN_inv hv2
        obtain ⟨_, _, _, q3, e3, e4⟩ := entN_inv hv
        cases e2
        cases e4
        simp only [Value.agg.injEq] at e3
        cases e3
        exact ⟨a2, l2, c2, hrun⟩
      obtain ⟨a2, l2, c2, hlook⟩ := hlook
      have HR1 := Lib.hid hrg1
      have HL := Lib.hid hlt
      clear hrg1 hg1 hs1 hlt hb1 hkey hv hat
      go_wp2_with fail
      refine (beq_one a a2 l c l2 c2 q _).mono ?_
      rintro e w2 ⟨rfl, hb2⟩
      have hb3 : Below w1.heap.size w1 w2 := bt (bel0 _ (bel0 _ (Below.refl _ _))) hb2
      have hg3 : w1.grownBy w2 none := ⟨hb3.os, hb3.tape, hb3.output, hb3.size, fun i hi _ => hb3.block i hi⟩
      have HR2 := Lib.hid (HR1.out.kept hg3 (by simp) (by simp))
      have HN2 := Lib.hid (HN1.out.kept hg3 (by simp))
      have HB2 := Lib.hid (bt HB1.out hb3)
      clear hb2 hb3 hg3 hen hlook
      go_wp2
      go_roundw
      case rel => exact ⟨_, cnt1, Lib.hid ⟨HR2.out, HN2.out, HB2.out⟩⟩
      case measure => rw [HR2.out.left_eq, HR.out.1.left_eq]; exact HL.out
set_option maxHeartbeats 3200000 in
theorem bsame_any (w : World) (D E B n m : Nat) (mo me : Option Nat) (Dm : DataW Unit) (s : Lit → Int) (hD : BagSt w D B n mo Dm s) (hE : BagSt w E B m me Dm s) :
    Calls Try.prog 17 #[.pointer (some ⟨D, 0, none⟩), .pointer (some ⟨E, 0, none⟩)] w fun e w' => e = .returned (.bool true) ∧ Below w.heap.size w w' := by
  have HD := Lib.hid hD
  have HE := Lib.hid hE
  have d0 : w.cell? ⟨D, 0, none⟩ = some (.map mo) := cell_of_row w D 0 _ _ _ hD.box
  have e0 : w.cell? ⟨E, 0, none⟩ = some (.map me) := cell_of_row w E 0 _ _ _ hE.box
  clear hD hE
  by_cases hz : Maps.size Dm = 0
  · go_enter Try.func17, Try.ntmps17
    have HZ := Lib.hid hz
    clear hz
    go_wp2_with fail
    refine (blen_any _ D B n mo Dm s HD.out).mono ?_
    rintro e w1 ⟨rfl, hw⟩
    subst hw
    go_wp2_with fail
    refine (blen_any _ E B m me Dm s HE.out).mono ?_
    rintro e w1 ⟨rfl, hw⟩
    subst hw
    rw [HZ.out]
    go_wp2_with fail
    refine (blen_any _ D B n mo Dm s HD.out).mono ?_
    rintro e w1 ⟨rfl, hw⟩
    subst hw
    rw [HZ.out]
    go_wp2
    go_ret
    exact ⟨rfl, Below.refl _ _⟩
  · rcases HD.out.mp with ⟨_, h0⟩ | ⟨M, rfl, _, ho⟩
    · rw [h0] at hz; exact absurd rfl hz
    rcases HE.out.mp with ⟨_, h0⟩ | ⟨N, rfl, _, ho2⟩
    · rw [h0] at hz; exact absurd rfl hz
    have HO := Lib.hid ho
    have HO2 := Lib.hid ho2
    obtain ⟨z, hz2⟩ : ∃ z, z = Maps.size Dm := ⟨_, rfl⟩
    have hzb : ((z : Int) == 0) = false := beq_eq_false_iff_ne.2 (by omega)
    have hzp : (0 : Int) < (z : Int) := by omega
    have HZ := Lib.hid hz2.symm
    clear hz hz2 ho ho2
    go_enter Try.func17, Try.ntmps17
    go_wp2_with fail
    refine (blen_any _ D B n _ Dm s HD.out).mono ?_
    rintro e w1 ⟨rfl, hw⟩
    subst hw
    go_wp2_with fail
    refine (blen_any _ E B m _ Dm s HE.out).mono ?_
    rintro e w1 ⟨rfl, hw⟩
    subst hw
    rw [HZ.out]
    go_wp2_with fail
    refine (blen_any _ D B n _ Dm s HD.out).mono ?_
    rintro e w1 ⟨rfl, hw⟩
    subst hw
    rw [HZ.out]
    go_upto_region 5 with (fail)
    refine wp_region_noPanic ?_
    go_region_held3 (fun W => W.cell? ⟨D, 0, none⟩ = some (.map (some M)) ∧ W.cell? ⟨E, 0, none⟩ = some (.map (some N)))
      (first | exact ⟨d0, e0⟩ | exact hS7)
      ((go_at_call 59; refine (equal_any _ M N n m Dm s (by exact HO.out) (by exact HO2.out) HD.out.bal).mono ?_; rintro e w7 ⟨rfl, hb7⟩; have hb8 : Below w1.heap.size w1 w7 := ⟨hb7.os, hb7.tape, hb7.output, hb7.size, hb7.block⟩; have HB7 := Lib.hid hb8; have hS7 : w7.cell? ⟨D, 0, none⟩ = some (.map (some M)) ∧ w7.cell? ⟨E, 0, none⟩ = some (.map (some N)) := ⟨cell_of_row w7 D 0 _ _ _ (HD.out.below hb8).box, cell_of_row w7 E 0 _ _ _ (HE.out.below hb8).box⟩; clear hb7 hb8))
    refine NoPanic.normal ?_
    clear hS7
    go_wp2
    go_ret
    exact ⟨rfl, HB7.out⟩
end Go.Proofs.Ytplgkblahmndoaa
