/- Two bags are the same just if their lists are. -/
import Derived.Test.YtplgkblahmndoaaBwSt
import Derived.Test.YtplgkblahmndoaaBoEq
namespace Go.Proofs.Ytplgkblahmndoaa
open Go.RowKit Go.WideMaps Go.Maps
set_option linter.unusedVariables false
set_option maxRecDepth 100000

set_option maxHeartbeats 1600000 in
theorem beq_gen (a a' : Option Addr) (l c l' c' : Nat) (n m : Int) (w : World) : Calls Try.prog 60 #[.agg #[.slice a l c, .int .i64 n], .agg #[.slice a' l' c', .int .i64 m]] w fun e w' => e = .returned (.bool (n == m)) ∧ Below w.heap.size w w' := by
  have hb : Below w.heap.size w ((w.alloc (.cells #[.slice a l c, .int .i64 n] 114)).alloc (.cells #[.slice a' l' c', .int .i64 m] 114)) := bel0 _ (bel0 _ (Below.refl _ _))
  have HB := Lib.hid hb
  clear hb
  by_cases h : n = m
  · subst h
    go_enter Try.func60, Try.ntmps60
    go_wp2
    go_ret
    exact ⟨by simp, HB.out⟩
  · have h2 : (n == m) = false := beq_eq_false_iff_ne.2 h
    rw [h2]
    go_enter Try.func60, Try.ntmps60
    go_wp2
    go_ret
    exact ⟨by first | rfl | rw [h2], HB.out⟩
theorem BagR.cntOf {w : World} {D B n : Nat} {mo : Option Nat} {Dm : DataW Unit} {t : Lit → Option SlN} {L : List Ent} (h : BagR w D B n mo Dm t L) (r : List Val) : (∀ x, t (litK r) = some x → cntB L (keyVs r) = x.2.2.2) ∧ (t (litK r) = none → cntB L (keyVs r) = 0) := by
  refine ⟨fun x hx => ?_, fun hx => ?_⟩
  · obtain ⟨e, he, hk⟩ := h.all _ x hx
    obtain ⟨y, hy, hn, _⟩ := h.ent e he
    rw [← hk, hx] at hy
    obtain rfl := Option.some.inj hy
    have hc := cnt_mem h.sort he
    rw [show kE e = keyVs r from (litK_inj hk).symm] at hc
    rw [hc, hn]
  · refine cnt_none ?_
    cases hh : hitB L (keyVs r) with
    | false => rfl
    | true =>
      obtain ⟨e, he, hk⟩ := (hit_iff h.sort _).1 hh
      obtain ⟨x, hx', _⟩ := h.ent e he
      have e2 : litK e.1 = litK r := by unfold litK; rw [show keyVs e.1 = keyVs r from hk]
      rw [e2, hx] at hx'
      cases hx'
/-- all of one map is in the other one as often -/
def AllIn (t s : Lit → Option SlN) : Prop := ∀ k x, t k = some x → ∃ y, s k = some y ∧ x.2.2.2 = y.2.2.2
def EqPost (w : World) (t s : Lit → Option SlN) (e : Ending) (w' : World) : Prop := (∃ b : Bool, e = .returned (.bool b) ∧ (b = true ↔ AllIn t s)) ∧ Below w.heap.size w w'
theorem BalR.at_here {D : DataW Unit} {t : Lit → Option SlN} (h : BalR D t) {k : Lit} {x : SlN} (ha : ∀ z, D.atKey k z = slD x) : t k = some x := by
  cases ht : t k with
  | none =>
    have h1 := h.none ht .nil
    rw [ha] at h1
    cases h1
  | some y =>
    have h1 := h.val k y .nil ht
    rw [ha] at h1
    rw [slD_inj h1]
set_option maxHeartbeats 3200000 in
theorem equal_gen (w : World) (M N n m : Nat) (Dm De : DataW Unit) (t s : Lit → Option SlN) (h1 : w.ownsMap Try.prog 9 entR M n Dm) (h2 : w.ownsMap Try.prog 9 entR N m De) (hb1 : BalR Dm t) (hb2 : BalR De s) (hz : Maps.size Dm = Maps.size De) :
    Calls Try.prog 59 #[.map (some M), .map (some N), .func (Fn.func 60) #[] #[]] w (EqPost w t s) := by
  have hl1 := fun ty => h1.len Try.underlying109 ty
  have hl2 := fun ty => h2.len Try.underlying109 ty
  rw [← hz] at hl2
  have H1 := Lib.hid h1
  have H2 := Lib.hid h2
  have HB1 := Lib.hid hb1
  have HB2 := Lib.hid hb2
  clear h1 h2 hb1 hb2 hz
  go_enter Try.func59, Try.ntmps59
  go_wp2_with (at_range; refine wpList_range_own _ rfl _ 109 rfl 9 114 bstrKeyed Try.underlying109 _ M n _ rfl H1.out ?_; intro w0 hrg0 hg0 hs0)
  go_frame
  have HR0 := Lib.hid hrg0
  have HE0 := Lib.hid (show w0.ownsMap Try.prog 9 entR N m De from H2.out.kept hg0 (by simp))
  have HB0 := Lib.hid (show Below w.heap.size w w0 from (Below.refl _ _).grown hg0 (Nat.le_refl _) (fun j hj => by cases hj))
  have HNl := Lib.hid H2.out.lt
  clear hrg0 hg0 hs0 hl1 hl2
  go_loopw [] (fun wr => ∃ (left : Lit → Bool) (cnt : Nat), Hid (wr.ranges Try.prog 9 entR M w.heap.size n Dm left cnt ∧ wr.ownsMap Try.prog 9 entR N m De ∧ Below w.heap.size w wr ∧ ∀ k x, t k = some x → left k = false → ∃ y, s k = some y ∧ x.2.2.2 = y.2.2.2)) (fun wr => wr.rangeLeft M w.heap.size)
  case atStart => exact ⟨_, _, Lib.hid ⟨HR0.out, HE0.out, HB0.out, fun k x hx hl => by rw [HB1.out.on, hx] at hl; cases hl⟩⟩
  case round =>
    obtain ⟨left, cnt, HR⟩ := hrel
    go_wp2_with (at_next; refine wpList_next_ranges _ rfl _ rfl 9 bstrKeyed entR Value.string (fun x : SlN => .agg #[.slice (adA x.1) x.2.1 x.2.2.1, .int .i64 x.2.2.2]) (fun key kl hk => by obtain ⟨x, hx, _⟩ := key_str hk; exact ⟨x, hx⟩) (fun v y hv => by obtain ⟨x, rfl, _⟩ := entR_inv hv; exact ⟨x, rfl⟩) M w.heap.size n _ _ _ rfl HR.out.1 ?_ ?_)
    · intro hc0 hl0
      have HA := Lib.hid (show AllIn t s from fun k x hx => HR.out.2.2.2 k x hx (hl0 k))
      clear hl0
      go_wp2
      go_ret
      exact ⟨⟨true, rfl, ⟨fun _ => HA.out, fun _ => rfl⟩⟩, HR.out.2.2.1⟩
    · intro x ad l c q kl yd yp w1 cnt1 hkey hlk hv hat hrg1 hlt hg1 hs1 hen
      have HN1 := Lib.hid (show w1.ownsMap Try.prog 9 entR N m De from HR.out.2.1.kept hg1 (fun e => by have := HNl.out; have e := Option.some.inj e; omega))
      have hb1 : Below w.heap.size w w1 := HR.out.2.2.1.grown hg1 HR.out.2.2.1.size (fun j hj => by cases hj; exact Nat.le_refl _)
      have HB1' := Lib.hid hb1
      have ht : t kl = some (ad, l, c, q) := by
        have e := entR_mk (ad, l, c, q)
        have e2 : yd = slD (ad, l, c, q) := (Prod.mk.inj (Option.some.inj (hv.symm.trans e))).1
        rw [e2] at hat
        exact HB1.out.at_here hat
      have HT := Lib.hid ht
      have ho : (w1.alloc (.cells #[.slice (adA ad) l c, .int .i64 q] 114)).ownsMap Try.prog 9 entR N m De := HN1.out.alloc _
      obtain ⟨v, ps, hrun, hv2⟩ := ho.look_ok bstrKeyed Try.underlying109 (bzeroEntry _) (entR_mk (none, 0, 0, 0)) hkey
      rw [HB2.out.on] at hrun
      have HR1 := Lib.hid hrg1
      have HL := Lib.hid hlt
      have HK := Lib.hid hkey
      cases hs : s kl with
      | none =>
        have HF := Lib.hid (show ¬ AllIn t s from fun h => by
          obtain ⟨y, hy, _⟩ := h kl _ HT.out
          rw [hs] at hy
          cases hy)
        rw [hs] at hrun
        rw [HB2.out.none hs] at hv2
        obtain ⟨y, rfl, e⟩ := entR_inv hv2
        have e3 : y = (none, 0, 0, 0) := (slD_inj (Prod.mk.inj e).1).symm
        subst e3
        have hlook : (Instr.lookup 109 (.map (some N)) (.string x) true).run Try.prog (w1.alloc (.cells #[.slice (adA ad) l c, .int .i64 q] 114)) = .ok (.tuple #[.agg #[.slice none 0 0, .int .i64 0], .bool false]) (w1.alloc (.cells #[.slice (adA ad) l c, .int .i64 q] 114)) := hrun
        have HBf := Lib.hid (show Below w.heap.size w (w1.alloc (.cells #[.slice (adA ad) l c, .int .i64 q] 114)) from bel0 _ HB1'.out)
        clear hrun hv2 hs ho hrg1 hg1 hs1 hlt hb1 hkey hv hat ht e
        go_wp2
        go_ret
        exact ⟨⟨false, rfl, ⟨fun h => (by cases h), fun h => absurd h HF.out⟩⟩, by first | exact HBf.out | exact bel0 _ HBf.out⟩
      | some y =>
        rw [hs] at hrun
        rw [HB2.out.val kl y _ hs] at hv2
        obtain ⟨y', rfl, e⟩ := entR_inv hv2
        have e3 : y' = y := (slD_inj (Prod.mk.inj e).1).symm
        subst e3
        have HS := Lib.hid hs
        obtain ⟨a2, l2, c2, q2⟩ := y'
        have hlook : (Instr.lookup 109 (.map (some N)) (.string x) true).run Try.prog (w1.alloc (.cells #[.slice (adA ad) l c, .int .i64 q] 114)) = .ok (.tuple #[.agg #[.slice (adA a2) l2 c2, .int .i64 q2], .bool true]) (w1.alloc (.cells #[.slice (adA ad) l c, .int .i64 q] 114)) := hrun
        clear hrun hv2 hs ho hrg1 hg1 hs1 hlt hb1 hkey hv hat ht e
        go_wp2_with fail
        refine (beq_gen (adA ad) (adA a2) l c l2 c2 q q2 _).mono ?_
        rintro e w2 ⟨rfl, hb2⟩
        have hb3 : Below w1.heap.size w1 w2 := bt (bel0 _ (bel0 _ (Below.refl _ _))) hb2
        have hg3 : w1.grownBy w2 none := ⟨hb3.os, hb3.tape, hb3.output, hb3.size, fun i hi _ => hb3.block i hi⟩
        have HR2 := Lib.hid (HR1.out.kept hg3 (by simp) (by simp))
        have HN2 := Lib.hid (HN1.out.kept hg3 (by simp))
        have HB2' := Lib.hid (bt HB1'.out hb3)
        clear hb2 hb3 hg3 hen hlook
        by_cases hq : q = q2
        · subst hq
          rw [beq_self_eq_true]
          go_wp2
          go_roundw
          case rel =>
            refine ⟨_, cnt1, Lib.hid ⟨HR2.out, HN2.out, HB2'.out, fun k x hx hl => ?_⟩⟩
            by_cases hk : left k = false
            · exact HR.out.2.2.2 k x hx hk
            · have hk' : left k = true := by simpa using hk
              simp only [hk', Bool.true_and, Bool.not_eq_false'] at hl
              have : k = kl := Classical.byContradiction (fun hne => by rw [sameKey_ne hne] at hl; cases hl)
              subst this
              rw [HT.out] at hx
              obtain rfl := Option.some.inj hx
              exact ⟨_, HS.out, rfl⟩
          case measure => rw [HR2.out.left_eq, HR.out.1.left_eq]; exact HL.out
        · have hqb : (q == q2) = false := beq_eq_false_iff_ne.2 hq
          have HF := Lib.hid (show ¬ AllIn t s from fun h => by
            obtain ⟨y, hy, he⟩ := h kl _ HT.out
            rw [HS.out] at hy
            obtain rfl := Option.some.inj hy
            exact hq he)
          rw [hqb]
          clear hq hqb
          go_wp2
          go_ret
          exact ⟨⟨false, rfl, ⟨fun h => (by cases h), fun h => absurd h HF.out⟩⟩, HB2'.out⟩
end Go.Proofs.Ytplgkblahmndoaa
