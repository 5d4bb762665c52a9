/- Contracts of After (the program's and the document's): every slice of bytes. -/
import Derived.Test.YthgpdnbmilcgcabKeyA
namespace Go.Proofs.Ythgpdnbmilcgcab
open Go.RowKit
set_option linter.unusedVariables false

/-- how many bytes are left, the last ones struck that are 255 -/
def stripE (zs : List Int) : Nat → Nat
  | 0 => 0
  | e + 1 => if zs.getD e 0 = 255 then stripE zs e else e + 1
theorem stripE_le (zs : List Int) (e : Nat) : stripE zs e ≤ e := by
  induction e with
  | zero => exact Nat.le_refl _
  | succ e ih => unfold stripE; split <;> omega
theorem stripE_at (zs : List Int) (e k : Nat) (h : stripE zs e = k + 1) : zs.getD k 0 ≠ 255 := by
  induction e with
  | zero => simp [stripE] at h
  | succ e ih =>
    unfold stripE at h
    split at h
    · exact ih h
    · obtain rfl : e = k := by omega
      assumption
theorem stripE_all (zs : List Int) (e : Nat) : ∀ i, stripE zs e ≤ i → i < e → zs.getD i 0 = 255 := by
  induction e with
  | zero => intro i _ h; omega
  | succ e ih =>
    intro i h1 h2
    unfold stripE at h1
    split at h1
    · by_cases hi : i = e
      · subst hi; assumption
      · exact ih i h1 (by omega)
    · omega
theorem stripE_255 {zs : List Int} {k : Nat} (h : zs.getD k 0 = 255) : stripE zs (k + 1) = stripE zs k := by unfold stripE; rw [if_pos h]; cases k <;> rfl
theorem stripE_ne {zs : List Int} {k : Nat} (h : ¬ zs.getD k 0 = 255) : stripE zs (k + 1) = k + 1 := by unfold stripE; rw [if_neg h]
def aftE (zs : List Int) : Nat → List Int
  | 0 => []
  | e + 1 => zs.take e ++ [zs.getD e 0 + 1]
def afterF (zs : List Int) : List Int := aftE zs (stripE zs zs.length)

def AftPost (w : World) (zs : List Int) (e : Ending) (w' : World) : Prop :=
  ∃ v : Value, e = .returned v ∧ w'.ownsRow w.heap.size 5 1 v (afterF zs).length ((afterF zs).map (Value.int .u8)) ∧ Below w.heap.size w w'

theorem set_last {zs : List Int} {e : Nat} (h : e < zs.length) (x : Int) : (zs.take (e + 1)).set e x = zs.take e ++ [x] := by
  rw [List.take_succ_eq_append_getElem h, List.set_append_right _ _ (by rw [List.length_take]; omega)]
  rw [List.length_take, show e - min e zs.length = 0 by omega]
  rfl

set_option maxHeartbeats 1600000 in
theorem after_any (a : Option Addr) (len cap : Nat) (zs : List Int) (w : World) (h : IsB w a len zs) (ha : ∀ x, len ≠ 0 → a = some x → x.block < w.heap.size) (hc : len ≤ cap) (hr : len ≤ 140737488351232) :
    Calls Try.prog 16 #[.slice a len cap] w (AftPost w zs) := by
  have H := Lib.hid h
  have HA := Lib.hid ha
  have hl := h.1
  have HL := Lib.hid hl
  have HS := Lib.hid (show afterF zs = aftE zs (stripE zs len) by unfold afterF; rw [hl])
  clear h ha hl
  go_enter Try.func16, Try.ntmps16
  go_wp2
  go_loop [3] (fun e => ∃ k : Nat, k ≤ len ∧ e = .int .i64 (k : Int) ∧ Hid (stripE zs k = stripE zs len)) (fun e => (intOf e).toNat)
  case atStart => exact ⟨len, Nat.le_refl _, rfl, Lib.hid rfl⟩
  case round =>
    obtain ⟨k, hk, rfl, HK⟩ := hrel
    cases k with
    | zero =>
      have HE := Lib.hid (show afterF zs = [] by rw [HS.out, ← HK.out]; rfl)
      go_wp2
      go_ret
      refine ⟨_, rfl, ?_, Below.refl _ _⟩
      rw [HE.out]
      exact World.ownsRow_nil _ _ _ _
    | succ k =>
      have ek : ((k + 1 : Nat) : Int) = (k : Int) + 1 := by omega
      rw [ek]
      obtain ⟨_, _, hcell, hbn⟩ := H.out
      rcases hcell with hcell | ⟨b, off, rfl, hcell⟩
      · omega
      have hc0 := hcell k (by omega)
      obtain ⟨hx0, hx1⟩ := hbn k
      have hki : (k : Int) < (len : Int) := by omega
      have hk0 : (0 : Int) ≤ (k : Int) := by omega
      clear hcell hbn ek
      by_cases hx : zs.getD k 0 = 255
      · have HE := Lib.hid (show stripE zs k = stripE zs len from (stripE_255 hx).symm.trans HK.out)
        rw [hx] at hc0
        clear HK hx hx0 hx1
        go_wp2
        go_round
        case rel => exact ⟨k, by omega, by go_num, HE⟩
        case measure => first | (simp [intOf]; done) | (simp [intOf]; omega)
      · have HE := Lib.hid (show afterF zs = zs.take k ++ [zs.getD k 0 + 1] by
          rw [HS.out, ← HK.out]
          rw [stripE_ne hx]
          rfl)
        have HSet := Lib.hid (set_last (zs := zs) (e := k) (by rw [HL.out]; omega) (zs.getD k 0 + 1))
        have hx2 : zs.getD k 0 + 1 ≤ 255 := by omega
        have hxb : (zs.getD k 0 == 255) = false := by rw [beq_eq_false_iff_ne]; exact hx
        have HX := Lib.hid (show (zs.take (k + 1)).getD k 0 = zs.getD k 0 by simp [List.getD])
        generalize zs.getD k 0 = x at *
        have hs1 : ∀ W, (Instr.slice 24 (.slice (some ⟨b, off, none⟩) len cap) none (some (.int .i64 ((k : Int) + 1))) none).run Try.prog W = .ok (.slice (some ⟨b, off, none⟩) (k + 1) cap) W := fun W => slice_h _ len cap (k + 1) (by omega) .i64 W
        have HI := Lib.hid (isB_take (k := k + 1) H.out (by omega))
        have HTL := Lib.hid (show (zs.take (k + 1)).length = k + 1 by rw [List.length_take, HL.out]; omega)
        clear HK hx
        go_wp2_with (at_builtin; refine wpList_slice rfl (.const (.slice none 0 0)) (.tmp 23) rfl w.heap.size (.slice none 0 0) [] (some ⟨b, off, none⟩) (k + 1) cap (zs.take (k + 1)) rfl rfl (World.ownsRow_nil _ _ _ _) ?c1 ?c2 ?c3 ?c4 ?_)
        case c1 => exact HI.out
        case c3 => first | omega | (simp; omega)
        intro v3 w3 hown3 hgrow3
        have hown3' : w3.ownsRow w.heap.size 5 1 v3 (k + 1) ((zs.take (k + 1)).map (Value.int .u8)) := by
          simpa [HL.out, Nat.min_eq_left (show k + 1 ≤ len by omega)] using hown3
        obtain ⟨g3, c3, rfl⟩ := own_addr hown3' (by omega)
        have HB3 := Lib.hid ((Below.refl _ w).grown hgrow3 (Nat.le_refl _) (fun k hk => by cases hk))
        have hcell3 := own_cell hown3' HTL.out k (by omega)
        rw [HX.out] at hcell3
        have hfz3 := own_frozen hown3' k
        have hg3 := own_lo hown3'
        have HO3 := Lib.hid (own_set hown3' k (by omega) (x + 1))
        rw [HSet.out] at HO3
        clear hown3 hown3' hgrow3
        go_wp2
        go_ret
        refine ⟨_, rfl, ?_, HB3.out.setCell (p := ⟨g3, k, none⟩) hg3 _⟩
        rw [HE.out]
        rw [show (zs.take k ++ [x + 1]).length = k + 1 by rw [List.length_append, List.length_take, HL.out]; simp; omega]
        exact HO3.out

theorem own_take {w : World} {B g n cap k : Nat} {e : TypeId} {zs : List Int} (h : w.ownsRow B e 1 (.slice (some ⟨g, 0, none⟩) n cap) n (zs.map (Value.int .u8))) (hk : k ≤ n) (hz : zs.length = n) : w.ownsRow B e 1 (.slice (some ⟨g, 0, none⟩) k cap) k ((zs.take k).map (Value.int .u8)) := by
  refine ⟨by simp; omega, .inr ?_⟩
  rcases h.2 with ⟨h', _⟩ | ⟨g', cap', cur, he, hb, hg, h1, h2, hs, ht⟩
  · cases h'
  · simp only [Value.slice.injEq, Option.some.injEq, Addr.mk.injEq] at he
    obtain ⟨⟨rfl, _⟩, _, rfl⟩ := he
    refine ⟨g, cap, cur, rfl, hb, hg, Nat.le_trans hk h1, h2, hs, ?_⟩
    rw [List.map_take, ← ht, List.take_take, Nat.mul_one, Nat.mul_one, Nat.min_eq_left hk]

set_option maxHeartbeats 1600000 in
theorem rafter_any (a : Option Addr) (len cap : Nat) (zs : List Int) (w : World) (h : IsB w a len zs) (ha : ∀ x, len ≠ 0 → a = some x → x.block < w.heap.size) (hn : a = none → len = 0 ∧ cap = 0) (hr : len ≤ 140737488351232) :
    Calls Try.prog 17 #[.slice a len cap] w (AftPost w zs) := by
  have H := Lib.hid h
  have HA := Lib.hid ha
  have HN := Lib.hid hn
  have hl := h.1
  have HL := Lib.hid hl
  have hmem := h.mem
  have HM := Lib.hid hmem
  have HS := Lib.hid (show afterF zs = aftE zs (stripE zs len) by unfold afterF; rw [hl])
  have HI := Lib.hid (show IsB (w.alloc (.cells #[] 5)) a len zs from h.below (bel0 _ (Below.refl _ _)) ha)
  clear h ha hl hn hmem
  go_enter Try.func17, Try.ntmps17
  go_wp2_with (at_builtin; refine wpList_slice rfl (.tmp 4) (.tmp 5) rfl w.heap.size (.slice (some ⟨w.heap.size, 0, none⟩) 0 0) [] a len cap zs rfl rfl (World.ownsRow_made w #[] 0 (Nat.le_refl _) (Nat.zero_le _) rfl) ?c1 ?c2 ?c3 ?c4 ?_)
  case c1 => exact HI.out
  case c2 => exact HN.out
  case c3 => first | omega | (simp; omega)
  case c4 => simp
  intro v3 w3 hown3 hgrow3
  have hown3' : w3.ownsRow w.heap.size 5 1 v3 len (zs.map (Value.int .u8)) := by
    simpa [HL.out] using hown3
  have HB3 := Lib.hid ((bel0 (.cells #[] 5) (Below.refl _ w)).grown hgrow3 (by simp) (fun k hk => by cases hk; exact Nat.le_refl _))
  have HO3 := Lib.hid hown3'
  clear hown3 hown3' hgrow3
  by_cases h0 : len = 0
  · have HE := Lib.hid (show afterF zs = [] by rw [HS.out, h0]; rfl)
    subst h0
    have hz := List.eq_nil_of_length_eq_zero HL.out
    have hown4 : w3.ownsRow w.heap.size 5 1 v3 ([] : List Int).length (([] : List Int).map (Value.int .u8)) := by have := HO3.out; rw [hz] at this; exact this
    obtain ⟨a3, L3, c3, rfl, hL3, _⟩ := own_any hown4 (fun z hz => by cases hz)
    obtain rfl : L3 = 0 := hL3
    have HO4 := Lib.hid hown4
    clear hown4 hz
    go_wp2
    go_loop [3] (fun e => e = .slice a3 0 c3) (fun e => 0)
    case atStart => rfl
    case round =>
      subst hrel
      go_wp2
      go_ret
      refine ⟨_, rfl, ?_, HB3.out⟩
      rw [HE.out]
      exact HO4.out
  · obtain ⟨g3, c3, rfl⟩ := own_addr HO3.out h0
    go_wp2
    go_loop [3] (fun e => ∃ k : Nat, k ≤ len ∧ e = .slice (some ⟨g3, 0, none⟩) k c3 ∧ Hid (stripE zs k = stripE zs len)) (fun e => match e with | .slice _ k _ => k | _ => 0)
    case atStart => exact ⟨len, Nat.le_refl _, rfl, Lib.hid rfl⟩
    case round =>
      obtain ⟨k, hk, rfl, HK⟩ := hrel
      have hcap := (cap_le HO3.out).1
      cases k with
      | zero =>
        have HE := Lib.hid (show afterF zs = [] by rw [HS.out, ← HK.out]; rfl)
        go_wp2
        go_ret
        refine ⟨_, rfl, ?_, HB3.out⟩
        rw [HE.out]
        exact own_take HO3.out (Nat.zero_le _) HL.out
      | succ k =>
        have hc0 := own_cell HO3.out HL.out k (by omega)
        obtain ⟨hx0, hx1⟩ := HM.out (zs.getD k 0) (by rw [List.getD_eq_getElem?_getD, List.getElem?_eq_getElem (by rw [HL.out]; omega)]; exact List.getElem_mem _)
        have hk0 : (0 : Int) ≤ (k : Int) := by omega
        have ekk : ((k + 1 : Nat) : Int) - 1 = (k : Int) := by omega
        by_cases hx : zs.getD k 0 = 255
        · have HE := Lib.hid (show stripE zs k = stripE zs len from (stripE_255 hx).symm.trans HK.out)
          have hs1 : ∀ W, (Instr.slice 24 (.slice (some ⟨g3, 0, none⟩) (k + 1) c3) none (some (.int .i64 (k : Int))) none).run Try.prog W = .ok (.slice (some ⟨g3, 0, none⟩) k c3) W := fun W => slice_h _ (k + 1) c3 k (by omega) .i64 W
          rw [hx] at hc0
          clear HK hx hx0 hx1
          go_wp2
          go_round
          case rel => exact ⟨k, by omega, by go_num, HE⟩
          case measure => first | (simp; done) | (simp; omega)
        · have HE := Lib.hid (show afterF zs = zs.take k ++ [zs.getD k 0 + 1] by
            rw [HS.out, ← HK.out]
            rw [stripE_ne hx]
            rfl)
          have hown5 := own_take HO3.out hk HL.out
          have hl5 : (zs.take (k + 1)).length = k + 1 := by rw [List.length_take, HL.out]; omega
          have hfz := own_frozen hown5 k
          have hlo := own_lo hown5
          have HO5 := Lib.hid (own_set hown5 k (by omega) (zs.getD k 0 + 1))
          rw [set_last (zs := zs) (e := k) (by rw [HL.out]; omega)] at HO5
          have hx2 : zs.getD k 0 + 1 ≤ 255 := by omega
          have hxb : (zs.getD k 0 == 255) = false := by rw [beq_eq_false_iff_ne]; exact hx
          generalize zs.getD k 0 = x at *
          clear HK hx hown5 hl5
          go_wp2
          go_ret
          refine ⟨_, rfl, ?_, HB3.out.setCell (p := ⟨g3, k, none⟩) hlo _⟩
          rw [HE.out]
          rw [show (zs.take k ++ [x + 1]).length = k + 1 by rw [List.length_append, List.length_take, HL.out]; simp; omega]
          exact HO5.out
end Go.Proofs.Ythgpdnbmilcgcab
