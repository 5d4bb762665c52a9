/- A bag's Entries: its list. -/
import Derived.Test.YtplgkblahmndoaaBwCopy
import Derived.Test.YtplgkblahmndoaaBrSame
namespace Go.Proofs.Ytplgkblahmndoaa
open Go.RowKit Go.WideMaps Go.Maps Go.Sort
set_option linter.unusedVariables false
set_option maxRecDepth 100000

theorem encStr_kB (e : Ent) : encStr (kB e) = .string (strOfNums (kE e)) := by simp [encStr, kB]
/-- the sorted keys as they lie in their row -/
theorem keys_row {w : World} {B n : Nat} {v : Value} {L : List Ent} (h : w.ownsRow B 9 1 v n ((L.map kB).map encStr)) : ∃ a c, v = .slice a n c ∧ L.length = n ∧ (n = 0 ∨ ∃ g, a = some ⟨g, 0, none⟩ ∧ g < w.heap.size ∧ ∀ k e, L[k]? = some e → w.cell? ⟨g, k, none⟩ = some (.string (strOfNums (kE e)))) := by
  obtain ⟨hl, h⟩ := h
  simp only [List.length_map, Nat.mul_one] at hl
  rcases h with ⟨rfl, rfl⟩ | ⟨g, cap, cur, rfl, hB, hg, h1, h2, hs, ht⟩
  · exact ⟨none, 0, rfl, hl, .inl rfl⟩
  · refine ⟨some ⟨g, 0, none⟩, cap, rfl, hl, .inr ⟨g, rfl, (Array.getElem?_eq_some_iff.1 hg).1, fun k e he => ?_⟩⟩
    have hk := (List.getElem?_eq_some_iff.1 he).1
    have hc : ((L.map kB).map encStr)[k]? = some (encStr (kB e)) := by rw [List.getElem?_map, List.getElem?_map, he]; rfl
    rw [cell_of_row w g _ _ _ _ hg, ← Array.getElem?_toList, ← encStr_kB, ← hc, ← ht, List.getElem?_take, if_pos (by omega)]
theorem entT_bag : EntT 112 114 := ⟨Try.underlying112, by kernel_rfl⟩
/-- what Entries answers -/
def EntsPost (w : World) (L : List Ent) (e : Ending) (w' : World) : Prop := ∃ v S, e = .returned v ∧ S.map entOf = L ∧ w'.ownsRow w.heap.size 114 2 v L.length (flatE S) ∧ (∀ x ∈ S, RowE w' x) ∧ Below w.heap.size w w'
/-- where Entries is -/
def EntsAt (w1 : World) (L : List Ent) (k : Nat) (v : Value) (wr : World) : Prop := ∃ S, S.map entOf = L.take k ∧ wr.ownsRow w1.heap.size 114 2 v k (flatE S) ∧ (∀ w', wr.grownBy w' v.ownBlock → ∀ x ∈ S, RowE w' x) ∧ Below w1.heap.size w1 wr
theorem ents_more {w1 wr wg w8 w9 : World} {L : List Ent} {k g3 c3 : Nat} {v : Value} {S : List EntD} {e : Ent} {x8 : SlN} {o2 : Obj} (hS : S.map entOf = L.take k) (hown : wr.ownsRow w1.heap.size 114 2 v k (flatE S)) (hrows : ∀ w', wr.grownBy w' v.ownBlock → ∀ x ∈ S, RowE w' x) (hb : Below w1.heap.size w1 wr)
    (he : L[k]? = some e) (hok : ∀ v ∈ e.1, okV v) (hin : in64 e.2) (hbg : Below wr.heap.size wr wg) (hra : RowAt w8 wg.heap.size x8 e.1) (hb8 : Below wg.heap.size wg w8)
    (hown9 : w9.ownsRow w1.heap.size 114 2 (.slice (some ⟨g3, 0, none⟩) (k + 1) c3) (k + 1) (flatE S ++ flatE [⟨adA x8.1, x8.2.1, x8.2.2.1, e.1, e.2⟩])) (hg9 : (w8.alloc o2).grownBy w9 v.ownBlock) (hor : v.ownBlock = some g3 ∨ g3 = (w8.alloc o2).heap.size) : EntsAt w1 L (k + 1) (.slice (some ⟨g3, 0, none⟩) (k + 1) c3) w9 := by
  have hvl : ∀ i, v.ownBlock = some i → i < wr.heap.size := fun i hi => (hown.lt i hi).2
  have hs1 := hbg.size
  have hb89 : Below wr.heap.size wr (w8.alloc o2) := bt hbg (bt hb8 (bel0 _ (Below.refl _ _)))
  have hra9 : RowAt w9 wg.heap.size x8 e.1 := (hra.below (bel0 o2 (Below.refl _ _))).only (Only.of (S := fun i => v.ownBlock = some i) hg9 (fun K h => h)) (fun b o' hx _ hS => by
    have h2 := hvl b hS
    have h3 := (hra.2.2 b o' hx).1
    omega)
  refine ⟨S ++ [⟨adA x8.1, x8.2.1, x8.2.2.1, e.1, e.2⟩], ?_, ?_, fun w' hg' x hx => ?_, ?_⟩
  · rw [List.map_append, hS, take_snoc he]; rfl
  · rw [flatE_append]; exact hown9
  · rcases List.mem_append.1 hx with hx | hx
    · refine hrows w' ⟨hg'.os.trans (hg9.os.trans hb89.os), hg'.tape.trans (hg9.tape.trans hb89.tape), hg'.output.trans (hg9.output.trans hb89.output), Nat.le_trans hb89.size (Nat.le_trans hg9.size hg'.size), fun i hi hn => ?_⟩ x hx
      have h1 := hb89.block i hi
      have h2 := hg9.block i (Nat.lt_of_lt_of_le hi hb89.size) hn
      have h3 := hg'.block i (Nat.lt_of_lt_of_le (Nat.lt_of_lt_of_le hi hb89.size) hg9.size) (fun e => by
        have e := Option.some.inj e
        subst e
        rcases hor with h | h
        · exact hn h.symm
        · rw [h] at hi; have := hb89.size; omega)
      exact h3.trans (h2.trans h1)
    · obtain rfl := List.mem_singleton.1 hx
      have hra7 : RowAt w' wg.heap.size x8 e.1 := hra9.only (Only.of (S := fun i => some g3 = some i) hg' (fun K h => h)) (fun b o' hx _ hS => by
        cases hS
        have h3 := hra.2.2 g3 o' hx
        rcases hor with h | h
        · have h2 := hvl g3 h
          omega
        · simp at h
          omega)
      exact ⟨hra7.1, fun v hv => (hok v hv).2, hra7.2.1, hin⟩
  · exact (bt hb (hb89.mono (Nat.le_refl _))).grown hg9 (Nat.le_trans hb.size hb89.size) (fun i hi => (hown.lt i hi).1)
set_option maxHeartbeats 6400000 in
theorem bentries_any (w : World) (D B n : Nat) (mo : Option Nat) (Dm : DataW Unit) (t : Lit → Option SlN) (L : List Ent) (h : BagR w D B n mo Dm t L) (oL : OkL L) (hlen : L.length ≤ 10000) :
    Calls Try.prog 54 #[.pointer (some ⟨D, 0, none⟩)] w (EntsPost w L) := by
  have HD := Lib.hid h
  have HOk := Lib.hid oL
  clear h oL
  go_enter Try.func54, Try.ntmps54
  go_wp2_with fail
  refine (bsorted_any w D B n mo Dm t L HD.out (by rw [HD.out.size]; omega)).mono ?_
  rintro e w1 ⟨v, ss, rfl, hp, hown, hb1⟩
  have hln : ss.length = L.length := by rw [hp.length_eq, ← HD.out.keys.length_eq, List.length_map]
  rw [HD.out.sorted hp, hln] at hown
  obtain ⟨sa, sc, rfl, _, hrow⟩ := keys_row hown
  have HB1 := Lib.hid hb1
  have HD1 := Lib.hid (HD.out.below hb1)
  have HRow := Lib.hid hrow
  obtain ⟨l, hl⟩ : ∃ l, l = L.length := ⟨_, rfl⟩
  have HL := Lib.hid hl
  rw [← hl] at hlen HRow ⊢
  have hm : l ≤ 9223372036854775807 := by omega
  clear hp hln hown hb1 hrow hl
  go_wp2
  go_loopw [3, 12] (fun v i wr => ∃ k : Nat, k ≤ l ∧ i = .int .i64 (k : Int) ∧ Hid (EntsAt w1 L k v wr)) (fun v i _ => l - (intOf i).toNat)
  case atStart => exact ⟨0, by omega, rfl, Lib.hid ⟨[], rfl, World.ownsRow_nil _ _ _ _, (fun w' hg x hx => by cases hx), Below.refl _ _⟩⟩
  case round =>
    obtain ⟨k, hk, rfl, HK⟩ := hrel
    have hk0 : (0 : Int) ≤ (k : Int) := by omega
    by_cases hlt : k < l
    · have hki : (k : Int) < (l : Int) := by omega
      obtain ⟨e, he⟩ : ∃ e, L[k]? = some e := ⟨_, List.getElem?_eq_getElem (by have := HL.out; omega)⟩
      have hem := List.mem_of_getElem? he
      obtain ⟨S, hS, howr, hrows, hbr⟩ := HK.out
      have HDr := HD1.out.below hbr
      obtain ⟨x, hx, hxn, hxr⟩ := HDr.ent e hem
      have hSz : (strOfNums (keyVs e.1)).size ≤ maxLen := by
        rw [numBytes_size]
        have h1 := keyVs_len (l := e.1) (HDr.okr e hem).1
        have h2 := (HDr.okr e hem).2
        unfold maxLen
        omega
      have hlk : (Instr.lookup 109 (.map mo) (.string (strOfNums (kE e))) false).run Try.prog wr = .ok (.agg #[.slice (adA x.1) x.2.1 x.2.2.1, .int .i64 e.2]) wr := by
        have := HDr.look hSz hx
        rw [← hxn]
        exact this
      have d0 : wr.cell? ⟨D, 0, none⟩ = some (.map mo) := cell_of_row wr D 0 _ _ _ HDr.box
      rcases HRow.out with h0 | ⟨g, rfl, hg, hcs⟩
      · omega
      have s0 : wr.cell? ⟨g, k, none⟩ = some (.string (strOfNums (kE e))) := (hbr.cell (p := ⟨g, k, none⟩) hg).trans (hcs k e he)
      have HX := Lib.hid hxr
      have HO := Lib.hid howr
      have HRs := Lib.hid hrows
      have HBr := Lib.hid hbr
      have HE := Lib.hid he
      have HS := Lib.hid hS
      have HOr := Lib.hid (HDr.okr e hem)
      have HIn := Lib.hid (HOk.out.num e hem)
      obtain ⟨q, hq⟩ : ∃ q, q = e.2 := ⟨_, rfl⟩
      rw [← hq] at hlk
      have HQ := Lib.hid hq
      obtain ⟨Y, hY⟩ : ∃ Y, Y = strOfNums (kE e) := ⟨_, rfl⟩
      rw [← hY] at hlk s0
      clear hS howr hrows hbr HDr hx hxn hxr hSz hem he hq hY
      go_upto_region 8 with (fail)
      have hsz : x.2.1 ≤ 50 := by have := HX.out.1.1; have := HOr.out.2; omega
      obtain ⟨wg, hwg⟩ : ∃ wg, wg = wr.alloc (.cells #[.slice (adA x.1) x.2.1 x.2.2.1, .int .i64 q] 114) := ⟨_, rfl⟩
      have hnew : wg.heap[wr.heap.size]? = some (.cells #[.slice (adA x.1) x.2.1 x.2.2.1, .int .i64 q] 114 (0, 0)) := by rw [hwg]; exact Go.heap_alloc_new _ _
      have c0 := cell_of_row wg _ 0 _ _ _ hnew
      have c1 := cell_of_row wg _ 1 _ _ _ hnew
      simp only [List.getElem?_toArray, List.getElem?_cons_zero, List.getElem?_cons_succ] at c0 c1
      have HBg := Lib.hid (show Below wr.heap.size wr wg by rw [hwg]; exact bel0 _ (Below.refl _ _))
      have HPl := Lib.hid (Array.getElem?_eq_some_iff.1 hnew).1
      have HC1 := Lib.hid c1
      have HXg := Lib.hid (HX.out.1.below HBg.out)
      have HNl := Lib.hid HX.out.2.1
      have HOg := Lib.hid (own_below HO.out HBg.out)
      rw [← hwg]
      clear hwg hnew s0 d0 hlk
      go_region_law (first
        | (go_simp; go_at_call 58; refine (bclone_row (adA x.1) x.2.1 x.2.2.1 e.1 _ (by exact ⟨HXg.out.1, HXg.out.2.1, HXg.out.2.2⟩) HNl.out (by omega)).mono ?_; rintro e' w8 ⟨x8, rfl, hra8, hlc8, hb8⟩; have hb9 : Below wg.heap.size wg w8 := ⟨hb8.os, hb8.tape, hb8.output, hb8.size, hb8.block⟩; have d1 := (hb9.cell (p := ⟨wr.heap.size, 1, none⟩) HPl.out).trans HC1.out; have HRa := Lib.hid (show RowAt w8 wg.heap.size x8 e.1 from hra8); have HB8 := Lib.hid hb9; have HO8 := Lib.hid (own_below HOg.out hb9); have HRw := Lib.hid (show RowE w8 ⟨adA x8.1, x8.2.1, x8.2.2.1, e.1, q⟩ from ⟨hra8.1, fun v hv => (HOr.out.1 v hv).2, hra8.2.1, by rw [HQ.out]; exact HIn.out⟩); clear hra8 hlc8 hb8 hb9)
        | (refine step_append_e1 _ rfl (.tmp 22) (.tmp 29) 112 114 entT_bag rfl w1.heap.size u3 k (flatE S) rfl (own_below HO8.out (by repeat (first | exact Below.refl _ _ | refine bel0 _ ?_ | refine Below.drew ?_))) w8.heap.size ⟨adA x8.1, x8.2.1, x8.2.2.1, e.1, q⟩ rfl (isS_one (Go.heap_alloc_new _ _) (HRw.out.below (by repeat (first | exact Below.refl _ _ | refine bel0 _ ?_ | refine Below.drew ?_)))) (by omega) (by have := HB8.out.size; have := HBg.out.size; have := HBr.out.size; simp; omega) ?_; intro g3 c3 w9 hown9 hg9 hor9 hlt9))
      all_goals
        have HN := Lib.hid (ents_more HS.out HO.out HRs.out HBr.out HE.out HOr.out.1 HIn.out HBg.out HRa.out HB8.out (by rw [← HQ.out]; exact hown9) ⟨hg9.os, hg9.tape, hg9.output, hg9.size, hg9.block⟩ hor9)
        clear hown9 hg9 hor9
        go_wp2
        go_roundw
        case rel => exact ⟨k + 1, by omega, by go_num, HN⟩
        case measure => simp [intOf]; omega
    · obtain rfl : k = l := by omega
      obtain ⟨S, hS, howr, hrows, hbr⟩ := HK.out
      have HS := Lib.hid hS
      have HO := Lib.hid howr
      have HRs := Lib.hid hrows
      have HBr := Lib.hid hbr
      clear hS howr hrows hbr
      go_wp2
      go_ret
      exact ⟨_, S, rfl, by rw [HS.out, HL.out, List.take_of_length_le (Nat.le_refl _)], by rw [← HL.out]; exact own_lower HO.out HB1.out.size, HRs.out wr ⟨rfl, rfl, rfl, Nat.le_refl _, fun _ _ _ => rfl⟩, bt HB1.out HBr.out⟩
end Go.Proofs.Ytplgkblahmndoaa
