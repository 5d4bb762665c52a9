/- DiskParted: the law's walk. -/
import Derived.Test.YtbcjhngpcodaoaaDkL
import Derived.Test.YtbcjhngpcodaoaaDkFew
import Derived.Test.YtbcjhngpcodaoaaDkAwk
import Derived.Deep.RegionHeld3
import Derived.Deep.DeepCutAuto
namespace Go.Proofs.Ytbcjhngpcodaoaa
open Go.RowKit Go.Maps
set_option linter.unusedVariables false
set_option maxRecDepth 100000

/-- what a write leaves, and what it answers -/
def wrD (x : Hold) (f p : Int) (b : List Int) : Hold := (wrH x f p b).getD x
def wrC (x : Hold) (f p : Int) (b : List Int) : Int := if (wrH x f p b).isSome then 0 else 1
theorem wrD_few {x : Hold} {f p : Int} {b : List Int} {n : Nat} (h : x.few n) : (wrD x f p b).few (n + b.length) := by
  unfold wrD
  cases e : wrH x f p b with
  | none => obtain ⟨h1, h2, h3, h4⟩ := h; exact ⟨by show x.z0.length ≤ _; omega, by show x.z1.length ≤ _; omega, by show x.L0.length ≤ _; omega, by show x.L1.length ≤ _; omega⟩
  | some x' => exact wrH_few h e
theorem wrD_keys {x : Hold} {f p : Int} {b : List Int} (h : x.keys) (hf : x.few 1000000) (hb : b.length ≤ 25000) : (wrD x f p b).keys := by
  unfold wrD
  cases e : wrH x f p b with
  | none => exact h
  | some x' => exact wrH_keys h hf hb e
theorem Hold.few.mono {x : Hold} {n m : Nat} (h : x.few n) (hm : n ≤ m) : x.few m := ⟨by have := h.1; omega, by have := h.2.1; omega, by have := h.2.2.1; omega, by have := h.2.2.2; omega⟩
theorem pwrite_one (w : World) (D E B B0 : Nat) (x y : Hold) (f p : Int) (ba : Option Addr) (bl bc : Nat) (b : List Int) (h : Pair w D E B x y) (hx : x.few 1000000) (hBD : B0 ≤ D) (hBE : B0 ≤ E) (hBw : B0 ≤ w.heap.size)
    (hb : IsB w ba bl b) (hbn : ba = none → bl = 0 ∧ bc = 0) (hble : bl ≤ bc) (hb5 : bl ≤ 25000) (hbo : ∀ a, bl ≠ 0 → ba = some a → a.block < B0) :
    Calls Try.prog 23 #[.pointer (some ⟨D, 0, none⟩), .int .i64 f, .int .i64 p, .slice ba bl bc] w fun e w' => e = .returned (.int .i64 (wrC x f p b)) ∧ Pair w' D E B (wrD x f p b) y ∧ Below B0 w w' := by
  refine (pwrite_any w D E B B0 x y f p ba bl bc b h hx hBD hBE hBw hb hbn hble hb5 hbo).mono ?_
  rintro e w' (⟨x', e1, rfl, hp, hb⟩ | ⟨e1, rfl, rfl⟩)
  · unfold wrC wrD
    rw [e1]
    exact ⟨rfl, hp, hb⟩
  · unfold wrC wrD
    rw [e1]
    exact ⟨rfl, h, Below.refl _ _⟩
/-- two disks that can't be told apart -/
def Alike (x y : Hold) : Prop := x.z0 = y.z0 ∧ x.z1 = y.z1 ∧ nKeys x.L0 = nKeys y.L0 ∧ nKeys x.L1 = nKeys y.L1
theorem parted_yes {x : Hold} {p : Nat} {b : List Int} {k : Nat} (hp : p ≤ x.z0.length) (hk : k ≤ b.length) :
    wrC x 0 p b = 0 ∧ wrC x 0 p (b.take k) = 0 ∧ wrC (wrD x 0 p (b.take k)) 0 ((p : Int) + (k : Int)) (b.drop k) = 0 ∧ Alike (wrD x 0 p b) (wrD (wrD x 0 p (b.take k)) 0 ((p : Int) + (k : Int)) (b.drop k)) := by
  have h1 : wrH x 0 p b = some ⟨wrB x.z0 b p, x.L0 ++ secs p b.length, x.z1, x.L1⟩ := by
    unfold wrH
    rw [if_pos rfl, if_pos ⟨by omega, by omega⟩, Int.toNat_natCast]
  have hl : (b.take k).length = k := by rw [List.length_take]; omega
  have h2 : wrH x 0 p (b.take k) = some ⟨wrB x.z0 (b.take k) p, x.L0 ++ secs p k, x.z1, x.L1⟩ := by
    unfold wrH
    rw [if_pos rfl, if_pos ⟨by omega, by omega⟩, Int.toNat_natCast, hl]
  have h3 : wrD x 0 p (b.take k) = ⟨wrB x.z0 (b.take k) p, x.L0 ++ secs p k, x.z1, x.L1⟩ := by unfold wrD; rw [h2]; rfl
  have hm : p + k ≤ (wrB x.z0 (b.take k) p).length := by
    rw [wrB_length hp, hl]
    exact Nat.le_max_right _ _
  have h4 : wrH (wrD x 0 p (b.take k)) 0 ((p : Int) + (k : Int)) (b.drop k) = some ⟨wrB (wrB x.z0 (b.take k) p) (b.drop k) (p + k), (x.L0 ++ secs p k) ++ secs (p + k) (b.length - k), x.z1, x.L1⟩ := by
    rw [h3]
    unfold wrH
    have e : ((p : Int) + (k : Int)).toNat = p + k := by omega
    rw [if_pos rfl, if_pos ⟨by omega, by show (p : Int) + (k : Int) ≤ ((wrB x.z0 (b.take k) p).length : Int); omega⟩, e, List.length_drop]
  refine ⟨by unfold wrC; rw [h1]; rfl, by unfold wrC; rw [h2]; rfl, by unfold wrC; rw [h4]; rfl, ?_⟩
  unfold wrD at h4 ⊢
  rw [h1, h4]
  refine ⟨(wrB_two hp hk).symm, rfl, ?_, rfl⟩
  show nKeys (x.L0 ++ secs p b.length) = nKeys ((x.L0 ++ secs p k) ++ secs (p + k) (b.length - k))
  unfold nKeys
  rw [List.foldl_append, List.foldl_append, List.foldl_append, secs_two _ hk]
theorem parted_no {x : Hold} {p : Nat} {b : List Int} {k : Nat} (hp : x.z0.length < p) :
    wrC x 0 p b = 1 ∧ wrC x 0 p (b.take k) = 1 ∧ Alike (wrD x 0 p b) (wrD x 0 p (b.take k)) := by
  have h1 : ∀ c, wrH x 0 p c = none := fun c => by
    unfold wrH
    rw [if_pos rfl, if_neg (by omega)]
  refine ⟨by unfold wrC; rw [h1]; rfl, by unfold wrC; rw [h1]; rfl, ?_⟩
  unfold wrD
  rw [h1, h1]
  exact ⟨rfl, rfl, rfl, rfl⟩
theorem far_nil (v m : Value) : Far (.slice none 0 0) (.map none) v m := ⟨fun g h => (by cases h), fun g h => (by cases h)⟩
/-- two new disks -/
theorem pair_new (w : World) : Pair ((w.alloc (.cells #[.slice none 0 0, .slice none 0 0, .map none, .slice none 0 0, .slice none 0 0, .map none, .int .i64 1073741824, .bool false, .int .i64 0, .bool false] 151)).alloc (.cells #[.slice none 0 0, .slice none 0 0, .map none, .slice none 0 0, .slice none 0 0, .map none, .int .i64 1073741824, .bool false, .int .i64 0, .bool false] 151)) w.heap.size (w.heap.size + 1) (w.heap.size + 2) ⟨[], [], [], []⟩ ⟨[], [], [], []⟩ := by
  have fn : ∀ (W : World), FSt W (w.heap.size + 2) [] [] (.slice none 0 0) (.map none) := fun W => ⟨World.ownsRow_nil _ _ _ _, by simp, .inl ⟨rfl, rfl⟩⟩
  obtain ⟨o, ho⟩ : ∃ o, o = Obj.cells #[.slice none 0 0, .slice none 0 0, .map none, .slice none 0 0, .slice none 0 0, .map none, .int .i64 1073741824, .bool false, .int .i64 0, .bool false] 151 (0, 0) := ⟨_, rfl⟩
  have hz : (w.alloc o).heap.size = w.heap.size + 1 := by simp
  have b1 : ((w.alloc o).alloc o).heap[w.heap.size]? = some o := ((bel0 o (Below.refl (w.alloc o).heap.size (w.alloc o))).block w.heap.size (by omega)).trans (Go.heap_alloc_new w o)
  have b2 : ((w.alloc o).alloc o).heap[w.heap.size + 1]? = some o := by rw [← hz]; exact Go.heap_alloc_new (w.alloc o) o
  rw [← ho]
  refine ⟨by omega, _, _, _, _, _, _, _, _, _, _, _, _, ⟨by rw [b1, ho], by omega, by simp, fn _, fn _⟩, ⟨by rw [b2, ho], by omega, by simp, fn _, fn _⟩, far_nil _ _, far_nil _ _, far_nil _ _, far_nil _ _, far_nil _ _, far_nil _ _⟩
/-- within the loop: both disks hold the same -/
def BothIn (w : World) (D E B : Nat) (n : Nat) (wr : World) : Prop := ∃ x, Pair wr D E B x x ∧ x.few n ∧ x.keys ∧ Below w.heap.size w wr

set_option maxHeartbeats 6400000 in
theorem diskParted_walk (la : Option Addr) (ln lc : Nat) (f : Nat → OpD) (p : Nat) (ba : Option Addr) (bl bc : Nat) (b : List Int) (cut : Int) (w : World) (hL : IsOps w la ln f) (hp : p ≤ 65535) (hB : IsB w ba bl b ∧ (∀ x, bl ≠ 0 → ba = some x → x.block < w.heap.size) ∧ (ba = none → bl = 0 ∧ bc = 0)) (hbc : bl ≤ bc) (hcut0 : 0 ≤ cut) (hcut1 : cut ≤ 18446744073709551615) (hbl : bl ≤ 140737488351232) :
    Calls Try.prog 5 #[.slice la ln lc, .int .u16 (p : Int), .slice ba bl bc, .int .u64 cut] w fun e w' => e = .returned (.bool true) ∧ Below w.heap.size w w' := by
  have hm := hL.1
  have HL := Lib.hid hL
  have HBa := Lib.hid hB
  have HBc := Lib.hid hbc
  have hpi : (p : Int) ≤ 65535 := by omega
  have hp0 : (0 : Int) ≤ (p : Int) := by omega
  clear hL hB hbc hp
  go_enter Try.func5, Try.ntmps5
  go_wp2_with fail
  refine (dawake_any _).mono ?_
  rintro e w1 ⟨rfl, hb1⟩
  have HB1 := Lib.hid hb1
  clear hb1
  go_wp2_with fail
  refine (dfew_any la ln lc f _ (HL.out.below HB1.out)).mono ?_
  rintro e w2 ⟨rfl, hw⟩
  subst hw
  cases hfew : fewB f ln with
  | false =>
    clear hfew
    go_wp2_with fail
    refine (dawake_any _).mono ?_
    rintro e w2 ⟨rfl, hb2⟩
    have HB2 := Lib.hid (bt HB1.out hb2)
    clear hb2
    go_wp2
    go_ret
    exact ⟨rfl, HB2.out⟩
  | true =>
    have HFw := Lib.hid (fewB_bulk hfew)
    clear hfew
    by_cases h5 : 5000 < (bl : Int)
    · go_wp2_with fail
      refine (dawake_any _).mono ?_
      rintro e w2 ⟨rfl, hb2⟩
      have HB2 := Lib.hid (bt HB1.out hb2)
      clear hb2
      go_wp2
      go_ret
      exact ⟨rfl, HB2.out⟩
    · have h5' : (bl : Int) ≤ 5000 := by omega
      clear h5
      go_wp2_with fail
      refine (dnewB _).mono ?_
      rintro e wa ⟨rfl, ha⟩
      have HA := Lib.hid ha
      clear ha
      go_wp2_with fail
      refine (dnewB _).mono ?_
      rintro e wb ⟨rfl, hb⟩
      have hs : wa.heap.size = w2.heap.size + 1 := by rw [HA.out]; simp
      obtain ⟨D, hD⟩ : ∃ D, D = w2.heap.size := ⟨_, rfl⟩
      obtain ⟨E, hE⟩ : ∃ E, E = wa.heap.size := ⟨_, rfl⟩
      have HPair := Lib.hid (show Pair wb D E (w2.heap.size + 2) ⟨[], [], [], []⟩ ⟨[], [], [], []⟩ by rw [hD, hE, hs, hb, HA.out]; exact pair_new w2)
      have HDE := Lib.hid (show w.heap.size ≤ D ∧ w.heap.size ≤ E by have := HB1.out.size; omega)
      have HBb := Lib.hid (show Below w.heap.size w wb by rw [hb, HA.out]; exact bt HB1.out (bel0 _ (bel0 _ (Below.refl _ _))))
      generalize w2.heap.size + 2 = B at *
      rw [← hD, ← hE]
      clear HA hb hs hD hE
      go_wp2_with fail
      go_loopw [36] (fun i wr => ∃ k : Nat, k ≤ ln ∧ i = .int .i64 (k : Int) ∧ Hid (BothIn w D E B (bulk f k) wr)) (fun i _ => ln - (intOf i).toNat)
      case atStart => exact ⟨0, by omega, rfl, Lib.hid ⟨_, HPair.out, ⟨by simp, by simp, by simp, by simp⟩, ⟨by simp, by simp⟩, HBb.out⟩⟩
      case round =>
        obtain ⟨k, hk, rfl, HR⟩ := hrel
        have hk0 : (0 : Int) ≤ (k : Int) := by omega
        by_cases hlt : k < ln
        · have hki : (k : Int) < (ln : Int) := by omega
          rcases HL.out.2 with h0 | ⟨lb, lo, rfl, hlb, hops⟩
          · omega
          obtain ⟨x, hpx, hfx, hkx, hbx⟩ := HR.out
          have HX := Lib.hid hpx
          have HBx := Lib.hid hbx
          have ho := hops k hlt
          have HO := Lib.hid ho
          have HK := Lib.hid (And.intro hfx hkx)
          have hbu := HFw.out.2 (k + 1) hlt
          have hbl2 : (f k).bl ≤ 20000 := by simp only [bulk] at hbu; omega
          have HU := Lib.hid (show bulk f k ≤ 20000 ∧ (f k).bl ≤ 20000 from ⟨HFw.out.2 k hk, hbl2⟩)
          have HKlt := Lib.hid hlt
          have HS := Lib.hid (show ∀ W, Below w.heap.size w W → W.cell? ⟨lb, lo + k * 6 + 1, none⟩ = some (.int .i64 (f k).file) ∧ W.cell? ⟨lb, lo + k * 6 + 2, none⟩ = some (.int .i64 (f k).pos) ∧ W.cell? ⟨lb, lo + k * 6 + 4, none⟩ = some (.slice (f k).ba (f k).bl (f k).bc) from fun W hW =>
            ⟨(hW.cell (p := ⟨lb, lo + k * 6 + 1, none⟩) hlb).trans ho.c1, (hW.cell (p := ⟨lb, lo + k * 6 + 2, none⟩) hlb).trans ho.c2, (hW.cell (p := ⟨lb, lo + k * 6 + 4, none⟩) hlb).trans ho.c4⟩)
          have q0 := (hbx.cell (p := ⟨lb, lo + k * 6, none⟩) hlb).trans ho.c0
          have q1 := (hbx.cell (p := ⟨lb, lo + k * 6 + 1, none⟩) hlb).trans ho.c1
          have q2 := (hbx.cell (p := ⟨lb, lo + k * 6 + 2, none⟩) hlb).trans ho.c2
          have q4 := (hbx.cell (p := ⟨lb, lo + k * 6 + 4, none⟩) hlb).trans ho.c4
          have HI := Lib.hid (show IsB wr (f k).ba (f k).bl ((f k).bz.take (f k).bl) from (ho.bs.below hbx).isB)
          have HLow := Lib.hid (ho.bs.low)
          have HNil := Lib.hid (ho.bs.nilB)
          have HLe := Lib.hid (ho.bs.leB.1)
          have HLn := Lib.hid (show ((f k).bz.take (f k).bl).length = (f k).bl from ho.bs.isB.1)
          have HHi := Lib.hid hlb
          generalize hy : f k = y at *
          have HY := Lib.hid hy
          clear hy hpx hbx ho hfx hkx hbu hbl2 hops hlt hk hlb
          by_cases h1 : y.kind = 1
          · rw [h1] at q0
            clear h1
            go_upto_region 8 with (fail)
            refine wp_region_noPanic ?_
            go_region_held3 (fun W => W.cell? ⟨lb, lo + k * 6 + 1, none⟩ = some (.int .i64 y.file) ∧ W.cell? ⟨lb, lo + k * 6 + 2, none⟩ = some (.int .i64 y.pos) ∧ W.cell? ⟨lb, lo + k * 6 + 4, none⟩ = some (.slice y.ba y.bl y.bc))
              (first | exact ⟨q1, q2, q4⟩ | exact hS7)
              ((go_at_call 23; refine (pwrite_one _ D E B w.heap.size x x y.file y.pos y.ba y.bl y.bc (y.bz.take y.bl) (by exact HX.out.draw 1) (HK.out.1.mono (by have := HU.out; omega)) HDE.out.1 HDE.out.2 (by exact HBx.out.size) (by exact HI.out) HNil.out HLe.out (by have := HU.out; omega) HLow.out).mono ?_; rintro e w7 ⟨rfl, hp7, hb7⟩; have HP7 := Lib.hid hp7; have HB7 := Lib.hid (show Below w.heap.size w w7 from HBx.out.trans ⟨hb7.os, hb7.tape, hb7.output, hb7.size, hb7.block⟩); have hS7 : w7.cell? ⟨lb, lo + k * 6 + 1, none⟩ = some (.int .i64 y.file) ∧ w7.cell? ⟨lb, lo + k * 6 + 2, none⟩ = some (.int .i64 y.pos) ∧ w7.cell? ⟨lb, lo + k * 6 + 4, none⟩ = some (.slice y.ba y.bl y.bc) := HS.out w7 HB7.out; clear hp7 hb7))
            refine NoPanic.normal ?_
            have HI7 := Lib.hid (show IsB w7 y.ba y.bl (y.bz.take y.bl) from (HO.out.bs.below HB7.out).isB)
            obtain ⟨p1, p2, p4⟩ := hS7
            clear q0 q1 q2 q4
            go_upto_region 9 with (fail)
            refine wp_region_noPanic ?_
            go_region_held3 (fun W => W.cell? ⟨lb, lo + k * 6 + 1, none⟩ = some (.int .i64 y.file) ∧ W.cell? ⟨lb, lo + k * 6 + 2, none⟩ = some (.int .i64 y.pos) ∧ W.cell? ⟨lb, lo + k * 6 + 4, none⟩ = some (.slice y.ba y.bl y.bc))
              (first | exact ⟨p1, p2, p4⟩ | exact hS8)
              ((go_at_call 23; refine (pwrite_one _ E D B w.heap.size x (wrD x y.file y.pos (y.bz.take y.bl)) y.file y.pos y.ba y.bl y.bc (y.bz.take y.bl) (by exact (HP7.out.draw 1).swap) (HK.out.1.mono (by have := HU.out; omega)) HDE.out.2 HDE.out.1 (by exact HB7.out.size) (by exact HI7.out) HNil.out HLe.out (by have := HU.out; omega) HLow.out).mono ?_; rintro e w8 ⟨rfl, hp8, hb8⟩; have HP8 := Lib.hid hp8; have HB8 := Lib.hid (show Below w.heap.size w w8 from HB7.out.trans ⟨hb8.os, hb8.tape, hb8.output, hb8.size, hb8.block⟩); have hS8 : w8.cell? ⟨lb, lo + k * 6 + 1, none⟩ = some (.int .i64 y.file) ∧ w8.cell? ⟨lb, lo + k * 6 + 2, none⟩ = some (.int .i64 y.pos) ∧ w8.cell? ⟨lb, lo + k * 6 + 4, none⟩ = some (.slice y.ba y.bl y.bc) := HS.out w8 HB8.out; clear hp8 hb8))
            refine NoPanic.normal ?_
            have HR2 := Lib.hid (show BothIn w D E B (bulk f (k + 1)) w8 from ⟨wrD x y.file y.pos (y.bz.take y.bl), HP8.out.swap, by
              have h := wrD_few (f := y.file) (p := y.pos) (b := y.bz.take y.bl) HK.out.1
              rw [HLn.out] at h
              exact h.mono (by simp only [bulk, HY.out]; exact Nat.le_refl _), wrD_keys HK.out.2 (HK.out.1.mono (by have := HU.out; omega)) (by rw [HLn.out]; have := HU.out; omega), HB8.out⟩)
            clear p1 p2 p4 hS8
            go_wp2
            go_roundw
            case rel => exact ⟨k + 1, HKlt.out, by go_num, HR2⟩
            case measure => have := HKlt.out; simp [intOf]; omega
          · have h1b : (y.kind == 1) = false := beq_eq_false_iff_ne.2 h1
            clear h1
            go_wp2
            go_roundw
            case rel => exact ⟨k + 1, HKlt.out, by go_num, Lib.hid ⟨x, HX.out, HK.out.1.mono (by simp [bulk]), HK.out.2, HBx.out⟩⟩
            case measure => have := HKlt.out; simp [intOf]; omega
        · have hkk : (ln : Int) ≤ (k : Int) := by omega
          have HR2 := Lib.hid (show BothIn w D E B 20000 wr from by
            obtain ⟨x, a1, a2, a3, a4⟩ := HR.out
            exact ⟨x, a1, a2.mono (HFw.out.2 k hk), a3, a4⟩)
          clear HL HFw HR HPair HBb HB1 hm hlt hk0
          obtain ⟨x, hpx, hfx, hkx, hbx⟩ := HR2.out
          have HX := Lib.hid hpx
          have HBx := Lib.hid hbx
          have HK := Lib.hid (And.intro hfx hkx)
          have HIb := Lib.hid (show IsB wr ba bl b from HBa.out.1.below hbx HBa.out.2.1)
          have HLb := Lib.hid HBa.out.2.1
          have HNb := Lib.hid HBa.out.2.2
          clear hpx hfx hkx hbx HR2
          have hbn : (0 : Int) ≤ (bl : Int) := by omega
          have cv0 : IntKind.u64.wrap ((bl : Int) + 1) = (bl : Int) + 1 := by rw [IntKind.wrap_u64]; omega
          have hc2 : cut.tmod ((bl : Int) + 1) = cut % ((bl : Int) + 1) := Int.tmod_eq_emod_of_nonneg hcut0
          have hc3 : 0 ≤ cut % ((bl : Int) + 1) := Int.emod_nonneg _ (by omega)
          have hc4 : cut % ((bl : Int) + 1) < (bl : Int) + 1 := Int.emod_lt_of_pos _ (by omega)
          have HC := Lib.hid (And.intro hc2 (And.intro hc3 hc4))
          clear hc2 hc3 hc4
          go_upto_if 82 with (fail)
          go_cut [12] (fun v wx => wx = wr ∧ Hid (∃ m : Nat, m ≤ bl ∧ v = .int .i64 (m : Int)))
          case first =>
            by_cases h0 : 0 < (bl : Int)
            · go_wp2_with fail
              go_meet
              refine ⟨rfl, Lib.hid ⟨(cut % ((bl : Int) + 1)).toNat, by have := HC.out; omega, ?_⟩⟩
              have := HC.out
              congr 1
              unfold wrap64
              omega
            · go_wp2_with fail
              go_meet
              exact ⟨rfl, Lib.hid ⟨0, by omega, rfl⟩⟩
          case rest =>
            obtain ⟨hw, HM⟩ := hcut
            subst hw
            obtain ⟨m, hmb, rfl⟩ := HM.out
            have HMb := Lib.hid hmb
            have cv1 : IntKind.i64.wrap (p : Int) = (p : Int) := by rw [IntKind.wrap_i64]; omega
            have HLen := Lib.hid (show b.length = bl from HIb.out.1)
            have H5 := Lib.hid (show bl ≤ 5000 by omega)
            clear HM HC hcut0 hcut1 hbl cv0 hkk
            go_wp2_with fail
            refine (pwrite_one _ D E B w.heap.size x x 0 p ba bl bc b (by exact HX.out) (HK.out.1.mono (by omega)) HDE.out.1 HDE.out.2 (by exact HBx.out.size) (by exact HIb.out) HNb.out HBc.out (by have := H5.out; omega) HLb.out).mono ?_
            rintro e w3 ⟨rfl, hp3, hb3⟩
            have HP3 := Lib.hid hp3
            have HB3 := Lib.hid (HBx.out.trans hb3)
            have HI3 := Lib.hid (HBa.out.1.below HB3.out HBa.out.2.1)
            have sl1 : ∀ W, (Instr.slice 26 (.slice ba bl bc) none (some (.int .i64 (m : Int))) none).run Try.prog W = .ok (.slice ba m bc) W := fun W => slice_h ba bl bc m (by have := HMb.out; have := HBc.out; omega) .i64 W
            have sl2 : ∀ W, (Instr.slice 26 (.slice ba bl bc) (some (.int .i64 (m : Int))) none none).run Try.prog W = .ok (.slice (offA ba bc m) (bl - m) (bc - m)) W := fun W => slice_l ba bl bc m HMb.out .i64 W
            clear hp3 hb3
            go_wp2_with fail
            refine (pwrite_one _ E D B w.heap.size x (wrD x 0 p b) 0 p ba m bc (b.take m) (by exact HP3.out.swap) (HK.out.1.mono (by omega)) HDE.out.2 HDE.out.1 (by exact HB3.out.size) (by exact isB_take HI3.out HMb.out) (fun h => ⟨by have := (HNb.out h).1; have := HMb.out; omega, (HNb.out h).2⟩) (by have := HMb.out; have := HBc.out; omega) (by have := H5.out; have := HMb.out; omega) (fun a h1 h2 => HLb.out a (by have := HMb.out; omega) h2)).mono ?_
            rintro e w4 ⟨rfl, hp4, hb4⟩
            have HP4 := Lib.hid hp4.swap
            have HB4 := Lib.hid (HB3.out.trans hb4)
            have HI4 := Lib.hid (HBa.out.1.below HB4.out HBa.out.2.1)
            clear hp4 hb4
            have HF3 := Lib.hid (show (wrD x 0 p b).few 30000 by have h := wrD_few (f := 0) (p := p) (b := b) HK.out.1; rw [HLen.out] at h; exact h.mono (by have := H5.out; omega))
            have HF4 := Lib.hid (show (wrD x 0 p (b.take m)).few 30000 by have h := wrD_few (f := 0) (p := p) (b := b.take m) HK.out.1; exact h.mono (by have := H5.out; have := HLen.out; have := HMb.out; rw [List.length_take]; omega))
            have HK3 := Lib.hid (show (wrD x 0 p b).keys from wrD_keys HK.out.2 (HK.out.1.mono (by omega)) (by have := H5.out; have := HLen.out; omega))
            have HK4 := Lib.hid (show (wrD x 0 p (b.take m)).keys from wrD_keys HK.out.2 (HK.out.1.mono (by omega)) (by have := H5.out; have := HLen.out; rw [List.length_take]; omega))
            have HPar := Lib.hid (show (wrC x 0 p b = 0 ∧ wrC x 0 p (b.take m) = 0 ∧ wrC (wrD x 0 p (b.take m)) 0 ((p : Int) + (m : Int)) (b.drop m) = 0 ∧ Alike (wrD x 0 p b) (wrD (wrD x 0 p (b.take m)) 0 ((p : Int) + (m : Int)) (b.drop m))) ∨ (wrC x 0 p b = 1 ∧ wrC x 0 p (b.take m) = 1 ∧ Alike (wrD x 0 p b) (wrD x 0 p (b.take m))) from by
              by_cases h : p ≤ x.z0.length
              · exact .inl (parted_yes h (by have := HMb.out; have := HLen.out; omega))
              · exact .inr (parted_no (by omega)))
            generalize hc1 : wrC x 0 p b = c1 at *
            generalize hc2 : wrC x 0 p (b.take m) = c2 at *
            generalize hx3 : wrD x 0 p b = x3 at *
            generalize hx4 : wrD x 0 p (b.take m) = x4 at *
            clear hc1 hc2 hx3 hx4 HX HK HP3
            go_upto_if 103 with (fail)
            go_cut [14] (fun v wx => Hid (v = .int .i64 c1 ∧ ∃ x5, Pair wx D E B x3 x5 ∧ x5.few 60000 ∧ x5.keys ∧ Alike x3 x5 ∧ Below w.heap.size w wx))
            case first =>
              rcases HPar.out with ⟨rfl, rfl, h3, hal⟩ | ⟨rfl, rfl, hal⟩
              · have H3 := Lib.hid h3
                have HAl := Lib.hid hal
                clear h3 hal HPar
                have hpm : (m : Int) ≤ 5000 := by have := HMb.out; have := H5.out; omega
                have hm0 : (0 : Int) ≤ (m : Int) := by omega
                go_wp2_with fail
                refine (pwrite_one _ E D B w.heap.size x4 x3 0 ((p : Int) + (m : Int)) (offA ba bc m) (bl - m) (bc - m) (b.drop m) (by exact HP4.out.swap) (HF4.out.mono (by omega)) HDE.out.2 HDE.out.1 (by exact HB4.out.size) (by exact isB_off HI4.out HMb.out HBc.out) (offA_nil HNb.out) (by have := HMb.out; have := HBc.out; omega) (by have := H5.out; omega) (offA_lowB HLb.out)).mono ?_
                rintro e w5 ⟨rfl, hp5, hb5⟩
                have HP5 := Lib.hid hp5.swap
                have HB5 := Lib.hid (HB4.out.trans hb5)
                clear hp5 hb5
                rw [H3.out]
                go_wp2_with fail
                go_meet
                exact Lib.hid ⟨rfl, _, HP5.out, by
                  have h := wrD_few (f := 0) (p := (p : Int) + (m : Int)) (b := b.drop m) HF4.out
                  exact h.mono (by have := H5.out; have := HLen.out; rw [List.length_drop]; omega), wrD_keys HK4.out (HF4.out.mono (by omega)) (by have := H5.out; have := HLen.out; rw [List.length_drop]; omega), HAl.out, HB5.out⟩
              · have HAl := Lib.hid hal
                clear hal HPar
                go_wp2_with fail
                go_meet
                exact Lib.hid ⟨rfl, x4, HP4.out, HF4.out.mono (by omega), HK4.out, HAl.out, HB4.out⟩
            case rest =>
              obtain ⟨rfl, x5, hp5, hf5, hk5, hal, hb5⟩ := hcut.out
              have HP5 := Lib.hid hp5
              have HF5 := Lib.hid hf5
              have HK5 := Lib.hid hk5
              have HAl := Lib.hid hal
              have HB5 := Lib.hid hb5
              clear hp5 hf5 hk5 hal hb5 hcut HP4 HB4 HI4 HB3 HI3 HF4 HK4 HPar sl1 sl2 HIb
              go_wp2_with fail
              refine (psize0 (by exact HP5.out)).mono ?_
              rintro e w6 ⟨rfl, hw⟩
              subst hw
              go_wp2_with fail
              refine (pread0 (by exact HP5.out) (HF3.out.mono (by omega))).mono ?_
              rintro e w7 ⟨g1, l1, q1, rfl, hi1, hn1, hl1, hb7⟩
              have HI1 := Lib.hid hi1
              have HN1 := Lib.hid hn1
              have HL1 := Lib.hid hl1
              have HP7 := Lib.hid (HP5.out.below hb7)
              have HB7 := Lib.hid (bt HB5.out hb7)
              clear hi1 hn1 hl1 hb7
              go_wp2_with fail
              refine (psize0 (by exact HP7.out.swap)).mono ?_
              rintro e w8 ⟨rfl, hw⟩
              subst hw
              go_wp2_with fail
              refine (pread0 (by exact HP7.out.swap) (HF5.out.mono (by omega))).mono ?_
              rintro e w9 ⟨g2, l2, q2, rfl, hi2, hn2, hl2, hb9⟩
              have st1 := str_any (HI1.out.below hb9 HL1.out) HN1.out
              rw [HAl.out.1] at st1
              have st2 := str_any hi2 hn2
              have HP9 := Lib.hid (HP7.out.below hb9)
              have HB9 := Lib.hid (bt HB7.out hb9)
              have HU3 := Lib.hid (fun n => punsynced (HP9.out.draw n) (HF3.out.mono (by omega)) HK3.out)
              have HU5 := Lib.hid (fun n => punsynced (HP9.out.draw n).swap (HF5.out.mono (by omega)) HK5.out)
              have HL3 := Lib.hid (fun n => pleft (HP9.out.draw n) (HF3.out.mono (by omega)))
              have HL5 := Lib.hid (fun n => pleft (HP9.out.draw n).swap (HF5.out.mono (by omega)))
              have hu5 := HU5.out
              have hl5 := HL5.out
              rw [← HAl.out.2.2.1, ← HAl.out.2.2.2] at hu5
              rw [← HAl.out.1, ← HAl.out.2.1] at hl5
              have HU5 := Lib.hid hu5
              have HL5 := Lib.hid hl5
              clear hi2 hn2 hl2 hb9 hu5 hl5
              have HB9n := Lib.hid (show ∀ n, Below w.heap.size w (w9.drewN n) from fun n => ⟨HB9.out.os, HB9.out.tape, HB9.out.output, HB9.out.size, HB9.out.block⟩)
              go_wp2_with fail
              refine (HU3.out 0).mono ?_
              rintro e wu ⟨rfl, n1, hw⟩
              subst hw
              go_wp2_with fail
              refine (HU5.out _).mono ?_
              rintro e wu ⟨rfl, n2, hw⟩
              obtain ⟨n3, hw3⟩ : ∃ n3, wu = w9.drewN n3 := ⟨n1 + n2, by rw [hw, World.drewN_drewN]⟩
              clear hw
              subst hw3
              go_wp2_with fail
              refine (HL3.out _).mono ?_
              rintro e wu ⟨rfl, n4, hw⟩
              obtain ⟨n5, hw5⟩ : ∃ n5, wu = w9.drewN n5 := ⟨n3 + n4, by rw [hw, World.drewN_drewN]⟩
              clear hw
              subst hw5
              go_wp2_with fail
              refine (HL5.out _).mono ?_
              rintro e wu ⟨rfl, n6, hw⟩
              obtain ⟨n7, hw7⟩ : ∃ n7, wu = w9.drewN n7 := ⟨n5 + n6, by rw [hw, World.drewN_drewN]⟩
              clear hw
              subst hw7
              go_wp2
              go_ret
              exact ⟨rfl, HB9n.out _⟩
end Go.Proofs.Ytbcjhngpcodaoaa
