/- The program's Value: its finder's cell of any expression, formed or not. -/
import Derived.Test.YtafhgilikcablaaLxKey
import Derived.Test.YtafhgilikcablaaForm1
import Derived.Test.YtafhgilikcablaaEtEq
import Derived.Test.YtafhgilikcablaaSvSq
import Derived.Test.YtafhgilikcablaaSvR3
import Derived.Test.YtafhgilikcablaaSvBx
namespace Go.Proofs.Ytafhgilikcablaa
open Go.RowKit
set_option linter.unusedVariables false
set_option linter.unusedSimpArgs false
set_option maxRecDepth 100000
theorem decode_w4 (s : ByteArray) (pos : Nat) : (Utf8.decode s pos).2 ≤ 4 := by
  unfold Utf8.decode
  dsimp only
  repeat' split
  all_goals simp
theorem runes_size (s : ByteArray) : ∀ fuel pos, s.size ≤ pos + fuel → s.size ≤ pos + 4 * Lib.runeCountFrom s fuel pos
  | 0, pos, h => by omega
  | f + 1, pos, h => by
    unfold Lib.runeCountFrom
    by_cases hp : pos < s.size
    · rw [if_pos hp]
      have h1 := Lib.decode_width_pos s pos hp
      have h2 := decode_w4 s pos
      have := runes_size s f (pos + (Utf8.decode s pos).2) (by omega)
      omega
    · omega
theorem nmd_size {s : ByteArray} (h : nmdB s = true) : s.size ≤ 64 := by
  unfold nmdB at h
  simp only [Bool.and_eq_true, decide_eq_true_eq] at h
  have := runes_size s s.size 0 (by omega)
  have h2 : Lib.runeCount s = Lib.runeCountFrom s s.size 0 := rfl
  omega
set_option maxHeartbeats 1600000 in
theorem rname_all (s : ByteArray) (w : World) (hs : s.size ≤ maxLen) : Calls Try.prog 167 #[.string s] w fun e w' => e = .returned (.bool (nmB s)) ∧ Below w.heap.size w w' := by
  have HE := Lib.hid (nmB_eq s)
  have HS := Lib.hid hs
  obtain ⟨b, hb⟩ : ∃ b, b = nmB s := ⟨_, rfl⟩
  rw [← hb]
  have HB := Lib.hid hb
  clear hb hs
  go_enter Try.func167, Try.ntmps167
  go_wp2_with fail
  refine (rnamed_any s _ (by have := HS.out; unfold maxLen at this; omega)).mono ?_
  rintro e w1 ⟨rfl, hb1⟩
  have HB1 := Lib.hid hb1
  clear hb1
  cases hn : nmdB s with
  | false =>
    have HN := Lib.hid hn
    clear hn
    go_wp2
    go_ret
    exact ⟨by rw [HB.out, HE.out, HN.out]; rfl, HB1.out⟩
  | true =>
    have HN := Lib.hid hn
    clear hn
    go_wp2_with fail
    refine (rkeyword_any s _ (by have := nmd_size HN.out; omega)).mono ?_
    rintro e w2 ⟨rfl, hw⟩
    subst hw
    go_wp2
    go_ret
    exact ⟨by rw [HB.out, HE.out, HN.out]; rfl, HB1.out⟩
theorem pname_all (w : World) (s : ByteArray) (hs : s.size ≤ maxLen) : Calls Try.prog 177 #[.string s] w fun e w' => e = .returned (.bool (nmB s)) ∧ Below w.heap.size w w' :=
  name_any s w (by unfold maxLen at hs; omega)
/-- when an expression is formed -/
def fmdB (e : ET) : Bool := sndB (shD nmB formedB) 8 e
theorem pformed_all (w : World) (Q : Nat → Prop) (v : Value) (e : ET) (hv : EV w Q v e) : Calls Try.prog 132 #[v, .int .i64 8] w fun e' w' => e' = .returned (.bool (fmdB e)) ∧ Below w.heap.size w w' := by
  have h := eformed_any (shP nmB formedB) (fun w Q v e h => shaped_any nmB pname_all formedB (fun w a n s => (formed_any a n s w).mono (fun _ _ h => ⟨h.1, by rw [← h.2]; exact bel0 _ (Below.refl _ _)⟩)) w Q v e h) 8 (Nat.le_refl _) w Q v e hv
  rw [sndB_congr (shP_is nmB formedB)] at h
  exact h
theorem rsound_all (w : World) (Q : Nat → Prop) (v : Value) (e : ET) (hv : EV w Q v e) : Calls Try.prog 96 #[v, .int .i64 8] w fun e' w' => e' = .returned (.bool (fmdB e)) ∧ Below w.heap.size w w' :=
  sound_any (shD nmB formedB) (fun w Q v e h => shape_any nmB (fun w s hs => rname_all s w hs) formedB (fun w a n s => (rformed_any a n s w).mono (fun _ _ h => ⟨h.1, by rw [← h.2]; exact bel0 _ (Below.refl _ _)⟩)) w Q v e h) 8 (Nat.le_refl _) w Q v e hv
set_option maxHeartbeats 1600000 in
theorem pFormed_any (w : World) (Q : Nat → Prop) (v : Value) (e : ET) (hv : EV w Q v e) : Calls Try.prog 94 #[v] w fun e' w' => e' = .returned (.bool (fmdB e)) ∧ Below w.heap.size w w' := by
  obtain ⟨sa, sc, rfl, hrg, hel⟩ := hv
  have HV := Lib.hid (show ∀ W, Below w.heap.size w W → Calls Try.prog 132 #[.agg #[.int .i64 e.kind, .string e.op, .int .i64 e.vk, .int .i64 e.vn, .string e.vs, .string e.tab, .string e.col, .slice sa e.parts.length sc], .int .i64 8] W fun e' w' => e' = .returned (.bool (fmdB e)) ∧ Below W.heap.size W w' from fun W hW => pformed_all W Q _ e ⟨sa, sc, rfl, hrg, hel.keep hW⟩)
  have HB := Lib.hid (show Below w.heap.size w (w.alloc (.cells #[.int .i64 e.kind, .string e.op, .int .i64 e.vk, .int .i64 e.vn, .string e.vs, .string e.tab, .string e.col, .slice sa e.parts.length sc] 52)) from bel0 _ (Below.refl _ _))
  have e0 : (etX e sa sc).toArray = #[.int .i64 e.kind, .string e.op, .int .i64 e.vk, .int .i64 e.vn, .string e.vs, .string e.tab, .string e.col, .slice sa e.parts.length sc] := rfl
  rw [e0]
  clear hrg hel e0
  go_enter Try.func94, Try.ntmps94
  go_wp2_with fail
  refine (HV.out _ HB.out).mono ?_
  rintro e' w2 ⟨rfl, hb2⟩
  go_wp2_with fail
  go_ret
  exact ⟨rfl, bt HB.out hb2⟩
set_option maxHeartbeats 1600000 in
theorem rFormed_any (w : World) (Q : Nat → Prop) (v : Value) (e : ET) (hv : EV w Q v e) : Calls Try.prog 60 #[v] w fun e' w' => e' = .returned (.bool (fmdB e)) ∧ Below w.heap.size w w' := by
  obtain ⟨sa, sc, rfl, hrg, hel⟩ := hv
  have HV := Lib.hid (show ∀ W, Below w.heap.size w W → Calls Try.prog 96 #[.agg #[.int .i64 e.kind, .string e.op, .int .i64 e.vk, .int .i64 e.vn, .string e.vs, .string e.tab, .string e.col, .slice sa e.parts.length sc], .int .i64 8] W fun e' w' => e' = .returned (.bool (fmdB e)) ∧ Below W.heap.size W w' from fun W hW => rsound_all W Q _ e ⟨sa, sc, rfl, hrg, hel.keep hW⟩)
  have HB := Lib.hid (show Below w.heap.size w (w.alloc (.cells #[.int .i64 e.kind, .string e.op, .int .i64 e.vk, .int .i64 e.vn, .string e.vs, .string e.tab, .string e.col, .slice sa e.parts.length sc] 41)) from bel0 _ (Below.refl _ _))
  have e0 : (etX e sa sc).toArray = #[.int .i64 e.kind, .string e.op, .int .i64 e.vk, .int .i64 e.vn, .string e.vs, .string e.tab, .string e.col, .slice sa e.parts.length sc] := rfl
  rw [e0]
  clear hrg hel e0
  go_enter Try.func60, Try.ntmps60
  go_wp2_with fail
  refine (HV.out _ HB.out).mono ?_
  rintro e' w2 ⟨rfl, hb2⟩
  go_wp2_with fail
  go_ret
  exact ⟨rfl, bt HB.out hb2⟩
end Go.Proofs.Ytafhgilikcablaa
namespace Go.Proofs.Ytafhgilikcablaa
open Go.RowKit
set_option linter.unusedVariables false
set_option linter.unusedSimpArgs false
set_option maxRecDepth 100000
theorem clSz_map_le (f : ET → CT) : ∀ l : List ET, (∀ p ∈ l, ctSz (f p) ≤ etSz p) → clSz (l.map f) ≤ elSz l
  | [], _ => Nat.le_refl _
  | p :: l, h => by
    show ctSz (f p) + clSz (l.map f) ≤ etSz p + elSz l
    have h1 := h p List.mem_cons_self
    have h2 := clSz_map_le f l (fun q hq => h q (List.mem_cons_of_mem _ hq))
    omega
theorem etSz_pos (e : ET) : 1 ≤ etSz e := by rw [etSz_is]; omega
theorem ctZ_sz : ctSz ctZ = 1 := rfl
theorem colV_sz (F : FnD) (t col : ByteArray) : ctSz (colV F t col).1 = 1 := by
  unfold colV
  cases colI F t col with
  | none => rfl
  | some i =>
    show ctSz (colR F col i).1 = 1
    unfold colR
    dsimp only
    split <;> rfl
theorem finV_sz {k : Int} {op : ByteArray} {may : Bool} {l : List ET} {f : ET → CT × Int × Int} (h : ∀ p ∈ l, ctSz (f p).1 ≤ etSz p) : ctSz (finV k op may (l.map f)).1 ≤ 1 + elSz l := by
  unfold finV
  split
  · show 1 ≤ _; omega
  · split
    · show 1 ≤ _; omega
    · show 1 + clSz ((l.map f).map (·.1)) ≤ _
      rw [List.map_map]
      have := clSz_map_le (fun p => (f p).1) l h
      exact Nat.add_le_add_left this 1
theorem resV_sz (F : FnD) : ∀ (N : Nat) (may : Bool) (e : ET), etSz e ≤ N → ctSz (resV F may e).1 ≤ etSz e := by
  intro N
  induction N with
  | zero => intro may e h; rw [etSz_is] at h; omega
  | succ N ih =>
    intro may e h
    by_cases h1 : e.kind = 1
    · rw [resV_1 F may e h1]; exact etSz_pos e
    by_cases h2 : e.kind = 2
    · rw [resV_2 F may e h2, colV_sz]; exact etSz_pos e
    rw [resV_n F may e h1 h2, etSz_is]
    exact finV_sz (fun p hp => ih _ p (by have := etSz_part hp; omega))
theorem sumsRL_congr {f g : Int → ByteArray → Bool} {l : List CT} (h : ∀ c ∈ l, sumsR f c = sumsR g c) : sumsRL f l = sumsRL g l := by
  rw [sumsRL_any, sumsRL_any]
  induction l with
  | nil => rfl
  | cons c l ih => rw [List.any_cons, List.any_cons, h c List.mem_cons_self, ih (fun x hx => h x (List.mem_cons_of_mem _ hx))]
theorem colV_sums (F : FnD) (t col : ByteArray) : sumsR sumHD (colV F t col).1 = sumsR reckP (colV F t col).1 := by
  have z : sumsR sumHD ctZ = sumsR reckP ctZ := by decide +kernel
  unfold colV
  cases colI F t col with
  | none => exact z
  | some i =>
    show sumsR sumHD (colR F col i).1 = sumsR reckP (colR F col i).1
    unfold colR
    dsimp only
    split
    · exact z
    · rw [sumsR_is, sumsR_is]
      have : sumHD 2 ⟨#[]⟩ = reckP 2 ⟨#[]⟩ := by decide +kernel
      exact congrArg (fun b => b || false) this
theorem head_sums {k : Int} {op : ByteArray} {n : Nat} (h : OpOk k op n) (h1 : k ≠ 1) (h2 : k ≠ 2) : sumHD k op = reckP k op := by
  unfold OpOk at h
  unfold sumHD reckP reckB
  by_cases h3 : k = 3
  · subst h3
    simp at h
    rcases h.2 with h | h <;> simp [h]
  by_cases h4 : k = 4
  · subst h4
    by_cases a : op.toList = [45] <;> by_cases b : op.toList = [43] <;> by_cases c : op.toList = [42] <;> simp [a, b, c]
  · have a : (k == 3) = false := by simp [h3]
    have b : (k == 4) = false := by simp [h4]
    rw [a, b]
    simp
theorem resV_sums (F : FnD) (nm : ByteArray → Bool) (fm : Int → Int → ByteArray → Bool) : ∀ (N : Nat) (may : Bool) (e : ET) (d : Nat), etSz e ≤ N → sndB (shD nm fm) d e = true → sumsR sumHD (resV F may e).1 = sumsR reckP (resV F may e).1 := by
  intro N
  induction N with
  | zero => intro may e d h; rw [etSz_is] at h; omega
  | succ N ih =>
    intro may e d h hs
    by_cases h1 : e.kind = 1
    · rw [resV_1 F may e h1, sumsR_is, sumsR_is]
      have : sumHD 1 ⟨#[]⟩ = reckP 1 ⟨#[]⟩ := by decide +kernel
      exact congrArg (fun b => b || false) this
    by_cases h2 : e.kind = 2
    · rw [resV_2 F may e h2]; exact colV_sums F _ _
    rw [resV_n F may e h1 h2]
    have hok := shD_ok (snd_top hs) h1 h2
    have z : sumsR sumHD ctZ = sumsR reckP ctZ := by decide +kernel
    unfold finV
    split
    · exact z
    · split
      · exact z
      · rw [sumsR_is, sumsR_is]
        refine congr (congrArg or (head_sums hok h1 h2)) ?_
        refine sumsRL_congr (fun c hc => ?_)
        have hc : c ∈ ((e.parts.map (resV F (may && (e.kind != 6)))).map (·.1)) := hc
        rw [List.map_map] at hc
        obtain ⟨p, hp, rfl⟩ := List.mem_map.1 hc
        exact ih _ p (d - 1) (by have := etSz_part hp; omega) (snd_part hs hp)
/-- a number that stands for no table -/
def outB (tabs : List TB) (s : Int) : Bool := decide (s < 0) || decide ((tabs.length : Int) ≤ s)
def nmOf (tabs : List TB) (s : Int) : ByteArray := (tabs.getD s.toNat default).name
def FnOf (tabs : List TB) (srcs : List Int) : FnD := ⟨tabs, srcs.map Int.toNat, srcs.map (nmOf tabs)⟩
def scV (tabs : List TB) (srcs : List Int) (e : ET) : CT × Int × Int := if (srcs.any (outB tabs) || !fmdB e) = true then (ctZ, 0, 1) else resV (FnOf tabs srcs) false e
theorem scV_out {tabs : List TB} {srcs : List Int} {e : ET} (h : srcs.any (outB tabs) = true) : scV tabs srcs e = (ctZ, 0, 1) := if_pos (by rw [h]; rfl)
theorem scV_bad {tabs : List TB} {srcs : List Int} {e : ET} (h : fmdB e = false) : scV tabs srcs e = (ctZ, 0, 1) := if_pos (by rw [h]; simp)
theorem scV_ok {tabs : List TB} {srcs : List Int} {e : ET} (h : srcs.any (outB tabs) = false) (hf : fmdB e = true) : scV tabs srcs e = resV (FnOf tabs srcs) false e := if_neg (by rw [h, hf]; decide)
theorem scV_sz (tabs : List TB) (srcs : List Int) (e : ET) : ctSz (scV tabs srcs e).1 ≤ etSz e := by
  unfold scV
  split
  · exact etSz_pos e
  · exact resV_sz _ _ _ e (Nat.le_refl _)
theorem scV_sums (tabs : List TB) (srcs : List Int) (e : ET) : sumsR sumHD (scV tabs srcs e).1 = sumsR reckP (scV tabs srcs e).1 := by
  unfold scV
  split
  · decide +kernel
  · rename_i h
    have hf : fmdB e = true := by
      cases hb : fmdB e with
      | true => rfl
      | false => rw [hb] at h; simp at h
    exact resV_sums _ _ _ _ _ e 8 (Nat.le_refl _) hf
theorem out_ok {tabs : List TB} {s : Int} (h : outB tabs s = false) : 0 ≤ s ∧ s < tabs.length := by
  unfold outB at h
  simp at h
  omega
theorem toNat_back {tabs : List TB} {srcs : List Int} (h : srcs.any (outB tabs) = false) : (srcs.map Int.toNat).map Int.ofNat = srcs := by
  rw [List.map_map]
  induction srcs with
  | nil => rfl
  | cons s l ih =>
    rw [List.any_cons, Bool.or_eq_false_iff] at h
    rw [List.map_cons, ih h.2]
    have := out_ok h.1
    congr 1
    show ((s.toNat : Nat) : Int) = s
    omega
theorem fnOf_at {w : World} {tabs : List TB} {srcs : List Int} {ta sa na : Option Addr} (h : srcs.any (outB tabs) = false) (ht : TabsAt w ta tabs) (hs : IntsAt w sa srcs) (hn : StrsAt w na (srcs.map (nmOf tabs))) (h1 : tabs.length ≤ 9223372036854775807) (h2 : srcs.length ≤ 9223372036854775807) : FnAt w (FnOf tabs srcs) ta sa na := by
  refine ⟨ht, ?_, hn, ?_, ?_, h1, ?_⟩
  · show IntsAt w sa ((srcs.map Int.toNat).map Int.ofNat)
    rw [toNat_back h]; exact hs
  · intro s hs
    obtain ⟨x, hx, rfl⟩ := List.mem_map.1 hs
    have := out_ok (List.any_eq_false.1 h x hx |> fun h => by simpa using h)
    show x.toNat < tabs.length
    omega
  · show (srcs.map (nmOf tabs)).length = (srcs.map Int.toNat).length
    simp
  · show (srcs.map Int.toNat).length ≤ _
    simpa using h2
end Go.Proofs.Ytafhgilikcablaa
namespace Go.Proofs.Ytafhgilikcablaa
open Go.RowKit
set_option linter.unusedVariables false
set_option linter.unusedSimpArgs false
set_option maxRecDepth 100000
def celV (F : FnD) (may : Bool) (e : ET) : CT × Int × Int := if fmdB e = true then resV F may e else (ctZ, 0, 1)
set_option maxHeartbeats 3200000 in
theorem pcell_any (F : FnD) (e : ET) (hsz : etSz e ≤ 1000) (w : World) (ta sa na : Option Addr) (tn tc sn sc nn nc : Nat) (hF : FnAt w F ta sa na) (htn : tn = F.tabs.length) (hsn : sn = F.srcs.length) (hnn : nn = F.names.length) (Q : Nat → Prop) (v : Value) (may : Bool) (hv : EV w Q v e) :
    Calls Try.prog 59 #[.agg #[.slice ta tn tc, .slice sa sn sc, .slice na nn nc], v, .bool may] w (CellAns w (celV F may e)) := by
  obtain ⟨pa, pc, rfl, hrg, hel⟩ := hv
  have HEv := Lib.hid (show ∀ W, Below w.heap.size w W → EV W Q (.agg #[.int .i64 e.kind, .string e.op, .int .i64 e.vk, .int .i64 e.vn, .string e.vs, .string e.tab, .string e.col, .slice pa e.parts.length pc]) e from fun W hW => ⟨pa, pc, rfl, hrg, hel.keep hW⟩)
  have HRs := Lib.hid (show fmdB e = true → ∀ W, Below w.heap.size w W → Calls Try.prog 95 #[.agg #[.slice ta tn tc, .slice sa sn sc, .slice na nn nc], .agg #[.int .i64 e.kind, .string e.op, .int .i64 e.vk, .int .i64 e.vn, .string e.vs, .string e.tab, .string e.col, .slice pa e.parts.length pc], .bool may] W (CellAns W (resV F may e)) from fun hf W hW => presolve_any F nmB formedB (etSz e) e (Nat.le_refl _) hsz W ta sa na tn tc sn sc nn nc (hF.keep hW) htn hsn hnn Q _ may 8 (HEv.out W hW) hf)
  clear hF htn hsn hnn hrg hel hsz
  have HB := Lib.hid (bel0 (.cells #[.int .i64 0, .string ⟨#[]⟩, .int .i64 0, .int .i64 0, .string ⟨#[]⟩, .int .i64 0, .int .i64 0, .slice none 0 0] 46) (bel0 (.cells #[.int .i64 e.kind, .string e.op, .int .i64 e.vk, .int .i64 e.vn, .string e.vs, .string e.tab, .string e.col, .slice pa e.parts.length pc] 52) (bel0 (.cells #[.slice ta tn tc, .slice sa sn sc, .slice na nn nc] 115) (Below.refl w.heap.size w))))
  have HBX := Lib.hid (boxes3 w (.cells #[.slice ta tn tc, .slice sa sn sc, .slice na nn nc] 115 (0, 0)) (.cells #[.int .i64 e.kind, .string e.op, .int .i64 e.vk, .int .i64 e.vn, .string e.vs, .string e.tab, .string e.col, .slice pa e.parts.length pc] 52 (0, 0)) (.cells #[.int .i64 0, .string ⟨#[]⟩, .int .i64 0, .int .i64 0, .string ⟨#[]⟩, .int .i64 0, .int .i64 0, .slice none 0 0] 46 (0, 0)))
  have e0 : (etX e pa pc).toArray = #[.int .i64 e.kind, .string e.op, .int .i64 e.vk, .int .i64 e.vn, .string e.vs, .string e.tab, .string e.col, .slice pa e.parts.length pc] := rfl
  rw [e0]
  clear e0
  go_enter Try.func59, Try.ntmps59
  go_upto_region 1 with (fail)
  generalize (((w.alloc (.cells #[.slice ta tn tc, .slice sa sn sc, .slice na nn nc] 115)).alloc (.cells #[.int .i64 e.kind, .string e.op, .int .i64 e.vk, .int .i64 e.vn, .string e.vs, .string e.tab, .string e.col, .slice pa e.parts.length pc] 52)).alloc (.cells #[.int .i64 0, .string ⟨#[]⟩, .int .i64 0, .int .i64 0, .string ⟨#[]⟩, .int .i64 0, .int .i64 0, .slice none 0 0] 46)) = w1 at *
  have HC := Lib.hid (show ∀ W : World, Below w1.heap.size w1 W → (W.heap[w.heap.size]? = some (.cells #[.slice ta tn tc, .slice sa sn sc, .slice na nn nc] 115 (0, 0)) ∧ W.heap[w.heap.size + 1]? = some (.cells #[.int .i64 e.kind, .string e.op, .int .i64 e.vk, .int .i64 e.vn, .string e.vs, .string e.tab, .string e.col, .slice pa e.parts.length pc] 52 (0, 0)) ∧ W.heap[w.heap.size + 1 + 1]? = some (.cells #[.int .i64 0, .string ⟨#[]⟩, .int .i64 0, .int .i64 0, .string ⟨#[]⟩, .int .i64 0, .int .i64 0, .slice none 0 0] 46 (0, 0)) ∧ w.heap.size + 1 + 1 < W.heap.size) from fun W h => by
    obtain ⟨⟨h0, h1, h2⟩, hz⟩ := HBX.out
    have k2 := (h.block (w.heap.size + 1 + 1) (by omega)).trans h2
    exact ⟨(h.block w.heap.size (by omega)).trans h0, (h.block (w.heap.size + 1) (by omega)).trans h1, k2, (Array.getElem?_eq_some_iff.1 k2).1⟩)
  obtain ⟨hF, hE, hR, c6⟩ := HC.out w1 (Below.refl _ _)
  obtain ⟨e0, e1, e2, e3, e4, e5, e6, e7⟩ := cellsE hE
  clear hE hR hF
  go_wp2_with fail
  refine (pFormed_any _ Q _ e (HEv.out _ HB.out)).mono ?_
  rintro e' w2 ⟨rfl, hb2⟩
  have HB2 := Lib.hid (show Below w1.heap.size w1 w2 from hb2)
  have HBw := Lib.hid (bt HB.out hb2)
  clear hb2 c6 e0 e1 e2 e3 e4 e5 e6 e7
  cases hf : fmdB e with
  | false =>
    have HQ := Lib.hid (show celV F may e = (ctZ, 0, 1) by unfold celV; rw [hf]; rfl)
    obtain ⟨-, -, hX, c6⟩ := HC.out w2 HB2.out
    have HX9 := Lib.hid (box8 hX (.int .i64 0) (.string ⟨#[]⟩) (.int .i64 0) (.int .i64 0) (.string ⟨#[]⟩) (.int .i64 0) (.int .i64 0) (.slice none 0 0))
    have HB9 := Lib.hid (box8_below (K := w.heap.size) (N := w.heap.size + 1 + 1) (by omega) HBw.out (.int .i64 0) (.string ⟨#[]⟩) (.int .i64 0) (.int .i64 0) (.string ⟨#[]⟩) (.int .i64 0) (.int .i64 0) (.slice none 0 0))
    obtain ⟨y0, y1, y2, y3, y4, y5, y6, y7, z0, z1, z2, z3, z4, z5, z6, z7, c7⟩ := z8 hX
    clear hX c6
    go_wp2
    refine bodyPost_ret (results_cellP rfl _ _ (w.heap.size + 1 + 1) _ rfl rfl HX9.out) rfl ?_
    rw [HQ.out]
    exact ⟨⟨_, rfl, none, 0, rfl, rgZ, .nil _⟩, HB9.out⟩
  | true =>
    have HQ := Lib.hid (show celV F may e = resV F may e by unfold celV; rw [hf]; rfl)
    have HRs2 := Lib.hid (HRs.out hf)
    clear hf
    obtain ⟨hF, hE, hR, c6⟩ := HC.out w2 HB2.out
    obtain ⟨e0, e1, e2, e3, e4, e5, e6, e7⟩ := cellsE hE
    obtain ⟨f0, f1, f2⟩ := cells3 hF
    clear hE hR hF
    go_wp2_with fail
    refine (HRs2.out _ HBw.out).mono ?_
    rintro e' w3 ⟨⟨v, rfl, ra, rc, rfl, hrg, hcl⟩, hb3⟩
    have HB3 := Lib.hid (bt HB2.out hb3)
    have HBw3 := Lib.hid (bt HBw.out hb3)
    have HRg := Lib.hid hrg
    have HCl := Lib.hid hcl
    clear hb3 hrg hcl c6 e0 e1 e2 e3 e4 e5 e6 e7 f0 f1 f2
    obtain ⟨c, hc⟩ : ∃ c, c = (resV F may e).1 := ⟨_, rfl⟩
    obtain ⟨kd, hkd⟩ : ∃ kd, kd = (resV F may e).2.1 := ⟨_, rfl⟩
    obtain ⟨er, her⟩ : ∃ er, er = (resV F may e).2.2 := ⟨_, rfl⟩
    have HV := Lib.hid (show celV F may e = (c, kd, er) by rw [HQ.out, hc, hkd, her])
    rw [← hc] at HRg HCl
    rw [← hc, ← hkd, ← her]
    clear hc hkd her
    obtain ⟨-, -, hR, c6⟩ := HC.out w3 HB3.out
    have HX9 := Lib.hid (box8 hR (.int .i64 c.kind) (.string c.op) (.int .i64 c.vk) (.int .i64 c.vn) (.string c.vs) (.int .i64 c.src) (.int .i64 c.col) (.slice ra c.parts.length rc))
    have HB9 := Lib.hid (box8_below (K := w.heap.size) (N := w.heap.size + 1 + 1) (by omega) HBw3.out (.int .i64 c.kind) (.string c.op) (.int .i64 c.vk) (.int .i64 c.vn) (.string c.vs) (.int .i64 c.src) (.int .i64 c.col) (.slice ra c.parts.length rc))
    have HCL := Lib.hid (cl_set8 (N := w.heap.size + 1 + 1) (K := w2.heap.size) (by have := HBX.out.2; have := HB2.out.size; omega) HCl.out (.int .i64 c.kind) (.string c.op) (.int .i64 c.vk) (.int .i64 c.vn) (.string c.vs) (.int .i64 c.src) (.int .i64 c.col) (.slice ra c.parts.length rc))
    obtain ⟨y0, y1, y2, y3, y4, y5, y6, y7, z0, z1, z2, z3, z4, z5, z6, z7, c7⟩ := z8 hR
    clear hR
    rw [ctX_arrT]
    go_wp2
    refine bodyPost_ret (results_cellP rfl _ _ (w.heap.size + 1 + 1) _ rfl rfl HX9.out) rfl ?_
    rw [HV.out]
    exact ⟨⟨_, rfl, ra, rc, rfl, HRg.out, HCL.out.mono (fun b hb _ => Nat.le_trans HBw.out.size hb)⟩, HB9.out⟩
/-- the names of sources, as they come together -/
structure VaRel (w w1 : World) (FB T : Nat) (fa fs : Value) (l : List ByteArray) (nv : Value) (wr : World) : Prop where
  below : Below w.heap.size w wr
  size : w1.heap.size ≤ wr.heap.size
  low : ∀ i, i < w1.heap.size → i ≠ FB → wr.heap[i]? = w1.heap[i]?
  hF : w.heap.size ≤ FB ∧ FB < w1.heap.size
  box : wr.heap[FB]? = some (.cells #[fa, fs, nv] T (0, 0))
  row : wr.ownsRow w1.heap.size 9 1 nv l.length (l.map Value.string)
theorem VaRel.next {w w1 wr w3 w4 : World} {FB T g cap n : Nat} {fa fs nv : Value} {l : List ByteArray} {s : ByteArray} (hn : n = l.length) (h : VaRel w w1 FB T fa fs l nv wr) (hb3 : Below wr.heap.size wr w3)
    (hown : w4.ownsRow w1.heap.size 9 1 (.slice (some ⟨g, 0, none⟩) (n + 1) cap) (n + 1) (l.map Value.string ++ [.string s])) (hg : w3.grownBy w4 nv.ownBlock) (hat : nv.ownBlock = some g ∨ g = w3.heap.size) :
    VaRel w w1 FB T fa fs (l ++ [s]) (.slice (some ⟨g, 0, none⟩) (n + 1) cap) (w4.setCell ⟨FB, 2, none⟩ (.slice (some ⟨g, 0, none⟩) (n + 1) cap)) := by
  subst hn
  have hs3 := hb3.size
  have hs4 := hg.size
  have hsz := h.size
  have hwb := h.below.size
  have hF := h.hF
  have vlt : ∀ b, nv.ownBlock = some b → w1.heap.size ≤ b ∧ b < wr.heap.size := fun b hb => h.row.lt b hb
  have keep : ∀ i, i < wr.heap.size → nv.ownBlock ≠ some i → w4.heap[i]? = wr.heap[i]? := fun i hi hv => (hg.block i (by omega) (fun e => hv e.symm)).trans (hb3.block i hi)
  have st : ∀ i, i ≠ FB → (w4.setCell ⟨FB, 2, none⟩ (.slice (some ⟨g, 0, none⟩) (l.length + 1) cap)).heap[i]? = w4.heap[i]? := fun i hi => heap_setCell_other _ _ _ _ hi
  have hv1 : ∀ i, i < w1.heap.size → nv.ownBlock ≠ some i := fun i hi e => by have := (vlt i e).1; omega
  have hgB : w1.heap.size ≤ g := by
    rcases hat with hat | hat
    · exact (vlt g hat).1
    · omega
  refine ⟨?_, by simp; omega, fun i hi hne => (st i hne).trans ((keep i (by omega) (hv1 i hi)).trans (h.low i hi hne)), hF, Go.heap_setCell_same w4 FB 2 _ _ (.slice (some ⟨g, 0, none⟩) (l.length + 1) cap) ((keep FB (by omega) (hv1 FB (by omega))).trans h.box), ?_⟩
  · have hb := h.below
    exact ⟨hg.os.trans (hb3.os.trans hb.os), hg.tape.trans (hb3.tape.trans hb.tape), hg.output.trans (hb3.output.trans hb.output), by simp; omega, fun i hi => (st i (by omega)).trans ((keep i (by omega) (hv1 i (by omega))).trans (hb.block i hi))⟩
  · rw [List.length_append, List.map_append]
    refine ownsRow_far hown (fun b hb => ?_)
    have hb : g = b := by simpa [Value.ownBlock] using hb
    subst hb
    exact st g (by omega)
end Go.Proofs.Ytafhgilikcablaa
