/- The machine of registers, plain: a run's end, a step of each word, numbers that are int64s. -/
import Derived.Test.YtafhgilikcablaaCFit4
import Derived.Outline
import Derived.Test.YtafhgilikcablaaCFit0
import Derived.Test.YtafhgilikcablaaVRecV
import Derived.Lib.Hide
namespace Go.Proofs.Ytafhgilikcablaa
open Go.RowKit
set_option linter.unusedVariables false
set_option linter.unusedSimpArgs false
set_option maxRecDepth 100000

theorem class0 {op : ByteArray} (h : (op.toList == [99, 111, 110, 115, 116]) = false) : opClass op ≠ 0 := by
  intro h0
  rcases op_cases op with rfl | rfl | rfl | rfl | rfl | rfl | rfl | rfl | rfl | rfl | rfl | rfl | rfl | rfl | rfl | rfl | rfl | rfl | rfl | rfl | ⟨h0', h1, h2, h3, h4, h5, h6, h7, h8, h9, h10, h11, h12, h13, h14, h15, h16, h17, h18, h19⟩
  · rw [ByteArray.toList_eq] at h; exact absurd h (by decide)
  all_goals first
    | (rw [class_other op h0' h1 h2 h3 h4 h5 h6 h7 h8 h9 h10 h11 h12 h13 h14 h15 h16 h17 h18 h19] at h0; cases h0)
    | (simp only [class_col, class_neg, class_null, class_some, class_not, class_copy, class_add, class_sub, class_mul, class_eq, class_ne, class_lt, class_le, class_gt, class_ge, class_and, class_or, class_false, class_true] at h0; cases h0)

theorem bare_const {op : ByteArray} (h : (op.toList == [99, 111, 110, 115, 116]) = true) (a b c : Int) (v : Val) : bareB ⟨op, a, b, c, v⟩ = true := by
  obtain rfl := op_of_list h
  unfold bareB
  rw [show opClass (⟨[99, 111, 110, 115, 116].toArray⟩ : ByteArray) = 0 from class_const]; rfl
theorem bare_zero (op : ByteArray) (a b c : Int) {k n : Int} {s : ByteArray} (h : k = 0 ∧ n = 0 ∧ s.toList = []) : bareB ⟨op, a, b, c, (k, n, s)⟩ = true := by
  obtain ⟨rfl, rfl, h⟩ := h
  unfold bareB
  rw [show decide ((0 : Int) = 0) = true from rfl, show decide (s.toList = []) = true from decide_eq_true h]
  simp
theorem bare_not {op : ByteArray} (hq : (op.toList == [99, 111, 110, 115, 116]) = false) (a b c : Int) {k n : Int} {s : ByteArray} (h : ¬ (k = 0 ∧ n = 0 ∧ s.toList = [])) : bareB ⟨op, a, b, c, (k, n, s)⟩ = false := by
  unfold bareB
  rw [show decide (opClass op = 0) = false from decide_eq_false (class0 hq), Bool.false_or]
  rw [Bool.and_assoc, ← Bool.decide_and, ← Bool.decide_and]
  exact decide_eq_false h

set_option maxHeartbeats 6400000 in
theorem cform_any (ca : Option Addr) (cl cc : Nat) (R : Int) (xs : List Ins) (w : World) (hI : IsI w ca cl xs) :
    Calls Try.prog 72 #[.agg #[.slice ca cl cc, .int .i64 R]] w fun e w' => e = .returned (.bool (formedP R xs)) ∧ Below w.heap.size w w' := by
  obtain ⟨W0, hW0⟩ : ∃ W0, W0 = w.alloc (.cells #[.slice ca cl cc, .int .i64 R] 76) := ⟨_, rfl⟩
  have q0 : W0.cell? ⟨w.heap.size, 0, none⟩ = some (.slice ca cl cc) := by rw [hW0]; simp [go_sem]
  have q1 : W0.cell? ⟨w.heap.size, 1, none⟩ = some (.int .i64 R) := by rw [hW0]; simp [go_sem]
  have hb0 : Below w.heap.size w W0 := by rw [hW0]; exact bel0 _ (Below.refl _ _)
  have hs0 : W0.heap.size = w.heap.size + 1 := by rw [hW0]; simp
  have Q := Lib.hid (show ∀ W, Below W0.heap.size W0 W → W.cell? ⟨w.heap.size, 0, none⟩ = some (.slice ca cl cc) ∧ W.cell? ⟨w.heap.size, 1, none⟩ = some (.int .i64 R) from fun W hW =>
    ⟨(hW.cell (p := ⟨w.heap.size, 0, none⟩) (by show w.heap.size < _; omega)).trans q0, (hW.cell (p := ⟨w.heap.size, 1, none⟩) (by show w.heap.size < _; omega)).trans q1⟩)
  have hI0 := hI.below hb0
  have hlen := hI.1
  have hmax := hI.2.1
  have HI := Lib.hid hI0
  have HB0 := Lib.hid hb0
  have HW := Lib.hid hW0
  have HL := Lib.hid hlen
  have HS0 := Lib.hid hs0
  clear hI hI0 hb0 hs0
  by_cases hg : 1 ≤ cl ∧ cl ≤ 1000 ∧ 1 ≤ R ∧ R ≤ 1000
  · have g1 : (1 : Int) ≤ (cl : Int) := by omega
    have g2 : (cl : Int) ≤ 1000 := by omega
    have g3 := hg.2.2.1
    have g4 := hg.2.2.2
    have HG := Lib.hid (show 1 ≤ xs.length ∧ xs.length ≤ 1000 ∧ 1 ≤ R ∧ R ≤ 1000 by rw [hlen]; exact hg)
    clear hg hlen
    go_enter Try.func72, Try.ntmps72
    go_wp2
    clear hW0
    rw [← HW.out]
    go_loopw [28] (fun i wr => ∃ k : Nat, k ≤ cl ∧ i = .int .i64 (k : Int) ∧ Hid (Below W0.heap.size W0 wr) ∧ Hid (∀ j, j < k → okI cl R j (xs.getD j noI) = true)) (fun i _ => cl - (intOf i).toNat)
    case atStart => exact ⟨0, by omega, rfl, Lib.hid (Below.refl _ _), Lib.hid (fun j hj => by omega)⟩
    case round =>
      obtain ⟨k, hk, rfl, HB, HA⟩ := hrel
      by_cases hlt : k < cl
      · obtain ⟨_, _, hc⟩ := HI.out.below HB.out
        rcases hc with hc | ⟨b, off, rfl, hbl, hc⟩
        · omega
        obtain ⟨c0, c1, c2, c3, c4, c5, c6⟩ := hc k hlt
        obtain ⟨p0, p1⟩ := Q.out _ HB.out
        have hki : (k : Int) < (cl : Int) := by omega
        have hk0 : (0 : Int) ≤ (k : Int) := by omega
        have HX := Lib.hid (show okI cl R k (xs.getD k noI) = (bareB (xs.getD k noI) && fitsB cl R k (xs.getD k noI)) from rfl)
        clear hc
        obtain ⟨x, hx⟩ : ∃ x, xs.getD k noI = x := ⟨_, rfl⟩
        rw [hx] at c0 c1 c2 c3 c4 c5 c6 HX
        have HXE := Lib.hid hx
        clear hx
        obtain ⟨op, xa, xb, xc, vk, vn, vs⟩ := x
        dsimp only at c0 c1 c2 c3 c4 c5 c6
        have hz : w.heap.size < wr.heap.size := by have := HB.out.size; have := HS0.out; omega
        cases hq : (op.toList == [99, 111, 110, 115, 116]) with
        | true =>
          have HBare := Lib.hid (bare_const hq xa xb xc (vk, vn, vs))
          go_wp2_with fail
          refine (fits_any (some ⟨b, off, none⟩) cl cc R k ⟨op, xa, xb, xc, (vk, vn, vs)⟩ _ hmax).mono ?_
          rintro e w2 ⟨rfl, hb2⟩
          have HB2 := Lib.hid (bt HB.out (bt (bel0 (.cells #[.string op, .int .i64 xa, .int .i64 xb, .int .i64 xc, .int .i64 vk, .int .i64 vn, .string vs] 138) (Below.refl wr.heap.size wr)) hb2))
          clear hb2 c0 c1 c2 c3 c4 c5 c6 p0 p1
          cases hf : fitsB cl R k ⟨op, xa, xb, xc, (vk, vn, vs)⟩ with
          | true =>
            have HA2 := Lib.hid (show ∀ j, j < k + 1 → okI cl R j (xs.getD j noI) = true from fun j hj => by
              rcases Nat.lt_or_ge j k with h | h
              · exact HA.out j h
              · obtain rfl : j = k := by omega
                rw [HXE.out, HX.out, HBare.out, hf]; rfl)
            clear hf HX
            go_wp2
            go_roundw
            case rel => exact ⟨k + 1, by omega, by go_num, HB2, HA2⟩
            case measure => simp [intOf]; omega
          | false =>
            have HE := Lib.hid (formedP_bad (R := R) (j := k) (by rw [HL.out]; exact hlt) (by rw [HL.out, HXE.out, HX.out, HBare.out, hf]; rfl))
            have HF := Lib.hid (bt HB0.out HB2.out)
            clear hf HX
            go_wp2
            go_ret
            exact ⟨by rw [HE.out]; rfl, HF.out⟩
        | false =>
          by_cases hv : vk = 0 ∧ vn = 0 ∧ vs.toList = []
          · have HBare := Lib.hid (bare_zero op xa xb xc hv)
            obtain ⟨rfl, rfl, hv⟩ := hv
            go_wp2_with fail
            refine (fits_any (some ⟨b, off, none⟩) cl cc R k ⟨op, xa, xb, xc, (0, 0, vs)⟩ _ hmax).mono ?_
            rintro e w2 ⟨rfl, hb2⟩
            have HB2 := Lib.hid (bt HB.out (bt (bel0 (.cells #[.string op, .int .i64 xa, .int .i64 xb, .int .i64 xc, .int .i64 0, .int .i64 0, .string vs] 138) (Below.refl wr.heap.size wr)) hb2))
            clear hb2 c0 c1 c2 c3 c4 c5 c6 p0 p1
            cases hf : fitsB cl R k ⟨op, xa, xb, xc, (0, 0, vs)⟩ with
            | true =>
              have HA2 := Lib.hid (show ∀ j, j < k + 1 → okI cl R j (xs.getD j noI) = true from fun j hj => by
                rcases Nat.lt_or_ge j k with h | h
                · exact HA.out j h
                · obtain rfl : j = k := by omega
                  rw [HXE.out, HX.out, HBare.out, hf]; rfl)
              clear hf HX
              go_wp2
              go_roundw
              case rel => exact ⟨k + 1, by omega, by go_num, HB2, HA2⟩
              case measure => simp [intOf]; omega
            | false =>
              have HE := Lib.hid (formedP_bad (R := R) (j := k) (by rw [HL.out]; exact hlt) (by rw [HL.out, HXE.out, HX.out, HBare.out, hf]; rfl))
              have HF := Lib.hid (bt HB0.out HB2.out)
              clear hf HX
              go_wp2
              go_ret
              exact ⟨by rw [HE.out]; rfl, HF.out⟩
          · have HE := Lib.hid (formedP_bad (R := R) (j := k) (by rw [HL.out]; exact hlt) (by rw [HL.out, HXE.out, HX.out, bare_not hq xa xb xc hv]; rfl))
            have HF := Lib.hid (show ∀ o, Below w.heap.size w (wr.alloc o) from fun o => bt HB0.out (bt HB.out (bel0 o (Below.refl wr.heap.size wr))))
            clear HX
            go_wp2_with fail
            · exact absurd ⟨by assumption, by assumption, by assumption⟩ hv
            all_goals go_ret
            all_goals exact ⟨by rw [HE.out]; rfl, HF.out _⟩
      · have hkk : (cl : Int) ≤ (k : Int) := by omega
        have HE := Lib.hid (formedP_all HG.out (fun j hj => by have := HA.out j (by have := HL.out; omega); rw [HL.out]; exact this))
        have HF := Lib.hid (bt HB0.out HB.out)
        clear q0 q1
        go_wp2
        go_ret
        exact ⟨by rw [HE.out]; rfl, HF.out⟩
  · rw [formedP_not (by rw [hlen]; exact hg)]
    have HF := Lib.hid HB0.out
    clear hlen
    by_cases g1 : (cl : Int) < 1
    · go_enter Try.func72, Try.ntmps72
      go_wp2
      go_ret
      exact ⟨rfl, by rw [← HW.out]; exact HF.out⟩
    by_cases g2 : 1000 < (cl : Int)
    · go_enter Try.func72, Try.ntmps72
      go_wp2
      go_ret
      exact ⟨rfl, by rw [← HW.out]; exact HF.out⟩
    by_cases g3 : R < 1
    · go_enter Try.func72, Try.ntmps72
      go_wp2
      go_ret
      exact ⟨rfl, by rw [← HW.out]; exact HF.out⟩
    have g4 : 1000 < R := by omega
    go_enter Try.func72, Try.ntmps72
    go_wp2
    go_ret
    exact ⟨rfl, by rw [← HW.out]; exact HF.out⟩
end Go.Proofs.Ytafhgilikcablaa
namespace Go.Proofs.Ytafhgilikcablaa
open Go.RowKit
set_option linter.unusedVariables false
set_option linter.unusedSimpArgs false

/-- what a program does -/
def runP (R : List (List Val)) (k : Int) (xs : List Ins) : Val × Int × Int :=
  if formedP k xs = true then runR R xs (xs.length + 1) 0 (List.replicate k.toNat noR) else (noV, 0, 1)
theorem runR_end {R : List (List Val)} {xs : List Ins} {f i : Nat} {rs : List Reg} {fin : Val × Int × Int} (h : runR R xs (f + 1) i rs = fin) (hi : xs.length ≤ i) : fin = ((rs.getD 0 noR).1, (rs.getD 0 noR).2, 0) := by
  rw [← h]; unfold runR; rw [if_pos hi]
theorem runR_step {R : List (List Val)} {xs : List Ins} {f i : Nat} {rs rs' : List Reg} {e : Int} {n : Nat} {fin : Val × Int × Int} (h : runR R xs (f + 1) i rs = fin) (hi : i < xs.length)
    (hs : stepR R (xs.getD i noI) rs i = (rs', e, n)) : (e = 0 → runR R xs f n rs' = fin) ∧ (e ≠ 0 → fin = (noV, 0, e)) := by
  unfold runR at h
  rw [if_neg (by omega), hs] at h
  constructor
  · intro he; rw [if_pos he] at h; exact h
  · intro he; rw [if_neg he] at h; exact h.symm
/-- numbers that are int64s -/
def RegR (rs : List Reg) : Prop := ∀ r ∈ rs, InR r.1.2.1
theorem RegR.set {rs : List Reg} {r : Reg} (h : RegR rs) (hr : InR r.1.2.1) (i : Nat) : RegR (rs.set i r) := fun x hx => by
  rcases List.mem_or_eq_of_mem_set hx with h' | rfl
  · exact h x h'
  · exact hr
theorem InR.zero : InR 0 := ⟨by omega, by omega⟩
theorem RegR.get {rs : List Reg} (h : RegR rs) (i : Nat) : InR (rs.getD i noR).1.2.1 := by
  by_cases hi : i < rs.length
  · rw [List.getD_eq_getElem?_getD, List.getElem?_eq_getElem hi]
    exact h _ (List.getElem_mem hi)
  · rw [List.getD_eq_getElem?_getD, List.getElem?_eq_none (by omega)]
    exact InR.zero
theorem RegR.setT {rs : List Reg} (h : RegR rs) (i : Nat) (t : Int) : RegR (rs.set i ((rs.getD i noR).1, t)) := h.set (r := ((rs.getD i noR).1, t)) (h.get i) i
theorem RegR.rep (n : Nat) : RegR (List.replicate n noR) := fun r hr => by
  rw [(List.mem_replicate.1 hr).2]; exact InR.zero
theorem recF_inR (op : ByteArray) (ka na : Int) (sa : ByteArray) (kb nb : Int) (sb : ByteArray) : InR (recF op ka na sa kb nb sb).2.1 := by
  unfold recF
  split
  · exact InR.zero
  · split
    · exact InR.zero
    · split
      · exact InR.zero
      · split
        · rename_i h; exact (fitB_iff _).1 h
        · exact InR.zero
section
variable (R : List (List Val)) (a b c : Int) (v : Val) (rs : List Reg) (i : Nat)
theorem step_const : stepR R ⟨⟨#[99, 111, 110, 115, 116]⟩, a, b, c, v⟩ rs i = (rs.set a.toNat (v, (rs.getD a.toNat noR).2), 0, i + 1) := by
  unfold stepR; simp only [ByteArray.toList_eq]; rfl
theorem step_col : stepR R ⟨⟨#[99, 111, 108]⟩, a, b, c, v⟩ rs i = (rs.set a.toNat ((colF R b c).1, (rs.getD a.toNat noR).2), (colF R b c).2, i + 1) := by
  unfold stepR; simp only [ByteArray.toList_eq]; rfl
theorem step_neg : stepR R ⟨⟨#[110, 101, 103]⟩, a, b, c, v⟩ rs i = (rs.set a.toNat (((recF ⟨#[45]⟩ 1 0 ⟨#[]⟩ (rs.getD b.toNat noR).1.1 (rs.getD b.toNat noR).1.2.1 (rs.getD b.toNat noR).1.2.2).1, (recF ⟨#[45]⟩ 1 0 ⟨#[]⟩ (rs.getD b.toNat noR).1.1 (rs.getD b.toNat noR).1.2.1 (rs.getD b.toNat noR).1.2.2).2.1, ⟨#[]⟩), (rs.getD a.toNat noR).2), (recF ⟨#[45]⟩ 1 0 ⟨#[]⟩ (rs.getD b.toNat noR).1.1 (rs.getD b.toNat noR).1.2.1 (rs.getD b.toNat noR).1.2.2).2.2, i + 1) := by
  unfold stepR; simp only [ByteArray.toList_eq]; rfl
theorem step_rec (op : ByteArray) (h : op = ⟨#[43]⟩ ∨ op = ⟨#[45]⟩ ∨ op = ⟨#[42]⟩) : stepR R ⟨op, a, b, c, v⟩ rs i = (rs.set a.toNat (((recF op (rs.getD b.toNat noR).1.1 (rs.getD b.toNat noR).1.2.1 (rs.getD b.toNat noR).1.2.2 (rs.getD c.toNat noR).1.1 (rs.getD c.toNat noR).1.2.1 (rs.getD c.toNat noR).1.2.2).1, (recF op (rs.getD b.toNat noR).1.1 (rs.getD b.toNat noR).1.2.1 (rs.getD b.toNat noR).1.2.2 (rs.getD c.toNat noR).1.1 (rs.getD c.toNat noR).1.2.1 (rs.getD c.toNat noR).1.2.2).2.1, ⟨#[]⟩), (rs.getD a.toNat noR).2), (recF op (rs.getD b.toNat noR).1.1 (rs.getD b.toNat noR).1.2.1 (rs.getD b.toNat noR).1.2.2 (rs.getD c.toNat noR).1.1 (rs.getD c.toNat noR).1.2.1 (rs.getD c.toNat noR).1.2.2).2.2, i + 1) := by
  rcases h with rfl | rfl | rfl <;> (unfold stepR; simp only [ByteArray.toList_eq]; rfl)
theorem step_null : stepR R ⟨⟨#[110, 117, 108, 108]⟩, a, b, c, v⟩ rs i = (rs.set a.toNat ((rs.getD a.toNat noR).1, truthI ((rs.getD b.toNat noR).1.1 == 0)), 0, i + 1) := by
  unfold stepR; simp only [ByteArray.toList_eq]; rfl
theorem step_some' : stepR R ⟨⟨#[115, 111, 109, 101]⟩, a, b, c, v⟩ rs i = (rs.set a.toNat ((rs.getD a.toNat noR).1, truthI ((rs.getD b.toNat noR).1.1 != 0)), 0, i + 1) := by
  unfold stepR; simp only [ByteArray.toList_eq]; rfl
theorem step_not : stepR R ⟨⟨#[110, 111, 116]⟩, a, b, c, v⟩ rs i = (rs.set a.toNat ((rs.getD a.toNat noR).1, notI (rs.getD b.toNat noR).2), 0, i + 1) := by
  unfold stepR; simp only [ByteArray.toList_eq]; rfl
theorem step_and : stepR R ⟨⟨#[97, 110, 100]⟩, a, b, c, v⟩ rs i = (rs.set a.toNat ((rs.getD a.toNat noR).1, andI (rs.getD b.toNat noR).2 (rs.getD c.toNat noR).2), 0, i + 1) := by
  unfold stepR; simp only [ByteArray.toList_eq]; rfl
theorem step_or : stepR R ⟨⟨#[111, 114]⟩, a, b, c, v⟩ rs i = (rs.set a.toNat ((rs.getD a.toNat noR).1, orI (rs.getD b.toNat noR).2 (rs.getD c.toNat noR).2), 0, i + 1) := by
  unfold stepR; simp only [ByteArray.toList_eq]; rfl
theorem step_copy : stepR R ⟨⟨#[99, 111, 112, 121]⟩, a, b, c, v⟩ rs i = (rs.set a.toNat (rs.getD b.toNat noR), 0, i + 1) := by
  unfold stepR; simp only [ByteArray.toList_eq]; rfl
theorem step_false : stepR R ⟨⟨#[102, 97, 108, 115, 101]⟩, a, b, c, v⟩ rs i = (rs, 0, if (rs.getD b.toNat noR).2 = 0 then c.toNat else i + 1) := by
  unfold stepR; simp only [ByteArray.toList_eq]; rfl
theorem step_true : stepR R ⟨⟨#[116, 114, 117, 101]⟩, a, b, c, v⟩ rs i = (rs, 0, if (rs.getD b.toNat noR).2 = 1 then c.toNat else i + 1) := by
  unfold stepR; simp only [ByteArray.toList_eq]; rfl
theorem step_cmp (op : ByteArray) (h : op = ⟨#[61]⟩ ∨ op = ⟨#[60, 62]⟩ ∨ op = ⟨#[60]⟩ ∨ op = ⟨#[60, 61]⟩ ∨ op = ⟨#[62]⟩ ∨ op = ⟨#[62, 61]⟩) : stepR R ⟨op, a, b, c, v⟩ rs i = (rs.set a.toNat ((rs.getD a.toNat noR).1, (cmpF op (rs.getD b.toNat noR).1.1 (rs.getD b.toNat noR).1.2.1 (rs.getD b.toNat noR).1.2.2 (rs.getD c.toNat noR).1.1 (rs.getD c.toNat noR).1.2.1 (rs.getD c.toNat noR).1.2.2).1), (cmpF op (rs.getD b.toNat noR).1.1 (rs.getD b.toNat noR).1.2.1 (rs.getD b.toNat noR).1.2.2 (rs.getD c.toNat noR).1.1 (rs.getD c.toNat noR).1.2.1 (rs.getD c.toNat noR).1.2.2).2, i + 1) := by
  rcases h with rfl | rfl | rfl | rfl | rfl | rfl <;> (unfold stepR; simp only [ByteArray.toList_eq]; rfl)
end
/-- what is told of a formed program's instruction -/
theorem formed_at {k : Int} {xs : List Ins} (h : formedP k xs = true) : (1 ≤ xs.length ∧ xs.length ≤ 1000 ∧ 1 ≤ k ∧ k ≤ 1000) ∧ ∀ j, j < xs.length → okI xs.length k j (xs.getD j noI) = true := by
  unfold formedP at h
  rw [Bool.and_eq_true, decide_eq_true_iff, List.all_eq_true] at h
  exact ⟨h.1, fun j hj => h.2 j (List.mem_range.2 hj)⟩
end Go.Proofs.Ytafhgilikcablaa
