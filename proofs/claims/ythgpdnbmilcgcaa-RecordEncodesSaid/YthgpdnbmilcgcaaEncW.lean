/- Contract of record's Encode: every slice of values. -/
import Derived.Test.YthgpdnbmilcgcaaApv
import Derived.Deep.DeepCutAuto
namespace Go.Proofs.Ythgpdnbmilcgcaa
open Go.RowKit
set_option linter.unusedVariables false

def allF (l : List Val) : Bool := l.all formedV
theorem allF_take {vs : List Val} {k : Nat} (h : k < vs.length) (ha : allF (vs.take k) = true) (hf : formedV (vs.getD k noV) = true) : allF (vs.take (k + 1)) = true := by
  unfold allF at *
  rw [List.take_succ_eq_append_getElem h, List.all_append, ha]
  rw [List.getD_eq_getElem?_getD, List.getElem?_eq_getElem h] at hf
  simpa using hf
theorem allF_no {vs : List Val} {k : Nat} (h : k < vs.length) (hf : ¬ formedV (vs.getD k noV) = true) : allF vs = false := by
  unfold allF
  rw [Bool.eq_false_iff, ne_eq, List.all_eq_true]
  intro hh
  refine hf (hh _ ?_)
  rw [List.getD_eq_getElem?_getD, List.getElem?_eq_getElem h]
  exact List.getElem_mem h
theorem allF_at {vs : List Val} {k : Nat} (h : k < vs.length) (ha : allF vs = true) : formedV (vs.getD k noV) = true := by
  unfold allF at ha
  rw [List.all_eq_true] at ha
  refine ha _ ?_
  rw [List.getD_eq_getElem?_getD, List.getElem?_eq_getElem h]
  exact List.getElem_mem h

/-- the three cells of the k-th value -/
theorem IsV.at {w wr : World} {a : Option Addr} {len : Nat} {vs : List Val} (h : IsV w a len vs) (hb : Below w.heap.size w wr) {k : Nat} (hk : k < len) :
    ∃ b off, a = some ⟨b, off, none⟩ ∧ b < w.heap.size ∧ wr.cell? ⟨b, off + k * 3, none⟩ = some (.int .i64 (vs.getD k noV).1) ∧ wr.cell? ⟨b, off + k * 3 + 1, none⟩ = some (.int .i64 (vs.getD k noV).2.1) ∧ wr.cell? ⟨b, off + k * 3 + 2, none⟩ = some (.string (vs.getD k noV).2.2) := by
  obtain ⟨_, _, h⟩ := h
  rcases h with h | ⟨b, off, rfl, hlt, hc⟩
  · omega
  · refine ⟨b, off, rfl, hlt, ?_⟩
    rw [hb.cell (p := ⟨b, off + k * 3, none⟩) hlt, hb.cell (p := ⟨b, off + k * 3 + 1, none⟩) hlt, hb.cell (p := ⟨b, off + k * 3 + 2, none⟩) hlt]
    exact hc k hk

set_option maxHeartbeats 1600000 in
theorem encode_bad (a : Option Addr) (len cap : Nat) (vs : List Val) (w : World) (hv : IsV w a len vs) (hf : allF vs = false) :
    Calls Try.prog 19 #[.slice a len cap] w fun e w' => e = .returned (.tuple #[.slice none 0 0, .int .i64 1]) ∧ Below w.heap.size w w' := by
  have H := Lib.hid hv
  obtain ⟨hl, hm, _⟩ := hv
  have HL := Lib.hid hl
  have HF := Lib.hid hf
  clear hl hf
  go_enter Try.func19, Try.ntmps19
  go_wp2
  go_loopw [11] (fun i wr => ∃ k : Nat, k ≤ len ∧ i = .int .i64 k ∧ Below w.heap.size w wr ∧ Hid (allF (vs.take k) = true)) (fun i _ => len - (intOf i).toNat)
  case atStart => exact ⟨0, by omega, rfl, Below.refl _ _, Lib.hid rfl⟩
  case round =>
    obtain ⟨k, hk, rfl, hb, HK⟩ := hrel
    by_cases hlt : k < len
    · have hk1 : k < vs.length := by have := HL.out; omega
      obtain ⟨b, off, rfl, hb0, p1, p2, p3⟩ := H.out.at hb hlt
      have HB := Lib.hid hb
      clear hb
      have hk0 : (0 : Int) ≤ (k : Int) := by omega
      have hkj : (k : Int) < (len : Int) := by omega
      by_cases hf : formedV (vs.getD k noV) = true
      · have HE := Lib.hid (allF_take hk1 HK.out hf)
        clear HK hk1
        unfold formedV at hf
        generalize vs.getD k noV = x at *
        obtain ⟨xk, xn, xs⟩ := x
        dsimp only at *
        go_wp2_with (go_at_call 24; refine (formed_any _ _ _ _).mono ?_; rintro e w' ⟨rfl, rfl⟩)
        go_roundw
        case rel => 
          refine ⟨k + 1, by omega, by go_num, ?_, HE⟩
          have := HB.out
          repeat (first | exact this | refine Below.drew ?_ | refine bel _ ?_)
        case measure => simp [intOf]; omega
      · have hf : formedV (vs.getD k noV) = false := by simpa using hf
        clear HK hk1
        unfold formedV at hf
        generalize vs.getD k noV = x at *
        obtain ⟨xk, xn, xs⟩ := x
        dsimp only at *
        go_wp2_with (go_at_call 24; refine (formed_any _ _ _ _).mono ?_; rintro e w' ⟨rfl, rfl⟩)
        go_ret2
        refine ⟨rfl, ?_⟩
        have := HB.out
        repeat (first | exact this | refine Below.drew ?_ | refine bel _ ?_)
    · exfalso
      have := HK.out
      rw [List.take_of_length_le (by have := HL.out; omega), HF.out] at this
      cases this

/-- what Encode gives of formed values -/
def EncPost (w : World) (vs : List Val) (e : Ending) (w' : World) : Prop :=
  (140 < (encR vs).length ∧ e = .returned (.tuple #[.slice none 0 0, .int .i64 14]) ∧ Below w.heap.size w w') ∨
  ((encR vs).length ≤ 140 ∧ ∃ v : Value, e = .returned (.tuple #[v, .int .i64 0]) ∧ w'.ownsRow w.heap.size 5 1 v (encR vs).length ((encR vs).map (Value.int .u8)) ∧ Below w.heap.size w w')

/-- the bytes of the first k values, behind their count -/
def encK (vs : List Val) (k : Nat) : List Int := enc vs.length ++ encVs (vs.take k)
theorem encK_succ {vs : List Val} {k : Nat} (h : k < vs.length) : encK vs (k + 1) = encK vs k ++ encV (vs.getD k noV) := by
  unfold encK
  rw [List.take_succ_eq_append_getElem h, encVs_append, List.append_assoc, List.getD_eq_getElem?_getD, List.getElem?_eq_getElem h]
  simp [encVs]
theorem encK_le (vs : List Val) (k : Nat) : (encK vs k).length ≤ (encR vs).length := by
  unfold encK encR
  conv => rhs; rw [← List.take_append_drop k vs, encVs_append]
  simp
theorem encK_all {vs : List Val} {k : Nat} (h : vs.length ≤ k) : encK vs k = encR vs := by unfold encK encR; rw [List.take_of_length_le h]
theorem encK_range (vs : List Val) (k : Nat) : ∀ z ∈ encK vs k, 0 ≤ z ∧ z ≤ 255 := by
  intro z hz
  rcases List.mem_append.1 hz with hz | hz
  · exact enc_range _ (by omega) z hz
  · exact encVs_range _ z hz

set_option maxHeartbeats 1600000 in
theorem encode_good (a : Option Addr) (len cap : Nat) (vs : List Val) (w : World) (hv : IsV w a len vs) (hn : ∀ v ∈ vs, okV v) (hlen : len ≤ 1000000) :
    Calls Try.prog 19 #[.slice a len cap] w (EncPost w vs) := by
  have H := Lib.hid hv
  obtain ⟨hl, hm, _⟩ := hv
  have HL := Lib.hid hl
  have HN := Lib.hid hn
  clear hl hn
  go_enter Try.func19, Try.ntmps19
  go_wp2
  go_loopw [11] (fun i wr => ∃ k : Nat, k ≤ len ∧ i = .int .i64 k ∧ Below w.heap.size w wr) (fun i _ => len - (intOf i).toNat)
  case atStart => exact ⟨0, by omega, rfl, Below.refl _ _⟩
  case round =>
    obtain ⟨k, hk, rfl, hb⟩ := hrel
    by_cases hlt : k < len
    · have hk1 : k < vs.length := by have := HL.out; omega
      obtain ⟨b, off, rfl, hb0, p1, p2, p3⟩ := H.out.at hb hlt
      have HB := Lib.hid hb
      clear hb
      have hk0 : (0 : Int) ≤ (k : Int) := by omega
      have hkj : (k : Int) < (len : Int) := by omega
      have hf : formedV (vs.getD k noV) = true := (HN.out _ (by rw [List.getD_eq_getElem?_getD, List.getElem?_eq_getElem hk1]; exact List.getElem_mem hk1)).1
      clear hk1
      unfold formedV at hf
      generalize vs.getD k noV = x at *
      obtain ⟨xk, xn, xs⟩ := x
      dsimp only at *
      go_wp2_with (go_at_call 24; refine (formed_any _ _ _ _).mono ?_; rintro e w' ⟨rfl, rfl⟩)
      go_roundw
      case rel =>
        refine ⟨k + 1, by omega, by go_num, ?_⟩
        have := HB.out
        repeat (first | exact this | refine Below.drew ?_ | refine bel _ ?_)
      case measure => simp [intOf]; omega
    · obtain rfl : k = len := by omega
      have HB := Lib.hid hb
      have hu : IntKind.u64.wrap (k : Int) = (k : Int) := by rw [IntKind.wrap_u64]; omega
      clear hb
      go_wp2_with fail
      refine (append_nil (k : Int) (by omega) (by omega) _ rfl _).mono ?_
      rintro e w1 ⟨rfl, hh⟩
      have B1 := Lib.hid (bt HB.out hh.out.2)
      have O1 := Lib.hid (ownsRow_base hh.out.1 HB.out.size)
      clear hh
      have hgl := groups_bd (k : Int)
      have HG := Lib.hid hgl
      go_wp2_with fail
      go_loopw [6, 25] (fun v i wr => ∃ j : Nat, j ≤ k ∧ i = .int .i64 j ∧ Hid (wr.ownsRow w.heap.size 5 1 v (encK vs j).length ((encK vs j).map (Value.int .u8)) ∧ Below w.heap.size w wr ∧ (encK vs j).length ≤ 140)) (fun _ i _ => k - (intOf i).toNat)
      case atStart =>
        refine ⟨0, by omega, rfl, Lib.hid ⟨?_, B1.out, ?_⟩⟩
        · have e0 : encK vs 0 = enc (k : Int) := by unfold encK; rw [HL.out]; simp [encVs]
          rw [e0, enc_length]; exact O1.out
        · have e0 : encK vs 0 = enc (k : Int) := by unfold encK; rw [HL.out]; simp [encVs]
          rw [e0, enc_length]; have := HG.out; omega
      case round =>
        obtain ⟨j, hj, rfl, HR⟩ := hrel
        by_cases hlt2 : j < k
        · have hk1 : j < vs.length := by have := HL.out; omega
          obtain ⟨b, off, rfl, hb0, p1, p2, p3⟩ := H.out.at HR.out.2.1 hlt2
          have hk0 : (0 : Int) ≤ (j : Int) := by omega
          have hkj : (j : Int) < (k : Int) := by omega
          have HV := Lib.hid (HN.out (vs.getD j noV) (by rw [List.getD_eq_getElem?_getD, List.getElem?_eq_getElem hk1]; exact List.getElem_mem hk1))
          have HE := Lib.hid (encK_succ hk1)
          have hpos := encV_pos (vs.getD j noV)
          clear hk1
          generalize vs.getD j noV = x at *
          obtain ⟨xk, xn, xs⟩ := x
          dsimp only at *
          go_wp2_with fail
          refine (appendValue_any w.heap.size _ (encK vs j) (xk, xn, xs) HV.out _ (encK_range vs j) (by have := HR.out.2.2; omega) (by have := HR.out.2.1.size; simp; omega) (HR.out.1.alloc _)).mono ?_
          rintro e w2 ⟨v2, rfl, hown2, hb2⟩
          have hB2 := Lib.hid ((HR.out.2.1.alloc HR.out.2.1.size _).trans hb2)
          rw [← HE.out] at hown2
          have hne : (encK vs (j + 1)).length ≠ 0 := by rw [HE.out, List.length_append]; omega
          obtain ⟨g, cap2, rfl⟩ := own_addr hown2 hne
          have HO2 := Lib.hid hown2
          clear hown2 hb2 hpos hne p1 p2 p3
          have hle := encK_le vs (j + 1)
          generalize hL : (encK vs (j + 1)).length = L at *
          have HLL := Lib.hid hL
          clear hL
          by_cases hbig : 140 < L
          · have hbig' : (140 : Int) < (L : Int) := by omega
            have HBig := Lib.hid (Nat.lt_of_lt_of_le hbig hle)
            clear hle hbig
            go_wp2
            go_ret2
            exact .inl ⟨HBig.out, rfl, hB2.out⟩
          · have hbig' : (L : Int) ≤ 140 := by omega
            clear hle
            go_wp2
            go_roundw
            case rel => exact ⟨j + 1, by omega, by go_num, Lib.hid ⟨by rw [HLL.out]; exact HO2.out, hB2.out, by rw [HLL.out]; omega⟩⟩
            case measure => simp [intOf]; omega
        · obtain rfl : j = k := by omega
          have HE := Lib.hid (encK_all (vs := vs) (k := j) (by have := HL.out; omega))
          go_wp2
          go_ret2
          refine .inr ⟨by rw [← HE.out]; exact HR.out.2.2, _, rfl, ?_, HR.out.2.1⟩
          rw [← HE.out]
          exact HR.out.1
end Go.Proofs.Ythgpdnbmilcgcaa
