/- Contracts of keys' appendValue, Key; every slice of values. -/
import Derived.Test.YtplgkblahmndoaaKeyW
namespace Go.Proofs.Ytplgkblahmndoaa
open Go.RowKit
set_option linter.unusedVariables false
set_option maxRecDepth 100000

/-- what an appending function leaves: a row of the call's own -/
def OwnPost (w : World) (B : Nat) (zs : List Int) (e : Ending) (w' : World) : Prop :=
  ∃ v : Value, e = .returned v ∧ w'.ownsRow B 5 1 v zs.length (zs.map (Value.int .u8)) ∧ Below B w w'

theorem keepG {w w' : World} {p : Addr} {x : Value} {n : Nat} {row : Option Nat} (h : w.cell? p = some x ∧ n < w.heap.size) (hg : w.grownBy w' row) (hne : some p.block ≠ row) : w'.cell? p = some x ∧ n < w'.heap.size :=
  ⟨hg.cell h.1 hne, Nat.lt_of_lt_of_le h.2 hg.size⟩

theorem ne_row {w : World} {r : Option Nat} {g N : Nat} (hl : ∀ k, r = some k → k < w.heap.size) (hat : r = some g ∨ g = N) (hN : w.heap.size < N) : w.heap.size ≠ g := by
  rintro rfl
  rcases hat with h | h
  · exact absurd (hl _ h) (Nat.lt_irrefl _)
  · omega

set_option maxHeartbeats 1600000 in
theorem kappendValue_int (B : Nat) (v : Value) (zs : List Int) (n : Int) (h0 : -9223372036854775808 ≤ n) (h1 : n ≤ 9223372036854775807) (w : World) (hlen : zs.length ≤ 1000000) (hB : B ≤ w.heap.size)
    (hown : w.ownsRow B 5 1 v zs.length (zs.map (Value.int .u8))) :
    Calls Try.prog 116 #[v, .agg #[.int .i64 1, .int .i64 n, .string ⟨#[]⟩]] w (OwnPost w B (zs ++ keyV (1, n, ⟨#[]⟩))) := by
  have HO := Lib.hid hown
  have hlow : ∀ k, v.ownBlock = some k → k < w.heap.size := fun k hk => (HO.out.lt k hk).2
  have HLow := Lib.hid hlow
  have hu : IntKind.u64.wrap (IntKind.u64.wrap n + 9223372036854775808) = n + 9223372036854775808 := by rw [IntKind.wrap_u64, IntKind.wrap_u64]; omega
  clear hown hlow
  go_enter Try.func116, Try.ntmps116
  go_wp2
  go_region_held3 (fun w' => w'.cell? ⟨w.heap.size, 1, none⟩ = some (.int .i64 n) ∧ w.heap.size < w'.heap.size)
    (first
      | exact ⟨by simp [go_sem], by first | (simp; done) | (simp; omega)⟩
      | (refine keepG ?_ hgrow3 ?_; assumption; exact fun e => hgne (Option.some.inj e))
      | exact ⟨(World.cell?_of_block (hgrow.block _ (by simp; try omega) (fun h => absurd (HLow.out _ h.symm) (Nat.lt_irrefl _)))).trans (by simp [go_sem]), by have := hgrow.size; simp at this; omega⟩)
    (first
      | (refine step_byte ?a0 (.tmp 9) (.tmp 10) ?a1 B v zs (w.heap.size + 1) 16 ?a2 ?a3 ?a4 ?a5 ?a6 ?a7 ?_; exact rfl; exact rfl; exact rfl; exact rfl; exact (HO.out.alloc _).alloc _; simp [go_sem]; omega; (simp; omega); intro g cap w1 hown2 hgrow hat hlt; have hown2' : w1.ownsRow B 5 1 (.slice (some ⟨g, 0, none⟩) (zs.length + 1) cap) (zs ++ [16]).length ((zs ++ [16]).map (Value.int .u8)) := (by simpa using hown2); have hbw1 : B ≤ w1.heap.size := (by have := hgrow.size; simp at this; omega); have hgne := ne_row HLow.out hat (by simp; omega))
      | (go_at_call 161; refine (beAppend_any B _ (zs ++ [16]) (n + 9223372036854775808) (by omega) (by omega) 8 (by omega) w1 (by simp; omega) hbw1 hown2').mono ?_; rintro e w2 ⟨v2, rfl, hown3, hgrow3⟩))
  go_wp2
  go_ret
  have hBw : Below B w w1 := (((Below.refl B w).alloc hB _).alloc (by simp; omega) _).drew.grown hgrow (by simp; omega) (fun k hk => (HO.out.lt k hk).1)
  have e : zs ++ keyV (1, n, ⟨#[]⟩) = zs ++ [16] ++ beN (n + 9223372036854775808) 8 := by
    unfold keyV; rw [if_pos rfl]; simp
  refine ⟨v2, rfl, ?_, hBw.grown hgrow3 (Nat.le_trans hB hBw.size) (fun k hk => (hown2'.lt k hk).1)⟩
  rw [e]
  exact hown3

set_option maxHeartbeats 1600000 in
theorem kappendValue_text (B : Nat) (v : Value) (zs : List Int) (t : ByteArray) (ht : t.size ≤ 100) (w : World) (hlen : zs.length ≤ 1000000) (hB : B ≤ w.heap.size)
    (hown : w.ownsRow B 5 1 v zs.length (zs.map (Value.int .u8))) :
    Calls Try.prog 116 #[v, .agg #[.int .i64 2, .int .i64 0, .string t]] w (OwnPost w B (zs ++ keyV (2, 0, t))) := by
  have HO := Lib.hid hown
  have hlow : ∀ k, v.ownBlock = some k → k < w.heap.size := fun k hk => (HO.out.lt k hk).2
  have HLow := Lib.hid hlow
  clear hown hlow
  go_enter Try.func116, Try.ntmps116
  go_wp2
  go_region_held3 (fun w' => w'.cell? ⟨w.heap.size, 2, none⟩ = some (.string t) ∧ w.heap.size < w'.heap.size)
    (first
      | exact ⟨by simp [go_sem], by first | (simp; done) | (simp; omega)⟩
      | (refine keepG ?_ hgrow3 ?_; assumption; exact fun e => hgne (Option.some.inj e))
      | exact ⟨(World.cell?_of_block (hgrow.block _ (by simp; try omega) (fun h => absurd (HLow.out _ h.symm) (Nat.lt_irrefl _)))).trans (by simp [go_sem]), by have := hgrow.size; simp at this; omega⟩)
    (first
      | (refine step_byte ?a0 (.tmp 19) (.tmp 20) ?a1 B v zs (w.heap.size + 1) 32 ?a2 ?a3 ?a4 ?a5 ?a6 ?a7 ?_; exact rfl; exact rfl; exact rfl; exact rfl; exact (HO.out.alloc _).alloc _; simp [go_sem]; omega; (simp; omega); intro g cap w1 hown2 hgrow hat hlt; have hown2' : w1.ownsRow B 5 1 (.slice (some ⟨g, 0, none⟩) (zs.length + 1) cap) (zs ++ [32]).length ((zs ++ [32]).map (Value.int .u8)) := (by simpa using hown2); have hbw1 : B ≤ w1.heap.size := (by have := hgrow.size; simp at this; omega); have hgne := ne_row HLow.out hat (by simp; omega))
      | (go_at_call 162; refine (appendText_any B _ (zs ++ [32]) t ht w1 (by simp; omega) hbw1 hown2').mono ?_; rintro e w2 ⟨v2, rfl, hown3, hgrow3⟩))
  go_wp2
  go_ret
  have hBw : Below B w w1 := (((Below.refl B w).alloc hB _).alloc (by simp; omega) _).drew.grown hgrow (by simp; omega) (fun k hk => (HO.out.lt k hk).1)
  have e : zs ++ keyV (2, 0, t) = zs ++ [32] ++ (esc (txt t) ++ [0, 0]) := by
    unfold keyV; rw [if_neg (by simp), if_pos rfl]; simp
  refine ⟨v2, rfl, ?_, hBw.grown hgrow3 (Nat.le_trans hB hBw.size) (fun k hk => (hown2'.lt k hk).1)⟩
  rw [e]
  exact hown3

theorem kappendValue_null (B : Nat) (v : Value) (zs : List Int) (w : World) (hlen : zs.length ≤ 1000000) (hB : B ≤ w.heap.size)
    (hown : w.ownsRow B 5 1 v zs.length (zs.map (Value.int .u8))) :
    Calls Try.prog 116 #[v, .agg #[.int .i64 0, .int .i64 0, .string ⟨#[]⟩]] w (OwnPost w B (zs ++ keyV noV)) := by
  have HO := Lib.hid hown
  clear hown
  go_enter Try.func116, Try.ntmps116
  go_wp2_with (at_builtin; refine wpList_byte rfl (.tmp 25) (.tmp 26) rfl B v zs (w.heap.size + 1) 5 rfl rfl ((HO.out.alloc _).alloc _) ?c1 ?c2 ?c3 ?_)
  case c1 => simp [go_sem]
  case c2 => omega
  case c3 => simp; omega
  intro g cap w1 hown2 hgrow hat hlt
  have HO2 := Lib.hid hown2
  clear hown2
  go_wp2
  go_ret
  refine ⟨_, rfl, ?_, (((Below.refl B w).alloc hB _).alloc (by simp; omega) _).grown hgrow (by simp; omega) (fun k hk => (HO.out.lt k hk).1)⟩
  have e : keyV noV = [5] := rfl
  rw [e, List.length_append]
  rw [List.map_append]
  exact HO2.out

theorem kappendValue_any (B : Nat) (v : Value) (zs : List Int) (x : Val) (hx : okV x) (w : World) (hlen : zs.length ≤ 1000000) (hB : B ≤ w.heap.size)
    (hown : w.ownsRow B 5 1 v zs.length (zs.map (Value.int .u8))) :
    Calls Try.prog 116 #[v, .agg #[.int .i64 x.1, .int .i64 x.2.1, .string x.2.2]] w (OwnPost w B (zs ++ keyV x)) := by
  obtain ⟨hf, h0, h1⟩ := hx
  rcases formed_cases hf with rfl | ⟨n, rfl⟩ | ⟨t, rfl, ht⟩
  · exact kappendValue_null B v zs w hlen hB hown
  · exact kappendValue_int B v zs n h0 h1 w hlen hB hown
  · exact kappendValue_text B v zs t ht w hlen hB hown

theorem keyVs_len {l : List Val} (h : ∀ v ∈ l, okV v) : (keyVs l).length ≤ 203 * l.length := by
  induction l with
  | nil => simp [keyVs]
  | cons v l ih =>
    have h1 := (keyV_len v (h v (by simp)).1).2
    have h2 := ih (fun x hx => h x (by simp [hx]))
    simp [keyVs]; omega
theorem keyVs_succ {vs : List Val} {k : Nat} (h : k < vs.length) : keyVs (vs.take (k + 1)) = keyVs (vs.take k) ++ keyV (vs.getD k noV) := by
  rw [List.take_succ_eq_append_getElem h, keyVs_append, List.getD_eq_getElem?_getD, List.getElem?_eq_getElem h]
  simp [keyVs]

/-- what Key gives of formed values -/
def KeyPost (w : World) (vs : List Val) (e : Ending) (w' : World) : Prop :=
  ∃ v : Value, e = .returned (.tuple #[v, .int .i64 0]) ∧ w'.ownsRow w.heap.size 5 1 v (keyVs vs).length ((keyVs vs).map (Value.int .u8)) ∧ Below w.heap.size w w'

set_option maxHeartbeats 1600000 in
theorem key_bad (a : Option Addr) (len cap : Nat) (vs : List Val) (w : World) (hv : IsV w a len vs) (hf : allF vs = false) :
    Calls Try.prog 55 #[.slice a len cap] w fun e w' => e = .returned (.tuple #[.slice none 0 0, .int .i64 1]) ∧ Below w.heap.size w w' := by
  have H := Lib.hid hv
  obtain ⟨hl, hm, _⟩ := hv
  have HL := Lib.hid hl
  have HF := Lib.hid hf
  clear hl hf
  go_enter Try.func55, Try.ntmps55
  go_wp2
  go_loopw [11] (fun i wr => ∃ k : Nat, k ≤ len ∧ i = .int .i64 k ∧ Below w.heap.size w wr ∧ Hid (allF (vs.take k) = true)) (fun i _ => len - (intOf i).toNat)
  case atStart => exact ⟨0, by omega, rfl, Below.refl _ _, Lib.hid rfl⟩
  case round =>
    obtain ⟨k, hk, rfl, hb, HK⟩ := hrel
    by_cases hlt : k < len
    · have hk1 : k < vs.length := by have := HL.out; omega
      obtain ⟨b, off, rfl, hb0, p1, p2, p3⟩ := H.out.at hb hlt
      have HB := Lib.hid hb
      clear hb
      have hk0 : (0 : Int) ≤ (k : Int) := by omega
      have hkj : (k : Int) < (len : Int) := by omega
      by_cases hf : formedV (vs.getD k noV) = true
      · have HE := Lib.hid (allF_take hk1 HK.out hf)
        clear HK hk1
        unfold formedV at hf
        generalize vs.getD k noV = x at *
        obtain ⟨xk, xn, xs⟩ := x
        dsimp only at *
        go_wp2_with (go_at_call 115; refine (formed_any _ _ _ _).mono ?_; rintro e w' ⟨rfl, rfl⟩)
        go_roundw
        case rel =>
          refine ⟨k + 1, by omega, by go_num, ?_, HE⟩
          have := HB.out
          repeat (first | exact this | refine Below.drew ?_ | refine bel _ ?_)
        case measure => simp [intOf]; omega
      · have hf : formedV (vs.getD k noV) = false := by simpa using hf
        clear HK hk1
        unfold formedV at hf
        generalize vs.getD k noV = x at *
        obtain ⟨xk, xn, xs⟩ := x
        dsimp only at *
        go_wp2_with (go_at_call 115; refine (formed_any _ _ _ _).mono ?_; rintro e w' ⟨rfl, rfl⟩)
        go_ret2
        refine ⟨rfl, ?_⟩
        have := HB.out
        repeat (first | exact this | refine Below.drew ?_ | refine bel _ ?_)
    · exfalso
      have := HK.out
      rw [List.take_of_length_le (by have := HL.out; omega), HF.out] at this
      cases this

set_option maxHeartbeats 1600000 in
theorem key_good (a : Option Addr) (len cap : Nat) (vs : List Val) (w : World) (hv : IsV w a len vs) (hn : ∀ v ∈ vs, okV v) (hlen : len ≤ 1000) :
    Calls Try.prog 55 #[.slice a len cap] w (KeyPost w vs) := by
  have H := Lib.hid hv
  obtain ⟨hl, hm, _⟩ := hv
  have HL := Lib.hid hl
  have HN := Lib.hid hn
  clear hl hn
  go_enter Try.func55, Try.ntmps55
  go_wp2
  go_loopw [11] (fun i wr => ∃ k : Nat, k ≤ len ∧ i = .int .i64 k ∧ Below w.heap.size w wr) (fun i _ => len - (intOf i).toNat)
  case atStart => exact ⟨0, by omega, rfl, Below.refl _ _⟩
  case round =>
    obtain ⟨k, hk, rfl, hb⟩ := hrel
    by_cases hlt : k < len
    · have hk1 : k < vs.length := by have := HL.out; omega
      obtain ⟨b, off, rfl, hb0, p1, p2, p3⟩ := H.out.at hb hlt
      have HB := Lib.hid hb
      clear hb
      have hk0 : (0 : Int) ≤ (k : Int) := by omega
      have hkj : (k : Int) < (len : Int) := by omega
      have hf : formedV (vs.getD k noV) = true := (HN.out _ (by rw [List.getD_eq_getElem?_getD, List.getElem?_eq_getElem hk1]; exact List.getElem_mem hk1)).1
      clear hk1
      unfold formedV at hf
      generalize vs.getD k noV = x at *
      obtain ⟨xk, xn, xs⟩ := x
      dsimp only at *
      go_wp2_with (go_at_call 115; refine (formed_any _ _ _ _).mono ?_; rintro e w' ⟨rfl, rfl⟩)
      go_roundw
      case rel =>
        refine ⟨k + 1, by omega, by go_num, ?_⟩
        have := HB.out
        repeat (first | exact this | refine Below.drew ?_ | refine bel _ ?_)
      case measure => simp [intOf]; omega
    · obtain rfl : k = len := by omega
      have HB := Lib.hid hb
      clear hb
      go_wp2_with fail
      go_loopw [6, 21] (fun v i wr => ∃ j : Nat, j ≤ k ∧ i = .int .i64 j ∧ Hid (wr.ownsRow w.heap.size 5 1 v (keyVs (vs.take j)).length ((keyVs (vs.take j)).map (Value.int .u8)) ∧ Below w.heap.size w wr)) (fun _ i _ => k - (intOf i).toNat)
      case atStart => exact ⟨0, by omega, rfl, Lib.hid ⟨World.ownsRow_nil _ _ _ _, HB.out⟩⟩
      case round =>
        obtain ⟨j, hj, rfl, HR⟩ := hrel
        by_cases hlt2 : j < k
        · have hk1 : j < vs.length := by have := HL.out; omega
          obtain ⟨b, off, rfl, hb0, p1, p2, p3⟩ := H.out.at HR.out.2 hlt2
          have hk0 : (0 : Int) ≤ (j : Int) := by omega
          have hkj : (j : Int) < (k : Int) := by omega
          have HV := Lib.hid (HN.out (vs.getD j noV) (by rw [List.getD_eq_getElem?_getD, List.getElem?_eq_getElem hk1]; exact List.getElem_mem hk1))
          have HE := Lib.hid (keyVs_succ hk1)
          have hlj : (keyVs (vs.take j)).length ≤ 1000000 := by
            have := keyVs_len (l := vs.take j) (fun v hv => HN.out v (List.mem_of_mem_take hv))
            rw [List.length_take] at this; omega
          clear hk1
          generalize vs.getD j noV = x at *
          obtain ⟨xk, xn, xs⟩ := x
          dsimp only at *
          go_wp2_with fail
          refine (kappendValue_any w.heap.size _ (keyVs (vs.take j)) (xk, xn, xs) HV.out _ hlj (by have := HR.out.2.size; simp; omega) (HR.out.1.alloc _)).mono ?_
          rintro e w2 ⟨v2, rfl, hown2, hb2⟩
          have hB2 := Lib.hid ((HR.out.2.alloc HR.out.2.size _).trans hb2)
          rw [← HE.out] at hown2
          have HO2 := Lib.hid hown2
          clear hown2 hb2 p1 p2 p3
          go_wp2
          go_roundw
          case rel => exact ⟨j + 1, by omega, by go_num, Lib.hid ⟨HO2.out, hB2.out⟩⟩
          case measure => simp [intOf]; omega
        · obtain rfl : j = k := by omega
          have HE := Lib.hid (show keyVs (vs.take j) = keyVs vs by rw [List.take_of_length_le (by have := HL.out; omega)])
          go_wp2
          go_ret2
          refine ⟨_, rfl, ?_, HR.out.2⟩
          rw [← HE.out]
          exact HR.out.1

end Go.Proofs.Ytplgkblahmndoaa
