/- Contract of journal's filled. -/
import Derived.Test.YtbcjhngpcodaoaaSumW
import Derived.Laws.CopyOwn
import Derived.OwnWalk
namespace Go.Proofs.Ytbcjhngpcodaoaa
open Go.RowKit
set_option linter.unusedVariables false
set_option maxRecDepth 100000

theorem infoU8one : (Try.prog.info? 5).map (·.size) = some 1 := by kernel_rfl
/-- so many noughts -/
def noughts (n : Nat) : List Int := List.replicate n 0
theorem noughts_length (n : Nat) : (noughts n).length = n := List.length_replicate ..
theorem made_noughts (n : Nat) : (madeCells #[Value.int .u8 0] n).toList = (noughts n).map (Value.int .u8) := by
  rw [toList_madeCells_one]
  simp [noughts]
/-- bytes laid over noughts -/
theorem splice_noughts {ys : List Int} {m n : Nat} (hy : ys.length = m) (h : m ≤ n) : splice ((noughts n).map (Value.int .u8)) 0 (ys.map (Value.int .u8)) = (ys ++ noughts (n - m)).map (Value.int .u8) := by
  unfold splice noughts
  simp [hy]

/-- a whole row of the call's own, out of its block -/
theorem own_whole {w : World} {B g n : Nat} {xs : List Int} (hB : B ≤ g) (hn : n ≤ maxLen) (hx : xs.length = n) (h : w.heap[g]? = some (.cells (xs.map (Value.int .u8)).toArray 5 (0, 0))) :
    w.ownsRow B 5 1 (.slice (some ⟨g, 0, none⟩) n n) n (xs.map (Value.int .u8)) :=
  ⟨by simp [hx], .inr ⟨g, n, _, rfl, hB, h, Nat.le_refl _, hn, by simp [hx], by rw [Nat.mul_one]; exact List.take_of_length_le (by simp [hx])⟩⟩
theorem whole_own {w : World} {B g n : Nat} {xs : List Value} (h : w.ownsRow B 5 1 (.slice (some ⟨g, 0, none⟩) n n) n xs) : w.heap[g]? = some (.cells xs.toArray 5 (0, 0)) := by
  rcases h.2 with ⟨h', _⟩ | ⟨g', cap', cur, he, hb, hg, h1, h2, hs, ht⟩
  · cases h'
  · cases he
    rw [hg, ← ht, List.take_of_length_le (by rw [Array.length_toList, hs]; exact Nat.le_refl _)]

/-- what filled answers -/
def FilledPost (w : World) (B : Nat) (zs : List Int) (e : Ending) (w' : World) : Prop :=
  ∃ g : Nat, e = .returned (.slice (some ⟨g, 0, none⟩) zs.length zs.length) ∧ w'.ownsRow B 5 1 (.slice (some ⟨g, 0, none⟩) zs.length zs.length) zs.length (zs.map (Value.int .u8)) ∧ Below B w w'

set_option maxHeartbeats 1600000 in
theorem filled_any (B : Nat) (v : Value) (zs : List Int) (s : Int) (h0 : 0 ≤ s) (h1 : s ≤ 4294967295) (size : Nat) (hz : ∀ z ∈ zs, 0 ≤ z ∧ z ≤ 255) (hsz : zs.length + 4 ≤ size) (hsm : size ≤ 1000) (w : World) (hB : B ≤ w.heap.size)
    (hown : w.ownsRow B 5 1 v zs.length (zs.map (Value.int .u8))) :
    Calls Try.prog 76 #[v, .int .u32 s, .int .i64 size] w (FilledPost w B ((zs ++ beN s 4) ++ noughts (size - (zs.length + 4)))) := by
  have HO := Lib.hid hown
  have hlv : ∀ k, v.ownBlock = some k → B ≤ k ∧ k < w.heap.size := hown.lt
  have HLV := Lib.hid hlv
  clear hown hlv
  obtain ⟨i0, hi, hz0, hz1, hz2⟩ := info_parts info5
  have hmk := Lib.hid (made_noughts size)
  go_enter Try.func76, Try.ntmps76
  go_wp2_with (at_make; refine wpList_make_full _ rfl (.tmp 8) (.tmp 8) 26 rfl B 5 i0 (.int .u8 0) 1 Try.underlying26 hi hz0 hz1 .i64 .i64 size size size rfl rfl rfl rfl ?c1 ?c2 ?c3 ?_)
  case c1 => rw [hz2]; omega
  case c2 => unfold maxLen; omega
  case c3 => exact hB
  intro w1 hown1 hgrow1
  rw [hmk.out] at hown1
  have hg1 := whole_own hown1
  have HG1 := Lib.hid hg1
  have hs1 := hgrow1.size
  have HW1 := Lib.hid hgrow1
  have hlt1 : w.heap.size < w1.heap.size := (hown1.lt _ rfl).2
  have HO1 := Lib.hid (show w1.ownsRow B 5 1 v zs.length (zs.map (Value.int .u8)) from own_below HO.out (grown_belowB hgrow1 (Nat.le_refl _) (fun k hk => by cases hk)))
  clear hown1 hg1 hgrow1
  go_wp2_with fail
  refine (beAppend_any B v zs s h0 (by omega) 4 (by omega) _ (by omega) (by omega) HO1.out).mono ?_
  rintro e w2 ⟨v2, rfl, hown2, hgrow2⟩
  have hl2 : (zs ++ beN s 4).length = zs.length + 4 := by rw [List.length_append, beN_length]
  rw [hl2] at hown2
  obtain ⟨g2, c2, rfl⟩ := own_addr hown2 (by omega)
  have hg2 : w2.heap[w.heap.size]? = some (.cells ((noughts size).map (Value.int .u8)).toArray 5 (0, 0)) := by
    rw [← HG1.out]
    exact hgrow2.block _ hlt1 (fun h => absurd (HLV.out _ h.symm).2 (Nat.lt_irrefl _))
  have hr2 : ∀ z ∈ zs ++ beN s 4, 0 ≤ z ∧ z ≤ 255 := fun z hz' => by
    rcases List.mem_append.1 hz' with h | h
    · exact hz z h
    · exact beN_range s 4 z h
  have hB2 : Below B w w2 := (grown_belowB HW1.out hB (fun k hk => by cases hk)).trans (grown_belowB hgrow2 (by omega) (fun k hk => (HLV.out k hk).1))
  have HB2 := Lib.hid hB2
  have hI2 := own_isB hown2 hl2 hr2
  have HI2 := Lib.hid hI2
  have HL2 := Lib.hid hl2
  clear hown2 hgrow2 hB2 hI2 hl2 hr2
  generalize zs ++ beN s 4 = ys at *
  go_wp2_with (with_reducible refine wpList_copy_splice rfl (.tmp 10) (.tmp 14) 26 26 rfl 5 Try.underlying26 infoU8one (some ⟨w.heap.size, 0, none⟩) (some ⟨g2, 0, none⟩) size size (zs.length + 4) c2 rfl rfl w.heap.size 0 ((noughts size).map (Value.int .u8)) 5 hg2 (ys.map (Value.int .u8)) ?d1 ?d2 ?d3 ?d4 B w HB2.out hB ?_)
  case d1 => rw [List.length_map, HL2.out]; exact (Nat.min_eq_left hsz).symm
  case d2 =>
    intro _ j z hj
    have hc := HI2.out.cells _ rfl j (.int .u8 z) (by simp [hj])
    by_cases h : j = 0
    · subst h; exact hc
    · rw [show (⟨g2, 0, none⟩ : Addr).add j = ⟨g2, j, none⟩ by simp [Addr.add, h]] at hc; exact hc
  case d3 => simp [HL2.out, noughts_length]; omega
  case d4 => intro u hu; obtain ⟨_, _, rfl⟩ := List.mem_map.1 hu; rfl
  intro w3 hg3 hB3
  have HB3 := Lib.hid hB3
  clear hB3
  have hs3 := splice_noughts HL2.out hsz
  have hl3 : (ys ++ noughts (size - (zs.length + 4))).length = size := by rw [List.length_append, HL2.out, noughts_length]; omega
  have hg3' := hg3.out
  rw [hs3] at hg3'
  have HG3 := Lib.hid hg3'
  have HL3 := Lib.hid hl3
  clear hs3 hl3 hg3 hg3' hg2
  go_wp2
  go_ret
  refine ⟨w.heap.size, ?_, ?_, HB3.out⟩
  · rw [HL3.out]; rfl
  · rw [HL3.out]
    exact own_whole hB (by unfold maxLen; omega) HL3.out HG3.out
end Go.Proofs.Ytbcjhngpcodaoaa
