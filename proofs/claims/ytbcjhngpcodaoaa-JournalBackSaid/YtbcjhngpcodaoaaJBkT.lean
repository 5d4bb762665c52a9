/- What JournalBack's two journals tell, in the walk's own words. -/
import Derived.Test.YtbcjhngpcodaoaaJBkS
import Derived.Test.YtbcjhngpcodaoaaJBkA
import Derived.Test.YtbcjhngpcodaoaaJGot2
namespace Go.Proofs.Ytbcjhngpcodaoaa
open Go.RowKit
set_option linter.unusedVariables false

/-- the two heads, one behind the other -/
def yz (sc : Bool) (x1 x2 : List Int) : List Int := if sc then x2 ++ x1 else x1 ++ x2
/-- where the greater head begins -/
def yzA (sc : Bool) : Nat := if sc then 64 else 0

theorem tells1 {s p : Int} {M N Ls : Nat} {x1 x2 zr : List Int} {f : Nat → Int × Int × Int × Int} (sc : Bool) (hs : 0 ≤ s ∧ s ≤ 18446744073709551615) (hp : 0 ≤ p ∧ p ≤ 10000) (hm : M ≤ N) (hN : N ≤ 12) (hL : Ls < M ∨ (M = 0 ∧ Ls = 0)) (e1 : x1 = headK s p M) (e2 : x2 = headK s p Ls) :
    TellsB (yz sc x1 x2 ++ recsB s (psK f N) ++ zr) s p f M := by
  have l1 : x1.length = 64 := by rw [e1]; exact headK_length _ _ _
  have l2 : x2.length = 64 := by rw [e2]; exact headK_length _ _ _
  have k2 : hOk x2 = true := by rw [e2]; exact headK_ok s p Ls hs hp (by omega)
  have r2 : hR x2 = Ls := by rw [e2]; exact headK_R s p Ls (by omega) (by omega)
  cases sc with
  | false =>
    show TellsB (x1 ++ x2 ++ recsB s (psK f N) ++ zr) s p f M
    simp only [List.append_assoc]
    exact tells_of hs hp hm hN l1 l2 (.inl ⟨e1, .inr ⟨k2, by rw [r2]; omega⟩⟩)
  | true =>
    show TellsB (x2 ++ x1 ++ recsB s (psK f N) ++ zr) s p f M
    simp only [List.append_assoc]
    rcases hL with hL | ⟨rfl, rfl⟩
    · exact tells_of hs hp hm hN l2 l1 (.inr (.inl ⟨e1, .inr ⟨k2, by rw [r2]; omega⟩⟩))
    · exact tells_of hs hp hm hN l2 l1 (.inr (.inr ⟨e2, e1⟩))
theorem tells2 {s p t : Int} {M N Ls : Nat} {x1 x2 zr : List Int} {f : Nat → Int × Int × Int × Int} (sc : Bool) (hs : 0 ≤ s ∧ s ≤ 18446744073709551615) (hp : 0 ≤ p ∧ p ≤ 10000) (hm : M ≤ N) (hN : N ≤ 12) (hL : Ls < M ∨ (M = 0 ∧ Ls = 0)) (l1 : x1.length = 64) (e2 : x2 = headK s p Ls) :
    TellsB (turnK (yz sc x1 x2 ++ recsB s (psK f N)) (yzA sc) 64 t ++ zr) s p f Ls := by
  have l2 : x2.length = 64 := by rw [e2]; exact headK_length _ _ _
  have la : (List.replicate 64 t).length = 64 := List.length_replicate
  have ka := hOk_alike t
  have hle : Ls ≤ N := by omega
  cases sc with
  | false =>
    have : turnK (yz false x1 x2 ++ recsB s (psK f N)) (yzA false) 64 t = List.replicate 64 t ++ (x2 ++ recsB s (psK f N)) := by
      show turnK (x1 ++ x2 ++ recsB s (psK f N)) 0 64 t = _
      unfold turnK
      rw [List.take_zero, List.nil_append, Nat.zero_add, List.append_assoc, drop_app l1.symm]
    rw [this]
    simp only [List.append_assoc]
    exact tells_of hs hp hle hN la l2 (.inr (.inl ⟨e2, .inl ka⟩))
  | true =>
    have : turnK (yz true x1 x2 ++ recsB s (psK f N)) (yzA true) 64 t = x2 ++ (List.replicate 64 t ++ recsB s (psK f N)) := by
      show turnK (x2 ++ x1 ++ recsB s (psK f N)) 64 64 t = _
      unfold turnK
      rw [List.append_assoc, take_app l2.symm, ← List.append_assoc x2 x1, drop_app (by rw [List.length_append, l1, l2])]
    rw [this]
    simp only [List.append_assoc]
    exact tells_of hs hp hle hN l2 la (.inl ⟨e2, .inl ka⟩)
theorem turnK_zero (zb : List Int) (a : Nat) (t : Int) : turnK zb a 0 t = zb := by
  unfold turnK; simp
theorem turnK_range {zb : List Int} {a k : Nat} {t : Int} (h : ∀ z ∈ zb, 0 ≤ z ∧ z ≤ 255) (ht : 0 ≤ t ∧ t ≤ 255) : ∀ z ∈ turnK zb a k t, 0 ≤ z ∧ z ≤ 255 := by
  intro z hz
  unfold turnK at hz
  rcases List.mem_append.1 hz with h1 | h1
  · exact h z (List.mem_of_mem_take h1)
  · rcases List.mem_append.1 h1 with h2 | h2
    · rw [(List.mem_replicate.1 h2).2]; exact ht
    · exact h z (List.mem_of_mem_drop h2)

theorem parts_below {w w' : World} {a : Option Addr} {len : Nat} {f : Nat → Int × Int × Int × Int} (h : IsParts w a len f) (hb : Below w.heap.size w w') : IsParts w' a len f := by
  refine ⟨h.1, ?_⟩
  rcases h.2 with h0 | ⟨b, off, rfl, hlt, hc⟩
  · exact .inl h0
  · refine .inr ⟨b, off, rfl, Nat.lt_of_lt_of_le hlt hb.size, fun i hi => ?_⟩
    obtain ⟨c0, c1, c2, c3, r⟩ := hc i hi
    exact ⟨(hb.cell (p := ⟨b, off + i * 4, none⟩) hlt).trans c0, (hb.cell (p := ⟨b, off + i * 4 + 1, none⟩) hlt).trans c1, (hb.cell (p := ⟨b, off + i * 4 + 2, none⟩) hlt).trans c2, (hb.cell (p := ⟨b, off + i * 4 + 3, none⟩) hlt).trans c3, r⟩

section
variable {W : World} {ops : Array Oper} {rest : List Oper} {o : Oper} {a : Act} {K : Act → World → Prop} {Q : Exit → Act → World → Prop} {E : Prop}
/-- behind a row of the call's own, which is read again -/
theorem wpList_keep (hgd : o.guard = none) (s x : Operand) (ho : o.op = .call { callee := .builtin .append, args := #[s, x], argTypes := #[26, 26] })
    (B g n cap : Nat) (zs : List Int) (d : Option Addr) (ld cd : Nat) (zd : List Int) (hs : a.eval s = .slice (some ⟨g, 0, none⟩) n cap) (hx : a.eval x = .slice d ld cd)
    (hown : W.ownsRow B 5 1 (.slice (some ⟨g, 0, none⟩) n cap) n (zs.map (Value.int .u8))) (hz : zs.length = n) (hzr : ∀ z ∈ zs, 0 ≤ z ∧ z ≤ 255) (hd : IsB W d ld zd) (hn : d = none → ld = 0 ∧ cd = 0) (hlen : n + ld ≤ 1000000)
    (h : ∀ g' cap' w', IsB w' (some ⟨g', 0, none⟩) (n + ld) (zs ++ zd) → IsB w' (some ⟨g, 0, none⟩) n zs → g' < w'.heap.size → g < w'.heap.size → n + ld ≤ cap' → (∀ B', B' ≤ g → B' ≤ W.heap.size → Below B' W w') → wpList Try.prog ops Q rest (a.put o.dst (.slice (some ⟨g', 0, none⟩) (n + ld) cap')) w') :
    wpList Try.prog ops Q (o :: rest) a W := by
  refine wpList_plain hgd fun _ hK => ?_
  obtain ⟨g', cap', w', hr, h1, h2, h3, h4, h5, h6⟩ := own_append_keep hown hz hzr hd hn hlen o.type
  unfold Oper.wp execOp
  simp only [ho, resolve, invoke, builtin, Sem.run_bind, Sem.run_pure, Result.andThen_ok, List.map_toArray, List.map_cons, List.map_nil, hs, hx, hr]
  exact hK _ _ (h g' cap' w' h1 h2 h3 h4 h5 h6)
end
end Go.Proofs.Ytbcjhngpcodaoaa
