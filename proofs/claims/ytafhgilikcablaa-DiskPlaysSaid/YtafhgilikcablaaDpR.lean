/- The document's disk in any state. -/
import Derived.Test.YtafhgilikcablaaDpA
import Derived.Test.YtafhgilikcablaaDpP
namespace Go.Proofs.Ytafhgilikcablaa
open Go.RowKit Go.Maps
set_option linter.unusedVariables false
set_option maxRecDepth 100000

/-- the touched sectors, in block M -/
def TIn (w : World) (M : Nat) (L : List Lit) : Prop := w.ownsMap Try.prog 3 (plainElem (H := Unit) Try.prog 4) M L.length (Maps.setOf (.lit (.bool true)) L)
theorem TIn.far {w w' : World} {M : Nat} {L : List Lit} (h : TIn w M L) (e : w'.heap[M]? = w.heap[M]?) : TIn w' M L := by
  obtain ⟨es, clk, hb, r⟩ := h
  exact ⟨es, clk, e.trans hb, r⟩
theorem TIn.not_cells {w : World} {M : Nat} {L : List Lit} (h : TIn w M L) {cs : Array Value} {T : TypeId} {x : Nat × Nat} (e : w.heap[M]? = some (.cells cs T x)) : False := by
  obtain ⟨es, clk, hb, r⟩ := h
  rw [hb] at e
  cases e
theorem TIn.lt {w : World} {M : Nat} {L : List Lit} (h : TIn w M L) : M < w.heap.size := World.ownsMap.lt h
theorem TIn.made (w : World) : TIn (w.alloc (.map #[] 0)) w.heap.size [] := World.ownsMap_made w Try.prog 3 _
theorem TIn.len {w : World} {M : Nat} {L : List Lit} (h : TIn w M L) (hk : ∀ k ∈ L, WideAt.IsKeyLit k) (ty : TypeId) : (Builtin.len_ #[95] ty #[.map (some M)]).run Try.prog w = .ok (.int .i64 (nKeys L : Int)) w := by
  have := World.ownsMap.len h Try.underlying95 ty
  rw [Maps.size_setOf _ _ hk] at this
  exact this
theorem at_fold (u z : DataW Unit) (s : Nat) : ∀ (L : List Lit) (D : DataW Unit), IsMap D → (∀ x ∈ L, ∃ t : Nat, x = sk t ∧ WideAt.IsKeyLit x) → (L.foldl (fun m x => m.put x u) D).atKey (sk s) z = if inL L s = true then u else D.atKey (sk s) z
  | [], D, _, _ => by simp [inL]
  | x :: L, D, hD, hk => by
    obtain ⟨t, hxt, hx⟩ := hk x List.mem_cons_self
    have ih := at_fold u z s L (D.put x u) (hD.put _ _) (fun y hy => hk y (List.mem_cons_of_mem _ hy))
    have e1 : (List.foldl (fun m x => m.put x u) D (x :: L)) = L.foldl (fun m x => m.put x u) (D.put x u) := rfl
    rw [e1, ih]
    subst hxt
    have hin : inL (sk t :: L) s = (decide (t = s) || inL L s) := by
      show ((sk t).sameKey (sk s) || inL L s) = _
      rw [sk_same]
    rw [hin]
    by_cases e : t = s
    · subst e
      simp [atKey_put_same hD hx]
    · have hne : sk s ≠ sk t := fun h => e (sk_inj h).symm
      rw [atKey_put_other hne]
      simp [e]
theorem TIn.look {w : World} {M : Nat} {L : List Lit} (h : TIn w M L) (hk : SecK L) (s : Nat) (hs : s ≤ 1000000) : (Instr.lookup 95 (.map (some M)) (.int .i64 (s : Int)) false).run Try.prog w = .ok (.bool (inL L s)) w := by
  have hz : (zeroValue 4).run Try.prog w = .ok (.bool false) w := by kernel_rfl
  have hkey : keyOf Try.prog 3 (.int .i64 (s : Int)) = some (sk s) := Go.Maps.keyOf_int_mk Try.underlying3 (WalkArith.wf_i64 (by omega))
  obtain ⟨v, ps, hrun, hv⟩ := World.ownsMap.lookup h (Go.Maps.int_keyed Try.underlying3) Try.underlying95 hz (plainElem_bool Try.underlying4 false) hkey
  have hat : (Maps.setOf (.lit (.bool true) : DataW Unit) L).atKey (sk s) (.lit (.bool false)) = .lit (.bool (inL L s)) := by
    refine (at_fold _ _ s L _ ⟨[], rfl⟩ (fun x hx => ?_)).trans ?_
    · obtain ⟨t, _, e⟩ := hk x hx
      exact ⟨t, e, hk.key x hx⟩
    · cases inL L s <;> rfl
  rw [hat] at hv
  have : v = .bool (inL L s) := by
    unfold plainElem at hv
    rw [Try.underlying4] at hv
    cases v <;> simp at hv
    rw [hv.1]
  rw [hrun, this]

/-- its cells -/
def rCs (i0 k0 : Value) (M0 : Nat) (i1 k1 : Value) (M1 : Nat) (a : DA) : Array Value := #[i0, k0, .map (some M0), i1, k1, .map (some M1), .int .i64 a.R, .int .i64 a.fuse, .bool a.down]
structure RC (w : World) (E B : Nat) (i0 k0 : Value) (M0 : Nat) (i1 k1 : Value) (M1 : Nat) (a : DA) : Prop where
  box : w.heap[E]? = some (.cells (rCs i0 k0 M0 i1 k1 M1 a) 100 (0, 0))
  lt : E < B
  le : B ≤ w.heap.size
  is0 : w.ownsRow B 5 1 i0 a.f0.zs.length (a.f0.zs.map (Value.int .u8))
  is1 : w.ownsRow B 5 1 i1 a.f1.zs.length (a.f1.zs.map (Value.int .u8))
  kp0 : w.ownsRow B 5 1 k0 a.f0.ys.length (a.f0.ys.map (Value.int .u8))
  kp1 : w.ownsRow B 5 1 k1 a.f1.ys.length (a.f1.ys.map (Value.int .u8))
  t0 : TIn w M0 a.f0.L
  t1 : TIn w M1 a.f1.L
  b0 : B ≤ M0
  b1 : B ≤ M1
  mm : M0 ≠ M1
def rS (E : Nat) (i0 k0 : Value) (M0 : Nat) (i1 k1 : Value) (M1 : Nat) (i : Nat) : Prop :=
  i = E ∨ i0.ownBlock = some i ∨ k0.ownBlock = some i ∨ i = M0 ∨ i1.ownBlock = some i ∨ k1.ownBlock = some i ∨ i = M1
theorem row_tin {w : World} {B n size M : Nat} {e : TypeId} {v : Value} {xs : List Value} {L : List Lit} (h : w.ownsRow B e size v n xs) (ht : TIn w M L) {g : Nat} (hg : v.ownBlock = some g) : g ≠ M := fun e => by
  obtain ⟨_, cur, hc⟩ := own_at h hg
  subst e
  exact ht.not_cells hc
theorem RC.bound {w : World} {E B : Nat} {i0 k0 : Value} {M0 : Nat} {i1 k1 : Value} {M1 : Nat} {a : DA} (h : RC w E B i0 k0 M0 i1 k1 M1 a) {i : Nat} (hi : rS E i0 k0 M0 i1 k1 M1 i) : E ≤ i ∧ i < w.heap.size := by
  have := h.lt
  have := h.le
  rcases hi with e | e | e | e | e | e | e
  · omega
  · have := own_lt h.is0 e; omega
  · have := own_lt h.kp0 e; omega
  · have := h.t0.lt; have := h.b0; omega
  · have := own_lt h.is1 e; omega
  · have := own_lt h.kp1 e; omega
  · have := h.t1.lt; have := h.b1; omega
theorem RC.only {S : Nat → Prop} {w w' : World} {E B : Nat} {i0 k0 : Value} {M0 : Nat} {i1 k1 : Value} {M1 : Nat} {a : DA} (h : RC w E B i0 k0 M0 i1 k1 M1 a) (k : Only S w w') (hS : ∀ i, rS E i0 k0 M0 i1 k1 M1 i → ¬ S i) : RC w' E B i0 k0 M0 i1 k1 M1 a :=
  ⟨(k.block E (Array.getElem?_eq_some_iff.1 h.box).1 (hS E (.inl rfl))).trans h.box, h.lt, Nat.le_trans h.le k.size,
   own_only h.is0 k (fun g hg => hS g (.inr (.inl hg))), own_only h.is1 k (fun g hg => hS g (.inr (.inr (.inr (.inr (.inl hg)))))),
   own_only h.kp0 k (fun g hg => hS g (.inr (.inr (.inl hg)))), own_only h.kp1 k (fun g hg => hS g (.inr (.inr (.inr (.inr (.inr (.inl hg))))))),
   h.t0.far (k.block M0 h.t0.lt (hS M0 (.inr (.inr (.inr (.inl rfl)))))), h.t1.far (k.block M1 h.t1.lt (hS M1 (.inr (.inr (.inr (.inr (.inr (.inr rfl)))))))), h.b0, h.b1, h.mm⟩
theorem RC.below {w w' : World} {E B : Nat} {i0 k0 : Value} {M0 : Nat} {i1 k1 : Value} {M1 : Nat} {a : DA} (h : RC w E B i0 k0 M0 i1 k1 M1 a) (hb : Below w.heap.size w w') : RC w' E B i0 k0 M0 i1 k1 M1 a := h.only (Only.below hb) (fun _ _ => id)
def DPost (w : World) (E B : Nat) (i0 k0 : Value) (M0 : Nat) (i1 k1 : Value) (M1 : Nat) (a' : DA) (w' : World) : Prop :=
  ∃ j0 l0 N0 j1 l1 N1, RC w' E B j0 l0 N0 j1 l1 N1 a' ∧ (∀ i, rS E j0 l0 N0 j1 l1 N1 i → rS E i0 k0 M0 i1 k1 M1 i ∨ w.heap.size ≤ i) ∧ Only (rS E i0 k0 M0 i1 k1 M1) w w'
theorem DPost.trans {w w1 w' : World} {E B : Nat} {i0 k0 : Value} {M0 : Nat} {i1 k1 : Value} {M1 : Nat} {j0 l0 : Value} {N0 : Nat} {j1 l1 : Value} {N1 : Nat} {a' : DA} (h : Only (rS E i0 k0 M0 i1 k1 M1) w w1) (hi : ∀ i, rS E j0 l0 N0 j1 l1 N1 i → rS E i0 k0 M0 i1 k1 M1 i ∨ w.heap.size ≤ i) (h2 : DPost w1 E B j0 l0 N0 j1 l1 N1 a' w') : DPost w E B i0 k0 M0 i1 k1 M1 a' w' := by
  obtain ⟨x0, y0, z0, x1, y1, z1, c1, c2, c3⟩ := h2
  refine ⟨_, _, _, _, _, _, c1, fun i hS => ?_, ?_⟩
  · rcases c2 i hS with hh | hh
    · exact hi i hh
    · exact .inr (Nat.le_trans h.size hh)
  · exact ⟨c3.os.trans h.os, c3.tape.trans h.tape, c3.output.trans h.output, Nat.le_trans h.size c3.size, fun i hlt hn => (c3.block i (Nat.lt_of_lt_of_le hlt h.size) (fun hS => (hi i hS).elim hn (fun hle => by omega))).trans (h.block i hlt hn)⟩
/-- only its numbers -/
theorem RC.scal {w w' : World} {E B : Nat} {i0 k0 : Value} {M0 : Nat} {i1 k1 : Value} {M1 : Nat} {a a' : DA} (h : RC w E B i0 k0 M0 i1 k1 M1 a) (e0 : a'.f0 = a.f0) (e1 : a'.f1 = a.f1) (hb : w'.heap[E]? = some (.cells (rCs i0 k0 M0 i1 k1 M1 a') 100 (0, 0))) (k : Only (fun i => i = E) w w') : RC w' E B i0 k0 M0 i1 k1 M1 a' := by
  have hd : ∀ {g : Nat}, B ≤ g → ¬ g = E := fun hg e => by have := h.lt; omega
  refine ⟨hb, h.lt, Nat.le_trans h.le k.size, ?_, ?_, ?_, ?_, ?_, ?_, h.b0, h.b1, h.mm⟩
  · rw [e0]; exact own_only h.is0 k (fun g hg => hd (own_lt h.is0 hg).1)
  · rw [e1]; exact own_only h.is1 k (fun g hg => hd (own_lt h.is1 hg).1)
  · rw [e0]; exact own_only h.kp0 k (fun g hg => hd (own_lt h.kp0 hg).1)
  · rw [e1]; exact own_only h.kp1 k (fun g hg => hd (own_lt h.kp1 hg).1)
  · rw [e0]; exact h.t0.far (k.block M0 h.t0.lt (hd h.b0))
  · rw [e1]; exact h.t1.far (k.block M1 h.t1.lt (hd h.b1))
theorem RC.same {w w' : World} {E B : Nat} {i0 k0 : Value} {M0 : Nat} {i1 k1 : Value} {M1 : Nat} {a a' : DA} (h : RC w' E B i0 k0 M0 i1 k1 M1 a') (k : Only (fun i => i = E) w w') : DPost w E B i0 k0 M0 i1 k1 M1 a' w' :=
  ⟨_, _, _, _, _, _, h, fun i hi => .inl hi, k.mono (fun i hi => .inl hi)⟩
theorem RC.stay {w : World} {E B : Nat} {i0 k0 : Value} {M0 : Nat} {i1 k1 : Value} {M1 : Nat} {a : DA} (h : RC w E B i0 k0 M0 i1 k1 M1 a) : DPost w E B i0 k0 M0 i1 k1 M1 a w := h.same (a := a) (Only.refl _ _)
theorem RC.drew {w : World} {E B : Nat} {i0 k0 : Value} {M0 : Nat} {i1 k1 : Value} {M1 : Nat} {a : DA} (h : RC w E B i0 k0 M0 i1 k1 M1 a) (n : Nat) : RC (w.drewN n) E B i0 k0 M0 i1 k1 M1 a := by
  have k : Only (fun i => i = E) w (w.drewN n) := ⟨rfl, rfl, rfl, Nat.le_refl _, fun _ _ _ => rfl⟩
  exact h.scal (w' := w.drewN n) (a' := a) rfl rfl h.box k
/-- file 0 is another one -/
theorem RC.put0 {w w' : World} {E B : Nat} {i0 k0 j l : Value} {M0 N : Nat} {i1 k1 : Value} {M1 : Nat} {a a' : DA} (h : RC w E B i0 k0 M0 i1 k1 M1 a) (e1 : a'.f1 = a.f1) (k : Only (fun i => i = E ∨ i = M0) w w') (hb : w'.heap[E]? = some (.cells (rCs j l N i1 k1 M1 a') 100 (0, 0)))
    (hj : w'.ownsRow B 5 1 j a'.f0.zs.length (a'.f0.zs.map (Value.int .u8))) (hl : w'.ownsRow B 5 1 l a'.f0.ys.length (a'.f0.ys.map (Value.int .u8))) (ht : TIn w' N a'.f0.L)
    (nj : ∀ g, j.ownBlock = some g → i0.ownBlock = some g ∨ w.heap.size ≤ g) (nl : ∀ g, l.ownBlock = some g → k0.ownBlock = some g ∨ w.heap.size ≤ g) (nn : N = M0 ∨ w.heap.size ≤ N) : DPost w E B i0 k0 M0 i1 k1 M1 a' w' := by
  have no : ∀ {g : Nat}, B ≤ g → g ≠ M0 → ¬ (g = E ∨ g = M0) := fun h1 h2 hS => by have := h.lt; omega
  have hbN : B ≤ N := nn.elim (fun e => by rw [e]; exact h.b0) (fun e => Nat.le_trans h.le e)
  refine ⟨j, l, N, i1, k1, M1, ⟨hb, h.lt, Nat.le_trans h.le k.size, hj, ?_, hl, ?_, ht, ?_, hbN, h.b1, ?_⟩, fun i hi => ?_, k.mono (fun i hi => hi.elim .inl (fun h => .inr (.inr (.inr (.inl h)))))⟩
  · rw [e1]; exact own_only h.is1 k (fun g hg => no (own_lt h.is1 hg).1 (row_tin h.is1 h.t0 hg))
  · rw [e1]; exact own_only h.kp1 k (fun g hg => no (own_lt h.kp1 hg).1 (row_tin h.kp1 h.t0 hg))
  · rw [e1]; exact h.t1.far (k.block M1 h.t1.lt (no h.b1 (fun e => h.mm e.symm)))
  · rcases nn with e | e
    · rw [e]; exact h.mm
    · have := h.t1.lt; omega
  · rcases hi with e | e | e | e | e | e | e
    · exact .inl (.inl e)
    · exact (nj i e).imp (fun h => .inr (.inl h)) id
    · exact (nl i e).imp (fun h => .inr (.inr (.inl h))) id
    · rcases nn with e2 | e2
      · exact .inl (.inr (.inr (.inr (.inl (e.trans e2)))))
      · exact .inr (by omega)
    · exact .inl (.inr (.inr (.inr (.inr (.inl e)))))
    · exact .inl (.inr (.inr (.inr (.inr (.inr (.inl e))))))
    · exact .inl (.inr (.inr (.inr (.inr (.inr (.inr e))))))
/-- file 1 is another one -/
theorem RC.put1 {w w' : World} {E B : Nat} {i0 k0 j l : Value} {M0 N : Nat} {i1 k1 : Value} {M1 : Nat} {a a' : DA} (h : RC w E B i0 k0 M0 i1 k1 M1 a) (e1 : a'.f0 = a.f0) (k : Only (fun i => i = E ∨ i = M1) w w') (hb : w'.heap[E]? = some (.cells (rCs i0 k0 M0 j l N a') 100 (0, 0)))
    (hj : w'.ownsRow B 5 1 j a'.f1.zs.length (a'.f1.zs.map (Value.int .u8))) (hl : w'.ownsRow B 5 1 l a'.f1.ys.length (a'.f1.ys.map (Value.int .u8))) (ht : TIn w' N a'.f1.L)
    (nj : ∀ g, j.ownBlock = some g → i1.ownBlock = some g ∨ w.heap.size ≤ g) (nl : ∀ g, l.ownBlock = some g → k1.ownBlock = some g ∨ w.heap.size ≤ g) (nn : N = M1 ∨ w.heap.size ≤ N) : DPost w E B i0 k0 M0 i1 k1 M1 a' w' := by
  have no : ∀ {g : Nat}, B ≤ g → g ≠ M1 → ¬ (g = E ∨ g = M1) := fun h1 h2 hS => by have := h.lt; omega
  have hbN : B ≤ N := nn.elim (fun e => by rw [e]; exact h.b1) (fun e => Nat.le_trans h.le e)
  refine ⟨i0, k0, M0, j, l, N, ⟨hb, h.lt, Nat.le_trans h.le k.size, ?_, hj, ?_, hl, ?_, ht, h.b0, hbN, ?_⟩, fun i hi => ?_, k.mono (fun i hi => hi.elim .inl (fun h => .inr (.inr (.inr (.inr (.inr (.inr h)))))))⟩
  · rw [e1]; exact own_only h.is0 k (fun g hg => no (own_lt h.is0 hg).1 (row_tin h.is0 h.t1 hg))
  · rw [e1]; exact own_only h.kp0 k (fun g hg => no (own_lt h.kp0 hg).1 (row_tin h.kp0 h.t1 hg))
  · rw [e1]; exact h.t0.far (k.block M0 h.t0.lt (no h.b0 h.mm))
  · rcases nn with e | e
    · rw [e]; exact h.mm
    · have := h.t0.lt; omega
  · rcases hi with e | e | e | e | e | e | e
    · exact .inl (.inl e)
    · exact .inl (.inr (.inl e))
    · exact .inl (.inr (.inr (.inl e)))
    · exact .inl (.inr (.inr (.inr (.inl e))))
    · exact (nj i e).imp (fun h => .inr (.inr (.inr (.inr (.inl h))))) id
    · exact (nl i e).imp (fun h => .inr (.inr (.inr (.inr (.inr (.inl h)))))) id
    · rcases nn with e2 | e2
      · exact .inl (.inr (.inr (.inr (.inr (.inr (.inr (e.trans e2)))))))
      · exact .inr (by omega)
end Go.Proofs.Ytafhgilikcablaa
