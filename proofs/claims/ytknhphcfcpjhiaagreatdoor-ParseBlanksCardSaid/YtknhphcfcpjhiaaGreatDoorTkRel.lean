/- The package's taker: what the loop of take keeps. Written by gentkt.py. -/
import Derived.Test.YtknhphcfcpjhiaaGreatDoorTkAgg
import Derived.Test.YtknhphcfcpjhiaaGreatDoorTkOper
import Derived.Test.YtknhphcfcpjhiaaGreatDoorTkClose
namespace Go.Proofs.YtknhphcfcpjhiaaGreatDoor
open Go.RowKit
set_option linter.unusedVariables false
set_option linter.unusedSimpArgs false
set_option maxRecDepth 100000
def PdOk (ln ps : Nat) (p : Pd) : Prop := (∀ q ∈ p.left, q.dp + (ln : Int) ≤ (ps : Int)) ∧ (Lit.int .i64 p.kind).wf = true ∧ p.op.size ≤ maxLen ∧ InR p.lv ∧ InR p.least ∧ 1 ≤ p.least
structure PInv (s : Tk) : Prop where
  few : s.op.length ≤ s.pos
  least : InR s.least ∧ 1 ≤ s.least
  all : ∀ p ∈ s.op, PdOk s.op.length s.pos p
def mu (s : Tk) : Int := 2 * (s.pos : Int) - (s.op.length : Int)
/-- the same, farther on -/
def Mv (s s' : Tk) : Prop := s'.op = s.op ∧ s'.least = s.least ∧ s.pos ≤ s'.pos
theorem PdOk.mono {a b c d : Nat} {p : Pd} (h : PdOk a b p) (h1 : c + b ≤ a + d) : PdOk c d p := ⟨fun q hq => by have := h.1 q hq; omega, h.2⟩
theorem PInv.mv {s s' : Tk} (h : PInv s) (m : Mv s s') : PInv s' := by
  obtain ⟨m1, m2, m3⟩ := m
  refine ⟨by rw [m1]; have := h.few; omega, by rw [m2]; exact h.least, fun p hp => ?_⟩
  rw [m1] at hp ⊢
  exact (h.all p hp).mono (by omega)
theorem Mv.mu {s s' : Tk} (m : Mv s s') : mu s ≤ mu s' := by
  obtain ⟨m1, _, m3⟩ := m
  unfold Go.Proofs.YtknhphcfcpjhiaaGreatDoor.mu
  rw [m1]; omega
theorem Mv.adv (s : Tk) : Mv s (adv s) := ⟨rfl, rfl, Nat.le_succ _⟩
theorem Mv.refl (s : Tk) : Mv s s := ⟨rfl, rfl, Nat.le_refl _⟩
theorem Mv.trans {a b c : Tk} (h : Mv a b) (k : Mv b c) : Mv a c := ⟨k.1.trans h.1, k.2.1.trans h.2.1, Nat.le_trans h.2.2 k.2.2⟩
theorem PInv.wait {s : Tk} (h : PInv s) {p : Pd} {l : Int} (hl : InR l ∧ 1 ≤ l) (hp : (∀ q ∈ p.left, q.dp + (s.op.length : Int) ≤ (s.pos : Int)) ∧ (Lit.int .i64 p.kind).wf = true ∧ p.op.size ≤ maxLen ∧ InR p.lv) : PInv (waitP (adv s) p l) := by
  have hlen : (waitP (adv s) p l).op.length = s.op.length + 1 := by simp [waitP, Go.Proofs.YtknhphcfcpjhiaaGreatDoor.adv]
  refine ⟨by rw [hlen]; show s.op.length + 1 ≤ s.pos + 1; have := h.few; omega, hl, fun q hq => ?_⟩
  rw [hlen]
  show PdOk (s.op.length + 1) (s.pos + 1) q
  rcases List.mem_append.1 (show q ∈ s.op ++ [{ p with least := s.least }] from hq) with hq | hq
  · exact (h.all q hq).mono (by omega)
  · obtain rfl := List.mem_singleton.1 hq
    exact ⟨fun x hx => by have := hp.1 x hx; omega, hp.2.1, hp.2.2.1, hp.2.2.2, h.least.1, h.least.2⟩
theorem mu_wait (s : Tk) (p : Pd) (l : Int) : mu (waitP (adv s) p l) = mu s + 1 := by
  unfold mu waitP adv
  simp; omega
theorem nameP_mv (nm : ByteArray → Bool) (ws : List Wd) (s : Tk) : Mv s (nameP nm ws s).2.2 ∧ ((nameP nm ws s).2.1 = true → s.pos < (nameP nm ws s).2.2.pos) := by
  unfold nameP
  split
  · exact ⟨.adv s, fun _ => Nat.lt_succ_self _⟩
  · exact ⟨.refl s, fun h => by cases h⟩
theorem buildP_dp (k : Int) (op : ByteArray) (vk vn : Int) (vs tab col : ByteArray) (lv : Int) (ps : List Pt) : (buildP k op vk vn vs tab col lv ps).dp = maxD ps + 1 := by
  unfold buildP; split <;> rfl
theorem colP_mv (nm : ByteArray → Bool) (ws : List Wd) (s : Tk) : Mv s (colP nm ws s).2.2 ∧ ((colP nm ws s).2.1 = true → s.pos < (colP nm ws s).2.2.pos ∧ (colP nm ws s).1.dp = 1) := by
  have h1 := nameP_mv nm ws s
  unfold colP
  dsimp only
  split
  · exact ⟨h1.1, fun h => by cases h⟩
  · rename_i hok
    have hok : (nameP nm ws s).2.1 = true := by simpa using hok
    have h2 := h1.2 hok
    split
    · have h3 := nameP_mv nm ws (adv (nameP nm ws s).2.2)
      refine ⟨(h1.1.trans (.adv _)).trans h3.1, fun _ => ⟨?_, by rw [buildP_dp]; rfl⟩⟩
      have := h3.1.2.2
      show s.pos < (nameP nm ws (adv (nameP nm ws s).2.2)).2.2.pos
      simp only [adv] at this ⊢
      omega
    · exact ⟨h1.1, fun _ => ⟨h2, by rw [buildP_dp]; rfl⟩⟩
def Res (s : Tk) (p : Pt) (b : Bool) (s' : Tk) : Prop := PInv s' ∧ mu s ≤ mu s' ∧ (b = true → p.dp + (s'.op.length : Int) ≤ (s'.pos : Int))
theorem res_one {s s' : Tk} (h : PInv s) (m : Mv s s') {p : Pt} {b : Bool} (hp : b = true → s.pos < s'.pos ∧ p.dp = 1) : Res s p b s' :=
  ⟨h.mv m, m.mu, fun hb => by obtain ⟨h1, h2⟩ := hp hb; have h3 := h.few; rw [m.1, h2]; omega⟩
theorem bs_size {t : Bs} (h : t.length ≤ 140737488355328) : (bs t).size ≤ maxLen := by unfold maxLen; simp [bs, ByteArray.size]; omega
theorem wordP_inv {ws : List Wd} (hz : WsOk ws) (nm : ByteArray → Bool) {s : Tk} (h : PInv s) : Res s (wordP nm ws s).1 ((wordP nm ws s).2.1 && (wordP nm ws s).2.2.1) (wordP nm ws s).2.2.2 := by
  unfold wordP
  by_cases a1 : ws.length ≤ s.pos
  · rw [if_pos a1]; exact res_one h (.refl s) (fun hb => by cases hb)
  rw [if_neg a1]
  dsimp only
  by_cases a2 : (wdAt ws s.pos).1 = 2 ∧ 0 ≤ (wdAt ws s.pos).2.2
  · rw [if_pos a2]; exact res_one h (.adv s) (fun _ => ⟨Nat.lt_succ_self _, by rw [buildP_dp]; rfl⟩)
  rw [if_neg a2]
  by_cases a3 : (wdAt ws s.pos).1 = 3 ∧ (wdAt ws s.pos).2.1.length ≤ 100
  · rw [if_pos a3]; exact res_one h (.adv s) (fun _ => ⟨Nat.lt_succ_self _, by rw [buildP_dp]; rfl⟩)
  rw [if_neg a3]
  by_cases a4 : isW ws s.pos 1 [78, 85, 76, 76] = true
  · rw [if_pos a4]; exact res_one h (.adv s) (fun _ => ⟨Nat.lt_succ_self _, by rw [buildP_dp]; rfl⟩)
  rw [if_neg a4]
  by_cases a5 : (wdAt ws s.pos).1 = 1 ∧ aggB (wdAt ws s.pos).2.1 = true
  · rw [if_pos a5]
    unfold agP
    by_cases a6 : isW ws (adv s).pos 4 [40] = false
    · rw [if_pos a6]; exact res_one h (.adv s) (fun hb => by cases hb)
    rw [if_neg a6]
    by_cases a7 : (wdAt ws s.pos).2.1 = [67, 79, 85, 78, 84] ∧ isW ws ((adv s).pos + 1) 4 [42] = true
    · rw [if_pos a7]
      split
      · exact res_one h ((Mv.adv s).trans ((Mv.adv _).trans ((Mv.adv _).trans (.adv _)))) (fun _ => ⟨by show s.pos < s.pos + 1 + 1 + 1 + 1; omega, by rw [buildP_dp]; rfl⟩)
      · exact res_one h ((Mv.adv s).trans ((Mv.adv _).trans (.adv _))) (fun _ => ⟨by show s.pos < s.pos + 1 + 1 + 1; omega, by rw [buildP_dp]; rfl⟩)
    · rw [if_neg a7]
      refine ⟨(h.mv (.adv s)).wait ⟨by unfold InR; omega, by omega⟩ ⟨fun q hq => (by cases hq), rfl, bs_size (hz _).1, by show InR 8; unfold InR; omega⟩, ?_, fun hb => by cases hb⟩
      rw [mu_wait]
      have := (Mv.adv s).mu
      omega
  · rw [if_neg a5]
    have := colP_mv nm ws s
    exact res_one h this.1 (fun hb => this.2 (by simpa using hb))
theorem operP_inv {ws : List Wd} (hz : WsOk ws) (nm : ByteArray → Bool) : ∀ (n : Nat) {s : Tk}, PInv s → Res s (operP nm ws n s).1 (operP nm ws n s).2.1 (operP nm ws n s).2.2 := by
  intro n
  induction n with
  | zero => intro s h; exact ⟨h, Int.le_refl _, fun hb => by cases hb⟩
  | succ n ih =>
    intro s h
    have go : ∀ (p : Pd) (l : Int), InR l ∧ 1 ≤ l → p.left = [] → (Lit.int .i64 p.kind).wf = true → p.op.size ≤ maxLen → InR p.lv → Res s (operP nm ws n (waitP (adv s) p l)).1 (operP nm ws n (waitP (adv s) p l)).2.1 (operP nm ws n (waitP (adv s) p l)).2.2 := fun p l hl hp h1 h2 h3 => by
      have hw := h.wait (p := p) hl ⟨fun q hq => (by rw [hp] at hq; cases hq), h1, h2, h3⟩
      have := ih hw
      exact ⟨this.1, by have h4 := this.2.1; rw [mu_wait] at h4; omega, this.2.2⟩
    unfold operP
    by_cases a1 : s.least ≤ 3 ∧ isW ws s.pos 1 [78, 79, 84] = true
    · rw [if_pos a1]; exact go _ _ ⟨by unfold InR; omega, by omega⟩ rfl rfl (by unfold maxLen; decide) (by show InR 3; unfold InR; omega)
    rw [if_neg a1]
    by_cases a2 : isW ws s.pos 4 [45] = true
    · rw [if_pos a2]; exact go _ _ ⟨by unfold InR; omega, by omega⟩ rfl rfl (by unfold maxLen; decide) (by show InR 7; unfold InR; omega)
    rw [if_neg a2]
    by_cases a3 : isW ws s.pos 4 [40] = true
    · rw [if_pos a3]; exact go _ _ ⟨by unfold InR; omega, by omega⟩ rfl rfl (by unfold maxLen; decide) (by show InR 0; unfold InR; omega)
    rw [if_neg a3]
    have hw := wordP_inv hz nm h
    dsimp only
    by_cases a4 : (wordP nm ws s).2.1 = true ∨ (wordP nm ws s).2.2.1 = false
    · rw [if_pos a4]
      refine ⟨hw.1, hw.2.1, fun hb => hw.2.2 ?_⟩
      have hb : (wordP nm ws s).2.2.1 = true := hb
      rcases a4 with a4 | a4
      · rw [a4, hb]; rfl
      · rw [hb] at a4; cases a4
    · rw [if_neg a4]
      have := ih hw.1
      exact ⟨this.1, Int.le_trans hw.2.1 this.2.1, this.2.2⟩
theorem maxD_one (l : Pt) : maxD [l] = max 0 l.dp := rfl
theorem testP_inv {ws : List Wd} {s : Tk} {l : Pt} (h : PInv s) (hl : l.dp + (s.op.length : Int) ≤ (s.pos : Int)) : Res s (testP ws l (adv s)).1 (testP ws l (adv s)).2.1 (testP ws l (adv s)).2.2 ∧ mu s < mu (testP ws l (adv s)).2.2 := by
  have key : ∀ s1 : Tk, Mv (adv s) s1 → PInv s1 ∧ mu s + 2 ≤ mu s1 := fun s1 m => ⟨h.mv ((Mv.adv s).trans m), by
    have h1 := m.mu
    have h2 : mu (adv s) = mu s + 2 := by unfold mu adv; simp; omega
    omega⟩
  unfold testP
  dsimp only
  obtain ⟨s1, hs1⟩ : ∃ s1, s1 = (if isW ws (adv s).pos 1 [78, 79, 84] = true then adv (adv s) else adv s) := ⟨_, rfl⟩
  rw [← hs1]
  have m1 : Mv (adv s) s1 := by rw [hs1]; split; exact .adv _; exact .refl _
  split
  · have k := key (adv s1) (m1.trans (.adv _))
    refine ⟨⟨k.1, by show mu s ≤ mu (adv s1); omega, fun _ => ?_⟩, by show mu s < mu (adv s1); omega⟩
    show (buildP _ _ _ _ _ _ _ _ _).dp + _ ≤ _
    rw [buildP_dp, maxD_one]
    have e1 := m1.1
    have e2 := m1.2.2
    show max 0 l.dp + 1 + (((adv s1).op.length : Nat) : Int) ≤ (((adv s1).pos : Nat) : Int)
    simp only [adv] at e1 e2 ⊢
    rw [e1]
    have := h.few
    omega
  · have k := key s1 m1
    exact ⟨⟨k.1, by show mu s ≤ mu s1; omega, fun hb => by cases hb⟩, by show mu s < mu s1; omega⟩
theorem closeP_inv {ws : List Wd} {s : Tk} {l : Pt} {d : Pd} {rest : List Pd} (h : PInv s) (hs : s.op = rest ++ [d]) (h1 : d.left.length ≤ 1) (hl : l.dp + (s.op.length : Int) ≤ (s.pos : Int)) : Res s (closeP ws l s d rest).1 (closeP ws l s d rest).2.1 (closeP ws l s d rest).2.2 ∧ mu s < mu (closeP ws l s d rest).2.2 := by
  have hd := h.all d (by rw [hs]; simp)
  have hlen : s.op.length = rest.length + 1 := by rw [hs]; simp
  obtain ⟨s0, hs0⟩ : ∃ s0 : Tk, s0 = ⟨s.pos, d.least, rest⟩ := ⟨_, rfl⟩
  have i0 : PInv s0 := by
    rw [hs0]
    exact ⟨by have := h.few; show rest.length ≤ s.pos; omega, ⟨hd.2.2.2.2.1, hd.2.2.2.2.2⟩, fun p hp => (h.all p (by rw [hs]; exact List.mem_append_left _ hp)).mono (by show rest.length + s.pos ≤ s.op.length + s.pos; omega)⟩
  have m0 : mu s0 = mu s + 1 := by rw [hs0]; unfold mu; simp [hlen]; omega
  have e0 : s0.pos = s.pos ∧ s0.op = rest := by rw [hs0]; exact ⟨rfl, rfl⟩
  unfold closeP
  dsimp only
  rw [← hs0]
  split
  · exact ⟨⟨i0, by show mu s ≤ mu s0; omega, fun hb => by cases hb⟩, by show mu s < mu s0; omega⟩
  · obtain ⟨s1, hs1⟩ : ∃ s1, s1 = (if d.closes = true then adv s0 else s0) := ⟨_, rfl⟩
    rw [← hs1]
    have m1 : Mv s0 s1 := by rw [hs1]; split; exact .adv _; exact .refl _
    have i1 := i0.mv m1
    have u1 := m1.mu
    have e1 : (s1.op.length : Int) + 1 = s.op.length := by rw [m1.1, e0.2]; omega
    have e2 : (s.pos : Int) ≤ s1.pos := by have := m1.2.2; omega
    split
    · exact ⟨⟨i1, by show mu s ≤ mu s1; omega, fun _ => by show l.dp + (s1.op.length : Int) ≤ (s1.pos : Int); omega⟩, by show mu s < mu s1; omega⟩
    · refine ⟨⟨i1, by show mu s ≤ mu s1; omega, fun _ => ?_⟩, by show mu s < mu s1; omega⟩
      show (buildP _ _ _ _ _ _ _ _ _).dp + (s1.op.length : Int) ≤ (s1.pos : Int)
      rw [buildP_dp]
      have : maxD (d.left ++ [l]) ≤ (s.pos : Int) - s.op.length := by
        refine maxD_le (by have := h.few; omega) (fun q hq => ?_)
        rcases List.mem_append.1 hq with hq | hq
        · have := hd.1 q hq; omega
        · obtain rfl := List.mem_singleton.1 hq; omega
      omega
end Go.Proofs.YtknhphcfcpjhiaaGreatDoor
namespace Go.Proofs.YtknhphcfcpjhiaaGreatDoor
open Go.RowKit
set_option linter.unusedVariables false
set_option linter.unusedSimpArgs false
set_option maxRecDepth 100000
theorem own_ne_part {A : Nat → Prop} {N : Nat} {w : World} {wa : Option Addr} {wn wc R : Nat} {ws : List Wd} {v : Value} {s : Tk} {ms : List PM} {xs : Array Value} (h : TSt A N w wa wn wc ws v s ms) (hR : w.heap[R]? = some (.cells xs 202 (0, 0))) : v.ownBlock ≠ some R := fun e => by
  rcases h.own.2 with ⟨rfl, _⟩ | ⟨g, cap, cur, rfl, _, hg, _⟩
  · cases e
  · have : g = R := by simpa [Value.ownBlock] using e
    subst this
    rw [hR] at hg
    simp only [Option.some.injEq, Obj.cells.injEq] at hg
    exact absurd hg.2.1 (by decide)
structure TkRel (B : Nat → Prop) (N : Nat) (w : World) (wa : Option Addr) (wn wc : Nat) (ws : List Wd) (v : Value) (R L H : Nat) (o0 : Pt × Bool × Tk) (ok : Bool) (wr : World) (v' : Value) (s : Tk) (ms : List PM) (n : Nat) (l : Pt) (la : Option Addr) (lc : Nat) : Prop where
  st : TSt B N wr wa wn wc ws v' s ms
  tt : TTo N v v' w wr
  res : wr.heap[R]? = some (.cells #[.int .i64 0, .string ⟨#[]⟩, .int .i64 0, .int .i64 0, .string ⟨#[]⟩, .string ⟨#[]⟩, .string ⟨#[]⟩, .slice none 0 0, .int .i64 0, .int .i64 0] 202 (0, 0))
  box : wr.heap[L]? = some (.cells #[.int .i64 l.e.kind, .string l.e.op, .int .i64 l.e.vk, .int .i64 l.e.vn, .string l.e.vs, .string l.e.tab, .string l.e.col, .slice la l.e.parts.length lc, .int .i64 l.lv, .int .i64 l.dp] 202 (0, 0))
  rg : PRg l la lc
  el : EL wr (TQ B N v') la l.e.parts
  inv : PInv s
  dp : ok = true → l.dp + (s.op.length : Int) ≤ (s.pos : Int)
  eq : o0 = takeP nmB ws n l ok s
  fuel : 2 * (wn : Int) < mu s + n
  size : H ≤ wr.heap.size
/-- the loop's places -/
structure TkPl (B : Nat → Prop) (N : Nat) (w : World) (R L H : Nat) : Prop where
  nR : N < R
  nL : N < L
  bR : ¬ B R
  bL : ¬ B L
  ne : R ≠ L
  wR : w.heap.size ≤ R
  wL : w.heap.size ≤ L
  aft : ∀ H2, H ≤ H2 → ∀ b, Aft B H2 b → B b
  mem : ∀ b, H ≤ b → B b
theorem TkRel.next {B : Nat → Prop} {N : Nat} {w : World} {wa : Option Addr} {wn wc : Nat} {ws : List Wd} {v : Value} {R L H : Nat} {o0 : Pt × Bool × Tk} {ok ok2 : Bool} {wr W0 W : World} {v1 v2 : Value} {s s2 : Tk} {ms ms2 : List PM} {n n2 : Nat} {l p : Pt} {la sa : Option Addr} {lc sc : Nat}
    (h : TkRel B N w wa wn wc ws v R L H o0 ok wr v1 s ms n l la lc) (P : TkPl B N w R L H) (hs : TSt (Aft B W0.heap.size) N W wa wn wc ws v2 s2 ms2) (ht : TTo N v1 v2 wr W) (hW : wr.heap.size ≤ W0.heap.size) (hrg : PRg p sa sc) (hel : EL W (TQ (Aft B W0.heap.size) N v2) sa p.e.parts)
    (hi : PInv s2) (hd : ok2 = true → p.dp + (s2.op.length : Int) ≤ (s2.pos : Int)) (he : o0 = takeP nmB ws n2 p ok2 s2) (hf : 2 * (wn : Int) < mu s2 + n2) :
    TkRel B N w wa wn wc ws v R L H o0 ok2 (setLe W L 0 (ptX p sa sc)) v2 s2 ms2 n2 p sa sc := by
  have hA : ∀ b, Aft B W0.heap.size b → B b := P.aft _ (Nat.le_trans h.size hW)
  have hs' : TSt B N W wa wn wc ws v2 s2 ms2 := hs.mono (fun b hb _ => hA b hb)
  have hel' : EL W (TQ B N v2) sa p.e.parts := hel.mono (fun b hb _ => ⟨hA b hb.1, hb.2⟩)
  have hR0 : R < wr.heap.size := (Array.getElem?_eq_some_iff.1 h.res).1
  have hL0 : L < wr.heap.size := (Array.getElem?_eq_some_iff.1 h.box).1
  have hRW := (ht.block R hR0 (by have := P.nR; omega) (own_ne_part h.st h.res)).trans h.res
  have hLW := (ht.block L hL0 (by have := P.nL; omega) (own_ne_part h.st h.box)).trans h.box
  have hb : ∀ i, i ≠ L → (setLe W L 0 (ptX p sa sc)).heap[i]? = W.heap[i]? := fun i hi => setLe_other hi _ _ _
  have T := h.tt.trans ht
  refine ⟨hs'.far P.nL P.bL (own_ne_part hs' hLW) (setLe_size _ _ _) (setLe_ext _ _ _) hb, ?_, (hb R P.ne).trans hRW, vbox10 hLW _ _ _ _ _ _ _ _ _ _, hrg, el_store hel' (fun b hb e => P.bL (by have h : B b := hb.1; rw [e] at h; exact h)) _ _, hi, hd, he, hf, by rw [setLe_size]; exact Nat.le_trans h.size ht.below.size⟩
  exact ⟨⟨(setLe_ext _ _ _).1.trans T.below.os, (setLe_ext _ _ _).2.1.trans T.below.tape, (setLe_ext _ _ _).2.2.trans T.below.output, by rw [setLe_size]; exact T.below.size, fun i hi => (hb i (by have := P.nL; omega)).trans (T.below.block i hi)⟩, fun i hi hn hv => (hb i (by have := P.wL; omega)).trans (T.block i hi hn hv), T.own⟩
/-- its boxes behind a call -/
theorem TkRel.boxes {B : Nat → Prop} {N : Nat} {w : World} {wa : Option Addr} {wn wc : Nat} {ws : List Wd} {v : Value} {R L H : Nat} {o0 : Pt × Bool × Tk} {ok : Bool} {wr W : World} {v1 v2 : Value} {s : Tk} {ms : List PM} {n : Nat} {l : Pt} {la : Option Addr} {lc : Nat}
    (h : TkRel B N w wa wn wc ws v R L H o0 ok wr v1 s ms n l la lc) (P : TkPl B N w R L H) (ht : TTo N v1 v2 wr W) : W.heap[R]? = some (.cells #[.int .i64 0, .string ⟨#[]⟩, .int .i64 0, .int .i64 0, .string ⟨#[]⟩, .string ⟨#[]⟩, .string ⟨#[]⟩, .slice none 0 0, .int .i64 0, .int .i64 0] 202 (0, 0)) ∧ W.heap[L]? = some (.cells #[.int .i64 l.e.kind, .string l.e.op, .int .i64 l.e.vk, .int .i64 l.e.vn, .string l.e.vs, .string l.e.tab, .string l.e.col, .slice la l.e.parts.length lc, .int .i64 l.lv, .int .i64 l.dp] 202 (0, 0)) ∧ EL W (TQ B N v2) la l.e.parts :=
  ⟨(ht.block R (Array.getElem?_eq_some_iff.1 h.res).1 (by have := P.nR; omega) (own_ne_part h.st h.res)).trans h.res, (ht.block L (Array.getElem?_eq_some_iff.1 h.box).1 (by have := P.nL; omega) (own_ne_part h.st h.box)).trans h.box, h.el.toT ht⟩
theorem optrP_pos {ws : List Wd} {s : Tk} (h : 1 ≤ (optrP ws s).2) : s.pos < ws.length := by
  unfold optrP at h
  by_cases hp : ws.length ≤ s.pos
  · rw [if_pos hp] at h; exact absurd h (by decide)
  · omega
theorem levB_le (t : Bs) : 0 ≤ levB t ∧ levB t ≤ 6 := by
  unfold levB
  split
  · omega
  split
  · omega
  split
  · omega
  split
  · omega
  split <;> omega
theorem optrP_le (ws : List Wd) (s : Tk) : 0 ≤ (optrP ws s).2 ∧ (optrP ws s).2 ≤ 6 := by
  unfold optrP
  split
  · exact ⟨Int.le_refl _, by decide⟩
  · dsimp only
    split
    · split
      · exact ⟨by show (0 : Int) ≤ 4; omega, by show (4 : Int) ≤ 6; omega⟩
      · split
        · exact levB_le _
        · exact ⟨Int.le_refl _, by decide⟩
    · split
      · exact levB_le _
      · exact ⟨Int.le_refl _, by decide⟩
theorem pm_one (k : Int) (op : ByteArray) (lv : Int) (q : Pt) (c : Bool) (l : Int) (g : Nat) : (pmX (⟨k, op, lv, [q], c, l⟩, g)).toArray = #[.int .i64 k, .string op, .int .i64 0, .int .i64 0, .string ⟨#[]⟩, .string ⟨#[]⟩, .string ⟨#[]⟩, .slice none 0 0, .int .i64 lv, .slice (some ⟨g, 0, none⟩) 1 1, .bool c, .int .i64 l] := by
  simp [pmX]
theorem wait_one (k : Int) (op : ByteArray) (lv : Int) (q : Pt) (qa : Option Addr) (qc : Nat) (l : Int) (hl : InR l) (A : Nat → Prop) (N : Nat) (w : World) (wa : Option Addr) (wn wc : Nat) (ws : List Wd) (v : Value) (s : Tk) (ms : List PM) (h : TSt A N w wa wn wc ws v s ms) (hA : A w.heap.size) (hq : PRg q qa qc) (hel : EL w (TQ A N v) qa q.e.parts) (hfew : s.op.length + 1 ≤ s.pos) :
    Calls Tryz.prog 168 #[.pointer (some ⟨N, 0, none⟩), .agg #[.int .i64 k, .string op, .int .i64 0, .int .i64 0, .string ⟨#[]⟩, .string ⟨#[]⟩, .string ⟨#[]⟩, .slice none 0 0, .int .i64 lv, .slice (some ⟨w.heap.size, 0, none⟩) 1 1, .bool false, .int .i64 0], .int .i64 l] (w.alloc (.cells (ptX q qa qc).toArray 202)) (WaitP A N (w.alloc (.cells (ptX q qa qc).toArray 202)) wa wn wc ws v (waitP s ⟨k, op, lv, [q], false, 0⟩ l) (ms ++ [(⟨k, op, lv, [q], false, s.least⟩, w.heap.size)])) := by
  have hb := bel0 (.cells (ptX q qa qc).toArray 202) (Below.refl w.heap.size w)
  have := wait_any ⟨k, op, lv, [q], false, 0⟩ w.heap.size l hl A N (w.alloc (.cells (ptX q qa qc).toArray 202)) wa wn wc ws v s ms (h.below hb) (by simp) (fun x hx => by
    obtain rfl : q = x := by simpa using hx
    exact ⟨by simp, ⟨hA, by have := h.low; omega, own_blkT h (Nat.le_refl _)⟩, qa, qc, Go.heap_alloc_new w _, hq, hel.keep hb⟩) hfew
  rwa [pm_one] at this
/-- a loop's measure -/
def tkM (N : Nat) (wn : Nat) (w : World) : Nat := 2 * wn + (match (w.cell? ⟨N, 3, none⟩) with | some (.slice _ n _) => n | _ => 0) - 2 * posOf N w
theorem TSt.tkM {A : Nat → Prop} {N : Nat} {w : World} {wa : Option Addr} {wn wc : Nat} {ws : List Wd} {v : Value} {s : Tk} {ms : List PM} (h : TSt A N w wa wn wc ws v s ms) : (tkM N wn w : Int) = 2 * (wn : Int) - mu s := by
  obtain ⟨a, c, hv⟩ := own_sliceT h.own
  have h1 := h.cells.2.2.2.1
  rw [hv] at h1
  have h2 : ms.length = s.op.length := by rw [← h.are, List.length_map]
  have h3 := h.pos
  unfold Go.Proofs.YtknhphcfcpjhiaaGreatDoor.tkM mu
  rw [h1, h.posOf]
  dsimp only
  omega
theorem TkRel.same {B : Nat → Prop} {N : Nat} {w : World} {wa : Option Addr} {wn wc : Nat} {ws : List Wd} {v : Value} {R L H : Nat} {o0 : Pt × Bool × Tk} {ok : Bool} {wr W : World} {v1 : Value} {s : Tk} {ms : List PM} {n : Nat} {l : Pt} {la : Option Addr} {lc : Nat}
    (h : TkRel B N w wa wn wc ws v R L H o0 ok wr v1 s ms n l la lc) (P : TkPl B N w R L H) (hs : TSt B N W wa wn wc ws v1 s ms) (ht : TTo N v1 v1 wr W) : TkRel B N w wa wn wc ws v R L H o0 ok W v1 s ms n l la lc := by
  obtain ⟨h1, h2, h3⟩ := h.boxes P ht
  exact ⟨hs, h.tt.trans ht, h1, h2, h.rg, h3, h.inv, h.dp, h.eq, h.fuel, Nat.le_trans h.size ht.below.size⟩
theorem wrp1 (r : Nat) (hr : r ≤ 100000) : wrap64 ((r : Int) + 1) = (r : Int) + 1 ∧ IntKind.i64.wrap ((r : Int) + 1) = (r : Int) + 1 :=
  ⟨by unfold wrap64; omega, by rw [IntKind.wrap_i64]; omega⟩
theorem wrpI (r : Int) (hr : 0 ≤ r ∧ r ≤ 100000) : wrap64 (r + 1) = r + 1 ∧ IntKind.i64.wrap (r + 1) = r + 1 :=
  ⟨by unfold wrap64; omega, by rw [IntKind.wrap_i64]; omega⟩
theorem takeP_false (nm : ByteArray → Bool) (ws : List Wd) (n : Nat) (l : Pt) (s : Tk) : takeP nm ws n l false s = (zPt, false, s) := by cases n <;> rfl
theorem dp_few {A : Nat → Prop} {N : Nat} {w : World} {wa : Option Addr} {wn wc : Nat} {ws : List Wd} {v : Value} {s : Tk} {ms : List PM} (h : TSt A N w wa wn wc ws v s ms) {d : Int} (hd : d + (s.op.length : Int) ≤ (s.pos : Int)) : d < 1000000 := by
  have h1 := h.pos
  have h2 := h.words.2.1
  omega
end Go.Proofs.YtknhphcfcpjhiaaGreatDoor
