/- The package's taker: what the loop of take keeps. Written by gentkt.py. -/
import Derived.Test.YtpinalpigefenaaGreatDoorTkClose
import Derived.Test.YtpinalpigefenaaGreatDoorTkOper
import Derived.Test.YtpinalpigefenaaGreatDoorTkInv
namespace Go.Proofs.YtpinalpigefenaaGreatDoor
open Go.RowKit
set_option linter.unusedVariables false
set_option linter.unusedSimpArgs false
set_option maxRecDepth 100000
theorem own_ne_part {A : Nat → Prop} {N : Nat} {w : World} {wa : Option Addr} {wn wc R : Nat} {ws : List Wd} {v : Value} {s : Tk} {ms : List PM} {xs : Array Value} (h : TSt A N w wa wn wc ws v s ms) (hR : w.heap[R]? = some (.cells xs 183 (0, 0))) : v.ownBlock ≠ some R := fun e => by
  rcases h.own.2 with ⟨rfl, _⟩ | ⟨g, cap, cur, rfl, _, hg, _⟩
  · cases e
  · have : g = R := by simpa [Value.ownBlock] using e
    subst this
    rw [hR] at hg
    simp only [Option.some.injEq, Obj.cells.injEq] at hg
    exact absurd hg.2.1 (by decide)
structure TkRel (B : Nat → Prop) (N : Nat) (w : World) (wa : Option Addr) (wn wc : Nat) (ws : List Wd) (v : Value) (R L H : Nat) (o0 : Pt × Bool × Tk) (ok : Bool) (wr : World) (v' : Value) (s : Tk) (ms : List PM) (n : Nat) (l : Pt) (la : Option Addr) (lc : Nat) : Prop where
  st : TSt B N wr wa wn wc ws v' s ms
  tt : TTo N v v' w wr
  res : wr.heap[R]? = some (.cells #[.int .i64 0, .string ⟨#[]⟩, .int .i64 0, .int .i64 0, .string ⟨#[]⟩, .string ⟨#[]⟩, .string ⟨#[]⟩, .slice none 0 0, .int .i64 0, .int .i64 0] 183 (0, 0))
  box : wr.heap[L]? = some (.cells #[.int .i64 l.e.kind, .string l.e.op, .int .i64 l.e.vk, .int .i64 l.e.vn, .string l.e.vs, .string l.e.tab, .string l.e.col, .slice la l.e.parts.length lc, .int .i64 l.lv, .int .i64 l.dp] 183 (0, 0))
  rg : PRg l la lc
  el : EL wr (TQ B N v') la l.e.parts
  inv : PInv s
  dp : ok = true → l.dp + (s.op.length : Int) ≤ (s.pos : Int)
  eq : o0 = takeP nmB ws n l ok s
  fuel : 2 * (wn : Int) < mu s + n
  size : H ≤ wr.heap.size
/-- the loop's places -/
structure TkPl (B : Nat → Prop) (N : Nat) (w : World) (R L H : Nat) : Prop where
  nR : N < R
  nL : N < L
  bR : ¬ B R
  bL : ¬ B L
  ne : R ≠ L
  wR : w.heap.size ≤ R
  wL : w.heap.size ≤ L
  aft : ∀ H2, H ≤ H2 → ∀ b, Aft B H2 b → B b
  mem : ∀ b, H ≤ b → B b
theorem TkRel.next {B : Nat → Prop} {N : Nat} {w : World} {wa : Option Addr} {wn wc : Nat} {ws : List Wd} {v : Value} {R L H : Nat} {o0 : Pt × Bool × Tk} {ok ok2 : Bool} {wr W0 W : World} {v1 v2 : Value} {s s2 : Tk} {ms ms2 : List PM} {n n2 : Nat} {l p : Pt} {la sa : Option Addr} {lc sc : Nat}
    (h : TkRel B N w wa wn wc ws v R L H o0 ok wr v1 s ms n l la lc) (P : TkPl B N w R L H) (hs : TSt (Aft B W0.heap.size) N W wa wn wc ws v2 s2 ms2) (ht : TTo N v1 v2 wr W) (hW : wr.heap.size ≤ W0.heap.size) (hrg : PRg p sa sc) (hel : EL W (TQ (Aft B W0.heap.size) N v2) sa p.e.parts)
    (hi : PInv s2) (hd : ok2 = true → p.dp + (s2.op.length : Int) ≤ (s2.pos : Int)) (he : o0 = takeP nmB ws n2 p ok2 s2) (hf : 2 * (wn : Int) < mu s2 + n2) :
    TkRel B N w wa wn wc ws v R L H o0 ok2 (setLe W L 0 (ptX p sa sc)) v2 s2 ms2 n2 p sa sc := by
  have hA : ∀ b, Aft B W0.heap.size b → B b := P.aft _ (Nat.le_trans h.size hW)
  have hs' : TSt B N W wa wn wc ws v2 s2 ms2 := hs.mono (fun b hb _ => hA b hb)
  have hel' : EL W (TQ B N v2) sa p.e.parts := hel.mono (fun b hb _ => ⟨hA b hb.1, hb.2⟩)
  have hR0 : R < wr.heap.size := (Array.getElem?_eq_some_iff.1 h.res).1
  have hL0 : L < wr.heap.size := (Array.getElem?_eq_some_iff.1 h.box).1
  have hRW := (ht.block R hR0 (by have := P.nR; omega) (own_ne_part h.st h.res)).trans h.res
  have hLW := (ht.block L hL0 (by have := P.nL; omega) (own_ne_part h.st h.box)).trans h.box
  have hb : ∀ i, i ≠ L → (setLe W L 0 (ptX p sa sc)).heap[i]? = W.heap[i]? := fun i hi => setLe_other hi _ _ _
  have T := h.tt.trans ht
  refine ⟨hs'.far P.nL P.bL (own_ne_part hs' hLW) (setLe_size _ _ _) (setLe_ext _ _ _) hb, ?_, (hb R P.ne).trans hRW, vbox10 hLW _ _ _ _ _ _ _ _ _ _, hrg, el_store hel' (fun b hb e => P.bL (by have h : B b := hb.1; rw [e] at h; exact h)) _ _, hi, hd, he, hf, by rw [setLe_size]; exact Nat.le_trans h.size ht.below.size⟩
  exact ⟨⟨(setLe_ext _ _ _).1.trans T.below.os, (setLe_ext _ _ _).2.1.trans T.below.tape, (setLe_ext _ _ _).2.2.trans T.below.output, by rw [setLe_size]; exact T.below.size, fun i hi => (hb i (by have := P.nL; omega)).trans (T.below.block i hi)⟩, fun i hi hn hv => (hb i (by have := P.wL; omega)).trans (T.block i hi hn hv), T.own⟩
/-- its boxes behind a call -/
theorem TkRel.boxes {B : Nat → Prop} {N : Nat} {w : World} {wa : Option Addr} {wn wc : Nat} {ws : List Wd} {v : Value} {R L H : Nat} {o0 : Pt × Bool × Tk} {ok : Bool} {wr W : World} {v1 v2 : Value} {s : Tk} {ms : List PM} {n : Nat} {l : Pt} {la : Option Addr} {lc : Nat}
    (h : TkRel B N w wa wn wc ws v R L H o0 ok wr v1 s ms n l la lc) (P : TkPl B N w R L H) (ht : TTo N v1 v2 wr W) : W.heap[R]? = some (.cells #[.int .i64 0, .string ⟨#[]⟩, .int .i64 0, .int .i64 0, .string ⟨#[]⟩, .string ⟨#[]⟩, .string ⟨#[]⟩, .slice none 0 0, .int .i64 0, .int .i64 0] 183 (0, 0)) ∧ W.heap[L]? = some (.cells #[.int .i64 l.e.kind, .string l.e.op, .int .i64 l.e.vk, .int .i64 l.e.vn, .string l.e.vs, .string l.e.tab, .string l.e.col, .slice la l.e.parts.length lc, .int .i64 l.lv, .int .i64 l.dp] 183 (0, 0)) ∧ EL W (TQ B N v2) la l.e.parts :=
  ⟨(ht.block R (Array.getElem?_eq_some_iff.1 h.res).1 (by have := P.nR; omega) (own_ne_part h.st h.res)).trans h.res, (ht.block L (Array.getElem?_eq_some_iff.1 h.box).1 (by have := P.nL; omega) (own_ne_part h.st h.box)).trans h.box, h.el.toT ht⟩
theorem optrP_pos {ws : List Wd} {s : Tk} (h : 1 ≤ (optrP ws s).2) : s.pos < ws.length := by
  unfold optrP at h
  by_cases hp : ws.length ≤ s.pos
  · rw [if_pos hp] at h; exact absurd h (by decide)
  · omega
theorem levB_le (t : Bs) : 0 ≤ levB t ∧ levB t ≤ 6 := by
  unfold levB
  split
  · omega
  split
  · omega
  split
  · omega
  split
  · omega
  split <;> omega
theorem optrP_le (ws : List Wd) (s : Tk) : 0 ≤ (optrP ws s).2 ∧ (optrP ws s).2 ≤ 6 := by
  unfold optrP
  split
  · exact ⟨Int.le_refl _, by decide⟩
  · dsimp only
    split
    · split
      · exact ⟨by show (0 : Int) ≤ 4; omega, by show (4 : Int) ≤ 6; omega⟩
      · split
        · exact levB_le _
        · exact ⟨Int.le_refl _, by decide⟩
    · split
      · exact levB_le _
      · exact ⟨Int.le_refl _, by decide⟩
theorem pm_one (k : Int) (op : ByteArray) (lv : Int) (q : Pt) (c : Bool) (l : Int) (g : Nat) : (pmX (⟨k, op, lv, [q], c, l⟩, g)).toArray = #[.int .i64 k, .string op, .int .i64 0, .int .i64 0, .string ⟨#[]⟩, .string ⟨#[]⟩, .string ⟨#[]⟩, .slice none 0 0, .int .i64 lv, .slice (some ⟨g, 0, none⟩) 1 1, .bool c, .int .i64 l] := by
  simp [pmX]
theorem wait_one (k : Int) (op : ByteArray) (lv : Int) (q : Pt) (qa : Option Addr) (qc : Nat) (l : Int) (hl : InR l) (A : Nat → Prop) (N : Nat) (w : World) (wa : Option Addr) (wn wc : Nat) (ws : List Wd) (v : Value) (s : Tk) (ms : List PM) (h : TSt A N w wa wn wc ws v s ms) (hA : A w.heap.size) (hq : PRg q qa qc) (hel : EL w (TQ A N v) qa q.e.parts) (hfew : s.op.length + 1 ≤ s.pos) :
    Calls Tryz.prog 179 #[.pointer (some ⟨N, 0, none⟩), .agg #[.int .i64 k, .string op, .int .i64 0, .int .i64 0, .string ⟨#[]⟩, .string ⟨#[]⟩, .string ⟨#[]⟩, .slice none 0 0, .int .i64 lv, .slice (some ⟨w.heap.size, 0, none⟩) 1 1, .bool false, .int .i64 0], .int .i64 l] (w.alloc (.cells (ptX q qa qc).toArray 183)) (WaitP A N (w.alloc (.cells (ptX q qa qc).toArray 183)) wa wn wc ws v (waitP s ⟨k, op, lv, [q], false, 0⟩ l) (ms ++ [(⟨k, op, lv, [q], false, s.least⟩, w.heap.size)])) := by
  have hb := bel0 (.cells (ptX q qa qc).toArray 183) (Below.refl w.heap.size w)
  have := wait_any ⟨k, op, lv, [q], false, 0⟩ w.heap.size l hl A N (w.alloc (.cells (ptX q qa qc).toArray 183)) wa wn wc ws v s ms (h.below hb) (by simp) (fun x hx => by
    obtain rfl : q = x := by simpa using hx
    exact ⟨by simp, ⟨hA, by have := h.low; omega, own_blkT h (Nat.le_refl _)⟩, qa, qc, Go.heap_alloc_new w _, hq, hel.keep hb⟩) hfew
  rwa [pm_one] at this
/-- a loop's measure -/
def tkM (N : Nat) (wn : Nat) (w : World) : Nat := 2 * wn + (match (w.cell? ⟨N, 3, none⟩) with | some (.slice _ n _) => n | _ => 0) - 2 * posOf N w
theorem TSt.tkM {A : Nat → Prop} {N : Nat} {w : World} {wa : Option Addr} {wn wc : Nat} {ws : List Wd} {v : Value} {s : Tk} {ms : List PM} (h : TSt A N w wa wn wc ws v s ms) : (tkM N wn w : Int) = 2 * (wn : Int) - mu s := by
  obtain ⟨a, c, hv⟩ := own_sliceT h.own
  have h1 := h.cells.2.2.2.1
  rw [hv] at h1
  have h2 : ms.length = s.op.length := by rw [← h.are, List.length_map]
  have h3 := h.pos
  unfold Go.Proofs.YtpinalpigefenaaGreatDoor.tkM mu
  rw [h1, h.posOf]
  dsimp only
  omega
theorem TkRel.same {B : Nat → Prop} {N : Nat} {w : World} {wa : Option Addr} {wn wc : Nat} {ws : List Wd} {v : Value} {R L H : Nat} {o0 : Pt × Bool × Tk} {ok : Bool} {wr W : World} {v1 : Value} {s : Tk} {ms : List PM} {n : Nat} {l : Pt} {la : Option Addr} {lc : Nat}
    (h : TkRel B N w wa wn wc ws v R L H o0 ok wr v1 s ms n l la lc) (P : TkPl B N w R L H) (hs : TSt B N W wa wn wc ws v1 s ms) (ht : TTo N v1 v1 wr W) : TkRel B N w wa wn wc ws v R L H o0 ok W v1 s ms n l la lc := by
  obtain ⟨h1, h2, h3⟩ := h.boxes P ht
  exact ⟨hs, h.tt.trans ht, h1, h2, h.rg, h3, h.inv, h.dp, h.eq, h.fuel, Nat.le_trans h.size ht.below.size⟩
theorem wrp1 (r : Nat) (hr : r ≤ 100000) : wrap64 ((r : Int) + 1) = (r : Int) + 1 ∧ IntKind.i64.wrap ((r : Int) + 1) = (r : Int) + 1 :=
  ⟨by unfold wrap64; omega, by rw [IntKind.wrap_i64]; omega⟩
theorem wrpI (r : Int) (hr : 0 ≤ r ∧ r ≤ 100000) : wrap64 (r + 1) = r + 1 ∧ IntKind.i64.wrap (r + 1) = r + 1 :=
  ⟨by unfold wrap64; omega, by rw [IntKind.wrap_i64]; omega⟩
theorem takeP_false (nm : ByteArray → Bool) (ws : List Wd) (n : Nat) (l : Pt) (s : Tk) : takeP nm ws n l false s = (zPt, false, s) := by cases n <;> rfl
theorem dp_few {A : Nat → Prop} {N : Nat} {w : World} {wa : Option Addr} {wn wc : Nat} {ws : List Wd} {v : Value} {s : Tk} {ms : List PM} (h : TSt A N w wa wn wc ws v s ms) {d : Int} (hd : d + (s.op.length : Int) ≤ (s.pos : Int)) : d < 1000000 := by
  have h1 := h.pos
  have h2 := h.words.2.1
  omega
end Go.Proofs.YtpinalpigefenaaGreatDoor
