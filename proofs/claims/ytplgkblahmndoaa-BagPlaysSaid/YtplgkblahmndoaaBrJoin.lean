/- A bag's Join. -/
import Derived.Test.YtplgkblahmndoaaBrEnts
import Derived.Test.YtplgkblahmndoaaBrJoined
import Derived.Test.YtplgkblahmndoaaBrJoined
import Derived.Test.YtplgkblahmndoaaBwJoin
import Derived.Deep.CutBlock
import Derived.StillTailTactics
namespace Go.Proofs.Ytplgkblahmndoaa
open Go.RowKit Go.WideMaps Go.Maps Go.Sort
set_option linter.unusedVariables false
set_option maxRecDepth 100000

/-- how a sum reads -/
def entI : Value → Option (DataW Unit × List MemPlace)
  | .int .i64 n => some (.lit (.int .i64 n), [])
  | _ => none
theorem entI_mk (n : Int) : entI (.int .i64 n) = some (.lit (.int .i64 n), []) := rfl
theorem entI_inv {v : Value} {z : DataW Unit × List MemPlace} (h : entI v = some z) : ∃ n, v = .int .i64 n ∧ z = (.lit (.int .i64 n), []) := by
  unfold entI at h
  split at h
  · rename_i n
    exact ⟨n, rfl, (Option.some.inj h).symm⟩
  · cases h
def PJoin (w : World) (D B n : Nat) (mo : Option Nat) (L M : List Ent) (s : Int) (e : Ending) (w' : World) : Prop :=
  e = .returned (.int .i64 (joinC L M s).2) ∧ ∃ mo' Dm' t' n', n' ≤ n + M.length ∧ BagR w' D B n' mo' Dm' t' (joinC L M s).1 ∧ Only (bagS D mo) w w' ∧ (mo' = mo ∨ ∃ K, mo' = some K ∧ w.heap.size ≤ K)
theorem PJoin.same {w w' : World} {D B n : Nat} {mo : Option Nat} {Dm : DataW Unit} {t : Lit → Option SlN} {L M : List Ent} {s c : Int} {e : Ending} (h : BagR w D B n mo Dm t L) (hb : Below w.heap.size w w') (hj : joinC L M s = (L, c)) (he : e = .returned (.int .i64 c)) : PJoin w D B n mo L M s e w' := by
  subst he
  exact ⟨by rw [hj], mo, Dm, t, n, by omega, by rw [hj]; exact h.below hb, (only_below hb).mono (fun _ => False.elim), .inl rfl⟩
/-- the sums of the rows that were met -/
def SumsAt (L M : List Ent) (s : Int) (left : Lit → Bool) (Z nn : Nat) (wr : World) : Prop :=
  ∃ Ds, wr.ownsMap Try.prog 9 entI Z nn Ds ∧ IsMap Ds ∧ ∀ e ∈ M, left (litK e.1) = false → in64 (cntB L (kE e) + s * e.2) ∧ ∀ z, Ds.atKey (litK e.1) z = .lit (.int .i64 (cntB L (kE e) + s * e.2))
/-- all sums are there -/
def SumsAll (L M : List Ent) (s : Int) (Z : Nat) (wr : World) : Prop := ∃ nn, SumsAt L M s (fun _ => false) Z nn wr
theorem SumsAll.fit {L M : List Ent} {s : Int} {Z : Nat} {wr : World} (h : SumsAll L M s Z wr) : FitL L M s := by
  obtain ⟨nn, Ds, _, _, hv⟩ := h
  exact fun e he => (hv e he rfl).1
theorem SumsAt.only {L M : List Ent} {s : Int} {left : Lit → Bool} {Z nn : Nat} {w w' : World} {P : Nat → Prop} (h : SumsAt L M s left Z nn w) (hb : Only P w w') (hZ : ¬ P Z) : SumsAt L M s left Z nn w' := by
  obtain ⟨Ds, h2, r⟩ := h
  exact ⟨Ds, ownsMap_only h2 hb hZ, r⟩
theorem SumsAll.only {L M : List Ent} {s : Int} {Z : Nat} {w w' : World} {P : Nat → Prop} (h : SumsAll L M s Z w) (hb : Only P w w') (hZ : ¬ P Z) : SumsAll L M s Z w' := h.imp fun _ h => h.only hb hZ
theorem SumsAll.below {L M : List Ent} {s : Int} {Z : Nat} {w w' : World} (h : SumsAll L M s Z w) (hb : Below w.heap.size w w') : SumsAll L M s Z w' := h.only (only_below hb) id
theorem izero (w : World) : (zeroValue 2).run Try.prog w = .ok (.int .i64 0) w := by kernel_rfl
theorem key_bytes {S : ByteArray} {r : List Val} (h : keyOf Try.prog 9 (.string S) = some (litK r)) : S = strOfNums (keyVs r) := by
  obtain ⟨s, e1, e2, _⟩ := key_str h
  cases e1
  unfold litK at e2
  injection e2 with e2
  have h2 : (strOfNums (keyVs r)).data = S.data := by
    have := congrArg List.toArray e2
    simpa using this
  cases S
  cases h3 : strOfNums (keyVs r)
  rw [h3] at h2
  simp only at h2
  rw [h2]
theorem SumsAll.look {L M : List Ent} {s : Int} {Z : Nat} {w : World} (h : SumsAll L M s Z w) {e : Ent} (he : e ∈ M) (hS : (strOfNums (kE e)).size ≤ maxLen) : ∀ m, (Instr.lookup 125 (.map (some Z)) (.string (strOfNums (kE e))) false).run Try.prog (w.drewN m) = .ok (.int .i64 (cntB L (kE e) + s * e.2)) (w.drewN m) := by
  intro m
  obtain ⟨nn, Ds, h2, _, r⟩ := h
  have ho : (w.drewN m).ownsMap Try.prog 9 entI Z nn Ds := h2
  have hk : keyOf Try.prog 9 (.string (strOfNums (kE e))) = some (litK e.1) := keyOf_string_mk Try.underlying9 hS
  obtain ⟨v, ps, hrun, hv⟩ := ho.lookup bstrKeyed Try.underlying125 (izero _) (entI_mk 0) hk
  rw [(r e he rfl).2] at hv
  obtain ⟨y, rfl, e2⟩ := entI_inv hv
  have := (Prod.mk.inj e2).1
  injection this with this
  injection this with _ this
  rw [← this] at hrun
  exact hrun
theorem make_sums (W : World) (x : Int) : (Instr.makeMap 125 (some (.int .i64 x))).run Try.prog W = .ok (.map (some W.heap.size)) (W.alloc (.map #[] 0)) := by
  simp [Instr.makeMap, run_underlying Try.underlying125, asInt, asIntOf, Result.andThen]
theorem sums_new (w : World) (L M : List Ent) (s : Int) {left : Lit → Bool} (h : ∀ e ∈ M, left (litK e.1) = true) : SumsAt L M s left w.heap.size 0 (w.alloc (.map #[] 0)) :=
  ⟨.map [], World.ownsMap_made w Try.prog 9 entI, isMap_empty, fun e he hl => by rw [h e he] at hl; cases hl⟩
/-- one sum more -/
theorem SumsAt.put {L M : List Ent} {s : Int} {left : Lit → Bool} {Z nn : Nat} {w' : World} {Ds : DataW Unit} (h : ∀ e ∈ M, left (litK e.1) = false → in64 (cntB L (kE e) + s * e.2) ∧ ∀ z, Ds.atKey (litK e.1) z = .lit (.int .i64 (cntB L (kE e) + s * e.2))) (hM : IsMap Ds) (sM : SortB M) {e : Ent} (he : e ∈ M) {kl : Lit} (hkl : kl = litK e.1) (hk : WideAt.IsKeyLit kl) {x : Int} (hx : x = cntB L (kE e) + s * e.2) (hin : in64 x)
    (ho : w'.ownsMap Try.prog 9 entI Z (nn + 1) (Ds.put kl (.lit (.int .i64 x)))) : SumsAt L M s (fun z => left z && !z.sameKey kl) Z (nn + 1) w' := by
  subst hkl
  refine ⟨_, ho, hM.put _ _, fun e' he' hl => ?_⟩
  by_cases hq : litK e'.1 = litK e.1
  · have e1 : e' = e := sort_key sM he' he (litK_inj hq)
    subst e1
    rw [← hx]
    exact ⟨hin, fun z => atKey_put_same hM hk _ _⟩
  · have hl' : left (litK e'.1) = false := by
      have hl2 : (left (litK e'.1) && !(litK e'.1).sameKey (litK e.1)) = false := hl
      rw [sameKey_ne hq] at hl2
      simpa using hl2
    obtain ⟨h1, h2⟩ := h e' he' hl'
    exact ⟨h1, fun z => by rw [atKey_put_other hq]; exact h2 z⟩
theorem World.grownBy_of {w w' : World} {row : Option Nat} (h : Below w.heap.size w w') : w.grownBy w' row := ⟨h.os, h.tape, h.output, h.size, fun i hi _ => h.block i hi⟩
/-- where the sums are being made -/
def JLoop (w W : World) (E C K R Z m : Nat) (De : DataW Unit) (t2 : Lit → Option SlN) (L M : List Ent) (s : Int) (wr : World) : Prop :=
  ∃ left cnt nn, wr.ranges Try.prog 9 entR K R m De left cnt ∧ SumsAt L M s left Z nn wr ∧ nn + cnt ≤ 3000 ∧ Below w.heap.size w wr
/-- no rows to go through -/
def JNil (w : World) (R : Nat) (L M : List Ent) (s : Int) (wr : World) : Prop :=
  (∀ ty, (Instr.next (.pointer (some ⟨R, 0, none⟩)) false ty).run Try.prog wr = .ok (.tuple #[.bool false]) wr) ∧ SumsAll L M s w.heap.size wr ∧ Below w.heap.size w wr
theorem JLoop.all {w W wr : World} {E C K R Z m : Nat} {De : DataW Unit} {t2 : Lit → Option SlN} {L M : List Ent} {s : Int} {left : Lit → Bool} {nn : Nat} (h : SumsAt L M s left Z nn wr) (hl : ∀ k, left k = false) : SumsAll L M s Z wr := by
  have : left = fun _ => false := funext hl
  rw [this] at h
  exact ⟨nn, h⟩
/-- where the rows are being set -/
def JStep (w2 : World) (D B n : Nat) (mo : Option Nat) (L M : List Ent) (s : Int) (k : Nat) (wr : World) : Prop :=
  ∃ mk Dk tk nk, nk ≤ n + k ∧ BagR wr D B nk mk Dk tk (joinT L M s k) ∧ Only (bagS D mo) w2 wr ∧ (mk = mo ∨ ∃ K, mk = some K ∧ w2.heap.size ≤ K)
theorem BagR.lt_of {w : World} {D B n : Nat} {mo : Option Nat} {Dm : DataW Unit} {t : Lit → Option SlN} {L : List Ent} (h : BagR w D B n mo Dm t L) : ¬ bagS D mo w.heap.size := by
  rintro (e | e)
  · have := (Array.getElem?_eq_some_iff.1 h.box).1
    omega
  · rcases h.mp with ⟨e0, _⟩ | ⟨K, e0, _, ho⟩
    · rw [e0] at e; cases e
    · rw [e0] at e
      have := ho.lt
      have := Option.some.inj e
      omega
theorem BagR.not_new {w : World} {D B n i : Nat} {mo : Option Nat} {Dm : DataW Unit} {t : Lit → Option SlN} {L : List Ent} (h : BagR w D B n mo Dm t L) (hi : w.heap.size ≤ i) : ¬ bagS D mo i := by
  rintro (e | e)
  · have := (Array.getElem?_eq_some_iff.1 h.box).1
    omega
  · rcases h.mp with ⟨e0, _⟩ | ⟨K, e0, _, ho⟩
    · rw [e0] at e; cases e
    · rw [e0] at e
      have := ho.lt
      have := Option.some.inj e
      omega
theorem join_far {w : World} {D B n E C m : Nat} {mo me : Option Nat} {Dm De : DataW Unit} {t t2 : Lit → Option SlN} {L M : List Ent} (hD : BagR w D B n mo Dm t L) (hE : BagR w E C m me De t2 M) (hDE : D ≠ E) (hap : ∀ K, mo = some K → me ≠ some K) : ¬ bagS D mo E ∧ ∀ K, me = some K → ¬ bagS D mo K := by
  have own : ∀ K, mo = some K → w.ownsMap Try.prog 9 entR K n Dm := fun K hK => by
    rcases hD.mp with ⟨e0, _⟩ | ⟨K', e0, _, ho⟩
    · rw [hK] at e0; cases e0
    · rw [hK] at e0; cases e0; exact ho
  have own2 : ∀ K, me = some K → w.ownsMap Try.prog 9 entR K m De := fun K hK => by
    rcases hE.mp with ⟨e0, _⟩ | ⟨K', e0, _, ho⟩
    · rw [hK] at e0; cases e0
    · rw [hK] at e0; cases e0; exact ho
  refine ⟨?_, fun K hK => ?_⟩
  · rintro (e | e)
    · exact hDE e.symm
    · exact ownsMap_cells (own E e) hE.box
  · rintro (e | e)
    · subst e
      exact ownsMap_cells (own2 K hK) hD.box
    · exact hap K e hK
theorem join_set (w : World) (D B n : Nat) (mo : Option Nat) (Dm : DataW Unit) (t : Lit → Option SlN) (L : List Ent) (z : Int) (h : BagR w D B n mo Dm t L) (r : List Val) (hS : (strOfNums (keyVs r)).size ≤ maxLen) (x : SlN) (C : Nat) (hx : RowAt w C x r) (hr : (∀ v ∈ r, okV v) ∧ r.length ≤ 50) (hnn : n ≤ 1000000) :
    Calls Try.prog 63 #[.pointer (some ⟨D, 0, none⟩), .string (strOfNums (keyVs r)), .slice (adA x.1) x.2.1 x.2.2.1, .int .i64 z] w fun e w' => e = .returned (.tuple #[]) ∧ SetPostR w D B n mo (putB L r z) w' := by
  by_cases h0 : z = 0
  · subst h0
    exact bset_delR w D B n mo Dm t L r hS _ _ _ h
  · exact bset_putJ r w D B n mo Dm t L hS _ _ _ z h0 hr h hx.1 hx.2.1 (by have := hx.1.1; have := hr.2; omega) hnn
theorem join_keeps {w2 w3 : World} {D E C m Z : Nat} {mo me : Option Nat} {De : DataW Unit} {t2 : Lit → Option SlN} {L M : List Ent} {s : Int} {e : Ent} {x : SlN} {S : ByteArray} {q z : Int} (hE : BagR w2 E C m me De t2 M) (hA : SumsAll L M s Z w2) (ho : Only (bagS D mo) w2 w3) (hs : ∀ i, bagS D mo i → Sole w2 i) (hf : ¬ bagS D mo E ∧ ∀ K, me = some K → ¬ bagS D mo K) (hZ : ¬ bagS D mo Z) (he : e ∈ M) (hx : t2 (litK e.1) = some x) (hS : S = strOfNums (kE e)) (hSz : (strOfNums (kE e)).size ≤ maxLen) (hq : q = x.2.2.2) (hz : z = cntB L (kE e) + s * e.2) :
    w3.cell? ⟨E, 0, none⟩ = some (.map me) ∧ (Instr.lookup 109 (.map me) (.string S) false).run Try.prog w3 = .ok (.agg #[.slice (adA x.1) x.2.1 x.2.2.1, .int .i64 q]) w3 ∧ (Instr.lookup 125 (.map (some Z)) (.string S) false).run Try.prog w3 = .ok (.int .i64 z) w3 := by
  have h3 := hE.other ho hs hf.1 hf.2
  subst hS hq hz
  exact ⟨cell_of_row w3 E 0 _ _ _ h3.box, h3.look hSz hx, (hA.only ho hZ).look he hSz 0⟩
theorem only_join {w2 wr w' : World} {D : Nat} {mo mk : Option Nat} (h1 : Only (bagS D mo) w2 wr) (h2 : Only (bagS D mk) wr w') (hm : mk = mo ∨ ∃ K, mk = some K ∧ w2.heap.size ≤ K) : Only (bagS D mo) w2 w' :=
  ⟨h2.os.trans h1.os, h2.tape.trans h1.tape, h2.output.trans h1.output, Nat.le_trans h1.size h2.size, fun i hi hn => (h2.block i (Nat.lt_of_lt_of_le hi h1.size) (fun hS => by
    rcases hS with e | e
    · exact hn (.inl e)
    · rcases hm with rfl | ⟨K, rfl, hK⟩
      · exact hn (.inr e)
      · have := Option.some.inj e
        omega)).trans (h1.block i hi hn)⟩
theorem JStep.next {w2 wr W w' : World} {D B n k nk : Nat} {mo mk : Option Nat} {L M : List Ent} {s : Int} {e : Ent} (he : M[k]? = some e) (hnk : nk ≤ n + k) (ho : Only (bagS D mo) w2 wr) (hm : mk = mo ∨ ∃ K, mk = some K ∧ w2.heap.size ≤ K) (hb : Below wr.heap.size wr W) (hp : SetPostR W D B nk mk (putB (joinT L M s k) e.1 (cntB L (kE e) + s * e.2)) w') : JStep w2 D B n mo L M s (k + 1) w' := by
  obtain ⟨mo', Dm', t', h1, h2, h3⟩ := hp
  have hoW : Only (bagS D mk) wr W := (only_below hb).mono (fun _ => False.elim)
  refine ⟨mo', Dm', t', nk + 1, by omega, by rw [joinT_succ he]; exact h1, only_join ho (hoW.trans h2) hm, ?_⟩
  rcases h3 with rfl | ⟨K, rfl, hK⟩
  · exact hm
  · exact .inr ⟨K, rfl, Nat.le_trans ho.size (Nat.le_trans hb.size hK)⟩
set_option maxHeartbeats 6400000 in
theorem bjoin_one (w : World) (D E B C n m : Nat) (mo me : Option Nat) (Dm De : DataW Unit) (t t2 : Lit → Option SlN) (L M : List Ent) (hD : BagR w D B n mo Dm t L) (hE : BagR w E C m me De t2 M) (oL : OkL L) (oM : OkL M) (hDE : D ≠ E) (hap : ∀ K, mo = some K → me ≠ some K) (hl : L.length ≤ 2000) (hml : M.length ≤ 2000) (hnn : n ≤ 100000) :
    Calls Try.prog 20 #[.pointer (some ⟨D, 0, none⟩), .pointer (some ⟨E, 0, none⟩), .int .i64 1] w (PJoin w D B n mo L M 1) := by
  have HD := Lib.hid hD
  have HE := Lib.hid hE
  have HL := Lib.hid oL
  have HM := Lib.hid oM
  have HDE := Lib.hid hDE
  have HAp := Lib.hid hap
  have hlen := hE.lenOf
  have e0 : w.cell? ⟨E, 0, none⟩ = some (.map me) := cell_of_row w E 0 _ _ _ hE.box
  have e1 : (w.alloc (.map #[] 0)).cell? ⟨E, 0, none⟩ = some (.map me) := ((bel0 (.map #[] 0) (Below.refl w.heap.size w)).cell (p := ⟨E, 0, none⟩) (Array.getElem?_eq_some_iff.1 hE.box).1).trans e0
  clear hD hE oL oM hDE hap
  have hmm := make_sums
  go_enter Try.func20, Try.ntmps20
  go_upto_region 4 with (fail)
  obtain ⟨W, hW⟩ : ∃ W, W = w.alloc (.map #[] 0) := ⟨_, rfl⟩
  have HW := Lib.hid (show Below w.heap.size w W by rw [hW]; exact bel0 _ (Below.refl _ _))
  have HSz := Lib.hid (show W.heap.size = w.heap.size + 1 by rw [hW]; simp)
  have HS0 := Lib.hid (fun left (h : ∀ e ∈ M, left (litK e.1) = true) => (show SumsAt L M 1 left w.heap.size 0 W by rw [hW]; exact sums_new w L M 1 h))
  rw [← hW] at e1 ⊢
  clear hW hmm hlen e0
  go_cut [7, 38] (fun v7 v38 wx => Hid (∃ R, v7 = .map (some w.heap.size) ∧ v38 = .pointer (some ⟨R, 0, none⟩) ∧ w.heap.size < R ∧ (JNil w R L M 1 wx ∨ ∃ K, me = some K ∧ K < w.heap.size ∧ JLoop w W E C K R w.heap.size m De t2 L M 1 wx)))
  case first =>
    rcases HE.out.mp with ⟨rfl, hDe⟩ | ⟨K, rfl, hCK, ho⟩
    · have HMn := Lib.hid (show M = [] from List.eq_nil_of_length_eq_zero (by rw [← HE.out.size, hDe]; rfl))
      have hrg := fun (W : World) => run_range_nilMap (P := Try.prog) W 109 9 114 Try.underlying109
      have HNx := Lib.hid (fun ty => run_next_nilMap (P := Try.prog) W ty 0 0 #[])
      clear hDe
      have HSn := Lib.hid (HS0.out (fun _ => false) (by rw [HMn.out]; simp))
      have HI0 := Lib.hid (show Below W.heap.size W (W.alloc (.mapIter none 0 #[] 0)) from bel0 _ (Below.refl _ _))
      go_wp2_with fail
      go_meet
      exact Lib.hid ⟨_, rfl, rfl, by have := HSz.out; omega, .inl ⟨HNx.out, ⟨0, HSn.out.only (only_below HI0.out) id⟩, bt HW.out HI0.out⟩⟩
    · have HK := Lib.hid (show W.ownsMap Try.prog 9 entR K m De from ownsMap_only ho (only_below HW.out) id)
      have HKl := Lib.hid ho.lt
      clear ho
      go_wp2_with (at_range; refine wpList_range_own _ rfl _ 109 rfl 9 114 bstrKeyed Try.underlying109 _ K m _ rfl HK.out ?_; intro w0 hrg0 hg0 hs0)
      go_frame
      have hW0 : Below W.heap.size W w0 := (Below.refl _ _).grown hg0 (Nat.le_refl _) (fun j hj => by cases hj)
      have HR0 := Lib.hid (show JLoop w W E C K W.heap.size w.heap.size m De t2 L M 1 w0 from ⟨_, _, 0, hrg0, (HS0.out (Maps.has De) (fun e he => by
        obtain ⟨x, hx, _⟩ := HE.out.ent e he
        rw [HE.out.bal.on, hx]; rfl)).only (only_below hW0) id, by have := HE.out.size; omega, bt HW.out hW0⟩)
      clear hrg0 hg0 hs0 hW0
      go_meet
      exact Lib.hid ⟨_, rfl, rfl, by have := HSz.out; omega, .inr ⟨K, rfl, HKl.out, HR0.out⟩⟩
  case rest =>
    obtain ⟨R, rfl, rfl, hRw, hcase⟩ := hcut.out
    have HRw := Lib.hid hRw
    have HC := Lib.hid hcase
    clear hcut hcase e1 hRw HS0 HSz HW
    go_upto_block 0 with (fail)
    go_cut [7] (fun v wx => Hid (v = .map (some w.heap.size) ∧ SumsAll L M 1 w.heap.size wx ∧ Below w.heap.size w wx))
    case first =>
      rcases HC.out with ⟨hnx, hall, hbw⟩ | ⟨K, rfl, hKl, hloop⟩
      · have HA := Lib.hid hall
        have HB := Lib.hid hbw
        clear hall hbw HC
        go_wp2_with fail
        go_loopw [] (fun wr => wr = wc) (fun wr => 0)
        case atStart => rfl
        case round =>
          subst hrel
          go_wp2_with fail
          go_meet
          exact Lib.hid ⟨rfl, HA.out, HB.out⟩
      · have HKl := Lib.hid hKl
        have HLp := Lib.hid hloop
        clear hKl hloop HC
        go_wp2_with fail
        go_loopw [] (fun wr => Hid (JLoop w W E C K R w.heap.size m De t2 L M 1 wr)) (fun wr => wr.rangeLeft K R)
        case atStart => exact HLp
        case round =>
          obtain ⟨left, cnt, nn, hrg, hsm, hnc, hbw⟩ := hrel.out
          have HG := Lib.hid hrg
          have HSm := Lib.hid hsm
          have HBw := Lib.hid hbw
          clear hrel hrg hsm hbw HLp
          go_wp2_with (at_next; refine wpList_next_ranges _ rfl _ rfl 9 bstrKeyed entR Value.string (fun x : SlN => .agg #[.slice (adA x.1) x.2.1 x.2.2.1, .int .i64 x.2.2.2]) (fun key kl hk => by obtain ⟨x, hx, _⟩ := key_str hk; exact ⟨x, hx⟩) (fun v y hv => by obtain ⟨x, rfl, _⟩ := entR_inv hv; exact ⟨x, rfl⟩) K R m _ _ _ rfl HG.out ?_ ?_)
          · intro hc0 hl0
            have HA := Lib.hid (show SumsAll L M 1 w.heap.size wr from JLoop.all (w := w) (W := W) (E := E) (C := C) (K := K) (R := R) (m := m) (De := De) (t2 := t2) HSm.out hl0)
            clear hl0
            go_wp2
            go_meet
            exact Lib.hid ⟨rfl, HA.out, HBw.out⟩
          · intro x ad l c q kl yd yp w1 cnt1 hkey hlk hv hat hrg1 hlt hg1 hs1 hen
            have ht : t2 kl = some (ad, l, c, q) := by
              have e := entR_mk (ad, l, c, q)
              have e2 : yd = slD (ad, l, c, q) := (Prod.mk.inj (Option.some.inj (hv.symm.trans e))).1
              rw [e2] at hat
              exact HE.out.bal.at_here hat
            obtain ⟨e, he, hke⟩ := HE.out.all _ _ ht
            obtain ⟨xe, hxe, hne, _⟩ := HE.out.ent e he
            rw [← hke, ht] at hxe
            obtain rfl := Option.some.inj hxe
            have hne : q = e.2 := hne
            subst hke
            obtain rfl := key_bytes hkey
            have HGr := Lib.hid hg1
            have hw1 : Below w.heap.size w w1 := HBw.out.grown hg1 HBw.out.size (fun j hj => by cases hj; have := HRw.out; omega)
            have HB1 := Lib.hid hw1
            have hsm1 : SumsAt L M 1 left w.heap.size nn w1 := HSm.out.only (Only.of hg1 (fun K hK => hK)) (fun h => by have h := Option.some.inj h; have := HRw.out; omega)
            have HS1 := Lib.hid hsm1
            have HR1 := Lib.hid hrg1
            have HLt := Lib.hid hlt
            have HKy := Lib.hid hkey
            have HEm := Lib.hid he
            have HQ := Lib.hid hne
            have HSb : (strOfNums (keyVs e.1)).size ≤ maxLen := by
              rw [numBytes_size]
              have h1 := keyVs_len (l := e.1) (HM.out.okr e he).1
              have h2 := (HM.out.okr e he).2
              unfold maxLen
              omega
            have HDr := Lib.hid ((HD.out.below hw1))
            obtain ⟨wb, hwb⟩ : ∃ wb, wb = w1.alloc (.cells #[.slice (adA ad) l c, .int .i64 q] 114) := ⟨_, rfl⟩
            have hbb : Below w1.heap.size w1 wb := by rw [hwb]; exact bel0 _ (Below.refl _ _)
            have hD1 := HDr.out.below hbb
            have d0n : ∀ k, (wb.drewN k).cell? ⟨D, 0, none⟩ = some (.map mo) := fun k => cell_of_row wb D 0 _ _ _ hD1.box
            obtain ⟨a1, l1, c1, hlk1⟩ := hD1.looks HSb
            have hnew : wb.heap[w1.heap.size]? = some (.cells #[.slice (adA ad) l c, .int .i64 q] 114 (0, 0)) := by rw [hwb]; exact Go.heap_alloc_new _ _
            have c1n : ∀ k, (wb.drewN k).cell? ⟨w1.heap.size, 1, none⟩ = some (.int .i64 q) := fun k => cell_of_row wb _ 1 _ _ _ hnew
            have hin1 : in64 (cntB L (keyVs e.1)) := cnt_in HL.out.sort HL.out.num _
            have hin2 : in64 q := by rw [hne]; exact HM.out.num e he
            have HJd := Lib.hid (fun W => joined_any (cntB L (keyVs e.1)) q 1 W hin1 hin2 (.inl rfl))
            obtain ⟨z, hz⟩ : ∃ z, z = cntB L (keyVs e.1) := ⟨_, rfl⟩
            have HZ := Lib.hid hz
            rw [← hz] at hlk1 HJd
            obtain ⟨S, hSe⟩ : ∃ S, S = strOfNums (keyVs e.1) := ⟨_, rfl⟩
            have HSe := Lib.hid hSe
            rw [← hSe] at hlk1 hen ⊢
            have hfd : ∀ W, (Instr.field 114 (.agg #[.slice a1 l1 c1, .int .i64 z]) 1).run Try.prog W = .ok (.int .i64 z) W := fun W => rfl
            have HBb := Lib.hid hbb
            have HWb := Lib.hid hwb
            obtain ⟨sm, hsme⟩ : ∃ sm, sm = IntKind.i64.wrap (z + 1 * q) := ⟨_, rfl⟩
            obtain ⟨ft, hft⟩ : ∃ ft, ft = decide (in64 (z + 1 * q)) := ⟨_, rfl⟩
            have HPb := Lib.hid (show ∀ W, Calls Try.prog 62 #[.int .i64 z, .int .i64 q, .int .i64 1] W fun e w' => e = .returned (.tuple #[.int .i64 sm, .bool ft]) ∧ w' = W from fun W => by rw [hsme, hft]; exact HJd.out W)
            have HSme := Lib.hid hsme
            have HFt := Lib.hid hft
            clear ht hxe hne he hg1 hw1 hsm1 hrg1 hlt hkey HSb hbb hD1 hnew hin1 hin2 HJd hz hSe hat hv hlk hs1 hwb hsme hft
            go_upto_region 7 with (fail)
            rw [← HWb.out]
            go_quiet ((go_at_call 62; exact Calls.quiet_of_same (HPb.out _)))
            have hq1 : Below w1.heap.size w1 (wb.drewN nq) := ⟨HBb.out.os, HBb.out.tape, HBb.out.output, HBb.out.size, HBb.out.block⟩
            have HBq := Lib.hid hq1
            have HBw1 := Lib.hid (show Below w.heap.size w (wb.drewN nq) from bt HB1.out hq1)
            clear hq1 d0n c1n hlk1 hfd hen
            cases ft with
            | false =>
              have HJ := Lib.hid (joinC_no (L := L) (M := M) (s := 1) (by omega) HEm.out (show ¬ in64 (cntB L (kE e) + 1 * e.2) from fun h => of_decide_eq_false HFt.out.symm (by rw [HZ.out, HQ.out]; exact h)))
              go_wp2_with fail
              go_ret
              exact PJoin.same HD.out HBw1.out HJ.out rfl
            | true =>
              have hin := of_decide_eq_true HFt.out.symm
              have HIn := Lib.hid hin
              have HSm2 := Lib.hid (show sm = cntB L (kE e) + 1 * e.2 by
                rw [HSme.out, ← HQ.out, HZ.out]
                have := HIn.out
                rw [HZ.out] at this
                unfold in64 at this
                rw [IntKind.wrap_i64]
                show _ = cntB L (keyVs e.1) + 1 * q
                omega)
              obtain ⟨Ds, ho1, hMp, hv1⟩ := HS1.out
              have HO1 := Lib.hid (show (wb.drewN nq).ownsMap Try.prog 9 entI w.heap.size nn Ds from ownsMap_only ho1 (only_below HBq.out) id)
              have HMp := Lib.hid hMp
              have HV1 := Lib.hid hv1
              have HKk := Lib.hid (show keyOf Try.prog 9 (.string S) = some (litK e.1) by rw [HSe.out]; exact HKy.out)
              clear ho1 hMp hv1 hin
              go_wp2_with (at_mapUpdate; refine wpList_mapUpdate_own _ rfl (.tmp 60) (.tmp 61) (.tmp 62) 125 rfl 9 2 bstrKeyed Try.underlying125 entI w.heap.size nn _ rfl HO1.out (by unfold maxLen; omega) _ _ (litK e.1) rfl rfl HKk.out (.lit (.int .i64 sm)) [] rfl ?_; intro w2 hown2 hgrow2)
              have HN := Lib.hid (show JLoop w W E C K R w.heap.size m De t2 L M 1 w2 from by
                have hR2 := (HR1.out.kept (World.grownBy_of (row := none) HBq.out) (by simp) (by simp)).kept hgrow2 (by have := HKl.out; simp; omega) (by have := HRw.out; simp; omega)
                exact ⟨_, _, _, hR2, SumsAt.put HV1.out HMp.out HM.out.sort HEm.out rfl (bstrKeyed.key HKk.out) HSm2.out (by rw [HSm2.out, ← HQ.out]; have := HIn.out; rw [HZ.out] at this; exact this) hown2, by have := HLt.out; omega, HBw1.out.grown hgrow2 HBw1.out.size (fun j hj => by cases hj; exact Nat.le_refl _)⟩)
              have HMs := Lib.hid (show w2.rangeLeft K R = cnt1 from by
                have hR2 := (HR1.out.kept (World.grownBy_of (row := none) HBq.out) (by simp) (by simp)).kept hgrow2 (by have := HKl.out; simp; omega) (by have := HRw.out; simp; omega)
                exact hR2.left_eq)
              go_wp2
              go_roundw
              case rel => exact HN
              case measure => rw [HMs.out, HG.out.left_eq]; exact HLt.out
    case rest =>
      obtain ⟨rfl, hall, hbc⟩ := hcut.out
      have HA := Lib.hid hall
      have HBc := Lib.hid hbc
      clear hcut hall hbc HC HRw
      go_wp2_with fail
      refine (bsorted_any wc E C m me De t2 M (HE.out.below HBc.out) (by rw [HE.out.size]; omega)).mono ?_
      rintro e w2 ⟨v, ss, rfl, hp, hown, hb2⟩
      have hln : ss.length = M.length := by rw [hp.length_eq, ← HE.out.keys.length_eq, List.length_map]
      rw [HE.out.sorted hp, hln] at hown
      have HGl := Lib.hid (fun i hi => (hown.lt i hi).1)
      obtain ⟨sa, sc, rfl, _, hrow⟩ := keys_row hown
      have HRow := Lib.hid hrow
      have HB2 := Lib.hid (bt HBc.out hb2)
      have HE2 := Lib.hid (HE.out.below (bt HBc.out hb2))
      have HD2 := Lib.hid (HD.out.below (bt HBc.out hb2))
      have HA2 := Lib.hid (HA.out.below hb2)
      have HFt := Lib.hid HA.out.fit
      have HFar := Lib.hid (join_far HD.out HE.out HDE.out HAp.out)
      have HZf := Lib.hid (show ¬ bagS D mo w.heap.size from HD.out.lt_of)
      obtain ⟨l, hl2⟩ : ∃ l, l = M.length := ⟨_, rfl⟩
      have HLl := Lib.hid hl2
      rw [← hl2] at hml HRow ⊢
      have hm : l ≤ 9223372036854775807 := by omega
      clear hp hln hown hb2 hrow hl2
      go_wp2
      go_loopw [66] (fun i wr => ∃ k : Nat, k ≤ l ∧ i = .int .i64 (k : Int) ∧ Hid (JStep w2 D B n mo L M 1 k wr)) (fun i _ => l - (intOf i).toNat)
      case atStart => exact ⟨0, by omega, rfl, Lib.hid ⟨mo, Dm, t, n, by omega, HD2.out, Only.refl _ _, .inl rfl⟩⟩
      case round =>
        obtain ⟨k, hk, rfl, HK⟩ := hrel
        have hk0 : (0 : Int) ≤ (k : Int) := by omega
        by_cases hlt : k < l
        · have hki : (k : Int) < (l : Int) := by omega
          obtain ⟨e, he⟩ : ∃ e, M[k]? = some e := ⟨_, List.getElem?_eq_getElem (by have := HLl.out; omega)⟩
          have hem := List.mem_of_getElem? he
          obtain ⟨mk, Dk, tk, nk, hnk, hbk, honk, hmk⟩ := HK.out
          have HEr := Lib.hid (HE2.out.other honk HD2.out.soles HFar.out.1 HFar.out.2)
          have HAr := Lib.hid (HA2.out.only honk HZf.out)
          have HBk := Lib.hid hbk
          have HOn := Lib.hid honk
          have HMk := Lib.hid hmk
          obtain ⟨x, hx, hxn, hxr⟩ := HEr.out.ent e hem
          have hSz : (strOfNums (keyVs e.1)).size ≤ maxLen := by
            rw [numBytes_size]
            have h1 := keyVs_len (l := e.1) (HM.out.okr e hem).1
            have h2 := (HM.out.okr e hem).2
            unfold maxLen
            omega
          rcases HRow.out with h0 | ⟨g, rfl, hg, hcs⟩
          · omega
          have s0 : wr.cell? ⟨g, k, none⟩ = some (.string (strOfNums (kE e))) := (World.cell?_of_block (HOn.out.block g hg (fun hS => HD.out.not_new (by have := HGl.out g rfl; have := HBc.out.size; omega) hS))).trans (hcs k e he)
          have HX := Lib.hid hxr
          have HEm := Lib.hid he
          have HMem := Lib.hid hem
          have HSz := Lib.hid hSz
          obtain ⟨z, hz⟩ : ∃ z, z = cntB L (kE e) + 1 * e.2 := ⟨_, rfl⟩
          have HZ := Lib.hid hz
          obtain ⟨S, hSe⟩ : ∃ S, S = strOfNums (kE e) := ⟨_, rfl⟩
          have HSe := Lib.hid hSe
          obtain ⟨q, hq⟩ : ∃ q, q = x.2.2.2 := ⟨_, rfl⟩
          rw [← hSe] at s0
          have HKp := Lib.hid (fun (w3 : World) (ho : Only (bagS D mo) w2 w3) => join_keeps HE2.out HA2.out ho HD2.out.soles HFar.out HZf.out hem hx hSe hSz hq hz)
          obtain ⟨d0, hlk, hlz⟩ := HKp.out wr HOn.out
          have hfd : ∀ W, (Instr.field 114 (.agg #[.slice (adA x.1) x.2.1 x.2.2.1, .int .i64 q]) 0).run Try.prog W = .ok (.slice (adA x.1) x.2.1 x.2.2.1) W := fun W => rfl
          clear hbk honk hmk hxr hSz hem he hz hSe hx hxn hq
          go_upto_region 14 with (fail)
          have HSet := Lib.hid (fun (W' : World) (hW : Below wr.heap.size wr W') => join_set W' D B nk mk Dk tk _ z (HBk.out.below hW) e.1 HSz.out x C (HX.out.below hW) (HM.out.okr e HMem.out) (by omega))
          rw [← show S = strOfNums (keyVs e.1) from HSe.out] at HSet
          refine wp_region_noPanic ?_
          go_region_held3 (fun W' => W'.cell? ⟨E, 0, none⟩ = some (.map me) ∧ (Instr.lookup 109 (.map me) (.string S) false).run Try.prog W' = .ok (.agg #[.slice (adA x.1) x.2.1 x.2.2.1, .int .i64 q]) W' ∧ (Instr.lookup 125 (.map (some w.heap.size)) (.string S) false).run Try.prog W' = .ok (.int .i64 z) W')
            (first | exact ⟨d0, hlk, hlz⟩ | exact hS3 | exact HKp.out _ ⟨HOn.out.os, HOn.out.tape, HOn.out.output, HOn.out.size, HOn.out.block⟩)
            ((go_at_call 63; refine (HSet.out _ (by exact ⟨rfl, rfl, rfl, Nat.le_refl _, fun _ _ => rfl⟩)).mono ?_; rintro e' w3 ⟨rfl, hp⟩; have HP := Lib.hid (JStep.next (w' := w3) (W := wr.drew) HEm.out hnk HOn.out HMk.out (by exact ⟨rfl, rfl, rfl, Nat.le_refl _, fun _ _ => rfl⟩) (by rw [← HZ.out]; exact hp)); have hS3 := HKp.out w3 (by obtain ⟨_, _, _, _, _, _, ho3, _⟩ := HP.out; exact ho3); clear hp))
          all_goals
            refine NoPanic.normal ?_
            clear hS3 hlk hlz d0 s0 hfd
            go_wp2
            go_roundw
            case rel => exact ⟨k + 1, by omega, by go_num, HP⟩
            case measure => simp [intOf]; omega
        · obtain rfl : k = l := by omega
          obtain ⟨mk, Dk, tk, nk, hnk, hbk, honk, hmk⟩ := HK.out
          have HJ := Lib.hid (joinC_yes (L := L) (M := M) (s := 1) (by omega) HFt.out)
          have HBk := Lib.hid hbk
          have HOn := Lib.hid honk
          have HMk := Lib.hid hmk
          clear hbk honk hmk
          go_wp2
          go_ret
          refine ⟨by rw [HJ.out]; rfl, mk, Dk, tk, nk, by have := HLl.out; omega, ?_, ((only_below HB2.out).mono (fun _ => False.elim)).trans HOn.out, HMk.out.imp id (fun ⟨K, e, h⟩ => ⟨K, e, Nat.le_trans HB2.out.size h⟩)⟩
          rw [HJ.out, ← HLl.out]
          exact HBk.out
set_option maxHeartbeats 6400000 in
theorem bjoin_neg (w : World) (D E B C n m : Nat) (mo me : Option Nat) (Dm De : DataW Unit) (t t2 : Lit → Option SlN) (L M : List Ent) (hD : BagR w D B n mo Dm t L) (hE : BagR w E C m me De t2 M) (oL : OkL L) (oM : OkL M) (hDE : D ≠ E) (hap : ∀ K, mo = some K → me ≠ some K) (hl : L.length ≤ 2000) (hml : M.length ≤ 2000) (hnn : n ≤ 100000) :
    Calls Try.prog 20 #[.pointer (some ⟨D, 0, none⟩), .pointer (some ⟨E, 0, none⟩), .int .i64 (-1)] w (PJoin w D B n mo L M (-1)) := by
  have HD := Lib.hid hD
  have HE := Lib.hid hE
  have HL := Lib.hid oL
  have HM := Lib.hid oM
  have HDE := Lib.hid hDE
  have HAp := Lib.hid hap
  have hlen := hE.lenOf
  have e0 : w.cell? ⟨E, 0, none⟩ = some (.map me) := cell_of_row w E 0 _ _ _ hE.box
  have e1 : (w.alloc (.map #[] 0)).cell? ⟨E, 0, none⟩ = some (.map me) := ((bel0 (.map #[] 0) (Below.refl w.heap.size w)).cell (p := ⟨E, 0, none⟩) (Array.getElem?_eq_some_iff.1 hE.box).1).trans e0
  clear hD hE oL oM hDE hap
  have hmm := make_sums
  go_enter Try.func20, Try.ntmps20
  go_upto_region 4 with (fail)
  obtain ⟨W, hW⟩ : ∃ W, W = w.alloc (.map #[] 0) := ⟨_, rfl⟩
  have HW := Lib.hid (show Below w.heap.size w W by rw [hW]; exact bel0 _ (Below.refl _ _))
  have HSz := Lib.hid (show W.heap.size = w.heap.size + 1 by rw [hW]; simp)
  have HS0 := Lib.hid (fun left (h : ∀ e ∈ M, left (litK e.1) = true) => (show SumsAt L M (-1) left w.heap.size 0 W by rw [hW]; exact sums_new w L M (-1) h))
  rw [← hW] at e1 ⊢
  clear hW hmm hlen e0
  go_cut [7, 38] (fun v7 v38 wx => Hid (∃ R, v7 = .map (some w.heap.size) ∧ v38 = .pointer (some ⟨R, 0, none⟩) ∧ w.heap.size < R ∧ (JNil w R L M (-1) wx ∨ ∃ K, me = some K ∧ K < w.heap.size ∧ JLoop w W E C K R w.heap.size m De t2 L M (-1) wx)))
  case first =>
    rcases HE.out.mp with ⟨rfl, hDe⟩ | ⟨K, rfl, hCK, ho⟩
    · have HMn := Lib.hid (show M = [] from List.eq_nil_of_length_eq_zero (by rw [← HE.out.size, hDe]; rfl))
      have hrg := fun (W : World) => run_range_nilMap (P := Try.prog) W 109 9 114 Try.underlying109
      have HNx := Lib.hid (fun ty => run_next_nilMap (P := Try.prog) W ty 0 0 #[])
      clear hDe
      have HSn := Lib.hid (HS0.out (fun _ => false) (by rw [HMn.out]; simp))
      have HI0 := Lib.hid (show Below W.heap.size W (W.alloc (.mapIter none 0 #[] 0)) from bel0 _ (Below.refl _ _))
      go_wp2_with fail
      go_meet
      exact Lib.hid ⟨_, rfl, rfl, by have := HSz.out; omega, .inl ⟨HNx.out, ⟨0, HSn.out.only (only_below HI0.out) id⟩, bt HW.out HI0.out⟩⟩
    · have HK := Lib.hid (show W.ownsMap Try.prog 9 entR K m De from ownsMap_only ho (only_below HW.out) id)
      have HKl := Lib.hid ho.lt
      clear ho
      go_wp2_with (at_range; refine wpList_range_own _ rfl _ 109 rfl 9 114 bstrKeyed Try.underlying109 _ K m _ rfl HK.out ?_; intro w0 hrg0 hg0 hs0)
      go_frame
      have hW0 : Below W.heap.size W w0 := (Below.refl _ _).grown hg0 (Nat.le_refl _) (fun j hj => by cases hj)
      have HR0 := Lib.hid (show JLoop w W E C K W.heap.size w.heap.size m De t2 L M (-1) w0 from ⟨_, _, 0, hrg0, (HS0.out (Maps.has De) (fun e he => by
        obtain ⟨x, hx, _⟩ := HE.out.ent e he
        rw [HE.out.bal.on, hx]; rfl)).only (only_below hW0) id, by have := HE.out.size; omega, bt HW.out hW0⟩)
      clear hrg0 hg0 hs0 hW0
      go_meet
      exact Lib.hid ⟨_, rfl, rfl, by have := HSz.out; omega, .inr ⟨K, rfl, HKl.out, HR0.out⟩⟩
  case rest =>
    obtain ⟨R, rfl, rfl, hRw, hcase⟩ := hcut.out
    have HRw := Lib.hid hRw
    have HC := Lib.hid hcase
    clear hcut hcase e1 hRw HS0 HSz HW
    go_upto_block 0 with (fail)
    go_cut [7] (fun v wx => Hid (v = .map (some w.heap.size) ∧ SumsAll L M (-1) w.heap.size wx ∧ Below w.heap.size w wx))
    case first =>
      rcases HC.out with ⟨hnx, hall, hbw⟩ | ⟨K, rfl, hKl, hloop⟩
      · have HA := Lib.hid hall
        have HB := Lib.hid hbw
        clear hall hbw HC
        go_wp2_with fail
        go_loopw [] (fun wr => wr = wc) (fun wr => 0)
        case atStart => rfl
        case round =>
          subst hrel
          go_wp2_with fail
          go_meet
          exact Lib.hid ⟨rfl, HA.out, HB.out⟩
      · have HKl := Lib.hid hKl
        have HLp := Lib.hid hloop
        clear hKl hloop HC
        go_wp2_with fail
        go_loopw [] (fun wr => Hid (JLoop w W E C K R w.heap.size m De t2 L M (-1) wr)) (fun wr => wr.rangeLeft K R)
        case atStart => exact HLp
        case round =>
          obtain ⟨left, cnt, nn, hrg, hsm, hnc, hbw⟩ := hrel.out
          have HG := Lib.hid hrg
          have HSm := Lib.hid hsm
          have HBw := Lib.hid hbw
          clear hrel hrg hsm hbw HLp
          go_wp2_with (at_next; refine wpList_next_ranges _ rfl _ rfl 9 bstrKeyed entR Value.string (fun x : SlN => .agg #[.slice (adA x.1) x.2.1 x.2.2.1, .int .i64 x.2.2.2]) (fun key kl hk => by obtain ⟨x, hx, _⟩ := key_str hk; exact ⟨x, hx⟩) (fun v y hv => by obtain ⟨x, rfl, _⟩ := entR_inv hv; exact ⟨x, rfl⟩) K R m _ _ _ rfl HG.out ?_ ?_)
          · intro hc0 hl0
            have HA := Lib.hid (show SumsAll L M (-1) w.heap.size wr from JLoop.all (w := w) (W := W) (E := E) (C := C) (K := K) (R := R) (m := m) (De := De) (t2 := t2) HSm.out hl0)
            clear hl0
            go_wp2
            go_meet
            exact Lib.hid ⟨rfl, HA.out, HBw.out⟩
          · intro x ad l c q kl yd yp w1 cnt1 hkey hlk hv hat hrg1 hlt hg1 hs1 hen
            have ht : t2 kl = some (ad, l, c, q) := by
              have e := entR_mk (ad, l, c, q)
              have e2 : yd = slD (ad, l, c, q) := (Prod.mk.inj (Option.some.inj (hv.symm.trans e))).1
              rw [e2] at hat
              exact HE.out.bal.at_here hat
            obtain ⟨e, he, hke⟩ := HE.out.all _ _ ht
            obtain ⟨xe, hxe, hne, _⟩ := HE.out.ent e he
            rw [← hke, ht] at hxe
            obtain rfl := Option.some.inj hxe
            have hne : q = e.2 := hne
            subst hke
            obtain rfl := key_bytes hkey
            have HGr := Lib.hid hg1
            have hw1 : Below w.heap.size w w1 := HBw.out.grown hg1 HBw.out.size (fun j hj => by cases hj; have := HRw.out; omega)
            have HB1 := Lib.hid hw1
            have hsm1 : SumsAt L M (-1) left w.heap.size nn w1 := HSm.out.only (Only.of hg1 (fun K hK => hK)) (fun h => by have h := Option.some.inj h; have := HRw.out; omega)
            have HS1 := Lib.hid hsm1
            have HR1 := Lib.hid hrg1
            have HLt := Lib.hid hlt
            have HKy := Lib.hid hkey
            have HEm := Lib.hid he
            have HQ := Lib.hid hne
            have HSb : (strOfNums (keyVs e.1)).size ≤ maxLen := by
              rw [numBytes_size]
              have h1 := keyVs_len (l := e.1) (HM.out.okr e he).1
              have h2 := (HM.out.okr e he).2
              unfold maxLen
              omega
            have HDr := Lib.hid ((HD.out.below hw1))
            obtain ⟨wb, hwb⟩ : ∃ wb, wb = w1.alloc (.cells #[.slice (adA ad) l c, .int .i64 q] 114) := ⟨_, rfl⟩
            have hbb : Below w1.heap.size w1 wb := by rw [hwb]; exact bel0 _ (Below.refl _ _)
            have hD1 := HDr.out.below hbb
            have d0n : ∀ k, (wb.drewN k).cell? ⟨D, 0, none⟩ = some (.map mo) := fun k => cell_of_row wb D 0 _ _ _ hD1.box
            obtain ⟨a1, l1, c1, hlk1⟩ := hD1.looks HSb
            have hnew : wb.heap[w1.heap.size]? = some (.cells #[.slice (adA ad) l c, .int .i64 q] 114 (0, 0)) := by rw [hwb]; exact Go.heap_alloc_new _ _
            have c1n : ∀ k, (wb.drewN k).cell? ⟨w1.heap.size, 1, none⟩ = some (.int .i64 q) := fun k => cell_of_row wb _ 1 _ _ _ hnew
            have hin1 : in64 (cntB L (keyVs e.1)) := cnt_in HL.out.sort HL.out.num _
            have hin2 : in64 q := by rw [hne]; exact HM.out.num e he
            have HJd := Lib.hid (fun W => joined_any (cntB L (keyVs e.1)) q (-1) W hin1 hin2 (.inr rfl))
            obtain ⟨z, hz⟩ : ∃ z, z = cntB L (keyVs e.1) := ⟨_, rfl⟩
            have HZ := Lib.hid hz
            rw [← hz] at hlk1 HJd
            obtain ⟨S, hSe⟩ : ∃ S, S = strOfNums (keyVs e.1) := ⟨_, rfl⟩
            have HSe := Lib.hid hSe
            rw [← hSe] at hlk1 hen ⊢
            have hfd : ∀ W, (Instr.field 114 (.agg #[.slice a1 l1 c1, .int .i64 z]) 1).run Try.prog W = .ok (.int .i64 z) W := fun W => rfl
            have HBb := Lib.hid hbb
            have HWb := Lib.hid hwb
            obtain ⟨sm, hsme⟩ : ∃ sm, sm = IntKind.i64.wrap (z + -1 * q) := ⟨_, rfl⟩
            obtain ⟨ft, hft⟩ : ∃ ft, ft = decide (in64 (z + -1 * q)) := ⟨_, rfl⟩
            have HPb := Lib.hid (show ∀ W, Calls Try.prog 62 #[.int .i64 z, .int .i64 q, .int .i64 (-1)] W fun e w' => e = .returned (.tuple #[.int .i64 sm, .bool ft]) ∧ w' = W from fun W => by rw [hsme, hft]; exact HJd.out W)
            have HSme := Lib.hid hsme
            have HFt := Lib.hid hft
            clear ht hxe hne he hg1 hw1 hsm1 hrg1 hlt hkey HSb hbb hD1 hnew hin1 hin2 HJd hz hSe hat hv hlk hs1 hwb hsme hft
            go_upto_region 7 with (fail)
            rw [← HWb.out]
            go_quiet ((go_at_call 62; exact Calls.quiet_of_same (HPb.out _)))
            have hq1 : Below w1.heap.size w1 (wb.drewN nq) := ⟨HBb.out.os, HBb.out.tape, HBb.out.output, HBb.out.size, HBb.out.block⟩
            have HBq := Lib.hid hq1
            have HBw1 := Lib.hid (show Below w.heap.size w (wb.drewN nq) from bt HB1.out hq1)
            clear hq1 d0n c1n hlk1 hfd hen
            cases ft with
            | false =>
              have HJ := Lib.hid (joinC_no (L := L) (M := M) (s := -1) (by omega) HEm.out (show ¬ in64 (cntB L (kE e) + -1 * e.2) from fun h => of_decide_eq_false HFt.out.symm (by rw [HZ.out, HQ.out]; exact h)))
              go_wp2_with fail
              go_ret
              exact PJoin.same HD.out HBw1.out HJ.out rfl
            | true =>
              have hin := of_decide_eq_true HFt.out.symm
              have HIn := Lib.hid hin
              have HSm2 := Lib.hid (show sm = cntB L (kE e) + -1 * e.2 by
                rw [HSme.out, ← HQ.out, HZ.out]
                have := HIn.out
                rw [HZ.out] at this
                unfold in64 at this
                rw [IntKind.wrap_i64]
                show _ = cntB L (keyVs e.1) + -1 * q
                omega)
              obtain ⟨Ds, ho1, hMp, hv1⟩ := HS1.out
              have HO1 := Lib.hid (show (wb.drewN nq).ownsMap Try.prog 9 entI w.heap.size nn Ds from ownsMap_only ho1 (only_below HBq.out) id)
              have HMp := Lib.hid hMp
              have HV1 := Lib.hid hv1
              have HKk := Lib.hid (show keyOf Try.prog 9 (.string S) = some (litK e.1) by rw [HSe.out]; exact HKy.out)
              clear ho1 hMp hv1 hin
              go_wp2_with (at_mapUpdate; refine wpList_mapUpdate_own _ rfl (.tmp 60) (.tmp 61) (.tmp 62) 125 rfl 9 2 bstrKeyed Try.underlying125 entI w.heap.size nn _ rfl HO1.out (by unfold maxLen; omega) _ _ (litK e.1) rfl rfl HKk.out (.lit (.int .i64 sm)) [] rfl ?_; intro w2 hown2 hgrow2)
              have HN := Lib.hid (show JLoop w W E C K R w.heap.size m De t2 L M (-1) w2 from by
                have hR2 := (HR1.out.kept (World.grownBy_of (row := none) HBq.out) (by simp) (by simp)).kept hgrow2 (by have := HKl.out; simp; omega) (by have := HRw.out; simp; omega)
                exact ⟨_, _, _, hR2, SumsAt.put HV1.out HMp.out HM.out.sort HEm.out rfl (bstrKeyed.key HKk.out) HSm2.out (by rw [HSm2.out, ← HQ.out]; have := HIn.out; rw [HZ.out] at this; exact this) hown2, by have := HLt.out; omega, HBw1.out.grown hgrow2 HBw1.out.size (fun j hj => by cases hj; exact Nat.le_refl _)⟩)
              have HMs := Lib.hid (show w2.rangeLeft K R = cnt1 from by
                have hR2 := (HR1.out.kept (World.grownBy_of (row := none) HBq.out) (by simp) (by simp)).kept hgrow2 (by have := HKl.out; simp; omega) (by have := HRw.out; simp; omega)
                exact hR2.left_eq)
              go_wp2
              go_roundw
              case rel => exact HN
              case measure => rw [HMs.out, HG.out.left_eq]; exact HLt.out
    case rest =>
      obtain ⟨rfl, hall, hbc⟩ := hcut.out
      have HA := Lib.hid hall
      have HBc := Lib.hid hbc
      clear hcut hall hbc HC HRw
      go_wp2_with fail
      refine (bsorted_any wc E C m me De t2 M (HE.out.below HBc.out) (by rw [HE.out.size]; omega)).mono ?_
      rintro e w2 ⟨v, ss, rfl, hp, hown, hb2⟩
      have hln : ss.length = M.length := by rw [hp.length_eq, ← HE.out.keys.length_eq, List.length_map]
      rw [HE.out.sorted hp, hln] at hown
      have HGl := Lib.hid (fun i hi => (hown.lt i hi).1)
      obtain ⟨sa, sc, rfl, _, hrow⟩ := keys_row hown
      have HRow := Lib.hid hrow
      have HB2 := Lib.hid (bt HBc.out hb2)
      have HE2 := Lib.hid (HE.out.below (bt HBc.out hb2))
      have HD2 := Lib.hid (HD.out.below (bt HBc.out hb2))
      have HA2 := Lib.hid (HA.out.below hb2)
      have HFt := Lib.hid HA.out.fit
      have HFar := Lib.hid (join_far HD.out HE.out HDE.out HAp.out)
      have HZf := Lib.hid (show ¬ bagS D mo w.heap.size from HD.out.lt_of)
      obtain ⟨l, hl2⟩ : ∃ l, l = M.length := ⟨_, rfl⟩
      have HLl := Lib.hid hl2
      rw [← hl2] at hml HRow ⊢
      have hm : l ≤ 9223372036854775807 := by omega
      clear hp hln hown hb2 hrow hl2
      go_wp2
      go_loopw [66] (fun i wr => ∃ k : Nat, k ≤ l ∧ i = .int .i64 (k : Int) ∧ Hid (JStep w2 D B n mo L M (-1) k wr)) (fun i _ => l - (intOf i).toNat)
      case atStart => exact ⟨0, by omega, rfl, Lib.hid ⟨mo, Dm, t, n, by omega, HD2.out, Only.refl _ _, .inl rfl⟩⟩
      case round =>
        obtain ⟨k, hk, rfl, HK⟩ := hrel
        have hk0 : (0 : Int) ≤ (k : Int) := by omega
        by_cases hlt : k < l
        · have hki : (k : Int) < (l : Int) := by omega
          obtain ⟨e, he⟩ : ∃ e, M[k]? = some e := ⟨_, List.getElem?_eq_getElem (by have := HLl.out; omega)⟩
          have hem := List.mem_of_getElem? he
          obtain ⟨mk, Dk, tk, nk, hnk, hbk, honk, hmk⟩ := HK.out
          have HEr := Lib.hid (HE2.out.other honk HD2.out.soles HFar.out.1 HFar.out.2)
          have HAr := Lib.hid (HA2.out.only honk HZf.out)
          have HBk := Lib.hid hbk
          have HOn := Lib.hid honk
          have HMk := Lib.hid hmk
          obtain ⟨x, hx, hxn, hxr⟩ := HEr.out.ent e hem
          have hSz : (strOfNums (keyVs e.1)).size ≤ maxLen := by
            rw [numBytes_size]
            have h1 := keyVs_len (l := e.1) (HM.out.okr e hem).1
            have h2 := (HM.out.okr e hem).2
            unfold maxLen
            omega
          rcases HRow.out with h0 | ⟨g, rfl, hg, hcs⟩
          · omega
          have s0 : wr.cell? ⟨g, k, none⟩ = some (.string (strOfNums (kE e))) := (World.cell?_of_block (HOn.out.block g hg (fun hS => HD.out.not_new (by have := HGl.out g rfl; have := HBc.out.size; omega) hS))).trans (hcs k e he)
          have HX := Lib.hid hxr
          have HEm := Lib.hid he
          have HMem := Lib.hid hem
          have HSz := Lib.hid hSz
          obtain ⟨z, hz⟩ : ∃ z, z = cntB L (kE e) + -1 * e.2 := ⟨_, rfl⟩
          have HZ := Lib.hid hz
          obtain ⟨S, hSe⟩ : ∃ S, S = strOfNums (kE e) := ⟨_, rfl⟩
          have HSe := Lib.hid hSe
          obtain ⟨q, hq⟩ : ∃ q, q = x.2.2.2 := ⟨_, rfl⟩
          rw [← hSe] at s0
          have HKp := Lib.hid (fun (w3 : World) (ho : Only (bagS D mo) w2 w3) => join_keeps HE2.out HA2.out ho HD2.out.soles HFar.out HZf.out hem hx hSe hSz hq hz)
          obtain ⟨d0, hlk, hlz⟩ := HKp.out wr HOn.out
          have hfd : ∀ W, (Instr.field 114 (.agg #[.slice (adA x.1) x.2.1 x.2.2.1, .int .i64 q]) 0).run Try.prog W = .ok (.slice (adA x.1) x.2.1 x.2.2.1) W := fun W => rfl
          clear hbk honk hmk hxr hSz hem he hz hSe hx hxn hq
          go_upto_region 14 with (fail)
          have HSet := Lib.hid (fun (W' : World) (hW : Below wr.heap.size wr W') => join_set W' D B nk mk Dk tk _ z (HBk.out.below hW) e.1 HSz.out x C (HX.out.below hW) (HM.out.okr e HMem.out) (by omega))
          rw [← show S = strOfNums (keyVs e.1) from HSe.out] at HSet
          refine wp_region_noPanic ?_
          go_region_held3 (fun W' => W'.cell? ⟨E, 0, none⟩ = some (.map me) ∧ (Instr.lookup 109 (.map me) (.string S) false).run Try.prog W' = .ok (.agg #[.slice (adA x.1) x.2.1 x.2.2.1, .int .i64 q]) W' ∧ (Instr.lookup 125 (.map (some w.heap.size)) (.string S) false).run Try.prog W' = .ok (.int .i64 z) W')
            (first | exact ⟨d0, hlk, hlz⟩ | exact hS3 | exact HKp.out _ ⟨HOn.out.os, HOn.out.tape, HOn.out.output, HOn.out.size, HOn.out.block⟩)
            ((go_at_call 63; refine (HSet.out _ (by exact ⟨rfl, rfl, rfl, Nat.le_refl _, fun _ _ => rfl⟩)).mono ?_; rintro e' w3 ⟨rfl, hp⟩; have HP := Lib.hid (JStep.next (w' := w3) (W := wr.drew) HEm.out hnk HOn.out HMk.out (by exact ⟨rfl, rfl, rfl, Nat.le_refl _, fun _ _ => rfl⟩) (by rw [← HZ.out]; exact hp)); have hS3 := HKp.out w3 (by obtain ⟨_, _, _, _, _, _, ho3, _⟩ := HP.out; exact ho3); clear hp))
          all_goals
            refine NoPanic.normal ?_
            clear hS3 hlk hlz d0 s0 hfd
            go_wp2
            go_roundw
            case rel => exact ⟨k + 1, by omega, by go_num, HP⟩
            case measure => simp [intOf]; omega
        · obtain rfl : k = l := by omega
          obtain ⟨mk, Dk, tk, nk, hnk, hbk, honk, hmk⟩ := HK.out
          have HJ := Lib.hid (joinC_yes (L := L) (M := M) (s := -1) (by omega) HFt.out)
          have HBk := Lib.hid hbk
          have HOn := Lib.hid honk
          have HMk := Lib.hid hmk
          clear hbk honk hmk
          go_wp2
          go_ret
          refine ⟨by rw [HJ.out]; rfl, mk, Dk, tk, nk, by have := HLl.out; omega, ?_, ((only_below HB2.out).mono (fun _ => False.elim)).trans HOn.out, HMk.out.imp id (fun ⟨K, e, h⟩ => ⟨K, e, Nat.le_trans HB2.out.size h⟩)⟩
          rw [HJ.out, ← HLl.out]
          exact HBk.out
set_option maxHeartbeats 1600000 in
theorem bjoin_any (w : World) (D E B C n m : Nat) (mo me : Option Nat) (Dm De : DataW Unit) (t t2 : Lit → Option SlN) (L M : List Ent) (s : Int) (hD : BagR w D B n mo Dm t L) (hE : BagR w E C m me De t2 M) (oL : OkL L) (oM : OkL M) (hDE : D ≠ E) (hap : ∀ K, mo = some K → me ≠ some K) (hl : L.length ≤ 2000) (hml : M.length ≤ 2000) (hnn : n ≤ 100000) :
    Calls Try.prog 20 #[.pointer (some ⟨D, 0, none⟩), .pointer (some ⟨E, 0, none⟩), .int .i64 s] w (PJoin w D B n mo L M s) := by
  by_cases h1 : s = 1
  · subst h1; exact bjoin_one w D E B C n m mo me Dm De t t2 L M hD hE oL oM hDE hap hl hml hnn
  by_cases h2 : s = -1
  · subst h2; exact bjoin_neg w D E B C n m mo me Dm De t t2 L M hD hE oL oM hDE hap hl hml hnn
  have e1 : (s != 1) = true := bne_iff_ne.2 h1
  have e2 : (s != -1) = true := bne_iff_ne.2 h2
  have HJ := Lib.hid (joinC_arg (L := L) (M := M) (s := s) (by omega))
  have HD := Lib.hid hD
  clear hD hE oL oM hDE hap h1 h2
  go_enter Try.func20, Try.ntmps20
  go_wp2
  go_ret
  exact PJoin.same HD.out (Below.refl _ _) HJ.out rfl
end Go.Proofs.Ytplgkblahmndoaa
