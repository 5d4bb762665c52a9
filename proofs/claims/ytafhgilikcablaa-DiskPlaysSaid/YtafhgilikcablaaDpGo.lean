/- Contract of a disk's calls that do nothing, and of the change with which the power goes. (Written by gendpgo.py.) -/
import Derived.Test.YtafhgilikcablaaDpCh
import Derived.Test.YtafhgilikcablaaDkW1
namespace Go.Proofs.Ytafhgilikcablaa
open Go.RowKit Go.Maps
set_option linter.unusedVariables false
set_option maxRecDepth 100000

set_option maxHeartbeats 800000 in
theorem psync_nofile (w : World) (D : Nat) (f : Int) (hf : f ≠ 0 ∧ f ≠ 1) :
    Calls Try.prog 43 #[.pointer (some ⟨D, 0, none⟩), .int .i64 f] w fun e w' => e = .returned (.int .i64 1) ∧ w' = w := by
  have HF := Lib.hid hf
  clear hf
  go_enter Try.func43, Try.ntmps43
  go_wp2_with fail
  refine (ready_no D f HF.out _).mono ?_
  rintro e w1 ⟨rfl, hw⟩
  subst hw
  go_wp2
  go_ret
  exact ⟨rfl, rfl⟩
set_option maxHeartbeats 800000 in
theorem psync_down (w : World) (D : Nat) (f : Int) (hf : f = 0 ∨ f = 1) (hd : w.cell? ⟨D, 9, none⟩ = some (.bool true)) :
    Calls Try.prog 43 #[.pointer (some ⟨D, 0, none⟩), .int .i64 f] w fun e w' => e = .returned (.int .i64 16) ∧ w' = w := by
  have HF := Lib.hid hf
  clear hf
  go_enter Try.func43, Try.ntmps43
  go_wp2_with fail
  refine (ready_down D f HF.out _ hd).mono ?_
  rintro e w1 ⟨rfl, hw⟩
  subst hw
  go_wp2
  go_ret
  exact ⟨rfl, rfl⟩

set_option maxHeartbeats 800000 in
theorem ptruncate_nofile (w : World) (D : Nat) (f : Int) (p : Int) (hf : f ≠ 0 ∧ f ≠ 1) :
    Calls Try.prog 45 #[.pointer (some ⟨D, 0, none⟩), .int .i64 f, .int .i64 p] w fun e w' => e = .returned (.int .i64 1) ∧ w' = w := by
  have HF := Lib.hid hf
  clear hf
  go_enter Try.func45, Try.ntmps45
  go_wp2_with fail
  refine (ready_no D f HF.out _).mono ?_
  rintro e w1 ⟨rfl, hw⟩
  subst hw
  go_wp2
  go_ret
  exact ⟨rfl, rfl⟩
set_option maxHeartbeats 800000 in
theorem ptruncate_down (w : World) (D : Nat) (f : Int) (p : Int) (hf : f = 0 ∨ f = 1) (hd : w.cell? ⟨D, 9, none⟩ = some (.bool true)) :
    Calls Try.prog 45 #[.pointer (some ⟨D, 0, none⟩), .int .i64 f, .int .i64 p] w fun e w' => e = .returned (.int .i64 16) ∧ w' = w := by
  have HF := Lib.hid hf
  clear hf
  go_enter Try.func45, Try.ntmps45
  go_wp2_with fail
  refine (ready_down D f HF.out _ hd).mono ?_
  rintro e w1 ⟨rfl, hw⟩
  subst hw
  go_wp2
  go_ret
  exact ⟨rfl, rfl⟩

set_option maxHeartbeats 800000 in
theorem pwrite_nofile (w : World) (D : Nat) (f : Int) (p : Int) (ba : Option Addr) (bl bc : Nat) (hf : f ≠ 0 ∧ f ≠ 1) :
    Calls Try.prog 39 #[.pointer (some ⟨D, 0, none⟩), .int .i64 f, .int .i64 p, .slice ba bl bc] w fun e w' => e = .returned (.int .i64 1) ∧ w' = w := by
  have HF := Lib.hid hf
  clear hf
  go_enter Try.func39, Try.ntmps39
  go_wp2_with fail
  refine (ready_no D f HF.out _).mono ?_
  rintro e w1 ⟨rfl, hw⟩
  subst hw
  go_wp2
  go_ret
  exact ⟨rfl, rfl⟩
set_option maxHeartbeats 800000 in
theorem pwrite_down (w : World) (D : Nat) (f : Int) (p : Int) (ba : Option Addr) (bl bc : Nat) (hf : f = 0 ∨ f = 1) (hd : w.cell? ⟨D, 9, none⟩ = some (.bool true)) :
    Calls Try.prog 39 #[.pointer (some ⟨D, 0, none⟩), .int .i64 f, .int .i64 p, .slice ba bl bc] w fun e w' => e = .returned (.int .i64 16) ∧ w' = w := by
  have HF := Lib.hid hf
  clear hf
  go_enter Try.func39, Try.ntmps39
  go_wp2_with fail
  refine (ready_down D f HF.out _ hd).mono ?_
  rintro e w1 ⟨rfl, hw⟩
  subst hw
  go_wp2
  go_ret
  exact ⟨rfl, rfl⟩

set_option maxHeartbeats 800000 in
theorem psync_gone0 (w : World) (D : Nat) (cs : Array Value) (T : TypeId) (hbox : w.heap[D]? = some (.cells cs T (0, 0))) (h7 : cs[7]? = some (.bool true)) (h8 : cs[8]? = some (.int .i64 0)) (h9 : cs[9]? = some (.bool false)) :
    Calls Try.prog 43 #[.pointer (some ⟨D, 0, none⟩), .int .i64 0] w fun e w' => e = .returned (.int .i64 16) ∧ w' = w.setCell ⟨D, 9, none⟩ (.bool true) := by
  have d9 := (cell_of_row w D 9 cs T _ hbox).trans h9
  have HH := Lib.hid (And.intro hbox (And.intro h7 (And.intro h8 h9)))
  clear hbox h7 h8 h9
  go_enter Try.func43, Try.ntmps43
  go_wp2_with fail
  refine (ready_ok D 0 (.inl rfl) _ d9).mono ?_
  rintro e w1 ⟨rfl, hw⟩
  subst hw
  clear d9
  go_wp2_with fail
  refine (change_gone D _ cs T HH.out.1 HH.out.2.1 HH.out.2.2.1 _ HH.out.2.2.2).mono ?_
  rintro e w2 ⟨rfl, hw⟩
  go_wp2
  go_ret
  exact ⟨rfl, rfl⟩
set_option maxHeartbeats 1600000 in
theorem ptrunc_gone0 (w : World) (D : Nat) (cs : Array Value) (T : TypeId) (va : Option Addr) (l vc n : Nat) (hn : n ≤ l) (hv : cs[0]? = some (.slice va l vc)) (hbox : w.heap[D]? = some (.cells cs T (0, 0))) (h7 : cs[7]? = some (.bool true)) (h8 : cs[8]? = some (.int .i64 0)) (h9 : cs[9]? = some (.bool false)) :
    Calls Try.prog 45 #[.pointer (some ⟨D, 0, none⟩), .int .i64 0, .int .i64 (n : Int)] w fun e w' => e = .returned (.int .i64 16) ∧ w' = w.setCell ⟨D, 9, none⟩ (.bool true) := by
  have d9 := (cell_of_row w D 9 cs T _ hbox).trans h9
  have d0 := (cell_of_row w D 0 cs T _ hbox).trans hv
  have HH := Lib.hid (And.intro hbox (And.intro h7 (And.intro h8 h9)))
  have hn0 : (0 : Int) ≤ (n : Int) := by omega
  have hn1 : (n : Int) ≤ (l : Int) := by omega
  clear hbox h7 h8 h9 hv hn
  go_enter Try.func45, Try.ntmps45
  go_wp2_with fail
  refine (ready_ok D 0 (.inl rfl) _ d9).mono ?_
  rintro e w1 ⟨rfl, hw⟩
  subst hw
  go_wp2_with fail
  refine (size0 D va l vc _ d0).mono ?_
  rintro e w1 ⟨rfl, hw⟩
  subst hw
  clear d9 d0
  go_wp2_with fail
  refine (change_gone D _ cs T HH.out.1 HH.out.2.1 HH.out.2.2.1 _ HH.out.2.2.2).mono ?_
  rintro e w2 ⟨rfl, hw⟩
  go_wp2
  go_ret
  exact ⟨rfl, rfl⟩
set_option maxHeartbeats 1600000 in
theorem ptrunc_out0 (w : World) (D : Nat) (va : Option Addr) (l vc : Nat) (p : Int) (hp : p < 0 ∨ (l : Int) < p) (d0 : w.cell? ⟨D, 0, none⟩ = some (.slice va l vc)) (d9 : w.cell? ⟨D, 9, none⟩ = some (.bool false)) :
    Calls Try.prog 45 #[.pointer (some ⟨D, 0, none⟩), .int .i64 0, .int .i64 p] w fun e w' => e = .returned (.int .i64 1) ∧ w' = w := by
  by_cases hn : p < 0
  · clear hp
    go_enter Try.func45, Try.ntmps45
    go_wp2_with fail
    refine (ready_ok D 0 (.inl rfl) _ d9).mono ?_
    rintro e w1 ⟨rfl, hw⟩
    subst hw
    have hnd : decide (p < 0) = true := decide_eq_true hn
    go_wp2
    go_ret
    exact ⟨rfl, rfl⟩
  · have hn0 : 0 ≤ p := by omega
    have hl : (l : Int) < p := by omega
    clear hp
    go_enter Try.func45, Try.ntmps45
    go_wp2_with fail
    refine (ready_ok D 0 (.inl rfl) _ d9).mono ?_
    rintro e w1 ⟨rfl, hw⟩
    subst hw
    go_wp2_with fail
    refine (size0 D va l vc _ d0).mono ?_
    rintro e w1 ⟨rfl, hw⟩
    subst hw
    go_wp2
    go_ret
    exact ⟨rfl, rfl⟩

set_option maxHeartbeats 800000 in
theorem psync_gone1 (w : World) (D : Nat) (cs : Array Value) (T : TypeId) (hbox : w.heap[D]? = some (.cells cs T (0, 0))) (h7 : cs[7]? = some (.bool true)) (h8 : cs[8]? = some (.int .i64 0)) (h9 : cs[9]? = some (.bool false)) :
    Calls Try.prog 43 #[.pointer (some ⟨D, 0, none⟩), .int .i64 1] w fun e w' => e = .returned (.int .i64 16) ∧ w' = w.setCell ⟨D, 9, none⟩ (.bool true) := by
  have d9 := (cell_of_row w D 9 cs T _ hbox).trans h9
  have HH := Lib.hid (And.intro hbox (And.intro h7 (And.intro h8 h9)))
  clear hbox h7 h8 h9
  go_enter Try.func43, Try.ntmps43
  go_wp2_with fail
  refine (ready_ok D 1 (.inr rfl) _ d9).mono ?_
  rintro e w1 ⟨rfl, hw⟩
  subst hw
  clear d9
  go_wp2_with fail
  refine (change_gone D _ cs T HH.out.1 HH.out.2.1 HH.out.2.2.1 _ HH.out.2.2.2).mono ?_
  rintro e w2 ⟨rfl, hw⟩
  go_wp2
  go_ret
  exact ⟨rfl, rfl⟩
set_option maxHeartbeats 1600000 in
theorem ptrunc_gone1 (w : World) (D : Nat) (cs : Array Value) (T : TypeId) (va : Option Addr) (l vc n : Nat) (hn : n ≤ l) (hv : cs[3]? = some (.slice va l vc)) (hbox : w.heap[D]? = some (.cells cs T (0, 0))) (h7 : cs[7]? = some (.bool true)) (h8 : cs[8]? = some (.int .i64 0)) (h9 : cs[9]? = some (.bool false)) :
    Calls Try.prog 45 #[.pointer (some ⟨D, 0, none⟩), .int .i64 1, .int .i64 (n : Int)] w fun e w' => e = .returned (.int .i64 16) ∧ w' = w.setCell ⟨D, 9, none⟩ (.bool true) := by
  have d9 := (cell_of_row w D 9 cs T _ hbox).trans h9
  have d0 := (cell_of_row w D 3 cs T _ hbox).trans hv
  have HH := Lib.hid (And.intro hbox (And.intro h7 (And.intro h8 h9)))
  have hn0 : (0 : Int) ≤ (n : Int) := by omega
  have hn1 : (n : Int) ≤ (l : Int) := by omega
  clear hbox h7 h8 h9 hv hn
  go_enter Try.func45, Try.ntmps45
  go_wp2_with fail
  refine (ready_ok D 1 (.inr rfl) _ d9).mono ?_
  rintro e w1 ⟨rfl, hw⟩
  subst hw
  go_wp2_with fail
  refine (size1 D va l vc _ d0).mono ?_
  rintro e w1 ⟨rfl, hw⟩
  subst hw
  clear d9 d0
  go_wp2_with fail
  refine (change_gone D _ cs T HH.out.1 HH.out.2.1 HH.out.2.2.1 _ HH.out.2.2.2).mono ?_
  rintro e w2 ⟨rfl, hw⟩
  go_wp2
  go_ret
  exact ⟨rfl, rfl⟩
set_option maxHeartbeats 1600000 in
theorem ptrunc_out1 (w : World) (D : Nat) (va : Option Addr) (l vc : Nat) (p : Int) (hp : p < 0 ∨ (l : Int) < p) (d0 : w.cell? ⟨D, 3, none⟩ = some (.slice va l vc)) (d9 : w.cell? ⟨D, 9, none⟩ = some (.bool false)) :
    Calls Try.prog 45 #[.pointer (some ⟨D, 0, none⟩), .int .i64 1, .int .i64 p] w fun e w' => e = .returned (.int .i64 1) ∧ w' = w := by
  by_cases hn : p < 0
  · clear hp
    go_enter Try.func45, Try.ntmps45
    go_wp2_with fail
    refine (ready_ok D 1 (.inr rfl) _ d9).mono ?_
    rintro e w1 ⟨rfl, hw⟩
    subst hw
    have hnd : decide (p < 0) = true := decide_eq_true hn
    go_wp2
    go_ret
    exact ⟨rfl, rfl⟩
  · have hn0 : 0 ≤ p := by omega
    have hl : (l : Int) < p := by omega
    clear hp
    go_enter Try.func45, Try.ntmps45
    go_wp2_with fail
    refine (ready_ok D 1 (.inr rfl) _ d9).mono ?_
    rintro e w1 ⟨rfl, hw⟩
    subst hw
    go_wp2_with fail
    refine (size1 D va l vc _ d0).mono ?_
    rintro e w1 ⟨rfl, hw⟩
    subst hw
    go_wp2
    go_ret
    exact ⟨rfl, rfl⟩
end Go.Proofs.Ytafhgilikcablaa
