/- ScopeValues: the region that compares what is worth what on both sides. Written by gensvr.py. -/
import Derived.Test.YtafhgilikcablaaSvSq
import Derived.Test.YtafhgilikcablaaSvRg
import Derived.Test.YtafhgilikcablaaClThO
import Derived.Test.YtafhgilikcablaaClThT
import Derived.Test.YtafhgilikcablaaSvVa
namespace Go.Proofs.Ytafhgilikcablaa
open Go.RowKit
set_option linter.unusedVariables false
set_option linter.unusedSimpArgs false
set_option maxRecDepth 100000
noncomputable def SvC5 : Code := ((Try.f4.body.bind (regOfC 5)).getD .skip)
set_option maxHeartbeats 12800000 in
theorem sv_r5 (b : CT) (sa sb : Option Addr) (ka kb Ba Bb : Nat) (kd er : Int) (ta : Option Addr) (tn tc : Nat) (name : ByteArray) (fi : Int) (wr : World) (x1 x2 x3 x5 x6 x7 x8 x9 x10 x17 x18 x19 x20 x21 x22 x23 x24 x25 x26 x27 x28 x29 x30 x31 x32 x33 x34 x35 x36 x37 x38 x39 x40 x41 x42 x43 x44 x45 x46 x47 x48 x49 x50 x51 x52 x53 x54 x55 x56 x57 x58 x59 x60 x61 x62 x63 x64 x65 x66 x67 x68 x69 x70 x71 x72 x73 x74 x75 x76 x77 x78 x79 x80 x81 x82 x83 x84 x85 x86 x87 x88 x89 x90 x91 x92 x93 x94 x95 x96 x97 x98 x99 x100 x101 x102 x103 x104 x105 x106 x107 x108 : Value)
    (hKp : ∀ W : World, Below wr.heap.size wr W → (W.cell? ⟨Ba, 0, none⟩ = some (.int .i64 b.kind) ∧ W.cell? ⟨Ba, 1, none⟩ = some (.string b.op) ∧ W.cell? ⟨Ba, 2, none⟩ = some (.int .i64 b.vk) ∧ W.cell? ⟨Ba, 3, none⟩ = some (.int .i64 b.vn) ∧ W.cell? ⟨Ba, 4, none⟩ = some (.string b.vs) ∧ W.cell? ⟨Ba, 5, none⟩ = some (.int .i64 b.src) ∧ W.cell? ⟨Ba, 6, none⟩ = some (.int .i64 b.col) ∧ W.cell? ⟨Ba, 7, none⟩ = some (.slice sa b.parts.length ka) ∧ W.cell? ⟨Bb, 0, none⟩ = some (.int .i64 b.kind) ∧ W.cell? ⟨Bb, 1, none⟩ = some (.string b.op) ∧ W.cell? ⟨Bb, 2, none⟩ = some (.int .i64 b.vk) ∧ W.cell? ⟨Bb, 3, none⟩ = some (.int .i64 b.vn) ∧ W.cell? ⟨Bb, 4, none⟩ = some (.string b.vs) ∧ W.cell? ⟨Bb, 5, none⟩ = some (.int .i64 b.src) ∧ W.cell? ⟨Bb, 6, none⟩ = some (.int .i64 b.col) ∧ W.cell? ⟨Bb, 7, none⟩ = some (.slice sb b.parts.length kb)))
    (hO : ∀ W : World, Below wr.heap.size wr W → Calls Try.prog 21 #[.agg #[.int .i64 b.kind, .string b.op, .int .i64 b.vk, .int .i64 b.vn, .string b.vs, .int .i64 b.src, .int .i64 b.col, .slice sa b.parts.length ka]] W fun e' w' => (∃ r, e' = .returned r ∧ CV w' (fun _ => True) r b) ∧ Below W.heap.size W w')
    (hCb : ∀ W : World, Below wr.heap.size wr W → CV W (fun _ => True) (.agg #[.int .i64 b.kind, .string b.op, .int .i64 b.vk, .int .i64 b.vn, .string b.vs, .int .i64 b.src, .int .i64 b.col, .slice sb b.parts.length kb]) b)
    (hRs : ∀ (W : World) (r s : Value), CV W (fun _ => True) r b → CV W (fun _ => True) s b → Calls Try.prog 20 #[r, s] W fun e' w' => e' = .returned (.bool true) ∧ Below W.heap.size W w')
    (hPf : ∀ W : World, Below wr.heap.size wr W → Calls Try.prog 22 #[.slice ta tn tc, .string name] W fun e' w' => e' = .returned (.int .i64 fi) ∧ Below W.heap.size W w')
    (hRf : ∀ W : World, Below wr.heap.size wr W → Calls Try.prog 23 #[.slice ta tn tc, .string name] W fun e' w' => e' = .returned (.int .i64 fi) ∧ Below W.heap.size W w') :
    SvC5.wp Try.prog (fun e a' w' => e = .normal ∧ (∃ u60 u61 u62 u63 u64 u65 u66 u67 u68 u69 u70 u71 u72 u73 u74 u75 u76 u77 u78 u79 u80 u81 u82 : Value, a' = ⟨#[.slice ta tn tc, x1, x2, x3, .string name, x5, x6, x7, x8, x9, x10, .pointer (some ⟨Ba, 0, none⟩), .int .i64 kd, .int .i64 er, .pointer (some ⟨Bb, 0, none⟩), .int .i64 kd, .int .i64 er, x17, x18, x19, x20, x21, x22, x23, x24, x25, x26, x27, x28, x29, x30, x31, x32, x33, x34, x35, x36, x37, x38, x39, x40, x41, x42, x43, x44, x45, x46, x47, x48, x49, x50, x51, x52, x53, x54, x55, x56, x57, x58, x59, u60, u61, u62, u63, u64, u65, u66, u67, u68, u69, u70, u71, u72, u73, u74, u75, u76, u77, u78, u79, u80, u81, u82, .bool false, x84, x85, x86, x87, x88, x89, x90, x91, x92, x93, x94, x95, x96, x97, x98, x99, x100, x101, x102, x103, x104, x105, x106, x107, x108], []⟩) ∧ Below wr.heap.size wr w') ⟨#[.slice ta tn tc, x1, x2, x3, .string name, x5, x6, x7, x8, x9, x10, .pointer (some ⟨Ba, 0, none⟩), .int .i64 kd, .int .i64 er, .pointer (some ⟨Bb, 0, none⟩), .int .i64 kd, .int .i64 er, x17, x18, x19, x20, x21, x22, x23, x24, x25, x26, x27, x28, x29, x30, x31, x32, x33, x34, x35, x36, x37, x38, x39, x40, x41, x42, x43, x44, x45, x46, x47, x48, x49, x50, x51, x52, x53, x54, x55, x56, x57, x58, x59, x60, x61, x62, x63, x64, x65, x66, x67, x68, x69, x70, x71, x72, x73, x74, x75, x76, x77, x78, x79, x80, x81, x82, x83, x84, x85, x86, x87, x88, x89, x90, x91, x92, x93, x94, x95, x96, x97, x98, x99, x100, x101, x102, x103, x104, x105, x106, x107, x108], []⟩ wr := by
  have HKp := Lib.hid hKp
  have HO := Lib.hid hO
  have HCb0 := Lib.hid hCb
  have HRs := Lib.hid hRs
  have HPf := Lib.hid hPf
  have HRf := Lib.hid hRf
  clear hKp hO hCb hRs hPf hRf
  have HN := Lib.hid (show Below wr.heap.size wr wr.drew from (Below.refl _ _).drew)
  conv => arg 2; whnf
  dsimp only
  refine wp_region_noPanic ?_
  go_region_held3 (fun W => W.cell? ⟨Ba, 0, none⟩ = some (.int .i64 b.kind) ∧ W.cell? ⟨Ba, 1, none⟩ = some (.string b.op) ∧ W.cell? ⟨Ba, 2, none⟩ = some (.int .i64 b.vk) ∧ W.cell? ⟨Ba, 3, none⟩ = some (.int .i64 b.vn) ∧ W.cell? ⟨Ba, 4, none⟩ = some (.string b.vs) ∧ W.cell? ⟨Ba, 5, none⟩ = some (.int .i64 b.src) ∧ W.cell? ⟨Ba, 6, none⟩ = some (.int .i64 b.col) ∧ W.cell? ⟨Ba, 7, none⟩ = some (.slice sa b.parts.length ka) ∧ W.cell? ⟨Bb, 0, none⟩ = some (.int .i64 b.kind) ∧ W.cell? ⟨Bb, 1, none⟩ = some (.string b.op) ∧ W.cell? ⟨Bb, 2, none⟩ = some (.int .i64 b.vk) ∧ W.cell? ⟨Bb, 3, none⟩ = some (.int .i64 b.vn) ∧ W.cell? ⟨Bb, 4, none⟩ = some (.string b.vs) ∧ W.cell? ⟨Bb, 5, none⟩ = some (.int .i64 b.src) ∧ W.cell? ⟨Bb, 6, none⟩ = some (.int .i64 b.col) ∧ W.cell? ⟨Bb, 7, none⟩ = some (.slice sb b.parts.length kb))
    (first | exact HKp.out _ HN.out | exact HKp.out _ HN.out.drew)
    (first
      | (go_simp; go_at_call 21; refine (HO.out _ HN.out).mono ?_; rintro e' w4 ⟨⟨r4, rfl, hcv⟩, hb4⟩; (try (have HCb := Lib.hid (HCb.out.keep hb4))); (try (have HCc := Lib.hid (HCc.out.keep hb4))); have HN := Lib.hid (bt HN.out hb4); clear hb4; have HCb := Lib.hid hcv; clear hcv)
      | (go_simp; go_at_call 20; refine (HRs.out _ _ _ HCb.out (HCb0.out _ HN.out)).mono ?_; rintro e' w4 ⟨rfl, hb4⟩; (try (have HCb := Lib.hid (HCb.out.keep hb4))); (try (have HCc := Lib.hid (HCc.out.keep hb4))); have HN := Lib.hid (bt HN.out hb4); clear hb4)
      | (go_simp; go_at_call 22; refine (HPf.out _ HN.out).mono ?_; rintro e' w4 ⟨rfl, hb4⟩; (try (have HCb := Lib.hid (HCb.out.keep hb4))); (try (have HCc := Lib.hid (HCc.out.keep hb4))); have HN := Lib.hid (bt HN.out hb4); clear hb4)
      | (go_simp; go_at_call 23; refine (HRf.out _ HN.out).mono ?_; rintro e' w4 ⟨rfl, hb4⟩; (try (have HCb := Lib.hid (HCb.out.keep hb4))); (try (have HCc := Lib.hid (HCc.out.keep hb4))); have HN := Lib.hid (bt HN.out hb4); clear hb4))
  all_goals
    refine NoPanic.normal ?_
    exact ⟨rfl, ⟨_, _, _, _, _, _, _, _, _, _, _, _, _, _, _, _, _, _, _, _, _, _, _, rfl⟩, HN.out⟩
end Go.Proofs.Ytafhgilikcablaa
namespace Go.Proofs.Ytafhgilikcablaa
open Go.RowKit
set_option linter.unusedVariables false
set_option linter.unusedSimpArgs false
set_option maxRecDepth 100000
noncomputable def SvC8 : Code := ((Try.f4.body.bind (regOfC 8)).getD .skip)
set_option maxHeartbeats 12800000 in
theorem sv_r8 (b c : CT) (sb sc : Option Addr) (kb kc Bb Bc : Nat) (su : Bool) (wr : World) (x0 x1 x2 x3 x4 x5 x6 x7 x8 x9 x10 x11 x12 x13 x15 x16 x18 x19 x20 x21 x22 x23 x24 x25 x26 x27 x28 x29 x30 x31 x32 x33 x34 x35 x36 x37 x38 x39 x40 x41 x42 x43 x44 x45 x46 x47 x48 x49 x50 x51 x52 x53 x54 x55 x56 x57 x58 x59 x60 x61 x62 x63 x64 x65 x66 x67 x68 x69 x70 x71 x72 x73 x74 x75 x76 x77 x78 x79 x80 x81 x82 x83 x84 x85 x86 x87 x88 x89 x90 x91 x92 x93 x94 x95 x96 x97 x98 x99 x100 x101 x102 x103 x104 x105 x106 x107 x108 : Value)
    (hKp : ∀ W : World, Below wr.heap.size wr W → (W.cell? ⟨Bb, 0, none⟩ = some (.int .i64 b.kind) ∧ W.cell? ⟨Bb, 1, none⟩ = some (.string b.op) ∧ W.cell? ⟨Bb, 2, none⟩ = some (.int .i64 b.vk) ∧ W.cell? ⟨Bb, 3, none⟩ = some (.int .i64 b.vn) ∧ W.cell? ⟨Bb, 4, none⟩ = some (.string b.vs) ∧ W.cell? ⟨Bb, 5, none⟩ = some (.int .i64 b.src) ∧ W.cell? ⟨Bb, 6, none⟩ = some (.int .i64 b.col) ∧ W.cell? ⟨Bb, 7, none⟩ = some (.slice sb b.parts.length kb) ∧ W.cell? ⟨Bc, 0, none⟩ = some (.int .i64 c.kind) ∧ W.cell? ⟨Bc, 1, none⟩ = some (.string c.op) ∧ W.cell? ⟨Bc, 2, none⟩ = some (.int .i64 c.vk) ∧ W.cell? ⟨Bc, 3, none⟩ = some (.int .i64 c.vn) ∧ W.cell? ⟨Bc, 4, none⟩ = some (.string c.vs) ∧ W.cell? ⟨Bc, 5, none⟩ = some (.int .i64 c.src) ∧ W.cell? ⟨Bc, 6, none⟩ = some (.int .i64 c.col) ∧ W.cell? ⟨Bc, 7, none⟩ = some (.slice sc c.parts.length kc)))
    (hTb : ∀ W : World, Below wr.heap.size wr W → Calls Try.prog 25 #[.agg #[.int .i64 b.kind, .string b.op, .int .i64 b.vk, .int .i64 b.vn, .string b.vs, .int .i64 b.src, .int .i64 b.col, .slice sb b.parts.length kb]] W fun e' w' => (∃ r, e' = .returned r ∧ CV w' (fun _ => True) r b) ∧ Below W.heap.size W w')
    (hTc : ∀ W : World, Below wr.heap.size wr W → Calls Try.prog 25 #[.agg #[.int .i64 c.kind, .string c.op, .int .i64 c.vk, .int .i64 c.vn, .string c.vs, .int .i64 c.src, .int .i64 c.col, .slice sc c.parts.length kc]] W fun e' w' => (∃ r, e' = .returned r ∧ CV w' (fun _ => True) r c) ∧ Below W.heap.size W w')
    (hRs : ∀ W : World, Below wr.heap.size wr W → Calls Try.prog 20 #[.agg #[.int .i64 b.kind, .string b.op, .int .i64 b.vk, .int .i64 b.vn, .string b.vs, .int .i64 b.src, .int .i64 b.col, .slice sb b.parts.length kb], .agg #[.int .i64 c.kind, .string c.op, .int .i64 c.vk, .int .i64 c.vn, .string c.vs, .int .i64 c.src, .int .i64 c.col, .slice sc c.parts.length kc]] W fun e' w' => e' = .returned (.bool (sameT b c)) ∧ Below W.heap.size W w')
    (hRu : ∀ W : World, Below wr.heap.size wr W → Calls Try.prog 27 #[.agg #[.int .i64 b.kind, .string b.op, .int .i64 b.vk, .int .i64 b.vn, .string b.vs, .int .i64 b.src, .int .i64 b.col, .slice sb b.parts.length kb]] W fun e' w' => e' = .returned (.bool su) ∧ Below W.heap.size W w')
    (hPs : ∀ (W : World) (r s : Value), CV W (fun _ => True) r b → CV W (fun _ => True) s c → Calls Try.prog 24 #[r, s] W fun e' w' => e' = .returned (.bool (sameT b c)) ∧ Below W.heap.size W w')
    (hPu : ∀ (W : World) (r : Value), CV W (fun _ => True) r b → Calls Try.prog 26 #[r] W fun e' w' => e' = .returned (.bool su) ∧ Below W.heap.size W w') :
    SvC8.wp Try.prog (fun e a' w' => e = .normal ∧ (∃ u92 u93 u94 u95 u96 u97 u98 u99 u100 u101 u102 u103 u104 u105 u106 u107 u108 : Value, a' = ⟨#[x0, x1, x2, x3, x4, x5, x6, x7, x8, x9, .bool true, x11, x12, x13, .pointer (some ⟨Bb, 0, none⟩), x15, x16, .pointer (some ⟨Bc, 0, none⟩), x18, x19, x20, x21, x22, x23, x24, x25, x26, x27, x28, x29, x30, x31, x32, x33, x34, x35, x36, x37, x38, x39, x40, x41, x42, x43, x44, x45, x46, x47, x48, x49, x50, x51, x52, x53, x54, x55, x56, x57, x58, x59, x60, x61, x62, x63, x64, x65, x66, x67, x68, x69, x70, x71, x72, x73, x74, x75, x76, x77, x78, x79, x80, x81, x82, x83, x84, x85, x86, x87, x88, x89, x90, x91, u92, u93, u94, u95, u96, u97, u98, u99, u100, u101, u102, u103, u104, u105, u106, u107, u108], []⟩) ∧ Below wr.heap.size wr w') ⟨#[x0, x1, x2, x3, x4, x5, x6, x7, x8, x9, x10, x11, x12, x13, .pointer (some ⟨Bb, 0, none⟩), x15, x16, .pointer (some ⟨Bc, 0, none⟩), x18, x19, x20, x21, x22, x23, x24, x25, x26, x27, x28, x29, x30, x31, x32, x33, x34, x35, x36, x37, x38, x39, x40, x41, x42, x43, x44, x45, x46, x47, x48, x49, x50, x51, x52, x53, x54, x55, x56, x57, x58, x59, x60, x61, x62, x63, x64, x65, x66, x67, x68, x69, x70, x71, x72, x73, x74, x75, x76, x77, x78, x79, x80, x81, x82, x83, x84, x85, x86, x87, x88, x89, x90, x91, x92, x93, x94, x95, x96, x97, x98, x99, x100, x101, x102, x103, x104, x105, x106, x107, x108], []⟩ wr := by
  have HKp := Lib.hid hKp
  have HTb := Lib.hid hTb
  have HTc := Lib.hid hTc
  have HRs := Lib.hid hRs
  have HRu := Lib.hid hRu
  have HPs := Lib.hid hPs
  have HPu := Lib.hid hPu
  obtain ⟨sm, hsm⟩ : ∃ sm, sm = sameT b c := ⟨_, rfl⟩
  rw [← hsm] at HRs HPs
  clear hKp hTb hTc hRs hRu hPs hPu hsm
  have HN := Lib.hid (show Below wr.heap.size wr wr.drew from (Below.refl _ _).drew)
  conv => arg 2; whnf
  dsimp only
  refine wp_region_noPanic ?_
  go_region_held3 (fun W => W.cell? ⟨Bb, 0, none⟩ = some (.int .i64 b.kind) ∧ W.cell? ⟨Bb, 1, none⟩ = some (.string b.op) ∧ W.cell? ⟨Bb, 2, none⟩ = some (.int .i64 b.vk) ∧ W.cell? ⟨Bb, 3, none⟩ = some (.int .i64 b.vn) ∧ W.cell? ⟨Bb, 4, none⟩ = some (.string b.vs) ∧ W.cell? ⟨Bb, 5, none⟩ = some (.int .i64 b.src) ∧ W.cell? ⟨Bb, 6, none⟩ = some (.int .i64 b.col) ∧ W.cell? ⟨Bb, 7, none⟩ = some (.slice sb b.parts.length kb) ∧ W.cell? ⟨Bc, 0, none⟩ = some (.int .i64 c.kind) ∧ W.cell? ⟨Bc, 1, none⟩ = some (.string c.op) ∧ W.cell? ⟨Bc, 2, none⟩ = some (.int .i64 c.vk) ∧ W.cell? ⟨Bc, 3, none⟩ = some (.int .i64 c.vn) ∧ W.cell? ⟨Bc, 4, none⟩ = some (.string c.vs) ∧ W.cell? ⟨Bc, 5, none⟩ = some (.int .i64 c.src) ∧ W.cell? ⟨Bc, 6, none⟩ = some (.int .i64 c.col) ∧ W.cell? ⟨Bc, 7, none⟩ = some (.slice sc c.parts.length kc))
    (first | exact HKp.out _ HN.out | exact HKp.out _ HN.out.drew)
    (first
      | (go_simp; go_at_call 25; with_reducible refine (HTb.out _ HN.out).mono ?_; rintro e' w4 ⟨⟨r4, rfl, hcv⟩, hb4⟩; (try (have HCb := Lib.hid (HCb.out.keep hb4))); (try (have HCc := Lib.hid (HCc.out.keep hb4))); have HN := Lib.hid (bt HN.out hb4); clear hb4; have HCb := Lib.hid hcv; clear hcv)
      | (go_simp; go_at_call 25; with_reducible refine (HTc.out _ HN.out).mono ?_; rintro e' w4 ⟨⟨r4, rfl, hcv⟩, hb4⟩; (try (have HCb := Lib.hid (HCb.out.keep hb4))); (try (have HCc := Lib.hid (HCc.out.keep hb4))); have HN := Lib.hid (bt HN.out hb4); clear hb4; have HCc := Lib.hid hcv; clear hcv)
      | (go_simp; go_at_call 20; refine (HRs.out _ HN.out).mono ?_; rintro e' w4 ⟨rfl, hb4⟩; (try (have HCb := Lib.hid (HCb.out.keep hb4))); (try (have HCc := Lib.hid (HCc.out.keep hb4))); have HN := Lib.hid (bt HN.out hb4); clear hb4)
      | (go_simp; go_at_call 24; refine (HPs.out _ _ _ HCb.out HCc.out).mono ?_; rintro e' w4 ⟨rfl, hb4⟩; (try (have HCb := Lib.hid (HCb.out.keep hb4))); (try (have HCc := Lib.hid (HCc.out.keep hb4))); have HN := Lib.hid (bt HN.out hb4); clear hb4)
      | (go_simp; go_at_call 27; refine (HRu.out _ HN.out).mono ?_; rintro e' w4 ⟨rfl, hb4⟩; (try (have HCb := Lib.hid (HCb.out.keep hb4))); (try (have HCc := Lib.hid (HCc.out.keep hb4))); have HN := Lib.hid (bt HN.out hb4); clear hb4)
      | (go_simp; go_at_call 26; refine (HPu.out _ _ HCb.out).mono ?_; rintro e' w4 ⟨rfl, hb4⟩; (try (have HCb := Lib.hid (HCb.out.keep hb4))); (try (have HCc := Lib.hid (HCc.out.keep hb4))); have HN := Lib.hid (bt HN.out hb4); clear hb4))
  all_goals
    refine NoPanic.normal ?_
    exact ⟨rfl, ⟨_, _, _, _, _, _, _, _, _, _, _, _, _, _, _, _, _, rfl⟩, HN.out⟩
end Go.Proofs.Ytafhgilikcablaa
