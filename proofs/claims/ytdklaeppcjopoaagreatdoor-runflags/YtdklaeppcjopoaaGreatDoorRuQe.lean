/- The program's machine: what single instructions do: pc4, pc4n, pc5, pc5n, pc6, pc6m, pc6n. -/
import Derived.Test.YtdklaeppcjopoaaGreatDoorG7
namespace Go.Proofs.YtdklaeppcjopoaaGreatDoor
open Go.RowKit
set_option linter.unusedVariables false

set_option maxRecDepth 100000 in
set_option maxHeartbeats 4000000 in
theorem pc4 {w : World} {h : Pd} {s s1 : Ru.St} (x : IsC w h s) (a b c : Nat) (a16 : a < 16) (b16 : b < 16) (c16 : c < 16) (k sub sc lb : Int) (imm : Int)
    (HF : Hid (∀ W, IsC W h s → Calls Tryz.prog 140 #[.pointer (some ⟨h.B, 0, none⟩), .func (.func 43) #[] #[]] W fun r w' => r = .returned (.agg #[.int .i64 4, .int .i64 a, .int .i64 b, .int .i64 c, .int .i64 k, .int .i64 sub, .int .i64 sc, .int .i64 imm, .int .i64 lb]) ∧ IsC w' h s1 ∧ Mc h W w')) (s2 : Ru.St) (HB : Hid (∀ W, IsC W h s1 → Calls Tryz.prog 160 #[.pointer (some ⟨h.B, 0, none⟩), .agg #[.int .i64 4, .int .i64 a, .int .i64 b, .int .i64 c, .int .i64 k, .int .i64 sub, .int .i64 sc, .int .i64 imm, .int .i64 lb]] W fun r w' => r = .returned (.tuple #[]) ∧ IsC w' h s2 ∧ Mc h W w')) :
    Calls Tryz.prog 159 #[.pointer (some ⟨h.B, 0, none⟩)] w fun r w' => r = .returned (.agg #[.int .i64 4, .int .i64 a, .int .i64 b, .int .i64 c, .int .i64 k, .int .i64 sub, .int .i64 sc, .int .i64 imm, .int .i64 lb]) ∧ IsC w' h (s2) ∧ Mc h w w' := by
  have G := World.grownBy_alloc w (Obj.cells #[.int .i64 0, .int .i64 0, .int .i64 0, .int .i64 0, .int .i64 0, .int .i64 0, .int .i64 0, .int .i64 0, .int .i64 0] 34) none
  have HX0 : Hid (IsC (w.alloc (Obj.cells #[.int .i64 0, .int .i64 0, .int .i64 0, .int .i64 0, .int .i64 0, .int .i64 0, .int .i64 0, .int .i64 0, .int .i64 0] 34)) h s) := x.kept G
  have HI0 : Hid (InstAt (w.alloc (Obj.cells #[.int .i64 0, .int .i64 0, .int .i64 0, .int .i64 0, .int .i64 0, .int .i64 0, .int .i64 0, .int .i64 0, .int .i64 0] 34)) w.heap.size Cc.zero) := InstAt.new w Cc.zero
  have HX : Hid (IsC w h s) := x
  have HV0 : Hid (Mc h w (w.alloc (Obj.cells #[.int .i64 0, .int .i64 0, .int .i64 0, .int .i64 0, .int .i64 0, .int .i64 0, .int .i64 0, .int .i64 0, .int .i64 0] 34))) := Mc.refl.grown G
  have a16' : (a : Int) < 16 := by omega
  have b16' : (b : Int) < 16 := by omega
  have c16' : (c : Int) < 16 := by omega
  have eW : IntKind.u64.wrap imm = Ru.wr imm := by rw [IntKind.wrap_u64]; rfl
  clear x G
  go_enter Tryz.func159, Tryz.ntmps159
  go_wp2_with fail
  refine (HF.out _ HX0.out).mono ?_
  rintro r w1 ⟨rfl, x1, v1⟩
  have i1 : InstAt w1 w.heap.size Cc.zero := v1.inst HI0.out HX.out (Nat.le_refl _)
  have G1 := World.grownBy_alloc w1 (Obj.cells #[.int .i64 4, .int .i64 a, .int .i64 b, .int .i64 c, .int .i64 k, .int .i64 sub, .int .i64 sc, .int .i64 imm, .int .i64 lb] 34) none
  have HX1 : Hid (IsC (w1.alloc (Obj.cells #[.int .i64 4, .int .i64 a, .int .i64 b, .int .i64 c, .int .i64 k, .int .i64 sub, .int .i64 sc, .int .i64 imm, .int .i64 lb] 34)) h s1) := x1.kept G1
  have HI1 : Hid (InstAt (w1.alloc (Obj.cells #[.int .i64 4, .int .i64 a, .int .i64 b, .int .i64 c, .int .i64 k, .int .i64 sub, .int .i64 sc, .int .i64 imm, .int .i64 lb] 34)) w.heap.size Cc.zero) := i1.kept G1 (by simp)
  have HJ1 : Hid (InstAt (w1.alloc (Obj.cells #[.int .i64 4, .int .i64 a, .int .i64 b, .int .i64 c, .int .i64 k, .int .i64 sub, .int .i64 sc, .int .i64 imm, .int .i64 lb] 34)) w1.heap.size ⟨4, a, b, c, k, sub, sc, imm, lb⟩) := InstAt.new w1 ⟨4, a, b, c, k, sub, sc, imm, lb⟩
  have HV1 : Hid (Mc h w (w1.alloc (Obj.cells #[.int .i64 4, .int .i64 a, .int .i64 b, .int .i64 c, .int .i64 k, .int .i64 sub, .int .i64 sc, .int .i64 imm, .int .i64 lb] 34))) := (HV0.out.trans v1).grown G1
  have HA : Hid (∀ i, Ru.W64 (s1.r i)) := x1.ok.r
  have HW : Hid (Ru.W64 (Ru.wr imm)) := Ru.wr_w imm
  have hlt := i1.lt
  have HK0 : Hid (w.heap.size ≠ h.B) := fun e => by have := HX.out.hd.lt; omega
  have HK : Hid (w1.heap.size ≠ h.B) := fun e => by have := HX.out.hd.lt; omega
  have HKK : Hid (w.heap.size ≠ w1.heap.size) := fun e => by omega
  have hN : Hid (w.heap.size ≤ w1.heap.size) := by show w.heap.size ≤ w1.heap.size; omega
  clear HF HX0 HI0 HV0 G1 x1 v1 i1 hlt
  go_wp2_with fail
  obtain ⟨N1, hN1⟩ : ∃ N, N = w1.heap.size := ⟨_, rfl⟩
  rw [← hN1] at HJ1 HK HKK hN
  rw [← hN1]
  generalize w1.alloc (Obj.cells #[.int .i64 4, .int .i64 a, .int .i64 b, .int .i64 c, .int .i64 k, .int .i64 sub, .int .i64 sc, .int .i64 imm, .int .i64 lb] 34) = W at *
  clear hN1
  go_wp2_with fail
  refine (HB.out _ HX1.out).mono ?_
  rintro r w6 ⟨rfl, x6, v6⟩
  have HX6 : Hid (IsC w6 h _) := x6
  have HV6 : Hid (Mc h w w6) := HV1.out.trans v6
  have HJ6 : Hid (InstAt w6 N1 ⟨4, a, b, c, k, sub, sc, imm, lb⟩) := v6.inst HJ1.out HX.out hN.out
  have HI6 : Hid (InstAt w6 w.heap.size Cc.zero) := v6.inst HI1.out HX.out (Nat.le_refl _)
  clear x6 v6 HX1 HV1 HJ1 HI1
  obtain ⟨e0, e1, e2, e3, e4, e5, e6, e7, e8, ez⟩ := HJ6.out
  clear ez
  obtain ⟨f0, f1, f2, f3, f4, f5, f6, f7, f8, fz⟩ := HI6.out
  have z0 := fz 0
  have z1 := fz 1
  have z2 := fz 2
  have z3 := fz 3
  have z4 := fz 4
  have z5 := fz 5
  have z6 := fz 6
  have z7 := fz 7
  have z8 := fz 8
  clear fz
  go_wp2_with fail
  have P9 := HI6.out.put9 ⟨4, a, b, c, k, sub, sc, imm, lb⟩
  have G9 := grown_put9 w6 w.heap.size ⟨4, a, b, c, k, sub, sc, imm, lb⟩
  change bodyPost _ _ _ _ _ (put9 w6 w.heap.size ⟨4, a, b, c, k, sub, sc, imm, lb⟩)
  have HX9 := HX6.out.far HX.out G9 (Nat.le_refl _)
  have HV9 := HV6.out.far G9 (Nat.le_refl _)
  generalize put9 w6 w.heap.size ⟨4, a, b, c, k, sub, sc, imm, lb⟩ = W9 at *
  obtain ⟨q0, q1, q2, q3, q4, q5, q6, q7, q8, qz⟩ := P9
  refine bodyPost_ret (by simp [results, Tryz.results159, go_sem, q0, q1, q2, q3, q4, q5, q6, q7, q8]; try rfl) rfl ?_
  exact ⟨rfl, HX9, HV9⟩
set_option maxRecDepth 100000 in
set_option maxHeartbeats 4000000 in
theorem pc4n {w : World} {h : Pd} {s s1 : Ru.St} (x : IsC w h s) (a b c : Nat) (a16 : a < 16) (b16 : b < 16) (c16 : c < 16) (k sub sc lb : Int) (imm : Int)
    (HF : Hid (∀ W, IsC W h s → Calls Tryz.prog 140 #[.pointer (some ⟨h.B, 0, none⟩), .func (.func 43) #[] #[]] W fun r w' => r = .returned (.agg #[.int .i64 4, .int .i64 a, .int .i64 b, .int .i64 c, .int .i64 k, .int .i64 sub, .int .i64 sc, .int .i64 imm, .int .i64 lb]) ∧ IsC w' h s1 ∧ Mc h W w')) (HB : Hid (∀ W, IsC W h s1 → Calls Tryz.prog 160 #[.pointer (some ⟨h.B, 0, none⟩), .agg #[.int .i64 4, .int .i64 a, .int .i64 b, .int .i64 c, .int .i64 k, .int .i64 sub, .int .i64 sc, .int .i64 imm, .int .i64 lb]] W fun r w' => r = .panicked stk ∧ (∃ s', IsC w' h s') ∧ Mc h W w')) :
    Calls Tryz.prog 159 #[.pointer (some ⟨h.B, 0, none⟩)] w fun r w' => r = .panicked stk ∧ (∃ s', IsC w' h s') ∧ Mc h w w' := by
  have G := World.grownBy_alloc w (Obj.cells #[.int .i64 0, .int .i64 0, .int .i64 0, .int .i64 0, .int .i64 0, .int .i64 0, .int .i64 0, .int .i64 0, .int .i64 0] 34) none
  have HX0 : Hid (IsC (w.alloc (Obj.cells #[.int .i64 0, .int .i64 0, .int .i64 0, .int .i64 0, .int .i64 0, .int .i64 0, .int .i64 0, .int .i64 0, .int .i64 0] 34)) h s) := x.kept G
  have HI0 : Hid (InstAt (w.alloc (Obj.cells #[.int .i64 0, .int .i64 0, .int .i64 0, .int .i64 0, .int .i64 0, .int .i64 0, .int .i64 0, .int .i64 0, .int .i64 0] 34)) w.heap.size Cc.zero) := InstAt.new w Cc.zero
  have HX : Hid (IsC w h s) := x
  have HV0 : Hid (Mc h w (w.alloc (Obj.cells #[.int .i64 0, .int .i64 0, .int .i64 0, .int .i64 0, .int .i64 0, .int .i64 0, .int .i64 0, .int .i64 0, .int .i64 0] 34))) := Mc.refl.grown G
  have a16' : (a : Int) < 16 := by omega
  have b16' : (b : Int) < 16 := by omega
  have c16' : (c : Int) < 16 := by omega
  have eW : IntKind.u64.wrap imm = Ru.wr imm := by rw [IntKind.wrap_u64]; rfl
  clear x G
  go_enter Tryz.func159, Tryz.ntmps159
  go_wp2_with fail
  refine (HF.out _ HX0.out).mono ?_
  rintro r w1 ⟨rfl, x1, v1⟩
  have i1 : InstAt w1 w.heap.size Cc.zero := v1.inst HI0.out HX.out (Nat.le_refl _)
  have G1 := World.grownBy_alloc w1 (Obj.cells #[.int .i64 4, .int .i64 a, .int .i64 b, .int .i64 c, .int .i64 k, .int .i64 sub, .int .i64 sc, .int .i64 imm, .int .i64 lb] 34) none
  have HX1 : Hid (IsC (w1.alloc (Obj.cells #[.int .i64 4, .int .i64 a, .int .i64 b, .int .i64 c, .int .i64 k, .int .i64 sub, .int .i64 sc, .int .i64 imm, .int .i64 lb] 34)) h s1) := x1.kept G1
  have HI1 : Hid (InstAt (w1.alloc (Obj.cells #[.int .i64 4, .int .i64 a, .int .i64 b, .int .i64 c, .int .i64 k, .int .i64 sub, .int .i64 sc, .int .i64 imm, .int .i64 lb] 34)) w.heap.size Cc.zero) := i1.kept G1 (by simp)
  have HJ1 : Hid (InstAt (w1.alloc (Obj.cells #[.int .i64 4, .int .i64 a, .int .i64 b, .int .i64 c, .int .i64 k, .int .i64 sub, .int .i64 sc, .int .i64 imm, .int .i64 lb] 34)) w1.heap.size ⟨4, a, b, c, k, sub, sc, imm, lb⟩) := InstAt.new w1 ⟨4, a, b, c, k, sub, sc, imm, lb⟩
  have HV1 : Hid (Mc h w (w1.alloc (Obj.cells #[.int .i64 4, .int .i64 a, .int .i64 b, .int .i64 c, .int .i64 k, .int .i64 sub, .int .i64 sc, .int .i64 imm, .int .i64 lb] 34))) := (HV0.out.trans v1).grown G1
  have HA : Hid (∀ i, Ru.W64 (s1.r i)) := x1.ok.r
  have HW : Hid (Ru.W64 (Ru.wr imm)) := Ru.wr_w imm
  have hlt := i1.lt
  have HK0 : Hid (w.heap.size ≠ h.B) := fun e => by have := HX.out.hd.lt; omega
  have HK : Hid (w1.heap.size ≠ h.B) := fun e => by have := HX.out.hd.lt; omega
  have HKK : Hid (w.heap.size ≠ w1.heap.size) := fun e => by omega
  have hN : Hid (w.heap.size ≤ w1.heap.size) := by show w.heap.size ≤ w1.heap.size; omega
  clear HF HX0 HI0 HV0 G1 x1 v1 i1 hlt
  go_wp2_with fail
  obtain ⟨N1, hN1⟩ : ∃ N, N = w1.heap.size := ⟨_, rfl⟩
  rw [← hN1] at HJ1 HK HKK hN
  rw [← hN1]
  generalize w1.alloc (Obj.cells #[.int .i64 4, .int .i64 a, .int .i64 b, .int .i64 c, .int .i64 k, .int .i64 sub, .int .i64 sc, .int .i64 imm, .int .i64 lb] 34) = W at *
  clear hN1
  go_wp2_with fail
  refine (HB.out _ HX1.out).mono ?_
  rintro r w6 ⟨rfl, x6, v6⟩
  exact ⟨rfl, rfl, x6, HV1.out.trans v6⟩
set_option maxRecDepth 100000 in
set_option maxHeartbeats 4000000 in
theorem pc5 {w : World} {h : Pd} {s s1 : Ru.St} (x : IsC w h s) (a b c : Nat) (a16 : a < 16) (b16 : b < 16) (c16 : c < 16) (k sub sc lb : Int) (imm : Int)
    (HF : Hid (∀ W, IsC W h s → Calls Tryz.prog 140 #[.pointer (some ⟨h.B, 0, none⟩), .func (.func 43) #[] #[]] W fun r w' => r = .returned (.agg #[.int .i64 5, .int .i64 a, .int .i64 b, .int .i64 c, .int .i64 k, .int .i64 sub, .int .i64 sc, .int .i64 imm, .int .i64 lb]) ∧ IsC w' h s1 ∧ Mc h W w')) (hX : Ru.W64 (s1.r a)) (hY : Ru.W64 (Ru.wr imm)) (v : Int) (hF : Fl.binA sub k (Wd.canon k (s1.r a)) (Wd.canon (Ru.ky sub k) (Ru.wr imm)) = (v, 0)) :
    Calls Tryz.prog 159 #[.pointer (some ⟨h.B, 0, none⟩)] w fun r w' => r = .returned (.agg #[.int .i64 5, .int .i64 a, .int .i64 b, .int .i64 c, .int .i64 k, .int .i64 sub, .int .i64 sc, .int .i64 imm, .int .i64 lb]) ∧ IsC w' h (s1.put a v) ∧ Mc h w w' := by
  have G := World.grownBy_alloc w (Obj.cells #[.int .i64 0, .int .i64 0, .int .i64 0, .int .i64 0, .int .i64 0, .int .i64 0, .int .i64 0, .int .i64 0, .int .i64 0] 34) none
  have HX0 : Hid (IsC (w.alloc (Obj.cells #[.int .i64 0, .int .i64 0, .int .i64 0, .int .i64 0, .int .i64 0, .int .i64 0, .int .i64 0, .int .i64 0, .int .i64 0] 34)) h s) := x.kept G
  have HI0 : Hid (InstAt (w.alloc (Obj.cells #[.int .i64 0, .int .i64 0, .int .i64 0, .int .i64 0, .int .i64 0, .int .i64 0, .int .i64 0, .int .i64 0, .int .i64 0] 34)) w.heap.size Cc.zero) := InstAt.new w Cc.zero
  have HX : Hid (IsC w h s) := x
  have HV0 : Hid (Mc h w (w.alloc (Obj.cells #[.int .i64 0, .int .i64 0, .int .i64 0, .int .i64 0, .int .i64 0, .int .i64 0, .int .i64 0, .int .i64 0, .int .i64 0] 34))) := Mc.refl.grown G
  have a16' : (a : Int) < 16 := by omega
  have b16' : (b : Int) < 16 := by omega
  have c16' : (c : Int) < 16 := by omega
  have eW : IntKind.u64.wrap imm = Ru.wr imm := by rw [IntKind.wrap_u64]; rfl
  have HVw : Hid (Ru.W64 v) := by have := Ru.bin_w sub k (Wd.canon k (s1.r a)) (Wd.canon (Ru.ky sub k) (Ru.wr imm)); rw [hF] at this; exact this
  have HC : Hid (∀ W, Calls Tryz.prog 142 #[.int .i64 sub, .int .i64 k, .int .u64 (s1.r a), .int .u64 (Ru.wr imm)] W fun r w' => r = .returned (.int .u64 v) ∧ W.grownBy w' none) := fun W => pbin_ok _ _ _ _ _ hX hY W hF
  clear hF hX hY
  clear x G
  go_enter Tryz.func159, Tryz.ntmps159
  go_wp2_with fail
  refine (HF.out _ HX0.out).mono ?_
  rintro r w1 ⟨rfl, x1, v1⟩
  have i1 : InstAt w1 w.heap.size Cc.zero := v1.inst HI0.out HX.out (Nat.le_refl _)
  have G1 := World.grownBy_alloc w1 (Obj.cells #[.int .i64 5, .int .i64 a, .int .i64 b, .int .i64 c, .int .i64 k, .int .i64 sub, .int .i64 sc, .int .i64 imm, .int .i64 lb] 34) none
  have HX1 : Hid (IsC (w1.alloc (Obj.cells #[.int .i64 5, .int .i64 a, .int .i64 b, .int .i64 c, .int .i64 k, .int .i64 sub, .int .i64 sc, .int .i64 imm, .int .i64 lb] 34)) h s1) := x1.kept G1
  have HI1 : Hid (InstAt (w1.alloc (Obj.cells #[.int .i64 5, .int .i64 a, .int .i64 b, .int .i64 c, .int .i64 k, .int .i64 sub, .int .i64 sc, .int .i64 imm, .int .i64 lb] 34)) w.heap.size Cc.zero) := i1.kept G1 (by simp)
  have HJ1 : Hid (InstAt (w1.alloc (Obj.cells #[.int .i64 5, .int .i64 a, .int .i64 b, .int .i64 c, .int .i64 k, .int .i64 sub, .int .i64 sc, .int .i64 imm, .int .i64 lb] 34)) w1.heap.size ⟨5, a, b, c, k, sub, sc, imm, lb⟩) := InstAt.new w1 ⟨5, a, b, c, k, sub, sc, imm, lb⟩
  have HV1 : Hid (Mc h w (w1.alloc (Obj.cells #[.int .i64 5, .int .i64 a, .int .i64 b, .int .i64 c, .int .i64 k, .int .i64 sub, .int .i64 sc, .int .i64 imm, .int .i64 lb] 34))) := (HV0.out.trans v1).grown G1
  have HA : Hid (∀ i, Ru.W64 (s1.r i)) := x1.ok.r
  have HW : Hid (Ru.W64 (Ru.wr imm)) := Ru.wr_w imm
  have hlt := i1.lt
  have HK0 : Hid (w.heap.size ≠ h.B) := fun e => by have := HX.out.hd.lt; omega
  have HK : Hid (w1.heap.size ≠ h.B) := fun e => by have := HX.out.hd.lt; omega
  have HKK : Hid (w.heap.size ≠ w1.heap.size) := fun e => by omega
  have hN : Hid (w.heap.size ≤ w1.heap.size) := by show w.heap.size ≤ w1.heap.size; omega
  clear HF HX0 HI0 HV0 G1 x1 v1 i1 hlt
  go_wp2_with fail
  obtain ⟨N1, hN1⟩ : ∃ N, N = w1.heap.size := ⟨_, rfl⟩
  rw [← hN1] at HJ1 HK HKK hN
  rw [← hN1]
  generalize w1.alloc (Obj.cells #[.int .i64 5, .int .i64 a, .int .i64 b, .int .i64 c, .int .i64 k, .int .i64 sub, .int .i64 sc, .int .i64 imm, .int .i64 lb] 34) = W at *
  clear hN1
  refine tail_class (fun w' => ∃ y : Gw W, w' = y.w) 19 (by kernel_rfl) (by kernel_rfl) ⟨⟨W.drew, grown_drew (World.grownBy.refl _ _)⟩, rfl⟩ ?_
  have d0 := fun y : Gw W => (HJ1.out.kept y.h (by simp)).c0
  have d1 := fun y : Gw W => (HJ1.out.kept y.h (by simp)).c1
  have d2 := fun y : Gw W => (HJ1.out.kept y.h (by simp)).c2
  have d3 := fun y : Gw W => (HJ1.out.kept y.h (by simp)).c3
  have d4 := fun y : Gw W => (HJ1.out.kept y.h (by simp)).c4
  have d5 := fun y : Gw W => (HJ1.out.kept y.h (by simp)).c5
  have d6 := fun y : Gw W => (HJ1.out.kept y.h (by simp)).c6
  have d7 := fun y : Gw W => (HJ1.out.kept y.h (by simp)).c7
  have d8 := fun y : Gw W => (HJ1.out.kept y.h (by simp)).c8
  have ra := fun y : Gw W => (HX1.out.kept y.h).rc a16
  have rb := fun y : Gw W => (HX1.out.kept y.h).rc b16
  have rc := fun y : Gw W => (HX1.out.kept y.h).rc c16
  simp only [List.take_succ_cons, List.take_zero, List.drop_succ_cons, List.drop_zero]
  repeat (go_big_quiet_step (first | exact rfl | (go_at_call 142; exact Gw.call (HC.out _))))
  refine wpQuiet_nil ?_
  rintro W5 ⟨y5, hy5⟩
  have g : W.grownBy W5 none := by rw [hy5]; exact y5.h
  clear hy5 y5 d0 d1 d2 d3 d4 d5 d6 d7 d8 ra rb rc
  have HX5 : Hid (IsC W5 h s1) := HX1.out.kept g
  have HV5 : Hid (Mc h w W5) := HV1.out.grown g
  have HJ5 : Hid (InstAt W5 N1 ⟨5, a, b, c, k, sub, sc, imm, lb⟩) := HJ1.out.kept g (by simp)
  have HI5 : Hid (InstAt W5 w.heap.size Cc.zero) := HI1.out.kept g (by simp)
  clear g HX1 HV1 HJ1 HI1
  have ra := HX5.out.rc a16
  have rb := HX5.out.rc b16
  have rc := HX5.out.rc c16
  have rf := HX5.out.fz (2 + a)
  have HX6 : Hid (IsC (W5.setCell ⟨h.B, 2 + a, none⟩ (.int .u64 (v))) h (s1.put a (v))) := by exact HX5.out.put (a := a) a16 HVw.out
  have HV6 : Hid (Mc h w (W5.setCell ⟨h.B, 2 + a, none⟩ (.int .u64 (v)))) := HV5.out.setB _ _
  have HJ6 : Hid (InstAt (W5.setCell ⟨h.B, 2 + a, none⟩ (.int .u64 (v))) N1 ⟨5, a, b, c, k, sub, sc, imm, lb⟩) := HJ5.out.setB HK.out _
  have HI6 : Hid (InstAt (W5.setCell ⟨h.B, 2 + a, none⟩ (.int .u64 (v))) w.heap.size Cc.zero) := HI5.out.setB HK0.out _
  clear HX5 HV5 HJ5 HI5
  obtain ⟨e0, e1, e2, e3, e4, e5, e6, e7, e8, ez⟩ := HJ6.out
  clear ez
  obtain ⟨f0, f1, f2, f3, f4, f5, f6, f7, f8, fz⟩ := HI6.out
  have z0 := fz 0
  have z1 := fz 1
  have z2 := fz 2
  have z3 := fz 3
  have z4 := fz 4
  have z5 := fz 5
  have z6 := fz 6
  have z7 := fz 7
  have z8 := fz 8
  clear fz
  go_wp2_with fail
  have P9 := HI6.out.put9 ⟨5, a, b, c, k, sub, sc, imm, lb⟩
  have G9 := grown_put9 (W5.setCell ⟨h.B, 2 + a, none⟩ (.int .u64 (v))) w.heap.size ⟨5, a, b, c, k, sub, sc, imm, lb⟩
  change bodyPost _ _ _ _ _ (put9 (W5.setCell ⟨h.B, 2 + a, none⟩ (.int .u64 (v))) w.heap.size ⟨5, a, b, c, k, sub, sc, imm, lb⟩)
  have HX9 := HX6.out.far HX.out G9 (Nat.le_refl _)
  have HV9 := HV6.out.far G9 (Nat.le_refl _)
  generalize put9 (W5.setCell ⟨h.B, 2 + a, none⟩ (.int .u64 (v))) w.heap.size ⟨5, a, b, c, k, sub, sc, imm, lb⟩ = W9 at *
  obtain ⟨q0, q1, q2, q3, q4, q5, q6, q7, q8, qz⟩ := P9
  refine bodyPost_ret (by simp [results, Tryz.results159, go_sem, q0, q1, q2, q3, q4, q5, q6, q7, q8]; try rfl) rfl ?_
  exact ⟨rfl, HX9, HV9⟩
set_option maxRecDepth 100000 in
set_option maxHeartbeats 4000000 in
theorem pc5n {w : World} {h : Pd} {s s1 : Ru.St} (x : IsC w h s) (a b c : Nat) (a16 : a < 16) (b16 : b < 16) (c16 : c < 16) (k sub sc lb : Int) (imm : Int)
    (HF : Hid (∀ W, IsC W h s → Calls Tryz.prog 140 #[.pointer (some ⟨h.B, 0, none⟩), .func (.func 43) #[] #[]] W fun r w' => r = .returned (.agg #[.int .i64 5, .int .i64 a, .int .i64 b, .int .i64 c, .int .i64 k, .int .i64 sub, .int .i64 sc, .int .i64 imm, .int .i64 lb]) ∧ IsC w' h s1 ∧ Mc h W w')) (hX : Ru.W64 (s1.r a)) (hY : Ru.W64 (Ru.wr imm)) (v e : Int) (hF : Fl.binA sub k (Wd.canon k (s1.r a)) (Wd.canon (Ru.ky sub k) (Ru.wr imm)) = (v, e)) (he : (e != 0) = true) :
    Calls Tryz.prog 159 #[.pointer (some ⟨h.B, 0, none⟩)] w fun r w' => r = .panicked stk ∧ (∃ s', IsC w' h s') ∧ Mc h w w' := by
  have G := World.grownBy_alloc w (Obj.cells #[.int .i64 0, .int .i64 0, .int .i64 0, .int .i64 0, .int .i64 0, .int .i64 0, .int .i64 0, .int .i64 0, .int .i64 0] 34) none
  have HX0 : Hid (IsC (w.alloc (Obj.cells #[.int .i64 0, .int .i64 0, .int .i64 0, .int .i64 0, .int .i64 0, .int .i64 0, .int .i64 0, .int .i64 0, .int .i64 0] 34)) h s) := x.kept G
  have HI0 : Hid (InstAt (w.alloc (Obj.cells #[.int .i64 0, .int .i64 0, .int .i64 0, .int .i64 0, .int .i64 0, .int .i64 0, .int .i64 0, .int .i64 0, .int .i64 0] 34)) w.heap.size Cc.zero) := InstAt.new w Cc.zero
  have HX : Hid (IsC w h s) := x
  have HV0 : Hid (Mc h w (w.alloc (Obj.cells #[.int .i64 0, .int .i64 0, .int .i64 0, .int .i64 0, .int .i64 0, .int .i64 0, .int .i64 0, .int .i64 0, .int .i64 0] 34))) := Mc.refl.grown G
  have a16' : (a : Int) < 16 := by omega
  have b16' : (b : Int) < 16 := by omega
  have c16' : (c : Int) < 16 := by omega
  have eW : IntKind.u64.wrap imm = Ru.wr imm := by rw [IntKind.wrap_u64]; rfl
  have HC : Hid (∀ W, Calls Tryz.prog 142 #[.int .i64 sub, .int .i64 k, .int .u64 (s1.r a), .int .u64 (Ru.wr imm)] W fun r w' => r = .panicked stk ∧ W.grownBy w' none) := fun W => pbin_no _ _ _ _ _ _ hX hY W hF he
  clear hF hX hY
  clear x G
  go_enter Tryz.func159, Tryz.ntmps159
  go_wp2_with fail
  refine (HF.out _ HX0.out).mono ?_
  rintro r w1 ⟨rfl, x1, v1⟩
  have i1 : InstAt w1 w.heap.size Cc.zero := v1.inst HI0.out HX.out (Nat.le_refl _)
  have G1 := World.grownBy_alloc w1 (Obj.cells #[.int .i64 5, .int .i64 a, .int .i64 b, .int .i64 c, .int .i64 k, .int .i64 sub, .int .i64 sc, .int .i64 imm, .int .i64 lb] 34) none
  have HX1 : Hid (IsC (w1.alloc (Obj.cells #[.int .i64 5, .int .i64 a, .int .i64 b, .int .i64 c, .int .i64 k, .int .i64 sub, .int .i64 sc, .int .i64 imm, .int .i64 lb] 34)) h s1) := x1.kept G1
  have HI1 : Hid (InstAt (w1.alloc (Obj.cells #[.int .i64 5, .int .i64 a, .int .i64 b, .int .i64 c, .int .i64 k, .int .i64 sub, .int .i64 sc, .int .i64 imm, .int .i64 lb] 34)) w.heap.size Cc.zero) := i1.kept G1 (by simp)
  have HJ1 : Hid (InstAt (w1.alloc (Obj.cells #[.int .i64 5, .int .i64 a, .int .i64 b, .int .i64 c, .int .i64 k, .int .i64 sub, .int .i64 sc, .int .i64 imm, .int .i64 lb] 34)) w1.heap.size ⟨5, a, b, c, k, sub, sc, imm, lb⟩) := InstAt.new w1 ⟨5, a, b, c, k, sub, sc, imm, lb⟩
  have HV1 : Hid (Mc h w (w1.alloc (Obj.cells #[.int .i64 5, .int .i64 a, .int .i64 b, .int .i64 c, .int .i64 k, .int .i64 sub, .int .i64 sc, .int .i64 imm, .int .i64 lb] 34))) := (HV0.out.trans v1).grown G1
  have HA : Hid (∀ i, Ru.W64 (s1.r i)) := x1.ok.r
  have HW : Hid (Ru.W64 (Ru.wr imm)) := Ru.wr_w imm
  have hlt := i1.lt
  have HK0 : Hid (w.heap.size ≠ h.B) := fun e => by have := HX.out.hd.lt; omega
  have HK : Hid (w1.heap.size ≠ h.B) := fun e => by have := HX.out.hd.lt; omega
  have HKK : Hid (w.heap.size ≠ w1.heap.size) := fun e => by omega
  have hN : Hid (w.heap.size ≤ w1.heap.size) := by show w.heap.size ≤ w1.heap.size; omega
  clear HF HX0 HI0 HV0 G1 x1 v1 i1 hlt
  go_wp2_with fail
  obtain ⟨N1, hN1⟩ : ∃ N, N = w1.heap.size := ⟨_, rfl⟩
  rw [← hN1] at HJ1 HK HKK hN
  rw [← hN1]
  generalize w1.alloc (Obj.cells #[.int .i64 5, .int .i64 a, .int .i64 b, .int .i64 c, .int .i64 k, .int .i64 sub, .int .i64 sc, .int .i64 imm, .int .i64 lb] 34) = W at *
  clear hN1
  refine region_panics (fun w' => ∃ y : Gw W, w' = y.w) (fun ch w' => ch = stk ∧ ∃ y : Gw W, w' = y.w) 16 17 1 _ rfl (by kernel_rfl) (by kernel_rfl) ⟨⟨W.drew, grown_drew (World.grownBy.refl _ _)⟩, rfl⟩ ?_ ?_
  · rintro a' ch w' hd ⟨rfl, y, rfl⟩
    exact ⟨hd, rfl, ⟨_, HX1.out.kept y.h⟩, HV1.out.grown y.h⟩
  · have d0 := fun y : Gw W => (HJ1.out.kept y.h (by simp)).c0
    have d1 := fun y : Gw W => (HJ1.out.kept y.h (by simp)).c1
    have d2 := fun y : Gw W => (HJ1.out.kept y.h (by simp)).c2
    have d3 := fun y : Gw W => (HJ1.out.kept y.h (by simp)).c3
    have d4 := fun y : Gw W => (HJ1.out.kept y.h (by simp)).c4
    have d5 := fun y : Gw W => (HJ1.out.kept y.h (by simp)).c5
    have d6 := fun y : Gw W => (HJ1.out.kept y.h (by simp)).c6
    have d7 := fun y : Gw W => (HJ1.out.kept y.h (by simp)).c7
    have d8 := fun y : Gw W => (HJ1.out.kept y.h (by simp)).c8
    have ra := fun y : Gw W => (HX1.out.kept y.h).rc a16
    have rb := fun y : Gw W => (HX1.out.kept y.h).rc b16
    have rc := fun y : Gw W => (HX1.out.kept y.h).rc c16
    simp only [List.take_succ_cons, List.take_zero, List.drop_succ_cons, List.drop_zero, List.cons_append, List.nil_append]
    repeat (go_big_quiet_step (first | exact rfl))
    refine wpQuiet_nil ⟨rfl, ?_⟩
    rintro w' ⟨y, rfl⟩
    refine ⟨142, #[.int .i64 sub, .int .i64 k, .int .u64 (s1.r a), .int .u64 (Ru.wr imm)], by first | kernel_rfl | simp [go_sem], ?_⟩
    exact (HC.out _).mono fun r w' ⟨h1, h2⟩ => ⟨stk, h1, rfl, ⟨_, grown_trans y.h h2⟩, rfl⟩
set_option maxRecDepth 100000 in
set_option maxHeartbeats 4000000 in
theorem pc6 {w : World} {h : Pd} {s s1 : Ru.St} (x : IsC w h s) (a b c : Nat) (a16 : a < 16) (b16 : b < 16) (c16 : c < 16) (k sub sc lb : Int) (imm : Int)
    (HF : Hid (∀ W, IsC W h s → Calls Tryz.prog 140 #[.pointer (some ⟨h.B, 0, none⟩), .func (.func 43) #[] #[]] W fun r w' => r = .returned (.agg #[.int .i64 6, .int .i64 a, .int .i64 b, .int .i64 c, .int .i64 k, .int .i64 sub, .int .i64 sc, .int .i64 imm, .int .i64 lb]) ∧ IsC w' h s1 ∧ Mc h W w')) (yl : Int) (hl : Mm.lV h.S s1.m k (Ru.wr (s1.r b + imm)) = yl) (hel : Mm.lE h.S k (Ru.wr (s1.r b + imm)) = 0) (hX : Ru.W64 (s1.r a)) (hY : Ru.W64 (yl)) (v : Int) (hF : Fl.binA sub k (Wd.canon k (s1.r a)) (Wd.canon (Ru.ky sub k) (yl)) = (v, 0)) :
    Calls Tryz.prog 159 #[.pointer (some ⟨h.B, 0, none⟩)] w fun r w' => r = .returned (.agg #[.int .i64 6, .int .i64 a, .int .i64 b, .int .i64 c, .int .i64 k, .int .i64 sub, .int .i64 sc, .int .i64 imm, .int .i64 lb]) ∧ IsC w' h (s1.put a v) ∧ Mc h w w' := by
  have G := World.grownBy_alloc w (Obj.cells #[.int .i64 0, .int .i64 0, .int .i64 0, .int .i64 0, .int .i64 0, .int .i64 0, .int .i64 0, .int .i64 0, .int .i64 0] 34) none
  have HX0 : Hid (IsC (w.alloc (Obj.cells #[.int .i64 0, .int .i64 0, .int .i64 0, .int .i64 0, .int .i64 0, .int .i64 0, .int .i64 0, .int .i64 0, .int .i64 0] 34)) h s) := x.kept G
  have HI0 : Hid (InstAt (w.alloc (Obj.cells #[.int .i64 0, .int .i64 0, .int .i64 0, .int .i64 0, .int .i64 0, .int .i64 0, .int .i64 0, .int .i64 0, .int .i64 0] 34)) w.heap.size Cc.zero) := InstAt.new w Cc.zero
  have HX : Hid (IsC w h s) := x
  have HV0 : Hid (Mc h w (w.alloc (Obj.cells #[.int .i64 0, .int .i64 0, .int .i64 0, .int .i64 0, .int .i64 0, .int .i64 0, .int .i64 0, .int .i64 0, .int .i64 0] 34))) := Mc.refl.grown G
  have a16' : (a : Int) < 16 := by omega
  have b16' : (b : Int) < 16 := by omega
  have c16' : (c : Int) < 16 := by omega
  have eW : IntKind.u64.wrap imm = Ru.wr imm := by rw [IntKind.wrap_u64]; rfl
  have HVw : Hid (Ru.W64 v) := by have := Ru.bin_w sub k (Wd.canon k (s1.r a)) (Wd.canon (Ru.ky sub k) (yl)); rw [hF] at this; exact this
  have HC : Hid (∀ W, Calls Tryz.prog 142 #[.int .i64 sub, .int .i64 k, .int .u64 (s1.r a), .int .u64 (yl)] W fun r w' => r = .returned (.int .u64 v) ∧ W.grownBy w' none) := fun W => pbin_ok _ _ _ _ _ hX hY W hF
  clear hF hX hY
  have eA : IntKind.u64.wrap (s1.r b + Ru.wr imm) = Ru.wr (s1.r b + imm) := by rw [IntKind.wrap_u64]; unfold Ru.wr; omega
  have HL : Hid (∀ W, IsC W h s1 → Calls Tryz.prog 150 #[.pointer (some ⟨h.B, 0, none⟩), .int .u64 (Ru.wr (s1.r b + imm)), .int .i64 k] W fun r w' => r = .returned (.int .u64 yl) ∧ W.grownBy w' none) := fun W hW => pload_ok hW _ k yl (Ru.wr_w _) hl hel
  clear hl hel
  clear x G
  go_enter Tryz.func159, Tryz.ntmps159
  go_wp2_with fail
  refine (HF.out _ HX0.out).mono ?_
  rintro r w1 ⟨rfl, x1, v1⟩
  have i1 : InstAt w1 w.heap.size Cc.zero := v1.inst HI0.out HX.out (Nat.le_refl _)
  have G1 := World.grownBy_alloc w1 (Obj.cells #[.int .i64 6, .int .i64 a, .int .i64 b, .int .i64 c, .int .i64 k, .int .i64 sub, .int .i64 sc, .int .i64 imm, .int .i64 lb] 34) none
  have HX1 : Hid (IsC (w1.alloc (Obj.cells #[.int .i64 6, .int .i64 a, .int .i64 b, .int .i64 c, .int .i64 k, .int .i64 sub, .int .i64 sc, .int .i64 imm, .int .i64 lb] 34)) h s1) := x1.kept G1
  have HI1 : Hid (InstAt (w1.alloc (Obj.cells #[.int .i64 6, .int .i64 a, .int .i64 b, .int .i64 c, .int .i64 k, .int .i64 sub, .int .i64 sc, .int .i64 imm, .int .i64 lb] 34)) w.heap.size Cc.zero) := i1.kept G1 (by simp)
  have HJ1 : Hid (InstAt (w1.alloc (Obj.cells #[.int .i64 6, .int .i64 a, .int .i64 b, .int .i64 c, .int .i64 k, .int .i64 sub, .int .i64 sc, .int .i64 imm, .int .i64 lb] 34)) w1.heap.size ⟨6, a, b, c, k, sub, sc, imm, lb⟩) := InstAt.new w1 ⟨6, a, b, c, k, sub, sc, imm, lb⟩
  have HV1 : Hid (Mc h w (w1.alloc (Obj.cells #[.int .i64 6, .int .i64 a, .int .i64 b, .int .i64 c, .int .i64 k, .int .i64 sub, .int .i64 sc, .int .i64 imm, .int .i64 lb] 34))) := (HV0.out.trans v1).grown G1
  have HA : Hid (∀ i, Ru.W64 (s1.r i)) := x1.ok.r
  have HW : Hid (Ru.W64 (Ru.wr imm)) := Ru.wr_w imm
  have hlt := i1.lt
  have HK0 : Hid (w.heap.size ≠ h.B) := fun e => by have := HX.out.hd.lt; omega
  have HK : Hid (w1.heap.size ≠ h.B) := fun e => by have := HX.out.hd.lt; omega
  have HKK : Hid (w.heap.size ≠ w1.heap.size) := fun e => by omega
  have hN : Hid (w.heap.size ≤ w1.heap.size) := by show w.heap.size ≤ w1.heap.size; omega
  clear HF HX0 HI0 HV0 G1 x1 v1 i1 hlt
  go_wp2_with fail
  obtain ⟨N1, hN1⟩ : ∃ N, N = w1.heap.size := ⟨_, rfl⟩
  rw [← hN1] at HJ1 HK HKK hN
  rw [← hN1]
  generalize w1.alloc (Obj.cells #[.int .i64 6, .int .i64 a, .int .i64 b, .int .i64 c, .int .i64 k, .int .i64 sub, .int .i64 sc, .int .i64 imm, .int .i64 lb] 34) = W at *
  clear hN1
  refine tail_class (fun w' => ∃ y : Gw W, w' = y.w) 32 (by kernel_rfl) (by kernel_rfl) ⟨⟨W.drew, grown_drew (World.grownBy.refl _ _)⟩, rfl⟩ ?_
  have d0 := fun y : Gw W => (HJ1.out.kept y.h (by simp)).c0
  have d1 := fun y : Gw W => (HJ1.out.kept y.h (by simp)).c1
  have d2 := fun y : Gw W => (HJ1.out.kept y.h (by simp)).c2
  have d3 := fun y : Gw W => (HJ1.out.kept y.h (by simp)).c3
  have d4 := fun y : Gw W => (HJ1.out.kept y.h (by simp)).c4
  have d5 := fun y : Gw W => (HJ1.out.kept y.h (by simp)).c5
  have d6 := fun y : Gw W => (HJ1.out.kept y.h (by simp)).c6
  have d7 := fun y : Gw W => (HJ1.out.kept y.h (by simp)).c7
  have d8 := fun y : Gw W => (HJ1.out.kept y.h (by simp)).c8
  have ra := fun y : Gw W => (HX1.out.kept y.h).rc a16
  have rb := fun y : Gw W => (HX1.out.kept y.h).rc b16
  have rc := fun y : Gw W => (HX1.out.kept y.h).rc c16
  simp only [List.take_succ_cons, List.take_zero, List.drop_succ_cons, List.drop_zero]
  repeat (go_big_quiet_step (first | exact rfl | (go_at_call 150; exact Gw.call (HL.out _ (HX1.out.kept (Gw.h _)))) | (go_at_call 142; exact Gw.call (HC.out _))))
  refine wpQuiet_nil ?_
  rintro W5 ⟨y5, hy5⟩
  have g : W.grownBy W5 none := by rw [hy5]; exact y5.h
  clear hy5 y5 d0 d1 d2 d3 d4 d5 d6 d7 d8 ra rb rc
  have HX5 : Hid (IsC W5 h s1) := HX1.out.kept g
  have HV5 : Hid (Mc h w W5) := HV1.out.grown g
  have HJ5 : Hid (InstAt W5 N1 ⟨6, a, b, c, k, sub, sc, imm, lb⟩) := HJ1.out.kept g (by simp)
  have HI5 : Hid (InstAt W5 w.heap.size Cc.zero) := HI1.out.kept g (by simp)
  clear g HX1 HV1 HJ1 HI1
  have ra := HX5.out.rc a16
  have rb := HX5.out.rc b16
  have rc := HX5.out.rc c16
  have rf := HX5.out.fz (2 + a)
  have HX6 : Hid (IsC (W5.setCell ⟨h.B, 2 + a, none⟩ (.int .u64 (v))) h (s1.put a (v))) := by exact HX5.out.put (a := a) a16 HVw.out
  have HV6 : Hid (Mc h w (W5.setCell ⟨h.B, 2 + a, none⟩ (.int .u64 (v)))) := HV5.out.setB _ _
  have HJ6 : Hid (InstAt (W5.setCell ⟨h.B, 2 + a, none⟩ (.int .u64 (v))) N1 ⟨6, a, b, c, k, sub, sc, imm, lb⟩) := HJ5.out.setB HK.out _
  have HI6 : Hid (InstAt (W5.setCell ⟨h.B, 2 + a, none⟩ (.int .u64 (v))) w.heap.size Cc.zero) := HI5.out.setB HK0.out _
  clear HX5 HV5 HJ5 HI5
  obtain ⟨e0, e1, e2, e3, e4, e5, e6, e7, e8, ez⟩ := HJ6.out
  clear ez
  obtain ⟨f0, f1, f2, f3, f4, f5, f6, f7, f8, fz⟩ := HI6.out
  have z0 := fz 0
  have z1 := fz 1
  have z2 := fz 2
  have z3 := fz 3
  have z4 := fz 4
  have z5 := fz 5
  have z6 := fz 6
  have z7 := fz 7
  have z8 := fz 8
  clear fz
  go_wp2_with fail
  have P9 := HI6.out.put9 ⟨6, a, b, c, k, sub, sc, imm, lb⟩
  have G9 := grown_put9 (W5.setCell ⟨h.B, 2 + a, none⟩ (.int .u64 (v))) w.heap.size ⟨6, a, b, c, k, sub, sc, imm, lb⟩
  change bodyPost _ _ _ _ _ (put9 (W5.setCell ⟨h.B, 2 + a, none⟩ (.int .u64 (v))) w.heap.size ⟨6, a, b, c, k, sub, sc, imm, lb⟩)
  have HX9 := HX6.out.far HX.out G9 (Nat.le_refl _)
  have HV9 := HV6.out.far G9 (Nat.le_refl _)
  generalize put9 (W5.setCell ⟨h.B, 2 + a, none⟩ (.int .u64 (v))) w.heap.size ⟨6, a, b, c, k, sub, sc, imm, lb⟩ = W9 at *
  obtain ⟨q0, q1, q2, q3, q4, q5, q6, q7, q8, qz⟩ := P9
  refine bodyPost_ret (by simp [results, Tryz.results159, go_sem, q0, q1, q2, q3, q4, q5, q6, q7, q8]; try rfl) rfl ?_
  exact ⟨rfl, HX9, HV9⟩
set_option maxRecDepth 100000 in
set_option maxHeartbeats 4000000 in
theorem pc6m {w : World} {h : Pd} {s s1 : Ru.St} (x : IsC w h s) (a b c : Nat) (a16 : a < 16) (b16 : b < 16) (c16 : c < 16) (k sub sc lb : Int) (imm : Int)
    (HF : Hid (∀ W, IsC W h s → Calls Tryz.prog 140 #[.pointer (some ⟨h.B, 0, none⟩), .func (.func 43) #[] #[]] W fun r w' => r = .returned (.agg #[.int .i64 6, .int .i64 a, .int .i64 b, .int .i64 c, .int .i64 k, .int .i64 sub, .int .i64 sc, .int .i64 imm, .int .i64 lb]) ∧ IsC w' h s1 ∧ Mc h W w')) (yl : Int) (hl : Mm.lV h.S s1.m k (Ru.wr (s1.r b + imm)) = yl) (hel : Mm.lE h.S k (Ru.wr (s1.r b + imm)) = 0) (hX : Ru.W64 (s1.r a)) (hY : Ru.W64 (yl)) (v e : Int) (hF : Fl.binA sub k (Wd.canon k (s1.r a)) (Wd.canon (Ru.ky sub k) (yl)) = (v, e)) (he : (e != 0) = true) :
    Calls Tryz.prog 159 #[.pointer (some ⟨h.B, 0, none⟩)] w fun r w' => r = .panicked stk ∧ (∃ s', IsC w' h s') ∧ Mc h w w' := by
  have G := World.grownBy_alloc w (Obj.cells #[.int .i64 0, .int .i64 0, .int .i64 0, .int .i64 0, .int .i64 0, .int .i64 0, .int .i64 0, .int .i64 0, .int .i64 0] 34) none
  have HX0 : Hid (IsC (w.alloc (Obj.cells #[.int .i64 0, .int .i64 0, .int .i64 0, .int .i64 0, .int .i64 0, .int .i64 0, .int .i64 0, .int .i64 0, .int .i64 0] 34)) h s) := x.kept G
  have HI0 : Hid (InstAt (w.alloc (Obj.cells #[.int .i64 0, .int .i64 0, .int .i64 0, .int .i64 0, .int .i64 0, .int .i64 0, .int .i64 0, .int .i64 0, .int .i64 0] 34)) w.heap.size Cc.zero) := InstAt.new w Cc.zero
  have HX : Hid (IsC w h s) := x
  have HV0 : Hid (Mc h w (w.alloc (Obj.cells #[.int .i64 0, .int .i64 0, .int .i64 0, .int .i64 0, .int .i64 0, .int .i64 0, .int .i64 0, .int .i64 0, .int .i64 0] 34))) := Mc.refl.grown G
  have a16' : (a : Int) < 16 := by omega
  have b16' : (b : Int) < 16 := by omega
  have c16' : (c : Int) < 16 := by omega
  have eW : IntKind.u64.wrap imm = Ru.wr imm := by rw [IntKind.wrap_u64]; rfl
  have HC : Hid (∀ W, Calls Tryz.prog 142 #[.int .i64 sub, .int .i64 k, .int .u64 (s1.r a), .int .u64 (yl)] W fun r w' => r = .panicked stk ∧ W.grownBy w' none) := fun W => pbin_no _ _ _ _ _ _ hX hY W hF he
  clear hF hX hY
  have eA : IntKind.u64.wrap (s1.r b + Ru.wr imm) = Ru.wr (s1.r b + imm) := by rw [IntKind.wrap_u64]; unfold Ru.wr; omega
  have HL : Hid (∀ W, IsC W h s1 → Calls Tryz.prog 150 #[.pointer (some ⟨h.B, 0, none⟩), .int .u64 (Ru.wr (s1.r b + imm)), .int .i64 k] W fun r w' => r = .returned (.int .u64 yl) ∧ W.grownBy w' none) := fun W hW => pload_ok hW _ k yl (Ru.wr_w _) hl hel
  clear hl hel
  clear x G
  go_enter Tryz.func159, Tryz.ntmps159
  go_wp2_with fail
  refine (HF.out _ HX0.out).mono ?_
  rintro r w1 ⟨rfl, x1, v1⟩
  have i1 : InstAt w1 w.heap.size Cc.zero := v1.inst HI0.out HX.out (Nat.le_refl _)
  have G1 := World.grownBy_alloc w1 (Obj.cells #[.int .i64 6, .int .i64 a, .int .i64 b, .int .i64 c, .int .i64 k, .int .i64 sub, .int .i64 sc, .int .i64 imm, .int .i64 lb] 34) none
  have HX1 : Hid (IsC (w1.alloc (Obj.cells #[.int .i64 6, .int .i64 a, .int .i64 b, .int .i64 c, .int .i64 k, .int .i64 sub, .int .i64 sc, .int .i64 imm, .int .i64 lb] 34)) h s1) := x1.kept G1
  have HI1 : Hid (InstAt (w1.alloc (Obj.cells #[.int .i64 6, .int .i64 a, .int .i64 b, .int .i64 c, .int .i64 k, .int .i64 sub, .int .i64 sc, .int .i64 imm, .int .i64 lb] 34)) w.heap.size Cc.zero) := i1.kept G1 (by simp)
  have HJ1 : Hid (InstAt (w1.alloc (Obj.cells #[.int .i64 6, .int .i64 a, .int .i64 b, .int .i64 c, .int .i64 k, .int .i64 sub, .int .i64 sc, .int .i64 imm, .int .i64 lb] 34)) w1.heap.size ⟨6, a, b, c, k, sub, sc, imm, lb⟩) := InstAt.new w1 ⟨6, a, b, c, k, sub, sc, imm, lb⟩
  have HV1 : Hid (Mc h w (w1.alloc (Obj.cells #[.int .i64 6, .int .i64 a, .int .i64 b, .int .i64 c, .int .i64 k, .int .i64 sub, .int .i64 sc, .int .i64 imm, .int .i64 lb] 34))) := (HV0.out.trans v1).grown G1
  have HA : Hid (∀ i, Ru.W64 (s1.r i)) := x1.ok.r
  have HW : Hid (Ru.W64 (Ru.wr imm)) := Ru.wr_w imm
  have hlt := i1.lt
  have HK0 : Hid (w.heap.size ≠ h.B) := fun e => by have := HX.out.hd.lt; omega
  have HK : Hid (w1.heap.size ≠ h.B) := fun e => by have := HX.out.hd.lt; omega
  have HKK : Hid (w.heap.size ≠ w1.heap.size) := fun e => by omega
  have hN : Hid (w.heap.size ≤ w1.heap.size) := by show w.heap.size ≤ w1.heap.size; omega
  clear HF HX0 HI0 HV0 G1 x1 v1 i1 hlt
  go_wp2_with fail
  obtain ⟨N1, hN1⟩ : ∃ N, N = w1.heap.size := ⟨_, rfl⟩
  rw [← hN1] at HJ1 HK HKK hN
  rw [← hN1]
  generalize w1.alloc (Obj.cells #[.int .i64 6, .int .i64 a, .int .i64 b, .int .i64 c, .int .i64 k, .int .i64 sub, .int .i64 sc, .int .i64 imm, .int .i64 lb] 34) = W at *
  clear hN1
  refine region_panics (fun w' => ∃ y : Gw W, w' = y.w) (fun ch w' => ch = stk ∧ ∃ y : Gw W, w' = y.w) 29 30 1 _ rfl (by kernel_rfl) (by kernel_rfl) ⟨⟨W.drew, grown_drew (World.grownBy.refl _ _)⟩, rfl⟩ ?_ ?_
  · rintro a' ch w' hd ⟨rfl, y, rfl⟩
    exact ⟨hd, rfl, ⟨_, HX1.out.kept y.h⟩, HV1.out.grown y.h⟩
  · have d0 := fun y : Gw W => (HJ1.out.kept y.h (by simp)).c0
    have d1 := fun y : Gw W => (HJ1.out.kept y.h (by simp)).c1
    have d2 := fun y : Gw W => (HJ1.out.kept y.h (by simp)).c2
    have d3 := fun y : Gw W => (HJ1.out.kept y.h (by simp)).c3
    have d4 := fun y : Gw W => (HJ1.out.kept y.h (by simp)).c4
    have d5 := fun y : Gw W => (HJ1.out.kept y.h (by simp)).c5
    have d6 := fun y : Gw W => (HJ1.out.kept y.h (by simp)).c6
    have d7 := fun y : Gw W => (HJ1.out.kept y.h (by simp)).c7
    have d8 := fun y : Gw W => (HJ1.out.kept y.h (by simp)).c8
    have ra := fun y : Gw W => (HX1.out.kept y.h).rc a16
    have rb := fun y : Gw W => (HX1.out.kept y.h).rc b16
    have rc := fun y : Gw W => (HX1.out.kept y.h).rc c16
    simp only [List.take_succ_cons, List.take_zero, List.drop_succ_cons, List.drop_zero, List.cons_append, List.nil_append]
    repeat (go_big_quiet_step (first | exact rfl | (go_at_call 150; exact Gw.call (HL.out _ (HX1.out.kept (Gw.h _))))))
    refine wpQuiet_nil ⟨rfl, ?_⟩
    rintro w' ⟨y, rfl⟩
    refine ⟨142, #[.int .i64 sub, .int .i64 k, .int .u64 (s1.r a), .int .u64 (yl)], by first | kernel_rfl | simp [go_sem], ?_⟩
    exact (HC.out _).mono fun r w' ⟨h1, h2⟩ => ⟨stk, h1, rfl, ⟨_, grown_trans y.h h2⟩, rfl⟩
set_option maxRecDepth 100000 in
set_option maxHeartbeats 4000000 in
theorem pc6n {w : World} {h : Pd} {s s1 : Ru.St} (x : IsC w h s) (a b c : Nat) (a16 : a < 16) (b16 : b < 16) (c16 : c < 16) (k sub sc lb : Int) (imm : Int)
    (HF : Hid (∀ W, IsC W h s → Calls Tryz.prog 140 #[.pointer (some ⟨h.B, 0, none⟩), .func (.func 43) #[] #[]] W fun r w' => r = .returned (.agg #[.int .i64 6, .int .i64 a, .int .i64 b, .int .i64 c, .int .i64 k, .int .i64 sub, .int .i64 sc, .int .i64 imm, .int .i64 lb]) ∧ IsC w' h s1 ∧ Mc h W w')) (hel : (Mm.lE h.S k (Ru.wr (s1.r b + imm)) != 0) = true) :
    Calls Tryz.prog 159 #[.pointer (some ⟨h.B, 0, none⟩)] w fun r w' => r = .panicked stk ∧ (∃ s', IsC w' h s') ∧ Mc h w w' := by
  have G := World.grownBy_alloc w (Obj.cells #[.int .i64 0, .int .i64 0, .int .i64 0, .int .i64 0, .int .i64 0, .int .i64 0, .int .i64 0, .int .i64 0, .int .i64 0] 34) none
  have HX0 : Hid (IsC (w.alloc (Obj.cells #[.int .i64 0, .int .i64 0, .int .i64 0, .int .i64 0, .int .i64 0, .int .i64 0, .int .i64 0, .int .i64 0, .int .i64 0] 34)) h s) := x.kept G
  have HI0 : Hid (InstAt (w.alloc (Obj.cells #[.int .i64 0, .int .i64 0, .int .i64 0, .int .i64 0, .int .i64 0, .int .i64 0, .int .i64 0, .int .i64 0, .int .i64 0] 34)) w.heap.size Cc.zero) := InstAt.new w Cc.zero
  have HX : Hid (IsC w h s) := x
  have HV0 : Hid (Mc h w (w.alloc (Obj.cells #[.int .i64 0, .int .i64 0, .int .i64 0, .int .i64 0, .int .i64 0, .int .i64 0, .int .i64 0, .int .i64 0, .int .i64 0] 34))) := Mc.refl.grown G
  have a16' : (a : Int) < 16 := by omega
  have b16' : (b : Int) < 16 := by omega
  have c16' : (c : Int) < 16 := by omega
  have eW : IntKind.u64.wrap imm = Ru.wr imm := by rw [IntKind.wrap_u64]; rfl
  have eA : IntKind.u64.wrap (s1.r b + Ru.wr imm) = Ru.wr (s1.r b + imm) := by rw [IntKind.wrap_u64]; unfold Ru.wr; omega
  have HL : Hid (∀ W, IsC W h s1 → Calls Tryz.prog 150 #[.pointer (some ⟨h.B, 0, none⟩), .int .u64 (Ru.wr (s1.r b + imm)), .int .i64 k] W fun r w' => r = .panicked stk ∧ W.grownBy w' none) := fun W hW => pload_no hW _ k (Ru.wr_w _) hel
  clear hel
  clear x G
  go_enter Tryz.func159, Tryz.ntmps159
  go_wp2_with fail
  refine (HF.out _ HX0.out).mono ?_
  rintro r w1 ⟨rfl, x1, v1⟩
  have i1 : InstAt w1 w.heap.size Cc.zero := v1.inst HI0.out HX.out (Nat.le_refl _)
  have G1 := World.grownBy_alloc w1 (Obj.cells #[.int .i64 6, .int .i64 a, .int .i64 b, .int .i64 c, .int .i64 k, .int .i64 sub, .int .i64 sc, .int .i64 imm, .int .i64 lb] 34) none
  have HX1 : Hid (IsC (w1.alloc (Obj.cells #[.int .i64 6, .int .i64 a, .int .i64 b, .int .i64 c, .int .i64 k, .int .i64 sub, .int .i64 sc, .int .i64 imm, .int .i64 lb] 34)) h s1) := x1.kept G1
  have HI1 : Hid (InstAt (w1.alloc (Obj.cells #[.int .i64 6, .int .i64 a, .int .i64 b, .int .i64 c, .int .i64 k, .int .i64 sub, .int .i64 sc, .int .i64 imm, .int .i64 lb] 34)) w.heap.size Cc.zero) := i1.kept G1 (by simp)
  have HJ1 : Hid (InstAt (w1.alloc (Obj.cells #[.int .i64 6, .int .i64 a, .int .i64 b, .int .i64 c, .int .i64 k, .int .i64 sub, .int .i64 sc, .int .i64 imm, .int .i64 lb] 34)) w1.heap.size ⟨6, a, b, c, k, sub, sc, imm, lb⟩) := InstAt.new w1 ⟨6, a, b, c, k, sub, sc, imm, lb⟩
  have HV1 : Hid (Mc h w (w1.alloc (Obj.cells #[.int .i64 6, .int .i64 a, .int .i64 b, .int .i64 c, .int .i64 k, .int .i64 sub, .int .i64 sc, .int .i64 imm, .int .i64 lb] 34))) := (HV0.out.trans v1).grown G1
  have HA : Hid (∀ i, Ru.W64 (s1.r i)) := x1.ok.r
  have HW : Hid (Ru.W64 (Ru.wr imm)) := Ru.wr_w imm
  have hlt := i1.lt
  have HK0 : Hid (w.heap.size ≠ h.B) := fun e => by have := HX.out.hd.lt; omega
  have HK : Hid (w1.heap.size ≠ h.B) := fun e => by have := HX.out.hd.lt; omega
  have HKK : Hid (w.heap.size ≠ w1.heap.size) := fun e => by omega
  have hN : Hid (w.heap.size ≤ w1.heap.size) := by show w.heap.size ≤ w1.heap.size; omega
  clear HF HX0 HI0 HV0 G1 x1 v1 i1 hlt
  go_wp2_with fail
  obtain ⟨N1, hN1⟩ : ∃ N, N = w1.heap.size := ⟨_, rfl⟩
  rw [← hN1] at HJ1 HK HKK hN
  rw [← hN1]
  generalize w1.alloc (Obj.cells #[.int .i64 6, .int .i64 a, .int .i64 b, .int .i64 c, .int .i64 k, .int .i64 sub, .int .i64 sc, .int .i64 imm, .int .i64 lb] 34) = W at *
  clear hN1
  refine region_panics (fun w' => ∃ y : Gw W, w' = y.w) (fun ch w' => ch = stk ∧ ∃ y : Gw W, w' = y.w) 28 30 1 _ rfl (by kernel_rfl) (by kernel_rfl) ⟨⟨W.drew, grown_drew (World.grownBy.refl _ _)⟩, rfl⟩ ?_ ?_
  · rintro a' ch w' hd ⟨rfl, y, rfl⟩
    exact ⟨hd, rfl, ⟨_, HX1.out.kept y.h⟩, HV1.out.grown y.h⟩
  · have d0 := fun y : Gw W => (HJ1.out.kept y.h (by simp)).c0
    have d1 := fun y : Gw W => (HJ1.out.kept y.h (by simp)).c1
    have d2 := fun y : Gw W => (HJ1.out.kept y.h (by simp)).c2
    have d3 := fun y : Gw W => (HJ1.out.kept y.h (by simp)).c3
    have d4 := fun y : Gw W => (HJ1.out.kept y.h (by simp)).c4
    have d5 := fun y : Gw W => (HJ1.out.kept y.h (by simp)).c5
    have d6 := fun y : Gw W => (HJ1.out.kept y.h (by simp)).c6
    have d7 := fun y : Gw W => (HJ1.out.kept y.h (by simp)).c7
    have d8 := fun y : Gw W => (HJ1.out.kept y.h (by simp)).c8
    have ra := fun y : Gw W => (HX1.out.kept y.h).rc a16
    have rb := fun y : Gw W => (HX1.out.kept y.h).rc b16
    have rc := fun y : Gw W => (HX1.out.kept y.h).rc c16
    simp only [List.take_succ_cons, List.take_zero, List.drop_succ_cons, List.drop_zero, List.cons_append, List.nil_append]
    repeat (go_big_quiet_step (first | exact rfl))
    refine wpQuiet_nil ⟨rfl, ?_⟩
    rintro w' ⟨y, rfl⟩
    refine ⟨150, #[.pointer (some ⟨h.B, 0, none⟩), .int .u64 (Ru.wr (s1.r b + imm)), .int .i64 k], by first | kernel_rfl | simp [go_sem], ?_⟩
    exact (HL.out _ (HX1.out.kept (Gw.h _))).mono fun r w' ⟨h1, h2⟩ => ⟨stk, h1, rfl, ⟨_, grown_trans y.h h2⟩, rfl⟩
end Go.Proofs.YtdklaeppcjopoaaGreatDoor
