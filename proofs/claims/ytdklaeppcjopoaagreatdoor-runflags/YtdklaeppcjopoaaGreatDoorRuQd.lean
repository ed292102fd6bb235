/- The program's machine: what single instructions do: pr15t, pr15f, pr20t, pr20f, pr21t, pr21f, prd, prdn. -/
import Derived.Test.YtdklaeppcjopoaaGreatDoorG7
namespace Go.Proofs.YtdklaeppcjopoaaGreatDoor
open Go.RowKit
set_option linter.unusedVariables false

set_option maxRecDepth 100000 in
set_option maxHeartbeats 4000000 in
theorem pr15t {w : World} {h : Pd} {s s1 : Ru.St} (x : IsC w h s) (a b c : Nat) (a16 : a < 16) (b16 : b < 16) (c16 : c < 16) (k sub sc lb : Int) (imm : Int)
    (HF : Hid (∀ W, IsC W h s → Calls Tryz.prog 140 #[.pointer (some ⟨h.B, 0, none⟩), .func (.func 141) #[] #[]] W fun r w' => r = .returned (.agg #[.int .i64 15, .int .i64 a, .int .i64 b, .int .i64 c, .int .i64 k, .int .i64 sub, .int .i64 sc, .int .i64 imm, .int .i64 lb]) ∧ IsC w' h s1 ∧ Mc h W w')) (hz : (s1.r b != 0) = true) :
    Calls Tryz.prog 139 #[.pointer (some ⟨h.B, 0, none⟩)] w fun r w' => r = .returned (.agg #[.int .i64 15, .int .i64 a, .int .i64 b, .int .i64 c, .int .i64 k, .int .i64 sub, .int .i64 sc, .int .i64 imm, .int .i64 lb]) ∧ IsC w' h (s1.put a (s1.r c)) ∧ Mc h w w' := by
  have G := World.grownBy_alloc w (Obj.cells #[.int .i64 0, .int .i64 0, .int .i64 0, .int .i64 0, .int .i64 0, .int .i64 0, .int .i64 0, .int .i64 0, .int .i64 0] 34) none
  have HX0 : Hid (IsC (w.alloc (Obj.cells #[.int .i64 0, .int .i64 0, .int .i64 0, .int .i64 0, .int .i64 0, .int .i64 0, .int .i64 0, .int .i64 0, .int .i64 0] 34)) h s) := x.kept G
  have HI0 : Hid (InstAt (w.alloc (Obj.cells #[.int .i64 0, .int .i64 0, .int .i64 0, .int .i64 0, .int .i64 0, .int .i64 0, .int .i64 0, .int .i64 0, .int .i64 0] 34)) w.heap.size Cc.zero) := InstAt.new w Cc.zero
  have HX : Hid (IsC w h s) := x
  have HV0 : Hid (Mc h w (w.alloc (Obj.cells #[.int .i64 0, .int .i64 0, .int .i64 0, .int .i64 0, .int .i64 0, .int .i64 0, .int .i64 0, .int .i64 0, .int .i64 0] 34))) := Mc.refl.grown G
  have a16' : (a : Int) < 16 := by omega
  have b16' : (b : Int) < 16 := by omega
  have c16' : (c : Int) < 16 := by omega
  have eW : IntKind.u64.wrap imm = Ru.wr imm := by rw [IntKind.wrap_u64]; rfl
  clear x G
  go_enter Tryz.func139, Tryz.ntmps139
  go_wp2_with fail
  refine (HF.out _ HX0.out).mono ?_
  rintro r w1 ⟨rfl, x1, v1⟩
  have i1 : InstAt w1 w.heap.size Cc.zero := v1.inst HI0.out HX.out (Nat.le_refl _)
  have G1 := World.grownBy_alloc w1 (Obj.cells #[.int .i64 15, .int .i64 a, .int .i64 b, .int .i64 c, .int .i64 k, .int .i64 sub, .int .i64 sc, .int .i64 imm, .int .i64 lb] 34) none
  have HX1 : Hid (IsC (w1.alloc (Obj.cells #[.int .i64 15, .int .i64 a, .int .i64 b, .int .i64 c, .int .i64 k, .int .i64 sub, .int .i64 sc, .int .i64 imm, .int .i64 lb] 34)) h s1) := x1.kept G1
  have HI1 : Hid (InstAt (w1.alloc (Obj.cells #[.int .i64 15, .int .i64 a, .int .i64 b, .int .i64 c, .int .i64 k, .int .i64 sub, .int .i64 sc, .int .i64 imm, .int .i64 lb] 34)) w.heap.size Cc.zero) := i1.kept G1 (by simp)
  have HJ1 : Hid (InstAt (w1.alloc (Obj.cells #[.int .i64 15, .int .i64 a, .int .i64 b, .int .i64 c, .int .i64 k, .int .i64 sub, .int .i64 sc, .int .i64 imm, .int .i64 lb] 34)) w1.heap.size ⟨15, a, b, c, k, sub, sc, imm, lb⟩) := InstAt.new w1 ⟨15, a, b, c, k, sub, sc, imm, lb⟩
  have HV1 : Hid (Mc h w (w1.alloc (Obj.cells #[.int .i64 15, .int .i64 a, .int .i64 b, .int .i64 c, .int .i64 k, .int .i64 sub, .int .i64 sc, .int .i64 imm, .int .i64 lb] 34))) := (HV0.out.trans v1).grown G1
  have HA : Hid (∀ i, Ru.W64 (s1.r i)) := x1.ok.r
  have HW : Hid (Ru.W64 (Ru.wr imm)) := Ru.wr_w imm
  have hlt := i1.lt
  have HK0 : Hid (w.heap.size ≠ h.B) := fun e => by have := HX.out.hd.lt; omega
  have HK : Hid (w1.heap.size ≠ h.B) := fun e => by have := HX.out.hd.lt; omega
  have HKK : Hid (w.heap.size ≠ w1.heap.size) := fun e => by omega
  have hN : Hid (w.heap.size ≤ w1.heap.size) := by show w.heap.size ≤ w1.heap.size; omega
  clear HF HX0 HI0 HV0 G1 x1 v1 i1 hlt
  go_wp2_with fail
  obtain ⟨N1, hN1⟩ : ∃ N, N = w1.heap.size := ⟨_, rfl⟩
  rw [← hN1] at HJ1 HK HKK hN
  rw [← hN1]
  generalize w1.alloc (Obj.cells #[.int .i64 15, .int .i64 a, .int .i64 b, .int .i64 c, .int .i64 k, .int .i64 sub, .int .i64 sc, .int .i64 imm, .int .i64 lb] 34) = W at *
  clear hN1
  obtain ⟨d0, d1, d2, d3, d4, d5, d6, d7, d8, dz⟩ := HJ1.out
  clear dz
  have ra := HX1.out.rc a16
  have rb := HX1.out.rc b16
  have rc := HX1.out.rc c16
  have rf := HX1.out.fz (2 + a)
  clear rf
  go_quiet (fail)
  have g : W.grownBy (W.drewN nq) none := grown_drewN (World.grownBy.refl _ none) nq
  clear d0 d1 d2 d3 d4 d5 d6 d7 d8 ra rb rc
  have HX2 : Hid (IsC (W.drewN nq) h s1) := HX1.out.kept g
  have HV2 : Hid (Mc h w (W.drewN nq)) := HV1.out.grown g
  have HJ2 : Hid (InstAt (W.drewN nq) N1 ⟨15, a, b, c, k, sub, sc, imm, lb⟩) := HJ1.out.kept g (by simp)
  have HI2 : Hid (InstAt (W.drewN nq) w.heap.size Cc.zero) := HI1.out.kept g (by simp)
  clear g HX1 HV1 HJ1 HI1
  generalize W.drewN nq = W2 at *
  go_wp2_with fail
  refine tail_quiet 11 (by kernel_rfl) (by kernel_rfl) ?_
  have g : W2.grownBy W2.drew none := (grown_drew (World.grownBy.refl _ none))
  have HX5 : Hid (IsC W2.drew h s1) := HX2.out.kept g
  have HV5 : Hid (Mc h w W2.drew) := HV2.out.grown g
  have HJ5 : Hid (InstAt W2.drew N1 ⟨15, a, b, c, k, sub, sc, imm, lb⟩) := HJ2.out.kept g (by simp)
  have HI5 : Hid (InstAt W2.drew w.heap.size Cc.zero) := HI2.out.kept g (by simp)
  clear g HX2 HV2 HJ2 HI2
  generalize W2.drew = W5 at *
  obtain ⟨d0, d1, d2, d3, d4, d5, d6, d7, d8, dz⟩ := HJ5.out
  clear dz
  have ra := HX5.out.rc a16
  have rb := HX5.out.rc b16
  have rc := HX5.out.rc c16
  have rf := HX5.out.fz (2 + a)
  simp only [List.take_succ_cons, List.take_zero, List.drop_succ_cons, List.drop_zero]
  repeat (go_big_quiet_step (exact rfl))
  refine wpQuiet_nil ?_
  clear d0 d1 d2 d3 d4 d5 d6 d7 d8
  have HX6 : Hid (IsC (W5.setCell ⟨h.B, 2 + a, none⟩ (.int .u64 (s1.r c))) h (s1.put a (s1.r c))) := by exact HX5.out.put (a := a) a16 (HA.out c)
  have HV6 : Hid (Mc h w (W5.setCell ⟨h.B, 2 + a, none⟩ (.int .u64 (s1.r c)))) := HV5.out.setB _ _
  have HJ6 : Hid (InstAt (W5.setCell ⟨h.B, 2 + a, none⟩ (.int .u64 (s1.r c))) N1 ⟨15, a, b, c, k, sub, sc, imm, lb⟩) := HJ5.out.setB HK.out _
  have HI6 : Hid (InstAt (W5.setCell ⟨h.B, 2 + a, none⟩ (.int .u64 (s1.r c))) w.heap.size Cc.zero) := HI5.out.setB HK0.out _
  clear HX5 HV5 HJ5 HI5
  obtain ⟨e0, e1, e2, e3, e4, e5, e6, e7, e8, ez⟩ := HJ6.out
  clear ez
  obtain ⟨f0, f1, f2, f3, f4, f5, f6, f7, f8, fz⟩ := HI6.out
  have z0 := fz 0
  have z1 := fz 1
  have z2 := fz 2
  have z3 := fz 3
  have z4 := fz 4
  have z5 := fz 5
  have z6 := fz 6
  have z7 := fz 7
  have z8 := fz 8
  clear fz
  go_wp2_with fail
  have P9 := HI6.out.put9 ⟨15, a, b, c, k, sub, sc, imm, lb⟩
  have G9 := grown_put9 (W5.setCell ⟨h.B, 2 + a, none⟩ (.int .u64 (s1.r c))) w.heap.size ⟨15, a, b, c, k, sub, sc, imm, lb⟩
  change bodyPost _ _ _ _ _ (put9 (W5.setCell ⟨h.B, 2 + a, none⟩ (.int .u64 (s1.r c))) w.heap.size ⟨15, a, b, c, k, sub, sc, imm, lb⟩)
  have HX9 := HX6.out.far HX.out G9 (Nat.le_refl _)
  have HV9 := HV6.out.far G9 (Nat.le_refl _)
  generalize put9 (W5.setCell ⟨h.B, 2 + a, none⟩ (.int .u64 (s1.r c))) w.heap.size ⟨15, a, b, c, k, sub, sc, imm, lb⟩ = W9 at *
  obtain ⟨q0, q1, q2, q3, q4, q5, q6, q7, q8, qz⟩ := P9
  refine bodyPost_ret (by simp [results, Tryz.results139, go_sem, q0, q1, q2, q3, q4, q5, q6, q7, q8]; try rfl) rfl ?_
  exact ⟨rfl, HX9, HV9⟩
set_option maxRecDepth 100000 in
set_option maxHeartbeats 4000000 in
theorem pr15f {w : World} {h : Pd} {s s1 : Ru.St} (x : IsC w h s) (a b c : Nat) (a16 : a < 16) (b16 : b < 16) (c16 : c < 16) (k sub sc lb : Int) (imm : Nat) (i16 : imm < 16)
    (HF : Hid (∀ W, IsC W h s → Calls Tryz.prog 140 #[.pointer (some ⟨h.B, 0, none⟩), .func (.func 141) #[] #[]] W fun r w' => r = .returned (.agg #[.int .i64 15, .int .i64 a, .int .i64 b, .int .i64 c, .int .i64 k, .int .i64 sub, .int .i64 sc, .int .i64 imm, .int .i64 lb]) ∧ IsC w' h s1 ∧ Mc h W w')) (hz : (s1.r b != 0) = false) :
    Calls Tryz.prog 139 #[.pointer (some ⟨h.B, 0, none⟩)] w fun r w' => r = .returned (.agg #[.int .i64 15, .int .i64 a, .int .i64 b, .int .i64 c, .int .i64 k, .int .i64 sub, .int .i64 sc, .int .i64 imm, .int .i64 lb]) ∧ IsC w' h (s1.put a (s1.r imm)) ∧ Mc h w w' := by
  have G := World.grownBy_alloc w (Obj.cells #[.int .i64 0, .int .i64 0, .int .i64 0, .int .i64 0, .int .i64 0, .int .i64 0, .int .i64 0, .int .i64 0, .int .i64 0] 34) none
  have HX0 : Hid (IsC (w.alloc (Obj.cells #[.int .i64 0, .int .i64 0, .int .i64 0, .int .i64 0, .int .i64 0, .int .i64 0, .int .i64 0, .int .i64 0, .int .i64 0] 34)) h s) := x.kept G
  have HI0 : Hid (InstAt (w.alloc (Obj.cells #[.int .i64 0, .int .i64 0, .int .i64 0, .int .i64 0, .int .i64 0, .int .i64 0, .int .i64 0, .int .i64 0, .int .i64 0] 34)) w.heap.size Cc.zero) := InstAt.new w Cc.zero
  have HX : Hid (IsC w h s) := x
  have HV0 : Hid (Mc h w (w.alloc (Obj.cells #[.int .i64 0, .int .i64 0, .int .i64 0, .int .i64 0, .int .i64 0, .int .i64 0, .int .i64 0, .int .i64 0, .int .i64 0] 34))) := Mc.refl.grown G
  have a16' : (a : Int) < 16 := by omega
  have b16' : (b : Int) < 16 := by omega
  have c16' : (c : Int) < 16 := by omega
  have eW : IntKind.u64.wrap imm = Ru.wr imm := by rw [IntKind.wrap_u64]; rfl
  have i16' : (imm : Int) < 16 := by omega
  clear x G
  go_enter Tryz.func139, Tryz.ntmps139
  go_wp2_with fail
  refine (HF.out _ HX0.out).mono ?_
  rintro r w1 ⟨rfl, x1, v1⟩
  have i1 : InstAt w1 w.heap.size Cc.zero := v1.inst HI0.out HX.out (Nat.le_refl _)
  have G1 := World.grownBy_alloc w1 (Obj.cells #[.int .i64 15, .int .i64 a, .int .i64 b, .int .i64 c, .int .i64 k, .int .i64 sub, .int .i64 sc, .int .i64 imm, .int .i64 lb] 34) none
  have HX1 : Hid (IsC (w1.alloc (Obj.cells #[.int .i64 15, .int .i64 a, .int .i64 b, .int .i64 c, .int .i64 k, .int .i64 sub, .int .i64 sc, .int .i64 imm, .int .i64 lb] 34)) h s1) := x1.kept G1
  have HI1 : Hid (InstAt (w1.alloc (Obj.cells #[.int .i64 15, .int .i64 a, .int .i64 b, .int .i64 c, .int .i64 k, .int .i64 sub, .int .i64 sc, .int .i64 imm, .int .i64 lb] 34)) w.heap.size Cc.zero) := i1.kept G1 (by simp)
  have HJ1 : Hid (InstAt (w1.alloc (Obj.cells #[.int .i64 15, .int .i64 a, .int .i64 b, .int .i64 c, .int .i64 k, .int .i64 sub, .int .i64 sc, .int .i64 imm, .int .i64 lb] 34)) w1.heap.size ⟨15, a, b, c, k, sub, sc, imm, lb⟩) := InstAt.new w1 ⟨15, a, b, c, k, sub, sc, imm, lb⟩
  have HV1 : Hid (Mc h w (w1.alloc (Obj.cells #[.int .i64 15, .int .i64 a, .int .i64 b, .int .i64 c, .int .i64 k, .int .i64 sub, .int .i64 sc, .int .i64 imm, .int .i64 lb] 34))) := (HV0.out.trans v1).grown G1
  have HA : Hid (∀ i, Ru.W64 (s1.r i)) := x1.ok.r
  have HW : Hid (Ru.W64 (Ru.wr imm)) := Ru.wr_w imm
  have hlt := i1.lt
  have HK0 : Hid (w.heap.size ≠ h.B) := fun e => by have := HX.out.hd.lt; omega
  have HK : Hid (w1.heap.size ≠ h.B) := fun e => by have := HX.out.hd.lt; omega
  have HKK : Hid (w.heap.size ≠ w1.heap.size) := fun e => by omega
  have hN : Hid (w.heap.size ≤ w1.heap.size) := by show w.heap.size ≤ w1.heap.size; omega
  clear HF HX0 HI0 HV0 G1 x1 v1 i1 hlt
  go_wp2_with fail
  obtain ⟨N1, hN1⟩ : ∃ N, N = w1.heap.size := ⟨_, rfl⟩
  rw [← hN1] at HJ1 HK HKK hN
  rw [← hN1]
  generalize w1.alloc (Obj.cells #[.int .i64 15, .int .i64 a, .int .i64 b, .int .i64 c, .int .i64 k, .int .i64 sub, .int .i64 sc, .int .i64 imm, .int .i64 lb] 34) = W at *
  clear hN1
  obtain ⟨d0, d1, d2, d3, d4, d5, d6, d7, d8, dz⟩ := HJ1.out
  clear dz
  have ra := HX1.out.rc a16
  have rb := HX1.out.rc b16
  have rc := HX1.out.rc c16
  have rf := HX1.out.fz (2 + a)
  clear rf
  go_quiet (fail)
  have g : W.grownBy (W.drewN nq) none := grown_drewN (World.grownBy.refl _ none) nq
  clear d0 d1 d2 d3 d4 d5 d6 d7 d8 ra rb rc
  have HX2 : Hid (IsC (W.drewN nq) h s1) := HX1.out.kept g
  have HV2 : Hid (Mc h w (W.drewN nq)) := HV1.out.grown g
  have HJ2 : Hid (InstAt (W.drewN nq) N1 ⟨15, a, b, c, k, sub, sc, imm, lb⟩) := HJ1.out.kept g (by simp)
  have HI2 : Hid (InstAt (W.drewN nq) w.heap.size Cc.zero) := HI1.out.kept g (by simp)
  clear g HX1 HV1 HJ1 HI1
  generalize W.drewN nq = W2 at *
  go_wp2_with fail
  refine tail_quiet 11 (by kernel_rfl) (by kernel_rfl) ?_
  have g : W2.grownBy W2.drew none := (grown_drew (World.grownBy.refl _ none))
  have HX5 : Hid (IsC W2.drew h s1) := HX2.out.kept g
  have HV5 : Hid (Mc h w W2.drew) := HV2.out.grown g
  have HJ5 : Hid (InstAt W2.drew N1 ⟨15, a, b, c, k, sub, sc, imm, lb⟩) := HJ2.out.kept g (by simp)
  have HI5 : Hid (InstAt W2.drew w.heap.size Cc.zero) := HI2.out.kept g (by simp)
  clear g HX2 HV2 HJ2 HI2
  generalize W2.drew = W5 at *
  obtain ⟨d0, d1, d2, d3, d4, d5, d6, d7, d8, dz⟩ := HJ5.out
  clear dz
  have ra := HX5.out.rc a16
  have rb := HX5.out.rc b16
  have rc := HX5.out.rc c16
  have rf := HX5.out.fz (2 + a)
  have ri := HX5.out.rc i16
  simp only [List.take_succ_cons, List.take_zero, List.drop_succ_cons, List.drop_zero]
  repeat (go_big_quiet_step (exact rfl))
  refine wpQuiet_nil ?_
  clear d0 d1 d2 d3 d4 d5 d6 d7 d8
  clear ri
  have HX6 : Hid (IsC (W5.setCell ⟨h.B, 2 + a, none⟩ (.int .u64 (s1.r imm))) h (s1.put a (s1.r imm))) := by exact HX5.out.put (a := a) a16 (HA.out imm)
  have HV6 : Hid (Mc h w (W5.setCell ⟨h.B, 2 + a, none⟩ (.int .u64 (s1.r imm)))) := HV5.out.setB _ _
  have HJ6 : Hid (InstAt (W5.setCell ⟨h.B, 2 + a, none⟩ (.int .u64 (s1.r imm))) N1 ⟨15, a, b, c, k, sub, sc, imm, lb⟩) := HJ5.out.setB HK.out _
  have HI6 : Hid (InstAt (W5.setCell ⟨h.B, 2 + a, none⟩ (.int .u64 (s1.r imm))) w.heap.size Cc.zero) := HI5.out.setB HK0.out _
  clear HX5 HV5 HJ5 HI5
  obtain ⟨e0, e1, e2, e3, e4, e5, e6, e7, e8, ez⟩ := HJ6.out
  clear ez
  obtain ⟨f0, f1, f2, f3, f4, f5, f6, f7, f8, fz⟩ := HI6.out
  have z0 := fz 0
  have z1 := fz 1
  have z2 := fz 2
  have z3 := fz 3
  have z4 := fz 4
  have z5 := fz 5
  have z6 := fz 6
  have z7 := fz 7
  have z8 := fz 8
  clear fz
  go_wp2_with fail
  have P9 := HI6.out.put9 ⟨15, a, b, c, k, sub, sc, imm, lb⟩
  have G9 := grown_put9 (W5.setCell ⟨h.B, 2 + a, none⟩ (.int .u64 (s1.r imm))) w.heap.size ⟨15, a, b, c, k, sub, sc, imm, lb⟩
  change bodyPost _ _ _ _ _ (put9 (W5.setCell ⟨h.B, 2 + a, none⟩ (.int .u64 (s1.r imm))) w.heap.size ⟨15, a, b, c, k, sub, sc, imm, lb⟩)
  have HX9 := HX6.out.far HX.out G9 (Nat.le_refl _)
  have HV9 := HV6.out.far G9 (Nat.le_refl _)
  generalize put9 (W5.setCell ⟨h.B, 2 + a, none⟩ (.int .u64 (s1.r imm))) w.heap.size ⟨15, a, b, c, k, sub, sc, imm, lb⟩ = W9 at *
  obtain ⟨q0, q1, q2, q3, q4, q5, q6, q7, q8, qz⟩ := P9
  refine bodyPost_ret (by simp [results, Tryz.results139, go_sem, q0, q1, q2, q3, q4, q5, q6, q7, q8]; try rfl) rfl ?_
  exact ⟨rfl, HX9, HV9⟩
set_option maxRecDepth 100000 in
set_option maxHeartbeats 4000000 in
theorem pr20t {w : World} {h : Pd} {s s1 : Ru.St} (x : IsC w h s) (a b c : Nat) (a16 : a < 16) (b16 : b < 16) (c16 : c < 16) (k sub sc lb : Int) (imm : Int)
    (HF : Hid (∀ W, IsC W h s → Calls Tryz.prog 140 #[.pointer (some ⟨h.B, 0, none⟩), .func (.func 141) #[] #[]] W fun r w' => r = .returned (.agg #[.int .i64 20, .int .i64 a, .int .i64 b, .int .i64 c, .int .i64 k, .int .i64 sub, .int .i64 sc, .int .i64 imm, .int .i64 lb]) ∧ IsC w' h s1 ∧ Mc h W w')) (hz : (s1.r a != 0) = true) :
    Calls Tryz.prog 139 #[.pointer (some ⟨h.B, 0, none⟩)] w fun r w' => r = .returned (.agg #[.int .i64 20, .int .i64 a, .int .i64 b, .int .i64 c, .int .i64 k, .int .i64 sub, .int .i64 sc, .int .i64 imm, .int .i64 lb]) ∧ IsC w' h (s1.goto (s1.pl + imm)) ∧ Mc h w w' := by
  have G := World.grownBy_alloc w (Obj.cells #[.int .i64 0, .int .i64 0, .int .i64 0, .int .i64 0, .int .i64 0, .int .i64 0, .int .i64 0, .int .i64 0, .int .i64 0] 34) none
  have HX0 : Hid (IsC (w.alloc (Obj.cells #[.int .i64 0, .int .i64 0, .int .i64 0, .int .i64 0, .int .i64 0, .int .i64 0, .int .i64 0, .int .i64 0, .int .i64 0] 34)) h s) := x.kept G
  have HI0 : Hid (InstAt (w.alloc (Obj.cells #[.int .i64 0, .int .i64 0, .int .i64 0, .int .i64 0, .int .i64 0, .int .i64 0, .int .i64 0, .int .i64 0, .int .i64 0] 34)) w.heap.size Cc.zero) := InstAt.new w Cc.zero
  have HX : Hid (IsC w h s) := x
  have HV0 : Hid (Mc h w (w.alloc (Obj.cells #[.int .i64 0, .int .i64 0, .int .i64 0, .int .i64 0, .int .i64 0, .int .i64 0, .int .i64 0, .int .i64 0, .int .i64 0] 34))) := Mc.refl.grown G
  have a16' : (a : Int) < 16 := by omega
  have b16' : (b : Int) < 16 := by omega
  have c16' : (c : Int) < 16 := by omega
  have eW : IntKind.u64.wrap imm = Ru.wr imm := by rw [IntKind.wrap_u64]; rfl
  clear x G
  go_enter Tryz.func139, Tryz.ntmps139
  go_wp2_with fail
  refine (HF.out _ HX0.out).mono ?_
  rintro r w1 ⟨rfl, x1, v1⟩
  have i1 : InstAt w1 w.heap.size Cc.zero := v1.inst HI0.out HX.out (Nat.le_refl _)
  have G1 := World.grownBy_alloc w1 (Obj.cells #[.int .i64 20, .int .i64 a, .int .i64 b, .int .i64 c, .int .i64 k, .int .i64 sub, .int .i64 sc, .int .i64 imm, .int .i64 lb] 34) none
  have HX1 : Hid (IsC (w1.alloc (Obj.cells #[.int .i64 20, .int .i64 a, .int .i64 b, .int .i64 c, .int .i64 k, .int .i64 sub, .int .i64 sc, .int .i64 imm, .int .i64 lb] 34)) h s1) := x1.kept G1
  have HI1 : Hid (InstAt (w1.alloc (Obj.cells #[.int .i64 20, .int .i64 a, .int .i64 b, .int .i64 c, .int .i64 k, .int .i64 sub, .int .i64 sc, .int .i64 imm, .int .i64 lb] 34)) w.heap.size Cc.zero) := i1.kept G1 (by simp)
  have HJ1 : Hid (InstAt (w1.alloc (Obj.cells #[.int .i64 20, .int .i64 a, .int .i64 b, .int .i64 c, .int .i64 k, .int .i64 sub, .int .i64 sc, .int .i64 imm, .int .i64 lb] 34)) w1.heap.size ⟨20, a, b, c, k, sub, sc, imm, lb⟩) := InstAt.new w1 ⟨20, a, b, c, k, sub, sc, imm, lb⟩
  have HV1 : Hid (Mc h w (w1.alloc (Obj.cells #[.int .i64 20, .int .i64 a, .int .i64 b, .int .i64 c, .int .i64 k, .int .i64 sub, .int .i64 sc, .int .i64 imm, .int .i64 lb] 34))) := (HV0.out.trans v1).grown G1
  have HA : Hid (∀ i, Ru.W64 (s1.r i)) := x1.ok.r
  have HW : Hid (Ru.W64 (Ru.wr imm)) := Ru.wr_w imm
  have hlt := i1.lt
  have HK0 : Hid (w.heap.size ≠ h.B) := fun e => by have := HX.out.hd.lt; omega
  have HK : Hid (w1.heap.size ≠ h.B) := fun e => by have := HX.out.hd.lt; omega
  have HKK : Hid (w.heap.size ≠ w1.heap.size) := fun e => by omega
  have hN : Hid (w.heap.size ≤ w1.heap.size) := by show w.heap.size ≤ w1.heap.size; omega
  clear HF HX0 HI0 HV0 G1 x1 v1 i1 hlt
  go_wp2_with fail
  obtain ⟨N1, hN1⟩ : ∃ N, N = w1.heap.size := ⟨_, rfl⟩
  rw [← hN1] at HJ1 HK HKK hN
  rw [← hN1]
  generalize w1.alloc (Obj.cells #[.int .i64 20, .int .i64 a, .int .i64 b, .int .i64 c, .int .i64 k, .int .i64 sub, .int .i64 sc, .int .i64 imm, .int .i64 lb] 34) = W at *
  clear hN1
  obtain ⟨d0, d1, d2, d3, d4, d5, d6, d7, d8, dz⟩ := HJ1.out
  clear dz
  have ra := HX1.out.rc a16
  have rb := HX1.out.rc b16
  have rc := HX1.out.rc c16
  have rf := HX1.out.fz (2 + a)
  clear rf
  go_quiet (fail)
  have g : W.grownBy (W.drewN nq) none := grown_drewN (World.grownBy.refl _ none) nq
  clear d0 d1 d2 d3 d4 d5 d6 d7 d8 ra rb rc
  have HX2 : Hid (IsC (W.drewN nq) h s1) := HX1.out.kept g
  have HV2 : Hid (Mc h w (W.drewN nq)) := HV1.out.grown g
  have HJ2 : Hid (InstAt (W.drewN nq) N1 ⟨20, a, b, c, k, sub, sc, imm, lb⟩) := HJ1.out.kept g (by simp)
  have HI2 : Hid (InstAt (W.drewN nq) w.heap.size Cc.zero) := HI1.out.kept g (by simp)
  clear g HX1 HV1 HJ1 HI1
  generalize W.drewN nq = W2 at *
  go_wp2_with fail
  refine tail_quiet 5 (by kernel_rfl) (by kernel_rfl) ?_
  have g : W2.grownBy W2.drew none := (grown_drew (World.grownBy.refl _ none))
  have HX5 : Hid (IsC W2.drew h s1) := HX2.out.kept g
  have HV5 : Hid (Mc h w W2.drew) := HV2.out.grown g
  have HJ5 : Hid (InstAt W2.drew N1 ⟨20, a, b, c, k, sub, sc, imm, lb⟩) := HJ2.out.kept g (by simp)
  have HI5 : Hid (InstAt W2.drew w.heap.size Cc.zero) := HI2.out.kept g (by simp)
  clear g HX2 HV2 HJ2 HI2
  generalize W2.drew = W5 at *
  obtain ⟨d0, d1, d2, d3, d4, d5, d6, d7, d8, dz⟩ := HJ5.out
  clear dz
  have ra := HX5.out.rc a16
  have rb := HX5.out.rc b16
  have rc := HX5.out.rc c16
  have rf := HX5.out.fz (2 + a)
  simp only [List.take_succ_cons, List.take_zero, List.drop_succ_cons, List.drop_zero]
  repeat (go_big_quiet_step (exact rfl))
  refine wpQuiet_nil ?_
  clear d0 d1 d2 d3 d4 d5 d6 d7 d8
  clear ra rb rc rf
  go_wp2_with fail
  refine (pjump HX5.out imm).mono ?_
  rintro r w6 ⟨rfl, x6, v6⟩
  have HX6 : Hid (IsC w6 h _) := x6
  have HV6 : Hid (Mc h w w6) := HV5.out.trans v6
  have HJ6 : Hid (InstAt w6 N1 ⟨20, a, b, c, k, sub, sc, imm, lb⟩) := v6.inst HJ5.out HX.out hN.out
  have HI6 : Hid (InstAt w6 w.heap.size Cc.zero) := v6.inst HI5.out HX.out (Nat.le_refl _)
  clear x6 v6 HX5 HV5 HJ5 HI5
  obtain ⟨e0, e1, e2, e3, e4, e5, e6, e7, e8, ez⟩ := HJ6.out
  clear ez
  obtain ⟨f0, f1, f2, f3, f4, f5, f6, f7, f8, fz⟩ := HI6.out
  have z0 := fz 0
  have z1 := fz 1
  have z2 := fz 2
  have z3 := fz 3
  have z4 := fz 4
  have z5 := fz 5
  have z6 := fz 6
  have z7 := fz 7
  have z8 := fz 8
  clear fz
  go_wp2_with fail
  have P9 := HI6.out.put9 ⟨20, a, b, c, k, sub, sc, imm, lb⟩
  have G9 := grown_put9 w6 w.heap.size ⟨20, a, b, c, k, sub, sc, imm, lb⟩
  change bodyPost _ _ _ _ _ (put9 w6 w.heap.size ⟨20, a, b, c, k, sub, sc, imm, lb⟩)
  have HX9 := HX6.out.far HX.out G9 (Nat.le_refl _)
  have HV9 := HV6.out.far G9 (Nat.le_refl _)
  generalize put9 w6 w.heap.size ⟨20, a, b, c, k, sub, sc, imm, lb⟩ = W9 at *
  obtain ⟨q0, q1, q2, q3, q4, q5, q6, q7, q8, qz⟩ := P9
  refine bodyPost_ret (by simp [results, Tryz.results139, go_sem, q0, q1, q2, q3, q4, q5, q6, q7, q8]; try rfl) rfl ?_
  exact ⟨rfl, HX9, HV9⟩
set_option maxRecDepth 100000 in
set_option maxHeartbeats 4000000 in
theorem pr20f {w : World} {h : Pd} {s s1 : Ru.St} (x : IsC w h s) (a b c : Nat) (a16 : a < 16) (b16 : b < 16) (c16 : c < 16) (k sub sc lb : Int) (imm : Int)
    (HF : Hid (∀ W, IsC W h s → Calls Tryz.prog 140 #[.pointer (some ⟨h.B, 0, none⟩), .func (.func 141) #[] #[]] W fun r w' => r = .returned (.agg #[.int .i64 20, .int .i64 a, .int .i64 b, .int .i64 c, .int .i64 k, .int .i64 sub, .int .i64 sc, .int .i64 imm, .int .i64 lb]) ∧ IsC w' h s1 ∧ Mc h W w')) (hz : (s1.r a != 0) = false) :
    Calls Tryz.prog 139 #[.pointer (some ⟨h.B, 0, none⟩)] w fun r w' => r = .returned (.agg #[.int .i64 20, .int .i64 a, .int .i64 b, .int .i64 c, .int .i64 k, .int .i64 sub, .int .i64 sc, .int .i64 imm, .int .i64 lb]) ∧ IsC w' h (s1) ∧ Mc h w w' := by
  have G := World.grownBy_alloc w (Obj.cells #[.int .i64 0, .int .i64 0, .int .i64 0, .int .i64 0, .int .i64 0, .int .i64 0, .int .i64 0, .int .i64 0, .int .i64 0] 34) none
  have HX0 : Hid (IsC (w.alloc (Obj.cells #[.int .i64 0, .int .i64 0, .int .i64 0, .int .i64 0, .int .i64 0, .int .i64 0, .int .i64 0, .int .i64 0, .int .i64 0] 34)) h s) := x.kept G
  have HI0 : Hid (InstAt (w.alloc (Obj.cells #[.int .i64 0, .int .i64 0, .int .i64 0, .int .i64 0, .int .i64 0, .int .i64 0, .int .i64 0, .int .i64 0, .int .i64 0] 34)) w.heap.size Cc.zero) := InstAt.new w Cc.zero
  have HX : Hid (IsC w h s) := x
  have HV0 : Hid (Mc h w (w.alloc (Obj.cells #[.int .i64 0, .int .i64 0, .int .i64 0, .int .i64 0, .int .i64 0, .int .i64 0, .int .i64 0, .int .i64 0, .int .i64 0] 34))) := Mc.refl.grown G
  have a16' : (a : Int) < 16 := by omega
  have b16' : (b : Int) < 16 := by omega
  have c16' : (c : Int) < 16 := by omega
  have eW : IntKind.u64.wrap imm = Ru.wr imm := by rw [IntKind.wrap_u64]; rfl
  clear x G
  go_enter Tryz.func139, Tryz.ntmps139
  go_wp2_with fail
  refine (HF.out _ HX0.out).mono ?_
  rintro r w1 ⟨rfl, x1, v1⟩
  have i1 : InstAt w1 w.heap.size Cc.zero := v1.inst HI0.out HX.out (Nat.le_refl _)
  have G1 := World.grownBy_alloc w1 (Obj.cells #[.int .i64 20, .int .i64 a, .int .i64 b, .int .i64 c, .int .i64 k, .int .i64 sub, .int .i64 sc, .int .i64 imm, .int .i64 lb] 34) none
  have HX1 : Hid (IsC (w1.alloc (Obj.cells #[.int .i64 20, .int .i64 a, .int .i64 b, .int .i64 c, .int .i64 k, .int .i64 sub, .int .i64 sc, .int .i64 imm, .int .i64 lb] 34)) h s1) := x1.kept G1
  have HI1 : Hid (InstAt (w1.alloc (Obj.cells #[.int .i64 20, .int .i64 a, .int .i64 b, .int .i64 c, .int .i64 k, .int .i64 sub, .int .i64 sc, .int .i64 imm, .int .i64 lb] 34)) w.heap.size Cc.zero) := i1.kept G1 (by simp)
  have HJ1 : Hid (InstAt (w1.alloc (Obj.cells #[.int .i64 20, .int .i64 a, .int .i64 b, .int .i64 c, .int .i64 k, .int .i64 sub, .int .i64 sc, .int .i64 imm, .int .i64 lb] 34)) w1.heap.size ⟨20, a, b, c, k, sub, sc, imm, lb⟩) := InstAt.new w1 ⟨20, a, b, c, k, sub, sc, imm, lb⟩
  have HV1 : Hid (Mc h w (w1.alloc (Obj.cells #[.int .i64 20, .int .i64 a, .int .i64 b, .int .i64 c, .int .i64 k, .int .i64 sub, .int .i64 sc, .int .i64 imm, .int .i64 lb] 34))) := (HV0.out.trans v1).grown G1
  have HA : Hid (∀ i, Ru.W64 (s1.r i)) := x1.ok.r
  have HW : Hid (Ru.W64 (Ru.wr imm)) := Ru.wr_w imm
  have hlt := i1.lt
  have HK0 : Hid (w.heap.size ≠ h.B) := fun e => by have := HX.out.hd.lt; omega
  have HK : Hid (w1.heap.size ≠ h.B) := fun e => by have := HX.out.hd.lt; omega
  have HKK : Hid (w.heap.size ≠ w1.heap.size) := fun e => by omega
  have hN : Hid (w.heap.size ≤ w1.heap.size) := by show w.heap.size ≤ w1.heap.size; omega
  clear HF HX0 HI0 HV0 G1 x1 v1 i1 hlt
  go_wp2_with fail
  obtain ⟨N1, hN1⟩ : ∃ N, N = w1.heap.size := ⟨_, rfl⟩
  rw [← hN1] at HJ1 HK HKK hN
  rw [← hN1]
  generalize w1.alloc (Obj.cells #[.int .i64 20, .int .i64 a, .int .i64 b, .int .i64 c, .int .i64 k, .int .i64 sub, .int .i64 sc, .int .i64 imm, .int .i64 lb] 34) = W at *
  clear hN1
  obtain ⟨d0, d1, d2, d3, d4, d5, d6, d7, d8, dz⟩ := HJ1.out
  clear dz
  have ra := HX1.out.rc a16
  have rb := HX1.out.rc b16
  have rc := HX1.out.rc c16
  have rf := HX1.out.fz (2 + a)
  clear rf
  go_quiet (fail)
  have g : W.grownBy (W.drewN nq) none := grown_drewN (World.grownBy.refl _ none) nq
  clear d0 d1 d2 d3 d4 d5 d6 d7 d8 ra rb rc
  have HX2 : Hid (IsC (W.drewN nq) h s1) := HX1.out.kept g
  have HV2 : Hid (Mc h w (W.drewN nq)) := HV1.out.grown g
  have HJ2 : Hid (InstAt (W.drewN nq) N1 ⟨20, a, b, c, k, sub, sc, imm, lb⟩) := HJ1.out.kept g (by simp)
  have HI2 : Hid (InstAt (W.drewN nq) w.heap.size Cc.zero) := HI1.out.kept g (by simp)
  clear g HX1 HV1 HJ1 HI1
  generalize W.drewN nq = W2 at *
  obtain ⟨e0, e1, e2, e3, e4, e5, e6, e7, e8, ez⟩ := HJ2.out
  clear ez
  obtain ⟨f0, f1, f2, f3, f4, f5, f6, f7, f8, fz⟩ := HI2.out
  have z0 := fz 0
  have z1 := fz 1
  have z2 := fz 2
  have z3 := fz 3
  have z4 := fz 4
  have z5 := fz 5
  have z6 := fz 6
  have z7 := fz 7
  have z8 := fz 8
  clear fz
  go_wp2_with fail
  have P9 := HI2.out.put9 ⟨20, a, b, c, k, sub, sc, imm, lb⟩
  have G9 := grown_put9 W2 w.heap.size ⟨20, a, b, c, k, sub, sc, imm, lb⟩
  change bodyPost _ _ _ _ _ (put9 W2 w.heap.size ⟨20, a, b, c, k, sub, sc, imm, lb⟩)
  have HX9 := HX2.out.far HX.out G9 (Nat.le_refl _)
  have HV9 := HV2.out.far G9 (Nat.le_refl _)
  generalize put9 W2 w.heap.size ⟨20, a, b, c, k, sub, sc, imm, lb⟩ = W9 at *
  obtain ⟨q0, q1, q2, q3, q4, q5, q6, q7, q8, qz⟩ := P9
  refine bodyPost_ret (by simp [results, Tryz.results139, go_sem, q0, q1, q2, q3, q4, q5, q6, q7, q8]; try rfl) rfl ?_
  exact ⟨rfl, HX9, HV9⟩
set_option maxRecDepth 100000 in
set_option maxHeartbeats 4000000 in
theorem pr21t {w : World} {h : Pd} {s s1 : Ru.St} (x : IsC w h s) (a b c : Nat) (a16 : a < 16) (b16 : b < 16) (c16 : c < 16) (k sub sc lb : Int) (imm : Int)
    (HF : Hid (∀ W, IsC W h s → Calls Tryz.prog 140 #[.pointer (some ⟨h.B, 0, none⟩), .func (.func 141) #[] #[]] W fun r w' => r = .returned (.agg #[.int .i64 21, .int .i64 a, .int .i64 b, .int .i64 c, .int .i64 k, .int .i64 sub, .int .i64 sc, .int .i64 imm, .int .i64 lb]) ∧ IsC w' h s1 ∧ Mc h W w')) (hz : (s1.r a == 0) = true) :
    Calls Tryz.prog 139 #[.pointer (some ⟨h.B, 0, none⟩)] w fun r w' => r = .returned (.agg #[.int .i64 21, .int .i64 a, .int .i64 b, .int .i64 c, .int .i64 k, .int .i64 sub, .int .i64 sc, .int .i64 imm, .int .i64 lb]) ∧ IsC w' h (s1.goto (s1.pl + imm)) ∧ Mc h w w' := by
  have G := World.grownBy_alloc w (Obj.cells #[.int .i64 0, .int .i64 0, .int .i64 0, .int .i64 0, .int .i64 0, .int .i64 0, .int .i64 0, .int .i64 0, .int .i64 0] 34) none
  have HX0 : Hid (IsC (w.alloc (Obj.cells #[.int .i64 0, .int .i64 0, .int .i64 0, .int .i64 0, .int .i64 0, .int .i64 0, .int .i64 0, .int .i64 0, .int .i64 0] 34)) h s) := x.kept G
  have HI0 : Hid (InstAt (w.alloc (Obj.cells #[.int .i64 0, .int .i64 0, .int .i64 0, .int .i64 0, .int .i64 0, .int .i64 0, .int .i64 0, .int .i64 0, .int .i64 0] 34)) w.heap.size Cc.zero) := InstAt.new w Cc.zero
  have HX : Hid (IsC w h s) := x
  have HV0 : Hid (Mc h w (w.alloc (Obj.cells #[.int .i64 0, .int .i64 0, .int .i64 0, .int .i64 0, .int .i64 0, .int .i64 0, .int .i64 0, .int .i64 0, .int .i64 0] 34))) := Mc.refl.grown G
  have a16' : (a : Int) < 16 := by omega
  have b16' : (b : Int) < 16 := by omega
  have c16' : (c : Int) < 16 := by omega
  have eW : IntKind.u64.wrap imm = Ru.wr imm := by rw [IntKind.wrap_u64]; rfl
  clear x G
  go_enter Tryz.func139, Tryz.ntmps139
  go_wp2_with fail
  refine (HF.out _ HX0.out).mono ?_
  rintro r w1 ⟨rfl, x1, v1⟩
  have i1 : InstAt w1 w.heap.size Cc.zero := v1.inst HI0.out HX.out (Nat.le_refl _)
  have G1 := World.grownBy_alloc w1 (Obj.cells #[.int .i64 21, .int .i64 a, .int .i64 b, .int .i64 c, .int .i64 k, .int .i64 sub, .int .i64 sc, .int .i64 imm, .int .i64 lb] 34) none
  have HX1 : Hid (IsC (w1.alloc (Obj.cells #[.int .i64 21, .int .i64 a, .int .i64 b, .int .i64 c, .int .i64 k, .int .i64 sub, .int .i64 sc, .int .i64 imm, .int .i64 lb] 34)) h s1) := x1.kept G1
  have HI1 : Hid (InstAt (w1.alloc (Obj.cells #[.int .i64 21, .int .i64 a, .int .i64 b, .int .i64 c, .int .i64 k, .int .i64 sub, .int .i64 sc, .int .i64 imm, .int .i64 lb] 34)) w.heap.size Cc.zero) := i1.kept G1 (by simp)
  have HJ1 : Hid (InstAt (w1.alloc (Obj.cells #[.int .i64 21, .int .i64 a, .int .i64 b, .int .i64 c, .int .i64 k, .int .i64 sub, .int .i64 sc, .int .i64 imm, .int .i64 lb] 34)) w1.heap.size ⟨21, a, b, c, k, sub, sc, imm, lb⟩) := InstAt.new w1 ⟨21, a, b, c, k, sub, sc, imm, lb⟩
  have HV1 : Hid (Mc h w (w1.alloc (Obj.cells #[.int .i64 21, .int .i64 a, .int .i64 b, .int .i64 c, .int .i64 k, .int .i64 sub, .int .i64 sc, .int .i64 imm, .int .i64 lb] 34))) := (HV0.out.trans v1).grown G1
  have HA : Hid (∀ i, Ru.W64 (s1.r i)) := x1.ok.r
  have HW : Hid (Ru.W64 (Ru.wr imm)) := Ru.wr_w imm
  have hlt := i1.lt
  have HK0 : Hid (w.heap.size ≠ h.B) := fun e => by have := HX.out.hd.lt; omega
  have HK : Hid (w1.heap.size ≠ h.B) := fun e => by have := HX.out.hd.lt; omega
  have HKK : Hid (w.heap.size ≠ w1.heap.size) := fun e => by omega
  have hN : Hid (w.heap.size ≤ w1.heap.size) := by show w.heap.size ≤ w1.heap.size; omega
  clear HF HX0 HI0 HV0 G1 x1 v1 i1 hlt
  go_wp2_with fail
  obtain ⟨N1, hN1⟩ : ∃ N, N = w1.heap.size := ⟨_, rfl⟩
  rw [← hN1] at HJ1 HK HKK hN
  rw [← hN1]
  generalize w1.alloc (Obj.cells #[.int .i64 21, .int .i64 a, .int .i64 b, .int .i64 c, .int .i64 k, .int .i64 sub, .int .i64 sc, .int .i64 imm, .int .i64 lb] 34) = W at *
  clear hN1
  obtain ⟨d0, d1, d2, d3, d4, d5, d6, d7, d8, dz⟩ := HJ1.out
  clear dz
  have ra := HX1.out.rc a16
  have rb := HX1.out.rc b16
  have rc := HX1.out.rc c16
  have rf := HX1.out.fz (2 + a)
  clear rf
  go_quiet (fail)
  have g : W.grownBy (W.drewN nq) none := grown_drewN (World.grownBy.refl _ none) nq
  clear d0 d1 d2 d3 d4 d5 d6 d7 d8 ra rb rc
  have HX2 : Hid (IsC (W.drewN nq) h s1) := HX1.out.kept g
  have HV2 : Hid (Mc h w (W.drewN nq)) := HV1.out.grown g
  have HJ2 : Hid (InstAt (W.drewN nq) N1 ⟨21, a, b, c, k, sub, sc, imm, lb⟩) := HJ1.out.kept g (by simp)
  have HI2 : Hid (InstAt (W.drewN nq) w.heap.size Cc.zero) := HI1.out.kept g (by simp)
  clear g HX1 HV1 HJ1 HI1
  generalize W.drewN nq = W2 at *
  go_wp2_with fail
  refine tail_quiet 5 (by kernel_rfl) (by kernel_rfl) ?_
  have g : W2.grownBy W2.drew none := (grown_drew (World.grownBy.refl _ none))
  have HX5 : Hid (IsC W2.drew h s1) := HX2.out.kept g
  have HV5 : Hid (Mc h w W2.drew) := HV2.out.grown g
  have HJ5 : Hid (InstAt W2.drew N1 ⟨21, a, b, c, k, sub, sc, imm, lb⟩) := HJ2.out.kept g (by simp)
  have HI5 : Hid (InstAt W2.drew w.heap.size Cc.zero) := HI2.out.kept g (by simp)
  clear g HX2 HV2 HJ2 HI2
  generalize W2.drew = W5 at *
  obtain ⟨d0, d1, d2, d3, d4, d5, d6, d7, d8, dz⟩ := HJ5.out
  clear dz
  have ra := HX5.out.rc a16
  have rb := HX5.out.rc b16
  have rc := HX5.out.rc c16
  have rf := HX5.out.fz (2 + a)
  simp only [List.take_succ_cons, List.take_zero, List.drop_succ_cons, List.drop_zero]
  repeat (go_big_quiet_step (exact rfl))
  refine wpQuiet_nil ?_
  clear d0 d1 d2 d3 d4 d5 d6 d7 d8
  clear ra rb rc rf
  go_wp2_with fail
  refine (pjump HX5.out imm).mono ?_
  rintro r w6 ⟨rfl, x6, v6⟩
  have HX6 : Hid (IsC w6 h _) := x6
  have HV6 : Hid (Mc h w w6) := HV5.out.trans v6
  have HJ6 : Hid (InstAt w6 N1 ⟨21, a, b, c, k, sub, sc, imm, lb⟩) := v6.inst HJ5.out HX.out hN.out
  have HI6 : Hid (InstAt w6 w.heap.size Cc.zero) := v6.inst HI5.out HX.out (Nat.le_refl _)
  clear x6 v6 HX5 HV5 HJ5 HI5
  obtain ⟨e0, e1, e2, e3, e4, e5, e6, e7, e8, ez⟩ := HJ6.out
  clear ez
  obtain ⟨f0, f1, f2, f3, f4, f5, f6, f7, f8, fz⟩ := HI6.out
  have z0 := fz 0
  have z1 := fz 1
  have z2 := fz 2
  have z3 := fz 3
  have z4 := fz 4
  have z5 := fz 5
  have z6 := fz 6
  have z7 := fz 7
  have z8 := fz 8
  clear fz
  go_wp2_with fail
  have P9 := HI6.out.put9 ⟨21, a, b, c, k, sub, sc, imm, lb⟩
  have G9 := grown_put9 w6 w.heap.size ⟨21, a, b, c, k, sub, sc, imm, lb⟩
  change bodyPost _ _ _ _ _ (put9 w6 w.heap.size ⟨21, a, b, c, k, sub, sc, imm, lb⟩)
  have HX9 := HX6.out.far HX.out G9 (Nat.le_refl _)
  have HV9 := HV6.out.far G9 (Nat.le_refl _)
  generalize put9 w6 w.heap.size ⟨21, a, b, c, k, sub, sc, imm, lb⟩ = W9 at *
  obtain ⟨q0, q1, q2, q3, q4, q5, q6, q7, q8, qz⟩ := P9
  refine bodyPost_ret (by simp [results, Tryz.results139, go_sem, q0, q1, q2, q3, q4, q5, q6, q7, q8]; try rfl) rfl ?_
  exact ⟨rfl, HX9, HV9⟩
set_option maxRecDepth 100000 in
set_option maxHeartbeats 4000000 in
theorem pr21f {w : World} {h : Pd} {s s1 : Ru.St} (x : IsC w h s) (a b c : Nat) (a16 : a < 16) (b16 : b < 16) (c16 : c < 16) (k sub sc lb : Int) (imm : Int)
    (HF : Hid (∀ W, IsC W h s → Calls Tryz.prog 140 #[.pointer (some ⟨h.B, 0, none⟩), .func (.func 141) #[] #[]] W fun r w' => r = .returned (.agg #[.int .i64 21, .int .i64 a, .int .i64 b, .int .i64 c, .int .i64 k, .int .i64 sub, .int .i64 sc, .int .i64 imm, .int .i64 lb]) ∧ IsC w' h s1 ∧ Mc h W w')) (hz : (s1.r a == 0) = false) :
    Calls Tryz.prog 139 #[.pointer (some ⟨h.B, 0, none⟩)] w fun r w' => r = .returned (.agg #[.int .i64 21, .int .i64 a, .int .i64 b, .int .i64 c, .int .i64 k, .int .i64 sub, .int .i64 sc, .int .i64 imm, .int .i64 lb]) ∧ IsC w' h (s1) ∧ Mc h w w' := by
  have G := World.grownBy_alloc w (Obj.cells #[.int .i64 0, .int .i64 0, .int .i64 0, .int .i64 0, .int .i64 0, .int .i64 0, .int .i64 0, .int .i64 0, .int .i64 0] 34) none
  have HX0 : Hid (IsC (w.alloc (Obj.cells #[.int .i64 0, .int .i64 0, .int .i64 0, .int .i64 0, .int .i64 0, .int .i64 0, .int .i64 0, .int .i64 0, .int .i64 0] 34)) h s) := x.kept G
  have HI0 : Hid (InstAt (w.alloc (Obj.cells #[.int .i64 0, .int .i64 0, .int .i64 0, .int .i64 0, .int .i64 0, .int .i64 0, .int .i64 0, .int .i64 0, .int .i64 0] 34)) w.heap.size Cc.zero) := InstAt.new w Cc.zero
  have HX : Hid (IsC w h s) := x
  have HV0 : Hid (Mc h w (w.alloc (Obj.cells #[.int .i64 0, .int .i64 0, .int .i64 0, .int .i64 0, .int .i64 0, .int .i64 0, .int .i64 0, .int .i64 0, .int .i64 0] 34))) := Mc.refl.grown G
  have a16' : (a : Int) < 16 := by omega
  have b16' : (b : Int) < 16 := by omega
  have c16' : (c : Int) < 16 := by omega
  have eW : IntKind.u64.wrap imm = Ru.wr imm := by rw [IntKind.wrap_u64]; rfl
  clear x G
  go_enter Tryz.func139, Tryz.ntmps139
  go_wp2_with fail
  refine (HF.out _ HX0.out).mono ?_
  rintro r w1 ⟨rfl, x1, v1⟩
  have i1 : InstAt w1 w.heap.size Cc.zero := v1.inst HI0.out HX.out (Nat.le_refl _)
  have G1 := World.grownBy_alloc w1 (Obj.cells #[.int .i64 21, .int .i64 a, .int .i64 b, .int .i64 c, .int .i64 k, .int .i64 sub, .int .i64 sc, .int .i64 imm, .int .i64 lb] 34) none
  have HX1 : Hid (IsC (w1.alloc (Obj.cells #[.int .i64 21, .int .i64 a, .int .i64 b, .int .i64 c, .int .i64 k, .int .i64 sub, .int .i64 sc, .int .i64 imm, .int .i64 lb] 34)) h s1) := x1.kept G1
  have HI1 : Hid (InstAt (w1.alloc (Obj.cells #[.int .i64 21, .int .i64 a, .int .i64 b, .int .i64 c, .int .i64 k, .int .i64 sub, .int .i64 sc, .int .i64 imm, .int .i64 lb] 34)) w.heap.size Cc.zero) := i1.kept G1 (by simp)
  have HJ1 : Hid (InstAt (w1.alloc (Obj.cells #[.int .i64 21, .int .i64 a, .int .i64 b, .int .i64 c, .int .i64 k, .int .i64 sub, .int .i64 sc, .int .i64 imm, .int .i64 lb] 34)) w1.heap.size ⟨21, a, b, c, k, sub, sc, imm, lb⟩) := InstAt.new w1 ⟨21, a, b, c, k, sub, sc, imm, lb⟩
  have HV1 : Hid (Mc h w (w1.alloc (Obj.cells #[.int .i64 21, .int .i64 a, .int .i64 b, .int .i64 c, .int .i64 k, .int .i64 sub, .int .i64 sc, .int .i64 imm, .int .i64 lb] 34))) := (HV0.out.trans v1).grown G1
  have HA : Hid (∀ i, Ru.W64 (s1.r i)) := x1.ok.r
  have HW : Hid (Ru.W64 (Ru.wr imm)) := Ru.wr_w imm
  have hlt := i1.lt
  have HK0 : Hid (w.heap.size ≠ h.B) := fun e => by have := HX.out.hd.lt; omega
  have HK : Hid (w1.heap.size ≠ h.B) := fun e => by have := HX.out.hd.lt; omega
  have HKK : Hid (w.heap.size ≠ w1.heap.size) := fun e => by omega
  have hN : Hid (w.heap.size ≤ w1.heap.size) := by show w.heap.size ≤ w1.heap.size; omega
  clear HF HX0 HI0 HV0 G1 x1 v1 i1 hlt
  go_wp2_with fail
  obtain ⟨N1, hN1⟩ : ∃ N, N = w1.heap.size := ⟨_, rfl⟩
  rw [← hN1] at HJ1 HK HKK hN
  rw [← hN1]
  generalize w1.alloc (Obj.cells #[.int .i64 21, .int .i64 a, .int .i64 b, .int .i64 c, .int .i64 k, .int .i64 sub, .int .i64 sc, .int .i64 imm, .int .i64 lb] 34) = W at *
  clear hN1
  obtain ⟨d0, d1, d2, d3, d4, d5, d6, d7, d8, dz⟩ := HJ1.out
  clear dz
  have ra := HX1.out.rc a16
  have rb := HX1.out.rc b16
  have rc := HX1.out.rc c16
  have rf := HX1.out.fz (2 + a)
  clear rf
  go_quiet (fail)
  have g : W.grownBy (W.drewN nq) none := grown_drewN (World.grownBy.refl _ none) nq
  clear d0 d1 d2 d3 d4 d5 d6 d7 d8 ra rb rc
  have HX2 : Hid (IsC (W.drewN nq) h s1) := HX1.out.kept g
  have HV2 : Hid (Mc h w (W.drewN nq)) := HV1.out.grown g
  have HJ2 : Hid (InstAt (W.drewN nq) N1 ⟨21, a, b, c, k, sub, sc, imm, lb⟩) := HJ1.out.kept g (by simp)
  have HI2 : Hid (InstAt (W.drewN nq) w.heap.size Cc.zero) := HI1.out.kept g (by simp)
  clear g HX1 HV1 HJ1 HI1
  generalize W.drewN nq = W2 at *
  obtain ⟨e0, e1, e2, e3, e4, e5, e6, e7, e8, ez⟩ := HJ2.out
  clear ez
  obtain ⟨f0, f1, f2, f3, f4, f5, f6, f7, f8, fz⟩ := HI2.out
  have z0 := fz 0
  have z1 := fz 1
  have z2 := fz 2
  have z3 := fz 3
  have z4 := fz 4
  have z5 := fz 5
  have z6 := fz 6
  have z7 := fz 7
  have z8 := fz 8
  clear fz
  go_wp2_with fail
  have P9 := HI2.out.put9 ⟨21, a, b, c, k, sub, sc, imm, lb⟩
  have G9 := grown_put9 W2 w.heap.size ⟨21, a, b, c, k, sub, sc, imm, lb⟩
  change bodyPost _ _ _ _ _ (put9 W2 w.heap.size ⟨21, a, b, c, k, sub, sc, imm, lb⟩)
  have HX9 := HX2.out.far HX.out G9 (Nat.le_refl _)
  have HV9 := HV2.out.far G9 (Nat.le_refl _)
  generalize put9 W2 w.heap.size ⟨21, a, b, c, k, sub, sc, imm, lb⟩ = W9 at *
  obtain ⟨q0, q1, q2, q3, q4, q5, q6, q7, q8, qz⟩ := P9
  refine bodyPost_ret (by simp [results, Tryz.results139, go_sem, q0, q1, q2, q3, q4, q5, q6, q7, q8]; try rfl) rfl ?_
  exact ⟨rfl, HX9, HV9⟩
set_option maxRecDepth 100000 in
set_option maxHeartbeats 4000000 in
theorem prd {w : World} {h : Pd} {s s1 : Ru.St} (x : IsC w h s) (op : Int) (a b c : Nat) (a16 : a < 16) (b16 : b < 16) (c16 : c < 16) (k sub sc lb : Int) (imm : Int)
    (HF : Hid (∀ W, IsC W h s → Calls Tryz.prog 140 #[.pointer (some ⟨h.B, 0, none⟩), .func (.func 141) #[] #[]] W fun r w' => r = .returned (.agg #[.int .i64 op, .int .i64 a, .int .i64 b, .int .i64 c, .int .i64 k, .int .i64 sub, .int .i64 sc, .int .i64 imm, .int .i64 lb]) ∧ IsC w' h s1 ∧ Mc h W w')) (s2 : Ru.St) (o2 : (op == 2) = false) (o4 : (op == 4) = false) (o7 : (op == 7) = false) (o9 : (op == 9) = false) (o15 : (op == 15) = false) (o20 : (op == 20) = false) (o21 : (op == 21) = false) (HB : Hid (∀ W, IsC W h s1 → Calls Tryz.prog 145 #[.pointer (some ⟨h.B, 0, none⟩), .agg #[.int .i64 op, .int .i64 a, .int .i64 b, .int .i64 c, .int .i64 k, .int .i64 sub, .int .i64 sc, .int .i64 imm, .int .i64 lb]] W fun r w' => r = .returned (.tuple #[]) ∧ IsC w' h s2 ∧ Mc h W w')) :
    Calls Tryz.prog 139 #[.pointer (some ⟨h.B, 0, none⟩)] w fun r w' => r = .returned (.agg #[.int .i64 op, .int .i64 a, .int .i64 b, .int .i64 c, .int .i64 k, .int .i64 sub, .int .i64 sc, .int .i64 imm, .int .i64 lb]) ∧ IsC w' h (s2) ∧ Mc h w w' := by
  have G := World.grownBy_alloc w (Obj.cells #[.int .i64 0, .int .i64 0, .int .i64 0, .int .i64 0, .int .i64 0, .int .i64 0, .int .i64 0, .int .i64 0, .int .i64 0] 34) none
  have HX0 : Hid (IsC (w.alloc (Obj.cells #[.int .i64 0, .int .i64 0, .int .i64 0, .int .i64 0, .int .i64 0, .int .i64 0, .int .i64 0, .int .i64 0, .int .i64 0] 34)) h s) := x.kept G
  have HI0 : Hid (InstAt (w.alloc (Obj.cells #[.int .i64 0, .int .i64 0, .int .i64 0, .int .i64 0, .int .i64 0, .int .i64 0, .int .i64 0, .int .i64 0, .int .i64 0] 34)) w.heap.size Cc.zero) := InstAt.new w Cc.zero
  have HX : Hid (IsC w h s) := x
  have HV0 : Hid (Mc h w (w.alloc (Obj.cells #[.int .i64 0, .int .i64 0, .int .i64 0, .int .i64 0, .int .i64 0, .int .i64 0, .int .i64 0, .int .i64 0, .int .i64 0] 34))) := Mc.refl.grown G
  have a16' : (a : Int) < 16 := by omega
  have b16' : (b : Int) < 16 := by omega
  have c16' : (c : Int) < 16 := by omega
  have eW : IntKind.u64.wrap imm = Ru.wr imm := by rw [IntKind.wrap_u64]; rfl
  clear x G
  go_enter Tryz.func139, Tryz.ntmps139
  go_wp2_with fail
  refine (HF.out _ HX0.out).mono ?_
  rintro r w1 ⟨rfl, x1, v1⟩
  have i1 : InstAt w1 w.heap.size Cc.zero := v1.inst HI0.out HX.out (Nat.le_refl _)
  have G1 := World.grownBy_alloc w1 (Obj.cells #[.int .i64 op, .int .i64 a, .int .i64 b, .int .i64 c, .int .i64 k, .int .i64 sub, .int .i64 sc, .int .i64 imm, .int .i64 lb] 34) none
  have HX1 : Hid (IsC (w1.alloc (Obj.cells #[.int .i64 op, .int .i64 a, .int .i64 b, .int .i64 c, .int .i64 k, .int .i64 sub, .int .i64 sc, .int .i64 imm, .int .i64 lb] 34)) h s1) := x1.kept G1
  have HI1 : Hid (InstAt (w1.alloc (Obj.cells #[.int .i64 op, .int .i64 a, .int .i64 b, .int .i64 c, .int .i64 k, .int .i64 sub, .int .i64 sc, .int .i64 imm, .int .i64 lb] 34)) w.heap.size Cc.zero) := i1.kept G1 (by simp)
  have HJ1 : Hid (InstAt (w1.alloc (Obj.cells #[.int .i64 op, .int .i64 a, .int .i64 b, .int .i64 c, .int .i64 k, .int .i64 sub, .int .i64 sc, .int .i64 imm, .int .i64 lb] 34)) w1.heap.size ⟨op, a, b, c, k, sub, sc, imm, lb⟩) := InstAt.new w1 ⟨op, a, b, c, k, sub, sc, imm, lb⟩
  have HV1 : Hid (Mc h w (w1.alloc (Obj.cells #[.int .i64 op, .int .i64 a, .int .i64 b, .int .i64 c, .int .i64 k, .int .i64 sub, .int .i64 sc, .int .i64 imm, .int .i64 lb] 34))) := (HV0.out.trans v1).grown G1
  have HA : Hid (∀ i, Ru.W64 (s1.r i)) := x1.ok.r
  have HW : Hid (Ru.W64 (Ru.wr imm)) := Ru.wr_w imm
  have hlt := i1.lt
  have HK0 : Hid (w.heap.size ≠ h.B) := fun e => by have := HX.out.hd.lt; omega
  have HK : Hid (w1.heap.size ≠ h.B) := fun e => by have := HX.out.hd.lt; omega
  have HKK : Hid (w.heap.size ≠ w1.heap.size) := fun e => by omega
  have hN : Hid (w.heap.size ≤ w1.heap.size) := by show w.heap.size ≤ w1.heap.size; omega
  clear HF HX0 HI0 HV0 G1 x1 v1 i1 hlt
  go_wp2_with fail
  obtain ⟨N1, hN1⟩ : ∃ N, N = w1.heap.size := ⟨_, rfl⟩
  rw [← hN1] at HJ1 HK HKK hN
  rw [← hN1]
  generalize w1.alloc (Obj.cells #[.int .i64 op, .int .i64 a, .int .i64 b, .int .i64 c, .int .i64 k, .int .i64 sub, .int .i64 sc, .int .i64 imm, .int .i64 lb] 34) = W at *
  clear hN1
  refine tail_quiet 4 (by kernel_rfl) (by kernel_rfl) ?_
  have g : W.grownBy W.drew none := (grown_drew (World.grownBy.refl _ none))
  have HX5 : Hid (IsC W.drew h s1) := HX1.out.kept g
  have HV5 : Hid (Mc h w W.drew) := HV1.out.grown g
  have HJ5 : Hid (InstAt W.drew N1 ⟨op, a, b, c, k, sub, sc, imm, lb⟩) := HJ1.out.kept g (by simp)
  have HI5 : Hid (InstAt W.drew w.heap.size Cc.zero) := HI1.out.kept g (by simp)
  clear g HX1 HV1 HJ1 HI1
  generalize W.drew = W5 at *
  obtain ⟨d0, d1, d2, d3, d4, d5, d6, d7, d8, dz⟩ := HJ5.out
  clear dz
  have ra := HX5.out.rc a16
  have rb := HX5.out.rc b16
  have rc := HX5.out.rc c16
  have rf := HX5.out.fz (2 + a)
  simp only [List.take_succ_cons, List.take_zero, List.drop_succ_cons, List.drop_zero]
  repeat (go_big_quiet_step (exact rfl))
  refine wpQuiet_nil ?_
  clear d0 d1 d2 d3 d4 d5 d6 d7 d8
  clear ra rb rc rf
  go_wp2_with fail
  refine (HB.out _ HX5.out).mono ?_
  rintro r w6 ⟨rfl, x6, v6⟩
  have HX6 : Hid (IsC w6 h _) := x6
  have HV6 : Hid (Mc h w w6) := HV5.out.trans v6
  have HJ6 : Hid (InstAt w6 N1 ⟨op, a, b, c, k, sub, sc, imm, lb⟩) := v6.inst HJ5.out HX.out hN.out
  have HI6 : Hid (InstAt w6 w.heap.size Cc.zero) := v6.inst HI5.out HX.out (Nat.le_refl _)
  clear x6 v6 HX5 HV5 HJ5 HI5
  obtain ⟨e0, e1, e2, e3, e4, e5, e6, e7, e8, ez⟩ := HJ6.out
  clear ez
  obtain ⟨f0, f1, f2, f3, f4, f5, f6, f7, f8, fz⟩ := HI6.out
  have z0 := fz 0
  have z1 := fz 1
  have z2 := fz 2
  have z3 := fz 3
  have z4 := fz 4
  have z5 := fz 5
  have z6 := fz 6
  have z7 := fz 7
  have z8 := fz 8
  clear fz
  go_wp2_with fail
  have P9 := HI6.out.put9 ⟨op, a, b, c, k, sub, sc, imm, lb⟩
  have G9 := grown_put9 w6 w.heap.size ⟨op, a, b, c, k, sub, sc, imm, lb⟩
  change bodyPost _ _ _ _ _ (put9 w6 w.heap.size ⟨op, a, b, c, k, sub, sc, imm, lb⟩)
  have HX9 := HX6.out.far HX.out G9 (Nat.le_refl _)
  have HV9 := HV6.out.far G9 (Nat.le_refl _)
  generalize put9 w6 w.heap.size ⟨op, a, b, c, k, sub, sc, imm, lb⟩ = W9 at *
  obtain ⟨q0, q1, q2, q3, q4, q5, q6, q7, q8, qz⟩ := P9
  refine bodyPost_ret (by simp [results, Tryz.results139, go_sem, q0, q1, q2, q3, q4, q5, q6, q7, q8]; try rfl) rfl ?_
  exact ⟨rfl, HX9, HV9⟩
set_option maxRecDepth 100000 in
set_option maxHeartbeats 4000000 in
theorem prdn {w : World} {h : Pd} {s s1 : Ru.St} (x : IsC w h s) (op : Int) (a b c : Nat) (a16 : a < 16) (b16 : b < 16) (c16 : c < 16) (k sub sc lb : Int) (imm : Int)
    (HF : Hid (∀ W, IsC W h s → Calls Tryz.prog 140 #[.pointer (some ⟨h.B, 0, none⟩), .func (.func 141) #[] #[]] W fun r w' => r = .returned (.agg #[.int .i64 op, .int .i64 a, .int .i64 b, .int .i64 c, .int .i64 k, .int .i64 sub, .int .i64 sc, .int .i64 imm, .int .i64 lb]) ∧ IsC w' h s1 ∧ Mc h W w')) (o2 : (op == 2) = false) (o4 : (op == 4) = false) (o7 : (op == 7) = false) (o9 : (op == 9) = false) (o15 : (op == 15) = false) (o20 : (op == 20) = false) (o21 : (op == 21) = false) (HB : Hid (∀ W, IsC W h s1 → Calls Tryz.prog 145 #[.pointer (some ⟨h.B, 0, none⟩), .agg #[.int .i64 op, .int .i64 a, .int .i64 b, .int .i64 c, .int .i64 k, .int .i64 sub, .int .i64 sc, .int .i64 imm, .int .i64 lb]] W fun r w' => r = .panicked stk ∧ (∃ s', IsC w' h s') ∧ Mc h W w')) :
    Calls Tryz.prog 139 #[.pointer (some ⟨h.B, 0, none⟩)] w fun r w' => r = .panicked stk ∧ (∃ s', IsC w' h s') ∧ Mc h w w' := by
  have G := World.grownBy_alloc w (Obj.cells #[.int .i64 0, .int .i64 0, .int .i64 0, .int .i64 0, .int .i64 0, .int .i64 0, .int .i64 0, .int .i64 0, .int .i64 0] 34) none
  have HX0 : Hid (IsC (w.alloc (Obj.cells #[.int .i64 0, .int .i64 0, .int .i64 0, .int .i64 0, .int .i64 0, .int .i64 0, .int .i64 0, .int .i64 0, .int .i64 0] 34)) h s) := x.kept G
  have HI0 : Hid (InstAt (w.alloc (Obj.cells #[.int .i64 0, .int .i64 0, .int .i64 0, .int .i64 0, .int .i64 0, .int .i64 0, .int .i64 0, .int .i64 0, .int .i64 0] 34)) w.heap.size Cc.zero) := InstAt.new w Cc.zero
  have HX : Hid (IsC w h s) := x
  have HV0 : Hid (Mc h w (w.alloc (Obj.cells #[.int .i64 0, .int .i64 0, .int .i64 0, .int .i64 0, .int .i64 0, .int .i64 0, .int .i64 0, .int .i64 0, .int .i64 0] 34))) := Mc.refl.grown G
  have a16' : (a : Int) < 16 := by omega
  have b16' : (b : Int) < 16 := by omega
  have c16' : (c : Int) < 16 := by omega
  have eW : IntKind.u64.wrap imm = Ru.wr imm := by rw [IntKind.wrap_u64]; rfl
  clear x G
  go_enter Tryz.func139, Tryz.ntmps139
  go_wp2_with fail
  refine (HF.out _ HX0.out).mono ?_
  rintro r w1 ⟨rfl, x1, v1⟩
  have i1 : InstAt w1 w.heap.size Cc.zero := v1.inst HI0.out HX.out (Nat.le_refl _)
  have G1 := World.grownBy_alloc w1 (Obj.cells #[.int .i64 op, .int .i64 a, .int .i64 b, .int .i64 c, .int .i64 k, .int .i64 sub, .int .i64 sc, .int .i64 imm, .int .i64 lb] 34) none
  have HX1 : Hid (IsC (w1.alloc (Obj.cells #[.int .i64 op, .int .i64 a, .int .i64 b, .int .i64 c, .int .i64 k, .int .i64 sub, .int .i64 sc, .int .i64 imm, .int .i64 lb] 34)) h s1) := x1.kept G1
  have HI1 : Hid (InstAt (w1.alloc (Obj.cells #[.int .i64 op, .int .i64 a, .int .i64 b, .int .i64 c, .int .i64 k, .int .i64 sub, .int .i64 sc, .int .i64 imm, .int .i64 lb] 34)) w.heap.size Cc.zero) := i1.kept G1 (by simp)
  have HJ1 : Hid (InstAt (w1.alloc (Obj.cells #[.int .i64 op, .int .i64 a, .int .i64 b, .int .i64 c, .int .i64 k, .int .i64 sub, .int .i64 sc, .int .i64 imm, .int .i64 lb] 34)) w1.heap.size ⟨op, a, b, c, k, sub, sc, imm, lb⟩) := InstAt.new w1 ⟨op, a, b, c, k, sub, sc, imm, lb⟩
  have HV1 : Hid (Mc h w (w1.alloc (Obj.cells #[.int .i64 op, .int .i64 a, .int .i64 b, .int .i64 c, .int .i64 k, .int .i64 sub, .int .i64 sc, .int .i64 imm, .int .i64 lb] 34))) := (HV0.out.trans v1).grown G1
  have HA : Hid (∀ i, Ru.W64 (s1.r i)) := x1.ok.r
  have HW : Hid (Ru.W64 (Ru.wr imm)) := Ru.wr_w imm
  have hlt := i1.lt
  have HK0 : Hid (w.heap.size ≠ h.B) := fun e => by have := HX.out.hd.lt; omega
  have HK : Hid (w1.heap.size ≠ h.B) := fun e => by have := HX.out.hd.lt; omega
  have HKK : Hid (w.heap.size ≠ w1.heap.size) := fun e => by omega
  have hN : Hid (w.heap.size ≤ w1.heap.size) := by show w.heap.size ≤ w1.heap.size; omega
  clear HF HX0 HI0 HV0 G1 x1 v1 i1 hlt
  go_wp2_with fail
  obtain ⟨N1, hN1⟩ : ∃ N, N = w1.heap.size := ⟨_, rfl⟩
  rw [← hN1] at HJ1 HK HKK hN
  rw [← hN1]
  generalize w1.alloc (Obj.cells #[.int .i64 op, .int .i64 a, .int .i64 b, .int .i64 c, .int .i64 k, .int .i64 sub, .int .i64 sc, .int .i64 imm, .int .i64 lb] 34) = W at *
  clear hN1
  refine tail_quiet 4 (by kernel_rfl) (by kernel_rfl) ?_
  have g : W.grownBy W.drew none := (grown_drew (World.grownBy.refl _ none))
  have HX5 : Hid (IsC W.drew h s1) := HX1.out.kept g
  have HV5 : Hid (Mc h w W.drew) := HV1.out.grown g
  have HJ5 : Hid (InstAt W.drew N1 ⟨op, a, b, c, k, sub, sc, imm, lb⟩) := HJ1.out.kept g (by simp)
  have HI5 : Hid (InstAt W.drew w.heap.size Cc.zero) := HI1.out.kept g (by simp)
  clear g HX1 HV1 HJ1 HI1
  generalize W.drew = W5 at *
  obtain ⟨d0, d1, d2, d3, d4, d5, d6, d7, d8, dz⟩ := HJ5.out
  clear dz
  have ra := HX5.out.rc a16
  have rb := HX5.out.rc b16
  have rc := HX5.out.rc c16
  have rf := HX5.out.fz (2 + a)
  simp only [List.take_succ_cons, List.take_zero, List.drop_succ_cons, List.drop_zero]
  repeat (go_big_quiet_step (exact rfl))
  refine wpQuiet_nil ?_
  clear d0 d1 d2 d3 d4 d5 d6 d7 d8
  clear ra rb rc rf
  go_wp2_with fail
  refine (HB.out _ HX5.out).mono ?_
  rintro r w6 ⟨rfl, x6, v6⟩
  exact ⟨rfl, rfl, x6, HV5.out.trans v6⟩
end Go.Proofs.YtdklaeppcjopoaaGreatDoor
