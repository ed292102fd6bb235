/- The program's machine: the instruction at the place, by risc.Decode. -/
import Derived.Test.YtdklaeppcjopoaaGreatDoorG7
namespace Go.Proofs.YtdklaeppcjopoaaGreatDoor
open Go.RowKit
set_option linter.unusedVariables false

set_option maxRecDepth 100000 in
set_option maxHeartbeats 4000000 in
theorem pfetch_r {w : World} {h : Pd} {s : Ru.St} (x : IsC w h s) (b off : Nat) (ha : h.ao = some ⟨b, off, none⟩) (p : Nat) (hp : p ≤ h.N) (hpl : Ru.wr s.pl = p) (aq : Option Addr) (hq : (if h.cap = p then some (⟨b, off, none⟩ : Addr) else some ⟨b, off + p, none⟩) = aq) (v : InV) (T : Int) 
   (HD : Hid (∀ W, IsC W h s → Calls Tryz.prog 141 #[.slice aq (h.N - p) (h.cap - p)] W fun r w' => r = .returned (.tuple #[.agg #[.int .i64 v.op, .int .i64 v.a, .int .i64 v.b, .int .i64 v.c, .int .i64 v.k, .int .i64 v.sub, .int .i64 v.scale, .int .i64 v.imm, .int .i64 v.label], .int .i64 T, .int .i64 0]) ∧ W.grownBy w' none)) :
  Calls Tryz.prog 140 #[.pointer (some ⟨h.B, 0, none⟩), .func (.func 141) #[] #[]] w fun r w' => r = .returned (.agg #[.int .i64 v.op, .int .i64 v.a, .int .i64 v.b, .int .i64 v.c, .int .i64 v.k, .int .i64 v.sub, .int .i64 v.scale, .int .i64 v.imm, .int .i64 v.label]) ∧ IsC w' h (s.goto (s.pl + T)) ∧ Mc h w w' := by
  have G := World.grownBy_alloc w (Obj.cells #[.int .i64 0, .int .i64 0, .int .i64 0, .int .i64 0, .int .i64 0, .int .i64 0, .int .i64 0, .int .i64 0, .int .i64 0] 34) none
  have x0 : IsC (w.alloc (Obj.cells #[.int .i64 0, .int .i64 0, .int .i64 0, .int .i64 0, .int .i64 0, .int .i64 0, .int .i64 0, .int .i64 0, .int .i64 0] 34)) h s := x.kept G
  have HI0 : Hid (InstAt (w.alloc (Obj.cells #[.int .i64 0, .int .i64 0, .int .i64 0, .int .i64 0, .int .i64 0, .int .i64 0, .int .i64 0, .int .i64 0, .int .i64 0] 34)) w.heap.size Cc.zero) := InstAt.new w Cc.zero
  have HX : Hid (IsC w h s) := x
  have HV0 : Hid (Mc h w (w.alloc (Obj.cells #[.int .i64 0, .int .i64 0, .int .i64 0, .int .i64 0, .int .i64 0, .int .i64 0, .int .i64 0, .int .i64 0, .int .i64 0] 34))) := Mc.refl.grown G
  have hNc : h.N ≤ h.cap := x.cd.le
  have hcm : h.cap ≤ maxLen := x.cd.max
  have hcm2 : maxLen ≤ 9223372036854775807 := by decide
  have hcm' : (h.cap : Int) ≤ 9223372036854775807 := by omega
  clear hcm2
  have hp' : (p : Int) ≤ h.N := by omega
  have hNc' : (h.N : Int) ≤ h.cap := by omega
  have hd : decide ((h.N : Int) < p) = false := decide_eq_false (by omega)
  clear hcm
  clear x G
  go_enter Tryz.func140, Tryz.ntmps140
  go_wp2_with fail
  have HX0 : Hid (IsC (w.alloc (Obj.cells #[.int .i64 0, .int .i64 0, .int .i64 0, .int .i64 0, .int .i64 0, .int .i64 0, .int .i64 0, .int .i64 0, .int .i64 0] 34)) h s) := x0
  clear x0
  generalize w.alloc (Obj.cells #[.int .i64 0, .int .i64 0, .int .i64 0, .int .i64 0, .int .i64 0, .int .i64 0, .int .i64 0, .int .i64 0, .int .i64 0] 34) = W at *
  have c0 := HX0.out.c0
  have c1 := HX0.out.c1
  rw [ha] at c0
  rw [hpl] at c1
  go_quiet (fail)
  have g : W.grownBy (W.drewN nq) none := grown_drewN (World.grownBy.refl _ none) nq
  have HX1 : Hid (IsC (W.drewN nq) h s) := HX0.out.kept g
  have HV1 : Hid (Mc h w (W.drewN nq)) := HV0.out.grown g
  have HI1 : Hid (InstAt (W.drewN nq) w.heap.size Cc.zero) := HI0.out.kept g (by simp)
  clear g HX0 HV0 HI0 c0 c1
  generalize W.drewN nq = W1 at *
  go_wp2_with fail
  have HXd : Hid (IsC W1.drew h s) := HX1.out.kept (grown_drew (World.grownBy.refl _ none))
  have HXa : Hid (IsC (W1.alloc (Obj.cells #[.int .i64 0, .int .i64 0, .int .i64 0, .int .i64 0, .int .i64 0, .int .i64 0, .int .i64 0, .int .i64 0, .int .i64 0] 34)).drew h s) := (HX1.out.kept (World.grownBy_alloc _ _ _)).kept (grown_drew (World.grownBy.refl _ none))
  have HIa : Hid (InstAt (W1.alloc (Obj.cells #[.int .i64 0, .int .i64 0, .int .i64 0, .int .i64 0, .int .i64 0, .int .i64 0, .int .i64 0, .int .i64 0, .int .i64 0] 34)).drew W1.heap.size Cc.zero) := (InstAt.new W1 Cc.zero).kept (grown_drew (World.grownBy.refl _ none)) (by simp)
  have c0 := HXd.out.c0
  have c1 := HXd.out.c1
  have e0 := HXa.out.c0
  have e1 := HXa.out.c1
  rw [ha] at c0 e0
  rw [hpl] at c1 e1
  go_region_with (first
    | (go_at_call 141; refine (HD.out _ (by with_reducible exact HXd.out)).mono ?_; rintro r w3 ⟨rfl, g3⟩)
    | (go_at_call 141; refine (HD.out _ (by with_reducible exact HXa.out)).mono ?_; rintro r w3 ⟨rfl, g3⟩; obtain ⟨k0, k1, k2, k3, k4, k5, k6, k7, k8, kz⟩ := HIa.out.kept g3 (by simp); have z0 := kz 0; have z1 := kz 1; have z2 := kz 2; have z3 := kz 3; have z4 := kz 4; have z5 := kz 5; have z6 := kz 6; have z7 := kz 7; have z8 := kz 8; clear kz))
  all_goals
    clear c0 c1 e0 e1
    have hl1 := HI1.out.lt
    first
      | (have G3 : W1.grownBy w3 none := grown_trans (grown_drew (World.grownBy_alloc _ _ _)) g3
         have i3 := (HIa.out.kept g3 (by simp)).put9 v
         have G9 := grown_put9 w3 W1.heap.size v
         clear k0 k1 k2 k3 k4 k5 k6 k7 k8 z0 z1 z2 z3 z4 z5 z6 z7 z8
         change Exit.then _ _ _ _ (put9 w3 W1.heap.size v)
         have HX5 : Hid (IsC (put9 w3 W1.heap.size v) h s) := (HX1.out.kept G3).far HX.out G9 (by omega)
         have HV5 : Hid (Mc h w (put9 w3 W1.heap.size v)) := (HV1.out.grown G3).far G9 (by omega)
         have HI5 : Hid (InstAt (put9 w3 W1.heap.size v) w.heap.size Cc.zero) := (HI1.out.kept G3 (by simp)).kept G9 (fun e => by injection e with e; omega)
         have HJ5 : Hid (InstAt (put9 w3 W1.heap.size v) W1.heap.size v) := i3
         generalize put9 w3 W1.heap.size v = W5 at *
         have HN5 : Hid (w.heap.size < W1.heap.size) := hl1
         clear i3 G9 G3 HIa HXa HXd hl1 g3 HX1 HV1 HI1
         generalize W1.heap.size = N5 at *)
      | (have G3 : W1.grownBy w3 none := grown_trans (grown_drew (World.grownBy.refl _ none)) g3
         have hl3 : W1.heap.size ≤ w3.heap.size := G3.size
         have G9 := World.grownBy_alloc w3 (Obj.cells #[.int .i64 v.op, .int .i64 v.a, .int .i64 v.b, .int .i64 v.c, .int .i64 v.k, .int .i64 v.sub, .int .i64 v.scale, .int .i64 v.imm, .int .i64 v.label] 34) none
         change Exit.then _ _ _ _ (w3.alloc (Obj.cells #[.int .i64 v.op, .int .i64 v.a, .int .i64 v.b, .int .i64 v.c, .int .i64 v.k, .int .i64 v.sub, .int .i64 v.scale, .int .i64 v.imm, .int .i64 v.label] 34))
         have HX5 : Hid (IsC (w3.alloc (Obj.cells #[.int .i64 v.op, .int .i64 v.a, .int .i64 v.b, .int .i64 v.c, .int .i64 v.k, .int .i64 v.sub, .int .i64 v.scale, .int .i64 v.imm, .int .i64 v.label] 34)) h s) := (HX1.out.kept G3).kept G9
         have HV5 : Hid (Mc h w (w3.alloc (Obj.cells #[.int .i64 v.op, .int .i64 v.a, .int .i64 v.b, .int .i64 v.c, .int .i64 v.k, .int .i64 v.sub, .int .i64 v.scale, .int .i64 v.imm, .int .i64 v.label] 34))) := (HV1.out.grown G3).grown G9
         have HI5 : Hid (InstAt (w3.alloc (Obj.cells #[.int .i64 v.op, .int .i64 v.a, .int .i64 v.b, .int .i64 v.c, .int .i64 v.k, .int .i64 v.sub, .int .i64 v.scale, .int .i64 v.imm, .int .i64 v.label] 34)) w.heap.size Cc.zero) := (HI1.out.kept G3 (by simp)).kept G9 (by simp)
         have HJ5 : Hid (InstAt (w3.alloc (Obj.cells #[.int .i64 v.op, .int .i64 v.a, .int .i64 v.b, .int .i64 v.c, .int .i64 v.k, .int .i64 v.sub, .int .i64 v.scale, .int .i64 v.imm, .int .i64 v.label] 34)) w3.heap.size v) := InstAt.new w3 v
         have HN5 : Hid (w.heap.size < w3.heap.size) := by show w.heap.size < w3.heap.size; omega
         clear G9 G3 HIa HXa HXd hl1 hl3 g3 HX1 HV1 HI1
         generalize w3.alloc (Obj.cells #[.int .i64 v.op, .int .i64 v.a, .int .i64 v.b, .int .i64 v.c, .int .i64 v.k, .int .i64 v.sub, .int .i64 v.scale, .int .i64 v.imm, .int .i64 v.label] 34) = W5 at *
         generalize w3.heap.size = N5 at *)
    have p1 := HX5.out.c1
    have q1 := HX5.out.fz 1
    have HK5 : Hid (N5 ≠ h.B) := fun e => by have := HX.out.hd.lt; have := HN5.out; omega
    have HK0 : Hid (w.heap.size ≠ h.B) := fun e => by have := HX.out.hd.lt; omega
    have HX6 : Hid (IsC (W5.setCell ⟨h.B, 1, none⟩ (.int .u64 (IntKind.u64.wrap ((p : Int) + IntKind.u64.wrap T)))) h (s.goto (s.pl + T))) := by
      have := wr_add s.pl T
      rw [hpl] at this
      rw [this]
      exact HX5.out.pl (Ru.sg_b _)
    have HV6 : Hid (Mc h w (W5.setCell ⟨h.B, 1, none⟩ (.int .u64 (IntKind.u64.wrap ((p : Int) + IntKind.u64.wrap T))))) := HV5.out.setB _ _
    have HI6 : Hid (InstAt (W5.setCell ⟨h.B, 1, none⟩ (.int .u64 (IntKind.u64.wrap ((p : Int) + IntKind.u64.wrap T)))) w.heap.size Cc.zero) := HI5.out.setB HK0.out _
    have HJ6 : Hid (InstAt (W5.setCell ⟨h.B, 1, none⟩ (.int .u64 (IntKind.u64.wrap ((p : Int) + IntKind.u64.wrap T)))) N5 v) := HJ5.out.setB HK5.out _
    rw [hpl] at p1
    clear HX5 HV5 HI5 HJ5
    obtain ⟨e0, e1, e2, e3, e4, e5, e6, e7, e8, ez⟩ := HJ6.out
    obtain ⟨f0, f1, f2, f3, f4, f5, f6, f7, f8, fz⟩ := HI6.out
    have z0 := fz 0
    have z1 := fz 1
    have z2 := fz 2
    have z3 := fz 3
    have z4 := fz 4
    have z5 := fz 5
    have z6 := fz 6
    have z7 := fz 7
    have z8 := fz 8
    clear fz ez
    go_wp2_with (go_at_call 146; refine (pmust_ok _).mono ?_; rintro r w4 ⟨rfl, hw4⟩; rw [hw4]; clear hw4 w4)
    have P9 := HI6.out.put9 v
    have G9 := grown_put9 (W5.setCell ⟨h.B, 1, none⟩ (.int .u64 (IntKind.u64.wrap ((p : Int) + IntKind.u64.wrap T)))) w.heap.size v
    change bodyPost _ _ _ _ _ (put9 (W5.setCell ⟨h.B, 1, none⟩ (.int .u64 (IntKind.u64.wrap ((p : Int) + IntKind.u64.wrap T)))) w.heap.size v)
    have HX9 := HX6.out.far HX.out G9 (Nat.le_refl _)
    have HV9 := HV6.out.far G9 (Nat.le_refl _)
    generalize put9 (W5.setCell ⟨h.B, 1, none⟩ (.int .u64 (IntKind.u64.wrap ((p : Int) + IntKind.u64.wrap T)))) w.heap.size v = W9 at *
    obtain ⟨q0, q1, q2, q3, q4, q5, q6, q7, q8, qz⟩ := P9
    refine bodyPost_ret (by simp [results, Tryz.results140, go_sem, q0, q1, q2, q3, q4, q5, q6, q7, q8]; try rfl) rfl ?_
    exact ⟨rfl, HX9, HV9⟩
set_option maxRecDepth 100000 in
set_option maxHeartbeats 4000000 in
theorem pfetch_rn {w : World} {h : Pd} {s : Ru.St} (x : IsC w h s) (b off : Nat) (ha : h.ao = some ⟨b, off, none⟩) (p : Nat) (hp : p ≤ h.N) (hpl : Ru.wr s.pl = p) (aq : Option Addr) (hq : (if h.cap = p then some (⟨b, off, none⟩ : Addr) else some ⟨b, off + p, none⟩) = aq) (v : InV) (T : Int) (E : Int) (hE : (E != 0) = true) 
   (HD : Hid (∀ W, IsC W h s → Calls Tryz.prog 141 #[.slice aq (h.N - p) (h.cap - p)] W fun r w' => r = .returned (.tuple #[.agg #[.int .i64 v.op, .int .i64 v.a, .int .i64 v.b, .int .i64 v.c, .int .i64 v.k, .int .i64 v.sub, .int .i64 v.scale, .int .i64 v.imm, .int .i64 v.label], .int .i64 T, .int .i64 E]) ∧ W.grownBy w' none)) :
  Calls Tryz.prog 140 #[.pointer (some ⟨h.B, 0, none⟩), .func (.func 141) #[] #[]] w fun r w' => r = .panicked stk ∧ (∃ s', IsC w' h s') ∧ Mc h w w' := by
  have G := World.grownBy_alloc w (Obj.cells #[.int .i64 0, .int .i64 0, .int .i64 0, .int .i64 0, .int .i64 0, .int .i64 0, .int .i64 0, .int .i64 0, .int .i64 0] 34) none
  have x0 : IsC (w.alloc (Obj.cells #[.int .i64 0, .int .i64 0, .int .i64 0, .int .i64 0, .int .i64 0, .int .i64 0, .int .i64 0, .int .i64 0, .int .i64 0] 34)) h s := x.kept G
  have HI0 : Hid (InstAt (w.alloc (Obj.cells #[.int .i64 0, .int .i64 0, .int .i64 0, .int .i64 0, .int .i64 0, .int .i64 0, .int .i64 0, .int .i64 0, .int .i64 0] 34)) w.heap.size Cc.zero) := InstAt.new w Cc.zero
  have HX : Hid (IsC w h s) := x
  have HV0 : Hid (Mc h w (w.alloc (Obj.cells #[.int .i64 0, .int .i64 0, .int .i64 0, .int .i64 0, .int .i64 0, .int .i64 0, .int .i64 0, .int .i64 0, .int .i64 0] 34))) := Mc.refl.grown G
  have hNc : h.N ≤ h.cap := x.cd.le
  have hcm : h.cap ≤ maxLen := x.cd.max
  have hcm2 : maxLen ≤ 9223372036854775807 := by decide
  have hcm' : (h.cap : Int) ≤ 9223372036854775807 := by omega
  clear hcm2
  have hp' : (p : Int) ≤ h.N := by omega
  have hNc' : (h.N : Int) ≤ h.cap := by omega
  have hd : decide ((h.N : Int) < p) = false := decide_eq_false (by omega)
  clear hcm
  clear x G
  go_enter Tryz.func140, Tryz.ntmps140
  go_wp2_with fail
  have HX0 : Hid (IsC (w.alloc (Obj.cells #[.int .i64 0, .int .i64 0, .int .i64 0, .int .i64 0, .int .i64 0, .int .i64 0, .int .i64 0, .int .i64 0, .int .i64 0] 34)) h s) := x0
  clear x0
  generalize w.alloc (Obj.cells #[.int .i64 0, .int .i64 0, .int .i64 0, .int .i64 0, .int .i64 0, .int .i64 0, .int .i64 0, .int .i64 0, .int .i64 0] 34) = W at *
  have c0 := HX0.out.c0
  have c1 := HX0.out.c1
  rw [ha] at c0
  rw [hpl] at c1
  go_quiet (fail)
  have g : W.grownBy (W.drewN nq) none := grown_drewN (World.grownBy.refl _ none) nq
  have HX1 : Hid (IsC (W.drewN nq) h s) := HX0.out.kept g
  have HV1 : Hid (Mc h w (W.drewN nq)) := HV0.out.grown g
  have HI1 : Hid (InstAt (W.drewN nq) w.heap.size Cc.zero) := HI0.out.kept g (by simp)
  clear g HX0 HV0 HI0 c0 c1
  generalize W.drewN nq = W1 at *
  go_wp2_with fail
  have HXd : Hid (IsC W1.drew h s) := HX1.out.kept (grown_drew (World.grownBy.refl _ none))
  have HXa : Hid (IsC (W1.alloc (Obj.cells #[.int .i64 0, .int .i64 0, .int .i64 0, .int .i64 0, .int .i64 0, .int .i64 0, .int .i64 0, .int .i64 0, .int .i64 0] 34)).drew h s) := (HX1.out.kept (World.grownBy_alloc _ _ _)).kept (grown_drew (World.grownBy.refl _ none))
  have HIa : Hid (InstAt (W1.alloc (Obj.cells #[.int .i64 0, .int .i64 0, .int .i64 0, .int .i64 0, .int .i64 0, .int .i64 0, .int .i64 0, .int .i64 0, .int .i64 0] 34)).drew W1.heap.size Cc.zero) := (InstAt.new W1 Cc.zero).kept (grown_drew (World.grownBy.refl _ none)) (by simp)
  have c0 := HXd.out.c0
  have c1 := HXd.out.c1
  have e0 := HXa.out.c0
  have e1 := HXa.out.c1
  rw [ha] at c0 e0
  rw [hpl] at c1 e1
  go_region_with (first
    | (go_at_call 141; refine (HD.out _ (by with_reducible exact HXd.out)).mono ?_; rintro r w3 ⟨rfl, g3⟩)
    | (go_at_call 141; refine (HD.out _ (by with_reducible exact HXa.out)).mono ?_; rintro r w3 ⟨rfl, g3⟩; obtain ⟨k0, k1, k2, k3, k4, k5, k6, k7, k8, kz⟩ := HIa.out.kept g3 (by simp); have z0 := kz 0; have z1 := kz 1; have z2 := kz 2; have z3 := kz 3; have z4 := kz 4; have z5 := kz 5; have z6 := kz 6; have z7 := kz 7; have z8 := kz 8; clear kz))
  all_goals
    clear c0 c1 e0 e1
    have hl1 := HI1.out.lt
    first
      | (have G3 : W1.grownBy w3 none := grown_trans (grown_drew (World.grownBy_alloc _ _ _)) g3
         have i3 := (HIa.out.kept g3 (by simp)).put9 v
         have G9 := grown_put9 w3 W1.heap.size v
         clear k0 k1 k2 k3 k4 k5 k6 k7 k8 z0 z1 z2 z3 z4 z5 z6 z7 z8
         change Exit.then _ _ _ _ (put9 w3 W1.heap.size v)
         have HX5 : Hid (IsC (put9 w3 W1.heap.size v) h s) := (HX1.out.kept G3).far HX.out G9 (by omega)
         have HV5 : Hid (Mc h w (put9 w3 W1.heap.size v)) := (HV1.out.grown G3).far G9 (by omega)
         have HI5 : Hid (InstAt (put9 w3 W1.heap.size v) w.heap.size Cc.zero) := (HI1.out.kept G3 (by simp)).kept G9 (fun e => by injection e with e; omega)
         have HJ5 : Hid (InstAt (put9 w3 W1.heap.size v) W1.heap.size v) := i3
         generalize put9 w3 W1.heap.size v = W5 at *
         have HN5 : Hid (w.heap.size < W1.heap.size) := hl1
         clear i3 G9 G3 HIa HXa HXd hl1 g3 HX1 HV1 HI1
         generalize W1.heap.size = N5 at *)
      | (have G3 : W1.grownBy w3 none := grown_trans (grown_drew (World.grownBy.refl _ none)) g3
         have hl3 : W1.heap.size ≤ w3.heap.size := G3.size
         have G9 := World.grownBy_alloc w3 (Obj.cells #[.int .i64 v.op, .int .i64 v.a, .int .i64 v.b, .int .i64 v.c, .int .i64 v.k, .int .i64 v.sub, .int .i64 v.scale, .int .i64 v.imm, .int .i64 v.label] 34) none
         change Exit.then _ _ _ _ (w3.alloc (Obj.cells #[.int .i64 v.op, .int .i64 v.a, .int .i64 v.b, .int .i64 v.c, .int .i64 v.k, .int .i64 v.sub, .int .i64 v.scale, .int .i64 v.imm, .int .i64 v.label] 34))
         have HX5 : Hid (IsC (w3.alloc (Obj.cells #[.int .i64 v.op, .int .i64 v.a, .int .i64 v.b, .int .i64 v.c, .int .i64 v.k, .int .i64 v.sub, .int .i64 v.scale, .int .i64 v.imm, .int .i64 v.label] 34)) h s) := (HX1.out.kept G3).kept G9
         have HV5 : Hid (Mc h w (w3.alloc (Obj.cells #[.int .i64 v.op, .int .i64 v.a, .int .i64 v.b, .int .i64 v.c, .int .i64 v.k, .int .i64 v.sub, .int .i64 v.scale, .int .i64 v.imm, .int .i64 v.label] 34))) := (HV1.out.grown G3).grown G9
         have HI5 : Hid (InstAt (w3.alloc (Obj.cells #[.int .i64 v.op, .int .i64 v.a, .int .i64 v.b, .int .i64 v.c, .int .i64 v.k, .int .i64 v.sub, .int .i64 v.scale, .int .i64 v.imm, .int .i64 v.label] 34)) w.heap.size Cc.zero) := (HI1.out.kept G3 (by simp)).kept G9 (by simp)
         have HJ5 : Hid (InstAt (w3.alloc (Obj.cells #[.int .i64 v.op, .int .i64 v.a, .int .i64 v.b, .int .i64 v.c, .int .i64 v.k, .int .i64 v.sub, .int .i64 v.scale, .int .i64 v.imm, .int .i64 v.label] 34)) w3.heap.size v) := InstAt.new w3 v
         have HN5 : Hid (w.heap.size < w3.heap.size) := by show w.heap.size < w3.heap.size; omega
         clear G9 G3 HIa HXa HXd hl1 hl3 g3 HX1 HV1 HI1
         generalize w3.alloc (Obj.cells #[.int .i64 v.op, .int .i64 v.a, .int .i64 v.b, .int .i64 v.c, .int .i64 v.k, .int .i64 v.sub, .int .i64 v.scale, .int .i64 v.imm, .int .i64 v.label] 34) = W5 at *
         generalize w3.heap.size = N5 at *)
    go_wp2_with (go_at_call 146; refine (pmust_no E hE _).mono ?_; rintro r w4 ⟨rfl, rfl⟩)
    exact ⟨rfl, rfl, ⟨_, HX5.out⟩, HV5.out⟩
set_option maxRecDepth 100000 in
set_option maxHeartbeats 4000000 in
theorem pfetch_r0n {w : World} {h : Pd} {s : Ru.St} (x : IsC w h s) (ha : h.ao = none) (hN : h.N = 0) (hcp : h.cap = 0) (p : Nat) (hp0 : p = 0) (hpl : Ru.wr s.pl = p) (v : InV) (T : Int) (E : Int) (hE : (E != 0) = true) 
   (HD : Hid (∀ W, IsC W h s → Calls Tryz.prog 141 #[.slice none 0 0] W fun r w' => r = .returned (.tuple #[.agg #[.int .i64 v.op, .int .i64 v.a, .int .i64 v.b, .int .i64 v.c, .int .i64 v.k, .int .i64 v.sub, .int .i64 v.scale, .int .i64 v.imm, .int .i64 v.label], .int .i64 T, .int .i64 E]) ∧ W.grownBy w' none)) :
  Calls Tryz.prog 140 #[.pointer (some ⟨h.B, 0, none⟩), .func (.func 141) #[] #[]] w fun r w' => r = .panicked stk ∧ (∃ s', IsC w' h s') ∧ Mc h w w' := by
  have G := World.grownBy_alloc w (Obj.cells #[.int .i64 0, .int .i64 0, .int .i64 0, .int .i64 0, .int .i64 0, .int .i64 0, .int .i64 0, .int .i64 0, .int .i64 0] 34) none
  have x0 : IsC (w.alloc (Obj.cells #[.int .i64 0, .int .i64 0, .int .i64 0, .int .i64 0, .int .i64 0, .int .i64 0, .int .i64 0, .int .i64 0, .int .i64 0] 34)) h s := x.kept G
  have HI0 : Hid (InstAt (w.alloc (Obj.cells #[.int .i64 0, .int .i64 0, .int .i64 0, .int .i64 0, .int .i64 0, .int .i64 0, .int .i64 0, .int .i64 0, .int .i64 0] 34)) w.heap.size Cc.zero) := InstAt.new w Cc.zero
  have HX : Hid (IsC w h s) := x
  have HV0 : Hid (Mc h w (w.alloc (Obj.cells #[.int .i64 0, .int .i64 0, .int .i64 0, .int .i64 0, .int .i64 0, .int .i64 0, .int .i64 0, .int .i64 0, .int .i64 0] 34))) := Mc.refl.grown G
  subst hp0
  clear x G
  go_enter Tryz.func140, Tryz.ntmps140
  go_wp2_with fail
  have HX0 : Hid (IsC (w.alloc (Obj.cells #[.int .i64 0, .int .i64 0, .int .i64 0, .int .i64 0, .int .i64 0, .int .i64 0, .int .i64 0, .int .i64 0, .int .i64 0] 34)) h s) := x0
  clear x0
  generalize w.alloc (Obj.cells #[.int .i64 0, .int .i64 0, .int .i64 0, .int .i64 0, .int .i64 0, .int .i64 0, .int .i64 0, .int .i64 0, .int .i64 0] 34) = W at *
  have c0 := HX0.out.c0
  have c1 := HX0.out.c1
  rw [ha, hN, hcp] at c0
  rw [hpl] at c1
  go_quiet (fail)
  have g : W.grownBy (W.drewN nq) none := grown_drewN (World.grownBy.refl _ none) nq
  have HX1 : Hid (IsC (W.drewN nq) h s) := HX0.out.kept g
  have HV1 : Hid (Mc h w (W.drewN nq)) := HV0.out.grown g
  have HI1 : Hid (InstAt (W.drewN nq) w.heap.size Cc.zero) := HI0.out.kept g (by simp)
  clear g HX0 HV0 HI0 c0 c1
  generalize W.drewN nq = W1 at *
  go_wp2_with fail
  have HXd : Hid (IsC W1.drew h s) := HX1.out.kept (grown_drew (World.grownBy.refl _ none))
  have HXa : Hid (IsC (W1.alloc (Obj.cells #[.int .i64 0, .int .i64 0, .int .i64 0, .int .i64 0, .int .i64 0, .int .i64 0, .int .i64 0, .int .i64 0, .int .i64 0] 34)).drew h s) := (HX1.out.kept (World.grownBy_alloc _ _ _)).kept (grown_drew (World.grownBy.refl _ none))
  have HIa : Hid (InstAt (W1.alloc (Obj.cells #[.int .i64 0, .int .i64 0, .int .i64 0, .int .i64 0, .int .i64 0, .int .i64 0, .int .i64 0, .int .i64 0, .int .i64 0] 34)).drew W1.heap.size Cc.zero) := (InstAt.new W1 Cc.zero).kept (grown_drew (World.grownBy.refl _ none)) (by simp)
  have c0 := HXd.out.c0
  have c1 := HXd.out.c1
  have e0 := HXa.out.c0
  have e1 := HXa.out.c1
  rw [ha, hN, hcp] at c0 e0
  rw [hpl] at c1 e1
  go_region_with (first
    | (go_at_call 141; refine (HD.out _ (by with_reducible exact HXd.out)).mono ?_; rintro r w3 ⟨rfl, g3⟩)
    | (go_at_call 141; refine (HD.out _ (by with_reducible exact HXa.out)).mono ?_; rintro r w3 ⟨rfl, g3⟩; obtain ⟨k0, k1, k2, k3, k4, k5, k6, k7, k8, kz⟩ := HIa.out.kept g3 (by simp); have z0 := kz 0; have z1 := kz 1; have z2 := kz 2; have z3 := kz 3; have z4 := kz 4; have z5 := kz 5; have z6 := kz 6; have z7 := kz 7; have z8 := kz 8; clear kz))
  all_goals
    clear c0 c1 e0 e1
    have hl1 := HI1.out.lt
    first
      | (have G3 : W1.grownBy w3 none := grown_trans (grown_drew (World.grownBy_alloc _ _ _)) g3
         have i3 := (HIa.out.kept g3 (by simp)).put9 v
         have G9 := grown_put9 w3 W1.heap.size v
         clear k0 k1 k2 k3 k4 k5 k6 k7 k8 z0 z1 z2 z3 z4 z5 z6 z7 z8
         change Exit.then _ _ _ _ (put9 w3 W1.heap.size v)
         have HX5 : Hid (IsC (put9 w3 W1.heap.size v) h s) := (HX1.out.kept G3).far HX.out G9 (by omega)
         have HV5 : Hid (Mc h w (put9 w3 W1.heap.size v)) := (HV1.out.grown G3).far G9 (by omega)
         have HI5 : Hid (InstAt (put9 w3 W1.heap.size v) w.heap.size Cc.zero) := (HI1.out.kept G3 (by simp)).kept G9 (fun e => by injection e with e; omega)
         have HJ5 : Hid (InstAt (put9 w3 W1.heap.size v) W1.heap.size v) := i3
         generalize put9 w3 W1.heap.size v = W5 at *
         have HN5 : Hid (w.heap.size < W1.heap.size) := hl1
         clear i3 G9 G3 HIa HXa HXd hl1 g3 HX1 HV1 HI1
         generalize W1.heap.size = N5 at *)
      | (have G3 : W1.grownBy w3 none := grown_trans (grown_drew (World.grownBy.refl _ none)) g3
         have hl3 : W1.heap.size ≤ w3.heap.size := G3.size
         have G9 := World.grownBy_alloc w3 (Obj.cells #[.int .i64 v.op, .int .i64 v.a, .int .i64 v.b, .int .i64 v.c, .int .i64 v.k, .int .i64 v.sub, .int .i64 v.scale, .int .i64 v.imm, .int .i64 v.label] 34) none
         change Exit.then _ _ _ _ (w3.alloc (Obj.cells #[.int .i64 v.op, .int .i64 v.a, .int .i64 v.b, .int .i64 v.c, .int .i64 v.k, .int .i64 v.sub, .int .i64 v.scale, .int .i64 v.imm, .int .i64 v.label] 34))
         have HX5 : Hid (IsC (w3.alloc (Obj.cells #[.int .i64 v.op, .int .i64 v.a, .int .i64 v.b, .int .i64 v.c, .int .i64 v.k, .int .i64 v.sub, .int .i64 v.scale, .int .i64 v.imm, .int .i64 v.label] 34)) h s) := (HX1.out.kept G3).kept G9
         have HV5 : Hid (Mc h w (w3.alloc (Obj.cells #[.int .i64 v.op, .int .i64 v.a, .int .i64 v.b, .int .i64 v.c, .int .i64 v.k, .int .i64 v.sub, .int .i64 v.scale, .int .i64 v.imm, .int .i64 v.label] 34))) := (HV1.out.grown G3).grown G9
         have HI5 : Hid (InstAt (w3.alloc (Obj.cells #[.int .i64 v.op, .int .i64 v.a, .int .i64 v.b, .int .i64 v.c, .int .i64 v.k, .int .i64 v.sub, .int .i64 v.scale, .int .i64 v.imm, .int .i64 v.label] 34)) w.heap.size Cc.zero) := (HI1.out.kept G3 (by simp)).kept G9 (by simp)
         have HJ5 : Hid (InstAt (w3.alloc (Obj.cells #[.int .i64 v.op, .int .i64 v.a, .int .i64 v.b, .int .i64 v.c, .int .i64 v.k, .int .i64 v.sub, .int .i64 v.scale, .int .i64 v.imm, .int .i64 v.label] 34)) w3.heap.size v) := InstAt.new w3 v
         have HN5 : Hid (w.heap.size < w3.heap.size) := by show w.heap.size < w3.heap.size; omega
         clear G9 G3 HIa HXa HXd hl1 hl3 g3 HX1 HV1 HI1
         generalize w3.alloc (Obj.cells #[.int .i64 v.op, .int .i64 v.a, .int .i64 v.b, .int .i64 v.c, .int .i64 v.k, .int .i64 v.sub, .int .i64 v.scale, .int .i64 v.imm, .int .i64 v.label] 34) = W5 at *
         generalize w3.heap.size = N5 at *)
    go_wp2_with (go_at_call 146; refine (pmust_no E hE _).mono ?_; rintro r w4 ⟨rfl, rfl⟩)
    exact ⟨rfl, rfl, ⟨_, HX5.out⟩, HV5.out⟩
set_option maxRecDepth 100000 in
set_option maxHeartbeats 4000000 in
theorem pfetch_rout {w : World} {h : Pd} {s : Ru.St} (x : IsC w h s) (hp : (h.N : Int) < Ru.wr s.pl) :
  Calls Tryz.prog 140 #[.pointer (some ⟨h.B, 0, none⟩), .func (.func 141) #[] #[]] w fun r w' => r = .panicked stk ∧ (∃ s', IsC w' h s') ∧ Mc h w w' := by
  have G := World.grownBy_alloc w (Obj.cells #[.int .i64 0, .int .i64 0, .int .i64 0, .int .i64 0, .int .i64 0, .int .i64 0, .int .i64 0, .int .i64 0, .int .i64 0] 34) none
  have HX0 : Hid (IsC (w.alloc (Obj.cells #[.int .i64 0, .int .i64 0, .int .i64 0, .int .i64 0, .int .i64 0, .int .i64 0, .int .i64 0, .int .i64 0, .int .i64 0] 34)) h s) := x.kept G
  have HV0 : Hid (Mc h w (w.alloc (Obj.cells #[.int .i64 0, .int .i64 0, .int .i64 0, .int .i64 0, .int .i64 0, .int .i64 0, .int .i64 0, .int .i64 0, .int .i64 0] 34))) := Mc.refl.grown G
  have hd : decide ((h.N : Int) < Ru.wr s.pl) = true := decide_eq_true hp
  have hN : (h.N : Int) ≤ 9223372036854775807 := by
    have h1 := x.cd.le
    have h2 := x.cd.max
    have h3 : maxLen ≤ 9223372036854775807 := by decide
    omega
  have hw := Ru.wr_w s.pl
  obtain ⟨hw1, hw2⟩ := hw
  clear x G
  go_enter Tryz.func140, Tryz.ntmps140
  go_wp2_with fail
  generalize w.alloc (Obj.cells #[.int .i64 0, .int .i64 0, .int .i64 0, .int .i64 0, .int .i64 0, .int .i64 0, .int .i64 0, .int .i64 0, .int .i64 0] 34) = W at *
  have c0 := HX0.out.c0
  have c1 := HX0.out.c1
  have HDr : Hid (∀ d, IsC (W.drewN d) h s ∧ Mc h w (W.drewN d)) := fun d => ⟨HX0.out.kept (grown_drewN (World.grownBy.refl W none) d), HV0.out.grown (grown_drewN (World.grownBy.refl W none) d)⟩
  go_quiet (fail)
  go_wp2
  exact ⟨rfl, rfl, ⟨_, (HDr.out _).1⟩, (HDr.out _).2⟩
end Go.Proofs.YtdklaeppcjopoaaGreatDoor
