/- Contracts and plain facts that the walks share, text by text: RcL, RuG, RuH, RuV, RuVa, RuVb, RuVc, RuOw, RuVd, RuIt, RuX, RuN, RuO, RuInv, RuRow, RuNr, RuNs. -/
import Derived.Test.YtdklaeppcjopoaaGreatDoorG7
import Derived.Test.YtdklaeppcjopoaaGreatDoorG9
import Derived.Test.YtdklaeppcjopoaaGreatDoorG10
import Derived.Test.YtdklaeppcjopoaaGreatDoorRuFr
import Derived.Test.YtdklaeppcjopoaaGreatDoorRuFc
import Derived.Test.YtdklaeppcjopoaaGreatDoorG6
import Derived.Test.YtdklaeppcjopoaaGreatDoorG1
import Derived.Test.YtdklaeppcjopoaaGreatDoorG5
import Derived.Deep.AppendLies
import Derived.Defers
import Derived.Recover
import Derived.Deep.RegionLaw
/- risc.Decode: its contract. -/
namespace Go.Proofs.YtdklaeppcjopoaaGreatDoor
open Go.RowKit
set_option linter.unusedVariables false

theorem formOf_x (b off n cap : Nat) (g : Nat → Int) (w : World) (hn : 8 ≤ n) (hnc : n ≤ cap) (hg : Mm.Fit g) (hc : ∀ i, i < n → w.cell? ⟨b, off + i, none⟩ = some (.int .u8 (g i))) :
    Calls Tryz.prog 147 #[.slice (some ⟨b, off, none⟩) n cap] w fun e w' => e = .returned (.agg #[.int .i64 (Rc.fo g).code, .int .i64 (Rc.fo g).a, .int .i64 (Rc.fo g).b, .int .i64 (Rc.fo g).c, .int .i64 (Rc.fo g).n]) ∧ w.grownBy w' none := formOf_any b off n cap g w hn hnc hg hc
theorem unpack_x (g : Nat → Int) (w : World) :
    Calls Tryz.prog 55 #[formv (Rc.fo g)] w fun e w' => e = .returned (.agg #[.int .i64 (Rc.unpk (Rc.fo g)).op, .int .i64 (Rc.unpk (Rc.fo g)).a, .int .i64 (Rc.unpk (Rc.fo g)).b, .int .i64 (Rc.unpk (Rc.fo g)).c, .int .i64 (Rc.unpk (Rc.fo g)).k, .int .i64 (Rc.unpk (Rc.fo g)).sub, .int .i64 (Rc.unpk (Rc.fo g)).scale, .int .i64 (Rc.unpk (Rc.fo g)).imm, .int .i64 (Rc.unpk (Rc.fo g)).label]) ∧ w.grownBy w' none := by
  have r := Rc.s32_rng (Mm.ld g 4 4)
  exact unpack_any (Rc.fo g) w (by show _ ≤ Rc.s32 _; omega) (by show Rc.s32 _ ≤ _; omega)
theorem agree_x (g : Nat → Int) (hg : Mm.Fit g) (w : World) :
    Calls Tryz.prog 40 #[inst (Rc.unpk (Rc.fo g)), formv (Rc.fo g)] w fun e w' => e = .returned (.bool (Rc.okB g)) ∧ w.grownBy w' none := by
  have r := Rc.s32_rng (Mm.ld g 4 4)
  exact agree_any _ _ w (by show _ ≤ Rc.s32 _; omega) (by show Rc.s32 _ ≤ _; omega) (Rc.okB g) (Rc.ag_ok hg)

set_option maxHeartbeats 8000000 in
theorem decode_short (ao : Option Addr) (n cap : Nat) (w : World) (hn : (n : Int) < 8) :
    Calls Tryz.prog 141 #[.slice ao n cap] w fun e w' => e = .returned (.tuple #[inst zeroI, .int .i64 0, .int .i64 31]) ∧ w.grownBy w' none := by
  go_enter Tryz.func141, Tryz.ntmps141
  go_wp2
  go_returns
  exact ⟨rfl, World.grownBy_alloc _ _ _⟩

set_option maxHeartbeats 8000000 in
theorem decode_no (b off n cap : Nat) (g : Nat → Int) (w : World) (hn : 8 ≤ n) (hnc : n ≤ cap) (hg : Mm.Fit g) (hc : ∀ i, i < n → w.cell? ⟨b, off + i, none⟩ = some (.int .u8 (g i))) (ho : Rc.okB g = false) :
    Calls Tryz.prog 141 #[.slice (some ⟨b, off, none⟩) n cap] w fun e w' => e = .returned (.tuple #[inst zeroI, .int .i64 0, .int .i64 30]) ∧ w.grownBy w' none := by
  have HC : Hid (∀ i, i < n → (w.alloc (Obj.cells #[.int .i64 0, .int .i64 0, .int .i64 0, .int .i64 0, .int .i64 0, .int .i64 0, .int .i64 0, .int .i64 0, .int .i64 0] 34)).cell? ⟨b, off + i, none⟩ = some (.int .u8 (g i))) := fun i hi => (World.grownBy_alloc w (Obj.cells #[.int .i64 0, .int .i64 0, .int .i64 0, .int .i64 0, .int .i64 0, .int .i64 0, .int .i64 0, .int .i64 0, .int .i64 0] 34) none).cell (hc i hi) (by simp)
  have c0 : (w.alloc (Obj.cells #[.int .i64 0, .int .i64 0, .int .i64 0, .int .i64 0, .int .i64 0, .int .i64 0, .int .i64 0, .int .i64 0, .int .i64 0] 34)).cell? ⟨w.heap.size, 0, none⟩ = some (.int .i64 0) := by simp
  have c1 : (w.alloc (Obj.cells #[.int .i64 0, .int .i64 0, .int .i64 0, .int .i64 0, .int .i64 0, .int .i64 0, .int .i64 0, .int .i64 0, .int .i64 0] 34)).cell? ⟨w.heap.size, 1, none⟩ = some (.int .i64 0) := by simp
  have c2 : (w.alloc (Obj.cells #[.int .i64 0, .int .i64 0, .int .i64 0, .int .i64 0, .int .i64 0, .int .i64 0, .int .i64 0, .int .i64 0, .int .i64 0] 34)).cell? ⟨w.heap.size, 2, none⟩ = some (.int .i64 0) := by simp
  have c3 : (w.alloc (Obj.cells #[.int .i64 0, .int .i64 0, .int .i64 0, .int .i64 0, .int .i64 0, .int .i64 0, .int .i64 0, .int .i64 0, .int .i64 0] 34)).cell? ⟨w.heap.size, 3, none⟩ = some (.int .i64 0) := by simp
  have c4 : (w.alloc (Obj.cells #[.int .i64 0, .int .i64 0, .int .i64 0, .int .i64 0, .int .i64 0, .int .i64 0, .int .i64 0, .int .i64 0, .int .i64 0] 34)).cell? ⟨w.heap.size, 4, none⟩ = some (.int .i64 0) := by simp
  have c5 : (w.alloc (Obj.cells #[.int .i64 0, .int .i64 0, .int .i64 0, .int .i64 0, .int .i64 0, .int .i64 0, .int .i64 0, .int .i64 0, .int .i64 0] 34)).cell? ⟨w.heap.size, 5, none⟩ = some (.int .i64 0) := by simp
  have c6 : (w.alloc (Obj.cells #[.int .i64 0, .int .i64 0, .int .i64 0, .int .i64 0, .int .i64 0, .int .i64 0, .int .i64 0, .int .i64 0, .int .i64 0] 34)).cell? ⟨w.heap.size, 6, none⟩ = some (.int .i64 0) := by simp
  have c7 : (w.alloc (Obj.cells #[.int .i64 0, .int .i64 0, .int .i64 0, .int .i64 0, .int .i64 0, .int .i64 0, .int .i64 0, .int .i64 0, .int .i64 0] 34)).cell? ⟨w.heap.size, 7, none⟩ = some (.int .i64 0) := by simp
  have c8 : (w.alloc (Obj.cells #[.int .i64 0, .int .i64 0, .int .i64 0, .int .i64 0, .int .i64 0, .int .i64 0, .int .i64 0, .int .i64 0, .int .i64 0] 34)).cell? ⟨w.heap.size, 8, none⟩ = some (.int .i64 0) := by simp
  have q0 : (w.alloc (Obj.cells #[.int .i64 0, .int .i64 0, .int .i64 0, .int .i64 0, .int .i64 0, .int .i64 0, .int .i64 0, .int .i64 0, .int .i64 0] 34)).frozen? ⟨w.heap.size, 0, none⟩ = false := by simp
  have q1 : (w.alloc (Obj.cells #[.int .i64 0, .int .i64 0, .int .i64 0, .int .i64 0, .int .i64 0, .int .i64 0, .int .i64 0, .int .i64 0, .int .i64 0] 34)).frozen? ⟨w.heap.size, 1, none⟩ = false := by simp
  have q2 : (w.alloc (Obj.cells #[.int .i64 0, .int .i64 0, .int .i64 0, .int .i64 0, .int .i64 0, .int .i64 0, .int .i64 0, .int .i64 0, .int .i64 0] 34)).frozen? ⟨w.heap.size, 2, none⟩ = false := by simp
  have q3 : (w.alloc (Obj.cells #[.int .i64 0, .int .i64 0, .int .i64 0, .int .i64 0, .int .i64 0, .int .i64 0, .int .i64 0, .int .i64 0, .int .i64 0] 34)).frozen? ⟨w.heap.size, 3, none⟩ = false := by simp
  have q4 : (w.alloc (Obj.cells #[.int .i64 0, .int .i64 0, .int .i64 0, .int .i64 0, .int .i64 0, .int .i64 0, .int .i64 0, .int .i64 0, .int .i64 0] 34)).frozen? ⟨w.heap.size, 4, none⟩ = false := by simp
  have q5 : (w.alloc (Obj.cells #[.int .i64 0, .int .i64 0, .int .i64 0, .int .i64 0, .int .i64 0, .int .i64 0, .int .i64 0, .int .i64 0, .int .i64 0] 34)).frozen? ⟨w.heap.size, 5, none⟩ = false := by simp
  have q6 : (w.alloc (Obj.cells #[.int .i64 0, .int .i64 0, .int .i64 0, .int .i64 0, .int .i64 0, .int .i64 0, .int .i64 0, .int .i64 0, .int .i64 0] 34)).frozen? ⟨w.heap.size, 6, none⟩ = false := by simp
  have q7 : (w.alloc (Obj.cells #[.int .i64 0, .int .i64 0, .int .i64 0, .int .i64 0, .int .i64 0, .int .i64 0, .int .i64 0, .int .i64 0, .int .i64 0] 34)).frozen? ⟨w.heap.size, 7, none⟩ = false := by simp
  have q8 : (w.alloc (Obj.cells #[.int .i64 0, .int .i64 0, .int .i64 0, .int .i64 0, .int .i64 0, .int .i64 0, .int .i64 0, .int .i64 0, .int .i64 0] 34)).frozen? ⟨w.heap.size, 8, none⟩ = false := by simp
  have hz : w.heap.size < (w.alloc (Obj.cells #[.int .i64 0, .int .i64 0, .int .i64 0, .int .i64 0, .int .i64 0, .int .i64 0, .int .i64 0, .int .i64 0, .int .i64 0] 34)).heap.size := by rw [size_alloc]; omega
  have l8 : ¬ ((n : Int) < 8) := by omega
  have hb0 := World.grownBy_alloc w (Obj.cells #[.int .i64 0, .int .i64 0, .int .i64 0, .int .i64 0, .int .i64 0, .int .i64 0, .int .i64 0, .int .i64 0, .int .i64 0] 34) none
  clear hc
  go_enter Tryz.func141, Tryz.ntmps141
  go_wp2_with fail
  generalize w.alloc (Obj.cells #[.int .i64 0, .int .i64 0, .int .i64 0, .int .i64 0, .int .i64 0, .int .i64 0, .int .i64 0, .int .i64 0, .int .i64 0] 34) = W0 at *
  refine (formOf_x b off n cap g _ hn hnc hg HC.out).mono ?_
  rintro e w1 ⟨rfl, hg1⟩
  clear HC
  have hA := World.grownBy_alloc w1 (Obj.cells #[.int .i64 (Rc.fo g).code, .int .i64 (Rc.fo g).a, .int .i64 (Rc.fo g).b, .int .i64 (Rc.fo g).c, .int .i64 (Rc.fo g).n] 93) none
  go_wp2_with (go_at_call 55; refine (unpack_x g _).mono ?_; rintro e w2 ⟨rfl, hg2⟩; have f0 := (World.grownBy_alloc w2 (Obj.cells #[.int .i64 (Rc.unpk (Rc.fo g)).op, .int .i64 (Rc.unpk (Rc.fo g)).a, .int .i64 (Rc.unpk (Rc.fo g)).b, .int .i64 (Rc.unpk (Rc.fo g)).c, .int .i64 (Rc.unpk (Rc.fo g)).k, .int .i64 (Rc.unpk (Rc.fo g)).sub, .int .i64 (Rc.unpk (Rc.fo g)).scale, .int .i64 (Rc.unpk (Rc.fo g)).imm, .int .i64 (Rc.unpk (Rc.fo g)).label] 34) none).cell (hg2.cell (a := ⟨w1.heap.size, 0, none⟩) (v := .int .i64 (Rc.fo g).code) (by simp) (by simp)) (by simp); have f1 := (World.grownBy_alloc w2 (Obj.cells #[.int .i64 (Rc.unpk (Rc.fo g)).op, .int .i64 (Rc.unpk (Rc.fo g)).a, .int .i64 (Rc.unpk (Rc.fo g)).b, .int .i64 (Rc.unpk (Rc.fo g)).c, .int .i64 (Rc.unpk (Rc.fo g)).k, .int .i64 (Rc.unpk (Rc.fo g)).sub, .int .i64 (Rc.unpk (Rc.fo g)).scale, .int .i64 (Rc.unpk (Rc.fo g)).imm, .int .i64 (Rc.unpk (Rc.fo g)).label] 34) none).cell (hg2.cell (a := ⟨w1.heap.size, 1, none⟩) (v := .int .i64 (Rc.fo g).a) (by simp) (by simp)) (by simp); have f2 := (World.grownBy_alloc w2 (Obj.cells #[.int .i64 (Rc.unpk (Rc.fo g)).op, .int .i64 (Rc.unpk (Rc.fo g)).a, .int .i64 (Rc.unpk (Rc.fo g)).b, .int .i64 (Rc.unpk (Rc.fo g)).c, .int .i64 (Rc.unpk (Rc.fo g)).k, .int .i64 (Rc.unpk (Rc.fo g)).sub, .int .i64 (Rc.unpk (Rc.fo g)).scale, .int .i64 (Rc.unpk (Rc.fo g)).imm, .int .i64 (Rc.unpk (Rc.fo g)).label] 34) none).cell (hg2.cell (a := ⟨w1.heap.size, 2, none⟩) (v := .int .i64 (Rc.fo g).b) (by simp) (by simp)) (by simp); have f3 := (World.grownBy_alloc w2 (Obj.cells #[.int .i64 (Rc.unpk (Rc.fo g)).op, .int .i64 (Rc.unpk (Rc.fo g)).a, .int .i64 (Rc.unpk (Rc.fo g)).b, .int .i64 (Rc.unpk (Rc.fo g)).c, .int .i64 (Rc.unpk (Rc.fo g)).k, .int .i64 (Rc.unpk (Rc.fo g)).sub, .int .i64 (Rc.unpk (Rc.fo g)).scale, .int .i64 (Rc.unpk (Rc.fo g)).imm, .int .i64 (Rc.unpk (Rc.fo g)).label] 34) none).cell (hg2.cell (a := ⟨w1.heap.size, 3, none⟩) (v := .int .i64 (Rc.fo g).c) (by simp) (by simp)) (by simp); have f4 := (World.grownBy_alloc w2 (Obj.cells #[.int .i64 (Rc.unpk (Rc.fo g)).op, .int .i64 (Rc.unpk (Rc.fo g)).a, .int .i64 (Rc.unpk (Rc.fo g)).b, .int .i64 (Rc.unpk (Rc.fo g)).c, .int .i64 (Rc.unpk (Rc.fo g)).k, .int .i64 (Rc.unpk (Rc.fo g)).sub, .int .i64 (Rc.unpk (Rc.fo g)).scale, .int .i64 (Rc.unpk (Rc.fo g)).imm, .int .i64 (Rc.unpk (Rc.fo g)).label] 34) none).cell (hg2.cell (a := ⟨w1.heap.size, 4, none⟩) (v := .int .i64 (Rc.fo g).n) (by simp) (by simp)) (by simp))
  refine (agree_x g hg _).mono ?_
  rw [ho]
  rintro e w3 ⟨rfl, hg3⟩
  have G : W0.grownBy w3 none := grown_trans (grown_trans (grown_trans (grown_trans hg1 hA) hg2) (World.grownBy_alloc _ _ _)) hg3
  have r0 := G.cell c0 (by simp)
  have s0 := (G.frozen_far ⟨w.heap.size, 0, none⟩ hz (by simp)).trans q0
  have r1 := G.cell c1 (by simp)
  have s1 := (G.frozen_far ⟨w.heap.size, 1, none⟩ hz (by simp)).trans q1
  have r2 := G.cell c2 (by simp)
  have s2 := (G.frozen_far ⟨w.heap.size, 2, none⟩ hz (by simp)).trans q2
  have r3 := G.cell c3 (by simp)
  have s3 := (G.frozen_far ⟨w.heap.size, 3, none⟩ hz (by simp)).trans q3
  have r4 := G.cell c4 (by simp)
  have s4 := (G.frozen_far ⟨w.heap.size, 4, none⟩ hz (by simp)).trans q4
  have r5 := G.cell c5 (by simp)
  have s5 := (G.frozen_far ⟨w.heap.size, 5, none⟩ hz (by simp)).trans q5
  have r6 := G.cell c6 (by simp)
  have s6 := (G.frozen_far ⟨w.heap.size, 6, none⟩ hz (by simp)).trans q6
  have r7 := G.cell c7 (by simp)
  have s7 := (G.frozen_far ⟨w.heap.size, 7, none⟩ hz (by simp)).trans q7
  have r8 := G.cell c8 (by simp)
  have s8 := (G.frozen_far ⟨w.heap.size, 8, none⟩ hz (by simp)).trans q8
  have HG : Hid (w.grownBy w3 none) := grown_trans hb0 G
  clear G hg1 hg2 hg3 hA hb0 hz f0 f1 f2 f3 f4 c0 q0 c1 q1 c2 q2 c3 q3 c4 q4 c5 q5 c6 q6 c7 q7 c8 q8
  go_wp2_with fail
  refine bodyPost_ret (by simp [results, Tryz.results141, go_sem, r0, r1, r2, r3, r4, r5, r6, r7, r8]; try rfl) rfl ?_
  refine ⟨rfl, ?_⟩
  repeat (refine gs ?_ _ _ (Nat.le_refl _))
  exact HG.out

set_option maxHeartbeats 8000000 in
theorem decode_ok (b off n cap : Nat) (g : Nat → Int) (w : World) (hn : 8 ≤ n) (hnc : n ≤ cap) (hg : Mm.Fit g) (hc : ∀ i, i < n → w.cell? ⟨b, off + i, none⟩ = some (.int .u8 (g i))) (ho : Rc.okB g = true) :
    Calls Tryz.prog 141 #[.slice (some ⟨b, off, none⟩) n cap] w fun e w' => e = .returned (.tuple #[inst (Rc.rd g), .int .i64 8, .int .i64 0]) ∧ w.grownBy w' none := by
  have HC : Hid (∀ i, i < n → (w.alloc (Obj.cells #[.int .i64 0, .int .i64 0, .int .i64 0, .int .i64 0, .int .i64 0, .int .i64 0, .int .i64 0, .int .i64 0, .int .i64 0] 34)).cell? ⟨b, off + i, none⟩ = some (.int .u8 (g i))) := fun i hi => (World.grownBy_alloc w (Obj.cells #[.int .i64 0, .int .i64 0, .int .i64 0, .int .i64 0, .int .i64 0, .int .i64 0, .int .i64 0, .int .i64 0, .int .i64 0] 34) none).cell (hc i hi) (by simp)
  have c0 : (w.alloc (Obj.cells #[.int .i64 0, .int .i64 0, .int .i64 0, .int .i64 0, .int .i64 0, .int .i64 0, .int .i64 0, .int .i64 0, .int .i64 0] 34)).cell? ⟨w.heap.size, 0, none⟩ = some (.int .i64 0) := by simp
  have c1 : (w.alloc (Obj.cells #[.int .i64 0, .int .i64 0, .int .i64 0, .int .i64 0, .int .i64 0, .int .i64 0, .int .i64 0, .int .i64 0, .int .i64 0] 34)).cell? ⟨w.heap.size, 1, none⟩ = some (.int .i64 0) := by simp
  have c2 : (w.alloc (Obj.cells #[.int .i64 0, .int .i64 0, .int .i64 0, .int .i64 0, .int .i64 0, .int .i64 0, .int .i64 0, .int .i64 0, .int .i64 0] 34)).cell? ⟨w.heap.size, 2, none⟩ = some (.int .i64 0) := by simp
  have c3 : (w.alloc (Obj.cells #[.int .i64 0, .int .i64 0, .int .i64 0, .int .i64 0, .int .i64 0, .int .i64 0, .int .i64 0, .int .i64 0, .int .i64 0] 34)).cell? ⟨w.heap.size, 3, none⟩ = some (.int .i64 0) := by simp
  have c4 : (w.alloc (Obj.cells #[.int .i64 0, .int .i64 0, .int .i64 0, .int .i64 0, .int .i64 0, .int .i64 0, .int .i64 0, .int .i64 0, .int .i64 0] 34)).cell? ⟨w.heap.size, 4, none⟩ = some (.int .i64 0) := by simp
  have c5 : (w.alloc (Obj.cells #[.int .i64 0, .int .i64 0, .int .i64 0, .int .i64 0, .int .i64 0, .int .i64 0, .int .i64 0, .int .i64 0, .int .i64 0] 34)).cell? ⟨w.heap.size, 5, none⟩ = some (.int .i64 0) := by simp
  have c6 : (w.alloc (Obj.cells #[.int .i64 0, .int .i64 0, .int .i64 0, .int .i64 0, .int .i64 0, .int .i64 0, .int .i64 0, .int .i64 0, .int .i64 0] 34)).cell? ⟨w.heap.size, 6, none⟩ = some (.int .i64 0) := by simp
  have c7 : (w.alloc (Obj.cells #[.int .i64 0, .int .i64 0, .int .i64 0, .int .i64 0, .int .i64 0, .int .i64 0, .int .i64 0, .int .i64 0, .int .i64 0] 34)).cell? ⟨w.heap.size, 7, none⟩ = some (.int .i64 0) := by simp
  have c8 : (w.alloc (Obj.cells #[.int .i64 0, .int .i64 0, .int .i64 0, .int .i64 0, .int .i64 0, .int .i64 0, .int .i64 0, .int .i64 0, .int .i64 0] 34)).cell? ⟨w.heap.size, 8, none⟩ = some (.int .i64 0) := by simp
  have q0 : (w.alloc (Obj.cells #[.int .i64 0, .int .i64 0, .int .i64 0, .int .i64 0, .int .i64 0, .int .i64 0, .int .i64 0, .int .i64 0, .int .i64 0] 34)).frozen? ⟨w.heap.size, 0, none⟩ = false := by simp
  have q1 : (w.alloc (Obj.cells #[.int .i64 0, .int .i64 0, .int .i64 0, .int .i64 0, .int .i64 0, .int .i64 0, .int .i64 0, .int .i64 0, .int .i64 0] 34)).frozen? ⟨w.heap.size, 1, none⟩ = false := by simp
  have q2 : (w.alloc (Obj.cells #[.int .i64 0, .int .i64 0, .int .i64 0, .int .i64 0, .int .i64 0, .int .i64 0, .int .i64 0, .int .i64 0, .int .i64 0] 34)).frozen? ⟨w.heap.size, 2, none⟩ = false := by simp
  have q3 : (w.alloc (Obj.cells #[.int .i64 0, .int .i64 0, .int .i64 0, .int .i64 0, .int .i64 0, .int .i64 0, .int .i64 0, .int .i64 0, .int .i64 0] 34)).frozen? ⟨w.heap.size, 3, none⟩ = false := by simp
  have q4 : (w.alloc (Obj.cells #[.int .i64 0, .int .i64 0, .int .i64 0, .int .i64 0, .int .i64 0, .int .i64 0, .int .i64 0, .int .i64 0, .int .i64 0] 34)).frozen? ⟨w.heap.size, 4, none⟩ = false := by simp
  have q5 : (w.alloc (Obj.cells #[.int .i64 0, .int .i64 0, .int .i64 0, .int .i64 0, .int .i64 0, .int .i64 0, .int .i64 0, .int .i64 0, .int .i64 0] 34)).frozen? ⟨w.heap.size, 5, none⟩ = false := by simp
  have q6 : (w.alloc (Obj.cells #[.int .i64 0, .int .i64 0, .int .i64 0, .int .i64 0, .int .i64 0, .int .i64 0, .int .i64 0, .int .i64 0, .int .i64 0] 34)).frozen? ⟨w.heap.size, 6, none⟩ = false := by simp
  have q7 : (w.alloc (Obj.cells #[.int .i64 0, .int .i64 0, .int .i64 0, .int .i64 0, .int .i64 0, .int .i64 0, .int .i64 0, .int .i64 0, .int .i64 0] 34)).frozen? ⟨w.heap.size, 7, none⟩ = false := by simp
  have q8 : (w.alloc (Obj.cells #[.int .i64 0, .int .i64 0, .int .i64 0, .int .i64 0, .int .i64 0, .int .i64 0, .int .i64 0, .int .i64 0, .int .i64 0] 34)).frozen? ⟨w.heap.size, 8, none⟩ = false := by simp
  have hz : w.heap.size < (w.alloc (Obj.cells #[.int .i64 0, .int .i64 0, .int .i64 0, .int .i64 0, .int .i64 0, .int .i64 0, .int .i64 0, .int .i64 0, .int .i64 0] 34)).heap.size := by rw [size_alloc]; omega
  have l8 : ¬ ((n : Int) < 8) := by omega
  have hb0 := World.grownBy_alloc w (Obj.cells #[.int .i64 0, .int .i64 0, .int .i64 0, .int .i64 0, .int .i64 0, .int .i64 0, .int .i64 0, .int .i64 0, .int .i64 0] 34) none
  clear hc
  go_enter Tryz.func141, Tryz.ntmps141
  go_wp2_with fail
  generalize w.alloc (Obj.cells #[.int .i64 0, .int .i64 0, .int .i64 0, .int .i64 0, .int .i64 0, .int .i64 0, .int .i64 0, .int .i64 0, .int .i64 0] 34) = W0 at *
  refine (formOf_x b off n cap g _ hn hnc hg HC.out).mono ?_
  rintro e w1 ⟨rfl, hg1⟩
  clear HC
  have hA := World.grownBy_alloc w1 (Obj.cells #[.int .i64 (Rc.fo g).code, .int .i64 (Rc.fo g).a, .int .i64 (Rc.fo g).b, .int .i64 (Rc.fo g).c, .int .i64 (Rc.fo g).n] 93) none
  go_wp2_with (go_at_call 55; refine (unpack_x g _).mono ?_; rintro e w2 ⟨rfl, hg2⟩; have f0 := (World.grownBy_alloc w2 (Obj.cells #[.int .i64 (Rc.unpk (Rc.fo g)).op, .int .i64 (Rc.unpk (Rc.fo g)).a, .int .i64 (Rc.unpk (Rc.fo g)).b, .int .i64 (Rc.unpk (Rc.fo g)).c, .int .i64 (Rc.unpk (Rc.fo g)).k, .int .i64 (Rc.unpk (Rc.fo g)).sub, .int .i64 (Rc.unpk (Rc.fo g)).scale, .int .i64 (Rc.unpk (Rc.fo g)).imm, .int .i64 (Rc.unpk (Rc.fo g)).label] 34) none).cell (hg2.cell (a := ⟨w1.heap.size, 0, none⟩) (v := .int .i64 (Rc.fo g).code) (by simp) (by simp)) (by simp); have f1 := (World.grownBy_alloc w2 (Obj.cells #[.int .i64 (Rc.unpk (Rc.fo g)).op, .int .i64 (Rc.unpk (Rc.fo g)).a, .int .i64 (Rc.unpk (Rc.fo g)).b, .int .i64 (Rc.unpk (Rc.fo g)).c, .int .i64 (Rc.unpk (Rc.fo g)).k, .int .i64 (Rc.unpk (Rc.fo g)).sub, .int .i64 (Rc.unpk (Rc.fo g)).scale, .int .i64 (Rc.unpk (Rc.fo g)).imm, .int .i64 (Rc.unpk (Rc.fo g)).label] 34) none).cell (hg2.cell (a := ⟨w1.heap.size, 1, none⟩) (v := .int .i64 (Rc.fo g).a) (by simp) (by simp)) (by simp); have f2 := (World.grownBy_alloc w2 (Obj.cells #[.int .i64 (Rc.unpk (Rc.fo g)).op, .int .i64 (Rc.unpk (Rc.fo g)).a, .int .i64 (Rc.unpk (Rc.fo g)).b, .int .i64 (Rc.unpk (Rc.fo g)).c, .int .i64 (Rc.unpk (Rc.fo g)).k, .int .i64 (Rc.unpk (Rc.fo g)).sub, .int .i64 (Rc.unpk (Rc.fo g)).scale, .int .i64 (Rc.unpk (Rc.fo g)).imm, .int .i64 (Rc.unpk (Rc.fo g)).label] 34) none).cell (hg2.cell (a := ⟨w1.heap.size, 2, none⟩) (v := .int .i64 (Rc.fo g).b) (by simp) (by simp)) (by simp); have f3 := (World.grownBy_alloc w2 (Obj.cells #[.int .i64 (Rc.unpk (Rc.fo g)).op, .int .i64 (Rc.unpk (Rc.fo g)).a, .int .i64 (Rc.unpk (Rc.fo g)).b, .int .i64 (Rc.unpk (Rc.fo g)).c, .int .i64 (Rc.unpk (Rc.fo g)).k, .int .i64 (Rc.unpk (Rc.fo g)).sub, .int .i64 (Rc.unpk (Rc.fo g)).scale, .int .i64 (Rc.unpk (Rc.fo g)).imm, .int .i64 (Rc.unpk (Rc.fo g)).label] 34) none).cell (hg2.cell (a := ⟨w1.heap.size, 3, none⟩) (v := .int .i64 (Rc.fo g).c) (by simp) (by simp)) (by simp); have f4 := (World.grownBy_alloc w2 (Obj.cells #[.int .i64 (Rc.unpk (Rc.fo g)).op, .int .i64 (Rc.unpk (Rc.fo g)).a, .int .i64 (Rc.unpk (Rc.fo g)).b, .int .i64 (Rc.unpk (Rc.fo g)).c, .int .i64 (Rc.unpk (Rc.fo g)).k, .int .i64 (Rc.unpk (Rc.fo g)).sub, .int .i64 (Rc.unpk (Rc.fo g)).scale, .int .i64 (Rc.unpk (Rc.fo g)).imm, .int .i64 (Rc.unpk (Rc.fo g)).label] 34) none).cell (hg2.cell (a := ⟨w1.heap.size, 4, none⟩) (v := .int .i64 (Rc.fo g).n) (by simp) (by simp)) (by simp))
  refine (agree_x g hg _).mono ?_
  rw [ho]
  rintro e w3 ⟨rfl, hg3⟩
  have G : W0.grownBy w3 none := grown_trans (grown_trans (grown_trans (grown_trans hg1 hA) hg2) (World.grownBy_alloc _ _ _)) hg3
  have r0 := G.cell c0 (by simp)
  have s0 := (G.frozen_far ⟨w.heap.size, 0, none⟩ hz (by simp)).trans q0
  have r1 := G.cell c1 (by simp)
  have s1 := (G.frozen_far ⟨w.heap.size, 1, none⟩ hz (by simp)).trans q1
  have r2 := G.cell c2 (by simp)
  have s2 := (G.frozen_far ⟨w.heap.size, 2, none⟩ hz (by simp)).trans q2
  have r3 := G.cell c3 (by simp)
  have s3 := (G.frozen_far ⟨w.heap.size, 3, none⟩ hz (by simp)).trans q3
  have r4 := G.cell c4 (by simp)
  have s4 := (G.frozen_far ⟨w.heap.size, 4, none⟩ hz (by simp)).trans q4
  have r5 := G.cell c5 (by simp)
  have s5 := (G.frozen_far ⟨w.heap.size, 5, none⟩ hz (by simp)).trans q5
  have r6 := G.cell c6 (by simp)
  have s6 := (G.frozen_far ⟨w.heap.size, 6, none⟩ hz (by simp)).trans q6
  have r7 := G.cell c7 (by simp)
  have s7 := (G.frozen_far ⟨w.heap.size, 7, none⟩ hz (by simp)).trans q7
  have r8 := G.cell c8 (by simp)
  have s8 := (G.frozen_far ⟨w.heap.size, 8, none⟩ hz (by simp)).trans q8
  have i0 : w3.cell? ⟨w2.heap.size, 0, none⟩ = some (.int .i64 (Rc.unpk (Rc.fo g)).op) := hg3.cell (by simp) (by simp)
  have i1 : w3.cell? ⟨w2.heap.size, 1, none⟩ = some (.int .i64 (Rc.unpk (Rc.fo g)).a) := hg3.cell (by simp) (by simp)
  have i2 : w3.cell? ⟨w2.heap.size, 2, none⟩ = some (.int .i64 (Rc.unpk (Rc.fo g)).b) := hg3.cell (by simp) (by simp)
  have i3 : w3.cell? ⟨w2.heap.size, 3, none⟩ = some (.int .i64 (Rc.unpk (Rc.fo g)).c) := hg3.cell (by simp) (by simp)
  have i4 : w3.cell? ⟨w2.heap.size, 4, none⟩ = some (.int .i64 (Rc.unpk (Rc.fo g)).k) := hg3.cell (by simp) (by simp)
  have i5 : w3.cell? ⟨w2.heap.size, 5, none⟩ = some (.int .i64 (Rc.unpk (Rc.fo g)).sub) := hg3.cell (by simp) (by simp)
  have i6 : w3.cell? ⟨w2.heap.size, 6, none⟩ = some (.int .i64 (Rc.unpk (Rc.fo g)).scale) := hg3.cell (by simp) (by simp)
  have i7 : w3.cell? ⟨w2.heap.size, 7, none⟩ = some (.int .i64 (Rc.unpk (Rc.fo g)).imm) := hg3.cell (by simp) (by simp)
  have i8 : w3.cell? ⟨w2.heap.size, 8, none⟩ = some (.int .i64 (Rc.unpk (Rc.fo g)).label) := hg3.cell (by simp) (by simp)
  have HG : Hid (w.grownBy w3 none) := grown_trans hb0 G
  clear G hg1 hg2 hg3 hA hb0 hz f0 f1 f2 f3 f4 c0 q0 c1 q1 c2 q2 c3 q3 c4 q4 c5 q5 c6 q6 c7 q7 c8 q8
  go_wp2_with fail
  refine bodyPost_ret (by simp [results, Tryz.results141, go_sem, r0, r1, r2, r3, r4, r5, r6, r7, r8]; try rfl) rfl ?_
  refine ⟨(by rw [← Rc.unpk_ok ho]; rfl), ?_⟩
  repeat (refine gs ?_ _ _ (Nat.le_refl _))
  exact HG.out

end Go.Proofs.YtdklaeppcjopoaaGreatDoor

/- The program's machines: a whole step, by the plain machine. -/
namespace Go.Proofs.YtdklaeppcjopoaaGreatDoor
open Go.RowKit
set_option linter.unusedVariables false

set_option maxRecDepth 100000 in
set_option maxHeartbeats 4000000 in
theorem prF {w : World} {h : Pd} {s : Ru.St} (x : IsC w h s)
    (HF : Hid (∀ W, IsC W h s → Calls Tryz.prog 140 #[.pointer (some ⟨h.B, 0, none⟩), .func (.func 141) #[] #[]] W fun r w' => r = .panicked stk ∧ (∃ s', IsC w' h s') ∧ Mc h W w')) :
    Calls Tryz.prog 139 #[.pointer (some ⟨h.B, 0, none⟩)] w fun r w' => r = .panicked stk ∧ (∃ s', IsC w' h s') ∧ Mc h w w' := by
  have G := World.grownBy_alloc w (Obj.cells #[.int .i64 0, .int .i64 0, .int .i64 0, .int .i64 0, .int .i64 0, .int .i64 0, .int .i64 0, .int .i64 0, .int .i64 0] 34) none
  have HX0 : Hid (IsC (w.alloc (Obj.cells #[.int .i64 0, .int .i64 0, .int .i64 0, .int .i64 0, .int .i64 0, .int .i64 0, .int .i64 0, .int .i64 0, .int .i64 0] 34)) h s) := x.kept G
  have HV0 : Hid (Mc h w (w.alloc (Obj.cells #[.int .i64 0, .int .i64 0, .int .i64 0, .int .i64 0, .int .i64 0, .int .i64 0, .int .i64 0, .int .i64 0, .int .i64 0] 34))) := Mc.refl.grown G
  clear x G
  go_enter Tryz.func139, Tryz.ntmps139
  go_wp2_with fail
  refine (HF.out _ HX0.out).mono ?_
  rintro r w1 ⟨rfl, x1, v1⟩
  exact ⟨rfl, rfl, x1, HV0.out.trans v1⟩
set_option maxRecDepth 100000 in
set_option maxHeartbeats 4000000 in
theorem pcF {w : World} {h : Pd} {s : Ru.St} (x : IsC w h s)
    (HF : Hid (∀ W, IsC W h s → Calls Tryz.prog 140 #[.pointer (some ⟨h.B, 0, none⟩), .func (.func 43) #[] #[]] W fun r w' => r = .panicked stk ∧ (∃ s', IsC w' h s') ∧ Mc h W w')) :
    Calls Tryz.prog 159 #[.pointer (some ⟨h.B, 0, none⟩)] w fun r w' => r = .panicked stk ∧ (∃ s', IsC w' h s') ∧ Mc h w w' := by
  have G := World.grownBy_alloc w (Obj.cells #[.int .i64 0, .int .i64 0, .int .i64 0, .int .i64 0, .int .i64 0, .int .i64 0, .int .i64 0, .int .i64 0, .int .i64 0] 34) none
  have HX0 : Hid (IsC (w.alloc (Obj.cells #[.int .i64 0, .int .i64 0, .int .i64 0, .int .i64 0, .int .i64 0, .int .i64 0, .int .i64 0, .int .i64 0, .int .i64 0] 34)) h s) := x.kept G
  have HV0 : Hid (Mc h w (w.alloc (Obj.cells #[.int .i64 0, .int .i64 0, .int .i64 0, .int .i64 0, .int .i64 0, .int .i64 0, .int .i64 0, .int .i64 0, .int .i64 0] 34))) := Mc.refl.grown G
  clear x G
  go_enter Tryz.func159, Tryz.ntmps159
  go_wp2_with fail
  refine (HF.out _ HX0.out).mono ?_
  rintro r w1 ⟨rfl, x1, v1⟩
  exact ⟨rfl, rfl, x1, HV0.out.trans v1⟩
/-- bytes from a place on -/
theorem BsIn.sub {w : World} {b off n cap p : Nat} {g : Nat → Int} {aq : Option Addr} (h : BsIn w (some ⟨b, off, none⟩) n cap g) (hp : p ≤ n) (hq : (if cap = p then some (⟨b, off, none⟩ : Addr) else some ⟨b, off + p, none⟩) = aq) : BsIn w aq (n - p) (cap - p) (Ru.sh g p) := by
  by_cases hc : cap = p
  · have h1 := h.le
    rw [if_pos hc] at hq
    subst hq
    exact ⟨fun e => (by cases e), (by omega), Nat.le_trans (Nat.sub_le _ _) h.max, fun i => h.fit _, .inl (by omega), fun b off h0 => (by omega)⟩
  · rw [if_neg hc] at hq
    subst hq
    refine ⟨fun e => (by cases e), (by have := h.le; omega), Nat.le_trans (Nat.sub_le _ _) h.max, fun i => h.fit _, ?_, fun b' off' h0 e => ?_⟩
    · rcases Nat.eq_zero_or_pos (n - p) with h0 | h0
      · exact .inl h0
      · obtain ⟨b2, off2, e, hcell⟩ := h.bs.at (by omega)
        injection e with e
        injection e with e1 e2
        subst e1 e2
        refine .inr ⟨b, off + p, rfl, fun i hi => ?_⟩
        have := hcell (p + i) (by omega)
        rw [Nat.add_assoc]
        exact this
    · injection e with e
      injection e with e1 e2
      subst e1
      exact h.lt b off (by omega) rfl
theorem wr_place {p : Int} (h1 : 0 ≤ p) (h2 : p ≤ 9223372036854775807) : Ru.wr p = p := by unfold Ru.wr; omega
/-- where the code may lie -/
def Pd.At (h : Pd) : Prop := h.ao = none ∨ ∃ b off, h.ao = some ⟨b, off, none⟩
def inst' (v : InV) : Value := .agg #[.int .i64 v.op, .int .i64 v.a, .int .i64 v.b, .int .i64 v.c, .int .i64 v.k, .int .i64 v.sub, .int .i64 v.scale, .int .i64 v.imm, .int .i64 v.label]
theorem code_len {w : World} {h : Pd} {s : Ru.St} (x : IsC w h s) : (h.N : Int) ≤ 9223372036854775807 := by
  have h1 := x.cd.le
  have h2 := x.cd.max
  have h3 : maxLen ≤ 9223372036854775807 := by decide
  omega
theorem r64_step {w : World} {h : Pd} {s : Ru.St} (x : IsC w h s) (he : s.e = 0) (t1 : h.t = 1) (hA : h.At) :
    Calls Tryz.prog 139 #[.pointer (some ⟨h.B, 0, none⟩)] w (BoP h w (inst' (Ru.next h.im s.pl).1) (Ru.step h.im s)) := by
  have hst : Ru.step h.im s = if (Ru.next h.im s.pl).2.2 then Ru.exec h.im (Ru.next h.im s.pl).1 (s.goto (s.pl + (Ru.next h.im s.pl).2.1)) else s.stop 5 0 := by
    unfold Ru.step; rw [if_pos he]
  have hN := code_len x
  have hpl := x.ok.pl
  have stuck : ∀ {n : InV × Int × Bool}, Ru.next h.im s.pl = n → n.2.2 = false → (Hid (∀ W, IsC W h s → Calls Tryz.prog 140 #[.pointer (some ⟨h.B, 0, none⟩), .func (.func 141) #[] #[]] W fun r w' => r = .panicked stk ∧ (∃ s', IsC w' h s') ∧ Mc h W w')) →
      Calls Tryz.prog 139 #[.pointer (some ⟨h.B, 0, none⟩)] w (BoP h w (inst' (Ru.next h.im s.pl).1) (Ru.step h.im s)) := fun hn h0 HF => by
    refine BoP.no ?_ (prF x HF)
    rw [hst, hn, h0, if_neg (by decide)]
    exact Ru.stop5 he 0
  by_cases ho : s.pl < 0 ∨ (h.N : Int) < s.pl
  · have hn : Ru.next h.im s.pl = (Cc.zero, 0, false) := by unfold Ru.next; rw [if_pos (show s.pl < 0 ∨ (h.im.N : Int) < s.pl from ho)]
    refine stuck hn rfl (fun W hW => pfetch_rout hW ?_)
    unfold Ru.wr
    omega
  · obtain ⟨p, hp⟩ : ∃ p : Nat, s.pl = p := ⟨s.pl.toNat, by omega⟩
    have hpN : p ≤ h.N := by omega
    have hwp : Ru.wr s.pl = p := by rw [wr_place (by omega) (by omega)]; exact hp
    have hn : Ru.next h.im s.pl = if (h.N : Int) - p < 8 then (Cc.zero, 8, false) else (Rc.dv (Ru.sh h.g p), 8, Rc.de (Ru.sh h.g p) == 0) := by
      unfold Ru.next
      rw [if_neg (show ¬ (s.pl < 0 ∨ (h.im.N : Int) < s.pl) from ho), if_pos (show h.im.t = 1 from t1), hp]
      rfl
    rcases hA with ha | ⟨b, off, ha⟩
    · obtain ⟨n0, c0⟩ := x.cd.nil ha
      have hp0 : p = 0 := by omega
      rw [if_pos (by omega)] at hn
      refine stuck hn rfl (fun W hW => pfetch_r0n hW ha n0 c0 p hp0 hwp zeroI 0 31 rfl (fun W' hW' => ?_))
      exact decode_short none 0 0 W' (by decide)
    · obtain ⟨aq, hq⟩ : ∃ aq, (if h.cap = p then some (⟨b, off, none⟩ : Addr) else some ⟨b, off + p, none⟩) = aq := ⟨_, rfl⟩
      by_cases h8 : (h.N : Int) - p < 8
      · rw [if_pos h8] at hn
        refine stuck hn rfl (fun W hW => pfetch_rn hW b off ha p hpN hwp aq hq zeroI 0 31 rfl (fun W' hW' => ?_))
        exact decode_short aq (h.N - p) (h.cap - p) W' (by omega)
      · rw [if_neg h8] at hn
        have hc0 : h.cap ≠ p := by have := x.cd.le; omega
        rw [if_neg hc0] at hq
        subst hq
        have hcells : ∀ W, IsC W h s → ∀ i, i < h.N - p → W.cell? ⟨b, off + p + i, none⟩ = some (.int .u8 (Ru.sh h.g p i)) := fun W hW i hi => by
          have hcd := hW.cd
          rw [ha] at hcd
          have hB := BsIn.sub (aq := some ⟨b, off + p, none⟩) hcd hpN (by rw [if_neg hc0])
          obtain ⟨b2, off2, e, hcell⟩ := hB.bs.at (by omega)
          injection e with e
          injection e with e1 e2
          subst e1 e2
          exact hcell i hi
        have hfit : Mm.Fit (Ru.sh h.g p) := fun i => x.cd.fit _
        have hcl := x.cd.le
        cases hok : Rc.okB (Ru.sh h.g p)
        · rw [Rc.de_no hok] at hn
          refine stuck hn rfl (fun W hW => pfetch_rn hW b off ha p hpN hwp _ (by rw [if_neg hc0]) zeroI 0 30 rfl (fun W' hW' => ?_))
          exact decode_no b (off + p) (h.N - p) (h.cap - p) (Ru.sh h.g p) W' (by omega) (by omega) hfit (hcells W' hW') hok
        · rw [Rc.de_ok hok, Rc.dv_ok hok] at hn
          have hm : Rc.mayB (Rc.rd (Ru.sh h.g p)) = true := by unfold Rc.okB at hok; exact (Bool.and_eq_true _ _ ▸ hok).2
          have hn1 : (Ru.next h.im s.pl).1 = Rc.rd (Ru.sh h.g p) := by rw [hn]
          have hst2 : Ru.step h.im s = Ru.exec h.im (Rc.rd (Ru.sh h.g p)) (s.goto (s.pl + 8)) := by rw [hst, hn]; rfl
          rw [hn1, hst2]
          refine r64_any x he x.ok.r t1 hm (fun W hW => ?_)
          exact pfetch_r hW b off ha p hpN hwp _ (by rw [if_neg hc0]) (Rc.rd (Ru.sh h.g p)) 8 (fun W' hW' => decode_ok b (off + p) (h.N - p) (h.cap - p) (Ru.sh h.g p) W' (by omega) (by omega) hfit (hcells W' hW') hok)
theorem c64_step {w : World} {h : Pd} {s : Ru.St} (x : IsC w h s) (he : s.e = 0) (fc : s.Fc) (t2 : h.t = 2) (hA : h.At) :
    Calls Tryz.prog 159 #[.pointer (some ⟨h.B, 0, none⟩)] w (BoP h w (inst' (Ru.next h.im s.pl).1) (Ru.step h.im s)) := by
  have hst : Ru.step h.im s = if (Ru.next h.im s.pl).2.2 then Ru.exec h.im (Ru.next h.im s.pl).1 (s.goto (s.pl + (Ru.next h.im s.pl).2.1)) else s.stop 5 0 := by
    unfold Ru.step; rw [if_pos he]
  have hN := code_len x
  have hpl := x.ok.pl
  have stuck : ∀ {n : InV × Int × Bool}, Ru.next h.im s.pl = n → n.2.2 = false → (Hid (∀ W, IsC W h s → Calls Tryz.prog 140 #[.pointer (some ⟨h.B, 0, none⟩), .func (.func 43) #[] #[]] W fun r w' => r = .panicked stk ∧ (∃ s', IsC w' h s') ∧ Mc h W w')) →
      Calls Tryz.prog 159 #[.pointer (some ⟨h.B, 0, none⟩)] w (BoP h w (inst' (Ru.next h.im s.pl).1) (Ru.step h.im s)) := fun hn h0 HF => by
    refine BoP.no ?_ (pcF x HF)
    rw [hst, hn, h0, if_neg (by decide)]
    exact Ru.stop5 he 0
  by_cases ho : s.pl < 0 ∨ (h.N : Int) < s.pl
  · have hn : Ru.next h.im s.pl = (Cc.zero, 0, false) := by unfold Ru.next; rw [if_pos (show s.pl < 0 ∨ (h.im.N : Int) < s.pl from ho)]
    refine stuck hn rfl (fun W hW => pfetch_cout hW ?_)
    unfold Ru.wr
    omega
  · obtain ⟨p, hp⟩ : ∃ p : Nat, s.pl = p := ⟨s.pl.toNat, by omega⟩
    have hpN : p ≤ h.N := by omega
    have hwp : Ru.wr s.pl = p := by rw [wr_place (by omega) (by omega)]; exact hp
    obtain ⟨D, hD⟩ : ∃ D, Cc.dec (h.N - p) (Ru.sh h.g p) = D := ⟨_, rfl⟩
    have hn : Ru.next h.im s.pl = (D.1, D.2.1, D.2.2 == 0) := by
      unfold Ru.next
      rw [if_neg (show ¬ (s.pl < 0 ∨ (h.im.N : Int) < s.pl) from ho), if_neg (show ¬ h.im.t = 1 by show ¬ h.t = 1; omega), hp, ← hD]
      rfl
    obtain ⟨v, T, E⟩ := D
    rcases hA with ha | ⟨b, off, ha⟩
    · obtain ⟨n0, c0⟩ := x.cd.nil ha
      have hp0 : p = 0 := by omega
      have hd0 : Cc.dec (h.N - p) (Ru.sh h.g p) = (Cc.zero, 0, 41) := by unfold Cc.dec; rw [if_pos (by omega)]
      rw [hd0] at hD
      injection hD with e1 e2
      injection e2 with e2 e3
      subst e1 e2 e3
      refine stuck hn rfl (fun W hW => pfetch_c0n hW ha n0 c0 p hp0 hwp Cc.zero 0 41 rfl (fun W' hW' => ?_))
      have hB : BsIn W' none 0 0 (Ru.sh h.g p) := ⟨fun _ => ⟨rfl, rfl⟩, Nat.le_refl _, Nat.zero_le _, fun i => x.cd.fit _, .inl rfl, fun _ _ h0 => by omega⟩
      have := cdecode_any hB
      have hd1 : Cc.dec 0 (Ru.sh h.g p) = (Cc.zero, 0, 41) := by unfold Cc.dec; rw [if_pos rfl]
      rw [hd1] at this
      exact this
    · obtain ⟨aq, hq⟩ : ∃ aq, (if h.cap = p then some (⟨b, off, none⟩ : Addr) else some ⟨b, off + p, none⟩) = aq := ⟨_, rfl⟩
      have HD : ∀ W, IsC W h s → Calls Tryz.prog 43 #[.slice aq (h.N - p) (h.cap - p)] W fun r w' => r = .returned (.tuple #[.agg #[.int .i64 v.op, .int .i64 v.a, .int .i64 v.b, .int .i64 v.c, .int .i64 v.k, .int .i64 v.sub, .int .i64 v.scale, .int .i64 v.imm, .int .i64 v.label], .int .i64 T, .int .i64 E]) ∧ W.grownBy w' none := fun W hW => by
        have hcd := hW.cd
        rw [ha] at hcd
        have := cdecode_any (BsIn.sub hcd hpN hq)
        rw [hD] at this
        exact this
      by_cases h0 : E = 0
      · subst h0
        have hm := (Cc.dec_ok hD).1
        have hn1 : (Ru.next h.im s.pl).1 = v := by rw [hn]
        have hst2 : Ru.step h.im s = Ru.exec h.im v (s.goto (s.pl + T)) := by rw [hst, hn]; rfl
        rw [hn1, hst2]
        exact c64_any x he x.ok.r fc t2 hm (fun W hW => pfetch_c hW b off ha p hpN hwp aq hq v T HD)
      · exact stuck hn (by simpa using h0) (fun W hW => pfetch_cn hW b off ha p hpN hwp aq hq v T E (bne0 h0) HD)
end Go.Proofs.YtdklaeppcjopoaaGreatDoor

/- The program's machine behind its interface: coreOf, goOn. -/
namespace Go.Proofs.YtdklaeppcjopoaaGreatDoor
open Go.RowKit
set_option linter.unusedVariables false

theorem assert_r (a : Option Addr) (w : World) : (Instr.typeAssert (.iface 111 (.pointer a)) 79 111 true).run Tryz.prog w = .ok (.tuple #[.pointer a, .bool true]) w := by kernel_rfl
theorem assert_rc (a : Option Addr) (w : World) : (Instr.typeAssert (.iface 114 (.pointer a)) 79 111 true).run Tryz.prog w = .ok (.tuple #[.pointer none, .bool false]) w := by kernel_rfl
theorem assert_c (a : Option Addr) (w : World) : (Instr.typeAssert (.iface 114 (.pointer a)) 79 114 true).run Tryz.prog w = .ok (.tuple #[.pointer a, .bool true]) w := by kernel_rfl
theorem core_r (B : Nat) (w : World) : Calls Tryz.prog 35 #[.iface 111 (.pointer (some ⟨B, 0, none⟩))] w fun r w' => r = .returned (.pointer (some ⟨B, 0, none⟩)) ∧ w' = w := by
  have ar := assert_r
  go_enter Tryz.func35, Tryz.ntmps35
  go_wp2
  go_ret
  exact ⟨rfl, rfl⟩
theorem core_c (B : Nat) (w : World) : Calls Tryz.prog 35 #[.iface 114 (.pointer (some ⟨B, 0, none⟩))] w fun r w' => r = .returned (.pointer (some ⟨B, 0, none⟩)) ∧ w' = w := by
  have ar := assert_rc
  have ac := assert_c
  go_enter Tryz.func35, Tryz.ntmps35
  go_wp2
  go_ret
  exact ⟨rfl, rfl⟩
/-- a machine as its interface holds it -/
def Pd.mi (h : Pd) : Value := .iface (if h.t = 2 then 114 else 111) (.pointer (some ⟨h.B, 0, none⟩))
theorem core_any (h : Pd) (w : World) : Calls Tryz.prog 35 #[h.mi] w fun r w' => r = .returned (.pointer (some ⟨h.B, 0, none⟩)) ∧ w' = w := by
  unfold Pd.mi
  split
  · exact core_c h.B w
  · exact core_r h.B w
set_option maxRecDepth 100000 in
set_option maxHeartbeats 4000000 in
theorem on_idle (p : Addr) (w : World) :
    CallsD Tryz.prog 50 #[.pointer (some p)] .returning w fun e u' w' => e = .returned (.tuple #[]) ∧ u' = .returning ∧ w' = w := by
  refine callsD_of_wpS Tryz.func50 rfl fun c₀ cs hu => ?_
  apply wpS_seq
  apply wpS_region
  simp [wpOpsS, go_sem, recoverD, hu, Tryz.ntmps50, Exit.thenS]
  refine wpS_of_wp ?_
  have ht : #[Value.pointer (some p)] ++ ((Array.replicate 5 undef).setIfInBounds 0 Value.nilIface).setIfInBounds 1 (Value.bool false) = #[.pointer (some p), .nilIface, .bool false, undef, undef, undef] := by kernel_rfl
  rw [ht]
  clear ht
  go_wp2
  cases c₀
  simp_all [bodyPostS, results, Tryz.results50]
set_option maxRecDepth 100000 in
set_option maxHeartbeats 4000000 in
theorem on_panic {h : Pd} {s : Ru.St} {w : World} (x : IsC w h s) (N : Nat) (older : List PanicEntry) (hN : w.cell? ⟨N, 0, none⟩ = some h.mi) :
    CallsD Tryz.prog 50 #[.pointer (some ⟨N, 0, none⟩)] (.panicking ({ v := .iface 196 (.agg #[]), recovered := false } :: older)) w fun e u' w' => e = .returned (.tuple #[]) ∧ u' = .panicking ({ v := .iface 196 (.agg #[]), recovered := true } :: older) ∧ IsC w' h { s with e := 5, n := 0 } ∧ Mc h w w' := by
  have HX : Hid (IsC w h s) := x
  have HC : Hid (∀ W, Calls Tryz.prog 35 #[h.mi] W fun r w' => r = .returned (.pointer (some ⟨h.B, 0, none⟩)) ∧ w' = W) := core_any h
  generalize h.mi = mi at *
  clear x
  refine callsD_of_wpS Tryz.func50 rfl fun c₀ cs hu => ?_
  apply wpS_seq
  apply wpS_region
  simp [wpOpsS, go_sem, recoverD, hu, Tryz.ntmps50, Exit.thenS]
  refine wpS_of_wp ?_
  have ht : #[Value.pointer (some ⟨N, 0, none⟩)] ++ ((Array.replicate 5 undef).setIfInBounds 0 (Value.iface 196 (.agg #[]))).setIfInBounds 1 (Value.bool true) = #[.pointer (some ⟨N, 0, none⟩), .iface 196 (.agg #[]), .bool true, undef, undef, undef] := by kernel_rfl
  rw [ht]
  clear ht
  go_wp2_with (first
    | (go_at_call 35; refine (HC.out _).mono ?_; rintro r w1 ⟨rfl, rfl⟩)
    | (go_at_call 51; refine (pfinish HX.out 5 0).mono ?_; rintro r w2 ⟨rfl, x2, v2⟩))
  simp [bodyPostS, results, Tryz.results50]
  exact ⟨x2, v2⟩
namespace Ru
/-- a machine that is stuck ends with 0 -/
def St.N5 (s : St) : Prop := s.e = 5 → s.n = 0
theorem n5_0 {s : St} (he : s.e = 0) : s.N5 := fun h => by rw [he] at h; exact absurd h (by decide)
theorem n5_stop5 {s : St} (h : s.N5) : (s.stop 5 0).N5 := by
  unfold St.stop
  split
  · exact fun _ => rfl
  · exact h
theorem n5_stop {s : St} (he : s.e = 0) {e n : Int} (h : e ≠ 5) : (s.stop e n).N5 := by rw [stop_e he]; exact fun h' => absurd h' h
theorem n5_set {s : St} (h : s.N5) (a x e : Int) : (s.set a x e).N5 := by
  unfold St.set
  split
  · exact h
  · exact n5_stop5 h
theorem n5_ask {s : St} (h : s.N5) (sub : Int) : (s.ask sub).N5 := by
  unfold St.ask
  split
  · exact h
  · exact n5_stop5 h
theorem n5_bin {s : St} (h : s.N5) (t a sub k x y : Int) : (s.bin t a sub k x y).N5 := by
  unfold St.bin
  split
  · exact n5_set (n5_set h _ _ _) _ _ _
  · exact n5_set h _ _ _
theorem n5_lay {s : St} (h : s.N5) (S : Nat) (a k x : Int) : (s.lay S a k x).N5 := by
  unfold St.lay
  split
  · exact h
  · exact n5_stop5 h
theorem n5_exec {s : St} (he : s.e = 0) (I : Im) (v : InV) : (exec I v s).N5 := by
  have h0 := n5_0 he
  unfold exec
  by_cases c0 : v.op = 1
  · rw [if_pos c0]
    exact h0
  rw [if_neg c0]
  by_cases c1 : v.op = 2
  · rw [if_pos c1]
    exact h0
  rw [if_neg c1]
  by_cases c2 : v.op = 3
  · rw [if_pos c2]
    exact h0
  rw [if_neg c2]
  by_cases c3 : v.op = 4
  · rw [if_pos c3]
    split <;> exact n5_bin h0 _ _ _ _ _ _
  rw [if_neg c3]
  by_cases c4 : v.op = 5
  · rw [if_pos c4]
    exact n5_bin h0 _ _ _ _ _ _
  rw [if_neg c4]
  by_cases c5 : v.op = 6
  · rw [if_pos c5]
    split
    · exact n5_bin h0 _ _ _ _ _ _
    · exact n5_stop5 h0
  rw [if_neg c5]
  by_cases c6 : v.op = 7
  · rw [if_pos c6]
    exact n5_set h0 _ _ _
  rw [if_neg c6]
  by_cases c7 : v.op = 8
  · rw [if_pos c7]
    exact n5_set h0 _ _ _
  rw [if_neg c7]
  by_cases c8 : v.op = 9 ∨ v.op = 10
  · rw [if_pos c8]
    exact h0
  rw [if_neg c8]
  by_cases c9 : v.op = 11 ∨ v.op = 12
  · rw [if_pos c9]
    exact n5_set h0 _ _ _
  rw [if_neg c9]
  by_cases c10 : v.op = 13 ∨ v.op = 14
  · rw [if_pos c10]
    exact n5_lay h0 _ _ _ _
  rw [if_neg c10]
  by_cases c11 : v.op = 15
  · rw [if_pos c11]
    split
    · split
      · exact h0
      · exact n5_ask h0 _
    · exact h0
  rw [if_neg c11]
  by_cases c12 : v.op = 16
  · rw [if_pos c12]
    exact h0
  rw [if_neg c12]
  by_cases c13 : v.op = 17
  · rw [if_pos c13]
    exact h0
  rw [if_neg c13]
  by_cases c14 : v.op = 18
  · rw [if_pos c14]
    split
    · exact h0
    · exact n5_stop5 h0
  rw [if_neg c14]
  by_cases c15 : v.op = 19
  · rw [if_pos c15]
    exact h0
  rw [if_neg c15]
  by_cases c16 : v.op = 20
  · rw [if_pos c16]
    split <;> exact h0
  rw [if_neg c16]
  by_cases c17 : v.op = 21
  · rw [if_pos c17]
    split <;> exact h0
  rw [if_neg c17]
  by_cases c18 : v.op = 22
  · rw [if_pos c18]
    split
    · exact h0
    · exact n5_ask h0 _
  rw [if_neg c18]
  by_cases c19 : v.op = 23
  · rw [if_pos c19]
    unfold St.call
    split
    · exact n5_stop (s := s.put 15 _) he (by decide)
    · exact n5_lay (s := s.put 15 _) h0 _ _ _ _
  rw [if_neg c19]
  by_cases c20 : v.op = 24
  · rw [if_pos c20]
    unfold St.ret
    split
    · exact h0
    · exact n5_stop5 h0
  rw [if_neg c20]
  by_cases c21 : v.op = 25
  · rw [if_pos c21]
    split
    · exact n5_stop he (by decide)
    · exact h0
  rw [if_neg c21]
  by_cases c22 : v.op = 26
  · rw [if_pos c22]
    unfold St.alloc
    repeat' split
    all_goals first | exact h0 | exact n5_stop he (by decide)
  rw [if_neg c22]
  by_cases c23 : v.op = 27
  · rw [if_pos c23]
    exact h0
  rw [if_neg c23]
  by_cases c24 : v.op = 28
  · rw [if_pos c24]
    exact n5_stop he (by decide)
  rw [if_neg c24]
  by_cases c25 : v.op = 29
  · rw [if_pos c25]
    exact n5_stop he (by decide)
  rw [if_neg c25]
  exact h0
theorem n5_step {s : St} (he : s.e = 0) (I : Im) : (step I s).N5 := by
  unfold step
  rw [if_pos he]
  split
  · exact n5_exec (s := s.goto _) he _ _
  · exact n5_stop5 (n5_0 he)
end Ru
/-- behind goOn -/
def GoP (h : Pd) (w : World) (v : InV) (t : Ru.St) (r : Ending) (w' : World) : Prop :=
  (∃ s', IsC w' h s' ∧ s'.e = t.e ∧ s'.n = t.n ∧ (t.e ≠ 5 → s' = t ∧ r = .returned (inst' v))) ∧ (∃ u, r = .returned (inst' u)) ∧ Mc h w w'
/-- a variable of one cell, apart from a machine -/
theorem Mc.cell {h : Pd} {w W w' : World} {s : Ru.St} {K : Nat} {u : Value} (m : Mc h W w') (x : IsC w h s) (hK : w.heap.size ≤ K) (c : W.cell? ⟨K, 0, none⟩ = some u) : w'.cell? ⟨K, 0, none⟩ = some u := by
  have e : w'.heap[K]? = W.heap[K]? := m.block K (World.block_lt_of_cell? _ _ c) (by have := x.hd.lt; omega) (by have := x.mm.row.lt; omega)
  exact (World.cell?_of_block (w := W) e).trans c
set_option maxRecDepth 100000 in
set_option maxHeartbeats 4000000 in
theorem goOn_r {h : Pd} {s t : Ru.St} {w : World} {v : InV} (x : IsC w h s) (hmi : h.mi = (.iface 111 (.pointer (some ⟨h.B, 0, none⟩)))) (ht : t.N5) (HS : Hid (∀ W, IsC W h s → Calls Tryz.prog 139 #[.pointer (some ⟨h.B, 0, none⟩)] W (BoP h W (inst' v) t))) :
    Calls Tryz.prog 36 #[.iface 111 (.pointer (some ⟨h.B, 0, none⟩))] w (GoP h w v t) := by
  have hmf : ∀ (fn : Fn) (first cap : Array Value) (w : World), (Instr.makeFunc fn first cap).run Tryz.prog w = .ok (.func fn first cap) w := fun _ _ _ _ => rfl
  have G : w.grownBy ((w.alloc (Obj.cells #[.iface 111 (.pointer (some ⟨h.B, 0, none⟩))] 79)).alloc (Obj.cells #[.int .i64 0, .int .i64 0, .int .i64 0, .int .i64 0, .int .i64 0, .int .i64 0, .int .i64 0, .int .i64 0, .int .i64 0] 34)) none := ga (World.grownBy_alloc _ _ _) _
  have HX0 : Hid (IsC ((w.alloc (Obj.cells #[.iface 111 (.pointer (some ⟨h.B, 0, none⟩))] 79)).alloc (Obj.cells #[.int .i64 0, .int .i64 0, .int .i64 0, .int .i64 0, .int .i64 0, .int .i64 0, .int .i64 0, .int .i64 0, .int .i64 0] 34)) h s) := x.kept G
  have HV0 : Hid (Mc h w ((w.alloc (Obj.cells #[.iface 111 (.pointer (some ⟨h.B, 0, none⟩))] 79)).alloc (Obj.cells #[.int .i64 0, .int .i64 0, .int .i64 0, .int .i64 0, .int .i64 0, .int .i64 0, .int .i64 0, .int .i64 0, .int .i64 0] 34))) := Mc.refl.grown G
  have HI0 : Hid (InstAt ((w.alloc (Obj.cells #[.iface 111 (.pointer (some ⟨h.B, 0, none⟩))] 79)).alloc (Obj.cells #[.int .i64 0, .int .i64 0, .int .i64 0, .int .i64 0, .int .i64 0, .int .i64 0, .int .i64 0, .int .i64 0, .int .i64 0] 34)) (w.heap.size + 1) Cc.zero) := by
    have := InstAt.new (w.alloc (Obj.cells #[.iface 111 (.pointer (some ⟨h.B, 0, none⟩))] 79)) Cc.zero
    rw [size_alloc] at this
    exact this
  have HM0 : Hid (((w.alloc (Obj.cells #[.iface 111 (.pointer (some ⟨h.B, 0, none⟩))] 79)).alloc (Obj.cells #[.int .i64 0, .int .i64 0, .int .i64 0, .int .i64 0, .int .i64 0, .int .i64 0, .int .i64 0, .int .i64 0, .int .i64 0] 34)).cell? ⟨w.heap.size, 0, none⟩ = some (.iface 111 (.pointer (some ⟨h.B, 0, none⟩)))) := (World.grownBy_alloc _ _ none).cell (by simp) (by simp)
  have HX : Hid (IsC w h s) := x
  clear x G
  go_enter_defers Tryz.func36, Tryz.ntmps36
  go_wp2_with fail
  refine (HS.out _ HX0.out).mono ?_
  rintro r w1 ⟨hr, v1⟩
  have HI1 : Hid (InstAt w1 (w.heap.size + 1) Cc.zero) := v1.inst HI0.out HX.out (by omega)
  have HM1 : Hid (w1.cell? ⟨w.heap.size, 0, none⟩ = some (.iface 111 (.pointer (some ⟨h.B, 0, none⟩)))) := v1.cell HX.out (Nat.le_refl _) HM0.out
  have HV1 : Hid (Mc h w w1) := HV0.out.trans v1
  clear HX0 HV0 HI0 HM0 v1 HS
  rcases hr with ⟨he, rfl, x1⟩ | ⟨he, rfl, s', x1⟩
  · have HX1 : Hid (IsC w1 h t) := x1
    have HE : Hid (t.e ≠ 5) := he
    clear x1 he
    obtain ⟨f0, f1, f2, f3, f4, f5, f6, f7, f8, fz⟩ := HI1.out
    have z0 := fz 0
    have z1 := fz 1
    have z2 := fz 2
    have z3 := fz 3
    have z4 := fz 4
    have z5 := fz 5
    have z6 := fz 6
    have z7 := fz 7
    have z8 := fz 8
    clear fz
    unfold inst'
    go_wp2_with fail
    have P9 := HI1.out.put9 v
    have G9 := grown_put9 w1 (w.heap.size + 1) v
    change bodyPostD _ _ _ _ _ (put9 w1 (w.heap.size + 1) v)
    have HX9 : Hid (IsC (put9 w1 (w.heap.size + 1) v) h t) := HX1.out.far HX.out G9 (by omega)
    have HV9 : Hid (Mc h w (put9 w1 (w.heap.size + 1) v)) := HV1.out.far G9 (by omega)
    generalize put9 w1 (w.heap.size + 1) v = W9 at *
    refine leaves_cons (f := 50) (args := #[.pointer (some ⟨w.heap.size, 0, none⟩)]) (by simp) (by simp [go_sem]) ?_
    refine (on_idle _ _).mono ?_
    rintro e u' w2 ⟨rfl, rfl, rfl⟩
    obtain ⟨q0, q1, q2, q3, q4, q5, q6, q7, q8, qz⟩ := P9
    have HG : GoP h w v t (.returned (inst' v)) w2 := ⟨⟨t, HX9.out, rfl, rfl, fun _ => ⟨rfl, rfl⟩⟩, ⟨v, rfl⟩, HV9.out⟩
    simp [Leaves, settle, results, Tryz.results36, go_sem, q0, q1, q2, q3, q4, q5, q6, q7, q8]
    exact HG
  · have HX1 : Hid (IsC w1 h s') := x1
    have HE : Hid (t.e = 5) := he
    have HT : Hid (t.N5) := ht
    clear x1 he ht
    go_wp2
    refine leaves_cons (f := 50) (args := #[.pointer (some ⟨w.heap.size, 0, none⟩)]) (by simp) (by simp [go_sem]) ?_
    refine (on_panic HX1.out w.heap.size [] (by rw [hmi]; exact HM1.out)).mono ?_
    rintro e u' w2 ⟨rfl, rfl, x2, v2⟩
    obtain ⟨q0, q1, q2, q3, q4, q5, q6, q7, q8, qz⟩ := v2.inst HI1.out HX.out (by omega)
    have HG : GoP h w v t (.returned (inst' Cc.zero)) w2 := ⟨⟨_, x2, HE.out.symm, (HT.out HE.out).symm, fun h5 => absurd HE.out h5⟩, ⟨_, rfl⟩, HV1.out.trans v2⟩
    simp [Leaves, settle, results, Tryz.results36, go_sem, q0, q1, q2, q3, q4, q5, q6, q7, q8]
    exact HG
set_option maxRecDepth 100000 in
set_option maxHeartbeats 4000000 in
theorem goOn_c {h : Pd} {s t : Ru.St} {w : World} {v : InV} (x : IsC w h s) (hmi : h.mi = (.iface 114 (.pointer (some ⟨h.B, 0, none⟩)))) (ht : t.N5) (HS : Hid (∀ W, IsC W h s → Calls Tryz.prog 159 #[.pointer (some ⟨h.B, 0, none⟩)] W (BoP h W (inst' v) t))) :
    Calls Tryz.prog 36 #[.iface 114 (.pointer (some ⟨h.B, 0, none⟩))] w (GoP h w v t) := by
  have hmf : ∀ (fn : Fn) (first cap : Array Value) (w : World), (Instr.makeFunc fn first cap).run Tryz.prog w = .ok (.func fn first cap) w := fun _ _ _ _ => rfl
  have G : w.grownBy ((w.alloc (Obj.cells #[.iface 114 (.pointer (some ⟨h.B, 0, none⟩))] 79)).alloc (Obj.cells #[.int .i64 0, .int .i64 0, .int .i64 0, .int .i64 0, .int .i64 0, .int .i64 0, .int .i64 0, .int .i64 0, .int .i64 0] 34)) none := ga (World.grownBy_alloc _ _ _) _
  have HX0 : Hid (IsC ((w.alloc (Obj.cells #[.iface 114 (.pointer (some ⟨h.B, 0, none⟩))] 79)).alloc (Obj.cells #[.int .i64 0, .int .i64 0, .int .i64 0, .int .i64 0, .int .i64 0, .int .i64 0, .int .i64 0, .int .i64 0, .int .i64 0] 34)) h s) := x.kept G
  have HV0 : Hid (Mc h w ((w.alloc (Obj.cells #[.iface 114 (.pointer (some ⟨h.B, 0, none⟩))] 79)).alloc (Obj.cells #[.int .i64 0, .int .i64 0, .int .i64 0, .int .i64 0, .int .i64 0, .int .i64 0, .int .i64 0, .int .i64 0, .int .i64 0] 34))) := Mc.refl.grown G
  have HI0 : Hid (InstAt ((w.alloc (Obj.cells #[.iface 114 (.pointer (some ⟨h.B, 0, none⟩))] 79)).alloc (Obj.cells #[.int .i64 0, .int .i64 0, .int .i64 0, .int .i64 0, .int .i64 0, .int .i64 0, .int .i64 0, .int .i64 0, .int .i64 0] 34)) (w.heap.size + 1) Cc.zero) := by
    have := InstAt.new (w.alloc (Obj.cells #[.iface 114 (.pointer (some ⟨h.B, 0, none⟩))] 79)) Cc.zero
    rw [size_alloc] at this
    exact this
  have HM0 : Hid (((w.alloc (Obj.cells #[.iface 114 (.pointer (some ⟨h.B, 0, none⟩))] 79)).alloc (Obj.cells #[.int .i64 0, .int .i64 0, .int .i64 0, .int .i64 0, .int .i64 0, .int .i64 0, .int .i64 0, .int .i64 0, .int .i64 0] 34)).cell? ⟨w.heap.size, 0, none⟩ = some (.iface 114 (.pointer (some ⟨h.B, 0, none⟩)))) := (World.grownBy_alloc _ _ none).cell (by simp) (by simp)
  have HX : Hid (IsC w h s) := x
  clear x G
  go_enter_defers Tryz.func36, Tryz.ntmps36
  go_wp2_with fail
  refine (HS.out _ HX0.out).mono ?_
  rintro r w1 ⟨hr, v1⟩
  have HI1 : Hid (InstAt w1 (w.heap.size + 1) Cc.zero) := v1.inst HI0.out HX.out (by omega)
  have HM1 : Hid (w1.cell? ⟨w.heap.size, 0, none⟩ = some (.iface 114 (.pointer (some ⟨h.B, 0, none⟩)))) := v1.cell HX.out (Nat.le_refl _) HM0.out
  have HV1 : Hid (Mc h w w1) := HV0.out.trans v1
  clear HX0 HV0 HI0 HM0 v1 HS
  rcases hr with ⟨he, rfl, x1⟩ | ⟨he, rfl, s', x1⟩
  · have HX1 : Hid (IsC w1 h t) := x1
    have HE : Hid (t.e ≠ 5) := he
    clear x1 he
    obtain ⟨f0, f1, f2, f3, f4, f5, f6, f7, f8, fz⟩ := HI1.out
    have z0 := fz 0
    have z1 := fz 1
    have z2 := fz 2
    have z3 := fz 3
    have z4 := fz 4
    have z5 := fz 5
    have z6 := fz 6
    have z7 := fz 7
    have z8 := fz 8
    clear fz
    unfold inst'
    go_wp2_with fail
    have P9 := HI1.out.put9 v
    have G9 := grown_put9 w1 (w.heap.size + 1) v
    change bodyPostD _ _ _ _ _ (put9 w1 (w.heap.size + 1) v)
    have HX9 : Hid (IsC (put9 w1 (w.heap.size + 1) v) h t) := HX1.out.far HX.out G9 (by omega)
    have HV9 : Hid (Mc h w (put9 w1 (w.heap.size + 1) v)) := HV1.out.far G9 (by omega)
    generalize put9 w1 (w.heap.size + 1) v = W9 at *
    refine leaves_cons (f := 50) (args := #[.pointer (some ⟨w.heap.size, 0, none⟩)]) (by simp) (by simp [go_sem]) ?_
    refine (on_idle _ _).mono ?_
    rintro e u' w2 ⟨rfl, rfl, rfl⟩
    obtain ⟨q0, q1, q2, q3, q4, q5, q6, q7, q8, qz⟩ := P9
    have HG : GoP h w v t (.returned (inst' v)) w2 := ⟨⟨t, HX9.out, rfl, rfl, fun _ => ⟨rfl, rfl⟩⟩, ⟨v, rfl⟩, HV9.out⟩
    simp [Leaves, settle, results, Tryz.results36, go_sem, q0, q1, q2, q3, q4, q5, q6, q7, q8]
    exact HG
  · have HX1 : Hid (IsC w1 h s') := x1
    have HE : Hid (t.e = 5) := he
    have HT : Hid (t.N5) := ht
    clear x1 he ht
    go_wp2
    refine leaves_cons (f := 50) (args := #[.pointer (some ⟨w.heap.size, 0, none⟩)]) (by simp) (by simp [go_sem]) ?_
    refine (on_panic HX1.out w.heap.size [] (by rw [hmi]; exact HM1.out)).mono ?_
    rintro e u' w2 ⟨rfl, rfl, x2, v2⟩
    obtain ⟨q0, q1, q2, q3, q4, q5, q6, q7, q8, qz⟩ := v2.inst HI1.out HX.out (by omega)
    have HG : GoP h w v t (.returned (inst' Cc.zero)) w2 := ⟨⟨_, x2, HE.out.symm, (HT.out HE.out).symm, fun h5 => absurd HE.out h5⟩, ⟨_, rfl⟩, HV1.out.trans v2⟩
    simp [Leaves, settle, results, Tryz.results36, go_sem, q0, q1, q2, q3, q4, q5, q6, q7, q8]
    exact HG
/-- a step of a machine behind its interface -/
theorem goOn_any {h : Pd} {s : Ru.St} {w : World} (x : IsC w h s) (he : s.e = 0) (fc : s.Fc) (ht : h.t = 1 ∨ h.t = 2) (hA : h.At) :
    Calls Tryz.prog 36 #[h.mi] w (GoP h w (Ru.next h.im s.pl).1 (Ru.step h.im s)) := by
  rcases ht with t1 | t2
  · have hmi : h.mi = .iface 111 (.pointer (some ⟨h.B, 0, none⟩)) := by unfold Pd.mi; rw [if_neg (by omega)]
    have := goOn_r x hmi (Ru.n5_step he h.im) (fun W hW => r64_step hW he t1 hA)
    rw [← hmi] at this
    exact this
  · have hmi : h.mi = .iface 114 (.pointer (some ⟨h.B, 0, none⟩)) := by unfold Pd.mi; rw [if_pos t2]
    have := goOn_c x hmi (Ru.n5_step he h.im) (fun W hW => c64_step hW he fc t2 hA)
    rw [← hmi] at this
    exact this
end Go.Proofs.YtdklaeppcjopoaaGreatDoor

/- A watch of no calls. -/
namespace Go.Proofs.YtdklaeppcjopoaaGreatDoor
open Go.RowKit
set_option linter.unusedVariables false

theorem calls_nil (n : Int) (cp : Nat) (ao : Option Addr) (w : World) : Calls Tryz.prog 32 #[.slice ao 0 cp, .int .i64 n] w fun r w' => r = .returned (.bool true) ∧ w' = w := by
  go_enter Tryz.func32, Tryz.ntmps32
  go_wp2
  go_ret
  exact ⟨rfl, rfl⟩
set_option maxHeartbeats 800000 in
theorem watch_nil (v : Value) (cp : Nat) (ao : Option Addr) (w : World) : Calls Tryz.prog 34 #[.slice ao 0 cp, v] w fun r w' => r = .returned (.pointer (some ⟨w.heap.size + 1, 0, none⟩)) ∧ w' = ((w.alloc (.map #[] 0)).alloc (Obj.cells #[.slice ao 0 cp, .map (some w.heap.size), .slice none 0 0, .slice none 0 0, .slice none 0 0, .int .i64 0, .int .i64 0, .int .i64 0] 89)) := by
  have hmm := @run_makeMap Tryz.prog
  go_enter Tryz.func34, Tryz.ntmps34
  go_wp2
  refine wp_loop_once ?_
  go_wp2
  go_ret
  exact ⟨rfl, rfl⟩
end Go.Proofs.YtdklaeppcjopoaaGreatDoor

/- A watch of no calls: what it sees. -/
namespace Go.Proofs.YtdklaeppcjopoaaGreatDoor
open Go.RowKit
set_option linter.unusedVariables false

set_option maxRecDepth 100000 in
theorem run_lookup_nil {w : World} (K : Nat) (x : Int) (hK : w.heap[K]? = some (.map #[] 0)) : (Instr.lookup 86 (.map (some K)) (.int .u64 x) true).run Tryz.prog w = .ok (.tuple #[.int .i64 0, .bool false]) w := by
  have hg : (getObj K).run Tryz.prog w = .ok (.map #[] 0) w := by simp [getObj, Sem.run, go_sem, hK]
  simp [Instr.lookup, go_sem, hg]
  rfl
theorem wret_nil {w : World} (V B : Nat) (h2 : w.cell? ⟨V, 2, none⟩ = some (.slice none 0 0)) : Calls Tryz.prog 53 #[.pointer (some ⟨V, 0, none⟩), .pointer (some ⟨B, 0, none⟩)] w fun r w' => r = .returned (.tuple #[]) ∧ w' = w := by
  go_enter Tryz.func53, Tryz.ntmps53
  go_wp2
  first | go_end0 | go_returns
  exact ⟨rfl, rfl⟩
set_option maxHeartbeats 800000 in
theorem wcall_nil {w : World} (V B K : Nat) (p back : Int) (h1 : w.cell? ⟨V, 1, none⟩ = some (.map (some K))) (hK : w.heap[K]? = some (.map #[] 0)) (c1 : w.cell? ⟨B, 1, none⟩ = some (.int .u64 p)) : Calls Tryz.prog 52 #[.pointer (some ⟨V, 0, none⟩), .pointer (some ⟨B, 0, none⟩), .int .u64 back] w fun r w' => r = .returned (.tuple #[]) ∧ w.grownBy w' none := by
  have hl : ∀ n, (Instr.lookup 86 (.map (some K)) (.int .u64 p) true).run Tryz.prog (w.drewN n) = .ok (.tuple #[.int .i64 0, .bool false]) (w.drewN n) := fun n => run_lookup_nil K p (by rw [show (w.drewN n).heap = w.heap from by simp [World.drewN]]; exact hK)
  go_enter Tryz.func52, Tryz.ntmps52
  go_wp2
  go_quiet (fail)
  go_wp2
  first | go_end0 | go_returns
  exact ⟨rfl, grown_drewN (World.grownBy.refl _ _) _⟩
end Go.Proofs.YtdklaeppcjopoaaGreatDoor

/- A watch of no calls: what it sees of a step. -/
namespace Go.Proofs.YtdklaeppcjopoaaGreatDoor
open Go.RowKit
set_option linter.unusedVariables false

/-- a watch of no calls, as it lies: its row, and that no place is known to it -/
structure IsWn (w : World) (V K : Nat) (tr : Value) (st : Int) : Prop where
  hd : ∃ c0, w.rowIs V 89 8 (fun i => if i = 0 then c0 else if i = 1 then .map (some K) else if i = 2 then .slice none 0 0 else if i = 3 then tr else if i = 4 then .slice none 0 0 else if i = 7 then .int .i64 st else .int .i64 0)
  mp : w.heap[K]? = some (.map #[] 0)
theorem IsWn.c1 {w : World} {V K : Nat} {tr : Value} {st : Int} (x : IsWn w V K tr st) : w.cell? ⟨V, 1, none⟩ = some (.map (some K)) := by obtain ⟨c0, h⟩ := x.hd; exact h.cell (i := 1) (by decide)
theorem IsWn.c2 {w : World} {V K : Nat} {tr : Value} {st : Int} (x : IsWn w V K tr st) : w.cell? ⟨V, 2, none⟩ = some (.slice none 0 0) := by obtain ⟨c0, h⟩ := x.hd; exact h.cell (i := 2) (by decide)
theorem IsWn.c3 {w : World} {V K : Nat} {tr : Value} {st : Int} (x : IsWn w V K tr st) : w.cell? ⟨V, 3, none⟩ = some tr := by obtain ⟨c0, h⟩ := x.hd; exact h.cell (i := 3) (by decide)
theorem IsWn.c7 {w : World} {V K : Nat} {tr : Value} {st : Int} (x : IsWn w V K tr st) : w.cell? ⟨V, 7, none⟩ = some (.int .i64 st) := by obtain ⟨c0, h⟩ := x.hd; exact h.cell (i := 7) (by decide)
theorem IsWn.fz {w : World} {V K : Nat} {tr : Value} {st : Int} (x : IsWn w V K tr st) (k : Nat) : w.frozen? ⟨V, k, none⟩ = false := by obtain ⟨c0, h⟩ := x.hd; exact h.frozen k
theorem IsWn.kept {w w' : World} {V K : Nat} {tr : Value} {st : Int} (x : IsWn w V K tr st) (hV : w'.heap[V]? = w.heap[V]?) (hK : w'.heap[K]? = w.heap[K]?) : IsWn w' V K tr st := ⟨by obtain ⟨c0, h⟩ := x.hd; exact ⟨c0, h.of_block hV⟩, hK.trans x.mp⟩
set_option maxHeartbeats 800000 in
theorem see_none {w : World} (V B : Nat) (op a b c k sub sc im lb : Int) (h27 : (op == 27) = false) (h23 : (op == 23) = false) (h24 : (op == 24) = false) :
    Calls Tryz.prog 37 #[.pointer (some ⟨V, 0, none⟩), .agg #[.int .i64 op, .int .i64 a, .int .i64 b, .int .i64 c, .int .i64 k, .int .i64 sub, .int .i64 sc, .int .i64 im, .int .i64 lb], .pointer (some ⟨B, 0, none⟩)] w fun r w' => r = .returned (.tuple #[]) ∧ w.grownBy w' none := by
  go_enter Tryz.func37, Tryz.ntmps37
  go_wp2
  first | go_end0 | go_returns
  exact ⟨rfl, World.grownBy_alloc _ _ _⟩
set_option maxHeartbeats 800000 in
theorem see_ret {w : World} (V B : Nat) (op a b c k sub sc im lb : Int) (h : op = 24) (h2 : w.cell? ⟨V, 2, none⟩ = some (.slice none 0 0)) :
    Calls Tryz.prog 37 #[.pointer (some ⟨V, 0, none⟩), .agg #[.int .i64 op, .int .i64 a, .int .i64 b, .int .i64 c, .int .i64 k, .int .i64 sub, .int .i64 sc, .int .i64 im, .int .i64 lb], .pointer (some ⟨B, 0, none⟩)] w fun r w' => r = .returned (.tuple #[]) ∧ w.grownBy w' none := by
  subst h
  have HR : Hid (∀ W, w.grownBy W none → Calls Tryz.prog 53 #[.pointer (some ⟨V, 0, none⟩), .pointer (some ⟨B, 0, none⟩)] W fun r w' => r = .returned (.tuple #[]) ∧ w' = W) := fun W g => wret_nil V B (g.cell h2 (by simp))
  go_enter Tryz.func37, Tryz.ntmps37
  go_wp2_with (go_at_call 53; refine (HR.out _ (World.grownBy_alloc _ _ _)).mono ?_; rintro r w1 ⟨rfl, rfl⟩)
  first | go_end0 | go_returns
  exact ⟨rfl, World.grownBy_alloc _ _ _⟩
end Go.Proofs.YtdklaeppcjopoaaGreatDoor

/- A watch of no calls: what it sees of a call. -/
namespace Go.Proofs.YtdklaeppcjopoaaGreatDoor
open Go.RowKit
set_option linter.unusedVariables false

set_option maxRecDepth 100000 in
set_option maxHeartbeats 4000000 in
theorem see_call {w : World} (V B K : Nat) (op a b c k sub sc im lb p : Int) (h : op = 23) (h1 : w.cell? ⟨V, 1, none⟩ = some (.map (some K))) (hK : w.heap[K]? = some (.map #[] 0)) (c1 : w.cell? ⟨B, 1, none⟩ = some (.int .u64 p)) :
    Calls Tryz.prog 37 #[.pointer (some ⟨V, 0, none⟩), .agg #[.int .i64 op, .int .i64 a, .int .i64 b, .int .i64 c, .int .i64 k, .int .i64 sub, .int .i64 sc, .int .i64 im, .int .i64 lb], .pointer (some ⟨B, 0, none⟩)] w fun r w' => r = .returned (.tuple #[]) ∧ w.grownBy w' none := by
  subst h
  have hKl : K < w.heap.size := by
    rcases Nat.lt_or_ge K w.heap.size with h | h
    · exact h
    · rw [Array.getElem?_eq_none h] at hK; cases hK
  have HR : Hid (∀ W back, w.grownBy W none → Calls Tryz.prog 52 #[.pointer (some ⟨V, 0, none⟩), .pointer (some ⟨B, 0, none⟩), .int .u64 back] W fun r w' => r = .returned (.tuple #[]) ∧ W.grownBy w' none) := fun W back g => wcall_nil V B K p back (g.cell h1 (by simp)) ((g.block K hKl (by simp)).trans hK) (g.cell c1 (by simp))
  have G1 := World.grownBy_alloc w (Obj.cells #[.int .i64 23, .int .i64 a, .int .i64 b, .int .i64 c, .int .i64 k, .int .i64 sub, .int .i64 sc, .int .i64 im, .int .i64 lb] 34) none
  have c7 : (w.alloc (Obj.cells #[.int .i64 23, .int .i64 a, .int .i64 b, .int .i64 c, .int .i64 k, .int .i64 sub, .int .i64 sc, .int .i64 im, .int .i64 lb] 34)).cell? ⟨w.heap.size, 7, none⟩ = some (.int .i64 im) := by simp
  have d1 := G1.cell c1 (by simp)
  have HG1 : Hid _ := G1
  clear h1 hK c1 hKl G1
  go_enter Tryz.func37, Tryz.ntmps37
  go_wp2_with fail
  obtain ⟨b0, hb0⟩ : ∃ n, n = w.heap.size := ⟨_, rfl⟩
  rw [← hb0] at c7
  rw [← hb0]
  clear hb0
  generalize w.alloc (Obj.cells #[.int .i64 23, .int .i64 a, .int .i64 b, .int .i64 c, .int .i64 k, .int .i64 sub, .int .i64 sc, .int .i64 im, .int .i64 lb] 34) = W2 at *
  refine tail_quiet 10 (by kernel_rfl) (by kernel_rfl) ?_
  have HG3 : Hid (w.grownBy W2.drew none) := grown_trans HG1.out (grown_drew (World.grownBy.refl _ none))
  have e1 : W2.drew.cell? ⟨B, 1, none⟩ = some (.int .u64 p) := d1
  have e7 : W2.drew.cell? ⟨b0, 7, none⟩ = some (.int .i64 im) := c7
  clear d1 c7 HG1
  generalize W2.drew = W3 at *
  simp only [List.take_succ_cons, List.take_zero, List.drop_succ_cons, List.drop_zero]
  repeat (go_big_quiet_step (exact rfl))
  refine wpQuiet_nil ?_
  go_wp2_with (go_at_call 52; refine (HR.out _ _ HG3.out).mono ?_; rintro r w1 ⟨rfl, g1⟩)
  first | go_end0 | go_returns
  exact ⟨rfl, grown_trans HG3.out g1⟩
end Go.Proofs.YtdklaeppcjopoaaGreatDoor

/- Words of the call's own: one more at the end. -/
namespace Go.Proofs.YtdklaeppcjopoaaGreatDoor
open Go.RowKit
set_option linter.unusedVariables false

/-- words of the call's own -/
def OwnW (w : World) (base : Nat) (v : Value) (l : List Int) : Prop := w.ownsRow base 23 1 v l.length (l.map (Value.int .u64))
theorem OwnW.one {w : World} {base : Nat} {v : Value} {l : List Int} {x : Int} (h : w.ownsRow base 23 1 v (l.length + 1) (l.map (Value.int .u64) ++ [.int .u64 x])) : OwnW w base v (l ++ [x]) := by
  unfold OwnW
  simpa using h
theorem info_w64 : (Tryz.prog.info? 23).map (fun i => (i.zero, i.size, i.bytes)) = some (some (.int .u64 0), 1, 8) := by kernel_rfl
theorem stepw_app1 {ops : Array Oper} {o : Oper} {a : Act} {Q : Exit → Act → World → Prop} {K : Act → World → Prop} {E : Prop} {W : World} (hgd : o.guard = none) (s x : Operand)
    (ho : o.op = .call { callee := .builtin .append, args := #[s, x], argTypes := #[35, 35] }) (base : Nat) (v : Value) (l : List Int) (X : Int) (hs : a.eval s = v) (hown : OwnW W base v l)
    (hx : a.eval x = .slice (some ⟨W.heap.size, 0, none⟩) 1 1) (hl : l.length ≤ 2000000) (hb : base ≤ W.heap.size)
    (h : ∀ v' w', OwnW w' base v' (l ++ [X]) → W.grownBy w' v.ownBlock → K (a.put o.dst v') w') :
    if Region.wanted o (yielded ops a.tmps) = true then Oper.wp Tryz.prog o a (W.alloc (Obj.cells #[.int .u64 X] 23)) K Q else E := by
  have hw : Region.wanted o (yielded ops a.tmps) = true := by simp [Region.wanted, hgd]
  rw [if_pos hw]
  obtain ⟨i, hi, hz0, hz1, hz2⟩ := info_parts info_w64
  refine wp_append_own _ s x 35 ho base 23 i (.int .u64 0) 1 8 Tryz.underlying35 hi hz0 hz1 hz2 rfl (by decide) v l.length (l.map (Value.int .u64)) hs (World.ownsRow.alloc hown _) ⟨W.heap.size, 0, none⟩ 1 1 [.int .u64 X] hx rfl
    (by intro j u hj; match j, hj with | 0, hj => simp at hj; subst hj; simp [Addr.add]) (by simp; rfl) (by unfold maxLen; omega) (by omega) (by simp; omega) ?_
  intro v' w2 ho2 hg2 _
  exact h v' w2 (OwnW.one ho2) (grown_trans (grown_noneR _ (World.grownBy_alloc _ _ _)) hg2)
end Go.Proofs.YtdklaeppcjopoaaGreatDoor

/- A watch of no calls: what it sees of a word told. -/
namespace Go.Proofs.YtdklaeppcjopoaaGreatDoor
open Go.RowKit
set_option linter.unusedVariables false

theorem OwnW.slice {w : World} {base : Nat} {v : Value} {l : List Int} (h : OwnW w base v l) : ∃ ao cp, v = .slice ao l.length cp := by
  obtain ⟨_, ⟨rfl, h0⟩ | ⟨k, c, cur, rfl, _⟩⟩ := h
  · exact ⟨none, 0, by rw [h0]⟩
  · exact ⟨_, _, rfl⟩
theorem stepw_app1d {ops : Array Oper} {o : Oper} {a : Act} {Q : Exit → Act → World → Prop} {K : Act → World → Prop} {E : Prop} {W : World} (hgd : o.guard = none) (s x : Operand)
    (ho : o.op = .call { callee := .builtin .append, args := #[s, x], argTypes := #[35, 35] }) (base : Nat) (v : Value) (l : List Int) (X : Int) (hs : a.eval s = v) (hown : OwnW W base v l)
    (hx : a.eval x = .slice (some ⟨W.heap.size, 0, none⟩) 1 1) (hl : l.length ≤ 2000000) (hb : base ≤ W.heap.size)
    (h : ∀ v' w', OwnW w' base v' (l ++ [X]) → W.drew.grownBy w' v.ownBlock → K (a.put o.dst v') w') :
    if Region.wanted o (yielded ops a.tmps) = true then Oper.wp Tryz.prog o a (W.alloc (Obj.cells #[.int .u64 X] 23)).drew K Q else E :=
  stepw_app1 (W := W.drew) hgd s x ho base v l X hs hown hx hl hb h
set_option maxRecDepth 100000 in
set_option maxHeartbeats 4000000 in
theorem see_emit {w : World} (V B base : Nat) (op b c k sub sc im lb X : Int) (a : Nat) (ha : a < 16) (l : List Int) (ao : Option Addr) (cp : Nat) (h : op = 27) (hO : OwnW w base (.slice ao l.length cp) l) (hb : base ≤ w.heap.size) (hl : l.length ≤ 2000000) (hVb : V < base)
    (c3 : w.cell? ⟨V, 3, none⟩ = some (.slice ao l.length cp)) (f3 : w.frozen? ⟨V, 3, none⟩ = false) (cr : w.cell? ⟨B, 2 + a, none⟩ = some (.int .u64 X)) :
    Calls Tryz.prog 37 #[.pointer (some ⟨V, 0, none⟩), .agg #[.int .i64 op, .int .i64 a, .int .i64 b, .int .i64 c, .int .i64 k, .int .i64 sub, .int .i64 sc, .int .i64 im, .int .i64 lb], .pointer (some ⟨B, 0, none⟩)] w fun r w' => r = .returned (.tuple #[]) ∧ ∃ v' w1, w' = w1.setCell ⟨V, 3, none⟩ v' ∧ OwnW w1 base v' (l ++ [X]) ∧ w.grownBy w1 (Value.slice ao l.length cp).ownBlock := by
  subst h
  have G1 := World.grownBy_alloc w (Obj.cells #[.int .i64 27, .int .i64 a, .int .i64 b, .int .i64 c, .int .i64 k, .int .i64 sub, .int .i64 sc, .int .i64 im, .int .i64 lb] 34) none
  have c1 : (w.alloc (Obj.cells #[.int .i64 27, .int .i64 a, .int .i64 b, .int .i64 c, .int .i64 k, .int .i64 sub, .int .i64 sc, .int .i64 im, .int .i64 lb] 34)).cell? ⟨w.heap.size, 1, none⟩ = some (.int .i64 a) := by simp
  have d3 := G1.cell c3 (by simp)
  have dr := G1.cell cr (by simp)
  have dO : Hid (OwnW _ base (.slice ao l.length cp) l) := World.ownsRow.alloc hO (Obj.cells #[.int .i64 27, .int .i64 a, .int .i64 b, .int .i64 c, .int .i64 k, .int .i64 sub, .int .i64 sc, .int .i64 im, .int .i64 lb] 34)
  have HG1 : Hid _ := G1
  have hf3 : (w.alloc (Obj.cells #[.int .i64 27, .int .i64 a, .int .i64 b, .int .i64 c, .int .i64 k, .int .i64 sub, .int .i64 sc, .int .i64 im, .int .i64 lb] 34)).frozen? ⟨V, 3, none⟩ = false := (World.frozen?_of_block (w := w) (G1.block V (by omega) (by simp))).trans f3
  have hs2 : base ≤ (w.alloc (Obj.cells #[.int .i64 27, .int .i64 a, .int .i64 b, .int .i64 c, .int .i64 k, .int .i64 sub, .int .i64 sc, .int .i64 im, .int .i64 lb] 34)).heap.size := by rw [size_alloc]; omega
  have hV2 : V < (w.alloc (Obj.cells #[.int .i64 27, .int .i64 a, .int .i64 b, .int .i64 c, .int .i64 k, .int .i64 sub, .int .i64 sc, .int .i64 im, .int .i64 lb] 34)).heap.size := by rw [size_alloc]; omega
  have hb2 : base ≤ w.heap.size + 1 := by omega
  clear c3 cr hO G1
  go_enter Tryz.func37, Tryz.ntmps37
  go_wp2_with fail
  obtain ⟨b0, hb0⟩ : ∃ n, n = w.heap.size := ⟨_, rfl⟩
  rw [← hb0] at c1
  rw [← hb0]
  clear hb0
  clear f3 hb hb2
  generalize w.alloc (Obj.cells #[.int .i64 27, .int .i64 a, .int .i64 b, .int .i64 c, .int .i64 k, .int .i64 sub, .int .i64 sc, .int .i64 im, .int .i64 lb] 34) = W2 at *
  have HNE : Hid (some V ≠ (Value.slice ao l.length cp).ownBlock) := fun e => by
    have := (World.ownsRow.lt dO.out V e.symm).1
    omega
  have HF : Hid (W2.drew.frozen? ⟨V, 3, none⟩ = false) := hf3
  have HVl : Hid (V < W2.drew.heap.size) := hV2
  have a16 : (a : Int) < 16 := by omega
  have d3' : W2.drew.cell? ⟨V, 3, none⟩ = some (.slice ao l.length cp) := d3
  have dr' : W2.drew.cell? ⟨B, 2 + a, none⟩ = some (.int .u64 X) := dr
  have c1' : W2.drew.cell? ⟨b0, 1, none⟩ = some (.int .i64 a) := c1
  go_region_law (first
    | (refine stepw_app1d rfl _ _ rfl base (.slice ao l.length cp) l X rfl (by exact dO.out) rfl hl hs2 ?_; intro v' w4 ho4 hg4; obtain ⟨ao', cp', rfl⟩ := ho4.slice; have q3 := hg4.cell d3' HNE.out; have qf := (World.frozen?_of_block (w := W2.drew) (a := ⟨V, 3, none⟩) (hg4.block V HVl.out HNE.out)).trans HF.out))
  all_goals
    go_wp2
    first | go_end0 | go_returns
    exact ⟨rfl, _, w4, rfl, (by have e : l.length + 1 = (l ++ [X]).length := by simp
                                rw [e]; exact ho4), grown_trans (grown_noneR _ (grown_trans HG1.out (grown_drew (World.grownBy.refl _ none)))) hg4⟩
end Go.Proofs.YtdklaeppcjopoaaGreatDoor

/- The plain machine, step by step: what has ended stays; more fuel goes on; what was told is told further. -/
namespace Go.Proofs.YtdklaeppcjopoaaGreatDoor
open Go.RowKit
set_option linter.unusedVariables false

namespace Ru
/-- what holds of all that an instruction but InstEmit does -/
theorem exec_ind {P : St → Prop} (hput : ∀ t a x, P t → P (t.put a x)) (hstop : ∀ t e n, e = 1 ∨ e = 2 ∨ e = 4 ∨ e = 5 → P t → P (t.stop e n)) (hpl : ∀ t p, P t → P { t with pl := p }) (hm : ∀ t m, P t → P { t with m := m }) (hhp : ∀ t p, P t → P { t with hp := p }) (hf : ∀ t k x y, P t → P (t.flg k x y)) (I : Im) (v : InV) (s : St) (h27 : v.op ≠ 27) (h0 : P s) : P (exec I v s) := by
  have h5 : ∀ t, P t → P (t.stop 5 0) := fun t h => hstop t 5 0 (by decide) h
  have h4 : ∀ t, P t → P (t.stop 4 0) := fun t h => hstop t 4 0 (by decide) h
  have hset : ∀ t a x e, P t → P (t.set a x e) := fun t a x e h => by unfold St.set; split; exact hput _ _ _ h; exact h5 _ h
  have hbin : ∀ t T a sub k x y, P t → P (t.bin T a sub k x y) := fun t T a sub k x y h => by
    unfold St.bin; split
    · exact hset _ _ _ _ (hset _ _ _ _ h)
    · exact hset _ _ _ _ h
  have hask : ∀ t sub, P t → P (t.ask sub) := fun t sub h => by unfold St.ask; split; exact h; exact h5 _ h
  have hlay : ∀ t S a k x, P t → P (t.lay S a k x) := fun t S a k x h => by unfold St.lay; split; exact hm _ _ h; exact h5 _ h
  have hgoto : ∀ t p, P t → P (t.goto p) := fun t p h => hpl t _ h
  unfold exec
  by_cases c0 : v.op = 1
  · rw [if_pos c0]; exact hput _ _ _ h0
  rw [if_neg c0]
  by_cases c1 : v.op = 2
  · rw [if_pos c1]; exact hput _ _ _ h0
  rw [if_neg c1]
  by_cases c2 : v.op = 3
  · rw [if_pos c2]; exact hput _ _ _ h0
  rw [if_neg c2]
  by_cases c3 : v.op = 4
  · rw [if_pos c3]
    split <;> exact hbin _ _ _ _ _ _ _ h0
  rw [if_neg c3]
  by_cases c4 : v.op = 5
  · rw [if_pos c4]; exact hbin _ _ _ _ _ _ _ h0
  rw [if_neg c4]
  by_cases c5 : v.op = 6
  · rw [if_pos c5]
    split
    · exact hbin _ _ _ _ _ _ _ h0
    · exact h5 _ h0
  rw [if_neg c5]
  by_cases c6 : v.op = 7
  · rw [if_pos c6]; exact hset _ _ _ _ h0
  rw [if_neg c6]
  by_cases c7 : v.op = 8
  · rw [if_pos c7]; exact hset _ _ _ _ h0
  rw [if_neg c7]
  by_cases c8 : v.op = 9 ∨ v.op = 10
  · rw [if_pos c8]; exact hput _ _ _ h0
  rw [if_neg c8]
  by_cases c9 : v.op = 11 ∨ v.op = 12
  · rw [if_pos c9]; exact hset _ _ _ _ h0
  rw [if_neg c9]
  by_cases c10 : v.op = 13 ∨ v.op = 14
  · rw [if_pos c10]; exact hlay _ _ _ _ _ h0
  rw [if_neg c10]
  by_cases c11 : v.op = 15
  · rw [if_pos c11]
    split
    · split
      · exact hput _ _ _ h0
      · exact hask _ _ h0
    · exact hput _ _ _ h0
  rw [if_neg c11]
  by_cases c12 : v.op = 16
  · rw [if_pos c12]; exact hf _ _ _ _ h0
  rw [if_neg c12]
  by_cases c13 : v.op = 17
  · rw [if_pos c13]; exact hf _ _ _ _ h0
  rw [if_neg c13]
  by_cases c14 : v.op = 18
  · rw [if_pos c14]
    split
    · exact hput _ _ _ h0
    · exact h5 _ h0
  rw [if_neg c14]
  by_cases c15 : v.op = 19
  · rw [if_pos c15]; exact hgoto _ _ h0
  rw [if_neg c15]
  by_cases c16 : v.op = 20
  · rw [if_pos c16]
    split
    · exact h0
    · exact hgoto _ _ h0
  rw [if_neg c16]
  by_cases c17 : v.op = 21
  · rw [if_pos c17]
    split
    · exact hgoto _ _ h0
    · exact h0
  rw [if_neg c17]
  by_cases c18 : v.op = 22
  · rw [if_pos c18]
    split
    · exact hgoto _ _ h0
    · exact hask _ _ h0
  rw [if_neg c18]
  by_cases c19 : v.op = 23
  · rw [if_pos c19]
    unfold St.call
    split
    · exact h4 _ (hput _ _ _ h0)
    · exact hgoto _ _ (hlay _ _ _ _ _ (hput _ _ _ h0))
  rw [if_neg c19]
  by_cases c20 : v.op = 24
  · rw [if_pos c20]
    unfold St.ret
    split
    · exact hgoto _ _ (hput _ _ _ h0)
    · exact h5 _ h0
  rw [if_neg c20]
  by_cases c21 : v.op = 25
  · rw [if_pos c21]
    split
    · exact h4 _ h0
    · exact h0
  rw [if_neg c21]
  by_cases c22 : v.op = 26
  · rw [if_pos c22]
    unfold St.alloc
    obtain ⟨u, hu⟩ : ∃ u, (if up (s.reg v.b) = 0 then 8 else up (s.reg v.b)) = u := ⟨_, rfl⟩
    rw [hu]
    by_cases d1 : 1048576 < s.reg v.b
    · rw [if_pos d1]; exact h4 _ h0
    rw [if_neg d1]
    by_cases d2 : I.lim < s.hp + u
    · rw [if_pos d2]; exact h4 _ h0
    rw [if_neg d2]
    exact hhp _ _ (hput _ _ _ h0)
  rw [if_neg c22, if_neg h27]
  by_cases c24 : v.op = 28
  · rw [if_pos c24]; exact hstop _ _ _ (by decide) h0
  rw [if_neg c24]
  by_cases c25 : v.op = 29
  · rw [if_pos c25]; exact hstop _ _ _ (by decide) h0
  rw [if_neg c25]
  exact h0
theorem exec_emit (I : Im) (v : InV) (s : St) (h : v.op = 27) : exec I v s = { s with out := s.out ++ [s.reg v.a] } := by
  unfold exec
  simp [h]
/-- the same of a whole step -/
theorem step_ind {P : St → Prop} (hput : ∀ t a x, P t → P (t.put a x)) (hstop : ∀ t e n, e = 1 ∨ e = 2 ∨ e = 4 ∨ e = 5 → P t → P (t.stop e n)) (hpl : ∀ t p, P t → P { t with pl := p }) (hm : ∀ t m, P t → P { t with m := m }) (hhp : ∀ t p, P t → P { t with hp := p }) (hf : ∀ t k x y, P t → P (t.flg k x y)) (ho : ∀ t o, P t → P { t with out := o }) (I : Im) (s : St) (h0 : P s) : P (step I s) := by
  unfold step
  split
  · split
    · by_cases h27 : (next I s.pl).1.op = 27
      · rw [exec_emit _ _ _ h27]
        exact ho _ _ (hpl _ _ h0)
      · exact exec_ind hput hstop hpl hm hhp hf I _ _ h27 (hpl _ _ h0)
    · exact hstop _ _ _ (by decide) h0
  · exact h0
theorem stop_or (t : St) (e n : Int) : t.stop e n = t ∨ t.stop e n = { t with e := e, n := n } := by
  unfold St.stop; split
  · exact .inr rfl
  · exact .inl rfl
/-- flags are words of their kind -/
theorem step_fc (I : Im) (s : St) (h : s.Fc) : (step I s).Fc := by
  refine step_ind (P := St.Fc) (fun t a x h => h) (fun t e n he h => ?_) (fun t p h => h) (fun t m h => h) (fun t p h => h) (fun t k x y h => ⟨Wd.canon_canon k x, Wd.canon_canon k y⟩) (fun t o h => h) I s h
  rcases stop_or t e n with h1 | h1
  · rw [h1]; exact h
  · rw [h1]; exact h
/-- what a step tells -/
def tells (I : Im) (s : St) : List Int := if (next I s.pl).2.2 = true ∧ (next I s.pl).1.op = 27 then [s.reg (next I s.pl).1.a] else []
theorem step_out (I : Im) (s : St) (h : s.e = 0) : (step I s).out = s.out ++ tells I s := by
  unfold step tells
  rw [if_pos h]
  by_cases hn : (next I s.pl).2.2 = true
  · rw [if_pos hn]
    by_cases h27 : (next I s.pl).1.op = 27
    · rw [if_pos ⟨hn, h27⟩, exec_emit _ _ _ h27]; rfl
    · rw [if_neg (fun h => h27 h.2), List.append_nil]
      refine exec_ind (P := fun t => t.out = s.out) (fun t a x h => h) (fun t e n he h => ?_) (fun t p h => h) (fun t m h => h) (fun t p h => h) (fun t k x y h => h) I _ _ h27 rfl
      rcases stop_or t e n with h1 | h1
      · rw [h1]; exact h
      · rw [h1]; exact h
  · rw [if_neg hn, if_neg (fun h => hn h.1), List.append_nil]
    rcases stop_or s 5 0 with h1 | h1
    · rw [h1]
    · rw [h1]
theorem tells_going (I : Im) (s : St) (h : s.e = 0) (ht : tells I s ≠ []) : (step I s).e = 0 := by
  unfold tells at ht
  by_cases hc : (next I s.pl).2.2 = true ∧ (next I s.pl).1.op = 27
  · unfold step
    rw [if_pos h, if_pos hc.1, exec_emit _ _ _ hc.2]
    exact h
  · rw [if_neg hc] at ht; exact absurd rfl ht
theorem step_ended (I : Im) (s : St) (h : s.e ≠ 0) : step I s = s := by unfold step; rw [if_neg h]
/-- n steps, and how many were taken of them -/
def it (I : Im) : Nat → St → St
  | 0, s => s
  | n + 1, s => step I (it I n s)
def cnt (I : Im) : Nat → St → Nat
  | 0, _ => 0
  | n + 1, s => if (it I n s).e = 0 then cnt I n s + 1 else cnt I n s
theorem it_ended (I : Im) (s : St) (n : Nat) (h : (it I n s).e ≠ 0) (m : Nat) : it I (n + m) s = it I n s ∧ cnt I (n + m) s = cnt I n s := by
  induction m with
  | zero => exact ⟨rfl, rfl⟩
  | succ m ih =>
    obtain ⟨i1, i2⟩ := ih
    show step I (it I (n + m) s) = _ ∧ (if (it I (n + m) s).e = 0 then cnt I (n + m) s + 1 else cnt I (n + m) s) = _
    rw [i1, if_neg h, i2]
    exact ⟨step_ended I _ h, rfl⟩
theorem cnt_going (I : Im) (s : St) (n : Nat) (h : ∀ i, i < n → (it I i s).e = 0) : cnt I n s = n := by
  induction n with
  | zero => rfl
  | succ n ih =>
    show (if (it I n s).e = 0 then cnt I n s + 1 else cnt I n s) = n + 1
    rw [if_pos (h n (by omega)), ih (fun i hi => h i (by omega))]
/-- a run that has come to step j, and goes no further -/
theorem it_stop (I : Im) (s : St) (j F : Nat) (hj : j ≤ F) (h : ∀ i, i < j → (it I i s).e = 0) (he : (it I j s).e ≠ 0 ∨ j = F) : it I F s = it I j s ∧ cnt I F s = j := by
  rcases he with he | rfl
  · have := it_ended I s j he (F - j)
    rw [show j + (F - j) = F from by omega] at this
    exact ⟨this.1, this.2.trans (cnt_going I s j h)⟩
  · exact ⟨rfl, cnt_going I s j h⟩
theorem it_fc (I : Im) (s : St) (n : Nat) (h : s.Fc) : (it I n s).Fc := by
  induction n with
  | zero => exact h
  | succ n ih => exact step_fc I _ ih
theorem tells_len (I : Im) (s : St) : (tells I s).length ≤ 1 := by unfold tells; split <;> simp
theorem it_len (I : Im) (s : St) (n : Nat) : (it I n s).out.length ≤ s.out.length + n := by
  induction n with
  | zero => exact Nat.le_refl _
  | succ n ih =>
    show (step I (it I n s)).out.length ≤ _
    by_cases h : (it I n s).e = 0
    · rw [step_out I _ h, List.length_append]
      have := tells_len I (it I n s)
      omega
    · rw [step_ended I _ h]; omega
end Ru
end Go.Proofs.YtdklaeppcjopoaaGreatDoor

/- A watch of no calls: what it sees of any step. -/
namespace Go.Proofs.YtdklaeppcjopoaaGreatDoor
open Go.RowKit
set_option linter.unusedVariables false

/-- registers of an instruction that was read -/
theorem next_rng {I : Ru.Im} {p : Int} (ht : I.t = 1 ∨ I.t = 2) (h : (Ru.next I p).2.2 = true) : 0 ≤ (Ru.next I p).1.a ∧ (Ru.next I p).1.a < 16 := by
  unfold Ru.next at h ⊢
  by_cases h1 : p < 0 ∨ (I.N : Int) < p
  · rw [if_pos h1] at h; cases h
  · rw [if_neg h1] at h ⊢
    rcases ht with t1 | t2
    · rw [if_pos t1] at h ⊢
      by_cases h8 : (I.N : Int) - p < 8
      · rw [if_pos h8] at h; cases h
      · rw [if_neg h8] at h ⊢
        dsimp only at h ⊢
        cases hok : Rc.okB (Ru.sh I.g p.toNat)
        · rw [Rc.de_no hok] at h; cases h
        · have hm : Rc.mayB (Rc.rd (Ru.sh I.g p.toNat)) = true := by unfold Rc.okB at hok; exact (Bool.and_eq_true _ _ ▸ hok).2
          rw [Rc.dv_ok hok]
          unfold Rc.mayB Rc.regB at hm
          simp only [Bool.and_eq_true, decide_eq_true_eq, beq_iff_eq] at hm
          refine ⟨?_, ?_⟩ <;> simp_all
    · rw [if_neg (by omega)] at h ⊢
      dsimp only at h ⊢
      obtain ⟨D, hD⟩ : ∃ D, Cc.dec (I.N - p.toNat) (Ru.sh I.g p.toNat) = D := ⟨_, rfl⟩
      rw [hD] at h ⊢
      obtain ⟨v, T, E⟩ := D
      have hE : E = 0 := by simpa using h
      subst hE
      have R := Cc.rng (Cc.dec_ok hD).1
      exact ⟨R.a1, R.a2⟩
/-- all but a watch's row, and what lies beyond, is as it was -/
structure Wk (V base : Nat) (w w' : World) : Prop where
  os : w'.os = w.os
  tape : w'.tape = w.tape
  output : w'.output = w.output
  size : w.heap.size ≤ w'.heap.size
  block : ∀ k, k < w.heap.size → k < base → k ≠ V → w'.heap[k]? = w.heap[k]?
theorem Wk.of {V base : Nat} {w w' : World} {row : Option Nat} (g : w.grownBy w' row) (h : ∀ k, row = some k → base ≤ k ∨ k = V) : Wk V base w w' := ⟨g.os, g.tape, g.output, g.size, fun k hk hb hV => g.block k hk (fun e => by rcases h k e.symm with h | h <;> omega)⟩
theorem Wk.trans {V base : Nat} {w w' w'' : World} (a : Wk V base w w') (b : Wk V base w' w'') : Wk V base w w'' := ⟨b.os.trans a.os, b.tape.trans a.tape, b.output.trans a.output, Nat.le_trans a.size b.size, fun k hk hb hV => (b.block k (Nat.lt_of_lt_of_le hk a.size) hb hV).trans (a.block k hk hb hV)⟩
/-- where a machine lies ahead of a watch -/
structure Ahead (h : Pd) (K base : Nat) : Prop where
  b : h.B < K
  m : h.M < K
  d : h.D < K
  c : ∀ b off, 0 < h.N → h.ao = some ⟨b, off, none⟩ → b < K
  k : K + 2 ≤ base
theorem IsC.wk {h : Pd} {s : Ru.St} {w w' : World} {K base : Nat} (x : IsC w h s) (a : Ahead h K base) (k : Wk (K + 1) base w w') : IsC w' h s where
  hd := x.hd.of_block (k.block _ x.hd.lt (by have := a.b; have := a.k; omega) (by have := a.b; omega))
  mm := ⟨x.mm.head.of_block (k.block _ x.mm.head.lt (by have := a.m; have := a.k; omega) (by have := a.m; omega)), x.mm.row.of_block (k.block _ x.mm.row.lt (by have := a.d; have := a.k; omega) (by have := a.d; omega)), x.mm.fit⟩
  cd := by
    refine ⟨x.cd.nil, x.cd.le, x.cd.max, x.cd.fit, ?_, fun b off h0 e => Nat.lt_of_lt_of_le (x.cd.lt b off h0 e) k.size⟩
    rcases Nat.eq_zero_or_pos h.N with h0 | h0
    · exact .inl h0
    · obtain ⟨b, off, e, hc⟩ := x.cd.bs.at h0
      have hb := a.c b off h0 e
      have hk := a.k
      exact .inr ⟨b, off, e, fun i hi => (World.cell?_of_block (w := w) (k.block b (x.cd.lt b off h0 e) (by omega) (by omega))).trans (hc i hi)⟩
  cb := x.cb
  s1 := x.s1
  s2 := x.s2
  ok := x.ok
theorem OwnW.mc {h : Pd} {w w' : World} {base K : Nat} {tr : Value} {l : List Int} (o : OwnW w base tr l) (m : Mc h w w') (a : Ahead h K base) : OwnW w' base tr l := by
  obtain ⟨h1, h⟩ := o
  rcases h with h | ⟨b, cap, cur, rfl, hb, hh, hr⟩
  · exact ⟨h1, .inl h⟩
  · refine ⟨h1, .inr ⟨b, cap, cur, rfl, hb, ?_, hr⟩⟩
    have hl : b < w.heap.size := by
      rcases Nat.lt_or_ge b w.heap.size with h | h
      · exact h
      · rw [Array.getElem?_eq_none h] at hh; cases hh
    have h1 := a.b
    have h2 := a.d
    have h3 := a.k
    rw [m.block b hl (by omega) (by omega)]
    exact hh
theorem OwnW.set {w : World} {base V k : Nat} {tr v : Value} {l : List Int} (o : OwnW w base tr l) (h : V < base) : OwnW (w.setCell ⟨V, k, none⟩ v) base tr l := ownsRow_setCell_below o (a := ⟨V, k, none⟩) h v
/-- a watch sees a step -/
theorem see_any {h : Pd} {s : Ru.St} {w : World} {K base : Nat} {tr : Value} {st : Int} {l : List Int} (x : IsC w h s) (A : Ahead h K base) (iw : IsWn w (K + 1) K tr st) (ow : OwnW w base tr l) (hl : l.length ≤ 2000000) (hb : base ≤ w.heap.size) (v : InV) (hv : 0 ≤ v.a ∧ v.a < 16) :
    Calls Tryz.prog 37 #[.pointer (some ⟨K + 1, 0, none⟩), inst' v, .pointer (some ⟨h.B, 0, none⟩)] w fun r w' => r = .returned (.tuple #[]) ∧ Wk (K + 1) base w w' ∧ ∃ tr', IsWn w' (K + 1) K tr' st ∧ OwnW w' base tr' (l ++ if v.op = 27 then [s.reg v.a] else []) := by
  have hk2 := A.k
  have quiet : ∀ {w'}, w.grownBy w' none → v.op ≠ 27 → Wk (K + 1) base w w' ∧ ∃ tr', IsWn w' (K + 1) K tr' st ∧ OwnW w' base tr' (l ++ if v.op = 27 then [s.reg v.a] else []) := fun g h27 => by
    refine ⟨Wk.of g (by simp), tr, iw.kept (g.block _ (by omega) (by simp)) (g.block _ (by omega) (by simp)), ?_⟩
    rw [if_neg h27, List.append_nil]
    exact World.ownsRow.kept ow g (by cases tr.ownBlock <;> simp)
  unfold inst'
  by_cases h27 : v.op = 27
  · obtain ⟨a, ha⟩ : ∃ a : Nat, v.a = a := ⟨v.a.toNat, by omega⟩
    obtain ⟨ao, cp, rfl⟩ := ow.slice
    have := see_emit (w := w) (K + 1) h.B base v.op v.b v.c v.k v.sub v.scale v.imm v.label (s.r a) a (by omega) l ao cp h27 ow hb hl (by omega) iw.c3 (iw.fz 3) (x.rc (by omega))
    rw [← ha] at this
    refine this.mono ?_
    rintro r w' ⟨rfl, v', w1, rfl, ho, hg⟩
    have hne : some (K + 1) ≠ (Value.slice ao l.length cp).ownBlock := fun e => by have := (World.ownsRow.lt ow _ e.symm).1; omega
    have hne2 : some K ≠ (Value.slice ao l.length cp).ownBlock := fun e => by have := (World.ownsRow.lt ow _ e.symm).1; omega
    refine ⟨rfl, (Wk.of hg (fun k hk => .inl (World.ownsRow.lt ow _ hk).1)).trans (Wk.of (row := some (K + 1)) (grown_setCell _ _ _ _) (fun k hk => .inr (by injection hk with hk; exact hk.symm))), v', ?_, ?_⟩
    · have i1 : IsWn w1 (K + 1) K (.slice ao l.length cp) st := iw.kept (hg.block _ (by omega) hne) (hg.block _ (by omega) hne2)
      obtain ⟨c0, hr⟩ := i1.hd
      refine ⟨⟨c0, (hr.set 3 v').congr fun j hj => ?_⟩, ?_⟩
      · have hc : j = 0 ∨ j = 1 ∨ j = 2 ∨ j = 3 ∨ j = 4 ∨ j = 5 ∨ j = 6 ∨ j = 7 := by omega
        rcases hc with rfl | rfl | rfl | rfl | rfl | rfl | rfl | rfl <;> rfl
      · exact (Below.heap_setCell w1 ⟨K + 1, 3, none⟩ v' K (by show K ≠ K + 1; omega)).trans i1.mp
    · rw [if_pos h27]
      have e : s.reg v.a = s.r a := by unfold Ru.St.reg; rw [ha, Int.toNat_natCast]
      rw [e]
      exact ho.set (by omega)
  · by_cases h23 : v.op = 23
    · exact (see_call (w := w) (K + 1) h.B K v.op v.a v.b v.c v.k v.sub v.scale v.imm v.label (Ru.wr s.pl) h23 iw.c1 iw.mp x.c1).mono fun r w' ⟨e, g⟩ => ⟨e, quiet g h27⟩
    · by_cases h24 : v.op = 24
      · exact (see_ret (w := w) (K + 1) h.B v.op v.a v.b v.c v.k v.sub v.scale v.imm v.label h24 iw.c2).mono fun r w' ⟨e, g⟩ => ⟨e, quiet g h27⟩
      · exact (see_none (w := w) (K + 1) h.B v.op v.a v.b v.c v.k v.sub v.scale v.imm v.label (by simpa using h27) (by simpa using h23) (by simpa using h24)).mono fun r w' ⟨e, g⟩ => ⟨e, quiet g h27⟩
end Go.Proofs.YtdklaeppcjopoaaGreatDoor

/- run.New's parts: bytes.Clone, what an image may be. -/
namespace Go.Proofs.YtdklaeppcjopoaaGreatDoor
open Go.RowKit
set_option linter.unusedVariables false

/-- whole numbers that lie somewhere -/
structure RwIn (k : IntKind) (W : World) (ao : Option Addr) (len cap : Nat) (f : Nat → Int) : Prop where
  nil : ao = none → len = 0 ∧ cap = 0
  le : len ≤ cap
  max : cap ≤ maxLen
  bs : len = 0 ∨ ∃ b off, ao = some ⟨b, off, none⟩ ∧ ∀ i, i < len → W.cell? ⟨b, off + i, none⟩ = some (.int k (f i))
  lt : ∀ b off, 0 < len → ao = some ⟨b, off, none⟩ → b < W.heap.size
theorem RwIn.grow {k : IntKind} {w w' : World} {ao : Option Addr} {n cap : Nat} {f : Nat → Int} {row : Option Nat} (h : RwIn k w ao n cap f) (hg : w.grownBy w' row) (hne : ∀ b off, 0 < n → ao = some ⟨b, off, none⟩ → some b ≠ row) : RwIn k w' ao n cap f where
  nil := h.nil
  le := h.le
  max := h.max
  bs := by
    rcases Nat.eq_zero_or_pos n with h0 | h0
    · exact .inl h0
    · rcases h.bs with e | ⟨b, off, e, hc⟩
      · omega
      · exact .inr ⟨b, off, e, fun i hi => hg.cell (hc i hi) (hne b off h0 e)⟩
  lt := fun b off h0 e => Nat.lt_of_lt_of_le (h.lt b off h0 e) hg.size
/-- an image -/
structure Ig where
  t : Int
  ca : Option Addr
  cn : Nat
  cc : Nat
  cg : Nat → Int
  da : Option Addr
  dn : Nat
  dc : Nat
  dg : Nat → Int
  en : Int
  fa : Option Addr
  fn : Nat
  fc : Nat
  fg : Nat → Int
def Ig.val (I : Ig) : Value := .agg #[.int .i64 I.t, .slice I.ca I.cn I.cc, .slice I.da I.dn I.dc, .int .i64 I.en, .slice I.fa I.fn I.fc]
structure Ig.In (I : Ig) (w : World) : Prop where
  c : BsIn w I.ca I.cn I.cc I.cg
  d : BsIn w I.da I.dn I.dc I.dg
  f : RwIn .i64 w I.fa I.fn I.fc I.fg
theorem Ig.In.kept {I : Ig} {w w' : World} (h : I.In w) (g : w.grownBy w' none) : I.In w' := ⟨h.c.grow g (fun _ _ _ _ => by simp), h.d.grow g (fun _ _ _ _ => by simp), h.f.grow g (fun _ _ _ _ => by simp)⟩
def inB (I : Ig) (p : Int) : Bool := decide (0 ≤ p) && decide (p ≤ I.cn)
/-- may an image be? -/
def Ig.mayB (I : Ig) : Bool := (I.t == 1 || I.t == 2) && decide (I.cn ≤ 1048576) && decide (I.dn ≤ 1048576) && inB I I.en && decide (∀ i, i < I.fn → inB I (I.fg i) = true)
theorem len_i64 {n : Nat} (h : n ≤ maxLen) : (n : Int) ≤ 9223372036854775807 := by
  have h3 : maxLen ≤ 9223372036854775807 := by decide
  omega
set_option maxHeartbeats 4000000 in
theorem inCode_any (I : Ig) (p : Int) (w : World) (hc : (I.cn : Int) ≤ 9223372036854775807) : Calls Tryz.prog 66 #[I.val, .int .i64 p] w fun r w' => r = .returned (.bool (inB I p)) ∧ w.grownBy w' none := by
  obtain ⟨t, ca, cn, cc, cg, da, dn, dc, dg, en, fa, fn, fc, fg⟩ := I
  unfold Ig.val inB
  dsimp only at hc ⊢
  by_cases h0 : 0 ≤ p
  · by_cases h1 : p ≤ cn
    · rw [decide_eq_true h0, decide_eq_true h1]
      have e0 : decide (0 ≤ p) = true := decide_eq_true h0
      have e1 : decide (p ≤ (cn : Int)) = true := decide_eq_true h1
      go_enter Tryz.func66, Tryz.ntmps66
      go_wp2
      go_ret
      exact ⟨rfl, World.grownBy_alloc _ _ _⟩
    · rw [decide_eq_true h0, decide_eq_false h1]
      have e0 : decide (0 ≤ p) = true := decide_eq_true h0
      have e1 : decide (p ≤ (cn : Int)) = false := decide_eq_false h1
      go_enter Tryz.func66, Tryz.ntmps66
      go_wp2
      go_ret
      exact ⟨rfl, World.grownBy_alloc _ _ _⟩
  · rw [decide_eq_false h0]
    have e0 : decide (0 ≤ p) = false := decide_eq_false h0
    go_enter Tryz.func66, Tryz.ntmps66
    go_wp2
    go_ret
    exact ⟨rfl, World.grownBy_alloc _ _ _⟩
theorem nil_eq (w : World) : (binOp .eql 56 (.slice none 0 0) (.slice none 0 0)).run Tryz.prog w = .ok (.bool true) w := by kernel_rfl
theorem nil_ne (ad : Addr) (n cap : Nat) (w : World) : (binOp .eql 56 (.slice (some ad) n cap) (.slice none 0 0)).run Tryz.prog w = .ok (.bool false) w := by kernel_rfl
set_option maxRecDepth 100000 in
set_option maxHeartbeats 4000000 in
theorem clone_any (n cap : Nat) (ao : Option Addr) (g : Nat → Int) (w : World) (hn : (n : Int) ≤ 1048576) (h0 : ao = none → n = 0 ∧ cap = 0) (ha : Bs w ao n g) :
    Calls Tryz.prog 48 #[.slice ao n cap] w fun e w' => ∃ v, e = .returned v ∧ OwnB w' w.heap.size v n g ∧ w.grownBy w' none := by
  obtain ⟨i, hi, hz0, hz1, hz2⟩ := info_parts info_u8
  have e1 := nil_eq
  have e2 := nil_ne
  cases ao with
  | none =>
    obtain ⟨rfl, rfl⟩ := h0 rfl
    go_enter Tryz.func48, Tryz.ntmps48
    go_wp2
    go_ret
    exact ⟨_, rfl, World.ownsRow_nil _ _ _ _, World.grownBy.refl _ _⟩
  | some ad =>
    have HC : Hid (∀ j u, (bytesL n g)[j]? = some u → (w.alloc (.cells #[] 5)).cell? (ad.add j) = some u) := by
      intro j u hu
      obtain ⟨hj, rfl⟩ := bytesL_get hu
      obtain ⟨b, o, e, hc⟩ := ha.at (by omega)
      injection e with e
      subst e
      rw [add_none]
      exact (World.grownBy_alloc _ _ none).cell (hc j hj) (by simp)
    have HL : Hid ((w.alloc (.cells #[] 5)).ownsRow w.heap.size 5 1 (.slice (some ⟨w.heap.size, 0, none⟩) 0 0) 0 []) := OwnL.lit w w.heap.size [] (Nat.le_refl _) (Nat.zero_le _)
    clear ha h0
    go_enter Tryz.func48, Tryz.ntmps48
    go_wp2_with (at_builtin; refine wpList_append_own _ rfl _ _ 56 rfl w.heap.size 5 i (.int .u8 0) 1 1 Tryz.underlying56 hi hz0 hz1 hz2 rfl (by decide) _ 0 [] rfl HL.out ad n cap (bytesL n g) rfl (by rw [bytesL_len]; omega) HC.out (bytesL_one _ _) (by unfold maxLen; omega) (by omega) (by simp) ?_; intro v' w2 ho2 hg2 hv2; simp only [Nat.zero_add, List.nil_append] at ho2)
    go_ret
    exact ⟨_, rfl, ho2, grown_two (b := w.heap.size) (World.grownBy_alloc _ _ _) hg2 (Nat.le_refl _)⟩
theorem inB_all {I : Ig} {k : Nat} (h : ∀ j, j < k → inB I (I.fg j) = true) (hk : inB I (I.fg k) = true) : ∀ j, j < k + 1 → inB I (I.fg j) = true := fun j hj => by
  by_cases e : j = k
  · rw [e]; exact hk
  · exact h j (by omega)
set_option maxRecDepth 100000 in
set_option maxHeartbeats 4000000 in
theorem image_any {I : Ig} {w : World} (hI : I.In w) : Calls Tryz.prog 45 #[I.val] w fun r w' => r = .returned (.bool I.mayB) ∧ w.grownBy w' none := by
  have hcl := len_i64 (Nat.le_trans hI.c.le hI.c.max)
  have hdl := len_i64 (Nat.le_trans hI.d.le hI.d.max)
  have hfl := len_i64 (Nat.le_trans hI.f.le hI.f.max)
  have HIn : Hid (∀ (p : Int) (W : World), Calls Tryz.prog 66 #[I.val, .int .i64 p] W fun r w' => r = .returned (.bool (inB I p)) ∧ W.grownBy w' none) := fun p W => inCode_any I p W hcl
  have HI : Hid (I.In w) := hI
  have hm : I.mayB = ((I.t == 1 || I.t == 2) && decide (I.cn ≤ 1048576) && decide (I.dn ≤ 1048576) && inB I I.en && decide (∀ i, i < I.fn → inB I (I.fg i) = true)) := rfl
  obtain ⟨t, ca, cn, cc, cg, da, dn, dc, dg, en, fa, fn, fc, fg⟩ := I
  unfold Ig.val at HIn ⊢
  dsimp only at hcl hdl hfl HIn hm ⊢
  generalize Ig.mayB _ = M at *
  have G := World.grownBy_alloc w (Obj.cells #[.int .i64 t, .slice ca cn cc, .slice da dn dc, .int .i64 en, .slice fa fn fc] 64) none
  clear hI
  by_cases ht : t = 1 ∨ t = 2
  · have HT : Hid ((t == 1 || t == 2) = true) := by
      show (t == 1 || t == 2) = true
      rcases ht with rfl | rfl <;> rfl
    have tt : (t != 1) = false ∨ ((t != 1) = true ∧ (t != 2) = false) := by rcases ht with rfl | rfl <;> simp
    clear ht
    by_cases hc1 : cn ≤ 1048576
    · have c1 : decide ((1048576 : Int) < cn) = false := decide_eq_false (by omega)
      by_cases hd1 : dn ≤ 1048576
      · have d1 : decide ((1048576 : Int) < dn) = false := decide_eq_false (by omega)
        cases he : inB ⟨t, ca, cn, cc, cg, da, dn, dc, dg, en, fa, fn, fc, fg⟩ en
        · have hM : M = false := by rw [hm, he]; simp
          have HE : Hid (∀ W', Calls Tryz.prog 66 #[.agg #[.int .i64 t, .slice ca cn cc, .slice da dn dc, .int .i64 en, .slice fa fn fc], .int .i64 en] W' fun r w' => r = .returned (.bool false) ∧ W'.grownBy w' none) := fun W' => by have := HIn.out en W'; rw [he] at this; exact this
          subst hM
          clear HIn he hm
          rcases tt with t1 | ⟨t1, t2⟩
          all_goals
            go_enter Tryz.func45, Tryz.ntmps45
            go_wp2_with (go_at_call 66; refine (HE.out _).mono ?_; rintro r w3 ⟨rfl, g3⟩)
            go_ret
            exact ⟨rfl, grown_trans G g3⟩
        · have HE : Hid (∀ W', Calls Tryz.prog 66 #[.agg #[.int .i64 t, .slice ca cn cc, .slice da dn dc, .int .i64 en, .slice fa fn fc], .int .i64 en] W' fun r w' => r = .returned (.bool true) ∧ W'.grownBy w' none) := fun W' => by have := HIn.out en W'; rw [he] at this; exact this
          have HPre : Hid (((t == 1 || t == 2) && decide (cn ≤ 1048576) && decide (dn ≤ 1048576) && inB ⟨t, ca, cn, cc, cg, da, dn, dc, dg, en, fa, fn, fc, fg⟩ en) = true) := by
            show _ = true
            rw [HT.out, he, decide_eq_true hc1, decide_eq_true hd1]
            rfl
          have hm : Hid (M = _) := hm
          have B0 : (w.alloc (Obj.cells #[.int .i64 t, .slice ca cn cc, .slice da dn dc, .int .i64 en, .slice fa fn fc] 64)).cell? ⟨w.heap.size, 0, none⟩ = some (.int .i64 t) := by simp
          have B1 : (w.alloc (Obj.cells #[.int .i64 t, .slice ca cn cc, .slice da dn dc, .int .i64 en, .slice fa fn fc] 64)).cell? ⟨w.heap.size, 1, none⟩ = some (.slice ca cn cc) := by simp
          have B2 : (w.alloc (Obj.cells #[.int .i64 t, .slice ca cn cc, .slice da dn dc, .int .i64 en, .slice fa fn fc] 64)).cell? ⟨w.heap.size, 2, none⟩ = some (.slice da dn dc) := by simp
          have B3 : (w.alloc (Obj.cells #[.int .i64 t, .slice ca cn cc, .slice da dn dc, .int .i64 en, .slice fa fn fc] 64)).cell? ⟨w.heap.size, 3, none⟩ = some (.int .i64 en) := by simp
          have B4 : (w.alloc (Obj.cells #[.int .i64 t, .slice ca cn cc, .slice da dn dc, .int .i64 en, .slice fa fn fc] 64)).cell? ⟨w.heap.size, 4, none⟩ = some (.slice fa fn fc) := by simp
          clear he HT
          rcases HI.out.f.bs with h0 | ⟨b, off, hfa, hfc⟩
          · dsimp only at h0
            subst h0
            have HM : Hid (M = true) := by
              rw [hm.out, Bool.and_eq_true]
              exact And.intro HPre.out (decide_eq_true (fun i h => absurd h (Nat.not_lt_zero i)))
            rw [HM.out]
            clear HIn hm HM HPre HI
            rcases tt with t1 | ⟨t1, t2⟩
            all_goals
              go_enter Tryz.func45, Tryz.ntmps45
              go_wp2_with (go_at_call 66; refine (HE.out _).mono ?_; rintro r w3 ⟨rfl, g3⟩; have b4 := g3.cell B4 (by simp); have G3 := grown_trans G g3)
              clear G B0 B1 B2 B3 B4 b4 g3
              have G := G3
              clear G3
              generalize w3 = W at *
              go_loopw [33] (fun s wr => s = .int .i64 0 ∧ W.grownBy wr none) (fun s _ => 0)
              case atStart => exact ⟨rfl, World.grownBy.refl _ _⟩
              case round =>
                obtain ⟨rfl, gr⟩ := hrel
                have GR := grown_trans G gr
                clear gr
                go_wp2
                go_ret
                exact ⟨rfl, GR⟩
          · dsimp only at hfa hfc
            subst hfa
            have HFc : Hid (∀ i, i < fn → (w.alloc (Obj.cells #[.int .i64 t, .slice ca cn cc, .slice da dn dc, .int .i64 en, .slice (some ⟨b, off, none⟩) fn fc] 64)).cell? ⟨b, off + i, none⟩ = some (.int .i64 (fg i))) := fun i hi => G.cell (hfc i hi) (by simp)
            clear hfc HI
            rcases tt with t1 | ⟨t1, t2⟩
            all_goals
              go_enter Tryz.func45, Tryz.ntmps45
              go_wp2_with (go_at_call 66; refine (HE.out _).mono ?_; rintro r w3 ⟨rfl, g3⟩; have b4 := g3.cell B4 (by simp); have G3 := grown_trans G g3)
              have B0 := g3.cell B0 (by simp)
              have B1 := g3.cell B1 (by simp)
              have B2 := g3.cell B2 (by simp)
              have B3 := g3.cell B3 (by simp)
              have B4 := g3.cell B4 (by simp)
              have HFc : Hid (∀ i, i < fn → w3.cell? ⟨b, off + i, none⟩ = some (.int .i64 (fg i))) := fun i hi => g3.cell (HFc.out i hi) (by simp)
              clear G b4 g3
              have G := G3
              clear G3
              generalize w3 = W at *
              go_loopw [33] (fun s wr => ∃ k : Nat, k ≤ fn ∧ s = .int .i64 k ∧ (∀ j, j < k → inB ⟨t, ca, cn, cc, cg, da, dn, dc, dg, en, some ⟨b, off, none⟩, fn, fc, fg⟩ (fg j) = true) ∧ W.grownBy wr none) (fun s _ => fn - (intOf s).toNat)
              case atStart => exact ⟨0, Nat.zero_le _, rfl, fun j h => by omega, World.grownBy.refl _ _⟩
              case round =>
                obtain ⟨k, hk, rfl, hsame, gr⟩ := hrel
                have HSM : Hid (∀ j, j < k → inB ⟨t, ca, cn, cc, cg, da, dn, dc, dg, en, some ⟨b, off, none⟩, fn, fc, fg⟩ (fg j) = true) := hsame
                have HGR : Hid (W.grownBy wr none) := gr
                clear hsame
                by_cases hlt : k < fn
                · have c1 : wr.cell? ⟨b, off + k, none⟩ = some (.int .i64 (fg k)) := gr.cell (HFc.out k hlt) (by simp)
                  have b0 := gr.cell B0 (by simp)
                  have b1 := gr.cell B1 (by simp)
                  have b2 := gr.cell B2 (by simp)
                  have b3 := gr.cell B3 (by simp)
                  have b4 := gr.cell B4 (by simp)
                  have hlt' : (k : Int) < (fn : Int) := by omega
                  have HN : Hid (∀ W', Calls Tryz.prog 66 #[.agg #[.int .i64 t, .slice ca cn cc, .slice da dn dc, .int .i64 en, .slice (some ⟨b, off, none⟩) fn fc], .int .i64 (fg k)] W' fun r w' => r = .returned (.bool (inB ⟨t, ca, cn, cc, cg, da, dn, dc, dg, en, some ⟨b, off, none⟩, fn, fc, fg⟩ (fg k))) ∧ W'.grownBy w' none) := fun W' => HIn.out (fg k) W'
                  clear gr B0 B1 B2 B3 B4 HIn
                  cases hin : inB ⟨t, ca, cn, cc, cg, da, dn, dc, dg, en, some ⟨b, off, none⟩, fn, fc, fg⟩ (fg k)
                  · have HF : Hid (M = false) := by
                      rw [hm.out]
                      rw [Bool.and_eq_false_iff]
                      exact .inr (decide_eq_false fun h => by have := h k hlt; rw [hin] at this; cases this)
                    rw [hin] at HN
                    clear hin
                    generalize fg k = y at *
                    go_wp2_with (go_at_call 66; refine (HN.out _).mono ?_; rintro r w3 ⟨rfl, g3⟩)
                    go_ret
                    exact ⟨ret_bool HF.out.symm, grown_trans G (grown_trans HGR.out g3)⟩
                  · have HST := inB_all HSM.out hin
                    have HST' : Hid (∀ j, j < k + 1 → inB ⟨t, ca, cn, cc, cg, da, dn, dc, dg, en, some ⟨b, off, none⟩, fn, fc, fg⟩ (fg j) = true) := HST
                    rw [hin] at HN
                    clear hin HST
                    generalize fg k = y at *
                    go_wp2_with (go_at_call 66; refine (HN.out _).mono ?_; rintro r w3 ⟨rfl, g3⟩)
                    go_roundw
                    case rel => exact ⟨k + 1, by omega, by go_num, HST'.out, grown_trans HGR.out g3⟩
                    case measure => simp [intOf]; omega
                · obtain rfl : k = fn := by omega
                  have HT : Hid (M = true) := by
                    rw [hm.out]
                    have : decide (∀ i, i < k → inB ⟨t, ca, cn, cc, cg, da, dn, dc, dg, en, some ⟨b, off, none⟩, k, fc, fg⟩ (fg i) = true) = true := decide_eq_true HSM.out
                    simp only [this, Bool.and_true]
                    exact HPre.out
                  go_wp2
                  go_ret
                  exact ⟨ret_bool HT.out.symm, grown_trans G HGR.out⟩
      · have d1 : decide ((1048576 : Int) < dn) = true := decide_eq_true (by omega)
        have hM : M = false := by rw [hm, decide_eq_false hd1]; simp
        subst hM
        clear HIn hm
        rcases tt with t1 | ⟨t1, t2⟩
        all_goals
          go_enter Tryz.func45, Tryz.ntmps45
          go_wp2
          go_ret
          exact ⟨rfl, G⟩
    · have c1 : decide ((1048576 : Int) < cn) = true := decide_eq_true (by omega)
      have hM : M = false := by rw [hm, decide_eq_false hc1]; simp
      subst hM
      clear HIn hm
      rcases tt with t1 | ⟨t1, t2⟩
      all_goals
        go_enter Tryz.func45, Tryz.ntmps45
        go_wp2
        go_ret
        exact ⟨rfl, G⟩
  · have t1 : (t != 1) = true := by simp; omega
    have t2 : (t != 2) = true := by simp; omega
    have hM : M = false := by
      rw [hm]
      have e1 : (t == 1) = false := by simp; omega
      have e2 : (t == 2) = false := by simp; omega
      rw [e1, e2]; rfl
    subst hM
    go_enter Tryz.func45, Tryz.ntmps45
    go_wp2
    go_ret
    exact ⟨rfl, G⟩
end Go.Proofs.YtdklaeppcjopoaaGreatDoor

/- run.New: its contract. -/
namespace Go.Proofs.YtdklaeppcjopoaaGreatDoor
open Go.RowKit
set_option linter.unusedVariables false

/-- what came in as an image, and how a machine begins -/
def Ru.init (I : Ig) (S an : Nat) (ag : Nat → Int) : Ru.St where
  r := fun i => if i < an then ag i else if i = 15 then S else 0
  pl := I.en
  hp := Ru.up (4096 + I.dn)
  k := 0
  x := 0
  y := 0
  m := Mm.pt (fun _ => 0) 4096 I.dn I.dg
  out := []
  e := 0
  n := 0
end Go.Proofs.YtdklaeppcjopoaaGreatDoor

/- A region that draws its order, whose head's operations each establish what is known of their own value, whatever came ahead: calls and allocations among them may be anywhere. -/
namespace Go.Proofs.YtdklaeppcjopoaaGreatDoor
open Go.RowKit
set_option linter.unusedVariables false

section
variable {P : Program} {ops : Array Oper}

def dstOf (ops : Array Oper) (i : Nat) : Option Tmp := (ops[i]?).bind (·.dst)
/-- a frame in which the first i operations have left these values -/
def frV (ops : Array Oper) (a0 : Act) (V : Nat → Value) : Nat → Act
  | 0 => a0
  | i + 1 => (frV ops a0 V i).put (dstOf ops i) (V i)
/-- what the operation number i waits for, of those ahead of it -/
def depsOf (ops : Array Oper) (i : Nat) : List Nat := (List.range i).filter fun j => Region.waitsFor .any ops i j
/-- an operation looks at nothing that is written later; what it looks at of the head it waits for; it is not guarded -/
def lookB (ops : Array Oper) (n : Nat) : Bool :=
  (List.range n).all fun i => match ops[i]? with
    | none => false
    | some o => o.guard.isNone && (o.looksAt ops).all fun t => (List.range n).all fun k => !(dstOf ops k == some t) || (decide (k < i) && Region.waitsFor .any ops i k)

theorem lookB_spec {n i : Nat} {o : Oper} (h : lookB ops n = true) (hi : i < n) (ho : ops[i]? = some o) : o.guard = none ∧ ∀ t, t ∈ o.looksAt ops → ∀ k, k < n → dstOf ops k = some t → k < i ∧ Region.waitsFor .any ops i k = true := by
  have h1 := List.all_eq_true.1 h i (List.mem_range.2 hi)
  simp only [ho, Bool.and_eq_true, Option.isNone_iff_eq_none, List.all_eq_true, List.mem_range, Bool.or_eq_true, Bool.not_eq_true', beq_eq_false_iff_ne, decide_eq_true_eq] at h1
  refine ⟨h1.1, fun t ht k hk hd => ?_⟩
  rcases h1.2 t ht k hk with h2 | h2
  · exact absurd hd h2
  · exact h2

/-- the frame as it stands: what has come up has left its value, all else is as it was -/
structure FrInv (ops : Array Oper) (n : Nat) (a0 : Act) (Ψ : Nat → Value → World → Prop) (listed : Array Bool) (a : Act) (w : World) : Prop where
  size : a.tmps.size = a0.tmps.size
  defers : a.defers = a0.defers
  old : ∀ s, (∀ i, i < n → listed.getD i false = true → dstOf ops i ≠ some s) → a.tmps[s]? = a0.tmps[s]?
  val : ∀ i d, i < n → listed.getD i false = true → dstOf ops i = some d → Ψ i (a.tmps.getD d undef) w
  non : ∀ i, i < n → listed.getD i false = true → dstOf ops i = none → Ψ i undef w

def valOf (ops : Array Oper) (a : Act) (i : Nat) : Value := match dstOf ops i with | some d => a.tmps.getD d undef | none => undef

theorem put_size (a : Act) (d : Option Tmp) (v : Value) : (a.put d v).tmps.size = a.tmps.size := by cases d <;> simp [Act.put]
theorem put_same (a : Act) (d : Tmp) (v : Value) (h : d < a.tmps.size) : (a.put (some d) v).tmps[d]? = some v := by simp [Act.put, h]
theorem put_other (a : Act) {d : Option Tmp} {s : Nat} (v : Value) (h : d ≠ some s) : (a.put d v).tmps[s]? = a.tmps[s]? := by
  cases d with
  | none => rfl
  | some d =>
    have : d ≠ s := fun e => h (by rw [e])
    simp [Act.put, Array.getElem?_setIfInBounds_ne this]
theorem frV_size (a0 : Act) (V : Nat → Value) (i : Nat) : (frV ops a0 V i).tmps.size = a0.tmps.size := by
  induction i with
  | zero => rfl
  | succ i ih => rw [frV, put_size]; exact ih
theorem frV_defers (a0 : Act) (V : Nat → Value) (i : Nat) : (frV ops a0 V i).defers = a0.defers := by
  induction i with
  | zero => rfl
  | succ i ih => rw [frV, put_defers]; exact ih
/-- where it writes, it writes what stands in a -/
theorem frV_in (a0 a : Act) (hs : a.tmps.size = a0.tmps.size) (i : Nat) : ∀ s, (∃ j, j < i ∧ dstOf ops j = some s) → s < a0.tmps.size → (frV ops a0 (valOf ops a) i).tmps[s]? = a.tmps[s]? := by
  induction i with
  | zero => rintro s ⟨j, hj, _⟩; omega
  | succ i ih =>
    rintro s ⟨j, hj, hd⟩ hlt
    rw [frV]
    by_cases he : dstOf ops i = some s
    · rw [he, put_same _ _ _ (by rw [frV_size]; exact hlt)]
      unfold valOf
      rw [he]
      simp [hs, hlt]
    · rw [put_other _ _ he]
      refine ih s ⟨j, ?_, hd⟩ hlt
      rcases Nat.lt_succ_iff_lt_or_eq.1 hj with h | h
      · exact h
      · subst h; exact absurd hd he
theorem frV_out (a0 : Act) (V : Nat → Value) (i : Nat) : ∀ s, (∀ j, j < i → dstOf ops j ≠ some s) → (frV ops a0 V i).tmps[s]? = a0.tmps[s]? := by
  induction i with
  | zero => intro s _; rfl
  | succ i ih =>
    intro s h
    rw [frV, put_other _ _ (h i (by omega))]
    exact ih s fun j hj => h j (by omega)

/-- what an operation's step must show -/
def stepV (P : Program) (ops : Array Oper) (Ψ : Nat → Value → World → Prop) (i : Nat) (a : Act) (w : World) : Prop :=
  match ops[i]? with
  | none => False
  | some o => match (execOp a.eval o).run P w with
    | .ok (.value v) w' => w.grownBy w' none ∧ Ψ i v w'
    | .ok .skip w' => w.grownBy w' none ∧ Ψ i undef w'
    | .ok (.enter f args) w' => Calls P f args w' (fun e w'' => ∃ v, e = .returned v ∧ w.grownBy w'' none ∧ Ψ i v w'')
    | _ => False
def dstB (ops : Array Oper) (n sz : Nat) : Bool :=
  (List.range n).all fun i => (match dstOf ops i with | some d => decide (d < sz) | none => false) && (List.range n).all fun j => i == j || dstOf ops i == none || !(dstOf ops i == dstOf ops j)
theorem dstB_lt {n sz i d : Nat} (h : dstB ops n sz = true) (hi : i < n) (hd : dstOf ops i = some d) : d < sz := by
  have h1 := List.all_eq_true.1 h i (List.mem_range.2 hi)
  simp only [hd, Bool.and_eq_true, decide_eq_true_eq] at h1
  exact h1.1
theorem dstB_some {n sz i : Nat} (h : dstB ops n sz = true) (hi : i < n) : dstOf ops i ≠ none := by
  have h1 := List.all_eq_true.1 h i (List.mem_range.2 hi)
  intro e
  simp [e] at h1
theorem dstB_ne {n sz i j d : Nat} (h : dstB ops n sz = true) (hi : i < n) (hj : j < n) (hij : i ≠ j) (hd : dstOf ops i = some d) : dstOf ops j ≠ some d := by
  have h1 := List.all_eq_true.1 h i (List.mem_range.2 hi)
  simp only [Bool.and_eq_true] at h1
  have h2 := List.all_eq_true.1 h1.2 j (List.mem_range.2 hj)
  simp only [hd, Bool.or_eq_true, beq_iff_eq, hij, false_or, Bool.not_eq_true', beq_eq_false_iff_ne] at h2
  rcases h2 with h2 | h2
  · simp at h2
  · exact fun e => h2 e.symm
/-- all of the head, one behind the other -/
def lexed (m : Nat) : Nat → Array Bool
  | 0 => Array.replicate m false
  | k + 1 => (lexed m k).setIfInBounds k true
theorem lexed_size (m k : Nat) : (lexed m k).size = m := by
  induction k with
  | zero => simp [lexed]
  | succ k ih => simp [lexed, ih]
theorem lexed_get (m : Nat) : ∀ k j, j < m → (lexed m k).getD j false = decide (j < k) := by
  intro k
  induction k with
  | zero => intro j hj; simp [lexed, hj]
  | succ k ih =>
    intro j hj
    by_cases hkj : k = j
    · subst hkj
      have : k < (lexed m k).size := by rw [lexed_size]; exact hj
      simp [lexed, this]
    · rw [lexed, getD_set_ne false hkj, ih j hj]
      simp; omega
theorem lexHead_at {md : Region.Mode} {g : Nat} (m : Nat) : ∀ f k, Region.lexHead md ops g f k (lexed m k) = true → ∀ j, k ≤ j → j < k + f → j ∈ Region.ready md ops (lexed m j) := by
  intro f
  induction f with
  | zero => intro k _ j h1 h2; omega
  | succ f ih =>
    intro k h j h1 h2
    simp only [Region.lexHead, Bool.and_eq_true] at h
    by_cases hj : j = k
    · subst hj; simpa using h.1.1
    · exact ih (k + 1) h.2 j (by omega) (by omega)
theorem lexHead_end {md : Region.Mode} {g : Nat} (m : Nat) : ∀ f k, Region.lexHead md ops g f k (lexed m k) = true → Region.seqB md ops g (k + f) (lexed m (k + f)) = true := by
  intro f
  induction f with
  | zero => intro k h; exact h
  | succ f ih =>
    intro k h
    simp only [Region.lexHead, Bool.and_eq_true] at h
    have := ih (k + 1) h.2
    rwa [show k + 1 + f = k + (f + 1) by omega] at this
/-- how many of the head are still to come -/
def left (listed : Array Bool) (n : Nat) : Nat := ((List.range n).filter fun i => !listed.getD i false).length
theorem left_set {listed : Array Bool} {n i : Nat} (hi : i < n) (h : listed.getD i true = false) : left listed n = left (listed.setIfInBounds i true) n + 1 := by
  have hlt : i < listed.size := by
    rcases Nat.lt_or_ge i listed.size with h' | h'
    · exact h'
    · simp [Array.getElem?_eq_none h'] at h
  unfold left
  induction n with
  | zero => omega
  | succ n ih =>
    rw [List.range_succ, List.filter_append, List.filter_append, List.length_append, List.length_append]
    by_cases hin : i = n
    · subst hin
      have e1 : (List.range i).filter (fun j => !listed.getD j false) = (List.range i).filter (fun j => !(listed.setIfInBounds i true).getD j false) := by
        refine List.filter_congr fun j hj => ?_
        rw [getD_set_ne false (by have := List.mem_range.1 hj; omega)]
      rw [e1]
      have e2 : (listed.setIfInBounds i true).getD i false = true := by simp [hlt]
      have e3 : listed.getD i false = false := getD_both h
      have e4 : List.filter (fun j => !listed.getD j false) [i] = [i] := by simp only [List.filter_cons, e3]; rfl
      have e5 : List.filter (fun j => !(listed.setIfInBounds i true).getD j false) [i] = [] := by simp only [List.filter_cons, e2]; rfl
      rw [e4, e5]
      rfl
    · rw [ih (by omega)]
      have e6 : List.filter (fun j => !(listed.setIfInBounds i true).getD j false) [n] = List.filter (fun j => !listed.getD j false) [n] := by simp only [List.filter_cons, List.filter_nil, getD_set_ne false hin]
      rw [e6]
      omega
theorem left_zero {listed : Array Bool} {n : Nat} (h : left listed n = 0) : ∀ i, i < n → listed.getD i false = true := by
  intro i hi
  unfold left at h
  have := List.eq_nil_of_length_eq_zero h
  have h2 := List.filter_eq_nil_iff.1 this i (List.mem_range.2 hi)
  simpa using h2
theorem left_pos {listed : Array Bool} {n : Nat} (h : left listed n ≠ 0) : ∃ i, i < n ∧ listed.getD i false = false ∧ ∀ j, j < i → listed.getD j false = true := by
  have hex : ∃ i, i < n ∧ listed.getD i false = false := by
    refine Classical.byContradiction fun hno => h ?_
    unfold left
    rw [List.length_eq_zero_iff, List.filter_eq_nil_iff]
    intro i hi
    have : listed.getD i false ≠ false := fun e => hno ⟨i, List.mem_range.1 hi, e⟩
    simpa using this
  obtain ⟨i, hi⟩ := hex
  induction i using Nat.strongRecOn with
  | _ i ih =>
    by_cases hall : ∀ j, j < i → listed.getD j false = true
    · exact ⟨i, hi.1, hi.2, hall⟩
    · have : ∃ j, j < i ∧ listed.getD j false = false := by
        refine Classical.byContradiction fun hno => hall fun j hj => ?_
        have : listed.getD j false ≠ false := fun e => hno ⟨j, hj, e⟩
        simpa using this
      obtain ⟨j, hj, hjf⟩ := this
      exact ih j hj ⟨by omega, hjf⟩
theorem waits_listed {listed : Array Bool} {i j : Nat} (hr : i ∈ Region.ready .any ops listed) (h : Region.waitsFor .any ops i j = true) : listed.getD j false = true := by
  obtain ⟨_, o, ho, hall⟩ := mem_ready.1 hr
  obtain ⟨o', ho', e, he, hb, hon⟩ := Region.waitsFor_spec h
  obtain rfl : o' = o := Option.some.inj (ho'.symm.trans ho)
  rw [← hon]
  exact hall e he hb
theorem eval_same {a b : Act} {x : Operand} (h : ∀ t, x = .tmp t → a.tmps[t]? = b.tmps[t]?) : a.eval x = b.eval x := by
  cases x with
  | tmp t =>
    have := h t rfl
    simp only [Act.eval, Array.getD_eq_getD_getElem?, this]
  | _ => rfl
theorem any_of_inv {n : Nat} {a0 : Act} {W : World} {Q : Exit → Act → World → Prop} {Ψ : Nat → Value → World → Prop} {l : List Oper} (hl : ops = l.toArray)
    (hst : ∀ i v w w', i < n → Ψ i v w → w.grownBy w' none → Ψ i v w')
    (hsel : Region.noSelect ops = true) (hn : n < ops.size) (hs : Region.sinkB .any ops n = true) (hc : Region.chainB .any ops n = true) (hlex : Region.lexHead .any ops (ops.size - n) n 0 (lexed ops.size 0) = true)
    (hL : lookB ops n = true) (hD : dstB ops n a0.tmps.size = true)
    (hstep : ∀ i, i < n → ∀ V w', W.grownBy w' none → (∀ j, (depsOf ops i).contains j = true → Ψ j (V j) w') → stepV P ops Ψ i (frV ops a0 V i) w')
    (hend : ∀ V w', W.grownBy w' none → (∀ i, i < n → Ψ i (V i) w') → wpList P ops Q (l.drop n) (frV ops a0 V n) w') (f : Nat) :
    ∀ listed a w, left listed n = f → HeadInv .any ops n listed → FrInv ops n a0 Ψ listed a w → W.grownBy w none → wpAny P .any ops Q (f + (ops.size - n)) listed a w := by
  have hval : ∀ {listed a w i}, FrInv ops n a0 Ψ listed a w → i < n → listed.getD i false = true → Ψ i (valOf ops a i) w := by
    intro listed a w i inv hi hli
    unfold valOf
    cases hd : dstOf ops i with
    | none => exact inv.non i hi hli hd
    | some d => exact inv.val i d hi hli hd
  induction f with
  | zero =>
    intro listed a w hf hinv inv hg
    have hall := left_zero hf
    have ea : a = frV ops a0 (valOf ops a) n := by
      obtain ⟨tm, df⟩ := a
      have h1 : tm = (frV ops a0 (valOf ops ⟨tm, df⟩) n).tmps := by
        apply Array.ext_getElem?
        intro s
        by_cases hex : ∃ j, j < n ∧ dstOf ops j = some s
        · obtain ⟨j, hj, hd⟩ := hex
          exact (frV_in a0 ⟨tm, df⟩ inv.size n s ⟨j, hj, hd⟩ (dstB_lt hD hj hd)).symm
        · have hno : ∀ j, j < n → dstOf ops j ≠ some s := fun j hj hd => hex ⟨j, hj, hd⟩
          rw [frV_out a0 _ n s hno]
          exact inv.old s fun i hi _ => hno i hi
      have h2 : df = (frV ops a0 (valOf ops ⟨tm, df⟩) n).defers := by rw [frV_defers]; exact inv.defers
      generalize frV ops a0 (valOf ops ⟨tm, df⟩) n = b at *
      obtain ⟨bt, bd⟩ := b
      simp_all
    have el : listed = lexed ops.size n := by
      apply Array.ext
      · rw [lexed_size]; exact hinv.size
      · intro i h1 h2
        have e1 := lexed_get ops.size n i (by rw [← hinv.size]; exact h1)
        by_cases hin : i < n
        · have e2 := hall i hin
          have : (lexed ops.size n).getD i false = true := by rw [e1]; simp [hin]
          simp [h1, h2] at e2 this
          rw [e2, this]
        · have e2 := getD_both (hinv.tail i (by omega) (by rw [← hinv.size]; exact h1))
          have : (lexed ops.size n).getD i false = false := by rw [e1]; simp [hin]
          simp [h1, h2] at e2 this
          rw [e2, this]
    have hw := hend (valOf ops a) w hg fun i hi => hval inv hi (hall i hi)
    rw [← ea] at hw
    have hse := lexHead_end ops.size n 0 (by simpa using hlex)
    rw [Nat.zero_add] at hse
    have hdl : (l.drop n).length = ops.size - n := by rw [hl]; simp
    have T := wpAny_of_seq (md := .any) (P := P) (ops := ops) (Q' := Q) (l.drop n) n listed a w (fun j => by rw [hl]; simp [List.getElem?_drop]) (by rw [hdl, el]; exact hse) hw
    rw [hdl] at T
    rw [Nat.zero_add]
    exact T
  | succ f ih =>
    intro listed a w hf hinv inv hg
    obtain ⟨k, hk, hkf, hkall⟩ := left_pos (by rw [hf]; exact Nat.succ_ne_zero f)
    have hkt : listed.getD k true = false := getD_in (by rw [hinv.size]; omega) hkf
    have hkr : k ∈ Region.ready .any ops listed := by
      have h0 := lexHead_at ops.size n 0 (by simpa using hlex) k (Nat.zero_le _) (by omega)
      obtain ⟨_, o, ho, hall⟩ := mem_ready.1 h0
      refine mem_ready.2 ⟨hkt, o, ho, fun e he hb => ?_⟩
      have h1 := hall e he hb
      have h2 : e.on < ops.size := by
        rcases Nat.lt_or_ge e.on (lexed ops.size k).size with h' | h'
        · rw [lexed_size] at h'; exact h'
        · simp [Array.getElem?_eq_none h'] at h1
      rw [lexed_get ops.size k e.on h2] at h1
      exact hkall e.on (by simpa using h1)
    rw [Nat.add_right_comm]
    refine ⟨fun h0 => absurd h0 (List.ne_nil_of_mem hkr), fun i hi => ?_⟩
    have hin : i < n := Nat.lt_of_not_le fun h => tail_waits hs hc hn hinv _ k rfl hk hkt i h hi
    obtain ⟨hiun, o, ho, hall⟩ := mem_ready.1 hi
    obtain ⟨hgd, hlk⟩ := lookB_spec hL hin ho
    have hd : dstOf ops i = o.dst := by unfold dstOf; rw [ho]; rfl
    have S := hstep i hin (valOf ops a) w hg fun j hj => by
      have hj' := List.mem_filter.1 (show j ∈ depsOf ops i by simpa using hj)
      have hlt := List.mem_range.1 hj'.1
      exact hval inv (by omega) (waits_listed hi hj'.2)
    unfold stepV at S
    simp only [ho] at S
    have hex : execOp a.eval o = execOp (frV ops a0 (valOf ops a) i).eval o := by
      refine execOp_congr o (fun cs b => Region.noSelect_spec hsel i o cs b ho) fun x hx => eval_same fun t ht => ?_
      subst ht
      have htl : t ∈ o.looksAt ops := List.mem_append_left _ (List.mem_filterMap.2 ⟨.tmp t, by simpa using hx, rfl⟩)
      by_cases hexi : ∃ j, j < n ∧ dstOf ops j = some t
      · obtain ⟨j, hj, hdj⟩ := hexi
        obtain ⟨hji, _⟩ := hlk t htl j hj hdj
        exact (frV_in a0 a inv.size i t ⟨j, hji, hdj⟩ (dstB_lt hD hj hdj)).symm
      · have hno : ∀ j, j < n → dstOf ops j ≠ some t := fun j hj hd => hexi ⟨j, hj, hd⟩
        rw [frV_out a0 _ i t fun j hj => hno j (by omega)]
        exact inv.old t fun j hj _ => hno j hj
    have next : ∀ v w', w.grownBy w' none → Ψ i v w' → wpAny P .any ops Q (f + (ops.size - n)) (listed.setIfInBounds i true) (a.put o.dst v) w' := by
      intro v w' hg' hv
      have hlf : left (listed.setIfInBounds i true) n = f := by have := left_set hin hiun; omega
      refine ih _ _ _ hlf (hinv.set hi hin) ?_ (grown_trans hg hg')
      have hset : ∀ j, j ≠ i → (listed.setIfInBounds i true).getD j false = true → listed.getD j false = true := fun j hj h => by rwa [getD_set_ne false (Ne.symm hj)] at h
      refine ⟨(put_size _ _ _).trans inv.size, (put_defers _ _ _).trans inv.defers, fun s hs' => ?_, fun j d hj hjl hjd => ?_, fun j hj hjl hjd => ?_⟩
      · have h1 : dstOf ops i ≠ some s := hs' i hin (by
          have : i < listed.size := by rw [hinv.size]; omega
          simp [this])
        rw [put_other _ _ (by rw [← hd]; exact h1)]
        exact inv.old s fun j hj hjl => hs' j hj (getD_set_true hjl)
      · by_cases hji : j = i
        · subst hji
          have e : o.dst = some d := by rw [← hd]; exact hjd
          rw [e]
          have hlt : d < a.tmps.size := by rw [inv.size]; exact dstB_lt hD hin hjd
          have := put_same a d v hlt
          rw [Array.getD_eq_getD_getElem?, this]
          exact hv
        · have hne : o.dst ≠ some d := by rw [← hd]; exact dstB_ne hD hj hin hji hjd
          have := put_other a v hne
          rw [Array.getD_eq_getD_getElem?, this, ← Array.getD_eq_getD_getElem?]
          exact hst _ _ _ _ hj (inv.val j d hj (hset j hji hjl) hjd) hg'
      · by_cases hji : j = i
        · subst hji
          exact absurd hjd (dstB_some hD hin)
        · exact hst _ _ _ _ hj (inv.non j hj (hset j hji hjl) hjd) hg'
    unfold wpOp
    simp only [ho]
    have hwa : Region.wanted o (yielded ops a.tmps) = true := by unfold Region.wanted; rw [hgd]
    rw [if_pos hwa]
    refine .inl ?_
    unfold Oper.wp
    rw [hex]
    generalize (execOp (frV ops a0 (valOf ops a) i).eval o).run P w = r at S
    match r, S with
    | .ok (.value v) w', S => exact next v w' S.1 S.2
    | .ok .skip w', S => exact next undef w' S.1 S.2
    | .ok (.enter fn args) w', S =>
      rw [Oper.upon_enter]
      refine Calls.mono S ?_
      rintro e w'' ⟨v, rfl, h1, h2⟩
      exact next v w'' h1 h2
theorem stepV_val {Ψ : Nat → Value → World → Prop} {i : Nat} {o : Oper} {a : Act} {w w' : World} {v : Value} (ho : ops[i]? = some o) (hr : (execOp a.eval o).run P w = .ok (.value v) w') (hg : w.grownBy w' none) (hv : Ψ i v w') : stepV P ops Ψ i a w := by
  unfold stepV
  simp only [ho, hr]
  exact ⟨hg, hv⟩
theorem stepV_call {Ψ : Nat → Value → World → Prop} {i : Nat} {o : Oper} {a : Act} {w : World} {f : FuncId} {args : Array Value} (ho : ops[i]? = some o) (hr : (execOp a.eval o).run P w = .ok (.enter f args) w) (hc : Calls P f args w fun e w'' => ∃ v, e = .returned v ∧ w.grownBy w'' none ∧ Ψ i v w'') : stepV P ops Ψ i a w := by
  unfold stepV
  simp only [ho, hr]
  exact hc
/-- a last operation that yields nothing -/
theorem wpList_store1 {Q : Exit → Act → World → Prop} {o : Oper} {a : Act} {w w' : World} (hwant : Region.wanted o (yielded ops a.tmps) = true) (hr : (execOp a.eval o).run P w = .ok .skip w') (h : Q .normal (a.put o.dst undef) w') : wpList P ops Q [o] a w := by
  unfold wpList
  rw [if_pos hwant]
  refine .inl ?_
  unfold Oper.wp
  rw [hr, Oper.upon_skip]
  unfold wpList
  exact h
/-- **A region of which each operation of the head says what is known of its own value, whatever came ahead of it.** -/
theorem region_inv {id : Nat} {Q : Exit → Act → World → Prop} {a : Act} {w : World} {l : List Oper} (n : Nat) (Ψ : Nat → Value → World → Prop)
    (hm : P.follows .mixedOrders = true) (hB : Region.lexTailB .any l.toArray n = true) (hL : lookB l.toArray n = true) (hD : dstB l.toArray n a.tmps.size = true)
    (hst : ∀ i v w w', i < n → Ψ i v w → w.grownBy w' none → Ψ i v w')
    (hstep : ∀ i, i < n → ∀ V w', w.drew.grownBy w' none → (∀ j, (depsOf l.toArray i).contains j = true → Ψ j (V j) w') → stepV P l.toArray Ψ i (frV l.toArray a V i) w')
    (hend : ∀ V w', w.drew.grownBy w' none → (∀ i, i < n → Ψ i (V i) w') → wpList P l.toArray Q (l.drop n) (frV l.toArray a V n) w') : (Code.region id l.toArray true).wp P Q a w := by
  simp only [Region.lexTailB, Bool.and_eq_true, decide_eq_true_eq] at hB
  obtain ⟨⟨⟨⟨hsel, hn⟩, hs⟩, hc⟩, hlex⟩ := hB
  have inv0 : HeadInv .any l.toArray n (Array.replicate l.toArray.size false) :=
    ⟨by simp, fun j oj _ hl => (by rw [getD_replicate_false] at hl; cases hl), fun t _ ht => getD_in (by simpa using ht) (getD_replicate_false _ _)⟩
  have hl0 : left (Array.replicate l.toArray.size false) n = n := by
    unfold left
    rw [List.filter_eq_self.2 fun i _ => by rw [getD_replicate_false]; rfl]
    simp
  have fr0 : FrInv l.toArray n a Ψ (Array.replicate l.toArray.size false) a w.drew :=
    ⟨rfl, rfl, fun _ _ => rfl, fun i d _ h => (by rw [getD_replicate_false] at h; cases h), fun i _ h => (by rw [getD_replicate_false] at h; cases h)⟩
  have T := any_of_inv (P := P) (Q := Q) (ops := l.toArray) (n := n) (a0 := a) (W := w.drew) (Ψ := Ψ) rfl hst hsel hn hs hc (by simpa [lexed] using hlex) hL hD hstep hend n _ a w.drew hl0 inv0 fr0 (World.grownBy.refl _ _)
  rw [show n + (l.toArray.size - n) = l.toArray.size by omega] at T
  exact wp_region_any hm T
end
end Go.Proofs.YtdklaeppcjopoaaGreatDoor

/- A struct stored over another, whole; words copied into a row. -/
namespace Go.Proofs.YtdklaeppcjopoaaGreatDoor
open Go.RowKit
set_option linter.unusedVariables false

theorem getD_some (c : Array Value) (i : Nat) (h : i < c.size) : c[i]? = some (c.getD i undef) := by simp [Array.getD, h]
theorem info_u64 : (Tryz.prog.info? 23).map (·.size) = some 1 := by kernel_rfl
/-- a core stored whole -/
theorem run_store_core {w : World} {N : Nat} {f : Nat → Value} (xs : Array Value) (hr : w.rowIs N 85 23 f) (hx : xs.size = 23) (h1 : ∀ v ∈ xs.toList, v.oneCell' = true) :
    ∃ w', (Instr.storeAt 85 (.pointer (some ⟨N, 0, none⟩)) (.agg xs)).run Tryz.prog w = .ok () w' ∧ w'.rowIs N 85 23 (fun i => xs.getD i undef) ∧ w.grownBy w' (some N) := by
  obtain ⟨cur, hcur, hsz, _⟩ := hr
  have hs := run_storeCells_at Tryz.prog N 0 85 xs.toList 0 cur w hcur (by simp; omega) h1
  have e : (cur.toList.take (0 + 0) ++ xs.toList ++ cur.toList.drop (0 + 0 + xs.toList.length)).toArray = xs := by
    have : cur.toList.drop (0 + 0 + xs.toList.length) = [] := List.drop_eq_nil_of_le (by simp; omega)
    rw [this]
    simp
  rw [e] at hs
  refine ⟨w.setRow N xs, ?_, ⟨xs, setRow_heap w N _ _ _ _ hcur, hx, fun i hi => getD_some _ i (by omega)⟩, ⟨rfl, rfl, rfl, by simp [World.setRow], fun k hk hk2 => setRow_other w N k _ (fun e => hk2 (by rw [e]))⟩⟩
  have hi : (sizeOf 85).run Tryz.prog w = .ok 23 w := by kernel_rfl
  have hcl : (Value.agg xs).cells = xs := rfl
  simp only [Instr.storeAt, Instr.sureAddr, storeVar, hcl]
  simp [go_sem, hi, hx, hs]
/-- copy of words into a row of the call's own -/
theorem run_copy_words {w : World} {t : TypeId} (N S off dn dc b o' n cap : Nat) (f : Nat → Value) (g : Nat → Int) (hr : w.rowIs N t S f) (hn : n ≤ dn) (hfit : off + n ≤ S)
    (hc : ∀ i, i < n → w.cell? ⟨b, o' + i, none⟩ = some (.int .u64 (g i))) :
    ∃ w', (Builtin.copy_ #[35, 35] 3 #[.slice (some ⟨N, off, none⟩) dn dc, .slice (some ⟨b, o', none⟩) n cap]).run Tryz.prog w = .ok (goInt n) w' ∧
      w'.rowIs N t S (fun i => if off ≤ i ∧ i < off + n then .int .u64 (g (i - off)) else f i) ∧ w.grownBy w' (some N) := by
  obtain ⟨cur, hcur, hsz, hcc⟩ := hr
  have hlen : ((List.range n).map fun i => Value.int .u64 (g i)).length = n := by simp
  have hget : ∀ j v, ((List.range n).map fun i => Value.int .u64 (g i))[j]? = some v → j < n ∧ v = .int .u64 (g j) := fun j v hv => by
    rw [List.getElem?_map] at hv
    simp only [Option.map_eq_some_iff] at hv
    obtain ⟨x, hx, rfl⟩ := hv
    obtain ⟨hlt, hx⟩ := List.getElem?_eq_some_iff.1 hx
    simp at hlt hx
    subst hx
    exact ⟨hlt, rfl⟩
  have hrun := run_copy_row (P := Tryz.prog) w 35 35 3 23 N off dn dc ⟨b, o', none⟩ n cap cur t ((List.range n).map fun i => Value.int .u64 (g i)) Tryz.underlying35 info_u64 hcur (by rw [hlen]; exact (Nat.min_eq_left hn).symm) (by
    intro j v hv
    obtain ⟨hj, rfl⟩ := hget j v hv
    rw [add_none]
    exact hc j hj) (by rw [hlen]; omega) (by
    intro v hv
    simp only [List.mem_map] at hv
    obtain ⟨x, _, rfl⟩ := hv
    rfl)
  rw [hlen] at hrun
  refine ⟨_, hrun, ⟨_, setRow_heap w N _ _ _ _ hcur, ?_, ?_⟩, ⟨rfl, rfl, rfl, by simp [World.setRow], fun k hk hk2 => setRow_other w N k _ (fun e => hk2 (by rw [e]))⟩⟩
  · simp; omega
  · intro i hi
    have hci := hcc i hi
    simp only [List.getElem?_toArray, List.append_assoc]
    by_cases h1 : i < off
    · rw [List.getElem?_append_left (by simp; omega), List.getElem?_take, if_pos h1, if_neg (by omega)]
      simpa using hci
    · rw [List.getElem?_append_right (by simp; omega)]
      have hl2 : (cur.toList.take off).length = off := by simp; omega
      rw [hl2]
      by_cases h2 : i < off + n
      · rw [List.getElem?_append_left (by rw [hlen]; omega), List.getElem?_map, List.getElem?_range (by omega), if_pos (by omega)]
        rfl
      · rw [List.getElem?_append_right (by rw [hlen]; omega), hlen, List.getElem?_drop, if_neg (by omega), show off + n + (i - off - n) = i by omega]
        simpa using hci
end Go.Proofs.YtdklaeppcjopoaaGreatDoor

/- run.New: what is behind the composite. -/
namespace Go.Proofs.YtdklaeppcjopoaaGreatDoor
open Go.RowKit
set_option linter.unusedVariables false

/-- what of a body begins at a region -/
def codeFrom1 (k : Nat) : Code → Option Code
  | .seq (.region i o d) b => if i = k then some b else codeFrom1 k b
  | .seq a b => match codeFrom1 k a with
    | some c => some c
    | none => codeFrom1 k b
  | .block _ c => codeFrom1 k c
  | .scope c => codeFrom1 k c
  | .cond _ a b => match codeFrom1 k a with
    | some c => some c
    | none => codeFrom1 k b
  | _ => none
noncomputable def newEnd1 : Code := (Tryz.f33.body.bind (codeFrom1 12)).getD .skip
set_option maxRecDepth 100000 in
set_option maxHeartbeats 4000000 in
theorem new_end1 {Post : Ending → World → Prop} (cn cap b0 N M : Nat) (ao : Option Addr) (en Z S4 : Int) (R : Nat → Int) (W : World)
    (hT : W.cell? ⟨b0, 0, none⟩ = some (.int .i64 1)) (hheap : W.heap[N]? = some (.cells #[.slice ao cn cap, .int .u64 en, .int .u64 (R 0), .int .u64 (R 1), .int .u64 (R 2), .int .u64 (R 3), .int .u64 (R 4), .int .u64 (R 5), .int .u64 (R 6), .int .u64 (R 7), .int .u64 (R 8), .int .u64 (R 9), .int .u64 (R 10), .int .u64 (R 11), .int .u64 (R 12), .int .u64 (R 13), .int .u64 (R 14), .int .u64 (R 15), .pointer (some ⟨M, 0, none⟩), .int .u64 Z, .int .u64 S4, .int .i64 0, .int .i64 0] 85 (0, 0)))
    (HP : Hid (Post (.returned (.tuple #[.pointer (some ⟨W.heap.size + 1, 0, none⟩), .int .i64 0])) ((W.alloc (Obj.cells #[.slice ao cn cap, .int .u64 en, .int .u64 (R 0), .int .u64 (R 1), .int .u64 (R 2), .int .u64 (R 3), .int .u64 (R 4), .int .u64 (R 5), .int .u64 (R 6), .int .u64 (R 7), .int .u64 (R 8), .int .u64 (R 9), .int .u64 (R 10), .int .u64 (R 11), .int .u64 (R 12), .int .u64 (R 13), .int .u64 (R 14), .int .u64 (R 15), .pointer (some ⟨M, 0, none⟩), .int .u64 Z, .int .u64 S4, .int .i64 0, .int .i64 0] 113)).alloc (Obj.cells #[.iface 111 (.pointer (some ⟨W.heap.size, 0, none⟩))] 81)))) (x0 x1 x2 x4 x5 x6 x7 x8 x9 x10 x12 x13 x14 x15 x16 x17 x18 x19 x20 x21 x22 x23 x24 x25 x26 x27 x28 x29 x30 x31 x32 x33 x34 x35 x36 x37 x38 x39 x40 x41 x42 x43 x44 x45 x46 x47 x48 x49 x50 x51 x52 x53 x54 x55 x56 x57 x58 x59 x60 x61 x62 x63 x64 x65 x66 x67 x68 x69 x70 x71 x72 x73 x74 x75 x76 x77 x78 x79 x80 x81 x82 : Value) :
    Code.wp Tryz.prog newEnd1 (bodyPost Tryz.prog Tryz.f33 Post) ⟨#[x0, x1, x2, .pointer (some ⟨b0, 0, none⟩), x4, x5, x6, x7, x8, x9, x10, .pointer (some ⟨N, 0, none⟩), x12, x13, x14, x15, x16, x17, x18, x19, x20, x21, x22, x23, x24, x25, x26, x27, x28, x29, x30, x31, x32, x33, x34, x35, x36, x37, x38, x39, x40, x41, x42, x43, x44, x45, x46, x47, x48, x49, x50, x51, x52, x53, x54, x55, x56, x57, x58, x59, x60, x61, x62, x63, x64, x65, x66, x67, x68, x69, x70, x71, x72, x73, x74, x75, x76, x77, x78, x79, x80, x81, x82], []⟩ W := by
  conv => arg 2; whnf
  refine wp_seq_k (fun K0 hK => ?_)
  have HK0 : Hid _ := hK
  clear hK
  refine wp_seq_k (fun K1 hK => ?_)
  have HK1 : Hid _ := hK
  clear hK
  go_wp2
  refine HK1.out _ _ ?_
  refine wp_cond_true rfl ?_
  refine wp_seq_k (fun K2 hK => ?_)
  have HK2 : Hid _ := hK
  clear hK
  refine wp_region_lit ?_
  refine wpList_load_row rfl _ _ rfl N rfl 85 _ (0, 0) _ hheap Tryz.underlying85 rfl (by kernel_rfl) ?_
  go_wp2
  refine HK2.out _ _ ?_
  go_wp2
  exact HP.out
end Go.Proofs.YtdklaeppcjopoaaGreatDoor

/- run.New: what is behind the composite. -/
namespace Go.Proofs.YtdklaeppcjopoaaGreatDoor
open Go.RowKit
set_option linter.unusedVariables false

/-- what of a body begins at a region -/
def codeFrom2 (k : Nat) : Code → Option Code
  | .seq (.region i o d) b => if i = k then some b else codeFrom2 k b
  | .seq a b => match codeFrom2 k a with
    | some c => some c
    | none => codeFrom2 k b
  | .block _ c => codeFrom2 k c
  | .scope c => codeFrom2 k c
  | .cond _ a b => match codeFrom2 k a with
    | some c => some c
    | none => codeFrom2 k b
  | _ => none
noncomputable def newEnd2 : Code := (Tryz.f33.body.bind (codeFrom2 12)).getD .skip
set_option maxRecDepth 100000 in
set_option maxHeartbeats 4000000 in
theorem new_end2 {Post : Ending → World → Prop} (cn cap b0 N M : Nat) (ao : Option Addr) (en Z S4 : Int) (R : Nat → Int) (W : World)
    (hT : W.cell? ⟨b0, 0, none⟩ = some (.int .i64 2)) (hheap : W.heap[N]? = some (.cells #[.slice ao cn cap, .int .u64 en, .int .u64 (R 0), .int .u64 (R 1), .int .u64 (R 2), .int .u64 (R 3), .int .u64 (R 4), .int .u64 (R 5), .int .u64 (R 6), .int .u64 (R 7), .int .u64 (R 8), .int .u64 (R 9), .int .u64 (R 10), .int .u64 (R 11), .int .u64 (R 12), .int .u64 (R 13), .int .u64 (R 14), .int .u64 (R 15), .pointer (some ⟨M, 0, none⟩), .int .u64 Z, .int .u64 S4, .int .i64 0, .int .i64 0] 85 (0, 0)))
    (HP : Hid (Post (.returned (.tuple #[.pointer (some ⟨W.heap.size + 1, 0, none⟩), .int .i64 0])) ((W.alloc (Obj.cells #[.slice ao cn cap, .int .u64 en, .int .u64 (R 0), .int .u64 (R 1), .int .u64 (R 2), .int .u64 (R 3), .int .u64 (R 4), .int .u64 (R 5), .int .u64 (R 6), .int .u64 (R 7), .int .u64 (R 8), .int .u64 (R 9), .int .u64 (R 10), .int .u64 (R 11), .int .u64 (R 12), .int .u64 (R 13), .int .u64 (R 14), .int .u64 (R 15), .pointer (some ⟨M, 0, none⟩), .int .u64 Z, .int .u64 S4, .int .i64 0, .int .i64 0, .int .i64 0, .int .u64 0, .int .u64 0] 118)).alloc (Obj.cells #[.iface 114 (.pointer (some ⟨W.heap.size, 0, none⟩))] 81)))) (x0 x1 x2 x4 x5 x6 x7 x8 x9 x10 x12 x13 x14 x15 x16 x17 x18 x19 x20 x21 x22 x23 x24 x25 x26 x27 x28 x29 x30 x31 x32 x33 x34 x35 x36 x37 x38 x39 x40 x41 x42 x43 x44 x45 x46 x47 x48 x49 x50 x51 x52 x53 x54 x55 x56 x57 x58 x59 x60 x61 x62 x63 x64 x65 x66 x67 x68 x69 x70 x71 x72 x73 x74 x75 x76 x77 x78 x79 x80 x81 x82 : Value) :
    Code.wp Tryz.prog newEnd2 (bodyPost Tryz.prog Tryz.f33 Post) ⟨#[x0, x1, x2, .pointer (some ⟨b0, 0, none⟩), x4, x5, x6, x7, x8, x9, x10, .pointer (some ⟨N, 0, none⟩), x12, x13, x14, x15, x16, x17, x18, x19, x20, x21, x22, x23, x24, x25, x26, x27, x28, x29, x30, x31, x32, x33, x34, x35, x36, x37, x38, x39, x40, x41, x42, x43, x44, x45, x46, x47, x48, x49, x50, x51, x52, x53, x54, x55, x56, x57, x58, x59, x60, x61, x62, x63, x64, x65, x66, x67, x68, x69, x70, x71, x72, x73, x74, x75, x76, x77, x78, x79, x80, x81, x82], []⟩ W := by
  conv => arg 2; whnf
  refine wp_seq_k (fun K0 hK => ?_)
  have HK0 : Hid _ := hK
  clear hK
  refine wp_seq_k (fun K1 hK => ?_)
  have HK1 : Hid _ := hK
  clear hK
  go_wp2
  refine HK1.out _ _ ?_
  refine wp_cond_false rfl ?_
  go_wp2
  refine HK0.out _ _ ?_
  refine wp_seq_k (fun K2 hK => ?_)
  have HK2 : Hid _ := hK
  clear hK
  refine wp_region_lit ?_
  refine wpList_load_row rfl _ _ rfl N rfl 85 _ (0, 0) _ hheap Tryz.underlying85 rfl (by kernel_rfl) ?_
  go_wp2
  refine HK2.out _ _ ?_
  go_wp2
  exact HP.out
end Go.Proofs.YtdklaeppcjopoaaGreatDoor
