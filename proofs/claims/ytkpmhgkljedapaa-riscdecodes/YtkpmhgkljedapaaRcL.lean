/- risc.Decode: its contract. -/
import Derived.Test.YtkpmhgkljedapaaRcK
import Derived.Deep.AppendLies
namespace Go.Proofs.Ytkpmhgkljedapaa
open Go.RowKit
set_option linter.unusedVariables false

theorem formOf_x (b off n cap : Nat) (g : Nat → Int) (w : World) (hn : 8 ≤ n) (hnc : n ≤ cap) (hg : Mm.Fit g) (hc : ∀ i, i < n → w.cell? ⟨b, off + i, none⟩ = some (.int .u8 (g i))) :
    Calls Try.prog 28 #[.slice (some ⟨b, off, none⟩) n cap] w fun e w' => e = .returned (.agg #[.int .i64 (Rc.fo g).code, .int .i64 (Rc.fo g).a, .int .i64 (Rc.fo g).b, .int .i64 (Rc.fo g).c, .int .i64 (Rc.fo g).n]) ∧ w.grownBy w' none := formOf_any b off n cap g w hn hnc hg hc
theorem unpack_x (g : Nat → Int) (w : World) :
    Calls Try.prog 29 #[formv (Rc.fo g)] w fun e w' => e = .returned (.agg #[.int .i64 (Rc.unpk (Rc.fo g)).op, .int .i64 (Rc.unpk (Rc.fo g)).a, .int .i64 (Rc.unpk (Rc.fo g)).b, .int .i64 (Rc.unpk (Rc.fo g)).c, .int .i64 (Rc.unpk (Rc.fo g)).k, .int .i64 (Rc.unpk (Rc.fo g)).sub, .int .i64 (Rc.unpk (Rc.fo g)).scale, .int .i64 (Rc.unpk (Rc.fo g)).imm, .int .i64 (Rc.unpk (Rc.fo g)).label]) ∧ w.grownBy w' none := by
  have r := Rc.s32_rng (Mm.ld g 4 4)
  exact unpack_any (Rc.fo g) w (by show _ ≤ Rc.s32 _; omega) (by show Rc.s32 _ ≤ _; omega)
theorem agree_x (g : Nat → Int) (hg : Mm.Fit g) (w : World) :
    Calls Try.prog 17 #[inst (Rc.unpk (Rc.fo g)), formv (Rc.fo g)] w fun e w' => e = .returned (.bool (Rc.okB g)) ∧ w.grownBy w' none := by
  have r := Rc.s32_rng (Mm.ld g 4 4)
  exact agree_any _ _ w (by show _ ≤ Rc.s32 _; omega) (by show Rc.s32 _ ≤ _; omega) (Rc.okB g) (Rc.ag_ok hg)

set_option maxHeartbeats 8000000 in
theorem decode_short (ao : Option Addr) (n cap : Nat) (w : World) (hn : (n : Int) < 8) :
    Calls Try.prog 14 #[.slice ao n cap] w fun e w' => e = .returned (.tuple #[inst zeroI, .int .i64 0, .int .i64 31]) ∧ w.grownBy w' none := by
  go_enter Try.func14, Try.ntmps14
  go_wp2
  go_returns
  exact ⟨rfl, World.grownBy_alloc _ _ _⟩

set_option maxHeartbeats 8000000 in
theorem decode_no (b off n cap : Nat) (g : Nat → Int) (w : World) (hn : 8 ≤ n) (hnc : n ≤ cap) (hg : Mm.Fit g) (hc : ∀ i, i < n → w.cell? ⟨b, off + i, none⟩ = some (.int .u8 (g i))) (ho : Rc.okB g = false) :
    Calls Try.prog 14 #[.slice (some ⟨b, off, none⟩) n cap] w fun e w' => e = .returned (.tuple #[inst zeroI, .int .i64 0, .int .i64 30]) ∧ w.grownBy w' none := by
  have HC : Hid (∀ i, i < n → (w.alloc (Obj.cells #[.int .i64 0, .int .i64 0, .int .i64 0, .int .i64 0, .int .i64 0, .int .i64 0, .int .i64 0, .int .i64 0, .int .i64 0] 28)).cell? ⟨b, off + i, none⟩ = some (.int .u8 (g i))) := fun i hi => (World.grownBy_alloc w (Obj.cells #[.int .i64 0, .int .i64 0, .int .i64 0, .int .i64 0, .int .i64 0, .int .i64 0, .int .i64 0, .int .i64 0, .int .i64 0] 28) none).cell (hc i hi) (by simp)
  have c0 : (w.alloc (Obj.cells #[.int .i64 0, .int .i64 0, .int .i64 0, .int .i64 0, .int .i64 0, .int .i64 0, .int .i64 0, .int .i64 0, .int .i64 0] 28)).cell? ⟨w.heap.size, 0, none⟩ = some (.int .i64 0) := by simp
  have c1 : (w.alloc (Obj.cells #[.int .i64 0, .int .i64 0, .int .i64 0, .int .i64 0, .int .i64 0, .int .i64 0, .int .i64 0, .int .i64 0, .int .i64 0] 28)).cell? ⟨w.heap.size, 1, none⟩ = some (.int .i64 0) := by simp
  have c2 : (w.alloc (Obj.cells #[.int .i64 0, .int .i64 0, .int .i64 0, .int .i64 0, .int .i64 0, .int .i64 0, .int .i64 0, .int .i64 0, .int .i64 0] 28)).cell? ⟨w.heap.size, 2, none⟩ = some (.int .i64 0) := by simp
  have c3 : (w.alloc (Obj.cells #[.int .i64 0, .int .i64 0, .int .i64 0, .int .i64 0, .int .i64 0, .int .i64 0, .int .i64 0, .int .i64 0, .int .i64 0] 28)).cell? ⟨w.heap.size, 3, none⟩ = some (.int .i64 0) := by simp
  have c4 : (w.alloc (Obj.cells #[.int .i64 0, .int .i64 0, .int .i64 0, .int .i64 0, .int .i64 0, .int .i64 0, .int .i64 0, .int .i64 0, .int .i64 0] 28)).cell? ⟨w.heap.size, 4, none⟩ = some (.int .i64 0) := by simp
  have c5 : (w.alloc (Obj.cells #[.int .i64 0, .int .i64 0, .int .i64 0, .int .i64 0, .int .i64 0, .int .i64 0, .int .i64 0, .int .i64 0, .int .i64 0] 28)).cell? ⟨w.heap.size, 5, none⟩ = some (.int .i64 0) := by simp
  have c6 : (w.alloc (Obj.cells #[.int .i64 0, .int .i64 0, .int .i64 0, .int .i64 0, .int .i64 0, .int .i64 0, .int .i64 0, .int .i64 0, .int .i64 0] 28)).cell? ⟨w.heap.size, 6, none⟩ = some (.int .i64 0) := by simp
  have c7 : (w.alloc (Obj.cells #[.int .i64 0, .int .i64 0, .int .i64 0, .int .i64 0, .int .i64 0, .int .i64 0, .int .i64 0, .int .i64 0, .int .i64 0] 28)).cell? ⟨w.heap.size, 7, none⟩ = some (.int .i64 0) := by simp
  have c8 : (w.alloc (Obj.cells #[.int .i64 0, .int .i64 0, .int .i64 0, .int .i64 0, .int .i64 0, .int .i64 0, .int .i64 0, .int .i64 0, .int .i64 0] 28)).cell? ⟨w.heap.size, 8, none⟩ = some (.int .i64 0) := by simp
  have q0 : (w.alloc (Obj.cells #[.int .i64 0, .int .i64 0, .int .i64 0, .int .i64 0, .int .i64 0, .int .i64 0, .int .i64 0, .int .i64 0, .int .i64 0] 28)).frozen? ⟨w.heap.size, 0, none⟩ = false := by simp
  have q1 : (w.alloc (Obj.cells #[.int .i64 0, .int .i64 0, .int .i64 0, .int .i64 0, .int .i64 0, .int .i64 0, .int .i64 0, .int .i64 0, .int .i64 0] 28)).frozen? ⟨w.heap.size, 1, none⟩ = false := by simp
  have q2 : (w.alloc (Obj.cells #[.int .i64 0, .int .i64 0, .int .i64 0, .int .i64 0, .int .i64 0, .int .i64 0, .int .i64 0, .int .i64 0, .int .i64 0] 28)).frozen? ⟨w.heap.size, 2, none⟩ = false := by simp
  have q3 : (w.alloc (Obj.cells #[.int .i64 0, .int .i64 0, .int .i64 0, .int .i64 0, .int .i64 0, .int .i64 0, .int .i64 0, .int .i64 0, .int .i64 0] 28)).frozen? ⟨w.heap.size, 3, none⟩ = false := by simp
  have q4 : (w.alloc (Obj.cells #[.int .i64 0, .int .i64 0, .int .i64 0, .int .i64 0, .int .i64 0, .int .i64 0, .int .i64 0, .int .i64 0, .int .i64 0] 28)).frozen? ⟨w.heap.size, 4, none⟩ = false := by simp
  have q5 : (w.alloc (Obj.cells #[.int .i64 0, .int .i64 0, .int .i64 0, .int .i64 0, .int .i64 0, .int .i64 0, .int .i64 0, .int .i64 0, .int .i64 0] 28)).frozen? ⟨w.heap.size, 5, none⟩ = false := by simp
  have q6 : (w.alloc (Obj.cells #[.int .i64 0, .int .i64 0, .int .i64 0, .int .i64 0, .int .i64 0, .int .i64 0, .int .i64 0, .int .i64 0, .int .i64 0] 28)).frozen? ⟨w.heap.size, 6, none⟩ = false := by simp
  have q7 : (w.alloc (Obj.cells #[.int .i64 0, .int .i64 0, .int .i64 0, .int .i64 0, .int .i64 0, .int .i64 0, .int .i64 0, .int .i64 0, .int .i64 0] 28)).frozen? ⟨w.heap.size, 7, none⟩ = false := by simp
  have q8 : (w.alloc (Obj.cells #[.int .i64 0, .int .i64 0, .int .i64 0, .int .i64 0, .int .i64 0, .int .i64 0, .int .i64 0, .int .i64 0, .int .i64 0] 28)).frozen? ⟨w.heap.size, 8, none⟩ = false := by simp
  have hz : w.heap.size < (w.alloc (Obj.cells #[.int .i64 0, .int .i64 0, .int .i64 0, .int .i64 0, .int .i64 0, .int .i64 0, .int .i64 0, .int .i64 0, .int .i64 0] 28)).heap.size := by rw [size_alloc]; omega
  have l8 : ¬ ((n : Int) < 8) := by omega
  have hb0 := World.grownBy_alloc w (Obj.cells #[.int .i64 0, .int .i64 0, .int .i64 0, .int .i64 0, .int .i64 0, .int .i64 0, .int .i64 0, .int .i64 0, .int .i64 0] 28) none
  clear hc
  go_enter Try.func14, Try.ntmps14
  go_wp2_with fail
  generalize w.alloc (Obj.cells #[.int .i64 0, .int .i64 0, .int .i64 0, .int .i64 0, .int .i64 0, .int .i64 0, .int .i64 0, .int .i64 0, .int .i64 0] 28) = W0 at *
  refine (formOf_x b off n cap g _ hn hnc hg HC.out).mono ?_
  rintro e w1 ⟨rfl, hg1⟩
  clear HC
  have hA := World.grownBy_alloc w1 (Obj.cells #[.int .i64 (Rc.fo g).code, .int .i64 (Rc.fo g).a, .int .i64 (Rc.fo g).b, .int .i64 (Rc.fo g).c, .int .i64 (Rc.fo g).n] 44) none
  go_wp2_with (go_at_call 29; refine (unpack_x g _).mono ?_; rintro e w2 ⟨rfl, hg2⟩; have f0 := (World.grownBy_alloc w2 (Obj.cells #[.int .i64 (Rc.unpk (Rc.fo g)).op, .int .i64 (Rc.unpk (Rc.fo g)).a, .int .i64 (Rc.unpk (Rc.fo g)).b, .int .i64 (Rc.unpk (Rc.fo g)).c, .int .i64 (Rc.unpk (Rc.fo g)).k, .int .i64 (Rc.unpk (Rc.fo g)).sub, .int .i64 (Rc.unpk (Rc.fo g)).scale, .int .i64 (Rc.unpk (Rc.fo g)).imm, .int .i64 (Rc.unpk (Rc.fo g)).label] 28) none).cell (hg2.cell (a := ⟨w1.heap.size, 0, none⟩) (v := .int .i64 (Rc.fo g).code) (by simp) (by simp)) (by simp); have f1 := (World.grownBy_alloc w2 (Obj.cells #[.int .i64 (Rc.unpk (Rc.fo g)).op, .int .i64 (Rc.unpk (Rc.fo g)).a, .int .i64 (Rc.unpk (Rc.fo g)).b, .int .i64 (Rc.unpk (Rc.fo g)).c, .int .i64 (Rc.unpk (Rc.fo g)).k, .int .i64 (Rc.unpk (Rc.fo g)).sub, .int .i64 (Rc.unpk (Rc.fo g)).scale, .int .i64 (Rc.unpk (Rc.fo g)).imm, .int .i64 (Rc.unpk (Rc.fo g)).label] 28) none).cell (hg2.cell (a := ⟨w1.heap.size, 1, none⟩) (v := .int .i64 (Rc.fo g).a) (by simp) (by simp)) (by simp); have f2 := (World.grownBy_alloc w2 (Obj.cells #[.int .i64 (Rc.unpk (Rc.fo g)).op, .int .i64 (Rc.unpk (Rc.fo g)).a, .int .i64 (Rc.unpk (Rc.fo g)).b, .int .i64 (Rc.unpk (Rc.fo g)).c, .int .i64 (Rc.unpk (Rc.fo g)).k, .int .i64 (Rc.unpk (Rc.fo g)).sub, .int .i64 (Rc.unpk (Rc.fo g)).scale, .int .i64 (Rc.unpk (Rc.fo g)).imm, .int .i64 (Rc.unpk (Rc.fo g)).label] 28) none).cell (hg2.cell (a := ⟨w1.heap.size, 2, none⟩) (v := .int .i64 (Rc.fo g).b) (by simp) (by simp)) (by simp); have f3 := (World.grownBy_alloc w2 (Obj.cells #[.int .i64 (Rc.unpk (Rc.fo g)).op, .int .i64 (Rc.unpk (Rc.fo g)).a, .int .i64 (Rc.unpk (Rc.fo g)).b, .int .i64 (Rc.unpk (Rc.fo g)).c, .int .i64 (Rc.unpk (Rc.fo g)).k, .int .i64 (Rc.unpk (Rc.fo g)).sub, .int .i64 (Rc.unpk (Rc.fo g)).scale, .int .i64 (Rc.unpk (Rc.fo g)).imm, .int .i64 (Rc.unpk (Rc.fo g)).label] 28) none).cell (hg2.cell (a := ⟨w1.heap.size, 3, none⟩) (v := .int .i64 (Rc.fo g).c) (by simp) (by simp)) (by simp); have f4 := (World.grownBy_alloc w2 (Obj.cells #[.int .i64 (Rc.unpk (Rc.fo g)).op, .int .i64 (Rc.unpk (Rc.fo g)).a, .int .i64 (Rc.unpk (Rc.fo g)).b, .int .i64 (Rc.unpk (Rc.fo g)).c, .int .i64 (Rc.unpk (Rc.fo g)).k, .int .i64 (Rc.unpk (Rc.fo g)).sub, .int .i64 (Rc.unpk (Rc.fo g)).scale, .int .i64 (Rc.unpk (Rc.fo g)).imm, .int .i64 (Rc.unpk (Rc.fo g)).label] 28) none).cell (hg2.cell (a := ⟨w1.heap.size, 4, none⟩) (v := .int .i64 (Rc.fo g).n) (by simp) (by simp)) (by simp))
  refine (agree_x g hg _).mono ?_
  rw [ho]
  rintro e w3 ⟨rfl, hg3⟩
  have G : W0.grownBy w3 none := grown_trans (grown_trans (grown_trans (grown_trans hg1 hA) hg2) (World.grownBy_alloc _ _ _)) hg3
  have r0 := G.cell c0 (by simp)
  have s0 := (G.frozen_far ⟨w.heap.size, 0, none⟩ hz (by simp)).trans q0
  have r1 := G.cell c1 (by simp)
  have s1 := (G.frozen_far ⟨w.heap.size, 1, none⟩ hz (by simp)).trans q1
  have r2 := G.cell c2 (by simp)
  have s2 := (G.frozen_far ⟨w.heap.size, 2, none⟩ hz (by simp)).trans q2
  have r3 := G.cell c3 (by simp)
  have s3 := (G.frozen_far ⟨w.heap.size, 3, none⟩ hz (by simp)).trans q3
  have r4 := G.cell c4 (by simp)
  have s4 := (G.frozen_far ⟨w.heap.size, 4, none⟩ hz (by simp)).trans q4
  have r5 := G.cell c5 (by simp)
  have s5 := (G.frozen_far ⟨w.heap.size, 5, none⟩ hz (by simp)).trans q5
  have r6 := G.cell c6 (by simp)
  have s6 := (G.frozen_far ⟨w.heap.size, 6, none⟩ hz (by simp)).trans q6
  have r7 := G.cell c7 (by simp)
  have s7 := (G.frozen_far ⟨w.heap.size, 7, none⟩ hz (by simp)).trans q7
  have r8 := G.cell c8 (by simp)
  have s8 := (G.frozen_far ⟨w.heap.size, 8, none⟩ hz (by simp)).trans q8
  have HG : Hid (w.grownBy w3 none) := grown_trans hb0 G
  clear G hg1 hg2 hg3 hA hb0 hz f0 f1 f2 f3 f4 c0 q0 c1 q1 c2 q2 c3 q3 c4 q4 c5 q5 c6 q6 c7 q7 c8 q8
  go_wp2_with fail
  refine bodyPost_ret (by simp [results, Try.results14, go_sem, r0, r1, r2, r3, r4, r5, r6, r7, r8]; try rfl) rfl ?_
  refine ⟨rfl, ?_⟩
  repeat (refine gs ?_ _ _ (Nat.le_refl _))
  exact HG.out


set_option maxHeartbeats 8000000 in
theorem decode_ok (b off n cap : Nat) (g : Nat → Int) (w : World) (hn : 8 ≤ n) (hnc : n ≤ cap) (hg : Mm.Fit g) (hc : ∀ i, i < n → w.cell? ⟨b, off + i, none⟩ = some (.int .u8 (g i))) (ho : Rc.okB g = true) :
    Calls Try.prog 14 #[.slice (some ⟨b, off, none⟩) n cap] w fun e w' => e = .returned (.tuple #[inst (Rc.rd g), .int .i64 8, .int .i64 0]) ∧ w.grownBy w' none := by
  have HC : Hid (∀ i, i < n → (w.alloc (Obj.cells #[.int .i64 0, .int .i64 0, .int .i64 0, .int .i64 0, .int .i64 0, .int .i64 0, .int .i64 0, .int .i64 0, .int .i64 0] 28)).cell? ⟨b, off + i, none⟩ = some (.int .u8 (g i))) := fun i hi => (World.grownBy_alloc w (Obj.cells #[.int .i64 0, .int .i64 0, .int .i64 0, .int .i64 0, .int .i64 0, .int .i64 0, .int .i64 0, .int .i64 0, .int .i64 0] 28) none).cell (hc i hi) (by simp)
  have c0 : (w.alloc (Obj.cells #[.int .i64 0, .int .i64 0, .int .i64 0, .int .i64 0, .int .i64 0, .int .i64 0, .int .i64 0, .int .i64 0, .int .i64 0] 28)).cell? ⟨w.heap.size, 0, none⟩ = some (.int .i64 0) := by simp
  have c1 : (w.alloc (Obj.cells #[.int .i64 0, .int .i64 0, .int .i64 0, .int .i64 0, .int .i64 0, .int .i64 0, .int .i64 0, .int .i64 0, .int .i64 0] 28)).cell? ⟨w.heap.size, 1, none⟩ = some (.int .i64 0) := by simp
  have c2 : (w.alloc (Obj.cells #[.int .i64 0, .int .i64 0, .int .i64 0, .int .i64 0, .int .i64 0, .int .i64 0, .int .i64 0, .int .i64 0, .int .i64 0] 28)).cell? ⟨w.heap.size, 2, none⟩ = some (.int .i64 0) := by simp
  have c3 : (w.alloc (Obj.cells #[.int .i64 0, .int .i64 0, .int .i64 0, .int .i64 0, .int .i64 0, .int .i64 0, .int .i64 0, .int .i64 0, .int .i64 0] 28)).cell? ⟨w.heap.size, 3, none⟩ = some (.int .i64 0) := by simp
  have c4 : (w.alloc (Obj.cells #[.int .i64 0, .int .i64 0, .int .i64 0, .int .i64 0, .int .i64 0, .int .i64 0, .int .i64 0, .int .i64 0, .int .i64 0] 28)).cell? ⟨w.heap.size, 4, none⟩ = some (.int .i64 0) := by simp
  have c5 : (w.alloc (Obj.cells #[.int .i64 0, .int .i64 0, .int .i64 0, .int .i64 0, .int .i64 0, .int .i64 0, .int .i64 0, .int .i64 0, .int .i64 0] 28)).cell? ⟨w.heap.size, 5, none⟩ = some (.int .i64 0) := by simp
  have c6 : (w.alloc (Obj.cells #[.int .i64 0, .int .i64 0, .int .i64 0, .int .i64 0, .int .i64 0, .int .i64 0, .int .i64 0, .int .i64 0, .int .i64 0] 28)).cell? ⟨w.heap.size, 6, none⟩ = some (.int .i64 0) := by simp
  have c7 : (w.alloc (Obj.cells #[.int .i64 0, .int .i64 0, .int .i64 0, .int .i64 0, .int .i64 0, .int .i64 0, .int .i64 0, .int .i64 0, .int .i64 0] 28)).cell? ⟨w.heap.size, 7, none⟩ = some (.int .i64 0) := by simp
  have c8 : (w.alloc (Obj.cells #[.int .i64 0, .int .i64 0, .int .i64 0, .int .i64 0, .int .i64 0, .int .i64 0, .int .i64 0, .int .i64 0, .int .i64 0] 28)).cell? ⟨w.heap.size, 8, none⟩ = some (.int .i64 0) := by simp
  have q0 : (w.alloc (Obj.cells #[.int .i64 0, .int .i64 0, .int .i64 0, .int .i64 0, .int .i64 0, .int .i64 0, .int .i64 0, .int .i64 0, .int .i64 0] 28)).frozen? ⟨w.heap.size, 0, none⟩ = false := by simp
  have q1 : (w.alloc (Obj.cells #[.int .i64 0, .int .i64 0, .int .i64 0, .int .i64 0, .int .i64 0, .int .i64 0, .int .i64 0, .int .i64 0, .int .i64 0] 28)).frozen? ⟨w.heap.size, 1, none⟩ = false := by simp
  have q2 : (w.alloc (Obj.cells #[.int .i64 0, .int .i64 0, .int .i64 0, .int .i64 0, .int .i64 0, .int .i64 0, .int .i64 0, .int .i64 0, .int .i64 0] 28)).frozen? ⟨w.heap.size, 2, none⟩ = false := by simp
  have q3 : (w.alloc (Obj.cells #[.int .i64 0, .int .i64 0, .int .i64 0, .int .i64 0, .int .i64 0, .int .i64 0, .int .i64 0, .int .i64 0, .int .i64 0] 28)).frozen? ⟨w.heap.size, 3, none⟩ = false := by simp
  have q4 : (w.alloc (Obj.cells #[.int .i64 0, .int .i64 0, .int .i64 0, .int .i64 0, .int .i64 0, .int .i64 0, .int .i64 0, .int .i64 0, .int .i64 0] 28)).frozen? ⟨w.heap.size, 4, none⟩ = false := by simp
  have q5 : (w.alloc (Obj.cells #[.int .i64 0, .int .i64 0, .int .i64 0, .int .i64 0, .int .i64 0, .int .i64 0, .int .i64 0, .int .i64 0, .int .i64 0] 28)).frozen? ⟨w.heap.size, 5, none⟩ = false := by simp
  have q6 : (w.alloc (Obj.cells #[.int .i64 0, .int .i64 0, .int .i64 0, .int .i64 0, .int .i64 0, .int .i64 0, .int .i64 0, .int .i64 0, .int .i64 0] 28)).frozen? ⟨w.heap.size, 6, none⟩ = false := by simp
  have q7 : (w.alloc (Obj.cells #[.int .i64 0, .int .i64 0, .int .i64 0, .int .i64 0, .int .i64 0, .int .i64 0, .int .i64 0, .int .i64 0, .int .i64 0] 28)).frozen? ⟨w.heap.size, 7, none⟩ = false := by simp
  have q8 : (w.alloc (Obj.cells #[.int .i64 0, .int .i64 0, .int .i64 0, .int .i64 0, .int .i64 0, .int .i64 0, .int .i64 0, .int .i64 0, .int .i64 0] 28)).frozen? ⟨w.heap.size, 8, none⟩ = false := by simp
  have hz : w.heap.size < (w.alloc (Obj.cells #[.int .i64 0, .int .i64 0, .int .i64 0, .int .i64 0, .int .i64 0, .int .i64 0, .int .i64 0, .int .i64 0, .int .i64 0] 28)).heap.size := by rw [size_alloc]; omega
  have l8 : ¬ ((n : Int) < 8) := by omega
  have hb0 := World.grownBy_alloc w (Obj.cells #[.int .i64 0, .int .i64 0, .int .i64 0, .int .i64 0, .int .i64 0, .int .i64 0, .int .i64 0, .int .i64 0, .int .i64 0] 28) none
  clear hc
  go_enter Try.func14, Try.ntmps14
  go_wp2_with fail
  generalize w.alloc (Obj.cells #[.int .i64 0, .int .i64 0, .int .i64 0, .int .i64 0, .int .i64 0, .int .i64 0, .int .i64 0, .int .i64 0, .int .i64 0] 28) = W0 at *
  refine (formOf_x b off n cap g _ hn hnc hg HC.out).mono ?_
  rintro e w1 ⟨rfl, hg1⟩
  clear HC
  have hA := World.grownBy_alloc w1 (Obj.cells #[.int .i64 (Rc.fo g).code, .int .i64 (Rc.fo g).a, .int .i64 (Rc.fo g).b, .int .i64 (Rc.fo g).c, .int .i64 (Rc.fo g).n] 44) none
  go_wp2_with (go_at_call 29; refine (unpack_x g _).mono ?_; rintro e w2 ⟨rfl, hg2⟩; have f0 := (World.grownBy_alloc w2 (Obj.cells #[.int .i64 (Rc.unpk (Rc.fo g)).op, .int .i64 (Rc.unpk (Rc.fo g)).a, .int .i64 (Rc.unpk (Rc.fo g)).b, .int .i64 (Rc.unpk (Rc.fo g)).c, .int .i64 (Rc.unpk (Rc.fo g)).k, .int .i64 (Rc.unpk (Rc.fo g)).sub, .int .i64 (Rc.unpk (Rc.fo g)).scale, .int .i64 (Rc.unpk (Rc.fo g)).imm, .int .i64 (Rc.unpk (Rc.fo g)).label] 28) none).cell (hg2.cell (a := ⟨w1.heap.size, 0, none⟩) (v := .int .i64 (Rc.fo g).code) (by simp) (by simp)) (by simp); have f1 := (World.grownBy_alloc w2 (Obj.cells #[.int .i64 (Rc.unpk (Rc.fo g)).op, .int .i64 (Rc.unpk (Rc.fo g)).a, .int .i64 (Rc.unpk (Rc.fo g)).b, .int .i64 (Rc.unpk (Rc.fo g)).c, .int .i64 (Rc.unpk (Rc.fo g)).k, .int .i64 (Rc.unpk (Rc.fo g)).sub, .int .i64 (Rc.unpk (Rc.fo g)).scale, .int .i64 (Rc.unpk (Rc.fo g)).imm, .int .i64 (Rc.unpk (Rc.fo g)).label] 28) none).cell (hg2.cell (a := ⟨w1.heap.size, 1, none⟩) (v := .int .i64 (Rc.fo g).a) (by simp) (by simp)) (by simp); have f2 := (World.grownBy_alloc w2 (Obj.cells #[.int .i64 (Rc.unpk (Rc.fo g)).op, .int .i64 (Rc.unpk (Rc.fo g)).a, .int .i64 (Rc.unpk (Rc.fo g)).b, .int .i64 (Rc.unpk (Rc.fo g)).c, .int .i64 (Rc.unpk (Rc.fo g)).k, .int .i64 (Rc.unpk (Rc.fo g)).sub, .int .i64 (Rc.unpk (Rc.fo g)).scale, .int .i64 (Rc.unpk (Rc.fo g)).imm, .int .i64 (Rc.unpk (Rc.fo g)).label] 28) none).cell (hg2.cell (a := ⟨w1.heap.size, 2, none⟩) (v := .int .i64 (Rc.fo g).b) (by simp) (by simp)) (by simp); have f3 := (World.grownBy_alloc w2 (Obj.cells #[.int .i64 (Rc.unpk (Rc.fo g)).op, .int .i64 (Rc.unpk (Rc.fo g)).a, .int .i64 (Rc.unpk (Rc.fo g)).b, .int .i64 (Rc.unpk (Rc.fo g)).c, .int .i64 (Rc.unpk (Rc.fo g)).k, .int .i64 (Rc.unpk (Rc.fo g)).sub, .int .i64 (Rc.unpk (Rc.fo g)).scale, .int .i64 (Rc.unpk (Rc.fo g)).imm, .int .i64 (Rc.unpk (Rc.fo g)).label] 28) none).cell (hg2.cell (a := ⟨w1.heap.size, 3, none⟩) (v := .int .i64 (Rc.fo g).c) (by simp) (by simp)) (by simp); have f4 := (World.grownBy_alloc w2 (Obj.cells #[.int .i64 (Rc.unpk (Rc.fo g)).op, .int .i64 (Rc.unpk (Rc.fo g)).a, .int .i64 (Rc.unpk (Rc.fo g)).b, .int .i64 (Rc.unpk (Rc.fo g)).c, .int .i64 (Rc.unpk (Rc.fo g)).k, .int .i64 (Rc.unpk (Rc.fo g)).sub, .int .i64 (Rc.unpk (Rc.fo g)).scale, .int .i64 (Rc.unpk (Rc.fo g)).imm, .int .i64 (Rc.unpk (Rc.fo g)).label] 28) none).cell (hg2.cell (a := ⟨w1.heap.size, 4, none⟩) (v := .int .i64 (Rc.fo g).n) (by simp) (by simp)) (by simp))
  refine (agree_x g hg _).mono ?_
  rw [ho]
  rintro e w3 ⟨rfl, hg3⟩
  have G : W0.grownBy w3 none := grown_trans (grown_trans (grown_trans (grown_trans hg1 hA) hg2) (World.grownBy_alloc _ _ _)) hg3
  have r0 := G.cell c0 (by simp)
  have s0 := (G.frozen_far ⟨w.heap.size, 0, none⟩ hz (by simp)).trans q0
  have r1 := G.cell c1 (by simp)
  have s1 := (G.frozen_far ⟨w.heap.size, 1, none⟩ hz (by simp)).trans q1
  have r2 := G.cell c2 (by simp)
  have s2 := (G.frozen_far ⟨w.heap.size, 2, none⟩ hz (by simp)).trans q2
  have r3 := G.cell c3 (by simp)
  have s3 := (G.frozen_far ⟨w.heap.size, 3, none⟩ hz (by simp)).trans q3
  have r4 := G.cell c4 (by simp)
  have s4 := (G.frozen_far ⟨w.heap.size, 4, none⟩ hz (by simp)).trans q4
  have r5 := G.cell c5 (by simp)
  have s5 := (G.frozen_far ⟨w.heap.size, 5, none⟩ hz (by simp)).trans q5
  have r6 := G.cell c6 (by simp)
  have s6 := (G.frozen_far ⟨w.heap.size, 6, none⟩ hz (by simp)).trans q6
  have r7 := G.cell c7 (by simp)
  have s7 := (G.frozen_far ⟨w.heap.size, 7, none⟩ hz (by simp)).trans q7
  have r8 := G.cell c8 (by simp)
  have s8 := (G.frozen_far ⟨w.heap.size, 8, none⟩ hz (by simp)).trans q8
  have i0 : w3.cell? ⟨w2.heap.size, 0, none⟩ = some (.int .i64 (Rc.unpk (Rc.fo g)).op) := hg3.cell (by simp) (by simp)
  have i1 : w3.cell? ⟨w2.heap.size, 1, none⟩ = some (.int .i64 (Rc.unpk (Rc.fo g)).a) := hg3.cell (by simp) (by simp)
  have i2 : w3.cell? ⟨w2.heap.size, 2, none⟩ = some (.int .i64 (Rc.unpk (Rc.fo g)).b) := hg3.cell (by simp) (by simp)
  have i3 : w3.cell? ⟨w2.heap.size, 3, none⟩ = some (.int .i64 (Rc.unpk (Rc.fo g)).c) := hg3.cell (by simp) (by simp)
  have i4 : w3.cell? ⟨w2.heap.size, 4, none⟩ = some (.int .i64 (Rc.unpk (Rc.fo g)).k) := hg3.cell (by simp) (by simp)
  have i5 : w3.cell? ⟨w2.heap.size, 5, none⟩ = some (.int .i64 (Rc.unpk (Rc.fo g)).sub) := hg3.cell (by simp) (by simp)
  have i6 : w3.cell? ⟨w2.heap.size, 6, none⟩ = some (.int .i64 (Rc.unpk (Rc.fo g)).scale) := hg3.cell (by simp) (by simp)
  have i7 : w3.cell? ⟨w2.heap.size, 7, none⟩ = some (.int .i64 (Rc.unpk (Rc.fo g)).imm) := hg3.cell (by simp) (by simp)
  have i8 : w3.cell? ⟨w2.heap.size, 8, none⟩ = some (.int .i64 (Rc.unpk (Rc.fo g)).label) := hg3.cell (by simp) (by simp)
  have HG : Hid (w.grownBy w3 none) := grown_trans hb0 G
  clear G hg1 hg2 hg3 hA hb0 hz f0 f1 f2 f3 f4 c0 q0 c1 q1 c2 q2 c3 q3 c4 q4 c5 q5 c6 q6 c7 q7 c8 q8
  go_wp2_with fail
  refine bodyPost_ret (by simp [results, Try.results14, go_sem, r0, r1, r2, r3, r4, r5, r6, r7, r8]; try rfl) rfl ?_
  refine ⟨(by rw [← Rc.unpk_ok ho]; rfl), ?_⟩
  repeat (refine gs ?_ _ _ (Nat.le_refl _))
  exact HG.out

end Go.Proofs.Ytkpmhgkljedapaa
