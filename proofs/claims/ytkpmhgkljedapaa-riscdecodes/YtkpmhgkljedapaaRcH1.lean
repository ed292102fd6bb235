/- gantryref3.Decode: its contract, part 1. -/
import Derived.Test.YtkpmhgkljedapaaRcQ
import Derived.Test.YtkpmhgkljedapaaRcD
namespace Go.Proofs.Ytkpmhgkljedapaa
open Go.RowKit
set_option linter.unusedVariables false

set_option maxHeartbeats 8000000 in
theorem rdecode_1 (b off n cap : Nat) (g : Nat → Int) (w : World) (hn : 8 ≤ n) (hnc : n ≤ cap) (hg : Mm.Fit g) (hc : ∀ i, i < n → w.cell? ⟨b, off + i, none⟩ = some (.int .u8 (g i))) (hA : g 0 = 4 ∨ g 0 = 7 ∨ g 0 = 8) (hB : Rc.s32 (Mm.ld g 4 4) < 0 ∨ 65536 ≤ Rc.s32 (Mm.ld g 4 4)) :
    Calls Try.prog 15 #[.slice (some ⟨b, off, none⟩) n cap] w fun e w' => e = .returned (.tuple #[inst (Rc.dv g), .int .i64 (Rc.de g)]) ∧ w.grownBy w' none := by
  have HA : Hid (g 0 = 4 ∨ g 0 = 7 ∨ g 0 = 8) := hA
  have HB : Hid (Rc.s32 (Mm.ld g 4 4) < 0 ∨ 65536 ≤ Rc.s32 (Mm.ld g 4 4)) := hB
  clear hA hB
  have hi : ∀ j : Int, j < 8 → j < (n : Int) := fun j h => by omega
  have l0 := hi 0 (by decide)
  have l1 := hi 1 (by decide)
  have l2 := hi 2 (by decide)
  have l3 := hi 3 (by decide)
  have l4 := hi 4 (by decide)
  have l5 := hi 5 (by decide)
  have l6 := hi 6 (by decide)
  have l7 := hi 7 (by decide)
  have c0 : w.cell? ⟨b, off, none⟩ = some (.int .u8 (g 0)) := hc 0 (by omega)
  have c1 := hc 1 (by omega)
  have c2 := hc 2 (by omega)
  have c3 := hc 3 (by omega)
  have c4 := hc 4 (by omega)
  have c5 := hc 5 (by omega)
  have c6 := hc 6 (by omega)
  have c7 := hc 7 (by omega)
  have d0 : (w.alloc (Obj.cells #[.int .i64 0, .int .i64 0, .int .i64 0, .int .i64 0, .int .i64 0, .int .i64 0, .int .i64 0, .int .i64 0, .int .i64 0] 28)).cell? ⟨b, off, none⟩ = some (.int .u8 (g 0)) := (World.grownBy_alloc w (Obj.cells #[.int .i64 0, .int .i64 0, .int .i64 0, .int .i64 0, .int .i64 0, .int .i64 0, .int .i64 0, .int .i64 0, .int .i64 0] 28) none).cell c0 (by simp)
  have d1 : (w.alloc (Obj.cells #[.int .i64 0, .int .i64 0, .int .i64 0, .int .i64 0, .int .i64 0, .int .i64 0, .int .i64 0, .int .i64 0, .int .i64 0] 28)).cell? ⟨b, off + 1, none⟩ = some (.int .u8 (g 1)) := (World.grownBy_alloc w (Obj.cells #[.int .i64 0, .int .i64 0, .int .i64 0, .int .i64 0, .int .i64 0, .int .i64 0, .int .i64 0, .int .i64 0, .int .i64 0] 28) none).cell c1 (by simp)
  have d2 : (w.alloc (Obj.cells #[.int .i64 0, .int .i64 0, .int .i64 0, .int .i64 0, .int .i64 0, .int .i64 0, .int .i64 0, .int .i64 0, .int .i64 0] 28)).cell? ⟨b, off + 2, none⟩ = some (.int .u8 (g 2)) := (World.grownBy_alloc w (Obj.cells #[.int .i64 0, .int .i64 0, .int .i64 0, .int .i64 0, .int .i64 0, .int .i64 0, .int .i64 0, .int .i64 0, .int .i64 0] 28) none).cell c2 (by simp)
  have d3 : (w.alloc (Obj.cells #[.int .i64 0, .int .i64 0, .int .i64 0, .int .i64 0, .int .i64 0, .int .i64 0, .int .i64 0, .int .i64 0, .int .i64 0] 28)).cell? ⟨b, off + 3, none⟩ = some (.int .u8 (g 3)) := (World.grownBy_alloc w (Obj.cells #[.int .i64 0, .int .i64 0, .int .i64 0, .int .i64 0, .int .i64 0, .int .i64 0, .int .i64 0, .int .i64 0, .int .i64 0] 28) none).cell c3 (by simp)
  have d4 : (w.alloc (Obj.cells #[.int .i64 0, .int .i64 0, .int .i64 0, .int .i64 0, .int .i64 0, .int .i64 0, .int .i64 0, .int .i64 0, .int .i64 0] 28)).cell? ⟨b, off + 4, none⟩ = some (.int .u8 (g 4)) := (World.grownBy_alloc w (Obj.cells #[.int .i64 0, .int .i64 0, .int .i64 0, .int .i64 0, .int .i64 0, .int .i64 0, .int .i64 0, .int .i64 0, .int .i64 0] 28) none).cell c4 (by simp)
  have d5 : (w.alloc (Obj.cells #[.int .i64 0, .int .i64 0, .int .i64 0, .int .i64 0, .int .i64 0, .int .i64 0, .int .i64 0, .int .i64 0, .int .i64 0] 28)).cell? ⟨b, off + 5, none⟩ = some (.int .u8 (g 5)) := (World.grownBy_alloc w (Obj.cells #[.int .i64 0, .int .i64 0, .int .i64 0, .int .i64 0, .int .i64 0, .int .i64 0, .int .i64 0, .int .i64 0, .int .i64 0] 28) none).cell c5 (by simp)
  have d6 : (w.alloc (Obj.cells #[.int .i64 0, .int .i64 0, .int .i64 0, .int .i64 0, .int .i64 0, .int .i64 0, .int .i64 0, .int .i64 0, .int .i64 0] 28)).cell? ⟨b, off + 6, none⟩ = some (.int .u8 (g 6)) := (World.grownBy_alloc w (Obj.cells #[.int .i64 0, .int .i64 0, .int .i64 0, .int .i64 0, .int .i64 0, .int .i64 0, .int .i64 0, .int .i64 0, .int .i64 0] 28) none).cell c6 (by simp)
  have d7 : (w.alloc (Obj.cells #[.int .i64 0, .int .i64 0, .int .i64 0, .int .i64 0, .int .i64 0, .int .i64 0, .int .i64 0, .int .i64 0, .int .i64 0] 28)).cell? ⟨b, off + 7, none⟩ = some (.int .u8 (g 7)) := (World.grownBy_alloc w (Obj.cells #[.int .i64 0, .int .i64 0, .int .i64 0, .int .i64 0, .int .i64 0, .int .i64 0, .int .i64 0, .int .i64 0, .int .i64 0] 28) none).cell c7 (by simp)
  have f0 : ∀ m, (((w.alloc (Obj.cells #[.int .i64 0, .int .i64 0, .int .i64 0, .int .i64 0, .int .i64 0, .int .i64 0, .int .i64 0, .int .i64 0, .int .i64 0] 28)).drewN m).alloc (Obj.cells #[.int .i64 0, .int .i64 0, .int .i64 0, .int .i64 0, .int .i64 0, .int .i64 0, .int .i64 0, .int .i64 0, .int .i64 0] 28)).cell? ⟨b, off, none⟩ = some (.int .u8 (g 0)) := fun m => (World.grownBy_alloc ((w.alloc (Obj.cells #[.int .i64 0, .int .i64 0, .int .i64 0, .int .i64 0, .int .i64 0, .int .i64 0, .int .i64 0, .int .i64 0, .int .i64 0] 28)).drewN m) (Obj.cells #[.int .i64 0, .int .i64 0, .int .i64 0, .int .i64 0, .int .i64 0, .int .i64 0, .int .i64 0, .int .i64 0, .int .i64 0] 28) none).cell d0 (by simp)
  have f1 : ∀ m, (((w.alloc (Obj.cells #[.int .i64 0, .int .i64 0, .int .i64 0, .int .i64 0, .int .i64 0, .int .i64 0, .int .i64 0, .int .i64 0, .int .i64 0] 28)).drewN m).alloc (Obj.cells #[.int .i64 0, .int .i64 0, .int .i64 0, .int .i64 0, .int .i64 0, .int .i64 0, .int .i64 0, .int .i64 0, .int .i64 0] 28)).cell? ⟨b, off + 1, none⟩ = some (.int .u8 (g 1)) := fun m => (World.grownBy_alloc ((w.alloc (Obj.cells #[.int .i64 0, .int .i64 0, .int .i64 0, .int .i64 0, .int .i64 0, .int .i64 0, .int .i64 0, .int .i64 0, .int .i64 0] 28)).drewN m) (Obj.cells #[.int .i64 0, .int .i64 0, .int .i64 0, .int .i64 0, .int .i64 0, .int .i64 0, .int .i64 0, .int .i64 0, .int .i64 0] 28) none).cell d1 (by simp)
  have f2 : ∀ m, (((w.alloc (Obj.cells #[.int .i64 0, .int .i64 0, .int .i64 0, .int .i64 0, .int .i64 0, .int .i64 0, .int .i64 0, .int .i64 0, .int .i64 0] 28)).drewN m).alloc (Obj.cells #[.int .i64 0, .int .i64 0, .int .i64 0, .int .i64 0, .int .i64 0, .int .i64 0, .int .i64 0, .int .i64 0, .int .i64 0] 28)).cell? ⟨b, off + 2, none⟩ = some (.int .u8 (g 2)) := fun m => (World.grownBy_alloc ((w.alloc (Obj.cells #[.int .i64 0, .int .i64 0, .int .i64 0, .int .i64 0, .int .i64 0, .int .i64 0, .int .i64 0, .int .i64 0, .int .i64 0] 28)).drewN m) (Obj.cells #[.int .i64 0, .int .i64 0, .int .i64 0, .int .i64 0, .int .i64 0, .int .i64 0, .int .i64 0, .int .i64 0, .int .i64 0] 28) none).cell d2 (by simp)
  have f3 : ∀ m, (((w.alloc (Obj.cells #[.int .i64 0, .int .i64 0, .int .i64 0, .int .i64 0, .int .i64 0, .int .i64 0, .int .i64 0, .int .i64 0, .int .i64 0] 28)).drewN m).alloc (Obj.cells #[.int .i64 0, .int .i64 0, .int .i64 0, .int .i64 0, .int .i64 0, .int .i64 0, .int .i64 0, .int .i64 0, .int .i64 0] 28)).cell? ⟨b, off + 3, none⟩ = some (.int .u8 (g 3)) := fun m => (World.grownBy_alloc ((w.alloc (Obj.cells #[.int .i64 0, .int .i64 0, .int .i64 0, .int .i64 0, .int .i64 0, .int .i64 0, .int .i64 0, .int .i64 0, .int .i64 0] 28)).drewN m) (Obj.cells #[.int .i64 0, .int .i64 0, .int .i64 0, .int .i64 0, .int .i64 0, .int .i64 0, .int .i64 0, .int .i64 0, .int .i64 0] 28) none).cell d3 (by simp)
  have e0 : wrap64 (g 0) = g 0 := wrap64_byte (hg 0).1 (hg 0).2
  have e1 : wrap64 (g 1) = g 1 := wrap64_byte (hg 1).1 (hg 1).2
  have e2 : wrap64 (g 2) = g 2 := wrap64_byte (hg 2).1 (hg 2).2
  have e3 : wrap64 (g 3) = g 3 := wrap64_byte (hg 3).1 (hg 3).2
  have e4 := wrap_s32 (Mm.ld g 4 4)
  have l8 : ¬ ((n : Int) < 8) := by omega
  clear hi hc
  go_enter Try.func15, Try.ntmps15
  go_wp2_with fail
  go_quiet (fail)
  rw [Rc.u32_ld hg]
  go_wp2_with fail
  go_region
  clear f0 f1 f2 f3 d0 d1 d2 d3 d4 d5 d6 d7 l0 l1 l2 l3 l4 l5 l6 l7 e0 e1 e2 e3 e4 l8
  clear c0 c1 c2 c3 c4 c5 c6 c7
  have I2 := InstAt.new ((w.alloc (Obj.cells #[.int .i64 0, .int .i64 0, .int .i64 0, .int .i64 0, .int .i64 0, .int .i64 0, .int .i64 0, .int .i64 0, .int .i64 0] 28)).drewN (nq + 1)) ⟨g 0, g 1, g 2, g 3, 0, 0, 0, Rc.s32 (Mm.ld g 4 4), 0⟩
  have R2 := ((InstAt.new w zeroI).drewN (nq + 1)).kept (World.grownBy_alloc _ (Obj.cells #[.int .i64 (g 0), .int .i64 (g 1), .int .i64 (g 2), .int .i64 (g 3), .int .i64 0, .int .i64 0, .int .i64 0, .int .i64 (Rc.s32 (Mm.ld g 4 4)), .int .i64 0] 28) none) (by simp)
  have hsz : ((w.alloc (Obj.cells #[.int .i64 0, .int .i64 0, .int .i64 0, .int .i64 0, .int .i64 0, .int .i64 0, .int .i64 0, .int .i64 0, .int .i64 0] 28)).drewN (nq + 1)).heap.size = w.heap.size + 1 := size_alloc w _
  rw [hsz] at I2
  have HG : Hid (w.grownBy (((w.alloc (Obj.cells #[.int .i64 0, .int .i64 0, .int .i64 0, .int .i64 0, .int .i64 0, .int .i64 0, .int .i64 0, .int .i64 0, .int .i64 0] 28)).drewN (nq + 1)).alloc (Obj.cells #[.int .i64 (g 0), .int .i64 (g 1), .int .i64 (g 2), .int .i64 (g 3), .int .i64 0, .int .i64 0, .int .i64 0, .int .i64 (Rc.s32 (Mm.ld g 4 4)), .int .i64 0] 28)) none) := ga (gn (World.grownBy_alloc _ _ _) _) _
  have I2' : InstAt (((w.alloc (Obj.cells #[.int .i64 0, .int .i64 0, .int .i64 0, .int .i64 0, .int .i64 0, .int .i64 0, .int .i64 0, .int .i64 0, .int .i64 0] 28)).drewN (nq + 1)).alloc (Obj.cells #[.int .i64 (g 0), .int .i64 (g 1), .int .i64 (g 2), .int .i64 (g 3), .int .i64 0, .int .i64 0, .int .i64 0, .int .i64 (Rc.s32 (Mm.ld g 4 4)), .int .i64 0] 28)) (w.heap.size + 1) ⟨g 0, g 1, g 2, g 3, 0, 0, 0, Rc.s32 (Mm.ld g 4 4), 0⟩ := I2
  have R2' : InstAt (((w.alloc (Obj.cells #[.int .i64 0, .int .i64 0, .int .i64 0, .int .i64 0, .int .i64 0, .int .i64 0, .int .i64 0, .int .i64 0, .int .i64 0] 28)).drewN (nq + 1)).alloc (Obj.cells #[.int .i64 (g 0), .int .i64 (g 1), .int .i64 (g 2), .int .i64 (g 3), .int .i64 0, .int .i64 0, .int .i64 0, .int .i64 (Rc.s32 (Mm.ld g 4 4)), .int .i64 0] 28)) w.heap.size zeroI := R2
  clear I2 R2 hsz
  generalize ((w.alloc (Obj.cells #[.int .i64 0, .int .i64 0, .int .i64 0, .int .i64 0, .int .i64 0, .int .i64 0, .int .i64 0, .int .i64 0, .int .i64 0] 28)).drewN (nq + 1)).alloc (Obj.cells #[.int .i64 (g 0), .int .i64 (g 1), .int .i64 (g 2), .int .i64 (g 3), .int .i64 0, .int .i64 0, .int .i64 0, .int .i64 (Rc.s32 (Mm.ld g 4 4)), .int .i64 0] 28) = W2 at *
  have JI : Hid (InstAt W2 (w.heap.size + 1) ⟨g 0, g 1, g 2, g 3, 0, 0, 0, Rc.s32 (Mm.ld g 4 4), 0⟩) := I2'
  have JR : Hid (InstAt W2 w.heap.size zeroI) := R2'
  clear I2' R2'
  have HW1 : Hid ((g 0 = 4 ∨ g 0 = 7 ∨ g 0 = 8) → (Rc.s32 (Mm.ld g 4 4) < 0 ∨ 65536 ≤ Rc.s32 (Mm.ld g 4 4)) → Rc.okB g = false) := Rc.ok_wide
  have HW2 : Hid (0 ≤ Rc.s32 (Mm.ld g 4 4) ∧ Rc.s32 (Mm.ld g 4 4) < 65536 → Rc.okB g = Rc.mayB (Rc.rd g)) := Rc.ok_in
  have HW3 : Hid (¬ (g 0 = 4 ∨ g 0 = 7 ∨ g 0 = 8) → Rc.okB g = Rc.mayB (Rc.rd g)) := Rc.ok_other
  have HR1 : Hid ((g 0 = 4 ∨ g 0 = 7 ∨ g 0 = 8) → Rc.rd g = ⟨g 0, g 1, g 2, g 3, Rc.s32 (Mm.ld g 4 4) % 256, Rc.s32 (Mm.ld g 4 4) / 256, 0, 0, 0⟩) := Rc.rd_1
  have HR2 : Hid ((g 0 = 11 ∨ g 0 = 13) → Rc.rd g = ⟨g 0, g 1, g 2, 0, g 3, 0, 0, Rc.s32 (Mm.ld g 4 4), 0⟩) := Rc.rd_2
  have HR3 : Hid (¬ (g 0 = 4 ∨ g 0 = 7 ∨ g 0 = 8) → ¬ (g 0 = 11 ∨ g 0 = 13) → Rc.rd g = ⟨g 0, g 1, g 2, g 3, 0, 0, 0, Rc.s32 (Mm.ld g 4 4), 0⟩) := Rc.rd_3
  have HRG : Hid (-2147483648 ≤ Rc.s32 (Mm.ld g 4 4) ∧ Rc.s32 (Mm.ld g 4 4) < 2147483648) := Rc.s32_rng _
  have nlo := HRG.out.1
  have nhi := HRG.out.2
  generalize Rc.s32 (Mm.ld g 4 4) = N at *
  generalize Mm.ld g 4 4 = L at *
  generalize g 0 = x0 at *
  generalize g 1 = x1 at *
  generalize g 2 = x2 at *
  generalize g 3 = x3 at *
  obtain ⟨c0, c1, c2, c3, c4, c5, c6, c7, c8, cz⟩ := JI.out
  obtain ⟨r0, r1, r2, r3, r4, r5, r6, r7, r8, rz⟩ := JR.out
  dsimp only [zeroI] at c0 c1 c2 c3 c4 c5 c6 c7 c8 r0 r1 r2 r3 r4 r5 r6 r7 r8
  have hA := HA.out
  have hB := HB.out
  have HK : Hid (Rc.okB g = false) := HW1.out hA hB
  rcases hA with rfl | rfl | rfl
  all_goals
    rcases hB with hB | hB
    all_goals
      go_wp2_with fail
      refine bodyPost_ret (by simp [results, Try.results15, go_sem, r0, r1, r2, r3, r4, r5, r6, r7, r8]; try rfl) rfl ?_
      refine ⟨by rw [Rc.dv_no HK.out, Rc.de_no HK.out]; rfl, ?_⟩
      repeat (refine gs ?_ _ _ (by omega))
      exact HG.out

end Go.Proofs.Ytkpmhgkljedapaa
