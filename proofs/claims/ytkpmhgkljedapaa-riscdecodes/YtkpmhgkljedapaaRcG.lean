/- risc.formOf: its contract. -/
import Derived.Test.YtkpmhgkljedapaaRcF
import Derived.Test.YtkpmhgkljedapaaRcT
namespace Go.Proofs.Ytkpmhgkljedapaa
open Go.RowKit
set_option linter.unusedVariables false

namespace Rc
def fo (g : Nat → Int) : FmV := ⟨g 0, g 1, g 2, g 3, s32 (Mm.ld g 4 4)⟩
theorem s32_rng (u : Int) : -2147483648 ≤ s32 u ∧ s32 u < 2147483648 := by unfold s32; omega
theorem u32_ld {g : Nat → Int} (hg : Mm.Fit g) : bits .or .u32 (bits .or .u32 (bits .or .u32 (g 4 % 4294967296) (g 5 % 4294967296 * 256 % 4294967296)) (g 6 % 4294967296 * 65536 % 4294967296)) (g 7 % 4294967296 * 16777216 % 4294967296) = Mm.ld g 4 4 := by
  have h4 := hg 4
  have h5 := hg 5
  have h6 := hg 6
  have h7 := hg 7
  have e : Mm.ld g 4 4 = g 4 + g 5 * 2 ^ 8 + g 6 * 2 ^ 16 + g 7 * 2 ^ 24 := by
    show 0 + g 4 * 1 + g 5 * 256 + g 6 * 65536 + g 7 * 16777216 = _
    omega
  rw [e, show g 4 % 4294967296 = g 4 by omega, show g 5 % 4294967296 * 256 % 4294967296 = g 5 * 2 ^ 8 by omega, show g 6 % 4294967296 * 65536 % 4294967296 = g 6 * 2 ^ 16 by omega, show g 7 % 4294967296 * 16777216 % 4294967296 = g 7 * 2 ^ 24 by omega]
  have b : ((2 : Int) ^ IntKind.u32.bits) = 4294967296 := rfl
  have o1 : bits .or .u32 (g 4) (g 5 * 2 ^ 8) = g 4 + g 5 * 2 ^ 8 := Mm.or_high rfl (by omega) (by omega) (by omega) (by omega)
  have o2 : bits .or .u32 (g 4 + g 5 * 2 ^ 8) (g 6 * 2 ^ 16) = g 4 + g 5 * 2 ^ 8 + g 6 * 2 ^ 16 := Mm.or_high rfl (by omega) (by omega) (by omega) (by omega)
  have o3 : bits .or .u32 (g 4 + g 5 * 2 ^ 8 + g 6 * 2 ^ 16) (g 7 * 2 ^ 24) = g 4 + g 5 * 2 ^ 8 + g 6 * 2 ^ 16 + g 7 * 2 ^ 24 := Mm.or_high rfl (by omega) (by omega) (by omega) (by omega)
  rw [o1, o2, o3]
end Rc

theorem wrap64_byte {x : Int} (h1 : 0 ≤ x) (h2 : x < 256) : wrap64 x = x := by unfold wrap64; omega
theorem wrap_s32 (x : Int) : wrap64 (wrap32 x) = Rc.s32 x := by unfold wrap64 wrap32 Rc.s32; omega

set_option maxHeartbeats 8000000 in
theorem formOf_any (b off n cap : Nat) (g : Nat → Int) (w : World) (hn : 8 ≤ n) (hnc : n ≤ cap) (hg : Mm.Fit g) (hc : ∀ i, i < n → w.cell? ⟨b, off + i, none⟩ = some (.int .u8 (g i))) :
    Calls Try.prog 28 #[.slice (some ⟨b, off, none⟩) n cap] w fun e w' => e = .returned (formv (Rc.fo g)) ∧ w.grownBy w' none := by
  have hi : ∀ j : Int, j < 8 → j < (n : Int) := fun j h => by omega
  have l0 := hi 0 (by decide)
  have l1 := hi 1 (by decide)
  have l2 := hi 2 (by decide)
  have l3 := hi 3 (by decide)
  have l4 := hi 4 (by decide)
  have l5 := hi 5 (by decide)
  have l6 := hi 6 (by decide)
  have l7 := hi 7 (by decide)
  have c0 : w.cell? ⟨b, off, none⟩ = some (.int .u8 (g 0)) := hc 0 (by omega)
  have c1 := hc 1 (by omega)
  have c2 := hc 2 (by omega)
  have c3 := hc 3 (by omega)
  have c4 := hc 4 (by omega)
  have c5 := hc 5 (by omega)
  have c6 := hc 6 (by omega)
  have c7 := hc 7 (by omega)
  have d0 : (w.alloc (Obj.cells #[.int .i64 0, .int .i64 0, .int .i64 0, .int .i64 0, .int .i64 0] 44)).cell? ⟨b, off, none⟩ = some (.int .u8 (g 0)) := (World.grownBy_alloc w (Obj.cells #[.int .i64 0, .int .i64 0, .int .i64 0, .int .i64 0, .int .i64 0] 44) none).cell c0 (by simp)
  have d1 : (w.alloc (Obj.cells #[.int .i64 0, .int .i64 0, .int .i64 0, .int .i64 0, .int .i64 0] 44)).cell? ⟨b, off + 1, none⟩ = some (.int .u8 (g 1)) := (World.grownBy_alloc w (Obj.cells #[.int .i64 0, .int .i64 0, .int .i64 0, .int .i64 0, .int .i64 0] 44) none).cell c1 (by simp)
  have d2 : (w.alloc (Obj.cells #[.int .i64 0, .int .i64 0, .int .i64 0, .int .i64 0, .int .i64 0] 44)).cell? ⟨b, off + 2, none⟩ = some (.int .u8 (g 2)) := (World.grownBy_alloc w (Obj.cells #[.int .i64 0, .int .i64 0, .int .i64 0, .int .i64 0, .int .i64 0] 44) none).cell c2 (by simp)
  have d3 : (w.alloc (Obj.cells #[.int .i64 0, .int .i64 0, .int .i64 0, .int .i64 0, .int .i64 0] 44)).cell? ⟨b, off + 3, none⟩ = some (.int .u8 (g 3)) := (World.grownBy_alloc w (Obj.cells #[.int .i64 0, .int .i64 0, .int .i64 0, .int .i64 0, .int .i64 0] 44) none).cell c3 (by simp)
  have d4 : (w.alloc (Obj.cells #[.int .i64 0, .int .i64 0, .int .i64 0, .int .i64 0, .int .i64 0] 44)).cell? ⟨b, off + 4, none⟩ = some (.int .u8 (g 4)) := (World.grownBy_alloc w (Obj.cells #[.int .i64 0, .int .i64 0, .int .i64 0, .int .i64 0, .int .i64 0] 44) none).cell c4 (by simp)
  have d5 : (w.alloc (Obj.cells #[.int .i64 0, .int .i64 0, .int .i64 0, .int .i64 0, .int .i64 0] 44)).cell? ⟨b, off + 5, none⟩ = some (.int .u8 (g 5)) := (World.grownBy_alloc w (Obj.cells #[.int .i64 0, .int .i64 0, .int .i64 0, .int .i64 0, .int .i64 0] 44) none).cell c5 (by simp)
  have d6 : (w.alloc (Obj.cells #[.int .i64 0, .int .i64 0, .int .i64 0, .int .i64 0, .int .i64 0] 44)).cell? ⟨b, off + 6, none⟩ = some (.int .u8 (g 6)) := (World.grownBy_alloc w (Obj.cells #[.int .i64 0, .int .i64 0, .int .i64 0, .int .i64 0, .int .i64 0] 44) none).cell c6 (by simp)
  have d7 : (w.alloc (Obj.cells #[.int .i64 0, .int .i64 0, .int .i64 0, .int .i64 0, .int .i64 0] 44)).cell? ⟨b, off + 7, none⟩ = some (.int .u8 (g 7)) := (World.grownBy_alloc w (Obj.cells #[.int .i64 0, .int .i64 0, .int .i64 0, .int .i64 0, .int .i64 0] 44) none).cell c7 (by simp)
  clear hi hc
  go_enter Try.func28, Try.ntmps28
  go_wp2_with fail
  go_quiet (fail)
  rw [Rc.u32_ld hg]
  go_wp2_with fail
  refine tail_quiet 20 (by kernel_rfl) (by kernel_rfl) ?_
  simp only [List.take_succ_cons, List.take_zero, List.drop_succ_cons, List.drop_zero]
  repeat (go_big_quiet_step (fail))
  refine wpQuiet_nil ?_
  go_wp2
  go_returns
  obtain ⟨g0, g0'⟩ := hg 0
  obtain ⟨g1, g1'⟩ := hg 1
  obtain ⟨g2, g2'⟩ := hg 2
  obtain ⟨g3, g3'⟩ := hg 3
  refine ⟨?_, ?_⟩
  · unfold formv Rc.fo
    dsimp only
    rw [wrap64_byte g0 g0', wrap64_byte g1 g1', wrap64_byte g2 g2', wrap64_byte g3 g3', wrap_s32]
  · exact grown_two (grown_drewN (World.grownBy_alloc _ _ _) _) (grown_trans (grown_trans (grown_trans (grown_trans (grown_setCell _ _ _ _) (grown_setCell _ _ _ _)) (grown_setCell _ _ _ _)) (grown_setCell _ _ _ _)) (grown_setCell _ _ _ _)) (Nat.le_refl _)

end Go.Proofs.Ytkpmhgkljedapaa
