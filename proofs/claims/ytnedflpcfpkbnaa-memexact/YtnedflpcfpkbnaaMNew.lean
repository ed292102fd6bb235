/- mem.New, Size and the page's own New, May: contracts. -/
import Derived.Test.YtnedflpcfpkbnaaMRoom
namespace Go.Proofs.Ytnedflpcfpkbnaa
open Go.RowKit
set_option linter.unusedVariables false

abbrev IsR := IsMem 44

theorem info_u8 : (Try.prog.info? 5).map (fun i => (i.zero, i.size, i.bytes)) = some (some (.int .u8 0), 1, 1) := by kernel_rfl

theorem born (t : TypeId) (w : World) (S : Nat) : IsMem t ((w.alloc (.cells (madeCells #[.int .u8 0] S) 5)).alloc (.cells #[.slice (some ⟨w.heap.size, 0, none⟩) S S] t)) (w.heap.size + 1) w.heap.size S (fun _ => 0) ∧
    w.grownBy ((w.alloc (.cells (madeCells #[.int .u8 0] S) 5)).alloc (.cells #[.slice (some ⟨w.heap.size, 0, none⟩) S S] t)) none := by
  refine ⟨⟨?_, (World.rowIs_made w _ S _).alloc _, fun _ => by omega⟩, grown_trans (World.grownBy_alloc _ _ _) (World.grownBy_alloc _ _ _)⟩
  have := World.rowIs_alloc (w.alloc (.cells (madeCells #[.int .u8 0] S) 5)) #[.slice (some ⟨w.heap.size, 0, none⟩) S S] t (fun _ => .slice (some ⟨w.heap.size, 0, none⟩) S S)
    (fun i hi => by simp at hi; subst hi; rfl)
  simpa using this

set_option maxRecDepth 40000 in
set_option maxHeartbeats 400000 in
theorem new_in (S : Nat) (w : World) (h1 : (8192 : Int) ≤ S) (h2 : (S : Int) ≤ 1048576) :
    Calls Try.prog 5 #[.int .i64 S] w fun e w' => e = .returned (.tuple #[.pointer (some ⟨w.heap.size + 1, 0, none⟩), .int .i64 0]) ∧ IsM w' (w.heap.size + 1) w.heap.size S (fun _ => 0) ∧ w.grownBy w' none := by
  have hmk := run_make_row' (P := Try.prog) 36 5 _ _ Try.underlying36 info_u8 rfl .i64 .i64 S (by omega) (by omega)
  have HB : Hid _ := born 54 w S
  go_enter Try.func5, Try.ntmps5
  go_wp2
  go_ret2
  exact ⟨rfl, HB.out⟩

set_option maxHeartbeats 400000 in
theorem new_out (s : Int) (w : World) (h : s < 8192 ∨ 1048576 < s) :
    Calls Try.prog 5 #[.int .i64 s] w fun e w' => e = .returned (.tuple #[.pointer none, .int .i64 20]) ∧ w' = w := by
  go_enter Try.func5, Try.ntmps5
  go_wp2
  all_goals (go_ret2; exact ⟨rfl, rfl⟩)

set_option maxHeartbeats 400000 in
theorem size_any (B D S : Nat) (m : Nat → Int) (w : World) (hm : IsM w B D S m) :
    Calls Try.prog 9 #[.pointer (some ⟨B, 0, none⟩)] w fun e w' => e = .returned (.int .i64 S) ∧ w' = w := by
  have c := hm.cell
  go_enter Try.func9, Try.ntmps9
  go_wp2
  go_ret
  exact ⟨rfl, rfl⟩

set_option maxHeartbeats 400000 in
theorem rnew_any (S : Nat) (w : World) (h2 : (S : Int) ≤ 1048576) :
    Calls Try.prog 10 #[.int .i64 S] w fun e w' => e = .returned (.pointer (some ⟨w.heap.size + 1, 0, none⟩)) ∧ IsR w' (w.heap.size + 1) w.heap.size S (fun _ => 0) ∧ w.grownBy w' none := by
  have hmk := run_make_row' (P := Try.prog) 36 5 _ _ Try.underlying36 info_u8 rfl .i64 .i64 S (by omega) (by omega)
  have HB : Hid _ := born 44 w S
  go_enter Try.func10, Try.ntmps10
  go_wp2
  go_ret
  exact ⟨rfl, HB.out⟩

set_option maxHeartbeats 400000 in
theorem may_any (s : Int) (w : World) :
    Calls Try.prog 6 #[.int .i64 s] w fun e w' => e = .returned (.bool (decide (8192 ≤ s) && decide (s ≤ 1048576))) ∧ w' = w := by
  go_enter Try.func6, Try.ntmps6
  go_wp2
  all_goals (go_ret; refine ⟨ret_bool ?_, rfl⟩; first | rfl | (rw [Bool.eq_iff_iff]; simp at *; omega))

end Go.Proofs.Ytnedflpcfpkbnaa
