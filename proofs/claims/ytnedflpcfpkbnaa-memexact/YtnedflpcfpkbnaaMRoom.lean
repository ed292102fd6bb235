/- mem.pick, mem.lay, (*Mem).room, New, Size: contracts. -/
import Derived.Test.YtnedflpcfpkbnaaMWrite
import Derived.OwnWalk
namespace Go.Proofs.Ytnedflpcfpkbnaa
open Go.RowKit
set_option linter.unusedVariables false

set_option maxHeartbeats 400000 in
theorem pick_any (b off n cap : Nat) (g : Nat → Int) (w : World) (hn : n = 1 ∨ n = 2 ∨ n = 4 ∨ n = 8) (hnc : n ≤ cap) (hg : Mm.Fit g) (hc : ∀ i, i < n → w.cell? ⟨b, off + i, none⟩ = some (.int .u8 (g i))) :
    Calls Try.prog 34 #[.slice (some ⟨b, off, none⟩) n cap] w fun e w' => e = .returned (.int .u64 (Mm.ld g 0 n)) ∧ w' = w := by
  have HC : Hid (∀ i, i < n → w.cell? ⟨b, off + i, none⟩ = some (.int .u8 (g i))) := hc
  clear hc
  have r := Mm.ld_rng hg 0 n
  obtain ⟨r1, r2⟩ := r
  rcases hn with rfl | rfl | rfl | rfl
  all_goals
    generalize hz : Mm.ld g 0 _ = z at *
    have HZ : Hid (Mm.ld g 0 _ = z) := hz
    clear hz
    simp only [Int.reducePow] at r2
    go_enter Try.func34, Try.ntmps34
    go_wp2_with (first
      | (go_at_call 41; refine (read8_any b off _ cap g _ (by decide) (by assumption) (by assumption) HC.out).mono ?_; rw [HZ.out]; rintro e w' ⟨rfl, rfl⟩)
      | (go_at_call 42; refine (read16_any b off _ cap g _ (by decide) (by assumption) (by assumption) HC.out).mono ?_; rw [HZ.out]; rintro e w' ⟨rfl, rfl⟩)
      | (go_at_call 43; refine (read32_any b off _ cap g _ (by decide) (by assumption) (by assumption) HC.out).mono ?_; rw [HZ.out]; rintro e w' ⟨rfl, rfl⟩)
      | (go_at_call 44; refine (read64_any b off _ cap g _ (by decide) (by assumption) (by assumption) HC.out).mono ?_; rw [HZ.out]; rintro e w' ⟨rfl, rfl⟩))
    go_ret
    exact ⟨rfl, rfl⟩

theorem lay_eq {w' : World} {D S off n N : Nat} {t : TypeId} {m : Nat → Int} {x : Int} (h : w'.rowIs D t S (fun i => .int .u8 (Mm.pt m off n (Mm.by8 (x % 256 ^ N)) i))) (hn : n ≤ N) :
    w'.rowIs D t S (fun i => .int .u8 (Mm.pt m off n (Mm.by8 x) i)) := by
  rw [Mm.pt_congr (g' := Mm.by8 x) (fun i hi => Mm.by8_mod x i N (by omega))] at h
  exact h

set_option maxHeartbeats 400000 in
theorem lay_any (D S off n cap : Nat) (m : Nat → Int) (x : Int) (w : World) (hn : n = 1 ∨ n = 2 ∨ n = 4 ∨ n = 8) (x1 : 0 ≤ x) (x2 : x < 18446744073709551616) (hnc : n ≤ cap) (hS : off + n ≤ S) (hr : w.rowIs D 5 S (fun i => .int .u8 (m i))) :
    Calls Try.prog 32 #[.slice (some ⟨D, off, none⟩) n cap, .int .u64 x] w fun e w' => e = .returned (.tuple #[]) ∧ w'.rowIs D 5 S (fun i => .int .u8 (Mm.pt m off n (Mm.by8 x) i)) ∧ w.grownBy w' (some D) := by
  rcases hn with rfl | rfl | rfl | rfl
  · have y1 : 0 ≤ x % 256 := by omega
    have y2 : x % 256 < 256 := by omega
    have L := fun w' => @lay_eq w' D S off 1 1 5 m x
    have HX : Hid (x % 256 ^ 1 = x % 256) := rfl
    go_enter Try.func32, Try.ntmps32
    go_wp2_with (go_at_call 36; refine (write8_any D S off _ cap m _ _ (by first | assumption | omega) (by first | assumption | omega) (by decide) (by assumption) (by assumption) (by assumption)).mono ?_; rintro e w' ⟨rfl, hr', hg'⟩)
    go_end0
    exact ⟨rfl, L _ (by rw [HX.out]; exact hr') (by decide), hg'⟩
  · have y1 : 0 ≤ x % 65536 := by omega
    have y2 : x % 65536 < 65536 := by omega
    have L := fun w' => @lay_eq w' D S off 2 2 5 m x
    have HX : Hid (x % 256 ^ 2 = x % 65536) := rfl
    go_enter Try.func32, Try.ntmps32
    go_wp2_with (go_at_call 37; refine (write16_any D S off _ cap m _ _ (by first | assumption | omega) (by first | assumption | omega) (by decide) (by assumption) (by assumption) (by assumption)).mono ?_; rintro e w' ⟨rfl, hr', hg'⟩)
    go_end0
    exact ⟨rfl, L _ (by rw [HX.out]; exact hr') (by decide), hg'⟩
  · have y1 : 0 ≤ x % 4294967296 := by omega
    have y2 : x % 4294967296 < 4294967296 := by omega
    have L := fun w' => @lay_eq w' D S off 4 4 5 m x
    have HX : Hid (x % 256 ^ 4 = x % 4294967296) := rfl
    go_enter Try.func32, Try.ntmps32
    go_wp2_with (go_at_call 38; refine (write32_any D S off _ cap m _ _ (by first | assumption | omega) (by first | assumption | omega) (by decide) (by assumption) (by assumption) (by assumption)).mono ?_; rintro e w' ⟨rfl, hr', hg'⟩)
    go_end0
    exact ⟨rfl, L _ (by rw [HX.out]; exact hr') (by decide), hg'⟩
  · go_enter Try.func32, Try.ntmps32
    go_wp2_with (go_at_call 39; refine (write64_any D S off _ cap m _ _ (by first | assumption | omega) (by first | assumption | omega) (by decide) (by assumption) (by assumption) (by assumption)).mono ?_; rintro e w' ⟨rfl, hr', hg'⟩)
    go_end0
    exact ⟨rfl, hr', hg'⟩

abbrev IsM := IsMem 54

theorem IsMem.cell {t : TypeId} {w : World} {B D S : Nat} {m : Nat → Int} (h : IsMem t w B D S m) : w.cell? ⟨B, 0, none⟩ = some (.slice (some ⟨D, 0, none⟩) S S) := h.head.cell (i := 0) (by omega)

set_option maxHeartbeats 400000 in
theorem room_none (B D S : Nat) (m : Nat → Int) (a : Int) (w : World) (hm : IsM w B D S m) :
    Calls Try.prog 27 #[.pointer (some ⟨B, 0, none⟩), .int .u64 a, .int .i64 0] w fun e w' => e = .returned (.tuple #[.slice none 0 0, .bool true]) ∧ w' = w := by
  go_enter Try.func27, Try.ntmps27
  go_wp2
  go_ret2
  exact ⟨rfl, rfl⟩

set_option maxRecDepth 20000 in
set_option maxHeartbeats 400000 in
theorem room_in (B D S : Nat) (m : Nat → Int) (a n : Nat) (w : World) (hm : IsM w B D S m) (hS : (S : Int) ≤ 1048576) (h0 : 0 < n) (h1 : (4096 : Int) ≤ a) (h2 : a + n ≤ S) :
    Calls Try.prog 27 #[.pointer (some ⟨B, 0, none⟩), .int .u64 a, .int .i64 n] w fun e w' => e = .returned (.tuple #[.slice (some ⟨D, a, none⟩) n n, .bool true]) ∧ w' = w := by
  have c := hm.cell
  go_enter Try.func27, Try.ntmps27
  go_wp2
  go_ret2
  have e : a + n - a = n := by omega
  refine ⟨?_, rfl⟩
  show Ending.returned (.tuple #[.slice (some ⟨D, a, none⟩) (a + n - a) (a + n - a), .bool true]) = _
  rw [e]

set_option maxHeartbeats 400000 in
theorem room_out (B D S : Nat) (m : Nat → Int) (a n : Int) (w : World) (hm : IsM w B D S m) (hS : (S : Int) ≤ 1048576) (a1 : 0 ≤ a) (a2 : a < 18446744073709551616) (n1 : -9223372036854775808 ≤ n) (n2 : n ≤ 9223372036854775807) (h0 : (n == 0) = false) (h : n < 0 ∨ a < 4096 ∨ (S : Int) < a + n) :
    Calls Try.prog 27 #[.pointer (some ⟨B, 0, none⟩), .int .u64 a, .int .i64 n] w fun e w' => e = .returned (.tuple #[.slice none 0 0, .bool false]) ∧ w' = w := by
  have c := hm.cell
  go_enter Try.func27, Try.ntmps27
  go_wp2
  all_goals (go_ret2; exact ⟨rfl, rfl⟩)

end Go.Proofs.Ytnedflpcfpkbnaa
