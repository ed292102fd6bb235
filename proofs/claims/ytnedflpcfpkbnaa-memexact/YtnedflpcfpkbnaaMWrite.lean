/- mem.write at each width: contracts. -/
import Derived.Test.YtnedflpcfpkbnaaMRead
namespace Go.Proofs.Ytnedflpcfpkbnaa
open Go.RowKit
set_option linter.unusedVariables false

theorem row_put {w : World} {D S a k : Nat} {t : TypeId} {m g : Nat → Int} (h : w.rowIs D t S (fun i => .int .u8 (Mm.pt m a k g i))) :
    (w.setCell ⟨D, a + k, none⟩ (.int .u8 (g k))).rowIs D t S (fun i => .int .u8 (Mm.pt m a (k + 1) g i)) := by
  refine (h.set (a + k) _).congr fun i _ => ?_
  rw [← Mm.pt_succ]
  show (if i = a + k then Value.int .u8 (g k) else _) = _
  by_cases e : i = a + k
  · simp [e]
  · simp [e]

theorem row_put' {w : World} {D S a k : Nat} {t : TypeId} {m g : Nat → Int} {y : Int} (h : w.rowIs D t S (fun i => .int .u8 (Mm.pt m a k g i))) (e : y = g k) :
    (w.setCell ⟨D, a + k, none⟩ (.int .u8 y)).rowIs D t S (fun i => .int .u8 (Mm.pt m a (k + 1) g i)) := by rw [e]; exact row_put h

theorem by8_top {x : Int} {k : Nat} (h : k = 0) (x1 : 0 ≤ x) (x2 : x < 256) : x / 2 ^ (8 * k) = Mm.by8 x k := by subst h; simp [Mm.by8]; omega

theorem by8_eq (x : Int) (k : Nat) : x / 2 ^ (8 * k) % 256 = Mm.by8 x k := by rw [Mm.pow8]; rfl

set_option maxHeartbeats 400000 in
theorem write8_any (D S off n cap : Nat) (m : Nat → Int) (x : Int) (w : World) (x1 : 0 ≤ x) (x2 : x < 256) (hn : n ≤ 1) (hnc : n ≤ cap) (hS : off + n ≤ S) (hr : w.rowIs D 5 S (fun i => .int .u8 (m i))) :
    Calls Try.prog 36 #[.slice (some ⟨D, off, none⟩) n cap, .int .u8 x] w fun e w' => e = .returned (.tuple #[]) ∧ w'.rowIs D 5 S (fun i => .int .u8 (Mm.pt m off n (Mm.by8 x) i)) ∧ w.grownBy w' (some D) := by
  go_enter Try.func36, Try.ntmps36
  go_wp2
  go_loopw [7] (fun i wr => ∃ k : Nat, k ≤ n ∧ i = .int .i64 k ∧ wr.rowIs D 5 S (fun i => .int .u8 (Mm.pt m off k (Mm.by8 x) i)) ∧ w.grownBy wr (some D)) (fun i _ => n - (intOf i).toNat)
  case atStart => exact ⟨0, Nat.zero_le _, rfl, by rw [Mm.pt_zero]; exact hr, World.grownBy.refl _ _⟩
  case round =>
    obtain ⟨k, hk, rfl, hrow, hgr⟩ := hrel
    by_cases hlt : k < n
    · have c := hrow.cell (i := off + k) (by omega)
      have f := hrow.frozen (off + k)
      go_wp2
      go_roundw
      case rel => exact ⟨k + 1, by omega, by go_num, row_put' hrow (by first | exact by8_eq x k | (rw [IntKind.wrap_u8]; exact by8_eq x k) | exact by8_top (by omega) (by omega) (by omega)), grown_trans hgr (grown_setCell _ _ _ _)⟩
      case measure => simp [intOf]; omega
    · obtain rfl : k = n := by omega
      go_wp2
      go_end0
      exact ⟨rfl, hrow, hgr⟩

set_option maxHeartbeats 400000 in
theorem write16_any (D S off n cap : Nat) (m : Nat → Int) (x : Int) (w : World) (x1 : 0 ≤ x) (x2 : x < 65536) (hn : n ≤ 2) (hnc : n ≤ cap) (hS : off + n ≤ S) (hr : w.rowIs D 5 S (fun i => .int .u8 (m i))) :
    Calls Try.prog 37 #[.slice (some ⟨D, off, none⟩) n cap, .int .u16 x] w fun e w' => e = .returned (.tuple #[]) ∧ w'.rowIs D 5 S (fun i => .int .u8 (Mm.pt m off n (Mm.by8 x) i)) ∧ w.grownBy w' (some D) := by
  go_enter Try.func37, Try.ntmps37
  go_wp2
  go_loopw [7] (fun i wr => ∃ k : Nat, k ≤ n ∧ i = .int .i64 k ∧ wr.rowIs D 5 S (fun i => .int .u8 (Mm.pt m off k (Mm.by8 x) i)) ∧ w.grownBy wr (some D)) (fun i _ => n - (intOf i).toNat)
  case atStart => exact ⟨0, Nat.zero_le _, rfl, by rw [Mm.pt_zero]; exact hr, World.grownBy.refl _ _⟩
  case round =>
    obtain ⟨k, hk, rfl, hrow, hgr⟩ := hrel
    by_cases hlt : k < n
    · have c := hrow.cell (i := off + k) (by omega)
      have f := hrow.frozen (off + k)
      go_wp2
      go_roundw
      case rel => exact ⟨k + 1, by omega, by go_num, row_put' hrow (by first | exact by8_eq x k | (rw [IntKind.wrap_u8]; exact by8_eq x k) | exact by8_top (by omega) (by omega) (by omega)), grown_trans hgr (grown_setCell _ _ _ _)⟩
      case measure => simp [intOf]; omega
    · obtain rfl : k = n := by omega
      go_wp2
      go_end0
      exact ⟨rfl, hrow, hgr⟩

set_option maxHeartbeats 400000 in
theorem write32_any (D S off n cap : Nat) (m : Nat → Int) (x : Int) (w : World) (x1 : 0 ≤ x) (x2 : x < 4294967296) (hn : n ≤ 4) (hnc : n ≤ cap) (hS : off + n ≤ S) (hr : w.rowIs D 5 S (fun i => .int .u8 (m i))) :
    Calls Try.prog 38 #[.slice (some ⟨D, off, none⟩) n cap, .int .u32 x] w fun e w' => e = .returned (.tuple #[]) ∧ w'.rowIs D 5 S (fun i => .int .u8 (Mm.pt m off n (Mm.by8 x) i)) ∧ w.grownBy w' (some D) := by
  go_enter Try.func38, Try.ntmps38
  go_wp2
  go_loopw [7] (fun i wr => ∃ k : Nat, k ≤ n ∧ i = .int .i64 k ∧ wr.rowIs D 5 S (fun i => .int .u8 (Mm.pt m off k (Mm.by8 x) i)) ∧ w.grownBy wr (some D)) (fun i _ => n - (intOf i).toNat)
  case atStart => exact ⟨0, Nat.zero_le _, rfl, by rw [Mm.pt_zero]; exact hr, World.grownBy.refl _ _⟩
  case round =>
    obtain ⟨k, hk, rfl, hrow, hgr⟩ := hrel
    by_cases hlt : k < n
    · have c := hrow.cell (i := off + k) (by omega)
      have f := hrow.frozen (off + k)
      go_wp2
      go_roundw
      case rel => exact ⟨k + 1, by omega, by go_num, row_put' hrow (by first | exact by8_eq x k | (rw [IntKind.wrap_u8]; exact by8_eq x k) | exact by8_top (by omega) (by omega) (by omega)), grown_trans hgr (grown_setCell _ _ _ _)⟩
      case measure => simp [intOf]; omega
    · obtain rfl : k = n := by omega
      go_wp2
      go_end0
      exact ⟨rfl, hrow, hgr⟩

set_option maxHeartbeats 400000 in
theorem write64_any (D S off n cap : Nat) (m : Nat → Int) (x : Int) (w : World) (x1 : 0 ≤ x) (x2 : x < 18446744073709551616) (hn : n ≤ 8) (hnc : n ≤ cap) (hS : off + n ≤ S) (hr : w.rowIs D 5 S (fun i => .int .u8 (m i))) :
    Calls Try.prog 39 #[.slice (some ⟨D, off, none⟩) n cap, .int .u64 x] w fun e w' => e = .returned (.tuple #[]) ∧ w'.rowIs D 5 S (fun i => .int .u8 (Mm.pt m off n (Mm.by8 x) i)) ∧ w.grownBy w' (some D) := by
  go_enter Try.func39, Try.ntmps39
  go_wp2
  go_loopw [7] (fun i wr => ∃ k : Nat, k ≤ n ∧ i = .int .i64 k ∧ wr.rowIs D 5 S (fun i => .int .u8 (Mm.pt m off k (Mm.by8 x) i)) ∧ w.grownBy wr (some D)) (fun i _ => n - (intOf i).toNat)
  case atStart => exact ⟨0, Nat.zero_le _, rfl, by rw [Mm.pt_zero]; exact hr, World.grownBy.refl _ _⟩
  case round =>
    obtain ⟨k, hk, rfl, hrow, hgr⟩ := hrel
    by_cases hlt : k < n
    · have c := hrow.cell (i := off + k) (by omega)
      have f := hrow.frozen (off + k)
      go_wp2
      go_roundw
      case rel => exact ⟨k + 1, by omega, by go_num, row_put' hrow (by first | exact by8_eq x k | (rw [IntKind.wrap_u8]; exact by8_eq x k) | exact by8_top (by omega) (by omega) (by omega)), grown_trans hgr (grown_setCell _ _ _ _)⟩
      case measure => simp [intOf]; omega
    · obtain rfl : k = n := by omega
      go_wp2
      go_end0
      exact ⟨rfl, hrow, hgr⟩

end Go.Proofs.Ytnedflpcfpkbnaa
