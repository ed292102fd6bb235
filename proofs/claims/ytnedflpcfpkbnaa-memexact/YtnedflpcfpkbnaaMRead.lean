/- mem.read and mem.write at each width: contracts. -/
import Derived.Test.YtnedflpcfpkbnaaMBase
namespace Go.Proofs.Ytnedflpcfpkbnaa
open Go.RowKit
set_option linter.unusedVariables false

set_option maxHeartbeats 400000 in
theorem read8_any (b off n cap : Nat) (g : Nat → Int) (w : World) (hn : n ≤ 1) (hnc : n ≤ cap) (hg : Mm.Fit g) (hc : ∀ i, i < n → w.cell? ⟨b, off + i, none⟩ = some (.int .u8 (g i))) :
    Calls Try.prog 41 #[.slice (some ⟨b, off, none⟩) n cap] w fun e w' => e = .returned (.int .u8 (Mm.ld g 0 n)) ∧ w' = w := by
  have HC : Hid (∀ i, i < n → w.cell? ⟨b, off + i, none⟩ = some (.int .u8 (g i))) := hc
  clear hc
  go_enter Try.func41, Try.ntmps41
  go_wp2
  go_loop [3, 8] (fun x i => ∃ k : Nat, k ≤ n ∧ i = .int .i64 k ∧ x = .int .u8 (Mm.ld g 0 k)) (fun _ i => n - (intOf i).toNat)
  case atStart => exact ⟨0, Nat.zero_le _, rfl, rfl⟩
  case round =>
    obtain ⟨k, hk, rfl, rfl⟩ := hrel
    by_cases hlt : k < n
    · have c := HC.out k hlt
      have S : Hid (_ = _) := Mm.read_step (kd := .u8) rfl (Mm.ld_rng hg 0 k).1 (Mm.ld_rng hg 0 k).2 (hg k).1 (hg k).2 (show (256 : Int) ^ (k + 1) ≤ 2 ^ 8 from by
        obtain ⟨d, hd⟩ : ∃ d, 1 = k + 1 + d := ⟨1 - (k + 1), by omega⟩
        have hp : (0 : Int) < 256 ^ (k + 1) := Mm.pow_pos _
        have h2 : (256 : Int) ^ 1 = 256 ^ (k + 1) * 256 ^ d := by rw [← Int.pow_add, ← hd]
        have h3 := Int.mul_le_mul_of_nonneg_left (show (1 : Int) ≤ 256 ^ d from by have := Mm.pow_pos d; omega) (Int.le_of_lt hp)
        rw [Int.mul_one, ← h2] at h3
        exact h3)
      have r := Mm.ld_rng hg 0 k
      have f := hg k
      obtain ⟨r1, r2⟩ := r
      obtain ⟨f1, f2⟩ := f
      have E : Hid (Mm.ld g 0 (k + 1) = Mm.ld g 0 k + g k * 256 ^ k) := by show _ = _; rw [Mm.ld_succ, Nat.zero_add]
      generalize Mm.ld g 0 k = x at *
      generalize g k = y at *
      go_wp2
      go_round
      case rel => exact ⟨k + 1, by omega, by go_num, congrArg (Value.int _) (Eq.trans (by first | exact S.out | (have := S.out; rw [IntKind.wrap_u8] at this; exact this)) E.out.symm)⟩
      case measure => simp [intOf]; omega
    · obtain rfl : k = n := by omega
      go_wp2
      go_ret
      exact ⟨rfl, rfl⟩

set_option maxHeartbeats 400000 in
theorem read16_any (b off n cap : Nat) (g : Nat → Int) (w : World) (hn : n ≤ 2) (hnc : n ≤ cap) (hg : Mm.Fit g) (hc : ∀ i, i < n → w.cell? ⟨b, off + i, none⟩ = some (.int .u8 (g i))) :
    Calls Try.prog 42 #[.slice (some ⟨b, off, none⟩) n cap] w fun e w' => e = .returned (.int .u16 (Mm.ld g 0 n)) ∧ w' = w := by
  have HC : Hid (∀ i, i < n → w.cell? ⟨b, off + i, none⟩ = some (.int .u8 (g i))) := hc
  clear hc
  go_enter Try.func42, Try.ntmps42
  go_wp2
  go_loop [3, 8] (fun x i => ∃ k : Nat, k ≤ n ∧ i = .int .i64 k ∧ x = .int .u16 (Mm.ld g 0 k)) (fun _ i => n - (intOf i).toNat)
  case atStart => exact ⟨0, Nat.zero_le _, rfl, rfl⟩
  case round =>
    obtain ⟨k, hk, rfl, rfl⟩ := hrel
    by_cases hlt : k < n
    · have c := HC.out k hlt
      have S : Hid (_ = _) := Mm.read_step (kd := .u16) rfl (Mm.ld_rng hg 0 k).1 (Mm.ld_rng hg 0 k).2 (hg k).1 (hg k).2 (show (256 : Int) ^ (k + 1) ≤ 2 ^ 16 from by
        obtain ⟨d, hd⟩ : ∃ d, 2 = k + 1 + d := ⟨2 - (k + 1), by omega⟩
        have hp : (0 : Int) < 256 ^ (k + 1) := Mm.pow_pos _
        have h2 : (256 : Int) ^ 2 = 256 ^ (k + 1) * 256 ^ d := by rw [← Int.pow_add, ← hd]
        have h3 := Int.mul_le_mul_of_nonneg_left (show (1 : Int) ≤ 256 ^ d from by have := Mm.pow_pos d; omega) (Int.le_of_lt hp)
        rw [Int.mul_one, ← h2] at h3
        exact h3)
      have r := Mm.ld_rng hg 0 k
      have f := hg k
      obtain ⟨r1, r2⟩ := r
      obtain ⟨f1, f2⟩ := f
      have E : Hid (Mm.ld g 0 (k + 1) = Mm.ld g 0 k + g k * 256 ^ k) := by show _ = _; rw [Mm.ld_succ, Nat.zero_add]
      generalize Mm.ld g 0 k = x at *
      generalize g k = y at *
      go_wp2
      go_round
      case rel => exact ⟨k + 1, by omega, by go_num, congrArg (Value.int _) (Eq.trans (by first | exact S.out | (have := S.out; rw [IntKind.wrap_u16] at this; exact this)) E.out.symm)⟩
      case measure => simp [intOf]; omega
    · obtain rfl : k = n := by omega
      go_wp2
      go_ret
      exact ⟨rfl, rfl⟩

set_option maxHeartbeats 400000 in
theorem read32_any (b off n cap : Nat) (g : Nat → Int) (w : World) (hn : n ≤ 4) (hnc : n ≤ cap) (hg : Mm.Fit g) (hc : ∀ i, i < n → w.cell? ⟨b, off + i, none⟩ = some (.int .u8 (g i))) :
    Calls Try.prog 43 #[.slice (some ⟨b, off, none⟩) n cap] w fun e w' => e = .returned (.int .u32 (Mm.ld g 0 n)) ∧ w' = w := by
  have HC : Hid (∀ i, i < n → w.cell? ⟨b, off + i, none⟩ = some (.int .u8 (g i))) := hc
  clear hc
  go_enter Try.func43, Try.ntmps43
  go_wp2
  go_loop [3, 8] (fun x i => ∃ k : Nat, k ≤ n ∧ i = .int .i64 k ∧ x = .int .u32 (Mm.ld g 0 k)) (fun _ i => n - (intOf i).toNat)
  case atStart => exact ⟨0, Nat.zero_le _, rfl, rfl⟩
  case round =>
    obtain ⟨k, hk, rfl, rfl⟩ := hrel
    by_cases hlt : k < n
    · have c := HC.out k hlt
      have S : Hid (_ = _) := Mm.read_step (kd := .u32) rfl (Mm.ld_rng hg 0 k).1 (Mm.ld_rng hg 0 k).2 (hg k).1 (hg k).2 (show (256 : Int) ^ (k + 1) ≤ 2 ^ 32 from by
        obtain ⟨d, hd⟩ : ∃ d, 4 = k + 1 + d := ⟨4 - (k + 1), by omega⟩
        have hp : (0 : Int) < 256 ^ (k + 1) := Mm.pow_pos _
        have h2 : (256 : Int) ^ 4 = 256 ^ (k + 1) * 256 ^ d := by rw [← Int.pow_add, ← hd]
        have h3 := Int.mul_le_mul_of_nonneg_left (show (1 : Int) ≤ 256 ^ d from by have := Mm.pow_pos d; omega) (Int.le_of_lt hp)
        rw [Int.mul_one, ← h2] at h3
        exact h3)
      have r := Mm.ld_rng hg 0 k
      have f := hg k
      obtain ⟨r1, r2⟩ := r
      obtain ⟨f1, f2⟩ := f
      have E : Hid (Mm.ld g 0 (k + 1) = Mm.ld g 0 k + g k * 256 ^ k) := by show _ = _; rw [Mm.ld_succ, Nat.zero_add]
      generalize Mm.ld g 0 k = x at *
      generalize g k = y at *
      go_wp2
      go_round
      case rel => exact ⟨k + 1, by omega, by go_num, congrArg (Value.int _) (Eq.trans (by first | exact S.out | (have := S.out; rw [IntKind.wrap_u32] at this; exact this)) E.out.symm)⟩
      case measure => simp [intOf]; omega
    · obtain rfl : k = n := by omega
      go_wp2
      go_ret
      exact ⟨rfl, rfl⟩

set_option maxHeartbeats 400000 in
theorem read64_any (b off n cap : Nat) (g : Nat → Int) (w : World) (hn : n ≤ 8) (hnc : n ≤ cap) (hg : Mm.Fit g) (hc : ∀ i, i < n → w.cell? ⟨b, off + i, none⟩ = some (.int .u8 (g i))) :
    Calls Try.prog 44 #[.slice (some ⟨b, off, none⟩) n cap] w fun e w' => e = .returned (.int .u64 (Mm.ld g 0 n)) ∧ w' = w := by
  have HC : Hid (∀ i, i < n → w.cell? ⟨b, off + i, none⟩ = some (.int .u8 (g i))) := hc
  clear hc
  go_enter Try.func44, Try.ntmps44
  go_wp2
  go_loop [3, 8] (fun x i => ∃ k : Nat, k ≤ n ∧ i = .int .i64 k ∧ x = .int .u64 (Mm.ld g 0 k)) (fun _ i => n - (intOf i).toNat)
  case atStart => exact ⟨0, Nat.zero_le _, rfl, rfl⟩
  case round =>
    obtain ⟨k, hk, rfl, rfl⟩ := hrel
    by_cases hlt : k < n
    · have c := HC.out k hlt
      have S : Hid (_ = _) := Mm.read_step (kd := .u64) rfl (Mm.ld_rng hg 0 k).1 (Mm.ld_rng hg 0 k).2 (hg k).1 (hg k).2 (show (256 : Int) ^ (k + 1) ≤ 2 ^ 64 from by
        obtain ⟨d, hd⟩ : ∃ d, 8 = k + 1 + d := ⟨8 - (k + 1), by omega⟩
        have hp : (0 : Int) < 256 ^ (k + 1) := Mm.pow_pos _
        have h2 : (256 : Int) ^ 8 = 256 ^ (k + 1) * 256 ^ d := by rw [← Int.pow_add, ← hd]
        have h3 := Int.mul_le_mul_of_nonneg_left (show (1 : Int) ≤ 256 ^ d from by have := Mm.pow_pos d; omega) (Int.le_of_lt hp)
        rw [Int.mul_one, ← h2] at h3
        exact h3)
      have r := Mm.ld_rng hg 0 k
      have f := hg k
      obtain ⟨r1, r2⟩ := r
      obtain ⟨f1, f2⟩ := f
      have E : Hid (Mm.ld g 0 (k + 1) = Mm.ld g 0 k + g k * 256 ^ k) := by show _ = _; rw [Mm.ld_succ, Nat.zero_add]
      generalize Mm.ld g 0 k = x at *
      generalize g k = y at *
      go_wp2
      go_round
      case rel => exact ⟨k + 1, by omega, by go_num, congrArg (Value.int _) (Eq.trans (by first | exact S.out | (have := S.out; rw [IntKind.wrap_u64] at this; exact this)) E.out.symm)⟩
      case measure => simp [intOf]; omega
    · obtain rfl : k = n := by omega
      go_wp2
      go_ret
      exact ⟨rfl, rfl⟩

end Go.Proofs.Ytnedflpcfpkbnaa
