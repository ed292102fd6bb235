/- The page's own memory (gantryref2): Has, Load, Store, Put: contracts. -/
import Derived.Test.YtnedflpcfpkbnaaMHelp
import Derived.RegionTactic
import Derived.ChangeAlike
import Derived.BigRegion
namespace Go.Proofs.Ytnedflpcfpkbnaa
open Go.RowKit
set_option linter.unusedVariables false

namespace Mm
def gotB (S : Nat) (a n : Int) : Bool := n == 0 || (decide (0 < n) && hasB S a n)
theorem rstep {x y : Int} (x1 : 0 ≤ x) (x2 : x < 72057594037927936) (y1 : 0 ≤ y) (y2 : y < 256) : bits .or .u64 (IntKind.u64.wrap (x * 256)) (IntKind.u64.wrap y) = y + x * 256 := by
  rw [IntKind.wrap_u64, IntKind.wrap_u64, Int.emod_eq_of_lt (by omega) (by omega), Int.emod_eq_of_lt (by omega) (by omega)]
  have := or_low (k := .u64) rfl (x := y) (y := x) (j := 8) y1 (by omega) x1 (show y + x * 2 ^ 8 < 2 ^ 64 from by omega)
  exact this
theorem ld_lt56 {m : Nat → Int} (hm : Fit m) (a : Nat) {n : Nat} (hn : n ≤ 7) : 0 ≤ ld m a n ∧ ld m a n < 72057594037927936 := by
  have h := ld_rng hm a n
  refine ⟨h.1, Int.lt_of_lt_of_le h.2 ?_⟩
  have : n = 0 ∨ n = 1 ∨ n = 2 ∨ n = 3 ∨ n = 4 ∨ n = 5 ∨ n = 6 ∨ n = 7 := by omega
  rcases this with rfl | rfl | rfl | rfl | rfl | rfl | rfl | rfl <;> decide
end Mm

theorem IsMem.drew {t : TypeId} {w : World} {B D S : Nat} {m : Nat → Int} (h : IsMem t w B D S m) : IsMem t w.drew B D S m := ⟨h.head, h.row, h.fit⟩
theorem IsMem.drewN {t : TypeId} {w : World} {B D S : Nat} {m : Nat → Int} (h : IsMem t w B D S m) (d : Nat) : IsMem t (w.drewN d) B D S m := ⟨h.head, h.row, h.fit⟩
theorem grown_drew {w w' : World} {row : Option Nat} (h : w.grownBy w' row) : w.grownBy w'.drew row := ⟨h.os, h.tape, h.output, h.size, h.block⟩

set_option maxHeartbeats 800000 in
theorem rhas_any (B D S : Nat) (m : Nat → Int) (a n : Int) (w : World) (hm : IsR w B D S m) (hS : (S : Int) ≤ 1048576) (a1 : 0 ≤ a) (a2 : a < 18446744073709551616) (n1 : -9223372036854775808 ≤ n) (n2 : n ≤ 9223372036854775807) :
    Calls Try.prog 22 #[.pointer (some ⟨B, 0, none⟩), .int .u64 a, .int .i64 n] w fun e w' => e = .returned (.bool (Mm.gotB S a n)) ∧ w' = w := by
  have c := hm.cell
  go_enter Try.func22, Try.ntmps22
  go_wp2
  all_goals go_ret
  all_goals refine ⟨ret_bool ?_, rfl⟩
  all_goals unfold Mm.gotB Mm.hasB
  all_goals (rw [Bool.eq_iff_iff]; simp; omega)

set_option maxHeartbeats 800000 in
theorem rload_in (B D S : Nat) (m : Nat → Int) (A n : Nat) (k : Int) (w : World) (hm : IsR w B D S m) (hS : (S : Int) ≤ 1048576) (hb : Wd.by' k = n) (h8 : n = 1 ∨ n = 2 ∨ n = 4 ∨ n = 8) (h1 : (4096 : Int) ≤ A) (h2 : A + n ≤ S) :
    Calls Try.prog 19 #[.pointer (some ⟨B, 0, none⟩), .int .u64 A, .int .i64 k] w fun e w' => e = .returned (.tuple #[.int .u64 (Wd.canon k (Mm.ld m A n)), .bool true]) ∧ w' = w := by
  have c := hm.cell
  have HB : Hid (Wd.by' k = n) := hb
  have H8 : Hid (n = 1 ∨ n = 2 ∨ n = 4 ∨ n = 8) := h8
  have HG : Hid (Mm.gotB S A n = true) := by show _ = _; unfold Mm.gotB Mm.hasB; simp; omega
  have hn8 : n ≤ 8 := by omega
  clear hb h8
  go_enter Try.func19, Try.ntmps19
  go_wp2_with (first
    | (go_at_call 16; refine (rbytes_any _ _).mono ?_; rw [HB.out]; rintro e w' ⟨rfl, rfl⟩)
    | (go_at_call 22; refine (rhas_any B D S m _ _ _ hm hS (by omega) (by omega) (by omega) (by omega)).mono ?_; rw [HG.out]; rintro e w' ⟨rfl, rfl⟩))
  go_loop [9, 10] (fun x i => ∃ t : Nat, t ≤ n ∧ i = .int .i64 ((t : Int) - 1) ∧ x = .int .u64 (Mm.ld m (A + t) (n - t))) (fun _ i => (intOf i + 1).toNat)
  case atStart => exact ⟨n, Nat.le_refl _, rfl, by simp [Mm.ld]⟩
  case round =>
    obtain ⟨t, ht, rfl, rfl⟩ := hrel
    by_cases h0 : t = 0
    · subst h0
      have hz : Mm.ld m (A + 0) (n - 0) = Mm.ld m A n := rfl
      have hr := Mm.ld_rng hm.fit A n
      have hp := Mm.pow_le H8.out
      have r1 : 0 ≤ Mm.ld m A n := hr.1
      have r2 : Mm.ld m A n < 18446744073709551616 := by omega
      obtain ⟨z, hz2⟩ : ∃ z, Mm.ld m A n = z := ⟨_, rfl⟩
      rw [hz, hz2]
      rw [hz2] at r1 r2
      have HZ : Hid (Mm.ld m A n = z) := hz2
      clear hr hp hz hz2
      go_wp2_with (go_at_call 14; refine (rcanon_any _ _ _ r1 r2).mono ?_; rintro e w' ⟨rfl, rfl⟩)
      go_ret2
      rw [HZ.out]
      exact ⟨rfl, rfl⟩
    · obtain ⟨u, rfl⟩ : ∃ u, t = u + 1 := ⟨t - 1, by omega⟩
      have cc := hm.row.cell (i := A + u) (by omega)
      have hx := Mm.ld_lt56 hm.fit (A + (u + 1)) (n := n - (u + 1)) (by omega)
      have hy := hm.fit (A + u)
      have hs := Mm.rstep hx.1 hx.2 hy.1 hy.2
      have he : Mm.ld m (A + u) (n - u) = m (A + u) + Mm.ld m (A + (u + 1)) (n - (u + 1)) * 256 := by
        rw [show n - u = n - (u + 1) + 1 by omega, Mm.ld_high, Nat.add_assoc]
      have HS : Hid (_ = _) := hs
      have HE : Hid (_ = _) := he
      clear hs he hx hy
      go_wp2
      go_round
      case rel => exact ⟨u, by omega, rfl, congrArg (Value.int _) (HS.out.trans HE.out.symm)⟩
      case measure => simp [intOf]

set_option maxHeartbeats 800000 in
theorem rload_out (B D S : Nat) (m : Nat → Int) (a k : Int) (w : World) (hm : IsR w B D S m) (hS : (S : Int) ≤ 1048576) (a1 : 0 ≤ a) (a2 : a < 18446744073709551616) (hk : Wd.wordB k = true) (h : Mm.hasB S a (Wd.by' k) = false) :
    Calls Try.prog 19 #[.pointer (some ⟨B, 0, none⟩), .int .u64 a, .int .i64 k] w fun e w' => e = .returned (.tuple #[.int .u64 0, .bool false]) ∧ w' = w := by
  have hb := Mm.by_cases k
  rw [hk] at hb
  have hb' : Wd.by' k = 1 ∨ Wd.by' k = 2 ∨ Wd.by' k = 4 ∨ Wd.by' k = 8 := by rcases hb with ⟨h, _⟩ | ⟨_, h⟩ <;> first | (exact absurd h (by decide)) | exact h
  have HG : Hid (Mm.gotB S a (Wd.by' k) = false) := by show _ = _; unfold Mm.gotB; rw [h, Bool.and_false, Bool.or_false]; rw [beq_eq_false_iff_ne]; omega
  have l1 : -9223372036854775808 ≤ Wd.by' k := by omega
  have l2 : Wd.by' k ≤ 9223372036854775807 := by omega
  clear hb hb' h
  go_enter Try.func19, Try.ntmps19
  go_wp2_with (first
    | (go_at_call 16; refine (rbytes_any _ _).mono ?_; rintro e w' ⟨rfl, rfl⟩)
    | (go_at_call 22; refine (rhas_any B D S m _ _ _ hm hS a1 a2 l1 l2).mono ?_; rw [HG.out]; rintro e w' ⟨rfl, rfl⟩))
  go_ret2
  exact ⟨rfl, rfl⟩

set_option maxHeartbeats 800000 in
theorem rstore_out (B D S : Nat) (m : Nat → Int) (a k x : Int) (w : World) (hm : IsR w B D S m) (hS : (S : Int) ≤ 1048576) (a1 : 0 ≤ a) (a2 : a < 18446744073709551616) (hk : Wd.wordB k = true) (h : Mm.hasB S a (Wd.by' k) = false) :
    Calls Try.prog 21 #[.pointer (some ⟨B, 0, none⟩), .int .u64 a, .int .i64 k, .int .u64 x] w fun e w' => e = .returned (.bool false) ∧ w' = w := by
  have hb := Mm.by_cases k
  rw [hk] at hb
  have hb' : Wd.by' k = 1 ∨ Wd.by' k = 2 ∨ Wd.by' k = 4 ∨ Wd.by' k = 8 := by rcases hb with ⟨h, _⟩ | ⟨_, h⟩ <;> first | (exact absurd h (by decide)) | exact h
  have HG : Hid (Mm.gotB S a (Wd.by' k) = false) := by show _ = _; unfold Mm.gotB; rw [h, Bool.and_false, Bool.or_false]; rw [beq_eq_false_iff_ne]; omega
  have l1 : -9223372036854775808 ≤ Wd.by' k := by omega
  have l2 : Wd.by' k ≤ 9223372036854775807 := by omega
  clear hb hb' h
  go_enter Try.func21, Try.ntmps21
  go_wp2_with (first
    | (go_at_call 16; refine (rbytes_any _ _).mono ?_; rintro e w' ⟨rfl, rfl⟩)
    | (go_at_call 22; refine (rhas_any B D S m _ _ _ hm hS a1 a2 l1 l2).mono ?_; rw [HG.out]; rintro e w' ⟨rfl, rfl⟩))
  go_ret
  exact ⟨rfl, rfl⟩

set_option maxHeartbeats 800000 in
theorem rstore_in (B D S : Nat) (m : Nat → Int) (A n : Nat) (k x : Int) (w : World) (hm : IsR w B D S m) (hS : (S : Int) ≤ 1048576) (hb : Wd.by' k = n) (h8 : n = 1 ∨ n = 2 ∨ n = 4 ∨ n = 8) (h1 : (4096 : Int) ≤ A) (h2 : A + n ≤ S) (x1 : 0 ≤ x) (x2 : x < 18446744073709551616) :
    Calls Try.prog 21 #[.pointer (some ⟨B, 0, none⟩), .int .u64 A, .int .i64 k, .int .u64 x] w fun e w' => e = .returned (.bool true) ∧ IsR w' B D S (Mm.pt m A n (Mm.by8 x)) ∧ w.grownBy w' (some D) := by
  have HB : Hid (Wd.by' k = n) := hb
  have HG : Hid (Mm.gotB S A n = true) := by show _ = _; unfold Mm.gotB Mm.hasB; simp; omega
  have hn8 : n ≤ 8 := by omega
  have hm0 := hm
  clear hb h8
  go_enter Try.func21, Try.ntmps21
  go_wp2_with (first
    | (go_at_call 16; refine (rbytes_any _ _).mono ?_; rw [HB.out]; rintro e w' ⟨rfl, rfl⟩)
    | (go_at_call 22; refine (rhas_any B D S m _ _ _ hm hS (by omega) (by omega) (by omega) (by omega)).mono ?_; rw [HG.out]; rintro e w' ⟨rfl, rfl⟩))
  go_loopw [10] (fun i wr => ∃ t : Nat, t ≤ n ∧ i = .int .i64 t ∧ IsR wr B D S (Mm.pt m A t (Mm.by8 x)) ∧ w'.grownBy wr (some D)) (fun i _ => n - (intOf i).toNat)
  case atStart => exact ⟨0, Nat.zero_le _, rfl, by rw [Mm.pt_zero]; exact hm, World.grownBy.refl _ _⟩
  case round =>
    obtain ⟨t, ht, rfl, hr, hg⟩ := hrel
    by_cases hlt : t < n
    · have c := hr.cell
      have cc := hr.row.cell (i := A + t) (by omega)
      have cf := hr.row.frozen (A + t)
      go_wp2
      go_roundw
      case rel => exact ⟨t + 1, by omega, by go_num, hr.put (grown_setCell _ _ _ _) (by decide) (row_put' hr.row (by first | exact by8_eq x t | (rw [IntKind.wrap_u8]; exact by8_eq x t))) (Mm.pt_fit hm.fit (Mm.by8_fit x) _ _), grown_trans hg (grown_setCell _ _ _ _)⟩
      case measure => simp [intOf]; omega
    · obtain rfl : t = n := by omega
      go_wp2
      go_ret
      exact ⟨rfl, hr, hg⟩

set_option maxHeartbeats 1600000 in
theorem rput_in (B D S n cap b o' : Nat) (m g : Nat → Int) (A : Nat) (w : World) (hm : IsR w B D S m) (hS : (S : Int) ≤ 1048576) (h2 : A + n ≤ S) (hg : Mm.Fit g) (hbD : b ≠ D)
    (hc : ∀ i, i < n → w.cell? ⟨b, o' + i, none⟩ = some (.int .u8 (g i))) :
    Calls Try.prog 26 #[.pointer (some ⟨B, 0, none⟩), .int .u64 A, .slice (some ⟨b, o', none⟩) n cap] w fun e w' => e = .returned (.tuple #[]) ∧ IsR w' B D S (Mm.pt m A n g) ∧ w.grownBy w' (some D) := by
  have HC : Hid (∀ i, i < n → w.cell? ⟨b, o' + i, none⟩ = some (.int .u8 (g i))) := hc
  have HBD : Hid (b ≠ D) := hbD
  clear hc hbD
  go_enter Try.func26, Try.ntmps26
  go_wp2
  go_loopw [6] (fun i wr => ∃ t : Nat, t ≤ n ∧ i = .int .i64 t ∧ IsR wr B D S (Mm.pt m A t g) ∧ w.grownBy wr (some D)) (fun i _ => n - (intOf i).toNat)
  case atStart => exact ⟨0, Nat.zero_le _, rfl, by rw [Mm.pt_zero]; exact hm, World.grownBy.refl _ _⟩
  case round =>
    obtain ⟨t, ht, rfl, hr, hgr⟩ := hrel
    by_cases hlt : t < n
    · have c := hr.cell
      have cc := hr.row.cell (i := A + t) (by omega)
      have cf := hr.row.frozen (A + t)
      have cs : wr.cell? ⟨b, o' + t, none⟩ = some (.int .u8 (g t)) := hgr.cell (HC.out t hlt) (fun e => HBD.out (by injection e))
      have hlt' : (t : Int) < (n : Int) := by omega
      have hS' : ((A : Int) + (t : Int)) < (S : Int) := by omega
      go_wp2_with fail
      go_region
      go_wp2
      go_roundw
      case rel => exact ⟨t + 1, by omega, by go_num, (hr.put (grown_setCell _ _ _ _) (by decide) (row_put hr.row) (Mm.pt_fit hm.fit hg _ _)).drew, grown_drew (grown_trans hgr (grown_setCell _ _ _ _))⟩
      case measure => simp [intOf]; omega
    · obtain rfl : t = n := by omega
      go_wp2
      go_end0
      exact ⟨rfl, hr, hgr⟩

set_option maxHeartbeats 800000 in
theorem rput_none (B D S cap : Nat) (ao : Option Addr) (m : Nat → Int) (a : Int) (w : World) (hm : IsR w B D S m) :
    Calls Try.prog 26 #[.pointer (some ⟨B, 0, none⟩), .int .u64 a, .slice ao 0 cap] w fun e w' => e = .returned (.tuple #[]) ∧ w' = w := by
  go_enter Try.func26, Try.ntmps26
  go_wp2
  go_loopw [6] (fun s wr => s = .int .i64 0 ∧ wr = w) (fun s _ => 0)
  case atStart => exact ⟨rfl, rfl⟩
  case round =>
    obtain ⟨rfl, rfl⟩ := hrel
    go_wp2
    go_end0
    exact ⟨rfl, rfl⟩

end Go.Proofs.Ytnedflpcfpkbnaa
