/- (*Mem).Load, Store: contracts. -/
import Derived.Test.YtnedflpcfpkbnaaMNew
namespace Go.Proofs.Ytnedflpcfpkbnaa
open Go.RowKit
set_option linter.unusedVariables false

namespace Mm
/-- do n bytes from a on lie in a memory of S bytes? -/
def hasB (S : Nat) (a n : Int) : Bool := decide (4096 ≤ a) && decide (a + n ≤ S)
/-- what Load, Store answer -/
def lE (S : Nat) (k a : Int) : Int := if Wd.wordB k then (if hasB S a (Wd.by' k) then 0 else 21) else 10
def lV (S : Nat) (m : Nat → Int) (k a : Int) : Int := if Wd.wordB k && hasB S a (Wd.by' k) then Wd.canon k (ld m a.toNat (Wd.by' k).toNat) else 0
def sE (S : Nat) (k a x : Int) : Int := if Wd.wordB k then (if Wd.isB k x then (if hasB S a (Wd.by' k) then 0 else 21) else 11) else 10
def sM (S : Nat) (m : Nat → Int) (k a x : Int) : Nat → Int := if Wd.wordB k && Wd.isB k x && hasB S a (Wd.by' k) then pt m a.toNat (Wd.by' k).toNat (by8 x) else m
theorem by_cases (k : Int) : (Wd.wordB k = false ∧ Wd.by' k = 0) ∨ (Wd.wordB k = true ∧ (Wd.by' k = 1 ∨ Wd.by' k = 2 ∨ Wd.by' k = 4 ∨ Wd.by' k = 8)) := by
  rcases Wd.kinds k with h | h | h | h | h | h | h | h | h | h | h | h
  all_goals first
    | (subst h; right; exact ⟨rfl, by decide⟩)
    | (left; constructor
       · unfold Wd.wordB; simp; omega
       · unfold Wd.by' Wd.wid; rw [if_neg (by omega), if_neg (by omega), if_neg (by omega), if_neg (by omega), if_neg (by omega)]; rfl)
theorem lE_no {S : Nat} {k a : Int} (h : Wd.wordB k = false) : lE S k a = 10 := by unfold lE; rw [h]; rfl
theorem lV_no {S : Nat} {m : Nat → Int} {k a : Int} (h : Wd.wordB k = false) : lV S m k a = 0 := by unfold lV; rw [h]; rfl
theorem lE_out {S : Nat} {k a : Int} (h : Wd.wordB k = true) (h2 : hasB S a (Wd.by' k) = false) : lE S k a = 21 := by unfold lE; rw [h, h2]; rfl
theorem lV_out {S : Nat} {m : Nat → Int} {k a : Int} (h2 : hasB S a (Wd.by' k) = false) : lV S m k a = 0 := by unfold lV; rw [h2, Bool.and_false]; rfl
theorem lE_in {S : Nat} {k a : Int} (h : Wd.wordB k = true) (h2 : hasB S a (Wd.by' k) = true) : lE S k a = 0 := by unfold lE; rw [h, h2]; rfl
theorem lV_in {S : Nat} {m : Nat → Int} {k a : Int} (h : Wd.wordB k = true) (h2 : hasB S a (Wd.by' k) = true) : lV S m k a = Wd.canon k (ld m a.toNat (Wd.by' k).toNat) := by unfold lV; rw [h, h2]; rfl
theorem sE_no {S : Nat} {k a x : Int} (h : Wd.wordB k = false) : sE S k a x = 10 := by unfold sE; rw [h]; rfl
theorem sM_no {S : Nat} {m : Nat → Int} {k a x : Int} (h : Wd.wordB k = false) : sM S m k a x = m := by unfold sM; rw [h]; rfl
theorem sE_form {S : Nat} {k a x : Int} (h : Wd.wordB k = true) (h1 : Wd.isB k x = false) : sE S k a x = 11 := by unfold sE; rw [h, h1]; rfl
theorem sM_form {S : Nat} {m : Nat → Int} {k a x : Int} (h1 : Wd.isB k x = false) : sM S m k a x = m := by unfold sM; rw [h1, Bool.and_false]; rfl
theorem sE_out {S : Nat} {k a x : Int} (h : Wd.wordB k = true) (h1 : Wd.isB k x = true) (h2 : hasB S a (Wd.by' k) = false) : sE S k a x = 21 := by unfold sE; rw [h, h1, h2]; rfl
theorem sM_out {S : Nat} {m : Nat → Int} {k a x : Int} (h2 : hasB S a (Wd.by' k) = false) : sM S m k a x = m := by unfold sM; rw [h2, Bool.and_false]; rfl
theorem sE_in {S : Nat} {k a x : Int} (h : Wd.wordB k = true) (h1 : Wd.isB k x = true) (h2 : hasB S a (Wd.by' k) = true) : sE S k a x = 0 := by unfold sE; rw [h, h1, h2]; rfl
theorem sM_in {S : Nat} {m : Nat → Int} {k a x : Int} (h : Wd.wordB k = true) (h1 : Wd.isB k x = true) (h2 : hasB S a (Wd.by' k) = true) : sM S m k a x = pt m a.toNat (Wd.by' k).toNat (by8 x) := by unfold sM; rw [h, h1, h2]; rfl
theorem has_in {S : Nat} {a n : Int} (h : hasB S a n = true) : 4096 ≤ a ∧ a + n ≤ S := by unfold hasB at h; simpa using h
theorem has_out {S : Nat} {a n : Int} (h : hasB S a n = false) : a < 4096 ∨ (S : Int) < a + n := by unfold hasB at h; simp at h; omega
theorem pow_le {n : Nat} (h : n = 1 ∨ n = 2 ∨ n = 4 ∨ n = 8) : (256 : Int) ^ n ≤ 18446744073709551616 := by rcases h with rfl | rfl | rfl | rfl <;> decide
end Mm

theorem row_cells {w : World} {D S a n : Nat} {m : Nat → Int} {t : TypeId} (h : w.rowIs D t S (fun i => .int .u8 (m i))) (hS : a + n ≤ S) : ∀ i, i < n → w.cell? ⟨D, a + i, none⟩ = some (.int .u8 ((fun i => m (a + i)) i)) :=
  fun i hi => h.cell (i := a + i) (by omega)

theorem tup2 {a a' : Value} {b b' : Value} (h1 : a = a') (h2 : b = b') : Ending.returned (.tuple #[a, b]) = .returned (.tuple #[a', b']) := by rw [h1, h2]

set_option maxHeartbeats 800000 in
theorem load_any (B D S : Nat) (m : Nat → Int) (a k : Int) (w : World) (hm : IsM w B D S m) (hS : (S : Int) ≤ 1048576) (a1 : 0 ≤ a) (a2 : a < 18446744073709551616) :
    Calls Try.prog 17 #[.pointer (some ⟨B, 0, none⟩), .int .u64 a, .int .i64 k] w fun e w' => e = .returned (.tuple #[.int .u64 (Mm.lV S m k a), .int .i64 (Mm.lE S k a)]) ∧ w' = w := by
  rcases Mm.by_cases k with ⟨hk, hb⟩ | ⟨hk, hb⟩
  · have hb0 : (Wd.by' k == 0) = true := by rw [hb]; rfl
    have HE : Hid (Mm.lE S k a = 10) := Mm.lE_no hk
    have HV : Hid (Mm.lV S m k a = 0) := Mm.lV_no hk
    clear hb
    go_enter Try.func17, Try.ntmps17
    go_wp2_with (go_at_call 30; refine (bytes_any _ _).mono ?_; rintro e w' ⟨rfl, rfl⟩)
    go_ret2
    rw [HE.out, HV.out]
    exact ⟨rfl, rfl⟩
  · have hb0 : (Wd.by' k == 0) = false := by rcases hb with h | h | h | h <;> rw [h] <;> rfl
    cases h2 : Mm.hasB S a (Wd.by' k)
    · have HE : Hid (Mm.lE S k a = 21) := Mm.lE_out hk h2
      have HV : Hid (Mm.lV S m k a = 0) := Mm.lV_out h2
      have ho := Mm.has_out h2
      have hlo : -9223372036854775808 ≤ Wd.by' k := by omega
      have hhi : Wd.by' k ≤ 9223372036854775807 := by omega
      obtain ⟨n, hn⟩ : ∃ n, Wd.by' k = n := ⟨_, rfl⟩
      rw [hn] at hb0 ho hlo hhi
      have HN : Hid (Wd.by' k = n) := hn
      have HO : Hid (a < 4096 ∨ (S : Int) < a + n) := ho
      clear hb h2 ho hn
      go_enter Try.func17, Try.ntmps17
      go_wp2_with (first
        | (go_at_call 30; refine (bytes_any _ _).mono ?_; rw [HN.out]; rintro e w' ⟨rfl, rfl⟩)
        | (go_at_call 27; refine (room_out B D S m _ _ _ hm hS a1 a2 hlo hhi hb0 (Or.inr HO.out)).mono ?_; rintro e w' ⟨rfl, rfl⟩))
      go_ret2
      rw [HE.out, HV.out]
      exact ⟨rfl, rfl⟩
    · have HE : Hid (Mm.lE S k a = 0) := Mm.lE_in hk h2
      obtain ⟨ha, hs⟩ := Mm.has_in h2
      obtain ⟨A, rfl⟩ := Int.eq_ofNat_of_zero_le a1
      obtain ⟨n, hn⟩ : ∃ n : Nat, Wd.by' k = n := ⟨(Wd.by' k).toNat, by omega⟩
      have HV : Hid (Mm.lV S m k A = Wd.canon k (Mm.ld (fun i => m (A + i)) 0 n)) := by
        show _ = _
        rw [Mm.lV_in hk h2, hn, Int.toNat_natCast, Int.toNat_natCast, Mm.ld_shift]
      have hf : Mm.Fit (fun i => m (A + i)) := fun i => hm.fit (A + i)
      have hr := Mm.ld_rng hf 0 n
      have hn8 : n = 1 ∨ n = 2 ∨ n = 4 ∨ n = 8 := by omega
      have hp := Mm.pow_le hn8
      have r1 : 0 ≤ Mm.ld (fun i => m (A + i)) 0 n := hr.1
      have r2 : Mm.ld (fun i => m (A + i)) 0 n < 18446744073709551616 := by omega
      have HN : Hid (Wd.by' k = n) := hn
      have HC : Hid (∀ i, i < n → w.cell? ⟨D, A + i, none⟩ = some (.int .u8 ((fun i => m (A + i)) i))) := row_cells hm.row (by omega)
      have n0 : (((n : Nat) : Int) == 0) = false := by rw [hn] at hb0; exact hb0
      have npos : 0 < n := by omega
      have HS : Hid (A + n ≤ S) := (show A + n ≤ S from by omega)
      have H8 : Hid (n = 1 ∨ n = 2 ∨ n = 4 ∨ n = 8) := hn8
      have HF : Hid (Mm.Fit (fun i => m (A + i))) := hf
      clear hr hp hb hn hb0 hn8 hs h2 a1 hf
      go_enter Try.func17, Try.ntmps17
      go_wp2_with (first
        | (go_at_call 30; refine (bytes_any _ _).mono ?_; rw [HN.out]; rintro e w' ⟨rfl, rfl⟩)
        | (go_at_call 27; refine (room_in B D S m A n _ hm hS npos ha HS.out).mono ?_; rintro e w' ⟨rfl, rfl⟩)
        | (go_at_call 34; refine (pick_any D A n n (fun i => m (A + i)) _ H8.out (Nat.le_refl _) HF.out HC.out).mono ?_; rintro e w' ⟨rfl, rfl⟩; generalize Mm.ld (fun i => m (A + i)) 0 n = z at *)
        | (go_at_call 33; refine (canon_any _ _ _ r1 r2).mono ?_; rintro e w' ⟨rfl, rfl⟩))
      go_ret2
      rw [HE.out, HV.out]
      exact ⟨rfl, rfl⟩

end Go.Proofs.Ytnedflpcfpkbnaa
