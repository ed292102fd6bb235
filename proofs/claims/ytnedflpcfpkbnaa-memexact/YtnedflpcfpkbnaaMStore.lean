/- (*Mem).Store: contract. -/
import Derived.Test.YtnedflpcfpkbnaaMLoad
namespace Go.Proofs.Ytnedflpcfpkbnaa
open Go.RowKit
set_option linter.unusedVariables false

theorem IsMem.put {t : TypeId} {w w' : World} {B D S : Nat} {m m' : Nat → Int} (h : IsMem t w B D S m) (hg : w.grownBy w' (some D)) (ht : t ≠ 5) (hr : w'.rowIs D 5 S (fun i => .int .u8 (m' i))) (hf : Mm.Fit m') : IsMem t w' B D S m' := by
  refine ⟨h.head.of_block (hg.block B h.head.lt ?_), hr, hf⟩
  intro e
  injection e with e
  subst e
  obtain ⟨c, hc, _⟩ := h.head
  obtain ⟨d, hd, _⟩ := h.row
  rw [hc] at hd
  injection hd with hd
  injection hd with _ hd
  exact ht hd

theorem IsMem.apart {t : TypeId} {w : World} {B D S : Nat} {m : Nat → Int} (h : IsMem t w B D S m) (ht : t ≠ 5) : B ≠ D := by
  intro e
  subst e
  obtain ⟨c, hc, _⟩ := h.head
  obtain ⟨d, hd, _⟩ := h.row
  rw [hc] at hd
  injection hd with hd
  injection hd with _ hd
  exact ht hd

set_option maxHeartbeats 800000 in
theorem store_any (B D S : Nat) (m : Nat → Int) (a k x : Int) (w : World) (hm : IsM w B D S m) (hS : (S : Int) ≤ 1048576) (a1 : 0 ≤ a) (a2 : a < 18446744073709551616) (x1 : 0 ≤ x) (x2 : x < 18446744073709551616) :
    Calls Try.prog 15 #[.pointer (some ⟨B, 0, none⟩), .int .u64 a, .int .i64 k, .int .u64 x] w fun e w' => e = .returned (.int .i64 (Mm.sE S k a x)) ∧ IsM w' B D S (Mm.sM S m k a x) ∧ w.grownBy w' (some D) := by
  rcases Mm.by_cases k with ⟨hk, hb⟩ | ⟨hk, hb⟩
  · have hb0 : (Wd.by' k == 0) = true := by rw [hb]; rfl
    have HE : Hid (Mm.sE S k a x = 10) := Mm.sE_no hk
    have HV : Hid (Mm.sM S m k a x = m) := Mm.sM_no hk
    clear hb
    go_enter Try.func15, Try.ntmps15
    go_wp2_with (go_at_call 30; refine (bytes_any _ _).mono ?_; rintro e w' ⟨rfl, rfl⟩)
    go_ret
    rw [HE.out, HV.out]
    exact ⟨rfl, hm, World.grownBy.refl _ _⟩
  · have hb0 : (Wd.by' k == 0) = false := by rcases hb with h | h | h | h <;> rw [h] <;> rfl
    cases h1 : Wd.isB k x
    · have HE : Hid (Mm.sE S k a x = 11) := Mm.sE_form hk h1
      have HV : Hid (Mm.sM S m k a x = m) := Mm.sM_form h1
      clear hb
      go_enter Try.func15, Try.ntmps15
      go_wp2_with (first
        | (go_at_call 30; refine (bytes_any _ _).mono ?_; rintro e w' ⟨rfl, rfl⟩)
        | (go_at_call 31; refine (is_any _ _ _ x1 x2).mono ?_; rintro e w' ⟨rfl, rfl⟩))
      go_ret
      rw [HE.out, HV.out]
      exact ⟨rfl, hm, World.grownBy.refl _ _⟩
    · cases h2 : Mm.hasB S a (Wd.by' k)
      · have HE : Hid (Mm.sE S k a x = 21) := Mm.sE_out hk h1 h2
        have HV : Hid (Mm.sM S m k a x = m) := Mm.sM_out h2
        have ho := Mm.has_out h2
        have hlo : -9223372036854775808 ≤ Wd.by' k := by omega
        have hhi : Wd.by' k ≤ 9223372036854775807 := by omega
        obtain ⟨n, hn⟩ : ∃ n, Wd.by' k = n := ⟨_, rfl⟩
        rw [hn] at hb0 ho hlo hhi
        have HN : Hid (Wd.by' k = n) := hn
        have HO : Hid (a < 4096 ∨ (S : Int) < a + n) := ho
        clear hb h2 ho hn
        go_enter Try.func15, Try.ntmps15
        go_wp2_with (first
          | (go_at_call 30; refine (bytes_any _ _).mono ?_; rw [HN.out]; rintro e w' ⟨rfl, rfl⟩)
          | (go_at_call 31; refine (is_any _ _ _ x1 x2).mono ?_; rintro e w' ⟨rfl, rfl⟩)
          | (go_at_call 27; refine (room_out B D S m _ _ _ hm hS a1 a2 hlo hhi hb0 (Or.inr HO.out)).mono ?_; rintro e w' ⟨rfl, rfl⟩))
        go_ret
        rw [HE.out, HV.out]
        exact ⟨rfl, hm, World.grownBy.refl _ _⟩
      · have HE : Hid (Mm.sE S k a x = 0) := Mm.sE_in hk h1 h2
        obtain ⟨ha, hs⟩ := Mm.has_in h2
        obtain ⟨A, rfl⟩ := Int.eq_ofNat_of_zero_le a1
        obtain ⟨n, hn⟩ : ∃ n : Nat, Wd.by' k = n := ⟨(Wd.by' k).toNat, by omega⟩
        have HV : Hid (Mm.sM S m k A x = Mm.pt m A n (Mm.by8 x)) := by
          show _ = _
          rw [Mm.sM_in hk h1 h2, hn, Int.toNat_natCast, Int.toNat_natCast]
        have hn8 : n = 1 ∨ n = 2 ∨ n = 4 ∨ n = 8 := by omega
        have HN : Hid (Wd.by' k = n) := hn
        have n0 : (((n : Nat) : Int) == 0) = false := by rw [hn] at hb0; exact hb0
        have npos : 0 < n := by omega
        have HS : Hid (A + n ≤ S) := (show A + n ≤ S from by omega)
        have H8 : Hid (n = 1 ∨ n = 2 ∨ n = 4 ∨ n = 8) := hn8
        clear hb hn hb0 hn8 hs h2 a1
        go_enter Try.func15, Try.ntmps15
        go_wp2_with (first
          | (go_at_call 30; refine (bytes_any _ _).mono ?_; rw [HN.out]; rintro e w' ⟨rfl, rfl⟩)
          | (go_at_call 31; refine (is_any _ _ _ x1 x2).mono ?_; rintro e w' ⟨rfl, rfl⟩)
          | (go_at_call 27; refine (room_in B D S m A n _ hm hS npos ha HS.out).mono ?_; rintro e w' ⟨rfl, rfl⟩)
          | (go_at_call 32; refine (lay_any D S A n n m x _ H8.out x1 x2 (Nat.le_refl _) HS.out hm.row).mono ?_; rintro e w2 ⟨rfl, hr2, hg2⟩))
        go_ret
        rw [HE.out, HV.out]
        exact ⟨rfl, hm.put hg2 (by decide) hr2 (Mm.pt_fit hm.fit (Mm.by8_fit x) _ _), hg2⟩

end Go.Proofs.Ytnedflpcfpkbnaa
