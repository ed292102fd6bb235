/- has, unused, part, fits: contracts. -/
import Derived.Test.YtkpmhgkljedapaaRcLeaf
namespace Go.Proofs.Ytkpmhgkljedapaa
open Go.RowKit
set_option linter.unusedVariables false

namespace Mm
theorem and_255i (n : Int) : bits .and .i64 n 255 = n % 256 := by
  show IntKind.i64.wrap ((BitVec.ofInt 64 n &&& BitVec.ofInt 64 255).toNat : Int) = _
  have e : (BitVec.ofInt 64 n &&& BitVec.ofInt 64 255).toNat = (n % 256).toNat := by
    rw [BitVec.toNat_and, BitVec.toNat_ofInt, show (BitVec.ofInt 64 255).toNat = 2 ^ 8 - 1 from rfl, Nat.and_two_pow_sub_one_eq_mod]
    omega
  rw [e, IntKind.wrap_i64]
  omega
end Mm
namespace Rc
theorem has_true {s : ByteArray} {c : Int} {k : Nat} (hk : k < s.size) (h : ((s[k].toNat : Int) == c) = true) : hasS s c = true := by
  unfold hasS
  rw [List.any_eq_true]
  exact ⟨s[k], by simp [ByteArray.getElem_eq_getElem_data], h⟩
theorem has_false {s : ByteArray} {c : Int} (h : ∀ k (hk : k < s.size), ((s[k].toNat : Int) == c) = false) : hasS s c = false := by
  unfold hasS
  rw [List.any_eq_false]
  intro x hx
  obtain ⟨k, hk, rfl⟩ := List.getElem_of_mem hx
  have := h k (by simpa using hk)
  rw [ByteArray.getElem_eq_getElem_data] at this
  simp only [Array.getElem_toList]
  rw [this]; simp
end Rc

set_option maxHeartbeats 400000 in
theorem part_any (n : Int) (w : World) (h1 : -9223372036854775808 ≤ n) (h2 : n ≤ 9223372036854775807) :
    Calls Try.prog 34 #[.int .i64 n] w fun e w' => e = .returned (.tuple #[.int .i64 (n % 256), .int .i64 (n / 256)]) ∧ w' = w := by
  have HB : Hid (bits .and .i64 n 255 = n % 256) := Mm.and_255i n
  go_enter Try.func34, Try.ntmps34
  go_wp2
  go_ret2
  refine ⟨?_, rfl⟩
  rw [← HB.out]; rfl

set_option maxHeartbeats 400000 in
theorem ffits_any (c a b k n : Int) (w : World) :
    Calls Try.prog 31 #[.agg #[.int .i64 c, .int .i64 a, .int .i64 b, .int .i64 k, .int .i64 n]] w fun e w' => e = .returned (.bool (Rc.smallB n)) ∧ w.grownBy w' none := by
  go_enter Try.func31, Try.ntmps31
  go_wp2
  go_ret
  refine ⟨ret_bool ?_, World.grownBy_alloc _ _ _⟩
  unfold Rc.smallB wrap64 wrap32
  rw [Bool.eq_iff_iff]; simp; omega

set_option maxHeartbeats 400000 in
theorem has_any (s : ByteArray) (c : Int) (w : World) (hs : s.size ≤ 1000) :
    Calls Try.prog 23 #[.string s, .int .u8 c] w fun e w' => e = .returned (.bool (Rc.hasS s c)) ∧ w' = w := by
  go_enter Try.func23, Try.ntmps23
  go_wp2
  go_loopw [5] (fun i wr => ∃ k : Nat, k ≤ s.size ∧ i = .int .i64 k ∧ wr = w ∧ ∀ j (hj : j < s.size), j < k → ((s[j].toNat : Int) == c) = false) (fun i _ => s.size - (intOf i).toNat)
  case atStart => exact ⟨0, Nat.zero_le _, rfl, rfl, fun _ _ h => absurd h (Nat.not_lt_zero _)⟩
  case round =>
    obtain ⟨k, hk, rfl, rfl, hf⟩ := hrel
    have HF : Hid (∀ j (hj : j < s.size), j < k → ((s[j].toNat : Int) == c) = false) := hf
    clear hf
    by_cases hlt : k < s.size
    · cases hc : ((s[k].toNat : Int) == c)
      · go_wp2
        go_roundw
        case rel => 
          refine ⟨k + 1, by omega, by go_num, trivial, fun j hj h => ?_⟩
          by_cases e : j = k
          · subst e; exact hc
          · exact HF.out j hj (by omega)
        case measure => simp [intOf]; omega
      · have HT : Hid (Rc.hasS s c = true) := Rc.has_true hlt hc
        go_wp2
        go_ret
        exact ⟨ret_bool HT.out.symm, rfl⟩
    · have HT : Hid (Rc.hasS s c = false) := Rc.has_false fun j hj => HF.out j hj (by omega)
      go_wp2
      go_ret
      exact ⟨ret_bool HT.out.symm, rfl⟩

set_option maxHeartbeats 400000 in
theorem unused_any (s : ByteArray) (c n : Int) (w : World) (hs : s.size ≤ 1000) :
    Calls Try.prog 22 #[.string s, .int .u8 c, .int .i64 n] w fun e w' => e = .returned (.bool (Rc.hasS s c || n == 0)) ∧ w' = w := by
  cases hh : Rc.hasS s c
  all_goals
    go_enter Try.func22, Try.ntmps22
    go_wp2_with (go_at_call 23; refine (has_any _ _ _ hs).mono ?_; rw [hh]; rintro e w' ⟨rfl, rfl⟩)
    go_ret
    exact ⟨rfl, rfl⟩

end Go.Proofs.Ytkpmhgkljedapaa
