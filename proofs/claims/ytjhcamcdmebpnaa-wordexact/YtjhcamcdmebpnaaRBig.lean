/- The page's Un, Bin, Conv: contracts. -/
import Derived.Test.YtjhcamcdmebpnaaRBin
namespace Go.Proofs.Ytjhcamcdmebpnaa
open Go.RowKit
set_option linter.unusedVariables false

namespace Wd
/-- the word of an operation that there is, of words -/
def wv (op k x y : Int) : Int := if sgnB k then bs op k x y else bu op k x y
theorem wv_shl {k x y : Int} (k1 : 2 ≤ k) (k2 : k ≤ 9) (hw : canon k x = x) (hy : 0 ≤ y) (hy2 : y < 18446744073709551616) (h : y ≤ 63) : wv 9 k x y = canon k (x * 2 ^ y.toNat) := by
  unfold wv; rw [← bv_shift (.inl rfl) k1 k2 hw hy hy2, bv_shl k1 k2 hw hy hy2, show min y.toNat 64 = y.toNat by omega]
theorem wv_shl_far {k x y : Int} (k1 : 2 ≤ k) (k2 : k ≤ 9) (hw : canon k x = x) (hy2 : y < 18446744073709551616) (h : 63 < y) : wv 9 k x y = 0 := by
  unfold wv; rw [← bv_shift (.inl rfl) k1 k2 hw (by omega) hy2, shl_over k1 k2 hw (by omega) hy2]
theorem wv_shrS {k x y : Int} (k1 : 2 ≤ k) (k2 : k ≤ 9) (hs : sgnB k = true) (hw : canon k x = x) (hy : 0 ≤ y) (hy2 : y < 18446744073709551616) (h : y ≤ 63) : wv 10 k x y = (sg x / 2 ^ y.toNat) % 18446744073709551616 := by
  have k5 : k ≤ 5 := by simp [sgnB] at hs; omega
  unfold wv; rw [← bv_shift (.inr rfl) k1 k2 hw hy hy2, bv_shrS k1 k5 hw hy hy2, show min y.toNat 64 = y.toNat by omega]
theorem wv_shrS_far {k x y : Int} (k1 : 2 ≤ k) (k2 : k ≤ 9) (hs : sgnB k = true) (hw : canon k x = x) (hy2 : y < 18446744073709551616) (h : 63 < y) : wv 10 k x y = (sg x / 9223372036854775808) % 18446744073709551616 := by
  have k5 : k ≤ 5 := by simp [sgnB] at hs; omega
  unfold wv; rw [← bv_shift (.inr rfl) k1 k2 hw (by omega) hy2, bv_shrS k1 k5 hw (by omega) hy2, show min y.toNat 64 = 64 by omega, show (2 : Int) ^ 64 = 18446744073709551616 by decide]
  have := sg_in k1 k5 hw
  have := hf_le k1 k5
  omega
theorem wv_shrU {k x y : Int} (k1 : 2 ≤ k) (k2 : k ≤ 9) (hs : sgnB k = false) (hw : canon k x = x) (hy : 0 ≤ y) (hy2 : y < 18446744073709551616) (h : y ≤ 63) : wv 10 k x y = x / 2 ^ y.toNat := by
  have k5 : 6 ≤ k := by simp [sgnB] at hs; omega
  unfold wv; rw [← bv_shift (.inr rfl) k1 k2 hw hy hy2, bv_shrU k5 k2 hw hy hy2, show min y.toNat 64 = y.toNat by omega]
theorem wv_shrU_far {k x y : Int} (k1 : 2 ≤ k) (k2 : k ≤ 9) (hs : sgnB k = false) (hw : canon k x = x) (hy2 : y < 18446744073709551616) (h : 63 < y) : wv 10 k x y = 0 := by
  have k5 : 6 ≤ k := by simp [sgnB] at hs; omega
  have := word_nn hw
  unfold wv; rw [← bv_shift (.inr rfl) k1 k2 hw (by omega) hy2, bv_shrU k5 k2 hw (by omega) hy2, show min y.toNat 64 = 64 by omega, show (2 : Int) ^ 64 = 18446744073709551616 by decide]
  omega
end Wd

set_option maxHeartbeats 1000000 in
theorem shifted_any (op k x y : Int) (w : World) (hx : 0 ≤ x) (hx2 : x < 18446744073709551616) (hy : 0 ≤ y) (hy2 : y < 18446744073709551616) (ho : op = 9 ∨ op = 10) (k1 : 2 ≤ k) (k2 : k ≤ 9) (hw : Wd.canon k x = x) :
    Calls Try.prog 41 #[.int .i64 op, .int .i64 k, .int .u64 x, .int .u64 y] w fun e w' => e = .returned (.int .u64 (Wd.wv op k x y)) ∧ w' = w := by
  have Hw : Hid (Wd.canon k x = x) := hw
  clear hw
  by_cases h64 : y ≤ 63
  · rcases ho with rfl | rfl
    · have Hv : Hid (_ = _) := Wd.wv_shl k1 k2 Hw.out hy hy2 h64
      go_enter Try.func41, Try.ntmps41
      go_wp2_with (go_at_call 20; refine (rcanon_any _ _ _ (wrap_rng _).1 (wrap_rng _).2).mono ?_; rintro e w' ⟨rfl, rfl⟩)
      go_ret
      exact ⟨ret_u64 (by rw [Hv.out, Wd.canon_wrap]), rfl⟩
    · cases hs : Wd.sgnB k
      · have Hv : Hid (_ = _) := Wd.wv_shrU k1 k2 hs Hw.out hy hy2 h64
        go_enter Try.func41, Try.ntmps41
        go_wp2_with (go_at_call 45; refine (rsigned_any _ _).mono ?_; rintro e w' ⟨rfl, rfl⟩)
        go_ret
        exact ⟨ret_u64 (by rw [Hv.out]), rfl⟩
      · have Hv : Hid (_ = _) := Wd.wv_shrS k1 k2 hs Hw.out hy hy2 h64
        go_enter Try.func41, Try.ntmps41
        go_wp2_with (go_at_call 45; refine (rsigned_any _ _).mono ?_; rintro e w' ⟨rfl, rfl⟩)
        go_ret
        exact ⟨ret_u64 (by rw [Hv.out, IntKind.wrap_u64, sg_wrap]), rfl⟩
  · rcases ho with rfl | rfl
    · have Hv : Hid (_ = _) := Wd.wv_shl_far k1 k2 Hw.out hy2 (by omega)
      go_enter Try.func41, Try.ntmps41
      go_wp2
      go_ret
      exact ⟨ret_u64 (by rw [Hv.out]), rfl⟩
    · cases hs : Wd.sgnB k
      · have Hv : Hid (_ = _) := Wd.wv_shrU_far k1 k2 hs Hw.out hy2 (by omega)
        go_enter Try.func41, Try.ntmps41
        go_wp2_with (go_at_call 45; refine (rsigned_any _ _).mono ?_; rintro e w' ⟨rfl, rfl⟩)
        go_ret
        exact ⟨ret_u64 (by rw [Hv.out]), rfl⟩
      · have Hv : Hid (_ = _) := Wd.wv_shrS_far k1 k2 hs Hw.out hy2 (by omega)
        go_enter Try.func41, Try.ntmps41
        go_wp2_with (go_at_call 45; refine (rsigned_any _ _).mono ?_; rintro e w' ⟨rfl, rfl⟩)
        go_ret
        exact ⟨ret_u64 (by rw [Hv.out, IntKind.wrap_u64, sg_wrap]), rfl⟩

namespace Wd
theorem wv_plain {op k x y : Int} (o : op ≤ 8) (o4 : op ≠ 4) (o5 : op ≠ 5) : wv op k x y = bu op k x y := by
  unfold wv; split
  · rw [bsu op k x y (by omega) o4 o5 (by omega)]
  · rfl
theorem wv1 (k x y : Int) : wv 1 k x y = canon k (x + y) := wv_plain (by omega) (by omega) (by omega)
theorem wv2 (k x y : Int) : wv 2 k x y = canon k (x - y) := wv_plain (by omega) (by omega) (by omega)
theorem wv3 (k x y : Int) : wv 3 k x y = canon k (x * y) := wv_plain (by omega) (by omega) (by omega)
theorem wv6 (k x y : Int) : wv 6 k x y = canon k (x.toNat &&& y.toNat : Nat) := wv_plain (by omega) (by omega) (by omega)
theorem wv7 (k x y : Int) : wv 7 k x y = canon k (x.toNat ||| y.toNat : Nat) := wv_plain (by omega) (by omega) (by omega)
theorem wv8 (k x y : Int) : wv 8 k x y = canon k (x.toNat ^^^ y.toNat : Nat) := wv_plain (by omega) (by omega) (by omega)
theorem wvc {op k x y : Int} (o : 11 ≤ op) : wv op k x y = cmpI op (nm k x) (nm k y) := by
  unfold wv nm; split
  · exact bsc op k x y o
  · exact buc op k x y o
theorem nm_inj {k x y : Int} (a1 : 0 ≤ x) (a2 : x < 18446744073709551616) (b1 : 0 ≤ y) (b2 : y < 18446744073709551616) : (nm k x = nm k y) ↔ x = y := by
  unfold nm; split
  · unfold sg; omega
  · rfl
theorem wv11 {k x y : Int} (a1 : 0 ≤ x) (a2 : x < 18446744073709551616) (b1 : 0 ≤ y) (b2 : y < 18446744073709551616) : wv 11 k x y = tr (x == y) := by
  rw [wvc (by omega)]; show tr (nm k x == nm k y) = _
  congr 1; rw [Bool.eq_iff_iff, beq_iff_eq, beq_iff_eq, nm_inj a1 a2 b1 b2]
theorem wv12 {k x y : Int} (a1 : 0 ≤ x) (a2 : x < 18446744073709551616) (b1 : 0 ≤ y) (b2 : y < 18446744073709551616) : wv 12 k x y = tr (x != y) := by
  rw [wvc (by omega)]; show tr (nm k x != nm k y) = _
  congr 1; rw [Bool.eq_iff_iff, bne_iff_ne, bne_iff_ne, Ne, Ne, nm_inj a1 a2 b1 b2]
theorem wv13 (k x y : Int) : wv 13 k x y = tr (decide (nm k x < nm k y)) := wvc (by omega)
theorem wv14 (k x y : Int) : wv 14 k x y = tr (!decide (nm k y < nm k x)) := by
  rw [wvc (by omega)]; show tr (decide (nm k x ≤ nm k y)) = _
  congr 1; rw [Bool.eq_iff_iff]; simp
theorem wv15 (k x y : Int) : wv 15 k x y = tr (decide (nm k y < nm k x)) := wvc (by omega)
theorem wv16 (k x y : Int) : wv 16 k x y = tr (!decide (nm k x < nm k y)) := by
  rw [wvc (by omega)]; show tr (decide (nm k y ≤ nm k x)) = _
  congr 1; rw [Bool.eq_iff_iff]; simp
end Wd

theorem divided_any (k x y : Int) (w : World) (hx : 0 ≤ x) (hx2 : x < 18446744073709551616) (hy : 0 < y) (hy2 : y < 18446744073709551616) (k1 : 2 ≤ k) (k2 : k ≤ 9) (hw : Wd.canon k x = x) (hv : Wd.canon k y = y) :
    Calls Try.prog 40 #[.int .i64 k, .int .u64 x, .int .u64 y] w fun e w' => e = .returned (.tuple #[.int .u64 (Wd.wv 4 k x y), .int .u64 (Wd.wv 5 k x y)]) ∧ ∃ n, w' = w.drewN n := by
  cases hs : Wd.sgnB k
  · have k6 : 6 ≤ k := by simp [Wd.sgnB] at hs; omega
    have ux := Wd.u_in k6 k2 hw
    have e4 : Wd.wv 4 k x y = x / y := by
      unfold Wd.wv; rw [hs, if_neg (by simp), Wd.bu4, Wd.canon_uin k6 k2 (Int.ediv_nonneg hx (by omega)) (Int.lt_of_le_of_lt (Int.ediv_le_self _ hx) ux.2)]
    have e5 : Wd.wv 5 k x y = x % y := by
      unfold Wd.wv; rw [hs, if_neg (by simp), Wd.bu5, Wd.canon_uin k6 k2 (Int.emod_nonneg x (by omega)) (Int.lt_trans (Int.emod_lt_of_pos x hy) (Wd.u_in k6 k2 hv).2)]
    rw [e4, e5]
    exact rdivU k x y w hx hx2 hy hy2 hs
  · have e4 : Wd.wv 4 k x y = Wd.canon k ((Wd.sg x).tdiv (Wd.sg y)) := by unfold Wd.wv; rw [hs, if_pos rfl, Wd.bs4]
    have e5 : Wd.wv 5 k x y = Wd.canon k ((Wd.sg x).tmod (Wd.sg y)) := by unfold Wd.wv; rw [hs, if_pos rfl, Wd.bs5]
    rw [e4, e5]
    cases hm : (wrap64 y == -1)
    · exact rdivS k x y w hy hy2 hs hm
    · have e : Wd.sg y = -1 := by rw [← sg_wrap]; simpa using hm
      have f4 : Wd.canon k ((Wd.sg x).tdiv (Wd.sg y)) = Wd.canon k (-x) := by
        rw [e, Int.tdiv_neg, Int.tdiv_one]
        exact Wd.Cg.eq k1 k2 (Wd.Cg.neg (Wd.Cg.sg k1 k2))
      have f5 : Wd.canon k ((Wd.sg x).tmod (Wd.sg y)) = 0 := by
        rw [e, Int.tmod_neg, Int.tmod_one, Wd.canon_zero]
      rw [f4, f5]
      exact rdivM k x y w hx hx2 hs hm

set_option maxHeartbeats 2000000 in
theorem rbin_arith (op k x y : Int) (w : World) (hx : 0 ≤ x) (hx2 : x < 18446744073709551616) (hy : 0 ≤ y) (hy2 : y < 18446744073709551616) (hk : (k == 10) = false) (ho : op = 1 ∨ op = 2 ∨ op = 3)
    (hh : Wd.hasBinB op k = true) (hix : Wd.isB k x = true) (hiy : Wd.isB k y = true) :
    Calls Try.prog 12 #[.int .i64 op, .int .i64 k, .int .u64 x, .int .u64 y] w fun e w' => e = .returned (.tuple #[.int .u64 (Wd.wv op k x y), .int .i64 0]) ∧ w' = w := by
  rcases ho with rfl | rfl | rfl
  all_goals
    go_enter Try.func12, Try.ntmps12
    go_wp2_with (first | (go_at_call 36; refine (rhasBin_any _ _ _).mono ?_; rintro e w' ⟨rfl, rfl⟩) | (go_at_call 22; refine (ris_any _ _ _ (by assumption) (by assumption)).mono ?_; rintro e w' ⟨rfl, rfl⟩) | (go_at_call 37; go_in) | (go_at_call 20; refine (rcanon_any _ _ _ (wrap_rng _).1 (wrap_rng _).2).mono ?_; rintro e w' ⟨rfl, rfl⟩))
    go_ret2
    refine ⟨?_, rfl⟩
    simp only [Wd.canon_wrap, Wd.wv1, Wd.wv2, Wd.wv3]
    rfl

end Go.Proofs.Ytjhcamcdmebpnaa
