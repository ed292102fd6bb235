/- Words modulo 2^width: plain arithmetic. -/
import Derived.Test.YtkpmhgkljedapaaBin
namespace Go.Proofs.Ytkpmhgkljedapaa
namespace Wd

/-- 2^width -/
def pw (k : Int) : Int := if k = 1 then 2 else if k = 2 ∨ k = 6 then 256 else if k = 3 ∨ k = 7 then 65536 else if k = 4 ∨ k = 8 then 4294967296 else 18446744073709551616

theorem ints {k : Int} (h1 : 2 ≤ k) (h2 : k ≤ 9) : k = 2 ∨ k = 3 ∨ k = 4 ∨ k = 5 ∨ k = 6 ∨ k = 7 ∨ k = 8 ∨ k = 9 := by omega
theorem pw2 : pw 2 = 256 := rfl
theorem pw3 : pw 3 = 65536 := rfl
theorem pw4 : pw 4 = 4294967296 := rfl
theorem pw5 : pw 5 = 18446744073709551616 := rfl
theorem pw6 : pw 6 = 256 := rfl
theorem pw7 : pw 7 = 65536 := rfl
theorem pw8 : pw 8 = 4294967296 := rfl
theorem pw9 : pw 9 = 18446744073709551616 := rfl

theorem canon_add (k z s : Int) (h1 : 2 ≤ k) (h2 : k ≤ 9) : canon k (z + pw k * s) = canon k z := by
  rcases ints h1 h2 with h | h | h | h | h | h | h | h <;> (subst h; simp only [canon2, canon3, canon4, canon5, canon6, canon7, canon8, canon9, pw2, pw3, pw4, pw5, pw6, pw7, pw8, pw9]; omega)
theorem canon_is (k a : Int) (h1 : 2 ≤ k) (h2 : k ≤ 9) : ∃ t, canon k a = a + pw k * t := by
  refine ⟨(canon k a - a) / pw k, ?_⟩
  rcases ints h1 h2 with h | h | h | h | h | h | h | h <;> (subst h; simp only [canon2, canon3, canon4, canon5, canon6, canon7, canon8, canon9, pw2, pw3, pw4, pw5, pw6, pw7, pw8, pw9]; omega)
theorem canon_eq {k a b : Int} (h1 : 2 ≤ k) (h2 : k ≤ 9) (t : Int) (h : a = b + pw k * t) : canon k a = canon k b := by rw [h, canon_add k b t h1 h2]
theorem pw_dvd {k : Int} (h1 : 2 ≤ k) (h2 : k ≤ 9) : ∃ t, (18446744073709551616 : Int) = pw k * t := by
  refine ⟨18446744073709551616 / pw k, ?_⟩
  rcases ints h1 h2 with h | h | h | h | h | h | h | h <;> (subst h; simp only [pw2, pw3, pw4, pw5, pw6, pw7, pw8, pw9]; omega)
theorem canon_mul (k a c : Int) (h1 : 2 ≤ k) (h2 : k ≤ 9) : canon k (canon k a * c) = canon k (a * c) := by
  obtain ⟨t, ht⟩ := canon_is k a h1 h2
  exact canon_eq h1 h2 (t * c) (by rw [ht, Int.add_mul, Int.mul_assoc])
theorem canon_zero (k : Int) : canon k 0 = 0 := by
  rcases kinds k with h | h | h | h | h | h | h | h | h | h | h | h <;> first | (subst h; rfl) | exact canon_out k 0 h


theorem canon_over (k x : Int) (h1 : 2 ≤ k) (h2 : k ≤ 9) (c : Int) : canon k (x * 18446744073709551616 * c) = 0 := by
  obtain ⟨t, ht⟩ := pw_dvd h1 h2
  rw [canon_eq (b := 0) h1 h2 (x * t * c) (by rw [ht, Int.zero_add]; simp only [Int.mul_assoc, Int.mul_left_comm]), canon_zero]

theorem sgn_of {k : Int} (h1 : 2 ≤ k) (h2 : k ≤ 9) : sgnB k = true ∧ k ≤ 5 ∨ sgnB k = false ∧ 6 ≤ k := by
  by_cases h : k ≤ 5
  · left; exact ⟨by simp [sgnB]; omega, h⟩
  · right; exact ⟨by simp [sgnB]; omega, by omega⟩

theorem is_word {k x : Int} (h1 : 1 ≤ k) (h2 : k ≤ 11) (hw : canon k x = x) : isB k x = true := by simp [isB, h1, h2, hw]
theorem is_u64 {n : Int} (h1 : 0 ≤ n) (h2 : n < 18446744073709551616) : isB 9 n = true := is_word (by omega) (by omega) (by rw [canon9]; omega)

theorem bv_shift {op k x n : Int} (ho : op = 9 ∨ op = 10) (h1 : 2 ≤ k) (h2 : k ≤ 9) (hw : canon k x = x) (n1 : 0 ≤ n) (n2 : n < 18446744073709551616) :
    bv op k x n = if sgnB k then bs op k x n else bu op k x n := by
  have hh : hasBinB op k = true := by
    have : intB k = true := by simp [intB]; omega
    rcases ho with rfl | rfl <;> simp [hasBinB, this]
  have hs : shB op = true := by rcases ho with rfl | rfl <;> rfl
  have i1 : isB k x = true := is_word (by omega) (by omega) hw
  have i2 := is_u64 n1 n2
  unfold bv binI
  rw [if_neg (by rw [hh]; simp), hs, if_neg (by simp [i1, i2]), if_neg (by omega)]
  split <;> rfl

theorem bv_shl {k x n : Int} (h1 : 2 ≤ k) (h2 : k ≤ 9) (hw : canon k x = x) (n1 : 0 ≤ n) (n2 : n < 18446744073709551616) : bv 9 k x n = canon k (x * 2 ^ min n.toNat 64) := by
  rw [bv_shift (.inl rfl) h1 h2 hw n1 n2]
  split
  · rw [bsu 9 k x n (by omega) (by omega) (by omega) (by omega), bu9]
  · rw [bu9]

theorem shl_over {k x n : Int} (h1 : 2 ≤ k) (h2 : k ≤ 9) (hw : canon k x = x) (n1 : 64 ≤ n) (n2 : n < 18446744073709551616) : bv 9 k x n = 0 := by
  rw [bv_shl h1 h2 hw (by omega) n2, show min n.toNat 64 = 64 by omega]
  have := canon_over k x h1 h2 1
  rw [Int.mul_one] at this
  exact this

theorem shl_step {k x n : Int} (h1 : 2 ≤ k) (h2 : k ≤ 9) (hw : canon k x = x) (n1 : 0 ≤ n) (n2 : n + 1 < 18446744073709551616) : bv 9 k (bv 9 k x n) 1 = bv 9 k x (n + 1) := by
  have e := bv_shl h1 h2 hw n1 (by omega)
  rw [bv_shl h1 h2 (by rw [e, canon_canon]) (by omega) (by omega), e, canon_mul k _ _ h1 h2]
  by_cases h : n < 64
  · rw [bv_shl h1 h2 hw (by omega) n2, show min n.toNat 64 = n.toNat by omega, show min (n + 1).toNat 64 = n.toNat + 1 by omega, Int.pow_succ, Int.mul_assoc]; rfl
  · rw [shl_over h1 h2 hw (by omega) n2, show min n.toNat 64 = 64 by omega]
    exact canon_over k x h1 h2 2

/-- how far the numbers of a signed kind go -/
def hf (k : Int) : Int := if k = 2 then 128 else if k = 3 then 32768 else if k = 4 then 2147483648 else 9223372036854775808
theorem hf2 : hf 2 = 128 := rfl
theorem hf3 : hf 3 = 32768 := rfl
theorem hf4 : hf 4 = 2147483648 := rfl
theorem hf5 : hf 5 = 9223372036854775808 := rfl
theorem signs {k : Int} (h1 : 2 ≤ k) (h2 : k ≤ 5) : k = 2 ∨ k = 3 ∨ k = 4 ∨ k = 5 := by omega
theorem sg_in {k x : Int} (h1 : 2 ≤ k) (h2 : k ≤ 5) (hw : canon k x = x) : -hf k ≤ sg x ∧ sg x < hf k := by
  rcases signs h1 h2 with h | h | h | h <;> (subst h; simp only [canon2, canon3, canon4, canon5] at hw; simp only [hf2, hf3, hf4, hf5, sg]; omega)
theorem hf_le {k : Int} (h1 : 2 ≤ k) (h2 : k ≤ 5) : 128 ≤ hf k ∧ hf k ≤ 9223372036854775808 := by
  rcases signs h1 h2 with h | h | h | h <;> (subst h; decide)
theorem canon_in {k s : Int} (h1 : 2 ≤ k) (h2 : k ≤ 5) (a : -hf k ≤ s) (b : s < hf k) : canon k (s % 18446744073709551616) = s % 18446744073709551616 := by
  rcases signs h1 h2 with h | h | h | h <;> (subst h; simp only [hf2, hf3, hf4, hf5] at a b; simp only [canon2, canon3, canon4, canon5]; omega)
theorem sg_mod {k s : Int} (h1 : 2 ≤ k) (h2 : k ≤ 5) (a : -hf k ≤ s) (b : s < hf k) : sg (s % 18446744073709551616) = s := by
  have := hf_le h1 h2
  unfold sg; omega
theorem div_in {h s : Int} (m : Nat) (h0 : 0 ≤ h) (a : -h ≤ s) (b : s < h) : -h ≤ s / 2 ^ m ∧ s / 2 ^ m < h := by
  have p : (0 : Int) < 2 ^ m := Int.pow_pos (by omega)
  have q : h * 1 ≤ h * 2 ^ m := Int.mul_le_mul_of_nonneg_left (by omega) h0
  exact ⟨Int.le_ediv_of_mul_le p (by rw [Int.neg_mul]; omega), Int.ediv_lt_of_lt_mul p (by omega)⟩

theorem uns {k : Int} (h1 : 6 ≤ k) (h2 : k ≤ 9) : k = 6 ∨ k = 7 ∨ k = 8 ∨ k = 9 := by omega
theorem u_in {k x : Int} (h1 : 6 ≤ k) (h2 : k ≤ 9) (hw : canon k x = x) : 0 ≤ x ∧ x < pw k := by
  rcases uns h1 h2 with h | h | h | h <;> (subst h; simp only [canon6, canon7, canon8, canon9] at hw; simp only [pw6, pw7, pw8, pw9]; omega)
theorem canon_uin {k x : Int} (h1 : 6 ≤ k) (h2 : k ≤ 9) (a : 0 ≤ x) (b : x < pw k) : canon k x = x := by
  rcases uns h1 h2 with h | h | h | h <;> (subst h; simp only [pw6, pw7, pw8, pw9] at b; simp only [canon6, canon7, canon8, canon9]; omega)

theorem bv_shrS {k x n : Int} (h1 : 2 ≤ k) (h2 : k ≤ 5) (hw : canon k x = x) (n1 : 0 ≤ n) (n2 : n < 18446744073709551616) : bv 10 k x n = (sg x / 2 ^ min n.toNat 64) % 18446744073709551616 := by
  rw [bv_shift (.inr rfl) h1 (by omega) hw n1 n2, if_pos (by simp [sgnB]; omega), bs10]
theorem bv_shrU {k x n : Int} (h1 : 6 ≤ k) (h2 : k ≤ 9) (hw : canon k x = x) (n1 : 0 ≤ n) (n2 : n < 18446744073709551616) : bv 10 k x n = x / 2 ^ min n.toNat 64 := by
  have ⟨a, b⟩ := u_in h1 h2 hw
  rw [bv_shift (.inr rfl) (by omega) h2 hw n1 n2, if_neg (by simp [sgnB]; omega), bu10, canon_uin h1 h2 (Int.ediv_nonneg a (by have := Int.pow_pos (n := 2) (m := min n.toNat 64) (by omega); omega)) (Int.lt_of_le_of_lt (Int.ediv_le_self _ a) b)]

theorem shr_word {k x n : Int} (h1 : 2 ≤ k) (h2 : k ≤ 9) (hw : canon k x = x) (n1 : 0 ≤ n) (n2 : n < 18446744073709551616) : canon k (bv 10 k x n) = bv 10 k x n := by
  by_cases h : k ≤ 5
  · have ⟨a, b⟩ := sg_in h1 h hw
    have ⟨c, d⟩ := div_in (min n.toNat 64) (by have := hf_le h1 h; omega) a b
    rw [bv_shrS h1 h hw n1 n2, canon_in h1 h c d]
  · have ⟨a, b⟩ := u_in (by omega) h2 hw
    rw [bv_shrU (by omega) h2 hw n1 n2, canon_uin (by omega) h2 (Int.ediv_nonneg a (by have := Int.pow_pos (n := 2) (m := min n.toNat 64) (by omega); omega)) (Int.lt_of_le_of_lt (Int.ediv_le_self _ a) b)]

theorem half_far {s : Int} (a : -9223372036854775808 ≤ s) (b : s < 18446744073709551616) : s / 2 ^ 64 / 2 = s / 2 ^ 64 := by
  have : (2 : Int) ^ 64 = 18446744073709551616 := by decide
  rw [this]; omega

theorem step_div {s n : Int} (n1 : 0 ≤ n) (a : -9223372036854775808 ≤ s) (b : s < 18446744073709551616) : s / 2 ^ min n.toNat 64 / 2 ^ min (1 : Int).toNat 64 = s / 2 ^ min (n + 1).toNat 64 := by
  rw [show (2 : Int) ^ min (1 : Int).toNat 64 = 2 from rfl]
  by_cases h : n < 64
  · rw [show min n.toNat 64 = n.toNat by omega, show min (n + 1).toNat 64 = n.toNat + 1 by omega, Int.pow_succ, Int.ediv_ediv_of_nonneg (by have := Int.pow_pos (n := 2) (m := n.toNat) (by omega); omega)]
  · rw [show min n.toNat 64 = 64 by omega, show min (n + 1).toNat 64 = 64 by omega, half_far a b]

theorem shr_step {k x n : Int} (h1 : 2 ≤ k) (h2 : k ≤ 9) (hw : canon k x = x) (n1 : 0 ≤ n) (n2 : n + 1 < 18446744073709551616) : bv 10 k (bv 10 k x n) 1 = bv 10 k x (n + 1) := by
  have hw' := shr_word h1 h2 hw n1 (by omega)
  by_cases h : k ≤ 5
  · have ⟨a, b⟩ := sg_in h1 h hw
    have hh := hf_le h1 h
    have ⟨c, d⟩ := div_in (min n.toNat 64) (by omega) a b
    rw [bv_shrS h1 h hw' (by omega) (by omega), bv_shrS h1 h hw n1 (by omega), sg_mod h1 h c d, bv_shrS h1 h hw (by omega) n2, step_div n1 (by omega) (by omega)]
  · have ⟨a, b⟩ := u_in (by omega) h2 hw
    have hp : pw k ≤ 18446744073709551616 := by rcases uns (by omega) h2 with h | h | h | h <;> (subst h; decide)
    rw [bv_shrU (by omega) h2 hw' (by omega) (by omega), bv_shrU (by omega) h2 hw n1 (by omega), bv_shrU (by omega) h2 hw (by omega) n2, step_div n1 (by omega) (by omega)]

theorem shr_far {k x n : Int} (h1 : 2 ≤ k) (h2 : k ≤ 9) (hw : canon k x = x) (n1 : 64 ≤ n) (n2 : n < 18446744073709551616) : bv 10 k x n = bv 10 k x 64 := by
  by_cases h : k ≤ 5
  · rw [bv_shrS h1 h hw (by omega) n2, bv_shrS h1 h hw (by omega) (by omega), show min n.toNat 64 = 64 by omega]; rfl
  · rw [bv_shrU (by omega) h2 hw (by omega) n2, bv_shrU (by omega) h2 hw (by omega) (by omega), show min n.toNat 64 = 64 by omega]; rfl

theorem shl_none {k x : Int} (h1 : 2 ≤ k) (h2 : k ≤ 9) (hw : canon k x = x) : bv 9 k x 0 = x := by
  rw [bv_shl h1 h2 hw (by omega) (by omega)]; show canon k (x * 1) = x; rw [Int.mul_one, hw]
theorem shr_none {k x : Int} (h1 : 2 ≤ k) (h2 : k ≤ 9) (hx : 0 ≤ x) (hx2 : x < 18446744073709551616) (hw : canon k x = x) : bv 10 k x 0 = x := by
  by_cases h : k ≤ 5
  · rw [bv_shrS h1 h hw (by omega) (by omega)]; show (sg x / 1) % _ = x; rw [Int.ediv_one]; unfold sg; omega
  · rw [bv_shrU (by omega) h2 hw (by omega) (by omega)]; show x / 1 = x; rw [Int.ediv_one]
theorem bv_rng {op k x y : Int} : 0 ≤ bv op k x y ∧ bv op k x y < 18446744073709551616 := by
  have c : ∀ a b, 0 ≤ cmpI op a b ∧ cmpI op a b < 18446744073709551616 := fun a b => by rcases cmpI_tr (op := op) (a := a) (b := b) with h | h <;> rw [h] <;> omega
  have u : 0 ≤ bu op k x y ∧ bu op k x y < 18446744073709551616 := by
    unfold bu; repeat' split
    all_goals first | exact canon_rng _ _ | exact c _ _
  have v : 0 ≤ bs op k x y ∧ bs op k x y < 18446744073709551616 := by
    unfold bs; repeat' split
    all_goals first | exact canon_rng _ _ | exact c _ _ | exact u | omega
  unfold bv binI
  repeat' split
  all_goals first | exact u | exact v | (show (0 : Int) ≤ 0 ∧ (0 : Int) < 18446744073709551616; omega)

end Wd
end Go.Proofs.Ytkpmhgkljedapaa
