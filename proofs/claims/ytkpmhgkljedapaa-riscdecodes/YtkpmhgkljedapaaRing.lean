/- The laws of words that are whole numbers: plain arithmetic. -/
import Derived.Test.YtkpmhgkljedapaaModulo
import Derived.Test.YtkpmhgkljedapaaUn
namespace Go.Proofs.Ytkpmhgkljedapaa
namespace Wd
set_option linter.unusedVariables false

/-- a and b are one modulo 2^width -/
def Cg (k a b : Int) : Prop := ∃ t, a = b + pw k * t
theorem Cg.refl (k a : Int) : Cg k a a := ⟨0, by omega⟩
theorem Cg.of {k a b : Int} (h : a = b) : Cg k a b := h ▸ Cg.refl k a
theorem Cg.symm {k a b : Int} (h : Cg k a b) : Cg k b a := by obtain ⟨t, h⟩ := h; exact ⟨-t, by rw [h, Int.mul_neg]; omega⟩
theorem Cg.trans {k a b c : Int} (h : Cg k a b) (g : Cg k b c) : Cg k a c := by obtain ⟨t, h⟩ := h; obtain ⟨u, g⟩ := g; exact ⟨u + t, by rw [h, g, Int.mul_add]; omega⟩
theorem Cg.add {k a b c d : Int} (h : Cg k a b) (g : Cg k c d) : Cg k (a + c) (b + d) := by obtain ⟨t, h⟩ := h; obtain ⟨u, g⟩ := g; exact ⟨t + u, by rw [h, g, Int.mul_add]; omega⟩
theorem Cg.neg {k a b : Int} (h : Cg k a b) : Cg k (-a) (-b) := by obtain ⟨t, h⟩ := h; exact ⟨-t, by rw [h, Int.mul_neg]; omega⟩
theorem Cg.sub {k a b c d : Int} (h : Cg k a b) (g : Cg k c d) : Cg k (a - c) (b - d) := by rw [Int.sub_eq_add_neg, Int.sub_eq_add_neg]; exact h.add g.neg
theorem Cg.mul {k a b c d : Int} (h : Cg k a b) (g : Cg k c d) : Cg k (a * c) (b * d) := by
  obtain ⟨t, h⟩ := h; obtain ⟨u, g⟩ := g
  refine ⟨t * d + b * u + pw k * t * u, ?_⟩
  rw [h, g]
  simp only [Int.add_mul, Int.mul_add, Int.mul_assoc, Int.mul_comm, Int.mul_left_comm]
  omega
theorem Cg.canon {k a : Int} (h1 : 2 ≤ k) (h2 : k ≤ 9) : Cg k (canon k a) a := canon_is k a h1 h2
theorem Cg.eq {k a b : Int} (h1 : 2 ≤ k) (h2 : k ≤ 9) (h : Cg k a b) : Wd.canon k a = Wd.canon k b := by obtain ⟨t, h⟩ := h; exact canon_eq h1 h2 t h
theorem Cg.word {k a x : Int} (h1 : 2 ≤ k) (h2 : k ≤ 9) (hw : Wd.canon k x = x) (h : Cg k a x) : Wd.canon k a = x := by rw [h.eq h1 h2, hw]
theorem Cg.sg {k x : Int} (h1 : 2 ≤ k) (h2 : k ≤ 9) : Cg k (sg x) x := by
  obtain ⟨t, ht⟩ := pw_dvd h1 h2
  refine ⟨t * ((Wd.sg x - x) / 18446744073709551616), ?_⟩
  rw [← Int.mul_assoc, ← ht]; unfold Wd.sg; omega

theorem bv_int {op k x y : Int} (h1 : 2 ≤ k) (h2 : k ≤ 9) (o1 : 1 ≤ op) (o2 : op ≤ 16) (o9 : op ≠ 9) (o10 : op ≠ 10) (hx : canon k x = x) (hy : canon k y = y) (hz : op = 4 ∨ op = 5 → y ≠ 0) :
    bv op k x y = if sgnB k then bs op k x y else bu op k x y := by
  have hh : hasBinB op k = true := by
    have : intB k = true := by simp [intB]; omega
    simp [hasBinB, this, o1, o2]
  have hs : shB op = false := by simp [shB, o9, o10]
  have i1 : isB k x = true := is_word (by omega) (by omega) hx
  have i2 : isB k y = true := is_word (by omega) (by omega) hy
  unfold bv binI
  rw [if_neg (by rw [hh]; simp), hs, if_neg (by simp [i1, i2]), if_neg (fun h => hz h.2 h.1)]
  split <;> rfl
theorem bv_plain {op k x y : Int} (h1 : 2 ≤ k) (h2 : k ≤ 9) (o1 : 1 ≤ op) (o2 : op ≤ 8) (o4 : op ≠ 4) (o5 : op ≠ 5) (hx : canon k x = x) (hy : canon k y = y) : bv op k x y = bu op k x y := by
  rw [bv_int h1 h2 o1 (by omega) (by omega) (by omega) hx hy (by omega)]
  split
  · rw [bsu op k x y (by omega) o4 o5 (by omega)]
  · rfl

theorem add_is {k x y : Int} (h1 : 2 ≤ k) (h2 : k ≤ 9) (hx : canon k x = x) (hy : canon k y = y) : bv 1 k x y = canon k (x + y) := bv_plain h1 h2 (by omega) (by omega) (by omega) (by omega) hx hy
theorem sub_is {k x y : Int} (h1 : 2 ≤ k) (h2 : k ≤ 9) (hx : canon k x = x) (hy : canon k y = y) : bv 2 k x y = canon k (x - y) := bv_plain h1 h2 (by omega) (by omega) (by omega) (by omega) hx hy
theorem mul_is {k x y : Int} (h1 : 2 ≤ k) (h2 : k ≤ 9) (hx : canon k x = x) (hy : canon k y = y) : bv 3 k x y = canon k (x * y) := bv_plain h1 h2 (by omega) (by omega) (by omega) (by omega) hx hy
theorem and_is {k x y : Int} (h1 : 2 ≤ k) (h2 : k ≤ 9) (hx : canon k x = x) (hy : canon k y = y) : bv 6 k x y = canon k (x.toNat &&& y.toNat : Nat) := bv_plain h1 h2 (by omega) (by omega) (by omega) (by omega) hx hy
theorem or_is {k x y : Int} (h1 : 2 ≤ k) (h2 : k ≤ 9) (hx : canon k x = x) (hy : canon k y = y) : bv 7 k x y = canon k (x.toNat ||| y.toNat : Nat) := bv_plain h1 h2 (by omega) (by omega) (by omega) (by omega) hx hy
theorem xor_is {k x y : Int} (h1 : 2 ≤ k) (h2 : k ≤ 9) (hx : canon k x = x) (hy : canon k y = y) : bv 8 k x y = canon k (x.toNat ^^^ y.toNat : Nat) := bv_plain h1 h2 (by omega) (by omega) (by omega) (by omega) hx hy
theorem add_comm' {k x y : Int} (h1 : 2 ≤ k) (h2 : k ≤ 9) (hx : canon k x = x) (hy : canon k y = y) : bv 1 k x y = bv 1 k y x := by rw [add_is h1 h2 hx hy, add_is h1 h2 hy hx, Int.add_comm]
theorem mul_comm' {k x y : Int} (h1 : 2 ≤ k) (h2 : k ≤ 9) (hx : canon k x = x) (hy : canon k y = y) : bv 3 k x y = bv 3 k y x := by rw [mul_is h1 h2 hx hy, mul_is h1 h2 hy hx, Int.mul_comm]
theorem mul_add' {k x y w : Int} (h1 : 2 ≤ k) (h2 : k ≤ 9) (hx : canon k x = x) (hy : canon k y = y) (hw : canon k w = w) : bv 3 k x (bv 1 k y w) = bv 1 k (bv 3 k x y) (bv 3 k x w) := by
  rw [add_is h1 h2 hy hw, mul_is h1 h2 hx (canon_canon _ _), mul_is h1 h2 hx hy, mul_is h1 h2 hx hw, add_is h1 h2 (canon_canon _ _) (canon_canon _ _)]
  refine Cg.eq h1 h2 ?_
  refine ((Cg.refl k x).mul (Cg.canon h1 h2)).trans ?_
  rw [Int.mul_add]
  exact ((Cg.canon h1 h2).add (Cg.canon h1 h2)).symm
theorem add_assoc' {k x y w : Int} (h1 : 2 ≤ k) (h2 : k ≤ 9) (hx : canon k x = x) (hy : canon k y = y) (hw : canon k w = w) : bv 1 k (bv 1 k x y) w = bv 1 k x (bv 1 k y w) := by
  rw [add_is h1 h2 hx hy, add_is h1 h2 hy hw, add_is h1 h2 (canon_canon _ _) hw, add_is h1 h2 hx (canon_canon _ _)]
  refine Cg.eq h1 h2 ?_
  refine ((Cg.canon h1 h2).add (Cg.refl k w)).trans ?_
  rw [Int.add_assoc]
  exact ((Cg.refl k x).add (Cg.canon h1 h2)).symm
theorem sub_neg' {k x y : Int} (h1 : 2 ≤ k) (h2 : k ≤ 9) (hx : canon k x = x) (hy : canon k y = y) : bv 2 k x y = bv 1 k x (canon k (-y)) := by
  rw [sub_is h1 h2 hx hy, add_is h1 h2 hx (canon_canon _ _)]
  refine Cg.eq h1 h2 ?_
  rw [Int.sub_eq_add_neg]
  exact ((Cg.refl k x).add (Cg.canon h1 h2)).symm

/-! ### bits -/
def ww (k : Int) : Nat := if k = 2 ∨ k = 6 then 8 else if k = 3 ∨ k = 7 then 16 else if k = 4 ∨ k = 8 then 32 else 64
theorem pw_ww {k : Int} (h1 : 2 ≤ k) (h2 : k ≤ 9) : pw k = ((2 ^ ww k : Nat) : Int) := by
  rcases ints h1 h2 with h | h | h | h | h | h | h | h <;> (subst h; decide)
/-- two natural numbers with the same lowest bits -/
theorem cg_nat {k : Int} (h1 : 2 ≤ k) (h2 : k ≤ 9) {a b : Nat} (h : a % 2 ^ ww k = b % 2 ^ ww k) : Cg k (a : Int) (b : Int) := by
  refine ⟨(a / 2 ^ ww k : Nat) - (b / 2 ^ ww k : Nat), ?_⟩
  rw [pw_ww h1 h2]
  have e1 := Nat.div_add_mod a (2 ^ ww k)
  have e2 := Nat.div_add_mod b (2 ^ ww k)
  rw [h] at e1
  have e1' : ((2 ^ ww k : Nat) : Int) * ((a / 2 ^ ww k : Nat) : Int) + ((b % 2 ^ ww k : Nat) : Int) = (a : Int) := by rw [← Int.natCast_mul, ← Int.natCast_add, e1]
  have e2' : ((2 ^ ww k : Nat) : Int) * ((b / 2 ^ ww k : Nat) : Int) + ((b % 2 ^ ww k : Nat) : Int) = (b : Int) := by rw [← Int.natCast_mul, ← Int.natCast_add, e2]
  rw [Int.mul_sub]; omega
theorem nat_cg {k : Int} (h1 : 2 ≤ k) (h2 : k ≤ 9) {a b : Int} (ha : 0 ≤ a) (hb : 0 ≤ b) (h : Cg k a b) : a.toNat % 2 ^ ww k = b.toNat % 2 ^ ww k := by
  obtain ⟨t, h⟩ := h
  rw [pw_ww h1 h2] at h
  have e : a % ((2 ^ ww k : Nat) : Int) = b % ((2 ^ ww k : Nat) : Int) := by rw [h, Int.add_mul_emod_self_left]
  have ea : ((a.toNat % 2 ^ ww k : Nat) : Int) = a % ((2 ^ ww k : Nat) : Int) := by rw [Int.natCast_emod, Int.toNat_of_nonneg ha]
  have eb : ((b.toNat % 2 ^ ww k : Nat) : Int) = b % ((2 ^ ww k : Nat) : Int) := by rw [Int.natCast_emod, Int.toNat_of_nonneg hb]
  omega

theorem word_nn {k x : Int} (hx : canon k x = x) : 0 ≤ x ∧ x < 18446744073709551616 := by have := canon_rng k x; rw [hx] at this; exact this

theorem xor_all {a : Nat} (h : a < 18446744073709551616) : a ^^^ (18446744073709551615 - a) = 18446744073709551615 := by
  have e : (18446744073709551615 - a : Nat) = 18446744073709551615 ^^^ a := (xor_ones h).symm
  rw [e, Nat.xor_comm 18446744073709551615 a, ← Nat.xor_assoc, Nat.xor_self, Nat.zero_xor]
theorem and_none {a : Nat} (h : a < 18446744073709551616) : a &&& (18446744073709551615 - a) = 0 := by
  have e : (18446744073709551615 - a : Nat) = 18446744073709551615 ^^^ a := (xor_ones h).symm
  have o : (18446744073709551615 : Nat) = 2 ^ 64 - 1 := by decide
  refine Nat.eq_of_testBit_eq fun i => ?_
  rw [e, o, Nat.testBit_and, Nat.testBit_xor, Nat.testBit_two_pow_sub_one, Nat.zero_testBit]
  by_cases hi : i < 64
  · simp [hi]
  · have p : 2 ^ 64 ≤ 2 ^ i := Nat.pow_le_pow_right (by omega) (by omega)
    rw [Nat.testBit_lt_two_pow (x := a) (by omega)]; simp
theorem or_both (a b : Nat) : (a &&& b) ||| (a ^^^ b) = a ||| b := by
  refine Nat.eq_of_testBit_eq fun i => ?_
  rw [Nat.testBit_or, Nat.testBit_and, Nat.testBit_xor, Nat.testBit_or]
  cases a.testBit i <;> cases b.testBit i <;> rfl

/-- the complement: a word again -/
theorem com_cg {k x : Int} (h1 : 2 ≤ k) (h2 : k ≤ 9) (hx : canon k x = x) : (canon k (18446744073709551615 - x)).toNat % 2 ^ ww k = (18446744073709551615 - x.toNat) % 2 ^ ww k := by
  have ⟨a, b⟩ := word_nn hx
  have := nat_cg h1 h2 (canon_rng k (18446744073709551615 - x)).1 (by omega) (Cg.canon (k := k) (a := 18446744073709551615 - x) h1 h2)
  rw [this, show (18446744073709551615 - x).toNat = 18446744073709551615 - x.toNat by omega]
theorem xor_com {k x : Int} (h1 : 2 ≤ k) (h2 : k ≤ 9) (hx : canon k x = x) : bv 8 k x (canon k (18446744073709551615 - x)) = canon k 18446744073709551615 := by
  have ⟨a, b⟩ := word_nn hx
  rw [xor_is h1 h2 hx (canon_canon _ _)]
  refine Cg.eq h1 h2 ((cg_nat h1 h2 (b := 18446744073709551615) ?_).trans (Cg.of rfl))
  rw [Nat.xor_mod_two_pow, com_cg h1 h2 hx, ← Nat.xor_mod_two_pow, xor_all (by omega)]
theorem and_com {k x : Int} (h1 : 2 ≤ k) (h2 : k ≤ 9) (hx : canon k x = x) : bv 6 k x (canon k (18446744073709551615 - x)) = 0 := by
  have ⟨a, b⟩ := word_nn hx
  rw [and_is h1 h2 hx (canon_canon _ _), ← canon_zero k]
  refine Cg.eq h1 h2 ((cg_nat h1 h2 (b := 0) ?_).trans (Cg.of rfl))
  rw [Nat.and_mod_two_pow, com_cg h1 h2 hx, ← Nat.and_mod_two_pow, and_none (by omega)]
theorem or_and_xor {k x y : Int} (h1 : 2 ≤ k) (h2 : k ≤ 9) (hx : canon k x = x) (hy : canon k y = y) : bv 7 k (bv 6 k x y) (bv 8 k x y) = bv 7 k x y := by
  rw [and_is h1 h2 hx hy, xor_is h1 h2 hx hy, or_is h1 h2 hx hy, or_is h1 h2 (canon_canon _ _) (canon_canon _ _)]
  refine Cg.eq h1 h2 (cg_nat h1 h2 ?_)
  have ea := nat_cg h1 h2 (canon_rng k _).1 (Int.natCast_nonneg _) (Cg.canon (k := k) (a := ((x.toNat &&& y.toNat : Nat) : Int)) h1 h2)
  have eb := nat_cg h1 h2 (canon_rng k _).1 (Int.natCast_nonneg _) (Cg.canon (k := k) (a := ((x.toNat ^^^ y.toNat : Nat) : Int)) h1 h2)
  rw [Nat.or_mod_two_pow, ea, eb, Int.toNat_natCast, Int.toNat_natCast, ← Nat.or_mod_two_pow, or_both]

/-! ### order -/
/-- the number that a word of kind k is -/
def nm (k x : Int) : Int := if sgnB k then sg x else x
theorem cmp_is {op k x y : Int} (h1 : 2 ≤ k) (h2 : k ≤ 9) (o1 : 11 ≤ op) (o2 : op ≤ 16) (hx : canon k x = x) (hy : canon k y = y) : bv op k x y = cmpI op (nm k x) (nm k y) := by
  rw [bv_int h1 h2 (by omega) o2 (by omega) (by omega) hx hy (by omega), nm, nm]
  split
  · rw [bsc op k x y o1]
  · rw [buc op k x y o1]
theorem lt_gt {k x y : Int} (h1 : 2 ≤ k) (h2 : k ≤ 9) (hx : canon k x = x) (hy : canon k y = y) : bv 13 k x y = bv 15 k y x := by
  rw [cmp_is h1 h2 (by omega) (by omega) hx hy, cmp_is h1 h2 (by omega) (by omega) hy hx]; rfl
theorem lt_ge {k x y : Int} (h1 : 2 ≤ k) (h2 : k ≤ 9) (hx : canon k x = x) (hy : canon k y = y) : bv 13 k x y + bv 16 k x y = 1 := by
  rw [cmp_is h1 h2 (by omega) (by omega) hx hy, cmp_is h1 h2 (by omega) (by omega) hx hy]
  show tr (decide (nm k x < nm k y)) + tr (decide (nm k y ≤ nm k x)) = 1
  unfold tr; by_cases h : nm k x < nm k y
  · have b : ¬ nm k y ≤ nm k x := by omega
    simp [h, b]
  · have b : nm k y ≤ nm k x := by omega
    simp [h, b]
theorem eq_ne {k x y : Int} (h1 : 2 ≤ k) (h2 : k ≤ 9) (hx : canon k x = x) (hy : canon k y = y) : bv 11 k x y + bv 12 k x y = 1 := by
  rw [cmp_is h1 h2 (by omega) (by omega) hx hy, cmp_is h1 h2 (by omega) (by omega) hx hy]
  show tr (nm k x == nm k y) + tr (nm k x != nm k y) = 1
  unfold tr; by_cases h : nm k x = nm k y <;> simp [h]
theorem lt_eq_le {k x y : Int} (h1 : 2 ≤ k) (h2 : k ≤ 9) (hx : canon k x = x) (hy : canon k y = y) : bv 13 k x y + bv 11 k x y = bv 14 k x y := by
  rw [cmp_is h1 h2 (by omega) (by omega) hx hy, cmp_is h1 h2 (by omega) (by omega) hx hy, cmp_is h1 h2 (by omega) (by omega) hx hy]
  show tr (decide (nm k x < nm k y)) + tr (nm k x == nm k y) = tr (decide (nm k x ≤ nm k y))
  unfold tr
  by_cases h : nm k x < nm k y
  · have a : ¬ nm k x = nm k y := by omega
    have b : nm k x ≤ nm k y := by omega
    simp [h, a, b]
  · by_cases g : nm k x = nm k y
    · simp [g]
    · have b : ¬ nm k x ≤ nm k y := by omega
      simp [h, g, b]

/-! ### quotients -/
theorem quo_rem {k x y : Int} (h1 : 2 ≤ k) (h2 : k ≤ 9) (hx : canon k x = x) (hy : canon k y = y) (hz : y ≠ 0) : bv 1 k (bv 3 k (bv 4 k x y) y) (bv 5 k x y) = x := by
  have q : bv 4 k x y = canon k ((nm k x).tdiv (nm k y)) ∧ bv 5 k x y = canon k ((nm k x).tmod (nm k y)) := by
    rw [bv_int h1 h2 (by omega) (by omega) (by omega) (by omega) hx hy (fun _ => hz), bv_int h1 h2 (by omega) (by omega) (by omega) (by omega) hx hy (fun _ => hz), nm, nm]
    have a := word_nn hx
    have b := word_nn hy
    split
    · exact ⟨bs4 k x y, bs5 k x y⟩
    · rw [bu4, bu5, Int.tdiv_eq_ediv_of_nonneg a.1, Int.tmod_eq_emod_of_nonneg a.1]; exact ⟨rfl, rfl⟩
  have nx : Cg k (nm k x) x := by unfold nm; split; { exact Cg.sg h1 h2 }; exact Cg.refl k x
  have ny : Cg k (nm k y) y := by unfold nm; split; { exact Cg.sg h1 h2 }; exact Cg.refl k y
  rw [q.1, q.2, mul_is h1 h2 (canon_canon _ _) hy, add_is h1 h2 (canon_canon _ _) (canon_canon _ _)]
  refine Cg.word h1 h2 hx ?_
  refine ((Cg.canon h1 h2).add (Cg.canon h1 h2)).trans ?_
  refine ((((Cg.canon h1 h2).mul (Cg.refl k y)).trans ((Cg.refl k _).mul ny.symm)).add (Cg.refl k _)).trans ?_
  rw [Int.tdiv_mul_add_tmod]
  exact nx

end Wd
end Go.Proofs.Ytkpmhgkljedapaa
