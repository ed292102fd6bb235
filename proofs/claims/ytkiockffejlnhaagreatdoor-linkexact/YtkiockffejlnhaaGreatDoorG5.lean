/- Contracts and plain facts that the walks share. -/
import Derived.Test.YtkiockffejlnhaaGreatDoorG4
import Derived.Test.YtkiockffejlnhaaGreatDoorG3
namespace Go.Proofs.YtkiockffejlnhaaGreatDoor
set_option linter.unusedVariables false
namespace Cc
def Says (v : InV) : Prop := ∀ (N : Nat) (g : Nat → Int), (enc v).length ≤ N → (∀ i, i < (enc v).length → g i = (enc v).getD i 0) → rdL N g (rrow v.op) ⟨v.op, 0, 0, 0, 0, 0, 0, 0, 0⟩ 0 1 = (v, ((enc v).length : Int))
theorem four {g : Nat → Int} {p : Nat} {x : Int} (h0 : g p = Mm.by8 x 0) (h1 : g (p + 1) = Mm.by8 x 1) (h2 : g (p + 2) = Mm.by8 x 2) (h3 : g (p + 3) = Mm.by8 x 3) : ∀ i, i < 4 → g (p + i) = Mm.by8 x i := by
 intro i hi
 have : i = 0 ∨ i = 1 ∨ i = 2 ∨ i = 3 := by omega
 rcases this with rfl | rfl | rfl | rfl
 ·exact h0
 ·exact h1
 ·exact h2
 ·exact h3
theorem one {g : Nat → Int} {p : Nat} {x : Int} (h0 : g p = Mm.by8 x 0) : ∀ i, i < 1 → g (p + i) = Mm.by8 x i := by
 intro i hi
 obtain rfl : i = 0 := by omega
 exact h0
theorem eight {g : Nat → Int} {p : Nat} {x : Int} (h0 : g p = Mm.by8 x 0) (h1 : g (p + 1) = Mm.by8 x 1) (h2 : g (p + 2) = Mm.by8 x 2) (h3 : g (p + 3) = Mm.by8 x 3) (h4 : g (p + 4) = Mm.by8 x 4) (h5 : g (p + 5) = Mm.by8 x 5) (h6 : g (p + 6) = Mm.by8 x 6) (h7 : g (p + 7) = Mm.by8 x 7) : ∀ i, i < 8 → g (p + i) = Mm.by8 x i := by
 intro i hi
 have : i = 0 ∨ i = 1 ∨ i = 2 ∨ i = 3 ∨ i = 4 ∨ i = 5 ∨ i = 6 ∨ i = 7 := by omega
 rcases this with rfl | rfl | rfl | rfl | rfl | rfl | rfl | rfl
 ·exact h0
 ·exact h1
 ·exact h2
 ·exact h3
 ·exact h4
 ·exact h5
 ·exact h6
 ·exact h7
theorem says_1_0 {a imm : Int} (a1 : 0 ≤ a) (a2 : a < 16) (i1 : -128 ≤ imm) (i2 : imm < 128) : Says ⟨1, a, 0, 0, 0, 0, 0, imm, 0⟩ := by
 have hz : size imm = 0 := by
  unfold size
  rw [if_pos ⟨i1, i2⟩]
 have e : enc ⟨1, a, 0, 0, 0, 0, 0, imm, 0⟩ = [1, (16 * a + 0) % 256, Mm.by8 (imm % 18446744073709551616) 0] := by
  show (1 : Int) % 256 :: ([(16 * a + size imm) % 256] ++ (low imm (cnt (size imm)) ++ [])) = _
  rw [hz]; rfl
 intro N g hN hg
 rw [e] at hN hg ⊢
 have hN : 3 ≤ N := hN
 have g1 : g 1 = (16 * a + 0) % 256 := hg 1 (show 1 < 3 from by decide)
 have g2 : g 2 = Mm.by8 (imm % 18446744073709551616) 0 := hg 2 (show 2 < 3 from by decide)
 show rdL N g [110, 105] ⟨1, 0, 0, 0, 0, 0, 0, 0, 0⟩ 0 1 = _
 rw [step_n (a := a) (z' := 0) (by omega) (by decide) (by dsimp only; decide) g1 a1 a2]
 rw [step_i (n := imm) (show 2 + 1 ≤ N from by omega) (by dsimp only; decide) (show num g 2 1 = imm from num_low (.inl ⟨rfl, by omega, by omega⟩) (one g2))]
 rfl
theorem says_1_1 {a imm : Int} (a1 : 0 ≤ a) (a2 : a < 16) (i1 : -2147483648 ≤ imm) (i2 : imm < 2147483648) (i3 : ¬ (-128 ≤ imm ∧ imm < 128)) : Says ⟨1, a, 0, 0, 0, 0, 0, imm, 0⟩ := by
 have hz : size imm = 1 := by
  unfold size
  rw [if_neg i3, if_pos ⟨i1, i2⟩]
 have e : enc ⟨1, a, 0, 0, 0, 0, 0, imm, 0⟩ = [1, (16 * a + 1) % 256, Mm.by8 (imm % 18446744073709551616) 0, Mm.by8 (imm % 18446744073709551616) 1, Mm.by8 (imm % 18446744073709551616) 2, Mm.by8 (imm % 18446744073709551616) 3] := by
  show (1 : Int) % 256 :: ([(16 * a + size imm) % 256] ++ (low imm (cnt (size imm)) ++ [])) = _
  rw [hz]; rfl
 intro N g hN hg
 rw [e] at hN hg ⊢
 have hN : 6 ≤ N := hN
 have g1 : g 1 = (16 * a + 1) % 256 := hg 1 (show 1 < 6 from by decide)
 have g2 : g 2 = Mm.by8 (imm % 18446744073709551616) 0 := hg 2 (show 2 < 6 from by decide)
 have g3 : g 3 = Mm.by8 (imm % 18446744073709551616) 1 := hg 3 (show 3 < 6 from by decide)
 have g4 : g 4 = Mm.by8 (imm % 18446744073709551616) 2 := hg 4 (show 4 < 6 from by decide)
 have g5 : g 5 = Mm.by8 (imm % 18446744073709551616) 3 := hg 5 (show 5 < 6 from by decide)
 show rdL N g [110, 105] ⟨1, 0, 0, 0, 0, 0, 0, 0, 0⟩ 0 1 = _
 rw [step_n (a := a) (z' := 1) (by omega) (by decide) (by dsimp only; decide) g1 a1 a2]
 rw [step_i (n := imm) (show 2 + 4 ≤ N from by omega) (by dsimp only; decide) (show num g 2 4 = imm from num_low (.inr (.inl ⟨rfl, by omega, by omega⟩)) (four g2 g3 g4 g5))]
 rfl
theorem says_1_2 {a imm : Int} (a1 : 0 ≤ a) (a2 : a < 16) (i1 : -9223372036854775808 ≤ imm) (i2 : imm ≤ 9223372036854775807) (i3 : ¬ (-2147483648 ≤ imm ∧ imm < 2147483648)) : Says ⟨1, a, 0, 0, 0, 0, 0, imm, 0⟩ := by
 have hz : size imm = 2 := by
  unfold size
  rw [if_neg (by omega), if_neg i3]
 have e : enc ⟨1, a, 0, 0, 0, 0, 0, imm, 0⟩ = [1, (16 * a + 2) % 256, Mm.by8 (imm % 18446744073709551616) 0, Mm.by8 (imm % 18446744073709551616) 1, Mm.by8 (imm % 18446744073709551616) 2, Mm.by8 (imm % 18446744073709551616) 3, Mm.by8 (imm % 18446744073709551616) 4, Mm.by8 (imm % 18446744073709551616) 5, Mm.by8 (imm % 18446744073709551616) 6, Mm.by8 (imm % 18446744073709551616) 7] := by
  show (1 : Int) % 256 :: ([(16 * a + size imm) % 256] ++ (low imm (cnt (size imm)) ++ [])) = _
  rw [hz]; rfl
 intro N g hN hg
 rw [e] at hN hg ⊢
 have hN : 10 ≤ N := hN
 have g1 : g 1 = (16 * a + 2) % 256 := hg 1 (show 1 < 10 from by decide)
 have g2 : g 2 = Mm.by8 (imm % 18446744073709551616) 0 := hg 2 (show 2 < 10 from by decide)
 have g3 : g 3 = Mm.by8 (imm % 18446744073709551616) 1 := hg 3 (show 3 < 10 from by decide)
 have g4 : g 4 = Mm.by8 (imm % 18446744073709551616) 2 := hg 4 (show 4 < 10 from by decide)
 have g5 : g 5 = Mm.by8 (imm % 18446744073709551616) 3 := hg 5 (show 5 < 10 from by decide)
 have g6 : g 6 = Mm.by8 (imm % 18446744073709551616) 4 := hg 6 (show 6 < 10 from by decide)
 have g7 : g 7 = Mm.by8 (imm % 18446744073709551616) 5 := hg 7 (show 7 < 10 from by decide)
 have g8 : g 8 = Mm.by8 (imm % 18446744073709551616) 6 := hg 8 (show 8 < 10 from by decide)
 have g9 : g 9 = Mm.by8 (imm % 18446744073709551616) 7 := hg 9 (show 9 < 10 from by decide)
 show rdL N g [110, 105] ⟨1, 0, 0, 0, 0, 0, 0, 0, 0⟩ 0 1 = _
 rw [step_n (a := a) (z' := 2) (by omega) (by decide) (by dsimp only; decide) g1 a1 a2]
 rw [step_i (n := imm) (show 2 + 8 ≤ N from by omega) (by dsimp only; decide) (show num g 2 8 = imm from num_low (.inr (.inr ⟨rfl, by omega, by omega⟩)) (eight g2 g3 g4 g5 g6 g7 g8 g9))]
 rfl
theorem says_3 {a b : Int} (a1 : 0 ≤ a) (a2 : a < 16) (b1 : 0 ≤ b) (b2 : b < 16) : Says ⟨3, a, b, 0, 0, 0, 0, 0, 0⟩ := by
 have e : enc ⟨3, a, b, 0, 0, 0, 0, 0, 0⟩ = [3, (16 * a + b) % 256] := rfl
 intro N g hN hg
 rw [e] at hN hg ⊢
 have hN : 2 ≤ N := hN
 have g1 : g 1 = (16 * a + b) % 256 := hg 1 (show 1 < 2 from by decide)
 show rdL N g [97] ⟨3, 0, 0, 0, 0, 0, 0, 0, 0⟩ 0 1 = _
 rw [step_a (a := a) (b := b) (by omega) (by dsimp only; decide) g1 a1 a2 b1 b2]
 rfl
theorem says_4 {a b k sub : Int} (a1 : 0 ≤ a) (a2 : a < 16) (b1 : 0 ≤ b) (b2 : b < 16) (k1 : 0 ≤ k) (k2 : k < 256) (s1 : 0 ≤ sub) (s2 : sub < 256) : Says ⟨4, a, b, 0, k, sub, 0, 0, 0⟩ := by
 have e : enc ⟨4, a, b, 0, k, sub, 0, 0, 0⟩ = [4, (16 * a + b) % 256, k % 256, sub % 256] := rfl
 intro N g hN hg
 rw [e] at hN hg ⊢
 have hN : 4 ≤ N := hN
 have g1 : g 1 = (16 * a + b) % 256 := hg 1 (show 1 < 4 from by decide)
 have g2 : g 2 = k % 256 := hg 2 (show 2 < 4 from by decide)
 have g3 : g 3 = sub % 256 := hg 3 (show 3 < 4 from by decide)
 show rdL N g [97, 75, 83] ⟨4, 0, 0, 0, 0, 0, 0, 0, 0⟩ 0 1 = _
 rw [step_a (a := a) (b := b) (by omega) (by dsimp only; decide) g1 a1 a2 b1 b2]
 rw [step_K (k := k) (by omega) (by dsimp only; decide) g2 k1 k2]
 rw [step_S (k := sub) (by omega) (by dsimp only; decide) g3 s1 s2]
 rfl
theorem says_5_0 {a k sub imm : Int} (a1 : 0 ≤ a) (a2 : a < 16) (k1 : 0 ≤ k) (k2 : k < 256) (s1 : 0 ≤ sub) (s2 : sub < 256) (i1 : -128 ≤ imm) (i2 : imm < 128) : Says ⟨5, a, 0, 0, k, sub, 0, imm, 0⟩ := by
 have hz : size imm = 0 := by
  unfold size
  rw [if_pos ⟨i1, i2⟩]
 have e : enc ⟨5, a, 0, 0, k, sub, 0, imm, 0⟩ = [5, (16 * a + 0) % 256, k % 256, sub % 256, Mm.by8 (imm % 18446744073709551616) 0] := by
  show (5 : Int) % 256 :: ([(16 * a + size imm) % 256] ++ ([k % 256] ++ ([sub % 256] ++ (low imm (cnt (size imm)) ++ [])))) = _
  rw [hz]; rfl
 intro N g hN hg
 rw [e] at hN hg ⊢
 have hN : 5 ≤ N := hN
 have g1 : g 1 = (16 * a + 0) % 256 := hg 1 (show 1 < 5 from by decide)
 have g2 : g 2 = k % 256 := hg 2 (show 2 < 5 from by decide)
 have g3 : g 3 = sub % 256 := hg 3 (show 3 < 5 from by decide)
 have g4 : g 4 = Mm.by8 (imm % 18446744073709551616) 0 := hg 4 (show 4 < 5 from by decide)
 show rdL N g [110, 75, 83, 105] ⟨5, 0, 0, 0, 0, 0, 0, 0, 0⟩ 0 1 = _
 rw [step_n (a := a) (z' := 0) (by omega) (by decide) (by dsimp only; decide) g1 a1 a2]
 rw [step_K (k := k) (by omega) (by dsimp only; decide) g2 k1 k2]
 rw [step_S (k := sub) (by omega) (by dsimp only; decide) g3 s1 s2]
 rw [step_i (n := imm) (show 4 + 1 ≤ N from by omega) (by dsimp only; decide) (show num g 4 1 = imm from num_low (.inl ⟨rfl, by omega, by omega⟩) (one g4))]
 rfl
theorem says_5_1 {a k sub imm : Int} (a1 : 0 ≤ a) (a2 : a < 16) (k1 : 0 ≤ k) (k2 : k < 256) (s1 : 0 ≤ sub) (s2 : sub < 256) (i1 : -2147483648 ≤ imm) (i2 : imm < 2147483648) (i3 : ¬ (-128 ≤ imm ∧ imm < 128)) : Says ⟨5, a, 0, 0, k, sub, 0, imm, 0⟩ := by
 have hz : size imm = 1 := by
  unfold size
  rw [if_neg i3, if_pos ⟨i1, i2⟩]
 have e : enc ⟨5, a, 0, 0, k, sub, 0, imm, 0⟩ = [5, (16 * a + 1) % 256, k % 256, sub % 256, Mm.by8 (imm % 18446744073709551616) 0, Mm.by8 (imm % 18446744073709551616) 1, Mm.by8 (imm % 18446744073709551616) 2, Mm.by8 (imm % 18446744073709551616) 3] := by
  show (5 : Int) % 256 :: ([(16 * a + size imm) % 256] ++ ([k % 256] ++ ([sub % 256] ++ (low imm (cnt (size imm)) ++ [])))) = _
  rw [hz]; rfl
 intro N g hN hg
 rw [e] at hN hg ⊢
 have hN : 8 ≤ N := hN
 have g1 : g 1 = (16 * a + 1) % 256 := hg 1 (show 1 < 8 from by decide)
 have g2 : g 2 = k % 256 := hg 2 (show 2 < 8 from by decide)
 have g3 : g 3 = sub % 256 := hg 3 (show 3 < 8 from by decide)
 have g4 : g 4 = Mm.by8 (imm % 18446744073709551616) 0 := hg 4 (show 4 < 8 from by decide)
 have g5 : g 5 = Mm.by8 (imm % 18446744073709551616) 1 := hg 5 (show 5 < 8 from by decide)
 have g6 : g 6 = Mm.by8 (imm % 18446744073709551616) 2 := hg 6 (show 6 < 8 from by decide)
 have g7 : g 7 = Mm.by8 (imm % 18446744073709551616) 3 := hg 7 (show 7 < 8 from by decide)
 show rdL N g [110, 75, 83, 105] ⟨5, 0, 0, 0, 0, 0, 0, 0, 0⟩ 0 1 = _
 rw [step_n (a := a) (z' := 1) (by omega) (by decide) (by dsimp only; decide) g1 a1 a2]
 rw [step_K (k := k) (by omega) (by dsimp only; decide) g2 k1 k2]
 rw [step_S (k := sub) (by omega) (by dsimp only; decide) g3 s1 s2]
 rw [step_i (n := imm) (show 4 + 4 ≤ N from by omega) (by dsimp only; decide) (show num g 4 4 = imm from num_low (.inr (.inl ⟨rfl, by omega, by omega⟩)) (four g4 g5 g6 g7))]
 rfl
theorem says_6 {a b k sub imm : Int} (a1 : 0 ≤ a) (a2 : a < 16) (b1 : 0 ≤ b) (b2 : b < 16) (k1 : 0 ≤ k) (k2 : k < 256) (s1 : 0 ≤ sub) (s2 : sub < 256) (i1 : -2147483648 ≤ imm) (i2 : imm < 2147483648) : Says ⟨6, a, b, 0, k, sub, 0, imm, 0⟩ := by
 have e : enc ⟨6, a, b, 0, k, sub, 0, imm, 0⟩ = [6, (16 * a + b) % 256, k % 256, sub % 256, Mm.by8 (imm % 18446744073709551616) 0, Mm.by8 (imm % 18446744073709551616) 1, Mm.by8 (imm % 18446744073709551616) 2, Mm.by8 (imm % 18446744073709551616) 3] := rfl
 intro N g hN hg
 rw [e] at hN hg ⊢
 have hN : 8 ≤ N := hN
 have g1 : g 1 = (16 * a + b) % 256 := hg 1 (show 1 < 8 from by decide)
 have g2 : g 2 = k % 256 := hg 2 (show 2 < 8 from by decide)
 have g3 : g 3 = sub % 256 := hg 3 (show 3 < 8 from by decide)
 have g4 : g 4 = Mm.by8 (imm % 18446744073709551616) 0 := hg 4 (show 4 < 8 from by decide)
 have g5 : g 5 = Mm.by8 (imm % 18446744073709551616) 1 := hg 5 (show 5 < 8 from by decide)
 have g6 : g 6 = Mm.by8 (imm % 18446744073709551616) 2 := hg 6 (show 6 < 8 from by decide)
 have g7 : g 7 = Mm.by8 (imm % 18446744073709551616) 3 := hg 7 (show 7 < 8 from by decide)
 show rdL N g [97, 75, 83, 52] ⟨6, 0, 0, 0, 0, 0, 0, 0, 0⟩ 0 1 = _
 rw [step_a (a := a) (b := b) (by omega) (by dsimp only; decide) g1 a1 a2 b1 b2]
 rw [step_K (k := k) (by omega) (by dsimp only; decide) g2 k1 k2]
 rw [step_S (k := sub) (by omega) (by dsimp only; decide) g3 s1 s2]
 rw [step_4 (n := imm) (by omega) (by dsimp only; decide) (num_low (.inr (.inl ⟨rfl, by omega, by omega⟩)) (four g4 g5 g6 g7))]
 rfl
theorem says_7 {a k sub : Int} (a1 : 0 ≤ a) (a2 : a < 16) (k1 : 0 ≤ k) (k2 : k < 256) (s1 : 0 ≤ sub) (s2 : sub < 256) : Says ⟨7, a, 0, 0, k, sub, 0, 0, 0⟩ := by
 have e : enc ⟨7, a, 0, 0, k, sub, 0, 0, 0⟩ = [7, (16 * a + 0) % 256, k % 256, sub % 256] := rfl
 intro N g hN hg
 rw [e] at hN hg ⊢
 have hN : 4 ≤ N := hN
 have g1 : g 1 = (16 * a + 0) % 256 := hg 1 (show 1 < 4 from by decide)
 have g2 : g 2 = k % 256 := hg 2 (show 2 < 4 from by decide)
 have g3 : g 3 = sub % 256 := hg 3 (show 3 < 4 from by decide)
 show rdL N g [97, 75, 83] ⟨7, 0, 0, 0, 0, 0, 0, 0, 0⟩ 0 1 = _
 rw [step_a (a := a) (b := 0) (by omega) (by dsimp only; decide) g1 a1 a2 (by decide) (by decide)]
 rw [step_K (k := k) (by omega) (by dsimp only; decide) g2 k1 k2]
 rw [step_S (k := sub) (by omega) (by dsimp only; decide) g3 s1 s2]
 rfl
theorem says_8 {a b k sub : Int} (a1 : 0 ≤ a) (a2 : a < 16) (b1 : 0 ≤ b) (b2 : b < 16) (k1 : 0 ≤ k) (k2 : k < 256) (s1 : 0 ≤ sub) (s2 : sub < 256) : Says ⟨8, a, b, 0, k, sub, 0, 0, 0⟩ := by
 have e : enc ⟨8, a, b, 0, k, sub, 0, 0, 0⟩ = [8, (16 * a + b) % 256, k % 256, sub % 256] := rfl
 intro N g hN hg
 rw [e] at hN hg ⊢
 have hN : 4 ≤ N := hN
 have g1 : g 1 = (16 * a + b) % 256 := hg 1 (show 1 < 4 from by decide)
 have g2 : g 2 = k % 256 := hg 2 (show 2 < 4 from by decide)
 have g3 : g 3 = sub % 256 := hg 3 (show 3 < 4 from by decide)
 show rdL N g [97, 75, 83] ⟨8, 0, 0, 0, 0, 0, 0, 0, 0⟩ 0 1 = _
 rw [step_a (a := a) (b := b) (by omega) (by dsimp only; decide) g1 a1 a2 b1 b2]
 rw [step_K (k := k) (by omega) (by dsimp only; decide) g2 k1 k2]
 rw [step_S (k := sub) (by omega) (by dsimp only; decide) g3 s1 s2]
 rfl
theorem says_10 {a b c sc imm : Int} (a1 : 0 ≤ a) (a2 : a < 16) (b1 : 0 ≤ b) (b2 : b < 16) (c1 : 0 ≤ c) (c2 : c < 16) (hs : sc = 1 ∨ sc = 2 ∨ sc = 4 ∨ sc = 8 ∨ sc = 0) (i1 : -2147483648 ≤ imm) (i2 : imm < 2147483648) : Says ⟨10, a, b, c, 0, 0, sc, imm, 0⟩ := by
 have e : enc ⟨10, a, b, c, 0, 0, sc, imm, 0⟩ = [10, (16 * a + b) % 256, (16 * c + lg sc) % 256, Mm.by8 (imm % 18446744073709551616) 0, Mm.by8 (imm % 18446744073709551616) 1, Mm.by8 (imm % 18446744073709551616) 2, Mm.by8 (imm % 18446744073709551616) 3] := rfl
 intro N g hN hg
 rw [e] at hN hg ⊢
 have hN : 7 ≤ N := hN
 have g1 : g 1 = (16 * a + b) % 256 := hg 1 (show 1 < 7 from by decide)
 have g2 : g 2 = (16 * c + lg sc) % 256 := hg 2 (show 2 < 7 from by decide)
 have g3 : g 3 = Mm.by8 (imm % 18446744073709551616) 0 := hg 3 (show 3 < 7 from by decide)
 have g4 : g 4 = Mm.by8 (imm % 18446744073709551616) 1 := hg 4 (show 4 < 7 from by decide)
 have g5 : g 5 = Mm.by8 (imm % 18446744073709551616) 2 := hg 5 (show 5 < 7 from by decide)
 have g6 : g 6 = Mm.by8 (imm % 18446744073709551616) 3 := hg 6 (show 6 < 7 from by decide)
 show rdL N g [97, 99, 52] ⟨10, 0, 0, 0, 0, 0, 0, 0, 0⟩ 0 1 = _
 rw [step_a (a := a) (b := b) (by omega) (by dsimp only; decide) g1 a1 a2 b1 b2]
 rw [step_c (c := c) (sc := sc) (by omega) (by dsimp only; decide) g2 c1 c2 hs]
 rw [step_4 (n := imm) (by omega) (by dsimp only; decide) (num_low (.inr (.inl ⟨rfl, by omega, by omega⟩)) (four g3 g4 g5 g6))]
 rfl
theorem says_11 {a b k imm : Int} (a1 : 0 ≤ a) (a2 : a < 16) (b1 : 0 ≤ b) (b2 : b < 16) (k1 : 0 ≤ k) (k2 : k < 256) (i1 : -2147483648 ≤ imm) (i2 : imm < 2147483648) : Says ⟨11, a, b, 0, k, 0, 0, imm, 0⟩ := by
 have e : enc ⟨11, a, b, 0, k, 0, 0, imm, 0⟩ = [11, (16 * a + b) % 256, k % 256, Mm.by8 (imm % 18446744073709551616) 0, Mm.by8 (imm % 18446744073709551616) 1, Mm.by8 (imm % 18446744073709551616) 2, Mm.by8 (imm % 18446744073709551616) 3] := rfl
 intro N g hN hg
 rw [e] at hN hg ⊢
 have hN : 7 ≤ N := hN
 have g1 : g 1 = (16 * a + b) % 256 := hg 1 (show 1 < 7 from by decide)
 have g2 : g 2 = k % 256 := hg 2 (show 2 < 7 from by decide)
 have g3 : g 3 = Mm.by8 (imm % 18446744073709551616) 0 := hg 3 (show 3 < 7 from by decide)
 have g4 : g 4 = Mm.by8 (imm % 18446744073709551616) 1 := hg 4 (show 4 < 7 from by decide)
 have g5 : g 5 = Mm.by8 (imm % 18446744073709551616) 2 := hg 5 (show 5 < 7 from by decide)
 have g6 : g 6 = Mm.by8 (imm % 18446744073709551616) 3 := hg 6 (show 6 < 7 from by decide)
 show rdL N g [97, 75, 52] ⟨11, 0, 0, 0, 0, 0, 0, 0, 0⟩ 0 1 = _
 rw [step_a (a := a) (b := b) (by omega) (by dsimp only; decide) g1 a1 a2 b1 b2]
 rw [step_K (k := k) (by omega) (by dsimp only; decide) g2 k1 k2]
 rw [step_4 (n := imm) (by omega) (by dsimp only; decide) (num_low (.inr (.inl ⟨rfl, by omega, by omega⟩)) (four g3 g4 g5 g6))]
 rfl
theorem says_12 {a b c k sc imm : Int} (a1 : 0 ≤ a) (a2 : a < 16) (b1 : 0 ≤ b) (b2 : b < 16) (c1 : 0 ≤ c) (c2 : c < 16) (hs : sc = 1 ∨ sc = 2 ∨ sc = 4 ∨ sc = 8 ∨ sc = 0) (k1 : 0 ≤ k) (k2 : k < 256) (i1 : -2147483648 ≤ imm) (i2 : imm < 2147483648) : Says ⟨12, a, b, c, k, 0, sc, imm, 0⟩ := by
 have e : enc ⟨12, a, b, c, k, 0, sc, imm, 0⟩ = [12, (16 * a + b) % 256, (16 * c + lg sc) % 256, k % 256, Mm.by8 (imm % 18446744073709551616) 0, Mm.by8 (imm % 18446744073709551616) 1, Mm.by8 (imm % 18446744073709551616) 2, Mm.by8 (imm % 18446744073709551616) 3] := rfl
 intro N g hN hg
 rw [e] at hN hg ⊢
 have hN : 8 ≤ N := hN
 have g1 : g 1 = (16 * a + b) % 256 := hg 1 (show 1 < 8 from by decide)
 have g2 : g 2 = (16 * c + lg sc) % 256 := hg 2 (show 2 < 8 from by decide)
 have g3 : g 3 = k % 256 := hg 3 (show 3 < 8 from by decide)
 have g4 : g 4 = Mm.by8 (imm % 18446744073709551616) 0 := hg 4 (show 4 < 8 from by decide)
 have g5 : g 5 = Mm.by8 (imm % 18446744073709551616) 1 := hg 5 (show 5 < 8 from by decide)
 have g6 : g 6 = Mm.by8 (imm % 18446744073709551616) 2 := hg 6 (show 6 < 8 from by decide)
 have g7 : g 7 = Mm.by8 (imm % 18446744073709551616) 3 := hg 7 (show 7 < 8 from by decide)
 show rdL N g [97, 99, 75, 52] ⟨12, 0, 0, 0, 0, 0, 0, 0, 0⟩ 0 1 = _
 rw [step_a (a := a) (b := b) (by omega) (by dsimp only; decide) g1 a1 a2 b1 b2]
 rw [step_c (c := c) (sc := sc) (by omega) (by dsimp only; decide) g2 c1 c2 hs]
 rw [step_K (k := k) (by omega) (by dsimp only; decide) g3 k1 k2]
 rw [step_4 (n := imm) (by omega) (by dsimp only; decide) (num_low (.inr (.inl ⟨rfl, by omega, by omega⟩)) (four g4 g5 g6 g7))]
 rfl
theorem says_13 {a b k imm : Int} (a1 : 0 ≤ a) (a2 : a < 16) (b1 : 0 ≤ b) (b2 : b < 16) (k1 : 0 ≤ k) (k2 : k < 256) (i1 : -2147483648 ≤ imm) (i2 : imm < 2147483648) : Says ⟨13, a, b, 0, k, 0, 0, imm, 0⟩ := by
 have e : enc ⟨13, a, b, 0, k, 0, 0, imm, 0⟩ = [13, (16 * a + b) % 256, k % 256, Mm.by8 (imm % 18446744073709551616) 0, Mm.by8 (imm % 18446744073709551616) 1, Mm.by8 (imm % 18446744073709551616) 2, Mm.by8 (imm % 18446744073709551616) 3] := rfl
 intro N g hN hg
 rw [e] at hN hg ⊢
 have hN : 7 ≤ N := hN
 have g1 : g 1 = (16 * a + b) % 256 := hg 1 (show 1 < 7 from by decide)
 have g2 : g 2 = k % 256 := hg 2 (show 2 < 7 from by decide)
 have g3 : g 3 = Mm.by8 (imm % 18446744073709551616) 0 := hg 3 (show 3 < 7 from by decide)
 have g4 : g 4 = Mm.by8 (imm % 18446744073709551616) 1 := hg 4 (show 4 < 7 from by decide)
 have g5 : g 5 = Mm.by8 (imm % 18446744073709551616) 2 := hg 5 (show 5 < 7 from by decide)
 have g6 : g 6 = Mm.by8 (imm % 18446744073709551616) 3 := hg 6 (show 6 < 7 from by decide)
 show rdL N g [97, 75, 52] ⟨13, 0, 0, 0, 0, 0, 0, 0, 0⟩ 0 1 = _
 rw [step_a (a := a) (b := b) (by omega) (by dsimp only; decide) g1 a1 a2 b1 b2]
 rw [step_K (k := k) (by omega) (by dsimp only; decide) g2 k1 k2]
 rw [step_4 (n := imm) (by omega) (by dsimp only; decide) (num_low (.inr (.inl ⟨rfl, by omega, by omega⟩)) (four g3 g4 g5 g6))]
 rfl
theorem says_14 {a b c k sc imm : Int} (a1 : 0 ≤ a) (a2 : a < 16) (b1 : 0 ≤ b) (b2 : b < 16) (c1 : 0 ≤ c) (c2 : c < 16) (hs : sc = 1 ∨ sc = 2 ∨ sc = 4 ∨ sc = 8 ∨ sc = 0) (k1 : 0 ≤ k) (k2 : k < 256) (i1 : -2147483648 ≤ imm) (i2 : imm < 2147483648) : Says ⟨14, a, b, c, k, 0, sc, imm, 0⟩ := by
 have e : enc ⟨14, a, b, c, k, 0, sc, imm, 0⟩ = [14, (16 * a + b) % 256, (16 * c + lg sc) % 256, k % 256, Mm.by8 (imm % 18446744073709551616) 0, Mm.by8 (imm % 18446744073709551616) 1, Mm.by8 (imm % 18446744073709551616) 2, Mm.by8 (imm % 18446744073709551616) 3] := rfl
 intro N g hN hg
 rw [e] at hN hg ⊢
 have hN : 8 ≤ N := hN
 have g1 : g 1 = (16 * a + b) % 256 := hg 1 (show 1 < 8 from by decide)
 have g2 : g 2 = (16 * c + lg sc) % 256 := hg 2 (show 2 < 8 from by decide)
 have g3 : g 3 = k % 256 := hg 3 (show 3 < 8 from by decide)
 have g4 : g 4 = Mm.by8 (imm % 18446744073709551616) 0 := hg 4 (show 4 < 8 from by decide)
 have g5 : g 5 = Mm.by8 (imm % 18446744073709551616) 1 := hg 5 (show 5 < 8 from by decide)
 have g6 : g 6 = Mm.by8 (imm % 18446744073709551616) 2 := hg 6 (show 6 < 8 from by decide)
 have g7 : g 7 = Mm.by8 (imm % 18446744073709551616) 3 := hg 7 (show 7 < 8 from by decide)
 show rdL N g [97, 99, 75, 52] ⟨14, 0, 0, 0, 0, 0, 0, 0, 0⟩ 0 1 = _
 rw [step_a (a := a) (b := b) (by omega) (by dsimp only; decide) g1 a1 a2 b1 b2]
 rw [step_c (c := c) (sc := sc) (by omega) (by dsimp only; decide) g2 c1 c2 hs]
 rw [step_K (k := k) (by omega) (by dsimp only; decide) g3 k1 k2]
 rw [step_4 (n := imm) (by omega) (by dsimp only; decide) (num_low (.inr (.inl ⟨rfl, by omega, by omega⟩)) (four g4 g5 g6 g7))]
 rfl
theorem says_15 {a b sub : Int} (a1 : 0 ≤ a) (a2 : a < 16) (b1 : 0 ≤ b) (b2 : b < 16) (s1 : 0 ≤ sub) (s2 : sub < 256) : Says ⟨15, a, b, 0, 0, sub, 0, 0, 0⟩ := by
 have e : enc ⟨15, a, b, 0, 0, sub, 0, 0, 0⟩ = [15, (16 * a + b) % 256, sub % 256] := rfl
 intro N g hN hg
 rw [e] at hN hg ⊢
 have hN : 3 ≤ N := hN
 have g1 : g 1 = (16 * a + b) % 256 := hg 1 (show 1 < 3 from by decide)
 have g2 : g 2 = sub % 256 := hg 2 (show 2 < 3 from by decide)
 show rdL N g [97, 83] ⟨15, 0, 0, 0, 0, 0, 0, 0, 0⟩ 0 1 = _
 rw [step_a (a := a) (b := b) (by omega) (by dsimp only; decide) g1 a1 a2 b1 b2]
 rw [step_S (k := sub) (by omega) (by dsimp only; decide) g2 s1 s2]
 rfl
theorem says_16 {a b k : Int} (a1 : 0 ≤ a) (a2 : a < 16) (b1 : 0 ≤ b) (b2 : b < 16) (k1 : 0 ≤ k) (k2 : k < 256) : Says ⟨16, a, b, 0, k, 0, 0, 0, 0⟩ := by
 have e : enc ⟨16, a, b, 0, k, 0, 0, 0, 0⟩ = [16, (16 * a + b) % 256, k % 256] := rfl
 intro N g hN hg
 rw [e] at hN hg ⊢
 have hN : 3 ≤ N := hN
 have g1 : g 1 = (16 * a + b) % 256 := hg 1 (show 1 < 3 from by decide)
 have g2 : g 2 = k % 256 := hg 2 (show 2 < 3 from by decide)
 show rdL N g [97, 75] ⟨16, 0, 0, 0, 0, 0, 0, 0, 0⟩ 0 1 = _
 rw [step_a (a := a) (b := b) (by omega) (by dsimp only; decide) g1 a1 a2 b1 b2]
 rw [step_K (k := k) (by omega) (by dsimp only; decide) g2 k1 k2]
 rfl
theorem says_17_0 {a k imm : Int} (a1 : 0 ≤ a) (a2 : a < 16) (k1 : 0 ≤ k) (k2 : k < 256) (i1 : -128 ≤ imm) (i2 : imm < 128) : Says ⟨17, a, 0, 0, k, 0, 0, imm, 0⟩ := by
 have hz : size imm = 0 := by
  unfold size
  rw [if_pos ⟨i1, i2⟩]
 have e : enc ⟨17, a, 0, 0, k, 0, 0, imm, 0⟩ = [17, (16 * a + 0) % 256, k % 256, Mm.by8 (imm % 18446744073709551616) 0] := by
  show (17 : Int) % 256 :: ([(16 * a + size imm) % 256] ++ ([k % 256] ++ (low imm (cnt (size imm)) ++ []))) = _
  rw [hz]; rfl
 intro N g hN hg
 rw [e] at hN hg ⊢
 have hN : 4 ≤ N := hN
 have g1 : g 1 = (16 * a + 0) % 256 := hg 1 (show 1 < 4 from by decide)
 have g2 : g 2 = k % 256 := hg 2 (show 2 < 4 from by decide)
 have g3 : g 3 = Mm.by8 (imm % 18446744073709551616) 0 := hg 3 (show 3 < 4 from by decide)
 show rdL N g [110, 75, 105] ⟨17, 0, 0, 0, 0, 0, 0, 0, 0⟩ 0 1 = _
 rw [step_n (a := a) (z' := 0) (by omega) (by decide) (by dsimp only; decide) g1 a1 a2]
 rw [step_K (k := k) (by omega) (by dsimp only; decide) g2 k1 k2]
 rw [step_i (n := imm) (show 3 + 1 ≤ N from by omega) (by dsimp only; decide) (show num g 3 1 = imm from num_low (.inl ⟨rfl, by omega, by omega⟩) (one g3))]
 rfl
theorem says_17_1 {a k imm : Int} (a1 : 0 ≤ a) (a2 : a < 16) (k1 : 0 ≤ k) (k2 : k < 256) (i1 : -2147483648 ≤ imm) (i2 : imm < 2147483648) (i3 : ¬ (-128 ≤ imm ∧ imm < 128)) : Says ⟨17, a, 0, 0, k, 0, 0, imm, 0⟩ := by
 have hz : size imm = 1 := by
  unfold size
  rw [if_neg i3, if_pos ⟨i1, i2⟩]
 have e : enc ⟨17, a, 0, 0, k, 0, 0, imm, 0⟩ = [17, (16 * a + 1) % 256, k % 256, Mm.by8 (imm % 18446744073709551616) 0, Mm.by8 (imm % 18446744073709551616) 1, Mm.by8 (imm % 18446744073709551616) 2, Mm.by8 (imm % 18446744073709551616) 3] := by
  show (17 : Int) % 256 :: ([(16 * a + size imm) % 256] ++ ([k % 256] ++ (low imm (cnt (size imm)) ++ []))) = _
  rw [hz]; rfl
 intro N g hN hg
 rw [e] at hN hg ⊢
 have hN : 7 ≤ N := hN
 have g1 : g 1 = (16 * a + 1) % 256 := hg 1 (show 1 < 7 from by decide)
 have g2 : g 2 = k % 256 := hg 2 (show 2 < 7 from by decide)
 have g3 : g 3 = Mm.by8 (imm % 18446744073709551616) 0 := hg 3 (show 3 < 7 from by decide)
 have g4 : g 4 = Mm.by8 (imm % 18446744073709551616) 1 := hg 4 (show 4 < 7 from by decide)
 have g5 : g 5 = Mm.by8 (imm % 18446744073709551616) 2 := hg 5 (show 5 < 7 from by decide)
 have g6 : g 6 = Mm.by8 (imm % 18446744073709551616) 3 := hg 6 (show 6 < 7 from by decide)
 show rdL N g [110, 75, 105] ⟨17, 0, 0, 0, 0, 0, 0, 0, 0⟩ 0 1 = _
 rw [step_n (a := a) (z' := 1) (by omega) (by decide) (by dsimp only; decide) g1 a1 a2]
 rw [step_K (k := k) (by omega) (by dsimp only; decide) g2 k1 k2]
 rw [step_i (n := imm) (show 3 + 4 ≤ N from by omega) (by dsimp only; decide) (show num g 3 4 = imm from num_low (.inr (.inl ⟨rfl, by omega, by omega⟩)) (four g3 g4 g5 g6))]
 rfl
theorem says_18 {a sub : Int} (a1 : 0 ≤ a) (a2 : a < 16) (s1 : 0 ≤ sub) (s2 : sub < 256) : Says ⟨18, a, 0, 0, 0, sub, 0, 0, 0⟩ := by
 have e : enc ⟨18, a, 0, 0, 0, sub, 0, 0, 0⟩ = [18, (16 * a + 0) % 256, sub % 256] := rfl
 intro N g hN hg
 rw [e] at hN hg ⊢
 have hN : 3 ≤ N := hN
 have g1 : g 1 = (16 * a + 0) % 256 := hg 1 (show 1 < 3 from by decide)
 have g2 : g 2 = sub % 256 := hg 2 (show 2 < 3 from by decide)
 show rdL N g [97, 83] ⟨18, 0, 0, 0, 0, 0, 0, 0, 0⟩ 0 1 = _
 rw [step_a (a := a) (b := 0) (by omega) (by dsimp only; decide) g1 a1 a2 (by decide) (by decide)]
 rw [step_S (k := sub) (by omega) (by dsimp only; decide) g2 s1 s2]
 rfl
theorem says_19_0 {imm : Int} (i1 : -128 ≤ imm) (i2 : imm < 128) : Says ⟨19, 0, 0, 0, 0, 0, 0, imm, 0⟩ := by
 have hz : size imm = 0 := by
  unfold size
  rw [if_pos ⟨i1, i2⟩]
 have e : enc ⟨19, 0, 0, 0, 0, 0, 0, imm, 0⟩ = [19, 0, Mm.by8 (imm % 18446744073709551616) 0] := by
  show (19 : Int) % 256 :: ([size imm % 256] ++ (low imm (cnt (size imm)) ++ [])) = _
  rw [hz]; rfl
 intro N g hN hg
 rw [e] at hN hg ⊢
 have hN : 3 ≤ N := hN
 have g1 : g 1 = 0 := hg 1 (show 1 < 3 from by decide)
 have g2 : g 2 = Mm.by8 (imm % 18446744073709551616) 0 := hg 2 (show 2 < 3 from by decide)
 show rdL N g [106, 105] ⟨19, 0, 0, 0, 0, 0, 0, 0, 0⟩ 0 1 = _
 rw [step_j (z' := 0) (by omega) (by dsimp only; decide) g1]
 rw [step_i (n := imm) (show 2 + 1 ≤ N from by omega) (by dsimp only; decide) (show num g 2 1 = imm from num_low (.inl ⟨rfl, by omega, by omega⟩) (one g2))]
 rfl
theorem says_19_1 {imm : Int} (i1 : -2147483648 ≤ imm) (i2 : imm < 2147483648) (i3 : ¬ (-128 ≤ imm ∧ imm < 128)) : Says ⟨19, 0, 0, 0, 0, 0, 0, imm, 0⟩ := by
 have hz : size imm = 1 := by
  unfold size
  rw [if_neg i3, if_pos ⟨i1, i2⟩]
 have e : enc ⟨19, 0, 0, 0, 0, 0, 0, imm, 0⟩ = [19, 1, Mm.by8 (imm % 18446744073709551616) 0, Mm.by8 (imm % 18446744073709551616) 1, Mm.by8 (imm % 18446744073709551616) 2, Mm.by8 (imm % 18446744073709551616) 3] := by
  show (19 : Int) % 256 :: ([size imm % 256] ++ (low imm (cnt (size imm)) ++ [])) = _
  rw [hz]; rfl
 intro N g hN hg
 rw [e] at hN hg ⊢
 have hN : 6 ≤ N := hN
 have g1 : g 1 = 1 := hg 1 (show 1 < 6 from by decide)
 have g2 : g 2 = Mm.by8 (imm % 18446744073709551616) 0 := hg 2 (show 2 < 6 from by decide)
 have g3 : g 3 = Mm.by8 (imm % 18446744073709551616) 1 := hg 3 (show 3 < 6 from by decide)
 have g4 : g 4 = Mm.by8 (imm % 18446744073709551616) 2 := hg 4 (show 4 < 6 from by decide)
 have g5 : g 5 = Mm.by8 (imm % 18446744073709551616) 3 := hg 5 (show 5 < 6 from by decide)
 show rdL N g [106, 105] ⟨19, 0, 0, 0, 0, 0, 0, 0, 0⟩ 0 1 = _
 rw [step_j (z' := 1) (by omega) (by dsimp only; decide) g1]
 rw [step_i (n := imm) (show 2 + 4 ≤ N from by omega) (by dsimp only; decide) (show num g 2 4 = imm from num_low (.inr (.inl ⟨rfl, by omega, by omega⟩)) (four g2 g3 g4 g5))]
 rfl
theorem says_22_0 {sub imm : Int} (s1 : 11 ≤ sub) (s2 : sub ≤ 16) (i1 : -128 ≤ imm) (i2 : imm < 128) : Says ⟨22, 0, 0, 0, 0, sub, 0, imm, 0⟩ := by
 have hz : size imm = 0 := by
  unfold size
  rw [if_pos ⟨i1, i2⟩]
 have e : enc ⟨22, 0, 0, 0, 0, sub, 0, imm, 0⟩ = [22, (16 * (sub - 11) + 0) % 256, Mm.by8 (imm % 18446744073709551616) 0] := by
  show (22 : Int) % 256 :: ([(16 * (sub - 11) + size imm) % 256] ++ (low imm (cnt (size imm)) ++ [])) = _
  rw [hz]; rfl
 intro N g hN hg
 rw [e] at hN hg ⊢
 have hN : 3 ≤ N := hN
 have g1 : g 1 = (16 * (sub - 11) + 0) % 256 := hg 1 (show 1 < 3 from by decide)
 have g2 : g 2 = Mm.by8 (imm % 18446744073709551616) 0 := hg 2 (show 2 < 3 from by decide)
 show rdL N g [74, 105] ⟨22, 0, 0, 0, 0, 0, 0, 0, 0⟩ 0 1 = _
 rw [step_J (sub := sub) (z' := 0) (by omega) (by decide) (by dsimp only; decide) g1 s1 s2]
 rw [step_i (n := imm) (show 2 + 1 ≤ N from by omega) (by dsimp only; decide) (show num g 2 1 = imm from num_low (.inl ⟨rfl, by omega, by omega⟩) (one g2))]
 rfl
theorem says_22_1 {sub imm : Int} (s1 : 11 ≤ sub) (s2 : sub ≤ 16) (i1 : -2147483648 ≤ imm) (i2 : imm < 2147483648) (i3 : ¬ (-128 ≤ imm ∧ imm < 128)) : Says ⟨22, 0, 0, 0, 0, sub, 0, imm, 0⟩ := by
 have hz : size imm = 1 := by
  unfold size
  rw [if_neg i3, if_pos ⟨i1, i2⟩]
 have e : enc ⟨22, 0, 0, 0, 0, sub, 0, imm, 0⟩ = [22, (16 * (sub - 11) + 1) % 256, Mm.by8 (imm % 18446744073709551616) 0, Mm.by8 (imm % 18446744073709551616) 1, Mm.by8 (imm % 18446744073709551616) 2, Mm.by8 (imm % 18446744073709551616) 3] := by
  show (22 : Int) % 256 :: ([(16 * (sub - 11) + size imm) % 256] ++ (low imm (cnt (size imm)) ++ [])) = _
  rw [hz]; rfl
 intro N g hN hg
 rw [e] at hN hg ⊢
 have hN : 6 ≤ N := hN
 have g1 : g 1 = (16 * (sub - 11) + 1) % 256 := hg 1 (show 1 < 6 from by decide)
 have g2 : g 2 = Mm.by8 (imm % 18446744073709551616) 0 := hg 2 (show 2 < 6 from by decide)
 have g3 : g 3 = Mm.by8 (imm % 18446744073709551616) 1 := hg 3 (show 3 < 6 from by decide)
 have g4 : g 4 = Mm.by8 (imm % 18446744073709551616) 2 := hg 4 (show 4 < 6 from by decide)
 have g5 : g 5 = Mm.by8 (imm % 18446744073709551616) 3 := hg 5 (show 5 < 6 from by decide)
 show rdL N g [74, 105] ⟨22, 0, 0, 0, 0, 0, 0, 0, 0⟩ 0 1 = _
 rw [step_J (sub := sub) (z' := 1) (by omega) (by decide) (by dsimp only; decide) g1 s1 s2]
 rw [step_i (n := imm) (show 2 + 4 ≤ N from by omega) (by dsimp only; decide) (show num g 2 4 = imm from num_low (.inr (.inl ⟨rfl, by omega, by omega⟩)) (four g2 g3 g4 g5))]
 rfl
theorem says_23 {imm : Int} (i1 : -2147483648 ≤ imm) (i2 : imm < 2147483648) : Says ⟨23, 0, 0, 0, 0, 0, 0, imm, 0⟩ := by
 have e : enc ⟨23, 0, 0, 0, 0, 0, 0, imm, 0⟩ = [23, Mm.by8 (imm % 18446744073709551616) 0, Mm.by8 (imm % 18446744073709551616) 1, Mm.by8 (imm % 18446744073709551616) 2, Mm.by8 (imm % 18446744073709551616) 3] := rfl
 intro N g hN hg
 rw [e] at hN hg ⊢
 have hN : 5 ≤ N := hN
 have g1 : g 1 = Mm.by8 (imm % 18446744073709551616) 0 := hg 1 (show 1 < 5 from by decide)
 have g2 : g 2 = Mm.by8 (imm % 18446744073709551616) 1 := hg 2 (show 2 < 5 from by decide)
 have g3 : g 3 = Mm.by8 (imm % 18446744073709551616) 2 := hg 3 (show 3 < 5 from by decide)
 have g4 : g 4 = Mm.by8 (imm % 18446744073709551616) 3 := hg 4 (show 4 < 5 from by decide)
 show rdL N g [52] ⟨23, 0, 0, 0, 0, 0, 0, 0, 0⟩ 0 1 = _
 rw [step_4 (n := imm) (by omega) (by dsimp only; decide) (num_low (.inr (.inl ⟨rfl, by omega, by omega⟩)) (four g1 g2 g3 g4))]
 rfl
theorem says_24 : Says ⟨24, 0, 0, 0, 0, 0, 0, 0, 0⟩ := by
 have e : enc ⟨24, 0, 0, 0, 0, 0, 0, 0, 0⟩ = [24] := rfl
 intro N g hN hg
 rw [e] at hN hg ⊢
 show rdL N g [] ⟨24, 0, 0, 0, 0, 0, 0, 0, 0⟩ 0 1 = _
 rfl
theorem says_25 {imm : Int} (i1 : -2147483648 ≤ imm) (i2 : imm < 2147483648) : Says ⟨25, 0, 0, 0, 0, 0, 0, imm, 0⟩ := by
 have e : enc ⟨25, 0, 0, 0, 0, 0, 0, imm, 0⟩ = [25, Mm.by8 (imm % 18446744073709551616) 0, Mm.by8 (imm % 18446744073709551616) 1, Mm.by8 (imm % 18446744073709551616) 2, Mm.by8 (imm % 18446744073709551616) 3] := rfl
 intro N g hN hg
 rw [e] at hN hg ⊢
 have hN : 5 ≤ N := hN
 have g1 : g 1 = Mm.by8 (imm % 18446744073709551616) 0 := hg 1 (show 1 < 5 from by decide)
 have g2 : g 2 = Mm.by8 (imm % 18446744073709551616) 1 := hg 2 (show 2 < 5 from by decide)
 have g3 : g 3 = Mm.by8 (imm % 18446744073709551616) 2 := hg 3 (show 3 < 5 from by decide)
 have g4 : g 4 = Mm.by8 (imm % 18446744073709551616) 3 := hg 4 (show 4 < 5 from by decide)
 show rdL N g [52] ⟨25, 0, 0, 0, 0, 0, 0, 0, 0⟩ 0 1 = _
 rw [step_4 (n := imm) (by omega) (by dsimp only; decide) (num_low (.inr (.inl ⟨rfl, by omega, by omega⟩)) (four g1 g2 g3 g4))]
 rfl
theorem says_26 {a b : Int} (a1 : 0 ≤ a) (a2 : a < 16) (b1 : 0 ≤ b) (b2 : b < 16) : Says ⟨26, a, b, 0, 0, 0, 0, 0, 0⟩ := by
 have e : enc ⟨26, a, b, 0, 0, 0, 0, 0, 0⟩ = [26, (16 * a + b) % 256] := rfl
 intro N g hN hg
 rw [e] at hN hg ⊢
 have hN : 2 ≤ N := hN
 have g1 : g 1 = (16 * a + b) % 256 := hg 1 (show 1 < 2 from by decide)
 show rdL N g [97] ⟨26, 0, 0, 0, 0, 0, 0, 0, 0⟩ 0 1 = _
 rw [step_a (a := a) (b := b) (by omega) (by dsimp only; decide) g1 a1 a2 b1 b2]
 rfl
theorem says_27 {a : Int} (a1 : 0 ≤ a) (a2 : a < 16) : Says ⟨27, a, 0, 0, 0, 0, 0, 0, 0⟩ := by
 have e : enc ⟨27, a, 0, 0, 0, 0, 0, 0, 0⟩ = [27, (16 * a + 0) % 256] := rfl
 intro N g hN hg
 rw [e] at hN hg ⊢
 have hN : 2 ≤ N := hN
 have g1 : g 1 = (16 * a + 0) % 256 := hg 1 (show 1 < 2 from by decide)
 show rdL N g [97] ⟨27, 0, 0, 0, 0, 0, 0, 0, 0⟩ 0 1 = _
 rw [step_a (a := a) (b := 0) (by omega) (by dsimp only; decide) g1 a1 a2 (by decide) (by decide)]
 rfl
theorem says_28 {a : Int} (a1 : 0 ≤ a) (a2 : a < 16) : Says ⟨28, a, 0, 0, 0, 0, 0, 0, 0⟩ := by
 have e : enc ⟨28, a, 0, 0, 0, 0, 0, 0, 0⟩ = [28, (16 * a + 0) % 256] := rfl
 intro N g hN hg
 rw [e] at hN hg ⊢
 have hN : 2 ≤ N := hN
 have g1 : g 1 = (16 * a + 0) % 256 := hg 1 (show 1 < 2 from by decide)
 show rdL N g [97] ⟨28, 0, 0, 0, 0, 0, 0, 0, 0⟩ 0 1 = _
 rw [step_a (a := a) (b := 0) (by omega) (by dsimp only; decide) g1 a1 a2 (by decide) (by decide)]
 rfl
theorem says_29 {imm : Int} (i1 : -2147483648 ≤ imm) (i2 : imm < 2147483648) : Says ⟨29, 0, 0, 0, 0, 0, 0, imm, 0⟩ := by
 have e : enc ⟨29, 0, 0, 0, 0, 0, 0, imm, 0⟩ = [29, Mm.by8 (imm % 18446744073709551616) 0, Mm.by8 (imm % 18446744073709551616) 1, Mm.by8 (imm % 18446744073709551616) 2, Mm.by8 (imm % 18446744073709551616) 3] := rfl
 intro N g hN hg
 rw [e] at hN hg ⊢
 have hN : 5 ≤ N := hN
 have g1 : g 1 = Mm.by8 (imm % 18446744073709551616) 0 := hg 1 (show 1 < 5 from by decide)
 have g2 : g 2 = Mm.by8 (imm % 18446744073709551616) 1 := hg 2 (show 2 < 5 from by decide)
 have g3 : g 3 = Mm.by8 (imm % 18446744073709551616) 2 := hg 3 (show 3 < 5 from by decide)
 have g4 : g 4 = Mm.by8 (imm % 18446744073709551616) 3 := hg 4 (show 4 < 5 from by decide)
 show rdL N g [52] ⟨29, 0, 0, 0, 0, 0, 0, 0, 0⟩ 0 1 = _
 rw [step_4 (n := imm) (by omega) (by dsimp only; decide) (num_low (.inr (.inl ⟨rfl, by omega, by omega⟩)) (four g1 g2 g3 g4))]
 rfl
end Cc
namespace Cc
theorem says {v : InV} (h : mayB v = true) (i1 : -9223372036854775808 ≤ v.imm) (i2 : v.imm ≤ 9223372036854775807) : Says v := by
 have r := rng h
 have hc := codes r.rw
 obtain ⟨op, a, b, c, k, sub, sc, imm, lb⟩ := v
 obtain ⟨_, hl, a1, a2, b1, b2, c1, c2, u0, u1, u2, u3, u4, u5, sm, kd⟩ := r
 dsimp only at *
 subst hl
 rcases hc with rfl | rfl | rfl | rfl | rfl | rfl | rfl | rfl | rfl | rfl | rfl | rfl | rfl | rfl | rfl | rfl | rfl | rfl | rfl | rfl | rfl | rfl | rfl | rfl | rfl
 ·obtain rfl : b = 0 := u1.resolve_left (by decide)
  obtain rfl : k = 0 := u3.resolve_left (by decide)
  obtain rfl : sub = 0 := u4.resolve_left (by decide)
  obtain ⟨rfl, rfl⟩ : c = 0 ∧ sc = 0 := u2.resolve_left (by decide)
  by_cases z0 : -128 ≤ imm ∧ imm < 128
  ·exact says_1_0 a1 a2 z0.1 z0.2
  ·by_cases z1 : -2147483648 ≤ imm ∧ imm < 2147483648
   ·exact says_1_1 a1 a2 z1.1 z1.2 z0
   ·exact says_1_2 a1 a2 i1 i2 z1
 ·obtain rfl : k = 0 := u3.resolve_left (by decide)
  obtain rfl : sub = 0 := u4.resolve_left (by decide)
  obtain rfl : imm = 0 := u5.resolve_left (by decide)
  obtain ⟨rfl, rfl⟩ : c = 0 ∧ sc = 0 := u2.resolve_left (by decide)
  exact says_3 a1 a2 b1 b2
 ·obtain rfl : imm = 0 := u5.resolve_left (by decide)
  obtain ⟨rfl, rfl⟩ : c = 0 ∧ sc = 0 := u2.resolve_left (by decide)
  have q := bin_rng (show binB _ = true from kd)
  dsimp only at q
  exact says_4 a1 a2 b1 b2 (by omega) (by omega) (by omega) (by omega)
 ·obtain rfl : b = 0 := u1.resolve_left (by decide)
  obtain ⟨rfl, rfl⟩ : c = 0 ∧ sc = 0 := u2.resolve_left (by decide)
  have q := imm_rng (show immB sub k imm = true from kd)
  have sm := sm.resolve_left (by decide)
  by_cases z0 : -128 ≤ imm ∧ imm < 128
  ·exact says_5_0 a1 a2 (by omega) (by omega) (by omega) (by omega) z0.1 z0.2
  ·exact says_5_1 a1 a2 (by omega) (by omega) (by omega) (by omega) sm.1 sm.2 z0
 ·obtain ⟨rfl, rfl⟩ : c = 0 ∧ sc = 0 := u2.resolve_left (by decide)
  have q := binM_rng (show (Wd.hasBinB sub k && _ && _) = true from kd)
  have sm := sm.resolve_left (by decide)
  exact says_6 a1 a2 b1 b2 (by omega) (by omega) (by omega) (by omega) sm.1 sm.2
 ·obtain rfl : b = 0 := u1.resolve_left (by decide)
  obtain rfl : imm = 0 := u5.resolve_left (by decide)
  obtain ⟨rfl, rfl⟩ : c = 0 ∧ sc = 0 := u2.resolve_left (by decide)
  have q := Rc.un_rng (show Wd.hasUnB sub k = true from kd)
  exact says_7 a1 a2 (by omega) (by omega) (by omega) (by omega)
 ·obtain rfl : imm = 0 := u5.resolve_left (by decide)
  obtain ⟨rfl, rfl⟩ : c = 0 ∧ sc = 0 := u2.resolve_left (by decide)
  have q := Rc.conv_rng (show (Wd.numB sub && Wd.numB k) = true from kd)
  exact says_8 a1 a2 b1 b2 (by omega) (by omega) (by omega) (by omega)
 ·obtain rfl : k = 0 := u3.resolve_left (by decide)
  obtain rfl : sub = 0 := u4.resolve_left (by decide)
  have q := scl_rng (show sclB _ = true from kd)
  have sm := sm.resolve_left (by decide)
  exact says_10 a1 a2 b1 b2 c1 c2 q sm.1 sm.2
 ·obtain rfl : sub = 0 := u4.resolve_left (by decide)
  obtain ⟨rfl, rfl⟩ : c = 0 ∧ sc = 0 := u2.resolve_left (by decide)
  have q := Rc.word_rng (show Wd.wordB k = true from kd)
  have sm := sm.resolve_left (by decide)
  exact says_11 a1 a2 b1 b2 (by omega) (by omega) sm.1 sm.2
 ·obtain rfl : sub = 0 := u4.resolve_left (by decide)
  have q2 := (Bool.and_eq_true _ _).mp (show (sclB _ && Wd.wordB k) = true from kd)
  have q := scl_rng q2.1
  have q3 := Rc.word_rng q2.2
  have sm := sm.resolve_left (by decide)
  exact says_12 a1 a2 b1 b2 c1 c2 q (by omega) (by omega) sm.1 sm.2
 ·obtain rfl : sub = 0 := u4.resolve_left (by decide)
  obtain ⟨rfl, rfl⟩ : c = 0 ∧ sc = 0 := u2.resolve_left (by decide)
  have q := Rc.word_rng (show Wd.wordB k = true from kd)
  have sm := sm.resolve_left (by decide)
  exact says_13 a1 a2 b1 b2 (by omega) (by omega) sm.1 sm.2
 ·obtain rfl : sub = 0 := u4.resolve_left (by decide)
  have q2 := (Bool.and_eq_true _ _).mp (show (sclB _ && Wd.wordB k) = true from kd)
  have q := scl_rng q2.1
  have q3 := Rc.word_rng q2.2
  have sm := sm.resolve_left (by decide)
  exact says_14 a1 a2 b1 b2 c1 c2 q (by omega) (by omega) sm.1 sm.2
 ·obtain rfl : k = 0 := u3.resolve_left (by decide)
  obtain rfl : imm = 0 := u5.resolve_left (by decide)
  obtain ⟨rfl, rfl⟩ : c = 0 ∧ sc = 0 := u2.resolve_left (by decide)
  have q := cmp_rng (show Wd.cmpB sub = true from kd)
  exact says_15 a1 a2 b1 b2 (by omega) (by omega)
 ·obtain rfl : sub = 0 := u4.resolve_left (by decide)
  obtain rfl : imm = 0 := u5.resolve_left (by decide)
  obtain ⟨rfl, rfl⟩ : c = 0 ∧ sc = 0 := u2.resolve_left (by decide)
  have q := Rc.word_rng (show Wd.wordB k = true from kd)
  exact says_16 a1 a2 b1 b2 (by omega) (by omega)
 ·obtain rfl : b = 0 := u1.resolve_left (by decide)
  obtain rfl : sub = 0 := u4.resolve_left (by decide)
  obtain ⟨rfl, rfl⟩ : c = 0 ∧ sc = 0 := u2.resolve_left (by decide)
  have q := imm_rng (show immB 2 k imm = true from kd)
  have sm := sm.resolve_left (by decide)
  by_cases z0 : -128 ≤ imm ∧ imm < 128
  ·exact says_17_0 a1 a2 (by omega) (by omega) z0.1 z0.2
  ·exact says_17_1 a1 a2 (by omega) (by omega) sm.1 sm.2 z0
 ·obtain rfl : b = 0 := u1.resolve_left (by decide)
  obtain rfl : k = 0 := u3.resolve_left (by decide)
  obtain rfl : imm = 0 := u5.resolve_left (by decide)
  obtain ⟨rfl, rfl⟩ : c = 0 ∧ sc = 0 := u2.resolve_left (by decide)
  have q := cmp_rng (show Wd.cmpB sub = true from kd)
  exact says_18 a1 a2 (by omega) (by omega)
 ·obtain rfl : a = 0 := u0.resolve_left (by decide)
  obtain rfl : b = 0 := u1.resolve_left (by decide)
  obtain rfl : k = 0 := u3.resolve_left (by decide)
  obtain rfl : sub = 0 := u4.resolve_left (by decide)
  obtain ⟨rfl, rfl⟩ : c = 0 ∧ sc = 0 := u2.resolve_left (by decide)
  have sm := sm.resolve_left (by decide)
  by_cases z0 : -128 ≤ imm ∧ imm < 128
  ·exact says_19_0 z0.1 z0.2
  ·exact says_19_1 sm.1 sm.2 z0
 ·obtain rfl : a = 0 := u0.resolve_left (by decide)
  obtain rfl : b = 0 := u1.resolve_left (by decide)
  obtain rfl : k = 0 := u3.resolve_left (by decide)
  obtain ⟨rfl, rfl⟩ : c = 0 ∧ sc = 0 := u2.resolve_left (by decide)
  have q := cmp_rng (show Wd.cmpB sub = true from kd)
  have sm := sm.resolve_left (by decide)
  by_cases z0 : -128 ≤ imm ∧ imm < 128
  ·exact says_22_0 (by omega) (by omega) z0.1 z0.2
  ·exact says_22_1 (by omega) (by omega) sm.1 sm.2 z0
 ·obtain rfl : a = 0 := u0.resolve_left (by decide)
  obtain rfl : b = 0 := u1.resolve_left (by decide)
  obtain rfl : k = 0 := u3.resolve_left (by decide)
  obtain rfl : sub = 0 := u4.resolve_left (by decide)
  obtain ⟨rfl, rfl⟩ : c = 0 ∧ sc = 0 := u2.resolve_left (by decide)
  have sm := sm.resolve_left (by decide)
  exact says_23 sm.1 sm.2
 ·obtain rfl : a = 0 := u0.resolve_left (by decide)
  obtain rfl : b = 0 := u1.resolve_left (by decide)
  obtain rfl : k = 0 := u3.resolve_left (by decide)
  obtain rfl : sub = 0 := u4.resolve_left (by decide)
  obtain rfl : imm = 0 := u5.resolve_left (by decide)
  obtain ⟨rfl, rfl⟩ : c = 0 ∧ sc = 0 := u2.resolve_left (by decide)
  exact says_24
 ·obtain rfl : a = 0 := u0.resolve_left (by decide)
  obtain rfl : b = 0 := u1.resolve_left (by decide)
  obtain rfl : k = 0 := u3.resolve_left (by decide)
  obtain rfl : sub = 0 := u4.resolve_left (by decide)
  obtain ⟨rfl, rfl⟩ : c = 0 ∧ sc = 0 := u2.resolve_left (by decide)
  have sm := sm.resolve_left (by decide)
  exact says_25 sm.1 sm.2
 ·obtain rfl : k = 0 := u3.resolve_left (by decide)
  obtain rfl : sub = 0 := u4.resolve_left (by decide)
  obtain rfl : imm = 0 := u5.resolve_left (by decide)
  obtain ⟨rfl, rfl⟩ : c = 0 ∧ sc = 0 := u2.resolve_left (by decide)
  exact says_26 a1 a2 b1 b2
 ·obtain rfl : b = 0 := u1.resolve_left (by decide)
  obtain rfl : k = 0 := u3.resolve_left (by decide)
  obtain rfl : sub = 0 := u4.resolve_left (by decide)
  obtain rfl : imm = 0 := u5.resolve_left (by decide)
  obtain ⟨rfl, rfl⟩ : c = 0 ∧ sc = 0 := u2.resolve_left (by decide)
  exact says_27 a1 a2
 ·obtain rfl : b = 0 := u1.resolve_left (by decide)
  obtain rfl : k = 0 := u3.resolve_left (by decide)
  obtain rfl : sub = 0 := u4.resolve_left (by decide)
  obtain rfl : imm = 0 := u5.resolve_left (by decide)
  obtain ⟨rfl, rfl⟩ : c = 0 ∧ sc = 0 := u2.resolve_left (by decide)
  exact says_28 a1 a2
 ·obtain rfl : a = 0 := u0.resolve_left (by decide)
  obtain rfl : b = 0 := u1.resolve_left (by decide)
  obtain rfl : k = 0 := u3.resolve_left (by decide)
  obtain rfl : sub = 0 := u4.resolve_left (by decide)
  obtain ⟨rfl, rfl⟩ : c = 0 ∧ sc = 0 := u2.resolve_left (by decide)
  have sm := sm.resolve_left (by decide)
  exact says_29 sm.1 sm.2
theorem op_mod {v : InV} (h : mayB v = true) : v.op % 256 = v.op := by
 have hc := codes (rng h).rw
 omega
theorem enc_pos (v : InV) : 1 ≤ (enc v).length := by unfold enc; simp
theorem enc_zero {v : InV} (h : mayB v = true) : (enc v).getD 0 0 = v.op := by
 show v.op % 256 = v.op
 exact op_mod h
theorem dec_enc {v : InV} (h : mayB v = true) (i1 : -9223372036854775808 ≤ v.imm) (i2 : v.imm ≤ 9223372036854775807) {N : Nat} {g : Nat → Int} (hN : (enc v).length ≤ N) (hg : ∀ i, i < (enc v).length → g i = (enc v).getD i 0) : dec N g = (v, ((enc v).length : Int), 0) := by
 have hp := enc_pos v
 have g0 : g 0 = v.op := (hg 0 (by omega)).trans (enc_zero h)
 have hr : read N g = (v, ((enc v).length : Int)) := by
  unfold read
  rw [g0]
  exact says h i1 i2 N g hN hg
 have hs : startsB (enc v) g = true := decide_eq_true hg
 unfold dec
 rw [hr, g0]
 dsimp only
 rw [if_neg (by omega), if_neg (by rw [(rng h).rw]; decide), if_neg (by omega), if_neg]
 rw [h, hs]
 rintro (e | e | e | e)
 ·omega
 ·cases e
 ·exact e rfl
 ·cases e
theorem rd_N {N : Nat} {g : Nat → Int} : ∀ (s : List Int) (v : InV) (z : Int) (p : Nat), p ≤ N → 0 ≤ (rdL N g s v z p).2 → (rdL N g s v z p).2 ≤ N := by
 intro s
 induction s with
 | nil => intro v z p h1 h2; unfold rdL; dsimp only; omega
 | cons l s ih =>
  intro v z p h1 h2
  unfold rdL at h2 ⊢
  split
  ·dsimp only; omega
  ·rename_i h3
   rw [if_neg h3] at h2
   split
   ·rename_i h4
    rw [if_pos h4] at h2
    dsimp only at h2; omega
   ·rename_i h4
    rw [if_neg h4] at h2
    exact ih _ _ _ (by omega) h2
theorem dec_ok {N : Nat} {g : Nat → Int} {v : InV} {n : Int} (h : dec N g = (v, n, 0)) : mayB v = true ∧ ((enc v).length : Int) = n ∧ (∀ i, i < (enc v).length → g i = (enc v).getD i 0) ∧ n ≤ N ∧ read N g = (v, n) := by
 unfold dec at h
 split at h
 ·simp at h
 split at h
 ·simp at h
 split at h
 ·simp at h
 split at h
 ·simp at h
 rename_i h1 h2 h3 h4
 simp only [Prod.mk.injEq, and_true] at h
 obtain ⟨rfl, rfl⟩ := h
 have h5 : ¬ (read N g).2 < 0 := fun e => h4 (.inl e)
 have h6 : mayB (read N g).1 = true := by
  cases e : mayB (read N g).1
  ·exact absurd (.inr (.inl e)) h4
  ·rfl
 have h7 : ((enc (read N g).1).length : Int) = (read N g).2 := by
  by_cases e : ((enc (read N g).1).length : Int) = (read N g).2
  ·exact e
  ·exact absurd (.inr (.inr (.inl e))) h4
 have h8 : startsB (enc (read N g).1) g = true := by
  cases e : startsB (enc (read N g).1) g
  ·exact absurd (.inr (.inr (.inr e))) h4
  ·rfl
 refine ⟨h6, h7, of_decide_eq_true h8, ?_, rfl⟩
 exact rd_N _ _ _ _ (by omega) (show 0 ≤ (read N g).2 by omega)
end Cc
namespace Cc
end Cc
namespace Cc
def lsetC (l : Int) (v : InV) (x y : Int) : InV := if l = 99 then { v with c := x / 16, scale := sclC (x % 16) } else lset l v x y
def crdL (N : Nat) (g : Nat → Int) : List Int → InV → Int → Nat → InV × Int
 | [], v, _, p => (v, p)
 | l :: s, v, z, p =>
  if N < p + lcnt l z then (v, 0)
  else if 2 < lsz l z (g p) ∨ (lsz l z (g p) = 2 ∧ v.op ≠ 1) then (v, -1)
  else if l = 105 ∧ size (num g p (lcnt l z)) ≠ z then (v, -1)
  else crdL N g s (lsetC l v (g p) (num g p (lcnt l z))) (lsz l z (g p)) (p + lcnt l z)
def cread (N : Nat) (g : Nat → Int) : InV × Int := crdL N g (rrow (g 0)) ⟨g 0, 0, 0, 0, 0, 0, 0, 0, 0⟩ 0 1
def tiesB (v : InV) : Bool := cond (divB v.sub v.k) (v.a == 0 && v.b != 0 && v.b != 2) (cond (Wd.shB v.sub) (v.b == 1 && v.a != 1) true)
def fitsB (v : InV) : Bool :=
 if v.op = 4 then Wd.hasBinB v.sub v.k && tiesB v else if v.op = 5 then Wd.hasBinB v.sub v.k && !divB v.sub v.k && fnB v.sub v.k v.imm
 else if v.op = 6 then Wd.hasBinB v.sub v.k && !divB v.sub v.k && !Wd.shB v.sub else if v.op = 7 then Wd.hasUnB v.sub v.k && v.b == 0 else if v.op = 8 then Wd.numB v.sub && Wd.numB v.k
 else if v.op = 10 then decide (v.scale ≤ 8) && (decide (0 < v.scale) || v.c == 0) else if v.op = 11 ∨ v.op = 13 ∨ v.op = 16 then Wd.wordB v.k
 else if v.op = 12 ∨ v.op = 14 then Wd.wordB v.k && decide (0 < v.scale) && decide (v.scale ≤ 8) else if v.op = 15 ∨ v.op = 22 then Wd.cmpB v.sub else if v.op = 17 then fnB 2 v.k v.imm
 else if v.op = 18 then Wd.cmpB v.sub && v.b == 0 else if v.op = 25 then decide (0 ≤ v.imm) else if v.op = 29 then decide (0 < v.imm) else if v.op = 27 ∨ v.op = 28 then v.b == 0 else true
def cdec (N : Nat) (g : Nat → Int) : InV × Int × Int :=
 if N = 0 then (zero, 0, 41) else if (row (g 0)).isEmpty then (zero, 0, 40) else if (cread N g).2 = 0 then (zero, 0, 41)
 else if (cread N g).2 < 0 ∨ fitsB (cread N g).1 = false then (zero, 0, 40) else ((cread N g).1, (cread N g).2, 0)
structure Alike (c r : InV) : Prop where
 op : c.op = r.op
 a : c.a = r.a
 b : c.b = r.b
 c' : c.c = r.c
 k : c.k = r.k
 sub : c.sub = r.sub
 imm : c.imm = r.imm
 label : c.label = r.label
 scale : c.scale = r.scale ∨ (r.scale = -1 ∧ 16 ≤ c.scale)
theorem scl_c {n : Int} (h1 : 0 ≤ n) (h2 : n < 16) : sclC n = scl n ∨ (scl n = -1 ∧ 16 ≤ sclC n) := by
 obtain h | h | h | h | h | h | h | h | h | h | h | h | h | h | h | h : n = 0 ∨ n = 1 ∨ n = 2 ∨ n = 3 ∨ n = 4 ∨ n = 5 ∨ n = 6 ∨ n = 7 ∨ n = 8 ∨ n = 9 ∨ n = 10 ∨ n = 11 ∨ n = 12 ∨ n = 13 ∨ n = 14 ∨ n = 15 := by omega
 all_goals subst h; decide
theorem lset_alike {c r : InV} (h : Alike c r) (l x y : Int) : Alike (lsetC l c x y) (lset l r x y) := by
 have hs := scl_c (n := x % 16) (by omega) (by omega)
 unfold lsetC lset
 repeat' split
 all_goals first | omega | (obtain ⟨h0, h1, h2, h3, h4, h5, h6, h7, h8⟩ := h; constructor <;> first | exact hs | assumption | rfl)
theorem lset_op (l : Int) (v : InV) (x y : Int) : (lset l v x y).op = v.op := by
 unfold lset
 repeat' split
 all_goals rfl
def iLast : List Int → Bool
 | [] => true
 | l :: s => (l != 105 || s.isEmpty) && iLast s
theorem crd_alike {N : Nat} {g : Nat → Int} : ∀ (s : List Int) (c r : InV) (z : Int) (p : Nat), iLast s = true → Alike c r → 0 < p →
  ((crdL N g s c z p).2 = (rdL N g s r z p).2 ∧ (0 < (rdL N g s r z p).2 → Alike (crdL N g s c z p).1 (rdL N g s r z p).1)) ∨ ((crdL N g s c z p).2 = -1 ∧ (rdL N g s r z p).2 ≠ 0) := by
 intro s
 induction s with
 | nil => intro c r z p hl h hp; exact .inl ⟨rfl, fun _ => h⟩
 | cons l s ih =>
  intro c r z p hl h hp
  unfold iLast at hl
  rw [Bool.and_eq_true] at hl
  unfold crdL rdL
  by_cases h1 : N < p + lcnt l z
  ·rw [if_pos h1, if_pos h1]; exact .inl ⟨rfl, fun e => absurd (show (0 : Int) < 0 from e) (by decide)⟩
  ·rw [if_neg h1, if_neg h1, h.op]
   by_cases h2 : 2 < lsz l z (g p) ∨ (lsz l z (g p) = 2 ∧ r.op ≠ 1)
   ·rw [if_pos h2, if_pos h2]; exact .inr ⟨rfl, by dsimp only; omega⟩
   ·rw [if_neg h2, if_neg h2]
    by_cases h3 : l = 105 ∧ size (num g p (lcnt l z)) ≠ z
    ·rw [if_pos h3]
     refine .inr ⟨rfl, ?_⟩
     have h4 : s = [] := by
      have := hl.1
      rw [h3.1] at this
      simpa using this
     subst h4
     unfold rdL
     dsimp only
     omega
    ·rw [if_neg h3]
     exact ih _ _ _ _ hl.2 (lset_alike h _ _ _) (by omega)
theorem crd_inv {N : Nat} {g : Nat → Int} {l : Int} {s : List Int} {v v' : InV} {z : Int} {p T : Nat} (h : crdL N g (l :: s) v z p = (v', (T : Int))) (hT : 0 < T) :
  p + lcnt l z ≤ N ∧ ¬ (2 < lsz l z (g p) ∨ (lsz l z (g p) = 2 ∧ v.op ≠ 1)) ∧ ¬ (l = 105 ∧ size (num g p (lcnt l z)) ≠ z) ∧ crdL N g s (lsetC l v (g p) (num g p (lcnt l z))) (lsz l z (g p)) (p + lcnt l z) = (v', (T : Int)) := by
 unfold crdL at h
 by_cases h1 : N < p + lcnt l z
 ·rw [if_pos h1] at h; simp only [Prod.mk.injEq] at h; omega
 ·rw [if_neg h1] at h
  by_cases h2 : 2 < lsz l z (g p) ∨ (lsz l z (g p) = 2 ∧ v.op ≠ 1)
  ·rw [if_pos h2] at h; simp only [Prod.mk.injEq] at h; omega
  ·rw [if_neg h2] at h
   by_cases h3 : l = 105 ∧ size (num g p (lcnt l z)) ≠ z
   ·rw [if_pos h3] at h; simp only [Prod.mk.injEq] at h; omega
   ·rw [if_neg h3] at h
    exact ⟨by omega, h2, h3, h⟩
theorem crd_nil {N : Nat} {g : Nat → Int} {v v' : InV} {z : Int} {p T : Nat} (h : crdL N g [] v z p = (v', (T : Int))) : v' = v ∧ T = p := by
 unfold crdL at h
 simp only [Prod.mk.injEq] at h
 exact ⟨h.1.symm, by omega⟩
theorem by8_ld {g : Nat → Int} (hg : Mm.Fit g) {p c i : Nat} (hi : i < c) : Mm.by8 (Mm.ld g p c) i = g (p + i) := by
 induction c with
 | zero => omega
 | succ c ih =>
  have hr := Mm.ld_rng hg p c
  have hf := hg (p + c)
  rw [Mm.ld_succ]
  by_cases e : i = c
  ·subst e
   unfold Mm.by8
   have hp : (256 : Int) ^ i ≠ 0 := by omega
   rw [Int.add_mul_ediv_right _ _ hp, Int.ediv_eq_zero_of_lt hr.1 hr.2]
   omega
  ·rw [← ih (by omega), ← Mm.by8_mod _ i c (by omega), Int.add_mul_emod_self_right, Int.emod_eq_of_lt hr.1 hr.2]
theorem low_num {g : Nat → Int} (hg : Mm.Fit g) {p c i : Nat} (hc : c = 1 ∨ c = 4 ∨ c = 8) (hi : i < c) : Mm.by8 (num g p c % 18446744073709551616) i = g (p + i) := by
 have hr := Mm.ld_rng hg p c
 have e : num g p c % 18446744073709551616 % 256 ^ c = Mm.ld g p c := by
  unfold num Rc.s32 Wd.sg
  rcases hc with rfl | rfl | rfl
  ·rw [if_pos rfl]; have : (256 : Int) ^ 1 = 256 := rfl
   omega
  ·rw [if_neg (by decide), if_pos rfl]; have : (256 : Int) ^ 4 = 4294967296 := rfl
   omega
  ·rw [if_neg (by decide), if_neg (by decide)]; have : (256 : Int) ^ 8 = 18446744073709551616 := rfl
   omega
 rw [← Mm.by8_mod _ i c hi, e]
 exact by8_ld hg hi
end Cc
end Go.Proofs.YtkiockffejlnhaaGreatDoor
