/- The bytes of an instruction of C64 say it: code by code. -/
import Derived.Test.YtkiockffejlnhaaGreatDoorG6
namespace Go.Proofs.YtkiockffejlnhaaGreatDoor
set_option linter.unusedVariables false
namespace Cc
def Says (v : InV) : Prop := ∀ (N : Nat) (g : Nat → Int), (enc v).length ≤ N → (∀ i, i < (enc v).length → g i = (enc v).getD i 0) → rdL N g (rrow v.op) ⟨v.op, 0, 0, 0, 0, 0, 0, 0, 0⟩ 0 1 = (v, ((enc v).length : Int))
theorem four {g : Nat → Int} {p : Nat} {x : Int} (h0 : g p = Mm.by8 x 0) (h1 : g (p + 1) = Mm.by8 x 1) (h2 : g (p + 2) = Mm.by8 x 2) (h3 : g (p + 3) = Mm.by8 x 3) : ∀ i, i < 4 → g (p + i) = Mm.by8 x i := by
  intro i hi
  have : i = 0 ∨ i = 1 ∨ i = 2 ∨ i = 3 := by omega
  rcases this with rfl | rfl | rfl | rfl
  · exact h0
  · exact h1
  · exact h2
  · exact h3
theorem one {g : Nat → Int} {p : Nat} {x : Int} (h0 : g p = Mm.by8 x 0) : ∀ i, i < 1 → g (p + i) = Mm.by8 x i := by
  intro i hi
  obtain rfl : i = 0 := by omega
  exact h0
theorem eight {g : Nat → Int} {p : Nat} {x : Int} (h0 : g p = Mm.by8 x 0) (h1 : g (p + 1) = Mm.by8 x 1) (h2 : g (p + 2) = Mm.by8 x 2) (h3 : g (p + 3) = Mm.by8 x 3) (h4 : g (p + 4) = Mm.by8 x 4) (h5 : g (p + 5) = Mm.by8 x 5) (h6 : g (p + 6) = Mm.by8 x 6) (h7 : g (p + 7) = Mm.by8 x 7) : ∀ i, i < 8 → g (p + i) = Mm.by8 x i := by
  intro i hi
  have : i = 0 ∨ i = 1 ∨ i = 2 ∨ i = 3 ∨ i = 4 ∨ i = 5 ∨ i = 6 ∨ i = 7 := by omega
  rcases this with rfl | rfl | rfl | rfl | rfl | rfl | rfl | rfl
  · exact h0
  · exact h1
  · exact h2
  · exact h3
  · exact h4
  · exact h5
  · exact h6
  · exact h7
theorem says_1_0 {a imm : Int} (a1 : 0 ≤ a) (a2 : a < 16) (i1 : -128 ≤ imm) (i2 : imm < 128) : Says ⟨1, a, 0, 0, 0, 0, 0, imm, 0⟩ := by
  have hz : size imm = 0 := by
    unfold size
    rw [if_pos ⟨i1, i2⟩]
  have e : enc ⟨1, a, 0, 0, 0, 0, 0, imm, 0⟩ = [1, (16 * a + 0) % 256, Mm.by8 (imm % 18446744073709551616) 0] := by
    show (1 : Int) % 256 :: ([(16 * a + size imm) % 256] ++ (low imm (cnt (size imm)) ++ [])) = _
    rw [hz]; rfl
  intro N g hN hg
  rw [e] at hN hg ⊢
  have hN : 3 ≤ N := hN
  have g1 : g 1 = (16 * a + 0) % 256 := hg 1 (show 1 < 3 from by decide)
  have g2 : g 2 = Mm.by8 (imm % 18446744073709551616) 0 := hg 2 (show 2 < 3 from by decide)
  show rdL N g [110, 105] ⟨1, 0, 0, 0, 0, 0, 0, 0, 0⟩ 0 1 = _
  rw [step_n (a := a) (z' := 0) (by omega) (by decide) (by dsimp only; decide) g1 a1 a2]
  rw [step_i (n := imm) (show 2 + 1 ≤ N from by omega) (by dsimp only; decide) (show num g 2 1 = imm from num_low (.inl ⟨rfl, by omega, by omega⟩) (one g2))]
  rfl
theorem says_1_1 {a imm : Int} (a1 : 0 ≤ a) (a2 : a < 16) (i1 : -2147483648 ≤ imm) (i2 : imm < 2147483648) (i3 : ¬ (-128 ≤ imm ∧ imm < 128)) : Says ⟨1, a, 0, 0, 0, 0, 0, imm, 0⟩ := by
  have hz : size imm = 1 := by
    unfold size
    rw [if_neg i3, if_pos ⟨i1, i2⟩]
  have e : enc ⟨1, a, 0, 0, 0, 0, 0, imm, 0⟩ = [1, (16 * a + 1) % 256, Mm.by8 (imm % 18446744073709551616) 0, Mm.by8 (imm % 18446744073709551616) 1, Mm.by8 (imm % 18446744073709551616) 2, Mm.by8 (imm % 18446744073709551616) 3] := by
    show (1 : Int) % 256 :: ([(16 * a + size imm) % 256] ++ (low imm (cnt (size imm)) ++ [])) = _
    rw [hz]; rfl
  intro N g hN hg
  rw [e] at hN hg ⊢
  have hN : 6 ≤ N := hN
  have g1 : g 1 = (16 * a + 1) % 256 := hg 1 (show 1 < 6 from by decide)
  have g2 : g 2 = Mm.by8 (imm % 18446744073709551616) 0 := hg 2 (show 2 < 6 from by decide)
  have g3 : g 3 = Mm.by8 (imm % 18446744073709551616) 1 := hg 3 (show 3 < 6 from by decide)
  have g4 : g 4 = Mm.by8 (imm % 18446744073709551616) 2 := hg 4 (show 4 < 6 from by decide)
  have g5 : g 5 = Mm.by8 (imm % 18446744073709551616) 3 := hg 5 (show 5 < 6 from by decide)
  show rdL N g [110, 105] ⟨1, 0, 0, 0, 0, 0, 0, 0, 0⟩ 0 1 = _
  rw [step_n (a := a) (z' := 1) (by omega) (by decide) (by dsimp only; decide) g1 a1 a2]
  rw [step_i (n := imm) (show 2 + 4 ≤ N from by omega) (by dsimp only; decide) (show num g 2 4 = imm from num_low (.inr (.inl ⟨rfl, by omega, by omega⟩)) (four g2 g3 g4 g5))]
  rfl
theorem says_1_2 {a imm : Int} (a1 : 0 ≤ a) (a2 : a < 16) (i1 : -9223372036854775808 ≤ imm) (i2 : imm ≤ 9223372036854775807) (i3 : ¬ (-2147483648 ≤ imm ∧ imm < 2147483648)) : Says ⟨1, a, 0, 0, 0, 0, 0, imm, 0⟩ := by
  have hz : size imm = 2 := by
    unfold size
    rw [if_neg (by omega), if_neg i3]
  have e : enc ⟨1, a, 0, 0, 0, 0, 0, imm, 0⟩ = [1, (16 * a + 2) % 256, Mm.by8 (imm % 18446744073709551616) 0, Mm.by8 (imm % 18446744073709551616) 1, Mm.by8 (imm % 18446744073709551616) 2, Mm.by8 (imm % 18446744073709551616) 3, Mm.by8 (imm % 18446744073709551616) 4, Mm.by8 (imm % 18446744073709551616) 5, Mm.by8 (imm % 18446744073709551616) 6, Mm.by8 (imm % 18446744073709551616) 7] := by
    show (1 : Int) % 256 :: ([(16 * a + size imm) % 256] ++ (low imm (cnt (size imm)) ++ [])) = _
    rw [hz]; rfl
  intro N g hN hg
  rw [e] at hN hg ⊢
  have hN : 10 ≤ N := hN
  have g1 : g 1 = (16 * a + 2) % 256 := hg 1 (show 1 < 10 from by decide)
  have g2 : g 2 = Mm.by8 (imm % 18446744073709551616) 0 := hg 2 (show 2 < 10 from by decide)
  have g3 : g 3 = Mm.by8 (imm % 18446744073709551616) 1 := hg 3 (show 3 < 10 from by decide)
  have g4 : g 4 = Mm.by8 (imm % 18446744073709551616) 2 := hg 4 (show 4 < 10 from by decide)
  have g5 : g 5 = Mm.by8 (imm % 18446744073709551616) 3 := hg 5 (show 5 < 10 from by decide)
  have g6 : g 6 = Mm.by8 (imm % 18446744073709551616) 4 := hg 6 (show 6 < 10 from by decide)
  have g7 : g 7 = Mm.by8 (imm % 18446744073709551616) 5 := hg 7 (show 7 < 10 from by decide)
  have g8 : g 8 = Mm.by8 (imm % 18446744073709551616) 6 := hg 8 (show 8 < 10 from by decide)
  have g9 : g 9 = Mm.by8 (imm % 18446744073709551616) 7 := hg 9 (show 9 < 10 from by decide)
  show rdL N g [110, 105] ⟨1, 0, 0, 0, 0, 0, 0, 0, 0⟩ 0 1 = _
  rw [step_n (a := a) (z' := 2) (by omega) (by decide) (by dsimp only; decide) g1 a1 a2]
  rw [step_i (n := imm) (show 2 + 8 ≤ N from by omega) (by dsimp only; decide) (show num g 2 8 = imm from num_low (.inr (.inr ⟨rfl, by omega, by omega⟩)) (eight g2 g3 g4 g5 g6 g7 g8 g9))]
  rfl
theorem says_3 {a b : Int} (a1 : 0 ≤ a) (a2 : a < 16) (b1 : 0 ≤ b) (b2 : b < 16) : Says ⟨3, a, b, 0, 0, 0, 0, 0, 0⟩ := by
  have e : enc ⟨3, a, b, 0, 0, 0, 0, 0, 0⟩ = [3, (16 * a + b) % 256] := rfl
  intro N g hN hg
  rw [e] at hN hg ⊢
  have hN : 2 ≤ N := hN
  have g1 : g 1 = (16 * a + b) % 256 := hg 1 (show 1 < 2 from by decide)
  show rdL N g [97] ⟨3, 0, 0, 0, 0, 0, 0, 0, 0⟩ 0 1 = _
  rw [step_a (a := a) (b := b) (by omega) (by dsimp only; decide) g1 a1 a2 b1 b2]
  rfl
theorem says_4 {a b k sub : Int} (a1 : 0 ≤ a) (a2 : a < 16) (b1 : 0 ≤ b) (b2 : b < 16) (k1 : 0 ≤ k) (k2 : k < 256) (s1 : 0 ≤ sub) (s2 : sub < 256) : Says ⟨4, a, b, 0, k, sub, 0, 0, 0⟩ := by
  have e : enc ⟨4, a, b, 0, k, sub, 0, 0, 0⟩ = [4, (16 * a + b) % 256, k % 256, sub % 256] := rfl
  intro N g hN hg
  rw [e] at hN hg ⊢
  have hN : 4 ≤ N := hN
  have g1 : g 1 = (16 * a + b) % 256 := hg 1 (show 1 < 4 from by decide)
  have g2 : g 2 = k % 256 := hg 2 (show 2 < 4 from by decide)
  have g3 : g 3 = sub % 256 := hg 3 (show 3 < 4 from by decide)
  show rdL N g [97, 75, 83] ⟨4, 0, 0, 0, 0, 0, 0, 0, 0⟩ 0 1 = _
  rw [step_a (a := a) (b := b) (by omega) (by dsimp only; decide) g1 a1 a2 b1 b2]
  rw [step_K (k := k) (by omega) (by dsimp only; decide) g2 k1 k2]
  rw [step_S (k := sub) (by omega) (by dsimp only; decide) g3 s1 s2]
  rfl
theorem says_5_0 {a k sub imm : Int} (a1 : 0 ≤ a) (a2 : a < 16) (k1 : 0 ≤ k) (k2 : k < 256) (s1 : 0 ≤ sub) (s2 : sub < 256) (i1 : -128 ≤ imm) (i2 : imm < 128) : Says ⟨5, a, 0, 0, k, sub, 0, imm, 0⟩ := by
  have hz : size imm = 0 := by
    unfold size
    rw [if_pos ⟨i1, i2⟩]
  have e : enc ⟨5, a, 0, 0, k, sub, 0, imm, 0⟩ = [5, (16 * a + 0) % 256, k % 256, sub % 256, Mm.by8 (imm % 18446744073709551616) 0] := by
    show (5 : Int) % 256 :: ([(16 * a + size imm) % 256] ++ ([k % 256] ++ ([sub % 256] ++ (low imm (cnt (size imm)) ++ [])))) = _
    rw [hz]; rfl
  intro N g hN hg
  rw [e] at hN hg ⊢
  have hN : 5 ≤ N := hN
  have g1 : g 1 = (16 * a + 0) % 256 := hg 1 (show 1 < 5 from by decide)
  have g2 : g 2 = k % 256 := hg 2 (show 2 < 5 from by decide)
  have g3 : g 3 = sub % 256 := hg 3 (show 3 < 5 from by decide)
  have g4 : g 4 = Mm.by8 (imm % 18446744073709551616) 0 := hg 4 (show 4 < 5 from by decide)
  show rdL N g [110, 75, 83, 105] ⟨5, 0, 0, 0, 0, 0, 0, 0, 0⟩ 0 1 = _
  rw [step_n (a := a) (z' := 0) (by omega) (by decide) (by dsimp only; decide) g1 a1 a2]
  rw [step_K (k := k) (by omega) (by dsimp only; decide) g2 k1 k2]
  rw [step_S (k := sub) (by omega) (by dsimp only; decide) g3 s1 s2]
  rw [step_i (n := imm) (show 4 + 1 ≤ N from by omega) (by dsimp only; decide) (show num g 4 1 = imm from num_low (.inl ⟨rfl, by omega, by omega⟩) (one g4))]
  rfl
theorem says_5_1 {a k sub imm : Int} (a1 : 0 ≤ a) (a2 : a < 16) (k1 : 0 ≤ k) (k2 : k < 256) (s1 : 0 ≤ sub) (s2 : sub < 256) (i1 : -2147483648 ≤ imm) (i2 : imm < 2147483648) (i3 : ¬ (-128 ≤ imm ∧ imm < 128)) : Says ⟨5, a, 0, 0, k, sub, 0, imm, 0⟩ := by
  have hz : size imm = 1 := by
    unfold size
    rw [if_neg i3, if_pos ⟨i1, i2⟩]
  have e : enc ⟨5, a, 0, 0, k, sub, 0, imm, 0⟩ = [5, (16 * a + 1) % 256, k % 256, sub % 256, Mm.by8 (imm % 18446744073709551616) 0, Mm.by8 (imm % 18446744073709551616) 1, Mm.by8 (imm % 18446744073709551616) 2, Mm.by8 (imm % 18446744073709551616) 3] := by
    show (5 : Int) % 256 :: ([(16 * a + size imm) % 256] ++ ([k % 256] ++ ([sub % 256] ++ (low imm (cnt (size imm)) ++ [])))) = _
    rw [hz]; rfl
  intro N g hN hg
  rw [e] at hN hg ⊢
  have hN : 8 ≤ N := hN
  have g1 : g 1 = (16 * a + 1) % 256 := hg 1 (show 1 < 8 from by decide)
  have g2 : g 2 = k % 256 := hg 2 (show 2 < 8 from by decide)
  have g3 : g 3 = sub % 256 := hg 3 (show 3 < 8 from by decide)
  have g4 : g 4 = Mm.by8 (imm % 18446744073709551616) 0 := hg 4 (show 4 < 8 from by decide)
  have g5 : g 5 = Mm.by8 (imm % 18446744073709551616) 1 := hg 5 (show 5 < 8 from by decide)
  have g6 : g 6 = Mm.by8 (imm % 18446744073709551616) 2 := hg 6 (show 6 < 8 from by decide)
  have g7 : g 7 = Mm.by8 (imm % 18446744073709551616) 3 := hg 7 (show 7 < 8 from by decide)
  show rdL N g [110, 75, 83, 105] ⟨5, 0, 0, 0, 0, 0, 0, 0, 0⟩ 0 1 = _
  rw [step_n (a := a) (z' := 1) (by omega) (by decide) (by dsimp only; decide) g1 a1 a2]
  rw [step_K (k := k) (by omega) (by dsimp only; decide) g2 k1 k2]
  rw [step_S (k := sub) (by omega) (by dsimp only; decide) g3 s1 s2]
  rw [step_i (n := imm) (show 4 + 4 ≤ N from by omega) (by dsimp only; decide) (show num g 4 4 = imm from num_low (.inr (.inl ⟨rfl, by omega, by omega⟩)) (four g4 g5 g6 g7))]
  rfl
theorem says_6 {a b k sub imm : Int} (a1 : 0 ≤ a) (a2 : a < 16) (b1 : 0 ≤ b) (b2 : b < 16) (k1 : 0 ≤ k) (k2 : k < 256) (s1 : 0 ≤ sub) (s2 : sub < 256) (i1 : -2147483648 ≤ imm) (i2 : imm < 2147483648) : Says ⟨6, a, b, 0, k, sub, 0, imm, 0⟩ := by
  have e : enc ⟨6, a, b, 0, k, sub, 0, imm, 0⟩ = [6, (16 * a + b) % 256, k % 256, sub % 256, Mm.by8 (imm % 18446744073709551616) 0, Mm.by8 (imm % 18446744073709551616) 1, Mm.by8 (imm % 18446744073709551616) 2, Mm.by8 (imm % 18446744073709551616) 3] := rfl
  intro N g hN hg
  rw [e] at hN hg ⊢
  have hN : 8 ≤ N := hN
  have g1 : g 1 = (16 * a + b) % 256 := hg 1 (show 1 < 8 from by decide)
  have g2 : g 2 = k % 256 := hg 2 (show 2 < 8 from by decide)
  have g3 : g 3 = sub % 256 := hg 3 (show 3 < 8 from by decide)
  have g4 : g 4 = Mm.by8 (imm % 18446744073709551616) 0 := hg 4 (show 4 < 8 from by decide)
  have g5 : g 5 = Mm.by8 (imm % 18446744073709551616) 1 := hg 5 (show 5 < 8 from by decide)
  have g6 : g 6 = Mm.by8 (imm % 18446744073709551616) 2 := hg 6 (show 6 < 8 from by decide)
  have g7 : g 7 = Mm.by8 (imm % 18446744073709551616) 3 := hg 7 (show 7 < 8 from by decide)
  show rdL N g [97, 75, 83, 52] ⟨6, 0, 0, 0, 0, 0, 0, 0, 0⟩ 0 1 = _
  rw [step_a (a := a) (b := b) (by omega) (by dsimp only; decide) g1 a1 a2 b1 b2]
  rw [step_K (k := k) (by omega) (by dsimp only; decide) g2 k1 k2]
  rw [step_S (k := sub) (by omega) (by dsimp only; decide) g3 s1 s2]
  rw [step_4 (n := imm) (by omega) (by dsimp only; decide) (num_low (.inr (.inl ⟨rfl, by omega, by omega⟩)) (four g4 g5 g6 g7))]
  rfl
theorem says_7 {a k sub : Int} (a1 : 0 ≤ a) (a2 : a < 16) (k1 : 0 ≤ k) (k2 : k < 256) (s1 : 0 ≤ sub) (s2 : sub < 256) : Says ⟨7, a, 0, 0, k, sub, 0, 0, 0⟩ := by
  have e : enc ⟨7, a, 0, 0, k, sub, 0, 0, 0⟩ = [7, (16 * a + 0) % 256, k % 256, sub % 256] := rfl
  intro N g hN hg
  rw [e] at hN hg ⊢
  have hN : 4 ≤ N := hN
  have g1 : g 1 = (16 * a + 0) % 256 := hg 1 (show 1 < 4 from by decide)
  have g2 : g 2 = k % 256 := hg 2 (show 2 < 4 from by decide)
  have g3 : g 3 = sub % 256 := hg 3 (show 3 < 4 from by decide)
  show rdL N g [97, 75, 83] ⟨7, 0, 0, 0, 0, 0, 0, 0, 0⟩ 0 1 = _
  rw [step_a (a := a) (b := 0) (by omega) (by dsimp only; decide) g1 a1 a2 (by decide) (by decide)]
  rw [step_K (k := k) (by omega) (by dsimp only; decide) g2 k1 k2]
  rw [step_S (k := sub) (by omega) (by dsimp only; decide) g3 s1 s2]
  rfl
theorem says_8 {a b k sub : Int} (a1 : 0 ≤ a) (a2 : a < 16) (b1 : 0 ≤ b) (b2 : b < 16) (k1 : 0 ≤ k) (k2 : k < 256) (s1 : 0 ≤ sub) (s2 : sub < 256) : Says ⟨8, a, b, 0, k, sub, 0, 0, 0⟩ := by
  have e : enc ⟨8, a, b, 0, k, sub, 0, 0, 0⟩ = [8, (16 * a + b) % 256, k % 256, sub % 256] := rfl
  intro N g hN hg
  rw [e] at hN hg ⊢
  have hN : 4 ≤ N := hN
  have g1 : g 1 = (16 * a + b) % 256 := hg 1 (show 1 < 4 from by decide)
  have g2 : g 2 = k % 256 := hg 2 (show 2 < 4 from by decide)
  have g3 : g 3 = sub % 256 := hg 3 (show 3 < 4 from by decide)
  show rdL N g [97, 75, 83] ⟨8, 0, 0, 0, 0, 0, 0, 0, 0⟩ 0 1 = _
  rw [step_a (a := a) (b := b) (by omega) (by dsimp only; decide) g1 a1 a2 b1 b2]
  rw [step_K (k := k) (by omega) (by dsimp only; decide) g2 k1 k2]
  rw [step_S (k := sub) (by omega) (by dsimp only; decide) g3 s1 s2]
  rfl
theorem says_10 {a b c sc imm : Int} (a1 : 0 ≤ a) (a2 : a < 16) (b1 : 0 ≤ b) (b2 : b < 16) (c1 : 0 ≤ c) (c2 : c < 16) (hs : sc = 1 ∨ sc = 2 ∨ sc = 4 ∨ sc = 8 ∨ sc = 0) (i1 : -2147483648 ≤ imm) (i2 : imm < 2147483648) : Says ⟨10, a, b, c, 0, 0, sc, imm, 0⟩ := by
  have e : enc ⟨10, a, b, c, 0, 0, sc, imm, 0⟩ = [10, (16 * a + b) % 256, (16 * c + lg sc) % 256, Mm.by8 (imm % 18446744073709551616) 0, Mm.by8 (imm % 18446744073709551616) 1, Mm.by8 (imm % 18446744073709551616) 2, Mm.by8 (imm % 18446744073709551616) 3] := rfl
  intro N g hN hg
  rw [e] at hN hg ⊢
  have hN : 7 ≤ N := hN
  have g1 : g 1 = (16 * a + b) % 256 := hg 1 (show 1 < 7 from by decide)
  have g2 : g 2 = (16 * c + lg sc) % 256 := hg 2 (show 2 < 7 from by decide)
  have g3 : g 3 = Mm.by8 (imm % 18446744073709551616) 0 := hg 3 (show 3 < 7 from by decide)
  have g4 : g 4 = Mm.by8 (imm % 18446744073709551616) 1 := hg 4 (show 4 < 7 from by decide)
  have g5 : g 5 = Mm.by8 (imm % 18446744073709551616) 2 := hg 5 (show 5 < 7 from by decide)
  have g6 : g 6 = Mm.by8 (imm % 18446744073709551616) 3 := hg 6 (show 6 < 7 from by decide)
  show rdL N g [97, 99, 52] ⟨10, 0, 0, 0, 0, 0, 0, 0, 0⟩ 0 1 = _
  rw [step_a (a := a) (b := b) (by omega) (by dsimp only; decide) g1 a1 a2 b1 b2]
  rw [step_c (c := c) (sc := sc) (by omega) (by dsimp only; decide) g2 c1 c2 hs]
  rw [step_4 (n := imm) (by omega) (by dsimp only; decide) (num_low (.inr (.inl ⟨rfl, by omega, by omega⟩)) (four g3 g4 g5 g6))]
  rfl
theorem says_11 {a b k imm : Int} (a1 : 0 ≤ a) (a2 : a < 16) (b1 : 0 ≤ b) (b2 : b < 16) (k1 : 0 ≤ k) (k2 : k < 256) (i1 : -2147483648 ≤ imm) (i2 : imm < 2147483648) : Says ⟨11, a, b, 0, k, 0, 0, imm, 0⟩ := by
  have e : enc ⟨11, a, b, 0, k, 0, 0, imm, 0⟩ = [11, (16 * a + b) % 256, k % 256, Mm.by8 (imm % 18446744073709551616) 0, Mm.by8 (imm % 18446744073709551616) 1, Mm.by8 (imm % 18446744073709551616) 2, Mm.by8 (imm % 18446744073709551616) 3] := rfl
  intro N g hN hg
  rw [e] at hN hg ⊢
  have hN : 7 ≤ N := hN
  have g1 : g 1 = (16 * a + b) % 256 := hg 1 (show 1 < 7 from by decide)
  have g2 : g 2 = k % 256 := hg 2 (show 2 < 7 from by decide)
  have g3 : g 3 = Mm.by8 (imm % 18446744073709551616) 0 := hg 3 (show 3 < 7 from by decide)
  have g4 : g 4 = Mm.by8 (imm % 18446744073709551616) 1 := hg 4 (show 4 < 7 from by decide)
  have g5 : g 5 = Mm.by8 (imm % 18446744073709551616) 2 := hg 5 (show 5 < 7 from by decide)
  have g6 : g 6 = Mm.by8 (imm % 18446744073709551616) 3 := hg 6 (show 6 < 7 from by decide)
  show rdL N g [97, 75, 52] ⟨11, 0, 0, 0, 0, 0, 0, 0, 0⟩ 0 1 = _
  rw [step_a (a := a) (b := b) (by omega) (by dsimp only; decide) g1 a1 a2 b1 b2]
  rw [step_K (k := k) (by omega) (by dsimp only; decide) g2 k1 k2]
  rw [step_4 (n := imm) (by omega) (by dsimp only; decide) (num_low (.inr (.inl ⟨rfl, by omega, by omega⟩)) (four g3 g4 g5 g6))]
  rfl
theorem says_12 {a b c k sc imm : Int} (a1 : 0 ≤ a) (a2 : a < 16) (b1 : 0 ≤ b) (b2 : b < 16) (c1 : 0 ≤ c) (c2 : c < 16) (hs : sc = 1 ∨ sc = 2 ∨ sc = 4 ∨ sc = 8 ∨ sc = 0) (k1 : 0 ≤ k) (k2 : k < 256) (i1 : -2147483648 ≤ imm) (i2 : imm < 2147483648) : Says ⟨12, a, b, c, k, 0, sc, imm, 0⟩ := by
  have e : enc ⟨12, a, b, c, k, 0, sc, imm, 0⟩ = [12, (16 * a + b) % 256, (16 * c + lg sc) % 256, k % 256, Mm.by8 (imm % 18446744073709551616) 0, Mm.by8 (imm % 18446744073709551616) 1, Mm.by8 (imm % 18446744073709551616) 2, Mm.by8 (imm % 18446744073709551616) 3] := rfl
  intro N g hN hg
  rw [e] at hN hg ⊢
  have hN : 8 ≤ N := hN
  have g1 : g 1 = (16 * a + b) % 256 := hg 1 (show 1 < 8 from by decide)
  have g2 : g 2 = (16 * c + lg sc) % 256 := hg 2 (show 2 < 8 from by decide)
  have g3 : g 3 = k % 256 := hg 3 (show 3 < 8 from by decide)
  have g4 : g 4 = Mm.by8 (imm % 18446744073709551616) 0 := hg 4 (show 4 < 8 from by decide)
  have g5 : g 5 = Mm.by8 (imm % 18446744073709551616) 1 := hg 5 (show 5 < 8 from by decide)
  have g6 : g 6 = Mm.by8 (imm % 18446744073709551616) 2 := hg 6 (show 6 < 8 from by decide)
  have g7 : g 7 = Mm.by8 (imm % 18446744073709551616) 3 := hg 7 (show 7 < 8 from by decide)
  show rdL N g [97, 99, 75, 52] ⟨12, 0, 0, 0, 0, 0, 0, 0, 0⟩ 0 1 = _
  rw [step_a (a := a) (b := b) (by omega) (by dsimp only; decide) g1 a1 a2 b1 b2]
  rw [step_c (c := c) (sc := sc) (by omega) (by dsimp only; decide) g2 c1 c2 hs]
  rw [step_K (k := k) (by omega) (by dsimp only; decide) g3 k1 k2]
  rw [step_4 (n := imm) (by omega) (by dsimp only; decide) (num_low (.inr (.inl ⟨rfl, by omega, by omega⟩)) (four g4 g5 g6 g7))]
  rfl
theorem says_13 {a b k imm : Int} (a1 : 0 ≤ a) (a2 : a < 16) (b1 : 0 ≤ b) (b2 : b < 16) (k1 : 0 ≤ k) (k2 : k < 256) (i1 : -2147483648 ≤ imm) (i2 : imm < 2147483648) : Says ⟨13, a, b, 0, k, 0, 0, imm, 0⟩ := by
  have e : enc ⟨13, a, b, 0, k, 0, 0, imm, 0⟩ = [13, (16 * a + b) % 256, k % 256, Mm.by8 (imm % 18446744073709551616) 0, Mm.by8 (imm % 18446744073709551616) 1, Mm.by8 (imm % 18446744073709551616) 2, Mm.by8 (imm % 18446744073709551616) 3] := rfl
  intro N g hN hg
  rw [e] at hN hg ⊢
  have hN : 7 ≤ N := hN
  have g1 : g 1 = (16 * a + b) % 256 := hg 1 (show 1 < 7 from by decide)
  have g2 : g 2 = k % 256 := hg 2 (show 2 < 7 from by decide)
  have g3 : g 3 = Mm.by8 (imm % 18446744073709551616) 0 := hg 3 (show 3 < 7 from by decide)
  have g4 : g 4 = Mm.by8 (imm % 18446744073709551616) 1 := hg 4 (show 4 < 7 from by decide)
  have g5 : g 5 = Mm.by8 (imm % 18446744073709551616) 2 := hg 5 (show 5 < 7 from by decide)
  have g6 : g 6 = Mm.by8 (imm % 18446744073709551616) 3 := hg 6 (show 6 < 7 from by decide)
  show rdL N g [97, 75, 52] ⟨13, 0, 0, 0, 0, 0, 0, 0, 0⟩ 0 1 = _
  rw [step_a (a := a) (b := b) (by omega) (by dsimp only; decide) g1 a1 a2 b1 b2]
  rw [step_K (k := k) (by omega) (by dsimp only; decide) g2 k1 k2]
  rw [step_4 (n := imm) (by omega) (by dsimp only; decide) (num_low (.inr (.inl ⟨rfl, by omega, by omega⟩)) (four g3 g4 g5 g6))]
  rfl
theorem says_14 {a b c k sc imm : Int} (a1 : 0 ≤ a) (a2 : a < 16) (b1 : 0 ≤ b) (b2 : b < 16) (c1 : 0 ≤ c) (c2 : c < 16) (hs : sc = 1 ∨ sc = 2 ∨ sc = 4 ∨ sc = 8 ∨ sc = 0) (k1 : 0 ≤ k) (k2 : k < 256) (i1 : -2147483648 ≤ imm) (i2 : imm < 2147483648) : Says ⟨14, a, b, c, k, 0, sc, imm, 0⟩ := by
  have e : enc ⟨14, a, b, c, k, 0, sc, imm, 0⟩ = [14, (16 * a + b) % 256, (16 * c + lg sc) % 256, k % 256, Mm.by8 (imm % 18446744073709551616) 0, Mm.by8 (imm % 18446744073709551616) 1, Mm.by8 (imm % 18446744073709551616) 2, Mm.by8 (imm % 18446744073709551616) 3] := rfl
  intro N g hN hg
  rw [e] at hN hg ⊢
  have hN : 8 ≤ N := hN
  have g1 : g 1 = (16 * a + b) % 256 := hg 1 (show 1 < 8 from by decide)
  have g2 : g 2 = (16 * c + lg sc) % 256 := hg 2 (show 2 < 8 from by decide)
  have g3 : g 3 = k % 256 := hg 3 (show 3 < 8 from by decide)
  have g4 : g 4 = Mm.by8 (imm % 18446744073709551616) 0 := hg 4 (show 4 < 8 from by decide)
  have g5 : g 5 = Mm.by8 (imm % 18446744073709551616) 1 := hg 5 (show 5 < 8 from by decide)
  have g6 : g 6 = Mm.by8 (imm % 18446744073709551616) 2 := hg 6 (show 6 < 8 from by decide)
  have g7 : g 7 = Mm.by8 (imm % 18446744073709551616) 3 := hg 7 (show 7 < 8 from by decide)
  show rdL N g [97, 99, 75, 52] ⟨14, 0, 0, 0, 0, 0, 0, 0, 0⟩ 0 1 = _
  rw [step_a (a := a) (b := b) (by omega) (by dsimp only; decide) g1 a1 a2 b1 b2]
  rw [step_c (c := c) (sc := sc) (by omega) (by dsimp only; decide) g2 c1 c2 hs]
  rw [step_K (k := k) (by omega) (by dsimp only; decide) g3 k1 k2]
  rw [step_4 (n := imm) (by omega) (by dsimp only; decide) (num_low (.inr (.inl ⟨rfl, by omega, by omega⟩)) (four g4 g5 g6 g7))]
  rfl
theorem says_15 {a b sub : Int} (a1 : 0 ≤ a) (a2 : a < 16) (b1 : 0 ≤ b) (b2 : b < 16) (s1 : 0 ≤ sub) (s2 : sub < 256) : Says ⟨15, a, b, 0, 0, sub, 0, 0, 0⟩ := by
  have e : enc ⟨15, a, b, 0, 0, sub, 0, 0, 0⟩ = [15, (16 * a + b) % 256, sub % 256] := rfl
  intro N g hN hg
  rw [e] at hN hg ⊢
  have hN : 3 ≤ N := hN
  have g1 : g 1 = (16 * a + b) % 256 := hg 1 (show 1 < 3 from by decide)
  have g2 : g 2 = sub % 256 := hg 2 (show 2 < 3 from by decide)
  show rdL N g [97, 83] ⟨15, 0, 0, 0, 0, 0, 0, 0, 0⟩ 0 1 = _
  rw [step_a (a := a) (b := b) (by omega) (by dsimp only; decide) g1 a1 a2 b1 b2]
  rw [step_S (k := sub) (by omega) (by dsimp only; decide) g2 s1 s2]
  rfl
theorem says_16 {a b k : Int} (a1 : 0 ≤ a) (a2 : a < 16) (b1 : 0 ≤ b) (b2 : b < 16) (k1 : 0 ≤ k) (k2 : k < 256) : Says ⟨16, a, b, 0, k, 0, 0, 0, 0⟩ := by
  have e : enc ⟨16, a, b, 0, k, 0, 0, 0, 0⟩ = [16, (16 * a + b) % 256, k % 256] := rfl
  intro N g hN hg
  rw [e] at hN hg ⊢
  have hN : 3 ≤ N := hN
  have g1 : g 1 = (16 * a + b) % 256 := hg 1 (show 1 < 3 from by decide)
  have g2 : g 2 = k % 256 := hg 2 (show 2 < 3 from by decide)
  show rdL N g [97, 75] ⟨16, 0, 0, 0, 0, 0, 0, 0, 0⟩ 0 1 = _
  rw [step_a (a := a) (b := b) (by omega) (by dsimp only; decide) g1 a1 a2 b1 b2]
  rw [step_K (k := k) (by omega) (by dsimp only; decide) g2 k1 k2]
  rfl
theorem says_17_0 {a k imm : Int} (a1 : 0 ≤ a) (a2 : a < 16) (k1 : 0 ≤ k) (k2 : k < 256) (i1 : -128 ≤ imm) (i2 : imm < 128) : Says ⟨17, a, 0, 0, k, 0, 0, imm, 0⟩ := by
  have hz : size imm = 0 := by
    unfold size
    rw [if_pos ⟨i1, i2⟩]
  have e : enc ⟨17, a, 0, 0, k, 0, 0, imm, 0⟩ = [17, (16 * a + 0) % 256, k % 256, Mm.by8 (imm % 18446744073709551616) 0] := by
    show (17 : Int) % 256 :: ([(16 * a + size imm) % 256] ++ ([k % 256] ++ (low imm (cnt (size imm)) ++ []))) = _
    rw [hz]; rfl
  intro N g hN hg
  rw [e] at hN hg ⊢
  have hN : 4 ≤ N := hN
  have g1 : g 1 = (16 * a + 0) % 256 := hg 1 (show 1 < 4 from by decide)
  have g2 : g 2 = k % 256 := hg 2 (show 2 < 4 from by decide)
  have g3 : g 3 = Mm.by8 (imm % 18446744073709551616) 0 := hg 3 (show 3 < 4 from by decide)
  show rdL N g [110, 75, 105] ⟨17, 0, 0, 0, 0, 0, 0, 0, 0⟩ 0 1 = _
  rw [step_n (a := a) (z' := 0) (by omega) (by decide) (by dsimp only; decide) g1 a1 a2]
  rw [step_K (k := k) (by omega) (by dsimp only; decide) g2 k1 k2]
  rw [step_i (n := imm) (show 3 + 1 ≤ N from by omega) (by dsimp only; decide) (show num g 3 1 = imm from num_low (.inl ⟨rfl, by omega, by omega⟩) (one g3))]
  rfl
theorem says_17_1 {a k imm : Int} (a1 : 0 ≤ a) (a2 : a < 16) (k1 : 0 ≤ k) (k2 : k < 256) (i1 : -2147483648 ≤ imm) (i2 : imm < 2147483648) (i3 : ¬ (-128 ≤ imm ∧ imm < 128)) : Says ⟨17, a, 0, 0, k, 0, 0, imm, 0⟩ := by
  have hz : size imm = 1 := by
    unfold size
    rw [if_neg i3, if_pos ⟨i1, i2⟩]
  have e : enc ⟨17, a, 0, 0, k, 0, 0, imm, 0⟩ = [17, (16 * a + 1) % 256, k % 256, Mm.by8 (imm % 18446744073709551616) 0, Mm.by8 (imm % 18446744073709551616) 1, Mm.by8 (imm % 18446744073709551616) 2, Mm.by8 (imm % 18446744073709551616) 3] := by
    show (17 : Int) % 256 :: ([(16 * a + size imm) % 256] ++ ([k % 256] ++ (low imm (cnt (size imm)) ++ []))) = _
    rw [hz]; rfl
  intro N g hN hg
  rw [e] at hN hg ⊢
  have hN : 7 ≤ N := hN
  have g1 : g 1 = (16 * a + 1) % 256 := hg 1 (show 1 < 7 from by decide)
  have g2 : g 2 = k % 256 := hg 2 (show 2 < 7 from by decide)
  have g3 : g 3 = Mm.by8 (imm % 18446744073709551616) 0 := hg 3 (show 3 < 7 from by decide)
  have g4 : g 4 = Mm.by8 (imm % 18446744073709551616) 1 := hg 4 (show 4 < 7 from by decide)
  have g5 : g 5 = Mm.by8 (imm % 18446744073709551616) 2 := hg 5 (show 5 < 7 from by decide)
  have g6 : g 6 = Mm.by8 (imm % 18446744073709551616) 3 := hg 6 (show 6 < 7 from by decide)
  show rdL N g [110, 75, 105] ⟨17, 0, 0, 0, 0, 0, 0, 0, 0⟩ 0 1 = _
  rw [step_n (a := a) (z' := 1) (by omega) (by decide) (by dsimp only; decide) g1 a1 a2]
  rw [step_K (k := k) (by omega) (by dsimp only; decide) g2 k1 k2]
  rw [step_i (n := imm) (show 3 + 4 ≤ N from by omega) (by dsimp only; decide) (show num g 3 4 = imm from num_low (.inr (.inl ⟨rfl, by omega, by omega⟩)) (four g3 g4 g5 g6))]
  rfl
theorem says_18 {a sub : Int} (a1 : 0 ≤ a) (a2 : a < 16) (s1 : 0 ≤ sub) (s2 : sub < 256) : Says ⟨18, a, 0, 0, 0, sub, 0, 0, 0⟩ := by
  have e : enc ⟨18, a, 0, 0, 0, sub, 0, 0, 0⟩ = [18, (16 * a + 0) % 256, sub % 256] := rfl
  intro N g hN hg
  rw [e] at hN hg ⊢
  have hN : 3 ≤ N := hN
  have g1 : g 1 = (16 * a + 0) % 256 := hg 1 (show 1 < 3 from by decide)
  have g2 : g 2 = sub % 256 := hg 2 (show 2 < 3 from by decide)
  show rdL N g [97, 83] ⟨18, 0, 0, 0, 0, 0, 0, 0, 0⟩ 0 1 = _
  rw [step_a (a := a) (b := 0) (by omega) (by dsimp only; decide) g1 a1 a2 (by decide) (by decide)]
  rw [step_S (k := sub) (by omega) (by dsimp only; decide) g2 s1 s2]
  rfl
theorem says_19_0 {imm : Int} (i1 : -128 ≤ imm) (i2 : imm < 128) : Says ⟨19, 0, 0, 0, 0, 0, 0, imm, 0⟩ := by
  have hz : size imm = 0 := by
    unfold size
    rw [if_pos ⟨i1, i2⟩]
  have e : enc ⟨19, 0, 0, 0, 0, 0, 0, imm, 0⟩ = [19, 0, Mm.by8 (imm % 18446744073709551616) 0] := by
    show (19 : Int) % 256 :: ([size imm % 256] ++ (low imm (cnt (size imm)) ++ [])) = _
    rw [hz]; rfl
  intro N g hN hg
  rw [e] at hN hg ⊢
  have hN : 3 ≤ N := hN
  have g1 : g 1 = 0 := hg 1 (show 1 < 3 from by decide)
  have g2 : g 2 = Mm.by8 (imm % 18446744073709551616) 0 := hg 2 (show 2 < 3 from by decide)
  show rdL N g [106, 105] ⟨19, 0, 0, 0, 0, 0, 0, 0, 0⟩ 0 1 = _
  rw [step_j (z' := 0) (by omega) (by dsimp only; decide) g1]
  rw [step_i (n := imm) (show 2 + 1 ≤ N from by omega) (by dsimp only; decide) (show num g 2 1 = imm from num_low (.inl ⟨rfl, by omega, by omega⟩) (one g2))]
  rfl
theorem says_19_1 {imm : Int} (i1 : -2147483648 ≤ imm) (i2 : imm < 2147483648) (i3 : ¬ (-128 ≤ imm ∧ imm < 128)) : Says ⟨19, 0, 0, 0, 0, 0, 0, imm, 0⟩ := by
  have hz : size imm = 1 := by
    unfold size
    rw [if_neg i3, if_pos ⟨i1, i2⟩]
  have e : enc ⟨19, 0, 0, 0, 0, 0, 0, imm, 0⟩ = [19, 1, Mm.by8 (imm % 18446744073709551616) 0, Mm.by8 (imm % 18446744073709551616) 1, Mm.by8 (imm % 18446744073709551616) 2, Mm.by8 (imm % 18446744073709551616) 3] := by
    show (19 : Int) % 256 :: ([size imm % 256] ++ (low imm (cnt (size imm)) ++ [])) = _
    rw [hz]; rfl
  intro N g hN hg
  rw [e] at hN hg ⊢
  have hN : 6 ≤ N := hN
  have g1 : g 1 = 1 := hg 1 (show 1 < 6 from by decide)
  have g2 : g 2 = Mm.by8 (imm % 18446744073709551616) 0 := hg 2 (show 2 < 6 from by decide)
  have g3 : g 3 = Mm.by8 (imm % 18446744073709551616) 1 := hg 3 (show 3 < 6 from by decide)
  have g4 : g 4 = Mm.by8 (imm % 18446744073709551616) 2 := hg 4 (show 4 < 6 from by decide)
  have g5 : g 5 = Mm.by8 (imm % 18446744073709551616) 3 := hg 5 (show 5 < 6 from by decide)
  show rdL N g [106, 105] ⟨19, 0, 0, 0, 0, 0, 0, 0, 0⟩ 0 1 = _
  rw [step_j (z' := 1) (by omega) (by dsimp only; decide) g1]
  rw [step_i (n := imm) (show 2 + 4 ≤ N from by omega) (by dsimp only; decide) (show num g 2 4 = imm from num_low (.inr (.inl ⟨rfl, by omega, by omega⟩)) (four g2 g3 g4 g5))]
  rfl
theorem says_22_0 {sub imm : Int} (s1 : 11 ≤ sub) (s2 : sub ≤ 16) (i1 : -128 ≤ imm) (i2 : imm < 128) : Says ⟨22, 0, 0, 0, 0, sub, 0, imm, 0⟩ := by
  have hz : size imm = 0 := by
    unfold size
    rw [if_pos ⟨i1, i2⟩]
  have e : enc ⟨22, 0, 0, 0, 0, sub, 0, imm, 0⟩ = [22, (16 * (sub - 11) + 0) % 256, Mm.by8 (imm % 18446744073709551616) 0] := by
    show (22 : Int) % 256 :: ([(16 * (sub - 11) + size imm) % 256] ++ (low imm (cnt (size imm)) ++ [])) = _
    rw [hz]; rfl
  intro N g hN hg
  rw [e] at hN hg ⊢
  have hN : 3 ≤ N := hN
  have g1 : g 1 = (16 * (sub - 11) + 0) % 256 := hg 1 (show 1 < 3 from by decide)
  have g2 : g 2 = Mm.by8 (imm % 18446744073709551616) 0 := hg 2 (show 2 < 3 from by decide)
  show rdL N g [74, 105] ⟨22, 0, 0, 0, 0, 0, 0, 0, 0⟩ 0 1 = _
  rw [step_J (sub := sub) (z' := 0) (by omega) (by decide) (by dsimp only; decide) g1 s1 s2]
  rw [step_i (n := imm) (show 2 + 1 ≤ N from by omega) (by dsimp only; decide) (show num g 2 1 = imm from num_low (.inl ⟨rfl, by omega, by omega⟩) (one g2))]
  rfl
theorem says_22_1 {sub imm : Int} (s1 : 11 ≤ sub) (s2 : sub ≤ 16) (i1 : -2147483648 ≤ imm) (i2 : imm < 2147483648) (i3 : ¬ (-128 ≤ imm ∧ imm < 128)) : Says ⟨22, 0, 0, 0, 0, sub, 0, imm, 0⟩ := by
  have hz : size imm = 1 := by
    unfold size
    rw [if_neg i3, if_pos ⟨i1, i2⟩]
  have e : enc ⟨22, 0, 0, 0, 0, sub, 0, imm, 0⟩ = [22, (16 * (sub - 11) + 1) % 256, Mm.by8 (imm % 18446744073709551616) 0, Mm.by8 (imm % 18446744073709551616) 1, Mm.by8 (imm % 18446744073709551616) 2, Mm.by8 (imm % 18446744073709551616) 3] := by
    show (22 : Int) % 256 :: ([(16 * (sub - 11) + size imm) % 256] ++ (low imm (cnt (size imm)) ++ [])) = _
    rw [hz]; rfl
  intro N g hN hg
  rw [e] at hN hg ⊢
  have hN : 6 ≤ N := hN
  have g1 : g 1 = (16 * (sub - 11) + 1) % 256 := hg 1 (show 1 < 6 from by decide)
  have g2 : g 2 = Mm.by8 (imm % 18446744073709551616) 0 := hg 2 (show 2 < 6 from by decide)
  have g3 : g 3 = Mm.by8 (imm % 18446744073709551616) 1 := hg 3 (show 3 < 6 from by decide)
  have g4 : g 4 = Mm.by8 (imm % 18446744073709551616) 2 := hg 4 (show 4 < 6 from by decide)
  have g5 : g 5 = Mm.by8 (imm % 18446744073709551616) 3 := hg 5 (show 5 < 6 from by decide)
  show rdL N g [74, 105] ⟨22, 0, 0, 0, 0, 0, 0, 0, 0⟩ 0 1 = _
  rw [step_J (sub := sub) (z' := 1) (by omega) (by decide) (by dsimp only; decide) g1 s1 s2]
  rw [step_i (n := imm) (show 2 + 4 ≤ N from by omega) (by dsimp only; decide) (show num g 2 4 = imm from num_low (.inr (.inl ⟨rfl, by omega, by omega⟩)) (four g2 g3 g4 g5))]
  rfl
theorem says_23 {imm : Int} (i1 : -2147483648 ≤ imm) (i2 : imm < 2147483648) : Says ⟨23, 0, 0, 0, 0, 0, 0, imm, 0⟩ := by
  have e : enc ⟨23, 0, 0, 0, 0, 0, 0, imm, 0⟩ = [23, Mm.by8 (imm % 18446744073709551616) 0, Mm.by8 (imm % 18446744073709551616) 1, Mm.by8 (imm % 18446744073709551616) 2, Mm.by8 (imm % 18446744073709551616) 3] := rfl
  intro N g hN hg
  rw [e] at hN hg ⊢
  have hN : 5 ≤ N := hN
  have g1 : g 1 = Mm.by8 (imm % 18446744073709551616) 0 := hg 1 (show 1 < 5 from by decide)
  have g2 : g 2 = Mm.by8 (imm % 18446744073709551616) 1 := hg 2 (show 2 < 5 from by decide)
  have g3 : g 3 = Mm.by8 (imm % 18446744073709551616) 2 := hg 3 (show 3 < 5 from by decide)
  have g4 : g 4 = Mm.by8 (imm % 18446744073709551616) 3 := hg 4 (show 4 < 5 from by decide)
  show rdL N g [52] ⟨23, 0, 0, 0, 0, 0, 0, 0, 0⟩ 0 1 = _
  rw [step_4 (n := imm) (by omega) (by dsimp only; decide) (num_low (.inr (.inl ⟨rfl, by omega, by omega⟩)) (four g1 g2 g3 g4))]
  rfl
theorem says_24 : Says ⟨24, 0, 0, 0, 0, 0, 0, 0, 0⟩ := by
  have e : enc ⟨24, 0, 0, 0, 0, 0, 0, 0, 0⟩ = [24] := rfl
  intro N g hN hg
  rw [e] at hN hg ⊢
  show rdL N g [] ⟨24, 0, 0, 0, 0, 0, 0, 0, 0⟩ 0 1 = _
  rfl
theorem says_25 {imm : Int} (i1 : -2147483648 ≤ imm) (i2 : imm < 2147483648) : Says ⟨25, 0, 0, 0, 0, 0, 0, imm, 0⟩ := by
  have e : enc ⟨25, 0, 0, 0, 0, 0, 0, imm, 0⟩ = [25, Mm.by8 (imm % 18446744073709551616) 0, Mm.by8 (imm % 18446744073709551616) 1, Mm.by8 (imm % 18446744073709551616) 2, Mm.by8 (imm % 18446744073709551616) 3] := rfl
  intro N g hN hg
  rw [e] at hN hg ⊢
  have hN : 5 ≤ N := hN
  have g1 : g 1 = Mm.by8 (imm % 18446744073709551616) 0 := hg 1 (show 1 < 5 from by decide)
  have g2 : g 2 = Mm.by8 (imm % 18446744073709551616) 1 := hg 2 (show 2 < 5 from by decide)
  have g3 : g 3 = Mm.by8 (imm % 18446744073709551616) 2 := hg 3 (show 3 < 5 from by decide)
  have g4 : g 4 = Mm.by8 (imm % 18446744073709551616) 3 := hg 4 (show 4 < 5 from by decide)
  show rdL N g [52] ⟨25, 0, 0, 0, 0, 0, 0, 0, 0⟩ 0 1 = _
  rw [step_4 (n := imm) (by omega) (by dsimp only; decide) (num_low (.inr (.inl ⟨rfl, by omega, by omega⟩)) (four g1 g2 g3 g4))]
  rfl
theorem says_26 {a b : Int} (a1 : 0 ≤ a) (a2 : a < 16) (b1 : 0 ≤ b) (b2 : b < 16) : Says ⟨26, a, b, 0, 0, 0, 0, 0, 0⟩ := by
  have e : enc ⟨26, a, b, 0, 0, 0, 0, 0, 0⟩ = [26, (16 * a + b) % 256] := rfl
  intro N g hN hg
  rw [e] at hN hg ⊢
  have hN : 2 ≤ N := hN
  have g1 : g 1 = (16 * a + b) % 256 := hg 1 (show 1 < 2 from by decide)
  show rdL N g [97] ⟨26, 0, 0, 0, 0, 0, 0, 0, 0⟩ 0 1 = _
  rw [step_a (a := a) (b := b) (by omega) (by dsimp only; decide) g1 a1 a2 b1 b2]
  rfl
theorem says_27 {a : Int} (a1 : 0 ≤ a) (a2 : a < 16) : Says ⟨27, a, 0, 0, 0, 0, 0, 0, 0⟩ := by
  have e : enc ⟨27, a, 0, 0, 0, 0, 0, 0, 0⟩ = [27, (16 * a + 0) % 256] := rfl
  intro N g hN hg
  rw [e] at hN hg ⊢
  have hN : 2 ≤ N := hN
  have g1 : g 1 = (16 * a + 0) % 256 := hg 1 (show 1 < 2 from by decide)
  show rdL N g [97] ⟨27, 0, 0, 0, 0, 0, 0, 0, 0⟩ 0 1 = _
  rw [step_a (a := a) (b := 0) (by omega) (by dsimp only; decide) g1 a1 a2 (by decide) (by decide)]
  rfl
theorem says_28 {a : Int} (a1 : 0 ≤ a) (a2 : a < 16) : Says ⟨28, a, 0, 0, 0, 0, 0, 0, 0⟩ := by
  have e : enc ⟨28, a, 0, 0, 0, 0, 0, 0, 0⟩ = [28, (16 * a + 0) % 256] := rfl
  intro N g hN hg
  rw [e] at hN hg ⊢
  have hN : 2 ≤ N := hN
  have g1 : g 1 = (16 * a + 0) % 256 := hg 1 (show 1 < 2 from by decide)
  show rdL N g [97] ⟨28, 0, 0, 0, 0, 0, 0, 0, 0⟩ 0 1 = _
  rw [step_a (a := a) (b := 0) (by omega) (by dsimp only; decide) g1 a1 a2 (by decide) (by decide)]
  rfl
theorem says_29 {imm : Int} (i1 : -2147483648 ≤ imm) (i2 : imm < 2147483648) : Says ⟨29, 0, 0, 0, 0, 0, 0, imm, 0⟩ := by
  have e : enc ⟨29, 0, 0, 0, 0, 0, 0, imm, 0⟩ = [29, Mm.by8 (imm % 18446744073709551616) 0, Mm.by8 (imm % 18446744073709551616) 1, Mm.by8 (imm % 18446744073709551616) 2, Mm.by8 (imm % 18446744073709551616) 3] := rfl
  intro N g hN hg
  rw [e] at hN hg ⊢
  have hN : 5 ≤ N := hN
  have g1 : g 1 = Mm.by8 (imm % 18446744073709551616) 0 := hg 1 (show 1 < 5 from by decide)
  have g2 : g 2 = Mm.by8 (imm % 18446744073709551616) 1 := hg 2 (show 2 < 5 from by decide)
  have g3 : g 3 = Mm.by8 (imm % 18446744073709551616) 2 := hg 3 (show 3 < 5 from by decide)
  have g4 : g 4 = Mm.by8 (imm % 18446744073709551616) 3 := hg 4 (show 4 < 5 from by decide)
  show rdL N g [52] ⟨29, 0, 0, 0, 0, 0, 0, 0, 0⟩ 0 1 = _
  rw [step_4 (n := imm) (by omega) (by dsimp only; decide) (num_low (.inr (.inl ⟨rfl, by omega, by omega⟩)) (four g1 g2 g3 g4))]
  rfl
end Cc
end Go.Proofs.YtkiockffejlnhaaGreatDoor
