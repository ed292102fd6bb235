/- The bytes of an instruction of C64 say it, as package cisc reads them: code by code. -/
import Derived.Test.YtkiockffejlnhaaGreatDoorG5
namespace Go.Proofs.YtkiockffejlnhaaGreatDoor
set_option linter.unusedVariables false
namespace Cc
def CSays (v : InV) : Prop := ∀ (N : Nat) (g : Nat → Int), (enc v).length ≤ N → (∀ i, i < (enc v).length → g i = (enc v).getD i 0) → crdL N g (rrow v.op) ⟨v.op, 0, 0, 0, 0, 0, 0, 0, 0⟩ 0 1 = (v, ((enc v).length : Int))
theorem crd_step {N : Nat} {g : Nat → Int} {l : Int} {s : List Int} {v : InV} {z : Int} {p : Nat} (hN : p + lcnt l z ≤ N) (hz : ¬ (2 < lsz l z (g p) ∨ (lsz l z (g p) = 2 ∧ v.op ≠ 1))) (hs : ¬ (l = 105 ∧ size (num g p (lcnt l z)) ≠ z)) :
  crdL N g (l :: s) v z p = crdL N g s (lsetC l v (g p) (num g p (lcnt l z))) (lsz l z (g p)) (p + lcnt l z) := by
 rw [crdL]
 rw [if_neg (by omega), if_neg hz, if_neg hs]
theorem cstep_a {N : Nat} {g : Nat → Int} {s : List Int} {v : InV} {z a b : Int} {p : Nat} (hN : p + 1 ≤ N) (hz : ¬ (2 < z ∨ (z = 2 ∧ v.op ≠ 1))) (hx : g p = (16 * a + b) % 256) (a1 : 0 ≤ a) (a2 : a < 16) (b1 : 0 ≤ b) (b2 : b < 16) :
  crdL N g (97 :: s) v z p = crdL N g s { v with a := a, b := b } z (p + 1) := by
 rw [crd_step (by simpa [lcnt] using hN) (by simpa [lsz] using hz) (by rintro ⟨h, _⟩; revert h; decide)]
 have e1 : g p / 16 = a := by omega
 have e2 : g p % 16 = b := by omega
 simp [lsetC, lset, lsz, lcnt, e1, e2]
theorem cstep_n {N : Nat} {g : Nat → Int} {s : List Int} {v : InV} {z z' a : Int} {p : Nat} (hN : p + 1 ≤ N) (z1 : 0 ≤ z') (hz : ¬ (2 < z' ∨ (z' = 2 ∧ v.op ≠ 1))) (hx : g p = (16 * a + z') % 256) (a1 : 0 ≤ a) (a2 : a < 16) :
  crdL N g (110 :: s) v z p = crdL N g s { v with a := a } z' (p + 1) := by
 have z2 : z' ≤ 2 := by omega
 have e1 : g p / 16 = a := by omega
 have e2 : g p % 16 = z' := by omega
 rw [crd_step (by simpa [lcnt] using hN) (by simpa [lsz, e2] using hz) (by rintro ⟨h, _⟩; revert h; decide)]
 simp [lsetC, lset, lsz, lcnt, e1, e2]
theorem cstep_j {N : Nat} {g : Nat → Int} {s : List Int} {v : InV} {z z' : Int} {p : Nat} (hN : p + 1 ≤ N) (hz : ¬ (2 < z' ∨ (z' = 2 ∧ v.op ≠ 1))) (hx : g p = z') :
  crdL N g (106 :: s) v z p = crdL N g s v z' (p + 1) := by
 rw [crd_step (by simpa [lcnt] using hN) (by simpa [lsz, hx] using hz) (by rintro ⟨h, _⟩; revert h; decide)]
 simp [lsetC, lset, lsz, lcnt, hx]
theorem cstep_J {N : Nat} {g : Nat → Int} {s : List Int} {v : InV} {z z' sub : Int} {p : Nat} (hN : p + 1 ≤ N) (z1 : 0 ≤ z') (hz : ¬ (2 < z' ∨ (z' = 2 ∧ v.op ≠ 1))) (hx : g p = (16 * (sub - 11) + z') % 256) (a1 : 11 ≤ sub) (a2 : sub ≤ 16) :
  crdL N g (74 :: s) v z p = crdL N g s { v with sub := sub } z' (p + 1) := by
 have z2 : z' ≤ 2 := by omega
 have e1 : g p / 16 + 11 = sub := by omega
 have e2 : g p % 16 = z' := by omega
 rw [crd_step (by simpa [lcnt] using hN) (by simpa [lsz, e2] using hz) (by rintro ⟨h, _⟩; revert h; decide)]
 simp [lsetC, lset, lsz, lcnt, e1, e2]
theorem cstep_c {N : Nat} {g : Nat → Int} {s : List Int} {v : InV} {z c sc : Int} {p : Nat} (hN : p + 1 ≤ N) (hz : ¬ (2 < z ∨ (z = 2 ∧ v.op ≠ 1))) (hx : g p = (16 * c + lg sc) % 256) (a1 : 0 ≤ c) (a2 : c < 16) (hs : sc = 1 ∨ sc = 2 ∨ sc = 4 ∨ sc = 8 ∨ sc = 0) :
  crdL N g (99 :: s) v z p = crdL N g s { v with c := c, scale := sc } z (p + 1) := by
 have hl : 0 ≤ lg sc ∧ lg sc < 16 ∧ sclC (lg sc) = sc := by rcases hs with rfl | rfl | rfl | rfl | rfl <;> decide
 have e1 : g p / 16 = c := by omega
 have e2 : g p % 16 = lg sc := by omega
 rw [crd_step (by simpa [lcnt] using hN) (by simpa [lsz] using hz) (by rintro ⟨h, _⟩; revert h; decide)]
 simp [lsetC, lsz, lcnt, e1, e2, hl.2.2]
theorem cstep_K {N : Nat} {g : Nat → Int} {s : List Int} {v : InV} {z k : Int} {p : Nat} (hN : p + 1 ≤ N) (hz : ¬ (2 < z ∨ (z = 2 ∧ v.op ≠ 1))) (hx : g p = k % 256) (a1 : 0 ≤ k) (a2 : k < 256) :
  crdL N g (75 :: s) v z p = crdL N g s { v with k := k } z (p + 1) := by
 have e1 : g p = k := by omega
 rw [crd_step (by simpa [lcnt] using hN) (by simpa [lsz] using hz) (by rintro ⟨h, _⟩; revert h; decide)]
 simp [lsetC, lset, lsz, lcnt, e1]
theorem cstep_S {N : Nat} {g : Nat → Int} {s : List Int} {v : InV} {z k : Int} {p : Nat} (hN : p + 1 ≤ N) (hz : ¬ (2 < z ∨ (z = 2 ∧ v.op ≠ 1))) (hx : g p = k % 256) (a1 : 0 ≤ k) (a2 : k < 256) :
  crdL N g (83 :: s) v z p = crdL N g s { v with sub := k } z (p + 1) := by
 have e1 : g p = k := by omega
 rw [crd_step (by simpa [lcnt] using hN) (by simpa [lsz] using hz) (by rintro ⟨h, _⟩; revert h; decide)]
 simp [lsetC, lset, lsz, lcnt, e1]
theorem cstep_i {N : Nat} {g : Nat → Int} {s : List Int} {v : InV} {z n : Int} {p : Nat} (hs : size n = z) (hN : p + cnt z ≤ N) (hz : ¬ (2 < z ∨ (z = 2 ∧ v.op ≠ 1))) (hx : num g p (cnt z) = n) :
  crdL N g (105 :: s) v z p = crdL N g s { v with imm := n } z (p + cnt z) := by
 rw [crd_step (by simpa [lcnt] using hN) (by simpa [lsz] using hz) (by rintro ⟨_, h⟩; exact h (by rw [show lcnt 105 z = cnt z from rfl, hx]; exact hs))]
 simp [lsetC, lset, lsz, lcnt, hx]
theorem cstep_4 {N : Nat} {g : Nat → Int} {s : List Int} {v : InV} {z n : Int} {p : Nat} (hN : p + 4 ≤ N) (hz : ¬ (2 < z ∨ (z = 2 ∧ v.op ≠ 1))) (hx : num g p 4 = n) :
  crdL N g (52 :: s) v z p = crdL N g s { v with imm := n } z (p + 4) := by
 rw [crd_step (by simpa [lcnt] using hN) (by simpa [lsz] using hz) (by rintro ⟨h, _⟩; revert h; decide)]
 simp [lsetC, lset, lsz, lcnt, hx]
theorem csays_1_0 {a imm : Int} (a1 : 0 ≤ a) (a2 : a < 16) (i1 : -128 ≤ imm) (i2 : imm < 128) : CSays ⟨1, a, 0, 0, 0, 0, 0, imm, 0⟩ := by
 have hz : size imm = 0 := by
  unfold size
  rw [if_pos ⟨i1, i2⟩]
 have e : enc ⟨1, a, 0, 0, 0, 0, 0, imm, 0⟩ = [1, (16 * a + 0) % 256, Mm.by8 (imm % 18446744073709551616) 0] := by
  show (1 : Int) % 256 :: ([(16 * a + size imm) % 256] ++ (low imm (cnt (size imm)) ++ [])) = _
  rw [hz]; rfl
 intro N g hN hg
 rw [e] at hN hg ⊢
 have hN : 3 ≤ N := hN
 have g1 : g 1 = (16 * a + 0) % 256 := hg 1 (show 1 < 3 from by decide)
 have g2 : g 2 = Mm.by8 (imm % 18446744073709551616) 0 := hg 2 (show 2 < 3 from by decide)
 show crdL N g [110, 105] ⟨1, 0, 0, 0, 0, 0, 0, 0, 0⟩ 0 1 = _
 rw [cstep_n (a := a) (z' := 0) (by omega) (by decide) (by dsimp only; decide) g1 a1 a2]
 rw [cstep_i hz (n := imm) (show 2 + 1 ≤ N from by omega) (by dsimp only; decide) (show num g 2 1 = imm from num_low (.inl ⟨rfl, by omega, by omega⟩) (one g2))]
 rfl
theorem csays_1_1 {a imm : Int} (a1 : 0 ≤ a) (a2 : a < 16) (i1 : -2147483648 ≤ imm) (i2 : imm < 2147483648) (i3 : ¬ (-128 ≤ imm ∧ imm < 128)) : CSays ⟨1, a, 0, 0, 0, 0, 0, imm, 0⟩ := by
 have hz : size imm = 1 := by
  unfold size
  rw [if_neg i3, if_pos ⟨i1, i2⟩]
 have e : enc ⟨1, a, 0, 0, 0, 0, 0, imm, 0⟩ = [1, (16 * a + 1) % 256, Mm.by8 (imm % 18446744073709551616) 0, Mm.by8 (imm % 18446744073709551616) 1, Mm.by8 (imm % 18446744073709551616) 2, Mm.by8 (imm % 18446744073709551616) 3] := by
  show (1 : Int) % 256 :: ([(16 * a + size imm) % 256] ++ (low imm (cnt (size imm)) ++ [])) = _
  rw [hz]; rfl
 intro N g hN hg
 rw [e] at hN hg ⊢
 have hN : 6 ≤ N := hN
 have g1 : g 1 = (16 * a + 1) % 256 := hg 1 (show 1 < 6 from by decide)
 have g2 : g 2 = Mm.by8 (imm % 18446744073709551616) 0 := hg 2 (show 2 < 6 from by decide)
 have g3 : g 3 = Mm.by8 (imm % 18446744073709551616) 1 := hg 3 (show 3 < 6 from by decide)
 have g4 : g 4 = Mm.by8 (imm % 18446744073709551616) 2 := hg 4 (show 4 < 6 from by decide)
 have g5 : g 5 = Mm.by8 (imm % 18446744073709551616) 3 := hg 5 (show 5 < 6 from by decide)
 show crdL N g [110, 105] ⟨1, 0, 0, 0, 0, 0, 0, 0, 0⟩ 0 1 = _
 rw [cstep_n (a := a) (z' := 1) (by omega) (by decide) (by dsimp only; decide) g1 a1 a2]
 rw [cstep_i hz (n := imm) (show 2 + 4 ≤ N from by omega) (by dsimp only; decide) (show num g 2 4 = imm from num_low (.inr (.inl ⟨rfl, by omega, by omega⟩)) (four g2 g3 g4 g5))]
 rfl
theorem csays_1_2 {a imm : Int} (a1 : 0 ≤ a) (a2 : a < 16) (i1 : -9223372036854775808 ≤ imm) (i2 : imm ≤ 9223372036854775807) (i3 : ¬ (-2147483648 ≤ imm ∧ imm < 2147483648)) : CSays ⟨1, a, 0, 0, 0, 0, 0, imm, 0⟩ := by
 have hz : size imm = 2 := by
  unfold size
  rw [if_neg (by omega), if_neg i3]
 have e : enc ⟨1, a, 0, 0, 0, 0, 0, imm, 0⟩ = [1, (16 * a + 2) % 256, Mm.by8 (imm % 18446744073709551616) 0, Mm.by8 (imm % 18446744073709551616) 1, Mm.by8 (imm % 18446744073709551616) 2, Mm.by8 (imm % 18446744073709551616) 3, Mm.by8 (imm % 18446744073709551616) 4, Mm.by8 (imm % 18446744073709551616) 5, Mm.by8 (imm % 18446744073709551616) 6, Mm.by8 (imm % 18446744073709551616) 7] := by
  show (1 : Int) % 256 :: ([(16 * a + size imm) % 256] ++ (low imm (cnt (size imm)) ++ [])) = _
  rw [hz]; rfl
 intro N g hN hg
 rw [e] at hN hg ⊢
 have hN : 10 ≤ N := hN
 have g1 : g 1 = (16 * a + 2) % 256 := hg 1 (show 1 < 10 from by decide)
 have g2 : g 2 = Mm.by8 (imm % 18446744073709551616) 0 := hg 2 (show 2 < 10 from by decide)
 have g3 : g 3 = Mm.by8 (imm % 18446744073709551616) 1 := hg 3 (show 3 < 10 from by decide)
 have g4 : g 4 = Mm.by8 (imm % 18446744073709551616) 2 := hg 4 (show 4 < 10 from by decide)
 have g5 : g 5 = Mm.by8 (imm % 18446744073709551616) 3 := hg 5 (show 5 < 10 from by decide)
 have g6 : g 6 = Mm.by8 (imm % 18446744073709551616) 4 := hg 6 (show 6 < 10 from by decide)
 have g7 : g 7 = Mm.by8 (imm % 18446744073709551616) 5 := hg 7 (show 7 < 10 from by decide)
 have g8 : g 8 = Mm.by8 (imm % 18446744073709551616) 6 := hg 8 (show 8 < 10 from by decide)
 have g9 : g 9 = Mm.by8 (imm % 18446744073709551616) 7 := hg 9 (show 9 < 10 from by decide)
 show crdL N g [110, 105] ⟨1, 0, 0, 0, 0, 0, 0, 0, 0⟩ 0 1 = _
 rw [cstep_n (a := a) (z' := 2) (by omega) (by decide) (by dsimp only; decide) g1 a1 a2]
 rw [cstep_i hz (n := imm) (show 2 + 8 ≤ N from by omega) (by dsimp only; decide) (show num g 2 8 = imm from num_low (.inr (.inr ⟨rfl, by omega, by omega⟩)) (eight g2 g3 g4 g5 g6 g7 g8 g9))]
 rfl
theorem csays_3 {a b : Int} (a1 : 0 ≤ a) (a2 : a < 16) (b1 : 0 ≤ b) (b2 : b < 16) : CSays ⟨3, a, b, 0, 0, 0, 0, 0, 0⟩ := by
 have e : enc ⟨3, a, b, 0, 0, 0, 0, 0, 0⟩ = [3, (16 * a + b) % 256] := rfl
 intro N g hN hg
 rw [e] at hN hg ⊢
 have hN : 2 ≤ N := hN
 have g1 : g 1 = (16 * a + b) % 256 := hg 1 (show 1 < 2 from by decide)
 show crdL N g [97] ⟨3, 0, 0, 0, 0, 0, 0, 0, 0⟩ 0 1 = _
 rw [cstep_a (a := a) (b := b) (by omega) (by dsimp only; decide) g1 a1 a2 b1 b2]
 rfl
theorem csays_4 {a b k sub : Int} (a1 : 0 ≤ a) (a2 : a < 16) (b1 : 0 ≤ b) (b2 : b < 16) (k1 : 0 ≤ k) (k2 : k < 256) (s1 : 0 ≤ sub) (s2 : sub < 256) : CSays ⟨4, a, b, 0, k, sub, 0, 0, 0⟩ := by
 have e : enc ⟨4, a, b, 0, k, sub, 0, 0, 0⟩ = [4, (16 * a + b) % 256, k % 256, sub % 256] := rfl
 intro N g hN hg
 rw [e] at hN hg ⊢
 have hN : 4 ≤ N := hN
 have g1 : g 1 = (16 * a + b) % 256 := hg 1 (show 1 < 4 from by decide)
 have g2 : g 2 = k % 256 := hg 2 (show 2 < 4 from by decide)
 have g3 : g 3 = sub % 256 := hg 3 (show 3 < 4 from by decide)
 show crdL N g [97, 75, 83] ⟨4, 0, 0, 0, 0, 0, 0, 0, 0⟩ 0 1 = _
 rw [cstep_a (a := a) (b := b) (by omega) (by dsimp only; decide) g1 a1 a2 b1 b2]
 rw [cstep_K (k := k) (by omega) (by dsimp only; decide) g2 k1 k2]
 rw [cstep_S (k := sub) (by omega) (by dsimp only; decide) g3 s1 s2]
 rfl
theorem csays_5_0 {a k sub imm : Int} (a1 : 0 ≤ a) (a2 : a < 16) (k1 : 0 ≤ k) (k2 : k < 256) (s1 : 0 ≤ sub) (s2 : sub < 256) (i1 : -128 ≤ imm) (i2 : imm < 128) : CSays ⟨5, a, 0, 0, k, sub, 0, imm, 0⟩ := by
 have hz : size imm = 0 := by
  unfold size
  rw [if_pos ⟨i1, i2⟩]
 have e : enc ⟨5, a, 0, 0, k, sub, 0, imm, 0⟩ = [5, (16 * a + 0) % 256, k % 256, sub % 256, Mm.by8 (imm % 18446744073709551616) 0] := by
  show (5 : Int) % 256 :: ([(16 * a + size imm) % 256] ++ ([k % 256] ++ ([sub % 256] ++ (low imm (cnt (size imm)) ++ [])))) = _
  rw [hz]; rfl
 intro N g hN hg
 rw [e] at hN hg ⊢
 have hN : 5 ≤ N := hN
 have g1 : g 1 = (16 * a + 0) % 256 := hg 1 (show 1 < 5 from by decide)
 have g2 : g 2 = k % 256 := hg 2 (show 2 < 5 from by decide)
 have g3 : g 3 = sub % 256 := hg 3 (show 3 < 5 from by decide)
 have g4 : g 4 = Mm.by8 (imm % 18446744073709551616) 0 := hg 4 (show 4 < 5 from by decide)
 show crdL N g [110, 75, 83, 105] ⟨5, 0, 0, 0, 0, 0, 0, 0, 0⟩ 0 1 = _
 rw [cstep_n (a := a) (z' := 0) (by omega) (by decide) (by dsimp only; decide) g1 a1 a2]
 rw [cstep_K (k := k) (by omega) (by dsimp only; decide) g2 k1 k2]
 rw [cstep_S (k := sub) (by omega) (by dsimp only; decide) g3 s1 s2]
 rw [cstep_i hz (n := imm) (show 4 + 1 ≤ N from by omega) (by dsimp only; decide) (show num g 4 1 = imm from num_low (.inl ⟨rfl, by omega, by omega⟩) (one g4))]
 rfl
theorem csays_5_1 {a k sub imm : Int} (a1 : 0 ≤ a) (a2 : a < 16) (k1 : 0 ≤ k) (k2 : k < 256) (s1 : 0 ≤ sub) (s2 : sub < 256) (i1 : -2147483648 ≤ imm) (i2 : imm < 2147483648) (i3 : ¬ (-128 ≤ imm ∧ imm < 128)) : CSays ⟨5, a, 0, 0, k, sub, 0, imm, 0⟩ := by
 have hz : size imm = 1 := by
  unfold size
  rw [if_neg i3, if_pos ⟨i1, i2⟩]
 have e : enc ⟨5, a, 0, 0, k, sub, 0, imm, 0⟩ = [5, (16 * a + 1) % 256, k % 256, sub % 256, Mm.by8 (imm % 18446744073709551616) 0, Mm.by8 (imm % 18446744073709551616) 1, Mm.by8 (imm % 18446744073709551616) 2, Mm.by8 (imm % 18446744073709551616) 3] := by
  show (5 : Int) % 256 :: ([(16 * a + size imm) % 256] ++ ([k % 256] ++ ([sub % 256] ++ (low imm (cnt (size imm)) ++ [])))) = _
  rw [hz]; rfl
 intro N g hN hg
 rw [e] at hN hg ⊢
 have hN : 8 ≤ N := hN
 have g1 : g 1 = (16 * a + 1) % 256 := hg 1 (show 1 < 8 from by decide)
 have g2 : g 2 = k % 256 := hg 2 (show 2 < 8 from by decide)
 have g3 : g 3 = sub % 256 := hg 3 (show 3 < 8 from by decide)
 have g4 : g 4 = Mm.by8 (imm % 18446744073709551616) 0 := hg 4 (show 4 < 8 from by decide)
 have g5 : g 5 = Mm.by8 (imm % 18446744073709551616) 1 := hg 5 (show 5 < 8 from by decide)
 have g6 : g 6 = Mm.by8 (imm % 18446744073709551616) 2 := hg 6 (show 6 < 8 from by decide)
 have g7 : g 7 = Mm.by8 (imm % 18446744073709551616) 3 := hg 7 (show 7 < 8 from by decide)
 show crdL N g [110, 75, 83, 105] ⟨5, 0, 0, 0, 0, 0, 0, 0, 0⟩ 0 1 = _
 rw [cstep_n (a := a) (z' := 1) (by omega) (by decide) (by dsimp only; decide) g1 a1 a2]
 rw [cstep_K (k := k) (by omega) (by dsimp only; decide) g2 k1 k2]
 rw [cstep_S (k := sub) (by omega) (by dsimp only; decide) g3 s1 s2]
 rw [cstep_i hz (n := imm) (show 4 + 4 ≤ N from by omega) (by dsimp only; decide) (show num g 4 4 = imm from num_low (.inr (.inl ⟨rfl, by omega, by omega⟩)) (four g4 g5 g6 g7))]
 rfl
theorem csays_6 {a b k sub imm : Int} (a1 : 0 ≤ a) (a2 : a < 16) (b1 : 0 ≤ b) (b2 : b < 16) (k1 : 0 ≤ k) (k2 : k < 256) (s1 : 0 ≤ sub) (s2 : sub < 256) (i1 : -2147483648 ≤ imm) (i2 : imm < 2147483648) : CSays ⟨6, a, b, 0, k, sub, 0, imm, 0⟩ := by
 have e : enc ⟨6, a, b, 0, k, sub, 0, imm, 0⟩ = [6, (16 * a + b) % 256, k % 256, sub % 256, Mm.by8 (imm % 18446744073709551616) 0, Mm.by8 (imm % 18446744073709551616) 1, Mm.by8 (imm % 18446744073709551616) 2, Mm.by8 (imm % 18446744073709551616) 3] := rfl
 intro N g hN hg
 rw [e] at hN hg ⊢
 have hN : 8 ≤ N := hN
 have g1 : g 1 = (16 * a + b) % 256 := hg 1 (show 1 < 8 from by decide)
 have g2 : g 2 = k % 256 := hg 2 (show 2 < 8 from by decide)
 have g3 : g 3 = sub % 256 := hg 3 (show 3 < 8 from by decide)
 have g4 : g 4 = Mm.by8 (imm % 18446744073709551616) 0 := hg 4 (show 4 < 8 from by decide)
 have g5 : g 5 = Mm.by8 (imm % 18446744073709551616) 1 := hg 5 (show 5 < 8 from by decide)
 have g6 : g 6 = Mm.by8 (imm % 18446744073709551616) 2 := hg 6 (show 6 < 8 from by decide)
 have g7 : g 7 = Mm.by8 (imm % 18446744073709551616) 3 := hg 7 (show 7 < 8 from by decide)
 show crdL N g [97, 75, 83, 52] ⟨6, 0, 0, 0, 0, 0, 0, 0, 0⟩ 0 1 = _
 rw [cstep_a (a := a) (b := b) (by omega) (by dsimp only; decide) g1 a1 a2 b1 b2]
 rw [cstep_K (k := k) (by omega) (by dsimp only; decide) g2 k1 k2]
 rw [cstep_S (k := sub) (by omega) (by dsimp only; decide) g3 s1 s2]
 rw [cstep_4 (n := imm) (by omega) (by dsimp only; decide) (num_low (.inr (.inl ⟨rfl, by omega, by omega⟩)) (four g4 g5 g6 g7))]
 rfl
theorem csays_7 {a k sub : Int} (a1 : 0 ≤ a) (a2 : a < 16) (k1 : 0 ≤ k) (k2 : k < 256) (s1 : 0 ≤ sub) (s2 : sub < 256) : CSays ⟨7, a, 0, 0, k, sub, 0, 0, 0⟩ := by
 have e : enc ⟨7, a, 0, 0, k, sub, 0, 0, 0⟩ = [7, (16 * a + 0) % 256, k % 256, sub % 256] := rfl
 intro N g hN hg
 rw [e] at hN hg ⊢
 have hN : 4 ≤ N := hN
 have g1 : g 1 = (16 * a + 0) % 256 := hg 1 (show 1 < 4 from by decide)
 have g2 : g 2 = k % 256 := hg 2 (show 2 < 4 from by decide)
 have g3 : g 3 = sub % 256 := hg 3 (show 3 < 4 from by decide)
 show crdL N g [97, 75, 83] ⟨7, 0, 0, 0, 0, 0, 0, 0, 0⟩ 0 1 = _
 rw [cstep_a (a := a) (b := 0) (by omega) (by dsimp only; decide) g1 a1 a2 (by decide) (by decide)]
 rw [cstep_K (k := k) (by omega) (by dsimp only; decide) g2 k1 k2]
 rw [cstep_S (k := sub) (by omega) (by dsimp only; decide) g3 s1 s2]
 rfl
theorem csays_8 {a b k sub : Int} (a1 : 0 ≤ a) (a2 : a < 16) (b1 : 0 ≤ b) (b2 : b < 16) (k1 : 0 ≤ k) (k2 : k < 256) (s1 : 0 ≤ sub) (s2 : sub < 256) : CSays ⟨8, a, b, 0, k, sub, 0, 0, 0⟩ := by
 have e : enc ⟨8, a, b, 0, k, sub, 0, 0, 0⟩ = [8, (16 * a + b) % 256, k % 256, sub % 256] := rfl
 intro N g hN hg
 rw [e] at hN hg ⊢
 have hN : 4 ≤ N := hN
 have g1 : g 1 = (16 * a + b) % 256 := hg 1 (show 1 < 4 from by decide)
 have g2 : g 2 = k % 256 := hg 2 (show 2 < 4 from by decide)
 have g3 : g 3 = sub % 256 := hg 3 (show 3 < 4 from by decide)
 show crdL N g [97, 75, 83] ⟨8, 0, 0, 0, 0, 0, 0, 0, 0⟩ 0 1 = _
 rw [cstep_a (a := a) (b := b) (by omega) (by dsimp only; decide) g1 a1 a2 b1 b2]
 rw [cstep_K (k := k) (by omega) (by dsimp only; decide) g2 k1 k2]
 rw [cstep_S (k := sub) (by omega) (by dsimp only; decide) g3 s1 s2]
 rfl
theorem csays_10 {a b c sc imm : Int} (a1 : 0 ≤ a) (a2 : a < 16) (b1 : 0 ≤ b) (b2 : b < 16) (c1 : 0 ≤ c) (c2 : c < 16) (hs : sc = 1 ∨ sc = 2 ∨ sc = 4 ∨ sc = 8 ∨ sc = 0) (i1 : -2147483648 ≤ imm) (i2 : imm < 2147483648) : CSays ⟨10, a, b, c, 0, 0, sc, imm, 0⟩ := by
 have e : enc ⟨10, a, b, c, 0, 0, sc, imm, 0⟩ = [10, (16 * a + b) % 256, (16 * c + lg sc) % 256, Mm.by8 (imm % 18446744073709551616) 0, Mm.by8 (imm % 18446744073709551616) 1, Mm.by8 (imm % 18446744073709551616) 2, Mm.by8 (imm % 18446744073709551616) 3] := rfl
 intro N g hN hg
 rw [e] at hN hg ⊢
 have hN : 7 ≤ N := hN
 have g1 : g 1 = (16 * a + b) % 256 := hg 1 (show 1 < 7 from by decide)
 have g2 : g 2 = (16 * c + lg sc) % 256 := hg 2 (show 2 < 7 from by decide)
 have g3 : g 3 = Mm.by8 (imm % 18446744073709551616) 0 := hg 3 (show 3 < 7 from by decide)
 have g4 : g 4 = Mm.by8 (imm % 18446744073709551616) 1 := hg 4 (show 4 < 7 from by decide)
 have g5 : g 5 = Mm.by8 (imm % 18446744073709551616) 2 := hg 5 (show 5 < 7 from by decide)
 have g6 : g 6 = Mm.by8 (imm % 18446744073709551616) 3 := hg 6 (show 6 < 7 from by decide)
 show crdL N g [97, 99, 52] ⟨10, 0, 0, 0, 0, 0, 0, 0, 0⟩ 0 1 = _
 rw [cstep_a (a := a) (b := b) (by omega) (by dsimp only; decide) g1 a1 a2 b1 b2]
 rw [cstep_c (c := c) (sc := sc) (by omega) (by dsimp only; decide) g2 c1 c2 hs]
 rw [cstep_4 (n := imm) (by omega) (by dsimp only; decide) (num_low (.inr (.inl ⟨rfl, by omega, by omega⟩)) (four g3 g4 g5 g6))]
 rfl
theorem csays_11 {a b k imm : Int} (a1 : 0 ≤ a) (a2 : a < 16) (b1 : 0 ≤ b) (b2 : b < 16) (k1 : 0 ≤ k) (k2 : k < 256) (i1 : -2147483648 ≤ imm) (i2 : imm < 2147483648) : CSays ⟨11, a, b, 0, k, 0, 0, imm, 0⟩ := by
 have e : enc ⟨11, a, b, 0, k, 0, 0, imm, 0⟩ = [11, (16 * a + b) % 256, k % 256, Mm.by8 (imm % 18446744073709551616) 0, Mm.by8 (imm % 18446744073709551616) 1, Mm.by8 (imm % 18446744073709551616) 2, Mm.by8 (imm % 18446744073709551616) 3] := rfl
 intro N g hN hg
 rw [e] at hN hg ⊢
 have hN : 7 ≤ N := hN
 have g1 : g 1 = (16 * a + b) % 256 := hg 1 (show 1 < 7 from by decide)
 have g2 : g 2 = k % 256 := hg 2 (show 2 < 7 from by decide)
 have g3 : g 3 = Mm.by8 (imm % 18446744073709551616) 0 := hg 3 (show 3 < 7 from by decide)
 have g4 : g 4 = Mm.by8 (imm % 18446744073709551616) 1 := hg 4 (show 4 < 7 from by decide)
 have g5 : g 5 = Mm.by8 (imm % 18446744073709551616) 2 := hg 5 (show 5 < 7 from by decide)
 have g6 : g 6 = Mm.by8 (imm % 18446744073709551616) 3 := hg 6 (show 6 < 7 from by decide)
 show crdL N g [97, 75, 52] ⟨11, 0, 0, 0, 0, 0, 0, 0, 0⟩ 0 1 = _
 rw [cstep_a (a := a) (b := b) (by omega) (by dsimp only; decide) g1 a1 a2 b1 b2]
 rw [cstep_K (k := k) (by omega) (by dsimp only; decide) g2 k1 k2]
 rw [cstep_4 (n := imm) (by omega) (by dsimp only; decide) (num_low (.inr (.inl ⟨rfl, by omega, by omega⟩)) (four g3 g4 g5 g6))]
 rfl
theorem csays_12 {a b c k sc imm : Int} (a1 : 0 ≤ a) (a2 : a < 16) (b1 : 0 ≤ b) (b2 : b < 16) (c1 : 0 ≤ c) (c2 : c < 16) (hs : sc = 1 ∨ sc = 2 ∨ sc = 4 ∨ sc = 8 ∨ sc = 0) (k1 : 0 ≤ k) (k2 : k < 256) (i1 : -2147483648 ≤ imm) (i2 : imm < 2147483648) : CSays ⟨12, a, b, c, k, 0, sc, imm, 0⟩ := by
 have e : enc ⟨12, a, b, c, k, 0, sc, imm, 0⟩ = [12, (16 * a + b) % 256, (16 * c + lg sc) % 256, k % 256, Mm.by8 (imm % 18446744073709551616) 0, Mm.by8 (imm % 18446744073709551616) 1, Mm.by8 (imm % 18446744073709551616) 2, Mm.by8 (imm % 18446744073709551616) 3] := rfl
 intro N g hN hg
 rw [e] at hN hg ⊢
 have hN : 8 ≤ N := hN
 have g1 : g 1 = (16 * a + b) % 256 := hg 1 (show 1 < 8 from by decide)
 have g2 : g 2 = (16 * c + lg sc) % 256 := hg 2 (show 2 < 8 from by decide)
 have g3 : g 3 = k % 256 := hg 3 (show 3 < 8 from by decide)
 have g4 : g 4 = Mm.by8 (imm % 18446744073709551616) 0 := hg 4 (show 4 < 8 from by decide)
 have g5 : g 5 = Mm.by8 (imm % 18446744073709551616) 1 := hg 5 (show 5 < 8 from by decide)
 have g6 : g 6 = Mm.by8 (imm % 18446744073709551616) 2 := hg 6 (show 6 < 8 from by decide)
 have g7 : g 7 = Mm.by8 (imm % 18446744073709551616) 3 := hg 7 (show 7 < 8 from by decide)
 show crdL N g [97, 99, 75, 52] ⟨12, 0, 0, 0, 0, 0, 0, 0, 0⟩ 0 1 = _
 rw [cstep_a (a := a) (b := b) (by omega) (by dsimp only; decide) g1 a1 a2 b1 b2]
 rw [cstep_c (c := c) (sc := sc) (by omega) (by dsimp only; decide) g2 c1 c2 hs]
 rw [cstep_K (k := k) (by omega) (by dsimp only; decide) g3 k1 k2]
 rw [cstep_4 (n := imm) (by omega) (by dsimp only; decide) (num_low (.inr (.inl ⟨rfl, by omega, by omega⟩)) (four g4 g5 g6 g7))]
 rfl
theorem csays_13 {a b k imm : Int} (a1 : 0 ≤ a) (a2 : a < 16) (b1 : 0 ≤ b) (b2 : b < 16) (k1 : 0 ≤ k) (k2 : k < 256) (i1 : -2147483648 ≤ imm) (i2 : imm < 2147483648) : CSays ⟨13, a, b, 0, k, 0, 0, imm, 0⟩ := by
 have e : enc ⟨13, a, b, 0, k, 0, 0, imm, 0⟩ = [13, (16 * a + b) % 256, k % 256, Mm.by8 (imm % 18446744073709551616) 0, Mm.by8 (imm % 18446744073709551616) 1, Mm.by8 (imm % 18446744073709551616) 2, Mm.by8 (imm % 18446744073709551616) 3] := rfl
 intro N g hN hg
 rw [e] at hN hg ⊢
 have hN : 7 ≤ N := hN
 have g1 : g 1 = (16 * a + b) % 256 := hg 1 (show 1 < 7 from by decide)
 have g2 : g 2 = k % 256 := hg 2 (show 2 < 7 from by decide)
 have g3 : g 3 = Mm.by8 (imm % 18446744073709551616) 0 := hg 3 (show 3 < 7 from by decide)
 have g4 : g 4 = Mm.by8 (imm % 18446744073709551616) 1 := hg 4 (show 4 < 7 from by decide)
 have g5 : g 5 = Mm.by8 (imm % 18446744073709551616) 2 := hg 5 (show 5 < 7 from by decide)
 have g6 : g 6 = Mm.by8 (imm % 18446744073709551616) 3 := hg 6 (show 6 < 7 from by decide)
 show crdL N g [97, 75, 52] ⟨13, 0, 0, 0, 0, 0, 0, 0, 0⟩ 0 1 = _
 rw [cstep_a (a := a) (b := b) (by omega) (by dsimp only; decide) g1 a1 a2 b1 b2]
 rw [cstep_K (k := k) (by omega) (by dsimp only; decide) g2 k1 k2]
 rw [cstep_4 (n := imm) (by omega) (by dsimp only; decide) (num_low (.inr (.inl ⟨rfl, by omega, by omega⟩)) (four g3 g4 g5 g6))]
 rfl
theorem csays_14 {a b c k sc imm : Int} (a1 : 0 ≤ a) (a2 : a < 16) (b1 : 0 ≤ b) (b2 : b < 16) (c1 : 0 ≤ c) (c2 : c < 16) (hs : sc = 1 ∨ sc = 2 ∨ sc = 4 ∨ sc = 8 ∨ sc = 0) (k1 : 0 ≤ k) (k2 : k < 256) (i1 : -2147483648 ≤ imm) (i2 : imm < 2147483648) : CSays ⟨14, a, b, c, k, 0, sc, imm, 0⟩ := by
 have e : enc ⟨14, a, b, c, k, 0, sc, imm, 0⟩ = [14, (16 * a + b) % 256, (16 * c + lg sc) % 256, k % 256, Mm.by8 (imm % 18446744073709551616) 0, Mm.by8 (imm % 18446744073709551616) 1, Mm.by8 (imm % 18446744073709551616) 2, Mm.by8 (imm % 18446744073709551616) 3] := rfl
 intro N g hN hg
 rw [e] at hN hg ⊢
 have hN : 8 ≤ N := hN
 have g1 : g 1 = (16 * a + b) % 256 := hg 1 (show 1 < 8 from by decide)
 have g2 : g 2 = (16 * c + lg sc) % 256 := hg 2 (show 2 < 8 from by decide)
 have g3 : g 3 = k % 256 := hg 3 (show 3 < 8 from by decide)
 have g4 : g 4 = Mm.by8 (imm % 18446744073709551616) 0 := hg 4 (show 4 < 8 from by decide)
 have g5 : g 5 = Mm.by8 (imm % 18446744073709551616) 1 := hg 5 (show 5 < 8 from by decide)
 have g6 : g 6 = Mm.by8 (imm % 18446744073709551616) 2 := hg 6 (show 6 < 8 from by decide)
 have g7 : g 7 = Mm.by8 (imm % 18446744073709551616) 3 := hg 7 (show 7 < 8 from by decide)
 show crdL N g [97, 99, 75, 52] ⟨14, 0, 0, 0, 0, 0, 0, 0, 0⟩ 0 1 = _
 rw [cstep_a (a := a) (b := b) (by omega) (by dsimp only; decide) g1 a1 a2 b1 b2]
 rw [cstep_c (c := c) (sc := sc) (by omega) (by dsimp only; decide) g2 c1 c2 hs]
 rw [cstep_K (k := k) (by omega) (by dsimp only; decide) g3 k1 k2]
 rw [cstep_4 (n := imm) (by omega) (by dsimp only; decide) (num_low (.inr (.inl ⟨rfl, by omega, by omega⟩)) (four g4 g5 g6 g7))]
 rfl
theorem csays_15 {a b sub : Int} (a1 : 0 ≤ a) (a2 : a < 16) (b1 : 0 ≤ b) (b2 : b < 16) (s1 : 0 ≤ sub) (s2 : sub < 256) : CSays ⟨15, a, b, 0, 0, sub, 0, 0, 0⟩ := by
 have e : enc ⟨15, a, b, 0, 0, sub, 0, 0, 0⟩ = [15, (16 * a + b) % 256, sub % 256] := rfl
 intro N g hN hg
 rw [e] at hN hg ⊢
 have hN : 3 ≤ N := hN
 have g1 : g 1 = (16 * a + b) % 256 := hg 1 (show 1 < 3 from by decide)
 have g2 : g 2 = sub % 256 := hg 2 (show 2 < 3 from by decide)
 show crdL N g [97, 83] ⟨15, 0, 0, 0, 0, 0, 0, 0, 0⟩ 0 1 = _
 rw [cstep_a (a := a) (b := b) (by omega) (by dsimp only; decide) g1 a1 a2 b1 b2]
 rw [cstep_S (k := sub) (by omega) (by dsimp only; decide) g2 s1 s2]
 rfl
theorem csays_16 {a b k : Int} (a1 : 0 ≤ a) (a2 : a < 16) (b1 : 0 ≤ b) (b2 : b < 16) (k1 : 0 ≤ k) (k2 : k < 256) : CSays ⟨16, a, b, 0, k, 0, 0, 0, 0⟩ := by
 have e : enc ⟨16, a, b, 0, k, 0, 0, 0, 0⟩ = [16, (16 * a + b) % 256, k % 256] := rfl
 intro N g hN hg
 rw [e] at hN hg ⊢
 have hN : 3 ≤ N := hN
 have g1 : g 1 = (16 * a + b) % 256 := hg 1 (show 1 < 3 from by decide)
 have g2 : g 2 = k % 256 := hg 2 (show 2 < 3 from by decide)
 show crdL N g [97, 75] ⟨16, 0, 0, 0, 0, 0, 0, 0, 0⟩ 0 1 = _
 rw [cstep_a (a := a) (b := b) (by omega) (by dsimp only; decide) g1 a1 a2 b1 b2]
 rw [cstep_K (k := k) (by omega) (by dsimp only; decide) g2 k1 k2]
 rfl
theorem csays_17_0 {a k imm : Int} (a1 : 0 ≤ a) (a2 : a < 16) (k1 : 0 ≤ k) (k2 : k < 256) (i1 : -128 ≤ imm) (i2 : imm < 128) : CSays ⟨17, a, 0, 0, k, 0, 0, imm, 0⟩ := by
 have hz : size imm = 0 := by
  unfold size
  rw [if_pos ⟨i1, i2⟩]
 have e : enc ⟨17, a, 0, 0, k, 0, 0, imm, 0⟩ = [17, (16 * a + 0) % 256, k % 256, Mm.by8 (imm % 18446744073709551616) 0] := by
  show (17 : Int) % 256 :: ([(16 * a + size imm) % 256] ++ ([k % 256] ++ (low imm (cnt (size imm)) ++ []))) = _
  rw [hz]; rfl
 intro N g hN hg
 rw [e] at hN hg ⊢
 have hN : 4 ≤ N := hN
 have g1 : g 1 = (16 * a + 0) % 256 := hg 1 (show 1 < 4 from by decide)
 have g2 : g 2 = k % 256 := hg 2 (show 2 < 4 from by decide)
 have g3 : g 3 = Mm.by8 (imm % 18446744073709551616) 0 := hg 3 (show 3 < 4 from by decide)
 show crdL N g [110, 75, 105] ⟨17, 0, 0, 0, 0, 0, 0, 0, 0⟩ 0 1 = _
 rw [cstep_n (a := a) (z' := 0) (by omega) (by decide) (by dsimp only; decide) g1 a1 a2]
 rw [cstep_K (k := k) (by omega) (by dsimp only; decide) g2 k1 k2]
 rw [cstep_i hz (n := imm) (show 3 + 1 ≤ N from by omega) (by dsimp only; decide) (show num g 3 1 = imm from num_low (.inl ⟨rfl, by omega, by omega⟩) (one g3))]
 rfl
theorem csays_17_1 {a k imm : Int} (a1 : 0 ≤ a) (a2 : a < 16) (k1 : 0 ≤ k) (k2 : k < 256) (i1 : -2147483648 ≤ imm) (i2 : imm < 2147483648) (i3 : ¬ (-128 ≤ imm ∧ imm < 128)) : CSays ⟨17, a, 0, 0, k, 0, 0, imm, 0⟩ := by
 have hz : size imm = 1 := by
  unfold size
  rw [if_neg i3, if_pos ⟨i1, i2⟩]
 have e : enc ⟨17, a, 0, 0, k, 0, 0, imm, 0⟩ = [17, (16 * a + 1) % 256, k % 256, Mm.by8 (imm % 18446744073709551616) 0, Mm.by8 (imm % 18446744073709551616) 1, Mm.by8 (imm % 18446744073709551616) 2, Mm.by8 (imm % 18446744073709551616) 3] := by
  show (17 : Int) % 256 :: ([(16 * a + size imm) % 256] ++ ([k % 256] ++ (low imm (cnt (size imm)) ++ []))) = _
  rw [hz]; rfl
 intro N g hN hg
 rw [e] at hN hg ⊢
 have hN : 7 ≤ N := hN
 have g1 : g 1 = (16 * a + 1) % 256 := hg 1 (show 1 < 7 from by decide)
 have g2 : g 2 = k % 256 := hg 2 (show 2 < 7 from by decide)
 have g3 : g 3 = Mm.by8 (imm % 18446744073709551616) 0 := hg 3 (show 3 < 7 from by decide)
 have g4 : g 4 = Mm.by8 (imm % 18446744073709551616) 1 := hg 4 (show 4 < 7 from by decide)
 have g5 : g 5 = Mm.by8 (imm % 18446744073709551616) 2 := hg 5 (show 5 < 7 from by decide)
 have g6 : g 6 = Mm.by8 (imm % 18446744073709551616) 3 := hg 6 (show 6 < 7 from by decide)
 show crdL N g [110, 75, 105] ⟨17, 0, 0, 0, 0, 0, 0, 0, 0⟩ 0 1 = _
 rw [cstep_n (a := a) (z' := 1) (by omega) (by decide) (by dsimp only; decide) g1 a1 a2]
 rw [cstep_K (k := k) (by omega) (by dsimp only; decide) g2 k1 k2]
 rw [cstep_i hz (n := imm) (show 3 + 4 ≤ N from by omega) (by dsimp only; decide) (show num g 3 4 = imm from num_low (.inr (.inl ⟨rfl, by omega, by omega⟩)) (four g3 g4 g5 g6))]
 rfl
theorem csays_18 {a sub : Int} (a1 : 0 ≤ a) (a2 : a < 16) (s1 : 0 ≤ sub) (s2 : sub < 256) : CSays ⟨18, a, 0, 0, 0, sub, 0, 0, 0⟩ := by
 have e : enc ⟨18, a, 0, 0, 0, sub, 0, 0, 0⟩ = [18, (16 * a + 0) % 256, sub % 256] := rfl
 intro N g hN hg
 rw [e] at hN hg ⊢
 have hN : 3 ≤ N := hN
 have g1 : g 1 = (16 * a + 0) % 256 := hg 1 (show 1 < 3 from by decide)
 have g2 : g 2 = sub % 256 := hg 2 (show 2 < 3 from by decide)
 show crdL N g [97, 83] ⟨18, 0, 0, 0, 0, 0, 0, 0, 0⟩ 0 1 = _
 rw [cstep_a (a := a) (b := 0) (by omega) (by dsimp only; decide) g1 a1 a2 (by decide) (by decide)]
 rw [cstep_S (k := sub) (by omega) (by dsimp only; decide) g2 s1 s2]
 rfl
theorem csays_19_0 {imm : Int} (i1 : -128 ≤ imm) (i2 : imm < 128) : CSays ⟨19, 0, 0, 0, 0, 0, 0, imm, 0⟩ := by
 have hz : size imm = 0 := by
  unfold size
  rw [if_pos ⟨i1, i2⟩]
 have e : enc ⟨19, 0, 0, 0, 0, 0, 0, imm, 0⟩ = [19, 0, Mm.by8 (imm % 18446744073709551616) 0] := by
  show (19 : Int) % 256 :: ([size imm % 256] ++ (low imm (cnt (size imm)) ++ [])) = _
  rw [hz]; rfl
 intro N g hN hg
 rw [e] at hN hg ⊢
 have hN : 3 ≤ N := hN
 have g1 : g 1 = 0 := hg 1 (show 1 < 3 from by decide)
 have g2 : g 2 = Mm.by8 (imm % 18446744073709551616) 0 := hg 2 (show 2 < 3 from by decide)
 show crdL N g [106, 105] ⟨19, 0, 0, 0, 0, 0, 0, 0, 0⟩ 0 1 = _
 rw [cstep_j (z' := 0) (by omega) (by dsimp only; decide) g1]
 rw [cstep_i hz (n := imm) (show 2 + 1 ≤ N from by omega) (by dsimp only; decide) (show num g 2 1 = imm from num_low (.inl ⟨rfl, by omega, by omega⟩) (one g2))]
 rfl
theorem csays_19_1 {imm : Int} (i1 : -2147483648 ≤ imm) (i2 : imm < 2147483648) (i3 : ¬ (-128 ≤ imm ∧ imm < 128)) : CSays ⟨19, 0, 0, 0, 0, 0, 0, imm, 0⟩ := by
 have hz : size imm = 1 := by
  unfold size
  rw [if_neg i3, if_pos ⟨i1, i2⟩]
 have e : enc ⟨19, 0, 0, 0, 0, 0, 0, imm, 0⟩ = [19, 1, Mm.by8 (imm % 18446744073709551616) 0, Mm.by8 (imm % 18446744073709551616) 1, Mm.by8 (imm % 18446744073709551616) 2, Mm.by8 (imm % 18446744073709551616) 3] := by
  show (19 : Int) % 256 :: ([size imm % 256] ++ (low imm (cnt (size imm)) ++ [])) = _
  rw [hz]; rfl
 intro N g hN hg
 rw [e] at hN hg ⊢
 have hN : 6 ≤ N := hN
 have g1 : g 1 = 1 := hg 1 (show 1 < 6 from by decide)
 have g2 : g 2 = Mm.by8 (imm % 18446744073709551616) 0 := hg 2 (show 2 < 6 from by decide)
 have g3 : g 3 = Mm.by8 (imm % 18446744073709551616) 1 := hg 3 (show 3 < 6 from by decide)
 have g4 : g 4 = Mm.by8 (imm % 18446744073709551616) 2 := hg 4 (show 4 < 6 from by decide)
 have g5 : g 5 = Mm.by8 (imm % 18446744073709551616) 3 := hg 5 (show 5 < 6 from by decide)
 show crdL N g [106, 105] ⟨19, 0, 0, 0, 0, 0, 0, 0, 0⟩ 0 1 = _
 rw [cstep_j (z' := 1) (by omega) (by dsimp only; decide) g1]
 rw [cstep_i hz (n := imm) (show 2 + 4 ≤ N from by omega) (by dsimp only; decide) (show num g 2 4 = imm from num_low (.inr (.inl ⟨rfl, by omega, by omega⟩)) (four g2 g3 g4 g5))]
 rfl
theorem csays_22_0 {sub imm : Int} (s1 : 11 ≤ sub) (s2 : sub ≤ 16) (i1 : -128 ≤ imm) (i2 : imm < 128) : CSays ⟨22, 0, 0, 0, 0, sub, 0, imm, 0⟩ := by
 have hz : size imm = 0 := by
  unfold size
  rw [if_pos ⟨i1, i2⟩]
 have e : enc ⟨22, 0, 0, 0, 0, sub, 0, imm, 0⟩ = [22, (16 * (sub - 11) + 0) % 256, Mm.by8 (imm % 18446744073709551616) 0] := by
  show (22 : Int) % 256 :: ([(16 * (sub - 11) + size imm) % 256] ++ (low imm (cnt (size imm)) ++ [])) = _
  rw [hz]; rfl
 intro N g hN hg
 rw [e] at hN hg ⊢
 have hN : 3 ≤ N := hN
 have g1 : g 1 = (16 * (sub - 11) + 0) % 256 := hg 1 (show 1 < 3 from by decide)
 have g2 : g 2 = Mm.by8 (imm % 18446744073709551616) 0 := hg 2 (show 2 < 3 from by decide)
 show crdL N g [74, 105] ⟨22, 0, 0, 0, 0, 0, 0, 0, 0⟩ 0 1 = _
 rw [cstep_J (sub := sub) (z' := 0) (by omega) (by decide) (by dsimp only; decide) g1 s1 s2]
 rw [cstep_i hz (n := imm) (show 2 + 1 ≤ N from by omega) (by dsimp only; decide) (show num g 2 1 = imm from num_low (.inl ⟨rfl, by omega, by omega⟩) (one g2))]
 rfl
theorem csays_22_1 {sub imm : Int} (s1 : 11 ≤ sub) (s2 : sub ≤ 16) (i1 : -2147483648 ≤ imm) (i2 : imm < 2147483648) (i3 : ¬ (-128 ≤ imm ∧ imm < 128)) : CSays ⟨22, 0, 0, 0, 0, sub, 0, imm, 0⟩ := by
 have hz : size imm = 1 := by
  unfold size
  rw [if_neg i3, if_pos ⟨i1, i2⟩]
 have e : enc ⟨22, 0, 0, 0, 0, sub, 0, imm, 0⟩ = [22, (16 * (sub - 11) + 1) % 256, Mm.by8 (imm % 18446744073709551616) 0, Mm.by8 (imm % 18446744073709551616) 1, Mm.by8 (imm % 18446744073709551616) 2, Mm.by8 (imm % 18446744073709551616) 3] := by
  show (22 : Int) % 256 :: ([(16 * (sub - 11) + size imm) % 256] ++ (low imm (cnt (size imm)) ++ [])) = _
  rw [hz]; rfl
 intro N g hN hg
 rw [e] at hN hg ⊢
 have hN : 6 ≤ N := hN
 have g1 : g 1 = (16 * (sub - 11) + 1) % 256 := hg 1 (show 1 < 6 from by decide)
 have g2 : g 2 = Mm.by8 (imm % 18446744073709551616) 0 := hg 2 (show 2 < 6 from by decide)
 have g3 : g 3 = Mm.by8 (imm % 18446744073709551616) 1 := hg 3 (show 3 < 6 from by decide)
 have g4 : g 4 = Mm.by8 (imm % 18446744073709551616) 2 := hg 4 (show 4 < 6 from by decide)
 have g5 : g 5 = Mm.by8 (imm % 18446744073709551616) 3 := hg 5 (show 5 < 6 from by decide)
 show crdL N g [74, 105] ⟨22, 0, 0, 0, 0, 0, 0, 0, 0⟩ 0 1 = _
 rw [cstep_J (sub := sub) (z' := 1) (by omega) (by decide) (by dsimp only; decide) g1 s1 s2]
 rw [cstep_i hz (n := imm) (show 2 + 4 ≤ N from by omega) (by dsimp only; decide) (show num g 2 4 = imm from num_low (.inr (.inl ⟨rfl, by omega, by omega⟩)) (four g2 g3 g4 g5))]
 rfl
theorem csays_23 {imm : Int} (i1 : -2147483648 ≤ imm) (i2 : imm < 2147483648) : CSays ⟨23, 0, 0, 0, 0, 0, 0, imm, 0⟩ := by
 have e : enc ⟨23, 0, 0, 0, 0, 0, 0, imm, 0⟩ = [23, Mm.by8 (imm % 18446744073709551616) 0, Mm.by8 (imm % 18446744073709551616) 1, Mm.by8 (imm % 18446744073709551616) 2, Mm.by8 (imm % 18446744073709551616) 3] := rfl
 intro N g hN hg
 rw [e] at hN hg ⊢
 have hN : 5 ≤ N := hN
 have g1 : g 1 = Mm.by8 (imm % 18446744073709551616) 0 := hg 1 (show 1 < 5 from by decide)
 have g2 : g 2 = Mm.by8 (imm % 18446744073709551616) 1 := hg 2 (show 2 < 5 from by decide)
 have g3 : g 3 = Mm.by8 (imm % 18446744073709551616) 2 := hg 3 (show 3 < 5 from by decide)
 have g4 : g 4 = Mm.by8 (imm % 18446744073709551616) 3 := hg 4 (show 4 < 5 from by decide)
 show crdL N g [52] ⟨23, 0, 0, 0, 0, 0, 0, 0, 0⟩ 0 1 = _
 rw [cstep_4 (n := imm) (by omega) (by dsimp only; decide) (num_low (.inr (.inl ⟨rfl, by omega, by omega⟩)) (four g1 g2 g3 g4))]
 rfl
theorem csays_24 : CSays ⟨24, 0, 0, 0, 0, 0, 0, 0, 0⟩ := by
 have e : enc ⟨24, 0, 0, 0, 0, 0, 0, 0, 0⟩ = [24] := rfl
 intro N g hN hg
 rw [e] at hN hg ⊢
 show crdL N g [] ⟨24, 0, 0, 0, 0, 0, 0, 0, 0⟩ 0 1 = _
 rfl
theorem csays_25 {imm : Int} (i1 : -2147483648 ≤ imm) (i2 : imm < 2147483648) : CSays ⟨25, 0, 0, 0, 0, 0, 0, imm, 0⟩ := by
 have e : enc ⟨25, 0, 0, 0, 0, 0, 0, imm, 0⟩ = [25, Mm.by8 (imm % 18446744073709551616) 0, Mm.by8 (imm % 18446744073709551616) 1, Mm.by8 (imm % 18446744073709551616) 2, Mm.by8 (imm % 18446744073709551616) 3] := rfl
 intro N g hN hg
 rw [e] at hN hg ⊢
 have hN : 5 ≤ N := hN
 have g1 : g 1 = Mm.by8 (imm % 18446744073709551616) 0 := hg 1 (show 1 < 5 from by decide)
 have g2 : g 2 = Mm.by8 (imm % 18446744073709551616) 1 := hg 2 (show 2 < 5 from by decide)
 have g3 : g 3 = Mm.by8 (imm % 18446744073709551616) 2 := hg 3 (show 3 < 5 from by decide)
 have g4 : g 4 = Mm.by8 (imm % 18446744073709551616) 3 := hg 4 (show 4 < 5 from by decide)
 show crdL N g [52] ⟨25, 0, 0, 0, 0, 0, 0, 0, 0⟩ 0 1 = _
 rw [cstep_4 (n := imm) (by omega) (by dsimp only; decide) (num_low (.inr (.inl ⟨rfl, by omega, by omega⟩)) (four g1 g2 g3 g4))]
 rfl
theorem csays_26 {a b : Int} (a1 : 0 ≤ a) (a2 : a < 16) (b1 : 0 ≤ b) (b2 : b < 16) : CSays ⟨26, a, b, 0, 0, 0, 0, 0, 0⟩ := by
 have e : enc ⟨26, a, b, 0, 0, 0, 0, 0, 0⟩ = [26, (16 * a + b) % 256] := rfl
 intro N g hN hg
 rw [e] at hN hg ⊢
 have hN : 2 ≤ N := hN
 have g1 : g 1 = (16 * a + b) % 256 := hg 1 (show 1 < 2 from by decide)
 show crdL N g [97] ⟨26, 0, 0, 0, 0, 0, 0, 0, 0⟩ 0 1 = _
 rw [cstep_a (a := a) (b := b) (by omega) (by dsimp only; decide) g1 a1 a2 b1 b2]
 rfl
theorem csays_27 {a : Int} (a1 : 0 ≤ a) (a2 : a < 16) : CSays ⟨27, a, 0, 0, 0, 0, 0, 0, 0⟩ := by
 have e : enc ⟨27, a, 0, 0, 0, 0, 0, 0, 0⟩ = [27, (16 * a + 0) % 256] := rfl
 intro N g hN hg
 rw [e] at hN hg ⊢
 have hN : 2 ≤ N := hN
 have g1 : g 1 = (16 * a + 0) % 256 := hg 1 (show 1 < 2 from by decide)
 show crdL N g [97] ⟨27, 0, 0, 0, 0, 0, 0, 0, 0⟩ 0 1 = _
 rw [cstep_a (a := a) (b := 0) (by omega) (by dsimp only; decide) g1 a1 a2 (by decide) (by decide)]
 rfl
theorem csays_28 {a : Int} (a1 : 0 ≤ a) (a2 : a < 16) : CSays ⟨28, a, 0, 0, 0, 0, 0, 0, 0⟩ := by
 have e : enc ⟨28, a, 0, 0, 0, 0, 0, 0, 0⟩ = [28, (16 * a + 0) % 256] := rfl
 intro N g hN hg
 rw [e] at hN hg ⊢
 have hN : 2 ≤ N := hN
 have g1 : g 1 = (16 * a + 0) % 256 := hg 1 (show 1 < 2 from by decide)
 show crdL N g [97] ⟨28, 0, 0, 0, 0, 0, 0, 0, 0⟩ 0 1 = _
 rw [cstep_a (a := a) (b := 0) (by omega) (by dsimp only; decide) g1 a1 a2 (by decide) (by decide)]
 rfl
theorem csays_29 {imm : Int} (i1 : -2147483648 ≤ imm) (i2 : imm < 2147483648) : CSays ⟨29, 0, 0, 0, 0, 0, 0, imm, 0⟩ := by
 have e : enc ⟨29, 0, 0, 0, 0, 0, 0, imm, 0⟩ = [29, Mm.by8 (imm % 18446744073709551616) 0, Mm.by8 (imm % 18446744073709551616) 1, Mm.by8 (imm % 18446744073709551616) 2, Mm.by8 (imm % 18446744073709551616) 3] := rfl
 intro N g hN hg
 rw [e] at hN hg ⊢
 have hN : 5 ≤ N := hN
 have g1 : g 1 = Mm.by8 (imm % 18446744073709551616) 0 := hg 1 (show 1 < 5 from by decide)
 have g2 : g 2 = Mm.by8 (imm % 18446744073709551616) 1 := hg 2 (show 2 < 5 from by decide)
 have g3 : g 3 = Mm.by8 (imm % 18446744073709551616) 2 := hg 3 (show 3 < 5 from by decide)
 have g4 : g 4 = Mm.by8 (imm % 18446744073709551616) 3 := hg 4 (show 4 < 5 from by decide)
 show crdL N g [52] ⟨29, 0, 0, 0, 0, 0, 0, 0, 0⟩ 0 1 = _
 rw [cstep_4 (n := imm) (by omega) (by dsimp only; decide) (num_low (.inr (.inl ⟨rfl, by omega, by omega⟩)) (four g1 g2 g3 g4))]
 rfl
theorem csays {v : InV} (h : mayB v = true) (i1 : -9223372036854775808 ≤ v.imm) (i2 : v.imm ≤ 9223372036854775807) : CSays v := by
 have r := rng h
 have hc := codes r.rw
 obtain ⟨op, a, b, c, k, sub, sc, imm, lb⟩ := v
 obtain ⟨_, hl, a1, a2, b1, b2, c1, c2, u0, u1, u2, u3, u4, u5, sm, kd⟩ := r
 dsimp only at *
 subst hl
 rcases hc with rfl | rfl | rfl | rfl | rfl | rfl | rfl | rfl | rfl | rfl | rfl | rfl | rfl | rfl | rfl | rfl | rfl | rfl | rfl | rfl | rfl | rfl | rfl | rfl | rfl
 ·obtain rfl : b = 0 := u1.resolve_left (by decide)
  obtain rfl : k = 0 := u3.resolve_left (by decide)
  obtain rfl : sub = 0 := u4.resolve_left (by decide)
  obtain ⟨rfl, rfl⟩ : c = 0 ∧ sc = 0 := u2.resolve_left (by decide)
  by_cases z0 : -128 ≤ imm ∧ imm < 128
  ·exact csays_1_0 a1 a2 z0.1 z0.2
  ·by_cases z1 : -2147483648 ≤ imm ∧ imm < 2147483648
   ·exact csays_1_1 a1 a2 z1.1 z1.2 z0
   ·exact csays_1_2 a1 a2 i1 i2 z1
 ·obtain rfl : k = 0 := u3.resolve_left (by decide)
  obtain rfl : sub = 0 := u4.resolve_left (by decide)
  obtain rfl : imm = 0 := u5.resolve_left (by decide)
  obtain ⟨rfl, rfl⟩ : c = 0 ∧ sc = 0 := u2.resolve_left (by decide)
  exact csays_3 a1 a2 b1 b2
 ·obtain rfl : imm = 0 := u5.resolve_left (by decide)
  obtain ⟨rfl, rfl⟩ : c = 0 ∧ sc = 0 := u2.resolve_left (by decide)
  have q := bin_rng (show binB _ = true from kd)
  dsimp only at q
  exact csays_4 a1 a2 b1 b2 (by omega) (by omega) (by omega) (by omega)
 ·obtain rfl : b = 0 := u1.resolve_left (by decide)
  obtain ⟨rfl, rfl⟩ : c = 0 ∧ sc = 0 := u2.resolve_left (by decide)
  have q := imm_rng (show immB sub k imm = true from kd)
  have sm := sm.resolve_left (by decide)
  by_cases z0 : -128 ≤ imm ∧ imm < 128
  ·exact csays_5_0 a1 a2 (by omega) (by omega) (by omega) (by omega) z0.1 z0.2
  ·exact csays_5_1 a1 a2 (by omega) (by omega) (by omega) (by omega) sm.1 sm.2 z0
 ·obtain ⟨rfl, rfl⟩ : c = 0 ∧ sc = 0 := u2.resolve_left (by decide)
  have q := binM_rng (show (Wd.hasBinB sub k && _ && _) = true from kd)
  have sm := sm.resolve_left (by decide)
  exact csays_6 a1 a2 b1 b2 (by omega) (by omega) (by omega) (by omega) sm.1 sm.2
 ·obtain rfl : b = 0 := u1.resolve_left (by decide)
  obtain rfl : imm = 0 := u5.resolve_left (by decide)
  obtain ⟨rfl, rfl⟩ : c = 0 ∧ sc = 0 := u2.resolve_left (by decide)
  have q := Rc.un_rng (show Wd.hasUnB sub k = true from kd)
  exact csays_7 a1 a2 (by omega) (by omega) (by omega) (by omega)
 ·obtain rfl : imm = 0 := u5.resolve_left (by decide)
  obtain ⟨rfl, rfl⟩ : c = 0 ∧ sc = 0 := u2.resolve_left (by decide)
  have q := Rc.conv_rng (show (Wd.numB sub && Wd.numB k) = true from kd)
  exact csays_8 a1 a2 b1 b2 (by omega) (by omega) (by omega) (by omega)
 ·obtain rfl : k = 0 := u3.resolve_left (by decide)
  obtain rfl : sub = 0 := u4.resolve_left (by decide)
  have q := scl_rng (show sclB _ = true from kd)
  have sm := sm.resolve_left (by decide)
  exact csays_10 a1 a2 b1 b2 c1 c2 q sm.1 sm.2
 ·obtain rfl : sub = 0 := u4.resolve_left (by decide)
  obtain ⟨rfl, rfl⟩ : c = 0 ∧ sc = 0 := u2.resolve_left (by decide)
  have q := Rc.word_rng (show Wd.wordB k = true from kd)
  have sm := sm.resolve_left (by decide)
  exact csays_11 a1 a2 b1 b2 (by omega) (by omega) sm.1 sm.2
 ·obtain rfl : sub = 0 := u4.resolve_left (by decide)
  have q2 := (Bool.and_eq_true _ _).mp (show (sclB _ && Wd.wordB k) = true from kd)
  have q := scl_rng q2.1
  have q3 := Rc.word_rng q2.2
  have sm := sm.resolve_left (by decide)
  exact csays_12 a1 a2 b1 b2 c1 c2 q (by omega) (by omega) sm.1 sm.2
 ·obtain rfl : sub = 0 := u4.resolve_left (by decide)
  obtain ⟨rfl, rfl⟩ : c = 0 ∧ sc = 0 := u2.resolve_left (by decide)
  have q := Rc.word_rng (show Wd.wordB k = true from kd)
  have sm := sm.resolve_left (by decide)
  exact csays_13 a1 a2 b1 b2 (by omega) (by omega) sm.1 sm.2
 ·obtain rfl : sub = 0 := u4.resolve_left (by decide)
  have q2 := (Bool.and_eq_true _ _).mp (show (sclB _ && Wd.wordB k) = true from kd)
  have q := scl_rng q2.1
  have q3 := Rc.word_rng q2.2
  have sm := sm.resolve_left (by decide)
  exact csays_14 a1 a2 b1 b2 c1 c2 q (by omega) (by omega) sm.1 sm.2
 ·obtain rfl : k = 0 := u3.resolve_left (by decide)
  obtain rfl : imm = 0 := u5.resolve_left (by decide)
  obtain ⟨rfl, rfl⟩ : c = 0 ∧ sc = 0 := u2.resolve_left (by decide)
  have q := cmp_rng (show Wd.cmpB sub = true from kd)
  exact csays_15 a1 a2 b1 b2 (by omega) (by omega)
 ·obtain rfl : sub = 0 := u4.resolve_left (by decide)
  obtain rfl : imm = 0 := u5.resolve_left (by decide)
  obtain ⟨rfl, rfl⟩ : c = 0 ∧ sc = 0 := u2.resolve_left (by decide)
  have q := Rc.word_rng (show Wd.wordB k = true from kd)
  exact csays_16 a1 a2 b1 b2 (by omega) (by omega)
 ·obtain rfl : b = 0 := u1.resolve_left (by decide)
  obtain rfl : sub = 0 := u4.resolve_left (by decide)
  obtain ⟨rfl, rfl⟩ : c = 0 ∧ sc = 0 := u2.resolve_left (by decide)
  have q := imm_rng (show immB 2 k imm = true from kd)
  have sm := sm.resolve_left (by decide)
  by_cases z0 : -128 ≤ imm ∧ imm < 128
  ·exact csays_17_0 a1 a2 (by omega) (by omega) z0.1 z0.2
  ·exact csays_17_1 a1 a2 (by omega) (by omega) sm.1 sm.2 z0
 ·obtain rfl : b = 0 := u1.resolve_left (by decide)
  obtain rfl : k = 0 := u3.resolve_left (by decide)
  obtain rfl : imm = 0 := u5.resolve_left (by decide)
  obtain ⟨rfl, rfl⟩ : c = 0 ∧ sc = 0 := u2.resolve_left (by decide)
  have q := cmp_rng (show Wd.cmpB sub = true from kd)
  exact csays_18 a1 a2 (by omega) (by omega)
 ·obtain rfl : a = 0 := u0.resolve_left (by decide)
  obtain rfl : b = 0 := u1.resolve_left (by decide)
  obtain rfl : k = 0 := u3.resolve_left (by decide)
  obtain rfl : sub = 0 := u4.resolve_left (by decide)
  obtain ⟨rfl, rfl⟩ : c = 0 ∧ sc = 0 := u2.resolve_left (by decide)
  have sm := sm.resolve_left (by decide)
  by_cases z0 : -128 ≤ imm ∧ imm < 128
  ·exact csays_19_0 z0.1 z0.2
  ·exact csays_19_1 sm.1 sm.2 z0
 ·obtain rfl : a = 0 := u0.resolve_left (by decide)
  obtain rfl : b = 0 := u1.resolve_left (by decide)
  obtain rfl : k = 0 := u3.resolve_left (by decide)
  obtain ⟨rfl, rfl⟩ : c = 0 ∧ sc = 0 := u2.resolve_left (by decide)
  have q := cmp_rng (show Wd.cmpB sub = true from kd)
  have sm := sm.resolve_left (by decide)
  by_cases z0 : -128 ≤ imm ∧ imm < 128
  ·exact csays_22_0 (by omega) (by omega) z0.1 z0.2
  ·exact csays_22_1 (by omega) (by omega) sm.1 sm.2 z0
 ·obtain rfl : a = 0 := u0.resolve_left (by decide)
  obtain rfl : b = 0 := u1.resolve_left (by decide)
  obtain rfl : k = 0 := u3.resolve_left (by decide)
  obtain rfl : sub = 0 := u4.resolve_left (by decide)
  obtain ⟨rfl, rfl⟩ : c = 0 ∧ sc = 0 := u2.resolve_left (by decide)
  have sm := sm.resolve_left (by decide)
  exact csays_23 sm.1 sm.2
 ·obtain rfl : a = 0 := u0.resolve_left (by decide)
  obtain rfl : b = 0 := u1.resolve_left (by decide)
  obtain rfl : k = 0 := u3.resolve_left (by decide)
  obtain rfl : sub = 0 := u4.resolve_left (by decide)
  obtain rfl : imm = 0 := u5.resolve_left (by decide)
  obtain ⟨rfl, rfl⟩ : c = 0 ∧ sc = 0 := u2.resolve_left (by decide)
  exact csays_24
 ·obtain rfl : a = 0 := u0.resolve_left (by decide)
  obtain rfl : b = 0 := u1.resolve_left (by decide)
  obtain rfl : k = 0 := u3.resolve_left (by decide)
  obtain rfl : sub = 0 := u4.resolve_left (by decide)
  obtain ⟨rfl, rfl⟩ : c = 0 ∧ sc = 0 := u2.resolve_left (by decide)
  have sm := sm.resolve_left (by decide)
  exact csays_25 sm.1 sm.2
 ·obtain rfl : k = 0 := u3.resolve_left (by decide)
  obtain rfl : sub = 0 := u4.resolve_left (by decide)
  obtain rfl : imm = 0 := u5.resolve_left (by decide)
  obtain ⟨rfl, rfl⟩ : c = 0 ∧ sc = 0 := u2.resolve_left (by decide)
  exact csays_26 a1 a2 b1 b2
 ·obtain rfl : b = 0 := u1.resolve_left (by decide)
  obtain rfl : k = 0 := u3.resolve_left (by decide)
  obtain rfl : sub = 0 := u4.resolve_left (by decide)
  obtain rfl : imm = 0 := u5.resolve_left (by decide)
  obtain ⟨rfl, rfl⟩ : c = 0 ∧ sc = 0 := u2.resolve_left (by decide)
  exact csays_27 a1 a2
 ·obtain rfl : b = 0 := u1.resolve_left (by decide)
  obtain rfl : k = 0 := u3.resolve_left (by decide)
  obtain rfl : sub = 0 := u4.resolve_left (by decide)
  obtain rfl : imm = 0 := u5.resolve_left (by decide)
  obtain ⟨rfl, rfl⟩ : c = 0 ∧ sc = 0 := u2.resolve_left (by decide)
  exact csays_28 a1 a2
 ·obtain rfl : a = 0 := u0.resolve_left (by decide)
  obtain rfl : b = 0 := u1.resolve_left (by decide)
  obtain rfl : k = 0 := u3.resolve_left (by decide)
  obtain rfl : sub = 0 := u4.resolve_left (by decide)
  obtain ⟨rfl, rfl⟩ : c = 0 ∧ sc = 0 := u2.resolve_left (by decide)
  have sm := sm.resolve_left (by decide)
  exact csays_29 sm.1 sm.2
end Cc
end Go.Proofs.YtkiockffejlnhaaGreatDoor
