/- Contracts and plain facts that the walks share. -/
import Derived.Test.YtkiockffejlnhaaGreatDoorG6
import Derived.Test.YtkiockffejlnhaaGreatDoorG4
import Derived.Test.YtkiockffejlnhaaGreatDoorG2
namespace Go.Proofs.YtkiockffejlnhaaGreatDoor
set_option linter.unusedVariables false
namespace Cc
def Bk (N : Nat) (g : Nat → Int) (v : InV) (T : Nat) : Prop :=
 mayB v = true ∧ (enc v).length = T ∧ (∀ i, i < (enc v).length → g i = (enc v).getD i 0) ∧ T ≤ N ∧ -9223372036854775808 ≤ v.imm ∧ v.imm ≤ 9223372036854775807
def Pre (g : Nat → Int) : Nat → List Int → Prop
 | _, [] => True
 | p, x :: l => g p = x ∧ Pre g (p + 1) l
theorem pre_at {g : Nat → Int} : ∀ (l : List Int) (p : Nat), Pre g p l → ∀ i, i < l.length → g (p + i) = l.getD i 0
 | [], p, _, i, hi => by simp at hi
 | x :: l, p, h, i, hi => by
  match i with
  | 0 => exact h.1
  | i + 1 =>
   have := pre_at l (p + 1) h.2 i (by simpa using hi)
   rw [show p + (i + 1) = p + 1 + i by omega, this]; rfl
theorem pre_all {g : Nat → Int} {l : List Int} (h : Pre g 0 l) : ∀ i, i < l.length → g i = l.getD i 0 := fun i hi => by have := pre_at l 0 h i hi; rwa [Nat.zero_add] at this
theorem pre_of {g : Nat → Int} : ∀ (l : List Int) (p : Nat), (∀ i, i < l.length → g (p + i) = l.getD i 0) → Pre g p l
 | [], p, _ => trivial
 | x :: l, p, h => ⟨h 0 (by simp), pre_of l (p + 1) fun i hi => by have := h (i + 1) (by simpa using hi); rw [show p + 1 + i = p + (i + 1) by omega, this]; rfl⟩
theorem pre_app {g : Nat → Int} : ∀ {l m : List Int} {p : Nat}, Pre g p l → Pre g (p + l.length) m → Pre g p (l ++ m)
 | [], m, p, _, h => h
 | x :: l, m, p, h, k => ⟨h.1, pre_app h.2 (by rw [show p + 1 + l.length = p + (x :: l).length by simp; omega]; exact k)⟩
theorem low_length (n : Int) (c : Nat) : (low n c).length = c := by unfold low; simp
theorem pre_low {g : Nat → Int} (hg : Mm.Fit g) (p : Nat) {c : Nat} (hc : c = 1 ∨ c = 4 ∨ c = 8) : Pre g p (low (num g p c) c) := by
 refine pre_of _ _ fun i hi => ?_
 rw [low_length] at hi
 rw [← low_num hg hc hi]
 unfold low
 simp [List.getD_eq_getElem?_getD, hi]
theorem num4 (g : Nat → Int) (p : Nat) : -2147483648 ≤ num g p 4 ∧ num g p 4 < 2147483648 := by
 show -2147483648 ≤ Rc.s32 (Mm.ld g p 4) ∧ Rc.s32 (Mm.ld g p 4) < 2147483648
 unfold Rc.s32; omega
theorem size_small {n : Int} (h : size n ≤ 1) : -2147483648 ≤ n ∧ n < 2147483648 := by
 unfold size at h
 (repeat' split at h) <;> omega
theorem kand {x : Bool} {b : Int} (h : (x && b == 0) = true) : x = true ∧ b = 0 := by simpa using h
theorem kzero {b : Int} (h : (b == 0) = true) : b = 0 := by simpa using h
theorem kd4 {v : InV} (h : (Wd.hasBinB v.sub v.k && tiesB v) = true) : binB v = true := by
 unfold binB
 unfold tiesB divB Wd.shB at h
 unfold Wd.shB
 simp only [Bool.and_eq_true] at h
 rw [Bool.and_eq_true]
 refine ⟨h.1, ?_⟩
 have h2 := h.2
 by_cases e : v.sub = 9 ∨ v.sub = 10
 ·have e1 : (v.sub == 9 || v.sub == 10) = true := by simpa using e
  have e2 : (Wd.intB v.k && (v.sub == 4 || v.sub == 5)) = false := by
   rw [Bool.and_eq_false_iff]; right; simp; omega
  rw [e1, e2] at h2
  rw [e1]
  exact h2
 ·have e1 : (v.sub == 9 || v.sub == 10) = false := by simp; omega
  rw [e1] at h2
  rw [e1]
  cases e2 : (Wd.intB v.k && (v.sub == 4 || v.sub == 5))
  ·rfl
  ·rw [e2] at h2; exact h2
theorem kd5 {s k n : Int} (h : (Wd.hasBinB s k && !divB s k && fnB s k n) = true) (hs : -2147483648 ≤ n ∧ n < 2147483648) : immB s k n = true := by
 unfold immB Rc.smallB
 unfold divB fnB at h
 simp only [Bool.and_eq_true, Bool.not_eq_true', Bool.and_eq_false_iff, Bool.or_eq_false_iff, beq_eq_false_iff_ne, decide_eq_true_eq, bne_iff_ne] at h ⊢
 obtain ⟨⟨h1, h2⟩, h3, h4⟩ := h
 have h5 : s ≠ 4 ∧ s ≠ 5 := by
  rcases h2 with h2 | h2
  ·rw [h3] at h2; cases h2
  ·exact h2
 exact ⟨⟨⟨⟨⟨h3, h1⟩, h5.1⟩, h5.2⟩, hs⟩, h4⟩
theorem kd6 {s k : Int} (h : (Wd.hasBinB s k && !divB s k && !Wd.shB s) = true) : (Wd.hasBinB s k && !Wd.shB s && (!Wd.intB k || (s != 4 && s != 5))) = true := by
 unfold divB at h
 revert h
 generalize Wd.hasBinB s k = x
 generalize Wd.shB s = y
 generalize Wd.intB k = z
 generalize e4 : (s == 4) = a
 generalize e5 : (s == 5) = b
 rw [bne, bne, e4, e5]
 cases x <;> cases y <;> cases z <;> cases a <;> cases b <;> decide
theorem kd17 {k n : Int} (h : fnB 2 k n = true) (hs : -2147483648 ≤ n ∧ n < 2147483648) : immB 2 k n = true := by
 refine kd5 ?_ hs
 have hk : Wd.intB k = true := by unfold fnB at h; rw [Bool.and_eq_true] at h; exact h.1
 have h1 : Wd.hasBinB 2 k = true := by unfold Wd.hasBinB; rw [hk]; rfl
 have h2 : divB 2 k = false := by unfold divB; rw [hk]; rfl
 rw [h, h1, h2]; rfl
theorem sclC_8 {n : Int} (h1 : 0 ≤ n) (h2 : n < 16) (h : sclC n ≤ 8) : (sclC n = 1 ∧ lg (sclC n) = n) ∨ (sclC n = 2 ∧ lg (sclC n) = n) ∨ (sclC n = 4 ∧ lg (sclC n) = n) ∨ (sclC n = 8 ∧ lg (sclC n) = n) ∨ (sclC n = 0 ∧ lg (sclC n) = n) := by
 obtain e | e | e | e | e | e | e | e | e | e | e | e | e | e | e | e : n = 0 ∨ n = 1 ∨ n = 2 ∨ n = 3 ∨ n = 4 ∨ n = 5 ∨ n = 6 ∨ n = 7 ∨ n = 8 ∨ n = 9 ∨ n = 10 ∨ n = 11 ∨ n = 12 ∨ n = 13 ∨ n = 14 ∨ n = 15 := by omega
 all_goals (subst e; revert h; decide)
theorem kd10 {a b c n imm : Int} (h1 : 0 ≤ n) (h2 : n < 16) (h : (decide (sclC n ≤ 8) && (decide (0 < sclC n) || c == 0)) = true) : sclB ⟨10, a, b, c, 0, 0, sclC n, imm, 0⟩ = true ∧ lg (sclC n) = n := by
 simp only [Bool.and_eq_true, Bool.or_eq_true, decide_eq_true_eq, beq_iff_eq] at h
 have := sclC_8 h1 h2 h.1
 refine ⟨?_, by omega⟩
 unfold sclB
 simp only [Bool.or_eq_true, Bool.and_eq_true, beq_iff_eq, and_true]
 omega
theorem kdx {v : InV} {n : Int} (hv : v.scale = sclC n) (h1 : 0 ≤ n) (h2 : n < 16) (h : (Wd.wordB v.k && decide (0 < sclC n) && decide (sclC n ≤ 8)) = true) : (sclB v && Wd.wordB v.k) = true ∧ lg (sclC n) = n := by
 simp only [Bool.and_eq_true, decide_eq_true_eq] at h
 have := sclC_8 h1 h2 h.2
 refine ⟨?_, by omega⟩
 unfold sclB
 rw [h.1.1, hv]
 simp only [Bool.or_eq_true, Bool.and_eq_true, beq_iff_eq, and_true]
 omega
theorem kd12 {a b c k n imm : Int} (h1 : 0 ≤ n) (h2 : n < 16) (h : (Wd.wordB k && decide (0 < sclC n) && decide (sclC n ≤ 8)) = true) : (sclB ⟨12, a, b, c, k, 0, sclC n, imm, 0⟩ && Wd.wordB k) = true ∧ lg (sclC n) = n := kdx (v := ⟨12, a, b, c, k, 0, sclC n, imm, 0⟩) rfl h1 h2 h
theorem kd14 {a b c k n imm : Int} (h1 : 0 ≤ n) (h2 : n < 16) (h : (Wd.wordB k && decide (0 < sclC n) && decide (sclC n ≤ 8)) = true) : (sclB ⟨14, a, b, c, k, 0, sclC n, imm, 0⟩ && Wd.wordB k) = true ∧ lg (sclC n) = n := kdx (v := ⟨14, a, b, c, k, 0, sclC n, imm, 0⟩) rfl h1 h2 h
theorem bk_1 {N : Nat} {g : Nat → Int} {v : InV} {T : Nat} (hg : Mm.Fit g) (h0 : g 0 = 1) (hN : 1 ≤ N) (h : crdL N g [110, 105] ⟨1, 0, 0, 0, 0, 0, 0, 0, 0⟩ 0 1 = (v, (T : Int))) (hT : 0 < T) (hf : fitsB v = true) : Bk N g v T := by
 obtain ⟨n1, b1, c1, h⟩ := crd_inv h hT
 obtain ⟨n2, b2, c2, h⟩ := crd_inv h hT
 have hv : v = ⟨1, g 1 / 16, 0, 0, 0, 0, 0, num g 2 (cnt (g 1 % 16)), 0⟩ := (crd_nil h).1
 have hE : T = 2 + cnt (g 1 % 16) := (crd_nil h).2
 have f1 := hg 1
 have hs : size (num g 2 (cnt (g 1 % 16))) = g 1 % 16 := by
  by_cases e : size (num g 2 (cnt (g 1 % 16))) = g 1 % 16
  ·exact e
  ·exact absurd ⟨rfl, e⟩ c2
 have hz : ¬ (2 < g 1 % 16 ∨ (g 1 % 16 = 2 ∧ (1 : Int) ≠ 1)) := b1
 have hN2 : 2 + cnt (g 1 % 16) ≤ N := n2
 have hp := pre_low hg 2 (cnt_c (z := g 1 % 16))
 have hr := num_rng hg 2 (cnt (g 1 % 16))
 generalize hI : num g 2 (cnt (g 1 % 16)) = I at *
 subst hv hE
 have e : enc ⟨1, g 1 / 16, 0, 0, 0, 0, 0, I, 0⟩ = 1 :: (16 * (g 1 / 16) + size I) % 256 :: (low I (cnt (size I)) ++ []) := rfl
 rw [hs] at e
 have hsz : g 1 % 16 ≤ 1 → -2147483648 ≤ I ∧ I < 2147483648 := fun q => size_small (by rw [hs]; exact q)
 refine ⟨of_rng ⟨by dsimp only; decide, rfl, by dsimp only; omega, by dsimp only; omega, by dsimp only; omega, by dsimp only; omega, by dsimp only; omega, by dsimp only; omega, .inl (by dsimp only; decide), .inr rfl, .inr ⟨rfl, rfl⟩, .inr rfl, .inr rfl, .inl (by dsimp only; decide), .inl rfl, rfl⟩, ?_, ?_, by omega, hr.1, hr.2⟩
 ·rw [e]; simp [low_length]; try omega
 ·refine pre_all ?_
  rw [e]
  exact ⟨h0, by show g 1 = _; omega, pre_app hp trivial⟩
theorem bk_3 {N : Nat} {g : Nat → Int} {v : InV} {T : Nat} (hg : Mm.Fit g) (h0 : g 0 = 3) (hN : 1 ≤ N) (h : crdL N g [97] ⟨3, 0, 0, 0, 0, 0, 0, 0, 0⟩ 0 1 = (v, (T : Int))) (hT : 0 < T) (hf : fitsB v = true) : Bk N g v T := by
 obtain ⟨n1, b1, c1, h⟩ := crd_inv h hT
 have hv : v = ⟨3, g 1 / 16, g 1 % 16, 0, 0, 0, 0, 0, 0⟩ := (crd_nil h).1
 have hE : T = 2 := (crd_nil h).2
 have f1 := hg 1
 have hN2 : 2 ≤ N := n1
 subst hv hE
 have e : enc ⟨3, g 1 / 16, g 1 % 16, 0, 0, 0, 0, 0, 0⟩ = 3 :: (16 * (g 1 / 16) + g 1 % 16) % 256 :: [] := rfl
 refine ⟨of_rng ⟨by dsimp only; decide, rfl, by dsimp only; omega, by dsimp only; omega, by dsimp only; omega, by dsimp only; omega, by dsimp only; omega, by dsimp only; omega, .inl (by dsimp only; decide), .inl (by dsimp only; decide), .inr ⟨rfl, rfl⟩, .inr rfl, .inr rfl, .inr rfl, .inr (by dsimp only; decide), rfl⟩, ?_, ?_, by omega, by dsimp only; decide, by dsimp only; decide⟩
 ·rw [e]; rfl
 ·refine pre_all ?_
  rw [e]
  exact ⟨h0, by show g 1 = _; omega, trivial⟩
theorem bk_4 {N : Nat} {g : Nat → Int} {v : InV} {T : Nat} (hg : Mm.Fit g) (h0 : g 0 = 4) (hN : 1 ≤ N) (h : crdL N g [97, 75, 83] ⟨4, 0, 0, 0, 0, 0, 0, 0, 0⟩ 0 1 = (v, (T : Int))) (hT : 0 < T) (hf : fitsB v = true) : Bk N g v T := by
 obtain ⟨n1, b1, c1, h⟩ := crd_inv h hT
 obtain ⟨n2, b2, c2, h⟩ := crd_inv h hT
 obtain ⟨n3, b3, c3, h⟩ := crd_inv h hT
 have hv : v = ⟨4, g 1 / 16, g 1 % 16, 0, g 2, g 3, 0, 0, 0⟩ := (crd_nil h).1
 have hE : T = 4 := (crd_nil h).2
 have f1 := hg 1
 have f2 := hg 2
 have f3 := hg 3
 have hN2 : 4 ≤ N := n3
 subst hv hE
 have e : enc ⟨4, g 1 / 16, g 1 % 16, 0, g 2, g 3, 0, 0, 0⟩ = 4 :: (16 * (g 1 / 16) + g 1 % 16) % 256 :: g 2 % 256 :: g 3 % 256 :: [] := rfl
 refine ⟨of_rng ⟨by dsimp only; decide, rfl, by dsimp only; omega, by dsimp only; omega, by dsimp only; omega, by dsimp only; omega, by dsimp only; omega, by dsimp only; omega, .inl (by dsimp only; decide), .inl (by dsimp only; decide), .inr ⟨rfl, rfl⟩, .inl (by dsimp only; decide), .inl (by dsimp only; decide), .inr rfl, .inr (by dsimp only; decide), kd4 hf⟩, ?_, ?_, by omega, by dsimp only; decide, by dsimp only; decide⟩
 ·rw [e]; rfl
 ·refine pre_all ?_
  rw [e]
  exact ⟨h0, by show g 1 = _; omega, by show g 2 = _; omega, by show g 3 = _; omega, trivial⟩
theorem bk_5 {N : Nat} {g : Nat → Int} {v : InV} {T : Nat} (hg : Mm.Fit g) (h0 : g 0 = 5) (hN : 1 ≤ N) (h : crdL N g [110, 75, 83, 105] ⟨5, 0, 0, 0, 0, 0, 0, 0, 0⟩ 0 1 = (v, (T : Int))) (hT : 0 < T) (hf : fitsB v = true) : Bk N g v T := by
 obtain ⟨n1, b1, c1, h⟩ := crd_inv h hT
 obtain ⟨n2, b2, c2, h⟩ := crd_inv h hT
 obtain ⟨n3, b3, c3, h⟩ := crd_inv h hT
 obtain ⟨n4, b4, c4, h⟩ := crd_inv h hT
 have hv : v = ⟨5, g 1 / 16, 0, 0, g 2, g 3, 0, num g 4 (cnt (g 1 % 16)), 0⟩ := (crd_nil h).1
 have hE : T = 4 + cnt (g 1 % 16) := (crd_nil h).2
 have f1 := hg 1
 have f2 := hg 2
 have f3 := hg 3
 have hs : size (num g 4 (cnt (g 1 % 16))) = g 1 % 16 := by
  by_cases e : size (num g 4 (cnt (g 1 % 16))) = g 1 % 16
  ·exact e
  ·exact absurd ⟨rfl, e⟩ c4
 have hz : ¬ (2 < g 1 % 16 ∨ (g 1 % 16 = 2 ∧ (5 : Int) ≠ 1)) := b1
 have hN2 : 4 + cnt (g 1 % 16) ≤ N := n4
 have hp := pre_low hg 4 (cnt_c (z := g 1 % 16))
 have hr := num_rng hg 4 (cnt (g 1 % 16))
 generalize hI : num g 4 (cnt (g 1 % 16)) = I at *
 subst hv hE
 have e : enc ⟨5, g 1 / 16, 0, 0, g 2, g 3, 0, I, 0⟩ = 5 :: (16 * (g 1 / 16) + size I) % 256 :: g 2 % 256 :: g 3 % 256 :: (low I (cnt (size I)) ++ []) := rfl
 rw [hs] at e
 have hsz : g 1 % 16 ≤ 1 → -2147483648 ≤ I ∧ I < 2147483648 := fun q => size_small (by rw [hs]; exact q)
 refine ⟨of_rng ⟨by dsimp only; decide, rfl, by dsimp only; omega, by dsimp only; omega, by dsimp only; omega, by dsimp only; omega, by dsimp only; omega, by dsimp only; omega, .inl (by dsimp only; decide), .inr rfl, .inr ⟨rfl, rfl⟩, .inl (by dsimp only; decide), .inl (by dsimp only; decide), .inl (by dsimp only; decide), .inr (hsz (by omega)), kd5 hf (hsz (by omega))⟩, ?_, ?_, by omega, hr.1, hr.2⟩
 ·rw [e]; simp [low_length]; try omega
 ·refine pre_all ?_
  rw [e]
  exact ⟨h0, by show g 1 = _; omega, by show g 2 = _; omega, by show g 3 = _; omega, pre_app hp trivial⟩
theorem bk_6 {N : Nat} {g : Nat → Int} {v : InV} {T : Nat} (hg : Mm.Fit g) (h0 : g 0 = 6) (hN : 1 ≤ N) (h : crdL N g [97, 75, 83, 52] ⟨6, 0, 0, 0, 0, 0, 0, 0, 0⟩ 0 1 = (v, (T : Int))) (hT : 0 < T) (hf : fitsB v = true) : Bk N g v T := by
 obtain ⟨n1, b1, c1, h⟩ := crd_inv h hT
 obtain ⟨n2, b2, c2, h⟩ := crd_inv h hT
 obtain ⟨n3, b3, c3, h⟩ := crd_inv h hT
 obtain ⟨n4, b4, c4, h⟩ := crd_inv h hT
 have hv : v = ⟨6, g 1 / 16, g 1 % 16, 0, g 2, g 3, 0, num g 4 4, 0⟩ := (crd_nil h).1
 have hE : T = 4 + 4 := (crd_nil h).2
 have f1 := hg 1
 have f2 := hg 2
 have f3 := hg 3
 have hN2 : 4 + 4 ≤ N := n4
 have hp := pre_low hg 4 (c := 4) (by decide)
 have hsm := num4 g 4
 have hr := num_rng hg 4 (4)
 generalize hI : num g 4 4 = I at *
 subst hv hE
 have e : enc ⟨6, g 1 / 16, g 1 % 16, 0, g 2, g 3, 0, I, 0⟩ = 6 :: (16 * (g 1 / 16) + g 1 % 16) % 256 :: g 2 % 256 :: g 3 % 256 :: (low I 4 ++ []) := rfl
 refine ⟨of_rng ⟨by dsimp only; decide, rfl, by dsimp only; omega, by dsimp only; omega, by dsimp only; omega, by dsimp only; omega, by dsimp only; omega, by dsimp only; omega, .inl (by dsimp only; decide), .inl (by dsimp only; decide), .inr ⟨rfl, rfl⟩, .inl (by dsimp only; decide), .inl (by dsimp only; decide), .inl (by dsimp only; decide), .inr hsm, kd6 hf⟩, ?_, ?_, by omega, hr.1, hr.2⟩
 ·rw [e]; simp [low_length]; try omega
 ·refine pre_all ?_
  rw [e]
  exact ⟨h0, by show g 1 = _; omega, by show g 2 = _; omega, by show g 3 = _; omega, pre_app hp trivial⟩
theorem bk_7 {N : Nat} {g : Nat → Int} {v : InV} {T : Nat} (hg : Mm.Fit g) (h0 : g 0 = 7) (hN : 1 ≤ N) (h : crdL N g [97, 75, 83] ⟨7, 0, 0, 0, 0, 0, 0, 0, 0⟩ 0 1 = (v, (T : Int))) (hT : 0 < T) (hf : fitsB v = true) : Bk N g v T := by
 obtain ⟨n1, b1, c1, h⟩ := crd_inv h hT
 obtain ⟨n2, b2, c2, h⟩ := crd_inv h hT
 obtain ⟨n3, b3, c3, h⟩ := crd_inv h hT
 have hv : v = ⟨7, g 1 / 16, g 1 % 16, 0, g 2, g 3, 0, 0, 0⟩ := (crd_nil h).1
 have hE : T = 4 := (crd_nil h).2
 have f1 := hg 1
 have f2 := hg 2
 have f3 := hg 3
 have hN2 : 4 ≤ N := n3
 subst hv hE
 have e : enc ⟨7, g 1 / 16, g 1 % 16, 0, g 2, g 3, 0, 0, 0⟩ = 7 :: (16 * (g 1 / 16) + g 1 % 16) % 256 :: g 2 % 256 :: g 3 % 256 :: [] := rfl
 have hb0 : g 1 % 16 = 0 := (kand hf).2
 refine ⟨of_rng ⟨by dsimp only; decide, rfl, by dsimp only; omega, by dsimp only; omega, by dsimp only; omega, by dsimp only; omega, by dsimp only; omega, by dsimp only; omega, .inl (by dsimp only; decide), .inr hb0, .inr ⟨rfl, rfl⟩, .inl (by dsimp only; decide), .inl (by dsimp only; decide), .inr rfl, .inr (by dsimp only; decide), (kand hf).1⟩, ?_, ?_, by omega, by dsimp only; decide, by dsimp only; decide⟩
 ·rw [e]; rfl
 ·refine pre_all ?_
  rw [e]
  exact ⟨h0, by show g 1 = _; omega, by show g 2 = _; omega, by show g 3 = _; omega, trivial⟩
theorem bk_8 {N : Nat} {g : Nat → Int} {v : InV} {T : Nat} (hg : Mm.Fit g) (h0 : g 0 = 8) (hN : 1 ≤ N) (h : crdL N g [97, 75, 83] ⟨8, 0, 0, 0, 0, 0, 0, 0, 0⟩ 0 1 = (v, (T : Int))) (hT : 0 < T) (hf : fitsB v = true) : Bk N g v T := by
 obtain ⟨n1, b1, c1, h⟩ := crd_inv h hT
 obtain ⟨n2, b2, c2, h⟩ := crd_inv h hT
 obtain ⟨n3, b3, c3, h⟩ := crd_inv h hT
 have hv : v = ⟨8, g 1 / 16, g 1 % 16, 0, g 2, g 3, 0, 0, 0⟩ := (crd_nil h).1
 have hE : T = 4 := (crd_nil h).2
 have f1 := hg 1
 have f2 := hg 2
 have f3 := hg 3
 have hN2 : 4 ≤ N := n3
 subst hv hE
 have e : enc ⟨8, g 1 / 16, g 1 % 16, 0, g 2, g 3, 0, 0, 0⟩ = 8 :: (16 * (g 1 / 16) + g 1 % 16) % 256 :: g 2 % 256 :: g 3 % 256 :: [] := rfl
 refine ⟨of_rng ⟨by dsimp only; decide, rfl, by dsimp only; omega, by dsimp only; omega, by dsimp only; omega, by dsimp only; omega, by dsimp only; omega, by dsimp only; omega, .inl (by dsimp only; decide), .inl (by dsimp only; decide), .inr ⟨rfl, rfl⟩, .inl (by dsimp only; decide), .inl (by dsimp only; decide), .inr rfl, .inr (by dsimp only; decide), hf⟩, ?_, ?_, by omega, by dsimp only; decide, by dsimp only; decide⟩
 ·rw [e]; rfl
 ·refine pre_all ?_
  rw [e]
  exact ⟨h0, by show g 1 = _; omega, by show g 2 = _; omega, by show g 3 = _; omega, trivial⟩
theorem bk_10 {N : Nat} {g : Nat → Int} {v : InV} {T : Nat} (hg : Mm.Fit g) (h0 : g 0 = 10) (hN : 1 ≤ N) (h : crdL N g [97, 99, 52] ⟨10, 0, 0, 0, 0, 0, 0, 0, 0⟩ 0 1 = (v, (T : Int))) (hT : 0 < T) (hf : fitsB v = true) : Bk N g v T := by
 obtain ⟨n1, b1, c1, h⟩ := crd_inv h hT
 obtain ⟨n2, b2, c2, h⟩ := crd_inv h hT
 obtain ⟨n3, b3, c3, h⟩ := crd_inv h hT
 have hv : v = ⟨10, g 1 / 16, g 1 % 16, g 2 / 16, 0, 0, sclC (g 2 % 16), num g 3 4, 0⟩ := (crd_nil h).1
 have hE : T = 3 + 4 := (crd_nil h).2
 have f1 := hg 1
 have f2 := hg 2
 have hN2 : 3 + 4 ≤ N := n3
 have hp := pre_low hg 3 (c := 4) (by decide)
 have hsm := num4 g 3
 have hr := num_rng hg 3 (4)
 generalize hI : num g 3 4 = I at *
 subst hv hE
 have e : enc ⟨10, g 1 / 16, g 1 % 16, g 2 / 16, 0, 0, sclC (g 2 % 16), I, 0⟩ = 10 :: (16 * (g 1 / 16) + g 1 % 16) % 256 :: (16 * (g 2 / 16) + lg (sclC (g 2 % 16))) % 256 :: (low I 4 ++ []) := rfl
 have hl := (kd10 (a := 0) (b := 0) (imm := 0) (n := g 2 % 16) (by omega) (by omega) hf).2
 refine ⟨of_rng ⟨by dsimp only; decide, rfl, by dsimp only; omega, by dsimp only; omega, by dsimp only; omega, by dsimp only; omega, by dsimp only; omega, by dsimp only; omega, .inl (by dsimp only; decide), .inl (by dsimp only; decide), .inl (by dsimp only; decide), .inr rfl, .inr rfl, .inl (by dsimp only; decide), .inr hsm, (kd10 (by omega) (by omega) hf).1⟩, ?_, ?_, by omega, hr.1, hr.2⟩
 ·rw [e]; simp [low_length]; try omega
 ·refine pre_all ?_
  rw [e]
  rw [hl]
  exact ⟨h0, by show g 1 = _; omega, by show g 2 = _; omega, pre_app hp trivial⟩
theorem bk_11 {N : Nat} {g : Nat → Int} {v : InV} {T : Nat} (hg : Mm.Fit g) (h0 : g 0 = 11) (hN : 1 ≤ N) (h : crdL N g [97, 75, 52] ⟨11, 0, 0, 0, 0, 0, 0, 0, 0⟩ 0 1 = (v, (T : Int))) (hT : 0 < T) (hf : fitsB v = true) : Bk N g v T := by
 obtain ⟨n1, b1, c1, h⟩ := crd_inv h hT
 obtain ⟨n2, b2, c2, h⟩ := crd_inv h hT
 obtain ⟨n3, b3, c3, h⟩ := crd_inv h hT
 have hv : v = ⟨11, g 1 / 16, g 1 % 16, 0, g 2, 0, 0, num g 3 4, 0⟩ := (crd_nil h).1
 have hE : T = 3 + 4 := (crd_nil h).2
 have f1 := hg 1
 have f2 := hg 2
 have hN2 : 3 + 4 ≤ N := n3
 have hp := pre_low hg 3 (c := 4) (by decide)
 have hsm := num4 g 3
 have hr := num_rng hg 3 (4)
 generalize hI : num g 3 4 = I at *
 subst hv hE
 have e : enc ⟨11, g 1 / 16, g 1 % 16, 0, g 2, 0, 0, I, 0⟩ = 11 :: (16 * (g 1 / 16) + g 1 % 16) % 256 :: g 2 % 256 :: (low I 4 ++ []) := rfl
 refine ⟨of_rng ⟨by dsimp only; decide, rfl, by dsimp only; omega, by dsimp only; omega, by dsimp only; omega, by dsimp only; omega, by dsimp only; omega, by dsimp only; omega, .inl (by dsimp only; decide), .inl (by dsimp only; decide), .inr ⟨rfl, rfl⟩, .inl (by dsimp only; decide), .inr rfl, .inl (by dsimp only; decide), .inr hsm, hf⟩, ?_, ?_, by omega, hr.1, hr.2⟩
 ·rw [e]; simp [low_length]; try omega
 ·refine pre_all ?_
  rw [e]
  exact ⟨h0, by show g 1 = _; omega, by show g 2 = _; omega, pre_app hp trivial⟩
theorem bk_12 {N : Nat} {g : Nat → Int} {v : InV} {T : Nat} (hg : Mm.Fit g) (h0 : g 0 = 12) (hN : 1 ≤ N) (h : crdL N g [97, 99, 75, 52] ⟨12, 0, 0, 0, 0, 0, 0, 0, 0⟩ 0 1 = (v, (T : Int))) (hT : 0 < T) (hf : fitsB v = true) : Bk N g v T := by
 obtain ⟨n1, b1, c1, h⟩ := crd_inv h hT
 obtain ⟨n2, b2, c2, h⟩ := crd_inv h hT
 obtain ⟨n3, b3, c3, h⟩ := crd_inv h hT
 obtain ⟨n4, b4, c4, h⟩ := crd_inv h hT
 have hv : v = ⟨12, g 1 / 16, g 1 % 16, g 2 / 16, g 3, 0, sclC (g 2 % 16), num g 4 4, 0⟩ := (crd_nil h).1
 have hE : T = 4 + 4 := (crd_nil h).2
 have f1 := hg 1
 have f2 := hg 2
 have f3 := hg 3
 have hN2 : 4 + 4 ≤ N := n4
 have hp := pre_low hg 4 (c := 4) (by decide)
 have hsm := num4 g 4
 have hr := num_rng hg 4 (4)
 generalize hI : num g 4 4 = I at *
 subst hv hE
 have e : enc ⟨12, g 1 / 16, g 1 % 16, g 2 / 16, g 3, 0, sclC (g 2 % 16), I, 0⟩ = 12 :: (16 * (g 1 / 16) + g 1 % 16) % 256 :: (16 * (g 2 / 16) + lg (sclC (g 2 % 16))) % 256 :: g 3 % 256 :: (low I 4 ++ []) := rfl
 have hl := (kd12 (a := 0) (b := 0) (c := 0) (imm := 0) (n := g 2 % 16) (by omega) (by omega) hf).2
 refine ⟨of_rng ⟨by dsimp only; decide, rfl, by dsimp only; omega, by dsimp only; omega, by dsimp only; omega, by dsimp only; omega, by dsimp only; omega, by dsimp only; omega, .inl (by dsimp only; decide), .inl (by dsimp only; decide), .inl (by dsimp only; decide), .inl (by dsimp only; decide), .inr rfl, .inl (by dsimp only; decide), .inr hsm, (kd12 (by omega) (by omega) hf).1⟩, ?_, ?_, by omega, hr.1, hr.2⟩
 ·rw [e]; simp [low_length]; try omega
 ·refine pre_all ?_
  rw [e]
  rw [hl]
  exact ⟨h0, by show g 1 = _; omega, by show g 2 = _; omega, by show g 3 = _; omega, pre_app hp trivial⟩
theorem bk_13 {N : Nat} {g : Nat → Int} {v : InV} {T : Nat} (hg : Mm.Fit g) (h0 : g 0 = 13) (hN : 1 ≤ N) (h : crdL N g [97, 75, 52] ⟨13, 0, 0, 0, 0, 0, 0, 0, 0⟩ 0 1 = (v, (T : Int))) (hT : 0 < T) (hf : fitsB v = true) : Bk N g v T := by
 obtain ⟨n1, b1, c1, h⟩ := crd_inv h hT
 obtain ⟨n2, b2, c2, h⟩ := crd_inv h hT
 obtain ⟨n3, b3, c3, h⟩ := crd_inv h hT
 have hv : v = ⟨13, g 1 / 16, g 1 % 16, 0, g 2, 0, 0, num g 3 4, 0⟩ := (crd_nil h).1
 have hE : T = 3 + 4 := (crd_nil h).2
 have f1 := hg 1
 have f2 := hg 2
 have hN2 : 3 + 4 ≤ N := n3
 have hp := pre_low hg 3 (c := 4) (by decide)
 have hsm := num4 g 3
 have hr := num_rng hg 3 (4)
 generalize hI : num g 3 4 = I at *
 subst hv hE
 have e : enc ⟨13, g 1 / 16, g 1 % 16, 0, g 2, 0, 0, I, 0⟩ = 13 :: (16 * (g 1 / 16) + g 1 % 16) % 256 :: g 2 % 256 :: (low I 4 ++ []) := rfl
 refine ⟨of_rng ⟨by dsimp only; decide, rfl, by dsimp only; omega, by dsimp only; omega, by dsimp only; omega, by dsimp only; omega, by dsimp only; omega, by dsimp only; omega, .inl (by dsimp only; decide), .inl (by dsimp only; decide), .inr ⟨rfl, rfl⟩, .inl (by dsimp only; decide), .inr rfl, .inl (by dsimp only; decide), .inr hsm, hf⟩, ?_, ?_, by omega, hr.1, hr.2⟩
 ·rw [e]; simp [low_length]; try omega
 ·refine pre_all ?_
  rw [e]
  exact ⟨h0, by show g 1 = _; omega, by show g 2 = _; omega, pre_app hp trivial⟩
theorem bk_14 {N : Nat} {g : Nat → Int} {v : InV} {T : Nat} (hg : Mm.Fit g) (h0 : g 0 = 14) (hN : 1 ≤ N) (h : crdL N g [97, 99, 75, 52] ⟨14, 0, 0, 0, 0, 0, 0, 0, 0⟩ 0 1 = (v, (T : Int))) (hT : 0 < T) (hf : fitsB v = true) : Bk N g v T := by
 obtain ⟨n1, b1, c1, h⟩ := crd_inv h hT
 obtain ⟨n2, b2, c2, h⟩ := crd_inv h hT
 obtain ⟨n3, b3, c3, h⟩ := crd_inv h hT
 obtain ⟨n4, b4, c4, h⟩ := crd_inv h hT
 have hv : v = ⟨14, g 1 / 16, g 1 % 16, g 2 / 16, g 3, 0, sclC (g 2 % 16), num g 4 4, 0⟩ := (crd_nil h).1
 have hE : T = 4 + 4 := (crd_nil h).2
 have f1 := hg 1
 have f2 := hg 2
 have f3 := hg 3
 have hN2 : 4 + 4 ≤ N := n4
 have hp := pre_low hg 4 (c := 4) (by decide)
 have hsm := num4 g 4
 have hr := num_rng hg 4 (4)
 generalize hI : num g 4 4 = I at *
 subst hv hE
 have e : enc ⟨14, g 1 / 16, g 1 % 16, g 2 / 16, g 3, 0, sclC (g 2 % 16), I, 0⟩ = 14 :: (16 * (g 1 / 16) + g 1 % 16) % 256 :: (16 * (g 2 / 16) + lg (sclC (g 2 % 16))) % 256 :: g 3 % 256 :: (low I 4 ++ []) := rfl
 have hl := (kd14 (a := 0) (b := 0) (c := 0) (imm := 0) (n := g 2 % 16) (by omega) (by omega) hf).2
 refine ⟨of_rng ⟨by dsimp only; decide, rfl, by dsimp only; omega, by dsimp only; omega, by dsimp only; omega, by dsimp only; omega, by dsimp only; omega, by dsimp only; omega, .inl (by dsimp only; decide), .inl (by dsimp only; decide), .inl (by dsimp only; decide), .inl (by dsimp only; decide), .inr rfl, .inl (by dsimp only; decide), .inr hsm, (kd14 (by omega) (by omega) hf).1⟩, ?_, ?_, by omega, hr.1, hr.2⟩
 ·rw [e]; simp [low_length]; try omega
 ·refine pre_all ?_
  rw [e]
  rw [hl]
  exact ⟨h0, by show g 1 = _; omega, by show g 2 = _; omega, by show g 3 = _; omega, pre_app hp trivial⟩
theorem bk_15 {N : Nat} {g : Nat → Int} {v : InV} {T : Nat} (hg : Mm.Fit g) (h0 : g 0 = 15) (hN : 1 ≤ N) (h : crdL N g [97, 83] ⟨15, 0, 0, 0, 0, 0, 0, 0, 0⟩ 0 1 = (v, (T : Int))) (hT : 0 < T) (hf : fitsB v = true) : Bk N g v T := by
 obtain ⟨n1, b1, c1, h⟩ := crd_inv h hT
 obtain ⟨n2, b2, c2, h⟩ := crd_inv h hT
 have hv : v = ⟨15, g 1 / 16, g 1 % 16, 0, 0, g 2, 0, 0, 0⟩ := (crd_nil h).1
 have hE : T = 3 := (crd_nil h).2
 have f1 := hg 1
 have f2 := hg 2
 have hN2 : 3 ≤ N := n2
 subst hv hE
 have e : enc ⟨15, g 1 / 16, g 1 % 16, 0, 0, g 2, 0, 0, 0⟩ = 15 :: (16 * (g 1 / 16) + g 1 % 16) % 256 :: g 2 % 256 :: [] := rfl
 refine ⟨of_rng ⟨by dsimp only; decide, rfl, by dsimp only; omega, by dsimp only; omega, by dsimp only; omega, by dsimp only; omega, by dsimp only; omega, by dsimp only; omega, .inl (by dsimp only; decide), .inl (by dsimp only; decide), .inr ⟨rfl, rfl⟩, .inr rfl, .inl (by dsimp only; decide), .inr rfl, .inr (by dsimp only; decide), hf⟩, ?_, ?_, by omega, by dsimp only; decide, by dsimp only; decide⟩
 ·rw [e]; rfl
 ·refine pre_all ?_
  rw [e]
  exact ⟨h0, by show g 1 = _; omega, by show g 2 = _; omega, trivial⟩
theorem bk_16 {N : Nat} {g : Nat → Int} {v : InV} {T : Nat} (hg : Mm.Fit g) (h0 : g 0 = 16) (hN : 1 ≤ N) (h : crdL N g [97, 75] ⟨16, 0, 0, 0, 0, 0, 0, 0, 0⟩ 0 1 = (v, (T : Int))) (hT : 0 < T) (hf : fitsB v = true) : Bk N g v T := by
 obtain ⟨n1, b1, c1, h⟩ := crd_inv h hT
 obtain ⟨n2, b2, c2, h⟩ := crd_inv h hT
 have hv : v = ⟨16, g 1 / 16, g 1 % 16, 0, g 2, 0, 0, 0, 0⟩ := (crd_nil h).1
 have hE : T = 3 := (crd_nil h).2
 have f1 := hg 1
 have f2 := hg 2
 have hN2 : 3 ≤ N := n2
 subst hv hE
 have e : enc ⟨16, g 1 / 16, g 1 % 16, 0, g 2, 0, 0, 0, 0⟩ = 16 :: (16 * (g 1 / 16) + g 1 % 16) % 256 :: g 2 % 256 :: [] := rfl
 refine ⟨of_rng ⟨by dsimp only; decide, rfl, by dsimp only; omega, by dsimp only; omega, by dsimp only; omega, by dsimp only; omega, by dsimp only; omega, by dsimp only; omega, .inl (by dsimp only; decide), .inl (by dsimp only; decide), .inr ⟨rfl, rfl⟩, .inl (by dsimp only; decide), .inr rfl, .inr rfl, .inr (by dsimp only; decide), hf⟩, ?_, ?_, by omega, by dsimp only; decide, by dsimp only; decide⟩
 ·rw [e]; rfl
 ·refine pre_all ?_
  rw [e]
  exact ⟨h0, by show g 1 = _; omega, by show g 2 = _; omega, trivial⟩
theorem bk_17 {N : Nat} {g : Nat → Int} {v : InV} {T : Nat} (hg : Mm.Fit g) (h0 : g 0 = 17) (hN : 1 ≤ N) (h : crdL N g [110, 75, 105] ⟨17, 0, 0, 0, 0, 0, 0, 0, 0⟩ 0 1 = (v, (T : Int))) (hT : 0 < T) (hf : fitsB v = true) : Bk N g v T := by
 obtain ⟨n1, b1, c1, h⟩ := crd_inv h hT
 obtain ⟨n2, b2, c2, h⟩ := crd_inv h hT
 obtain ⟨n3, b3, c3, h⟩ := crd_inv h hT
 have hv : v = ⟨17, g 1 / 16, 0, 0, g 2, 0, 0, num g 3 (cnt (g 1 % 16)), 0⟩ := (crd_nil h).1
 have hE : T = 3 + cnt (g 1 % 16) := (crd_nil h).2
 have f1 := hg 1
 have f2 := hg 2
 have hs : size (num g 3 (cnt (g 1 % 16))) = g 1 % 16 := by
  by_cases e : size (num g 3 (cnt (g 1 % 16))) = g 1 % 16
  ·exact e
  ·exact absurd ⟨rfl, e⟩ c3
 have hz : ¬ (2 < g 1 % 16 ∨ (g 1 % 16 = 2 ∧ (17 : Int) ≠ 1)) := b1
 have hN2 : 3 + cnt (g 1 % 16) ≤ N := n3
 have hp := pre_low hg 3 (cnt_c (z := g 1 % 16))
 have hr := num_rng hg 3 (cnt (g 1 % 16))
 generalize hI : num g 3 (cnt (g 1 % 16)) = I at *
 subst hv hE
 have e : enc ⟨17, g 1 / 16, 0, 0, g 2, 0, 0, I, 0⟩ = 17 :: (16 * (g 1 / 16) + size I) % 256 :: g 2 % 256 :: (low I (cnt (size I)) ++ []) := rfl
 rw [hs] at e
 have hsz : g 1 % 16 ≤ 1 → -2147483648 ≤ I ∧ I < 2147483648 := fun q => size_small (by rw [hs]; exact q)
 refine ⟨of_rng ⟨by dsimp only; decide, rfl, by dsimp only; omega, by dsimp only; omega, by dsimp only; omega, by dsimp only; omega, by dsimp only; omega, by dsimp only; omega, .inl (by dsimp only; decide), .inr rfl, .inr ⟨rfl, rfl⟩, .inl (by dsimp only; decide), .inr rfl, .inl (by dsimp only; decide), .inr (hsz (by omega)), kd17 hf (hsz (by omega))⟩, ?_, ?_, by omega, hr.1, hr.2⟩
 ·rw [e]; simp [low_length]; try omega
 ·refine pre_all ?_
  rw [e]
  exact ⟨h0, by show g 1 = _; omega, by show g 2 = _; omega, pre_app hp trivial⟩
theorem bk_18 {N : Nat} {g : Nat → Int} {v : InV} {T : Nat} (hg : Mm.Fit g) (h0 : g 0 = 18) (hN : 1 ≤ N) (h : crdL N g [97, 83] ⟨18, 0, 0, 0, 0, 0, 0, 0, 0⟩ 0 1 = (v, (T : Int))) (hT : 0 < T) (hf : fitsB v = true) : Bk N g v T := by
 obtain ⟨n1, b1, c1, h⟩ := crd_inv h hT
 obtain ⟨n2, b2, c2, h⟩ := crd_inv h hT
 have hv : v = ⟨18, g 1 / 16, g 1 % 16, 0, 0, g 2, 0, 0, 0⟩ := (crd_nil h).1
 have hE : T = 3 := (crd_nil h).2
 have f1 := hg 1
 have f2 := hg 2
 have hN2 : 3 ≤ N := n2
 subst hv hE
 have e : enc ⟨18, g 1 / 16, g 1 % 16, 0, 0, g 2, 0, 0, 0⟩ = 18 :: (16 * (g 1 / 16) + g 1 % 16) % 256 :: g 2 % 256 :: [] := rfl
 have hb0 : g 1 % 16 = 0 := (kand hf).2
 refine ⟨of_rng ⟨by dsimp only; decide, rfl, by dsimp only; omega, by dsimp only; omega, by dsimp only; omega, by dsimp only; omega, by dsimp only; omega, by dsimp only; omega, .inl (by dsimp only; decide), .inr hb0, .inr ⟨rfl, rfl⟩, .inr rfl, .inl (by dsimp only; decide), .inr rfl, .inr (by dsimp only; decide), (kand hf).1⟩, ?_, ?_, by omega, by dsimp only; decide, by dsimp only; decide⟩
 ·rw [e]; rfl
 ·refine pre_all ?_
  rw [e]
  exact ⟨h0, by show g 1 = _; omega, by show g 2 = _; omega, trivial⟩
theorem bk_19 {N : Nat} {g : Nat → Int} {v : InV} {T : Nat} (hg : Mm.Fit g) (h0 : g 0 = 19) (hN : 1 ≤ N) (h : crdL N g [106, 105] ⟨19, 0, 0, 0, 0, 0, 0, 0, 0⟩ 0 1 = (v, (T : Int))) (hT : 0 < T) (hf : fitsB v = true) : Bk N g v T := by
 obtain ⟨n1, b1, c1, h⟩ := crd_inv h hT
 obtain ⟨n2, b2, c2, h⟩ := crd_inv h hT
 have hv : v = ⟨19, 0, 0, 0, 0, 0, 0, num g 2 (cnt (g 1)), 0⟩ := (crd_nil h).1
 have hE : T = 2 + cnt (g 1) := (crd_nil h).2
 have f1 := hg 1
 have hs : size (num g 2 (cnt (g 1))) = g 1 := by
  by_cases e : size (num g 2 (cnt (g 1))) = g 1
  ·exact e
  ·exact absurd ⟨rfl, e⟩ c2
 have hz : ¬ (2 < g 1 ∨ (g 1 = 2 ∧ (19 : Int) ≠ 1)) := b1
 have hN2 : 2 + cnt (g 1) ≤ N := n2
 have hp := pre_low hg 2 (cnt_c (z := g 1))
 have hr := num_rng hg 2 (cnt (g 1))
 generalize hI : num g 2 (cnt (g 1)) = I at *
 subst hv hE
 have e : enc ⟨19, 0, 0, 0, 0, 0, 0, I, 0⟩ = 19 :: size I % 256 :: (low I (cnt (size I)) ++ []) := rfl
 rw [hs] at e
 have hsz : g 1 ≤ 1 → -2147483648 ≤ I ∧ I < 2147483648 := fun q => size_small (by rw [hs]; exact q)
 refine ⟨of_rng ⟨by dsimp only; decide, rfl, by dsimp only; omega, by dsimp only; omega, by dsimp only; omega, by dsimp only; omega, by dsimp only; omega, by dsimp only; omega, .inr rfl, .inr rfl, .inr ⟨rfl, rfl⟩, .inr rfl, .inr rfl, .inl (by dsimp only; decide), .inr (hsz (by omega)), rfl⟩, ?_, ?_, by omega, hr.1, hr.2⟩
 ·rw [e]; simp [low_length]; try omega
 ·refine pre_all ?_
  rw [e]
  exact ⟨h0, by show g 1 = _; omega, pre_app hp trivial⟩
theorem bk_22 {N : Nat} {g : Nat → Int} {v : InV} {T : Nat} (hg : Mm.Fit g) (h0 : g 0 = 22) (hN : 1 ≤ N) (h : crdL N g [74, 105] ⟨22, 0, 0, 0, 0, 0, 0, 0, 0⟩ 0 1 = (v, (T : Int))) (hT : 0 < T) (hf : fitsB v = true) : Bk N g v T := by
 obtain ⟨n1, b1, c1, h⟩ := crd_inv h hT
 obtain ⟨n2, b2, c2, h⟩ := crd_inv h hT
 have hv : v = ⟨22, 0, 0, 0, 0, g 1 / 16 + 11, 0, num g 2 (cnt (g 1 % 16)), 0⟩ := (crd_nil h).1
 have hE : T = 2 + cnt (g 1 % 16) := (crd_nil h).2
 have f1 := hg 1
 have hs : size (num g 2 (cnt (g 1 % 16))) = g 1 % 16 := by
  by_cases e : size (num g 2 (cnt (g 1 % 16))) = g 1 % 16
  ·exact e
  ·exact absurd ⟨rfl, e⟩ c2
 have hz : ¬ (2 < g 1 % 16 ∨ (g 1 % 16 = 2 ∧ (22 : Int) ≠ 1)) := b1
 have hN2 : 2 + cnt (g 1 % 16) ≤ N := n2
 have hp := pre_low hg 2 (cnt_c (z := g 1 % 16))
 have hr := num_rng hg 2 (cnt (g 1 % 16))
 generalize hI : num g 2 (cnt (g 1 % 16)) = I at *
 subst hv hE
 have e : enc ⟨22, 0, 0, 0, 0, g 1 / 16 + 11, 0, I, 0⟩ = 22 :: (16 * (g 1 / 16 + 11 - 11) + size I) % 256 :: (low I (cnt (size I)) ++ []) := rfl
 rw [hs] at e
 have hsz : g 1 % 16 ≤ 1 → -2147483648 ≤ I ∧ I < 2147483648 := fun q => size_small (by rw [hs]; exact q)
 refine ⟨of_rng ⟨by dsimp only; decide, rfl, by dsimp only; omega, by dsimp only; omega, by dsimp only; omega, by dsimp only; omega, by dsimp only; omega, by dsimp only; omega, .inr rfl, .inr rfl, .inr ⟨rfl, rfl⟩, .inr rfl, .inl (by dsimp only; decide), .inl (by dsimp only; decide), .inr (hsz (by omega)), hf⟩, ?_, ?_, by omega, hr.1, hr.2⟩
 ·rw [e]; simp [low_length]; try omega
 ·refine pre_all ?_
  rw [e]
  exact ⟨h0, by show g 1 = _; omega, pre_app hp trivial⟩
theorem bk_23 {N : Nat} {g : Nat → Int} {v : InV} {T : Nat} (hg : Mm.Fit g) (h0 : g 0 = 23) (hN : 1 ≤ N) (h : crdL N g [52] ⟨23, 0, 0, 0, 0, 0, 0, 0, 0⟩ 0 1 = (v, (T : Int))) (hT : 0 < T) (hf : fitsB v = true) : Bk N g v T := by
 obtain ⟨n1, b1, c1, h⟩ := crd_inv h hT
 have hv : v = ⟨23, 0, 0, 0, 0, 0, 0, num g 1 4, 0⟩ := (crd_nil h).1
 have hE : T = 1 + 4 := (crd_nil h).2
 have hN2 : 1 + 4 ≤ N := n1
 have hp := pre_low hg 1 (c := 4) (by decide)
 have hsm := num4 g 1
 have hr := num_rng hg 1 (4)
 generalize hI : num g 1 4 = I at *
 subst hv hE
 have e : enc ⟨23, 0, 0, 0, 0, 0, 0, I, 0⟩ = 23 :: (low I 4 ++ []) := rfl
 refine ⟨of_rng ⟨by dsimp only; decide, rfl, by dsimp only; omega, by dsimp only; omega, by dsimp only; omega, by dsimp only; omega, by dsimp only; omega, by dsimp only; omega, .inr rfl, .inr rfl, .inr ⟨rfl, rfl⟩, .inr rfl, .inr rfl, .inl (by dsimp only; decide), .inr hsm, rfl⟩, ?_, ?_, by omega, hr.1, hr.2⟩
 ·rw [e]; simp [low_length]; try omega
 ·refine pre_all ?_
  rw [e]
  exact ⟨h0, pre_app hp trivial⟩
theorem bk_24 {N : Nat} {g : Nat → Int} {v : InV} {T : Nat} (hg : Mm.Fit g) (h0 : g 0 = 24) (hN : 1 ≤ N) (h : crdL N g [] ⟨24, 0, 0, 0, 0, 0, 0, 0, 0⟩ 0 1 = (v, (T : Int))) (hT : 0 < T) (hf : fitsB v = true) : Bk N g v T := by
 have hv : v = ⟨24, 0, 0, 0, 0, 0, 0, 0, 0⟩ := (crd_nil h).1
 have hE : T = 1 := (crd_nil h).2
 have hN2 : 1 ≤ N := hN
 subst hv hE
 have e : enc ⟨24, 0, 0, 0, 0, 0, 0, 0, 0⟩ = 24 :: [] := rfl
 refine ⟨of_rng ⟨by dsimp only; decide, rfl, by dsimp only; omega, by dsimp only; omega, by dsimp only; omega, by dsimp only; omega, by dsimp only; omega, by dsimp only; omega, .inr rfl, .inr rfl, .inr ⟨rfl, rfl⟩, .inr rfl, .inr rfl, .inr rfl, .inr (by dsimp only; decide), rfl⟩, ?_, ?_, by omega, by dsimp only; decide, by dsimp only; decide⟩
 ·rw [e]; rfl
 ·refine pre_all ?_
  rw [e]
  exact ⟨h0, trivial⟩
theorem bk_25 {N : Nat} {g : Nat → Int} {v : InV} {T : Nat} (hg : Mm.Fit g) (h0 : g 0 = 25) (hN : 1 ≤ N) (h : crdL N g [52] ⟨25, 0, 0, 0, 0, 0, 0, 0, 0⟩ 0 1 = (v, (T : Int))) (hT : 0 < T) (hf : fitsB v = true) : Bk N g v T := by
 obtain ⟨n1, b1, c1, h⟩ := crd_inv h hT
 have hv : v = ⟨25, 0, 0, 0, 0, 0, 0, num g 1 4, 0⟩ := (crd_nil h).1
 have hE : T = 1 + 4 := (crd_nil h).2
 have hN2 : 1 + 4 ≤ N := n1
 have hp := pre_low hg 1 (c := 4) (by decide)
 have hsm := num4 g 1
 have hr := num_rng hg 1 (4)
 generalize hI : num g 1 4 = I at *
 subst hv hE
 have e : enc ⟨25, 0, 0, 0, 0, 0, 0, I, 0⟩ = 25 :: (low I 4 ++ []) := rfl
 refine ⟨of_rng ⟨by dsimp only; decide, rfl, by dsimp only; omega, by dsimp only; omega, by dsimp only; omega, by dsimp only; omega, by dsimp only; omega, by dsimp only; omega, .inr rfl, .inr rfl, .inr ⟨rfl, rfl⟩, .inr rfl, .inr rfl, .inl (by dsimp only; decide), .inr hsm, hf⟩, ?_, ?_, by omega, hr.1, hr.2⟩
 ·rw [e]; simp [low_length]; try omega
 ·refine pre_all ?_
  rw [e]
  exact ⟨h0, pre_app hp trivial⟩
theorem bk_26 {N : Nat} {g : Nat → Int} {v : InV} {T : Nat} (hg : Mm.Fit g) (h0 : g 0 = 26) (hN : 1 ≤ N) (h : crdL N g [97] ⟨26, 0, 0, 0, 0, 0, 0, 0, 0⟩ 0 1 = (v, (T : Int))) (hT : 0 < T) (hf : fitsB v = true) : Bk N g v T := by
 obtain ⟨n1, b1, c1, h⟩ := crd_inv h hT
 have hv : v = ⟨26, g 1 / 16, g 1 % 16, 0, 0, 0, 0, 0, 0⟩ := (crd_nil h).1
 have hE : T = 2 := (crd_nil h).2
 have f1 := hg 1
 have hN2 : 2 ≤ N := n1
 subst hv hE
 have e : enc ⟨26, g 1 / 16, g 1 % 16, 0, 0, 0, 0, 0, 0⟩ = 26 :: (16 * (g 1 / 16) + g 1 % 16) % 256 :: [] := rfl
 refine ⟨of_rng ⟨by dsimp only; decide, rfl, by dsimp only; omega, by dsimp only; omega, by dsimp only; omega, by dsimp only; omega, by dsimp only; omega, by dsimp only; omega, .inl (by dsimp only; decide), .inl (by dsimp only; decide), .inr ⟨rfl, rfl⟩, .inr rfl, .inr rfl, .inr rfl, .inr (by dsimp only; decide), rfl⟩, ?_, ?_, by omega, by dsimp only; decide, by dsimp only; decide⟩
 ·rw [e]; rfl
 ·refine pre_all ?_
  rw [e]
  exact ⟨h0, by show g 1 = _; omega, trivial⟩
theorem bk_27 {N : Nat} {g : Nat → Int} {v : InV} {T : Nat} (hg : Mm.Fit g) (h0 : g 0 = 27) (hN : 1 ≤ N) (h : crdL N g [97] ⟨27, 0, 0, 0, 0, 0, 0, 0, 0⟩ 0 1 = (v, (T : Int))) (hT : 0 < T) (hf : fitsB v = true) : Bk N g v T := by
 obtain ⟨n1, b1, c1, h⟩ := crd_inv h hT
 have hv : v = ⟨27, g 1 / 16, g 1 % 16, 0, 0, 0, 0, 0, 0⟩ := (crd_nil h).1
 have hE : T = 2 := (crd_nil h).2
 have f1 := hg 1
 have hN2 : 2 ≤ N := n1
 subst hv hE
 have e : enc ⟨27, g 1 / 16, g 1 % 16, 0, 0, 0, 0, 0, 0⟩ = 27 :: (16 * (g 1 / 16) + g 1 % 16) % 256 :: [] := rfl
 have hb0 : g 1 % 16 = 0 := kzero hf
 refine ⟨of_rng ⟨by dsimp only; decide, rfl, by dsimp only; omega, by dsimp only; omega, by dsimp only; omega, by dsimp only; omega, by dsimp only; omega, by dsimp only; omega, .inl (by dsimp only; decide), .inr hb0, .inr ⟨rfl, rfl⟩, .inr rfl, .inr rfl, .inr rfl, .inr (by dsimp only; decide), rfl⟩, ?_, ?_, by omega, by dsimp only; decide, by dsimp only; decide⟩
 ·rw [e]; rfl
 ·refine pre_all ?_
  rw [e]
  exact ⟨h0, by show g 1 = _; omega, trivial⟩
theorem bk_28 {N : Nat} {g : Nat → Int} {v : InV} {T : Nat} (hg : Mm.Fit g) (h0 : g 0 = 28) (hN : 1 ≤ N) (h : crdL N g [97] ⟨28, 0, 0, 0, 0, 0, 0, 0, 0⟩ 0 1 = (v, (T : Int))) (hT : 0 < T) (hf : fitsB v = true) : Bk N g v T := by
 obtain ⟨n1, b1, c1, h⟩ := crd_inv h hT
 have hv : v = ⟨28, g 1 / 16, g 1 % 16, 0, 0, 0, 0, 0, 0⟩ := (crd_nil h).1
 have hE : T = 2 := (crd_nil h).2
 have f1 := hg 1
 have hN2 : 2 ≤ N := n1
 subst hv hE
 have e : enc ⟨28, g 1 / 16, g 1 % 16, 0, 0, 0, 0, 0, 0⟩ = 28 :: (16 * (g 1 / 16) + g 1 % 16) % 256 :: [] := rfl
 have hb0 : g 1 % 16 = 0 := kzero hf
 refine ⟨of_rng ⟨by dsimp only; decide, rfl, by dsimp only; omega, by dsimp only; omega, by dsimp only; omega, by dsimp only; omega, by dsimp only; omega, by dsimp only; omega, .inl (by dsimp only; decide), .inr hb0, .inr ⟨rfl, rfl⟩, .inr rfl, .inr rfl, .inr rfl, .inr (by dsimp only; decide), rfl⟩, ?_, ?_, by omega, by dsimp only; decide, by dsimp only; decide⟩
 ·rw [e]; rfl
 ·refine pre_all ?_
  rw [e]
  exact ⟨h0, by show g 1 = _; omega, trivial⟩
theorem bk_29 {N : Nat} {g : Nat → Int} {v : InV} {T : Nat} (hg : Mm.Fit g) (h0 : g 0 = 29) (hN : 1 ≤ N) (h : crdL N g [52] ⟨29, 0, 0, 0, 0, 0, 0, 0, 0⟩ 0 1 = (v, (T : Int))) (hT : 0 < T) (hf : fitsB v = true) : Bk N g v T := by
 obtain ⟨n1, b1, c1, h⟩ := crd_inv h hT
 have hv : v = ⟨29, 0, 0, 0, 0, 0, 0, num g 1 4, 0⟩ := (crd_nil h).1
 have hE : T = 1 + 4 := (crd_nil h).2
 have hN2 : 1 + 4 ≤ N := n1
 have hp := pre_low hg 1 (c := 4) (by decide)
 have hsm := num4 g 1
 have hr := num_rng hg 1 (4)
 generalize hI : num g 1 4 = I at *
 subst hv hE
 have e : enc ⟨29, 0, 0, 0, 0, 0, 0, I, 0⟩ = 29 :: (low I 4 ++ []) := rfl
 refine ⟨of_rng ⟨by dsimp only; decide, rfl, by dsimp only; omega, by dsimp only; omega, by dsimp only; omega, by dsimp only; omega, by dsimp only; omega, by dsimp only; omega, .inr rfl, .inr rfl, .inr ⟨rfl, rfl⟩, .inr rfl, .inr rfl, .inl (by dsimp only; decide), .inr hsm, hf⟩, ?_, ?_, by omega, hr.1, hr.2⟩
 ·rw [e]; simp [low_length]; try omega
 ·refine pre_all ?_
  rw [e]
  exact ⟨h0, pre_app hp trivial⟩
end Cc
namespace Cc
theorem codeOf {o : Int} (h : (row o).isEmpty = false) : o = 1 ∨ o = 3 ∨ o = 4 ∨ o = 5 ∨ o = 6 ∨ o = 7 ∨ o = 8 ∨ o = 10 ∨ o = 11 ∨ o = 12 ∨ o = 13 ∨ o = 14 ∨ o = 15 ∨ o = 16 ∨ o = 17 ∨ o = 18 ∨ o = 19 ∨ o = 22 ∨ o = 23 ∨ o = 24 ∨ o = 25 ∨ o = 26 ∨ o = 27 ∨ o = 28 ∨ o = 29 := codes (v := ⟨o, 0, 0, 0, 0, 0, 0, 0, 0⟩) h
theorem row_last {o : Int} (h : (row o).isEmpty = false) : iLast (rrow o) = true := by
  rcases codeOf h with rfl | rfl | rfl | rfl | rfl | rfl | rfl | rfl | rfl | rfl | rfl | rfl | rfl | rfl | rfl | rfl | rfl | rfl | rfl | rfl | rfl | rfl | rfl | rfl | rfl
  all_goals decide
theorem bk_all {N : Nat} {g : Nat → Int} {v : InV} {T : Nat} (hg : Mm.Fit g) (hN : 1 ≤ N) (hr : (row (g 0)).isEmpty = false) (h : cread N g = (v, (T : Int))) (hT : 0 < T) (hf : fitsB v = true) : Bk N g v T := by
  unfold cread at h
  have hc := codeOf hr
  generalize h0 : g 0 = o at *
  rcases hc with rfl | rfl | rfl | rfl | rfl | rfl | rfl | rfl | rfl | rfl | rfl | rfl | rfl | rfl | rfl | rfl | rfl | rfl | rfl | rfl | rfl | rfl | rfl | rfl | rfl
  · exact bk_1 hg h0 hN h hT hf
  · exact bk_3 hg h0 hN h hT hf
  · exact bk_4 hg h0 hN h hT hf
  · exact bk_5 hg h0 hN h hT hf
  · exact bk_6 hg h0 hN h hT hf
  · exact bk_7 hg h0 hN h hT hf
  · exact bk_8 hg h0 hN h hT hf
  · exact bk_10 hg h0 hN h hT hf
  · exact bk_11 hg h0 hN h hT hf
  · exact bk_12 hg h0 hN h hT hf
  · exact bk_13 hg h0 hN h hT hf
  · exact bk_14 hg h0 hN h hT hf
  · exact bk_15 hg h0 hN h hT hf
  · exact bk_16 hg h0 hN h hT hf
  · exact bk_17 hg h0 hN h hT hf
  · exact bk_18 hg h0 hN h hT hf
  · exact bk_19 hg h0 hN h hT hf
  · exact bk_22 hg h0 hN h hT hf
  · exact bk_23 hg h0 hN h hT hf
  · exact bk_24 hg h0 hN h hT hf
  · exact bk_25 hg h0 hN h hT hf
  · exact bk_26 hg h0 hN h hT hf
  · exact bk_27 hg h0 hN h hT hf
  · exact bk_28 hg h0 hN h hT hf
  · exact bk_29 hg h0 hN h hT hf
theorem kind4 {v : InV} (h : binB v = true) : (Wd.hasBinB v.sub v.k && tiesB v) = true := by
  unfold binB at h
  unfold tiesB divB
  rw [Bool.and_eq_true] at h ⊢
  refine ⟨h.1, ?_⟩
  have h2 := h.2
  unfold Wd.shB at h2 ⊢
  by_cases e : v.sub = 9 ∨ v.sub = 10
  · have e1 : (v.sub == 9 || v.sub == 10) = true := by simpa using e
    have e2 : (Wd.intB v.k && (v.sub == 4 || v.sub == 5)) = false := by
      rw [Bool.and_eq_false_iff]; right; simp; omega
    rw [e1] at h2
    rw [e1, e2]
    exact h2
  · have e1 : (v.sub == 9 || v.sub == 10) = false := by simp; omega
    rw [e1] at h2
    rw [e1]
    cases e2 : (Wd.intB v.k && (v.sub == 4 || v.sub == 5))
    · rfl
    · rw [e2] at h2; exact h2
theorem kind5 {s k n : Int} (h : immB s k n = true) : (Wd.hasBinB s k && !divB s k && fnB s k n) = true := by
  unfold immB at h
  unfold divB fnB
  simp only [Bool.and_eq_true, Bool.not_eq_true', Bool.and_eq_false_iff, Bool.or_eq_false_iff, beq_eq_false_iff_ne, bne_iff_ne] at h ⊢
  obtain ⟨⟨⟨⟨⟨h3, h1⟩, h4⟩, h5⟩, hs⟩, h6⟩ := h
  exact ⟨⟨h1, .inr ⟨h4, h5⟩⟩, h3, h6⟩
theorem kind6 {s k : Int} (h : (Wd.hasBinB s k && !Wd.shB s && (!Wd.intB k || (s != 4 && s != 5))) = true) : (Wd.hasBinB s k && !divB s k && !Wd.shB s) = true := by
  unfold divB
  revert h
  generalize Wd.hasBinB s k = x
  generalize Wd.shB s = y
  generalize Wd.intB k = z
  generalize e4 : (s == 4) = a
  generalize e5 : (s == 5) = b
  rw [bne, bne, e4, e5]
  cases x <;> cases y <;> cases z <;> cases a <;> cases b <;> decide
theorem kand' {x : Bool} {b : Int} (h : x = true) (h2 : b = 0) : (x && b == 0) = true := by rw [h, h2]; rfl
theorem kind10 {v : InV} (h : sclB v = true) : (decide (v.scale ≤ 8) && (decide (0 < v.scale) || v.c == 0)) = true := by
  unfold sclB at h
  simp only [Bool.and_eq_true, Bool.or_eq_true, decide_eq_true_eq, beq_iff_eq] at h ⊢
  omega
theorem kind12 {v : InV} (ho : v.op ≠ 10) (h : (sclB v && Wd.wordB v.k) = true) : (Wd.wordB v.k && decide (0 < v.scale) && decide (v.scale ≤ 8)) = true := by
  unfold sclB at h
  simp only [Bool.and_eq_true, Bool.or_eq_true, decide_eq_true_eq, beq_iff_eq] at h ⊢
  refine ⟨⟨h.2, ?_⟩, ?_⟩ <;> omega
theorem may_fits {v : InV} (h : mayB v = true) : fitsB v = true := by
  have r := rng h
  have hc := codes r.rw
  obtain ⟨op, a, b, c, k, sub, sc, imm, lb⟩ := v
  obtain ⟨_, hl, a1, a2, b1, b2, c1, c2, u0, u1, u2, u3, u4, u5, sm, kd⟩ := r
  dsimp only at *
  rcases hc with rfl | rfl | rfl | rfl | rfl | rfl | rfl | rfl | rfl | rfl | rfl | rfl | rfl | rfl | rfl | rfl | rfl | rfl | rfl | rfl | rfl | rfl | rfl | rfl | rfl
  · rfl
  · rfl
  · exact kind4 (v := ⟨4, a, b, c, k, sub, sc, imm, lb⟩) kd
  · exact kind5 kd
  · exact kind6 kd
  · exact kand' kd (u1.resolve_left (by decide))
  · exact kd
  · exact kind10 (v := ⟨10, a, b, c, k, sub, sc, imm, lb⟩) kd
  · exact kd
  · exact kind12 (v := ⟨12, a, b, c, k, sub, sc, imm, lb⟩) (by dsimp only; decide) kd
  · exact kd
  · exact kind12 (v := ⟨14, a, b, c, k, sub, sc, imm, lb⟩) (by dsimp only; decide) kd
  · exact kd
  · exact kd
  · have := kind5 (s := 2) kd
    simp only [Bool.and_eq_true] at this
    exact this.2
  · exact kand' kd (u1.resolve_left (by decide))
  · rfl
  · exact kd
  · rfl
  · rfl
  · exact kd
  · rfl
  · exact kand' (x := true) rfl (u1.resolve_left (by decide))
  · exact kand' (x := true) rfl (u1.resolve_left (by decide))
  · exact kd
theorem lset_imm {l : Int} {v : InV} {x y : Int} (h1 : -9223372036854775808 ≤ v.imm ∧ v.imm ≤ 9223372036854775807) (h2 : -9223372036854775808 ≤ y ∧ y ≤ 9223372036854775807) : -9223372036854775808 ≤ (lset l v x y).imm ∧ (lset l v x y).imm ≤ 9223372036854775807 := by
  unfold lset
  repeat' split
  all_goals first | exact h1 | exact h2
theorem rd_imm {N : Nat} {g : Nat → Int} (hg : Mm.Fit g) : ∀ (s : List Int) (v : InV) (z : Int) (p : Nat), -9223372036854775808 ≤ v.imm ∧ v.imm ≤ 9223372036854775807 → -9223372036854775808 ≤ (rdL N g s v z p).1.imm ∧ (rdL N g s v z p).1.imm ≤ 9223372036854775807 := by
  intro s
  induction s with
  | nil => intro v z p h; exact h
  | cons l s ih =>
    intro v z p h
    have hn := num_rng hg p (lcnt l z)
    unfold rdL
    split
    · exact h
    · split
      · exact lset_imm h hn
      · exact ih _ _ _ (lset_imm h hn)
theorem dec_c {N : Nat} {g : Nat → Int} {v : InV} {n : Int} (hg : Mm.Fit g) (h : dec N g = (v, n, 0)) : cread N g = (v, n) ∧ fitsB v = true := by
  obtain ⟨hm, hl, hp, hN, hr⟩ := dec_ok h
  have hi := rd_imm hg (N := N) (rrow (g 0)) ⟨g 0, 0, 0, 0, 0, 0, 0, 0, 0⟩ 0 1 (by dsimp only; decide)
  rw [show rdL N g (rrow (g 0)) ⟨g 0, 0, 0, 0, 0, 0, 0, 0, 0⟩ 0 1 = (v, n) from hr] at hi
  have hs := csays hm hi.1 hi.2 N g (by omega) hp
  have g0 : g 0 = v.op := (hp 0 (enc_pos v)).trans (enc_zero hm)
  refine ⟨?_, may_fits hm⟩
  unfold cread
  rw [g0, hs, hl]
theorem cdec_eq {N : Nat} {g : Nat → Int} (hg : Mm.Fit g) : cdec N g = dec N g := by
  by_cases h0 : N = 0
  · unfold cdec dec; rw [if_pos h0, if_pos h0]
  cases hr : (row (g 0)).isEmpty
  case true => unfold cdec dec; rw [if_neg h0, if_neg h0, hr]; rfl
  have hA := crd_alike (N := N) (g := g) (rrow (g 0)) ⟨g 0, 0, 0, 0, 0, 0, 0, 0, 0⟩ ⟨g 0, 0, 0, 0, 0, 0, 0, 0, 0⟩ 0 1 (row_last hr) ⟨rfl, rfl, rfl, rfl, rfl, rfl, rfl, rfl, .inl rfl⟩ (by decide)
  have hA : ((cread N g).2 = (read N g).2 ∧ (0 < (read N g).2 → Alike (cread N g).1 (read N g).1)) ∨ ((cread N g).2 = -1 ∧ (read N g).2 ≠ 0) := hA
  by_cases hd : (dec N g).2.2 = 0
  · obtain ⟨hc, hf⟩ := dec_c hg (v := (dec N g).1) (n := (dec N g).2.1) (by rw [← hd])
    obtain ⟨hm, hl, hp, hN, hrd⟩ := dec_ok (v := (dec N g).1) (n := (dec N g).2.1) (by rw [← hd])
    have hpos := enc_pos (dec N g).1
    generalize hD : dec N g = D at *
    unfold cdec
    rw [if_neg h0, hr, if_neg (by decide), hc]
    dsimp only
    rw [if_neg (by omega), if_neg (by rw [hf]; rintro (e | e); · omega
                                      · cases e), ← hd]
  · have hcn : ∀ T : Nat, 0 < T → (cread N g).2 = T → fitsB (cread N g).1 = false := by
      intro T hT hc
      cases hf : fitsB (cread N g).1
      · rfl
      · exfalso
        have hb := bk_all hg (by omega) hr (show cread N g = ((cread N g).1, (T : Int)) by rw [← hc]) hT hf
        obtain ⟨hm, hl, hp, hTN, i1, i2⟩ := hb
        have := dec_enc (N := N) (g := g) hm i1 i2 (by omega) hp
        exact hd (by rw [this])
    have hdd : dec N g = if (read N g).2 = 0 then (zero, 0, 41) else (zero, 0, 40) := by
      unfold dec at hd ⊢
      rw [if_neg h0, hr, if_neg (by decide)] at hd ⊢
      split
      · rfl
      · rename_i h1
        rw [if_neg h1] at hd
        split
        · rfl
        · rename_i h2
          rw [if_neg h2] at hd
          exact absurd rfl hd
    rw [hdd]
    unfold cdec
    rw [if_neg h0, hr, if_neg (by decide)]
    rcases hA with ⟨h1, _⟩ | ⟨h1, h2⟩
    · rw [h1]
      by_cases h3 : (read N g).2 = 0
      · rw [if_pos h3, if_pos h3]
      · rw [if_neg h3, if_neg h3, if_pos]
        by_cases h4 : (read N g).2 < 0
        · exact .inl h4
        · right
          obtain ⟨T, hT⟩ := Int.eq_ofNat_of_zero_le (show 0 ≤ (read N g).2 by omega)
          exact hcn T (by omega) (h1.trans hT)
    · rw [h1, if_neg (by decide), if_pos (.inl (by decide)), if_neg h2]
end Cc
end Go.Proofs.YtkiockffejlnhaaGreatDoor
namespace Go.Proofs.YtkiockffejlnhaaGreatDoor
open Go.RowKit
set_option linter.unusedVariables false
theorem InstAt.set1 {W : World} {B : Nat} {v : InV} (h : InstAt W B v) (x : Int) : InstAt (W.setCell ⟨B, 1, none⟩ (.int .i64 x)) B { v with a := x } :=
 ⟨(World.cell?_setCell_other _ _ _ _ (by simp)).trans h.c0, World.cell?_setCell_same _ _ _ h.c1, (World.cell?_setCell_other _ _ _ _ (by simp)).trans h.c2, (World.cell?_setCell_other _ _ _ _ (by simp)).trans h.c3, (World.cell?_setCell_other _ _ _ _ (by simp)).trans h.c4, (World.cell?_setCell_other _ _ _ _ (by simp)).trans h.c5, (World.cell?_setCell_other _ _ _ _ (by simp)).trans h.c6, (World.cell?_setCell_other _ _ _ _ (by simp)).trans h.c7, (World.cell?_setCell_other _ _ _ _ (by simp)).trans h.c8, fun j => (World.frozen?_setCell _ _ _ _).trans (h.fz j)⟩
theorem InstAt.set2 {W : World} {B : Nat} {v : InV} (h : InstAt W B v) (x : Int) : InstAt (W.setCell ⟨B, 2, none⟩ (.int .i64 x)) B { v with b := x } :=
 ⟨(World.cell?_setCell_other _ _ _ _ (by simp)).trans h.c0, (World.cell?_setCell_other _ _ _ _ (by simp)).trans h.c1, World.cell?_setCell_same _ _ _ h.c2, (World.cell?_setCell_other _ _ _ _ (by simp)).trans h.c3, (World.cell?_setCell_other _ _ _ _ (by simp)).trans h.c4, (World.cell?_setCell_other _ _ _ _ (by simp)).trans h.c5, (World.cell?_setCell_other _ _ _ _ (by simp)).trans h.c6, (World.cell?_setCell_other _ _ _ _ (by simp)).trans h.c7, (World.cell?_setCell_other _ _ _ _ (by simp)).trans h.c8, fun j => (World.frozen?_setCell _ _ _ _).trans (h.fz j)⟩
theorem InstAt.set6 {W : World} {B : Nat} {v : InV} (h : InstAt W B v) (x : Int) : InstAt (W.setCell ⟨B, 6, none⟩ (.int .i64 x)) B { v with scale := x } :=
 ⟨(World.cell?_setCell_other _ _ _ _ (by simp)).trans h.c0, (World.cell?_setCell_other _ _ _ _ (by simp)).trans h.c1, (World.cell?_setCell_other _ _ _ _ (by simp)).trans h.c2, (World.cell?_setCell_other _ _ _ _ (by simp)).trans h.c3, (World.cell?_setCell_other _ _ _ _ (by simp)).trans h.c4, (World.cell?_setCell_other _ _ _ _ (by simp)).trans h.c5, World.cell?_setCell_same _ _ _ h.c6, (World.cell?_setCell_other _ _ _ _ (by simp)).trans h.c7, (World.cell?_setCell_other _ _ _ _ (by simp)).trans h.c8, fun j => (World.frozen?_setCell _ _ _ _).trans (h.fz j)⟩
theorem InstAt.set0 {W : World} {B : Nat} {v : InV} (h : InstAt W B v) (x : Int) : InstAt (W.setCell ⟨B, 0, none⟩ (.int .i64 x)) B { v with op := x } :=
 ⟨World.cell?_setCell_same _ _ _ h.c0, (World.cell?_setCell_other _ _ _ _ (by simp)).trans h.c1, (World.cell?_setCell_other _ _ _ _ (by simp)).trans h.c2, (World.cell?_setCell_other _ _ _ _ (by simp)).trans h.c3, (World.cell?_setCell_other _ _ _ _ (by simp)).trans h.c4, (World.cell?_setCell_other _ _ _ _ (by simp)).trans h.c5, (World.cell?_setCell_other _ _ _ _ (by simp)).trans h.c6, (World.cell?_setCell_other _ _ _ _ (by simp)).trans h.c7, (World.cell?_setCell_other _ _ _ _ (by simp)).trans h.c8, fun j => (World.frozen?_setCell _ _ _ _).trans (h.fz j)⟩
theorem InstAt.set8 {W : World} {B : Nat} {v : InV} (h : InstAt W B v) (x : Int) : InstAt (W.setCell ⟨B, 8, none⟩ (.int .i64 x)) B { v with label := x } :=
 ⟨(World.cell?_setCell_other _ _ _ _ (by simp)).trans h.c0, (World.cell?_setCell_other _ _ _ _ (by simp)).trans h.c1, (World.cell?_setCell_other _ _ _ _ (by simp)).trans h.c2, (World.cell?_setCell_other _ _ _ _ (by simp)).trans h.c3, (World.cell?_setCell_other _ _ _ _ (by simp)).trans h.c4, (World.cell?_setCell_other _ _ _ _ (by simp)).trans h.c5, (World.cell?_setCell_other _ _ _ _ (by simp)).trans h.c6, (World.cell?_setCell_other _ _ _ _ (by simp)).trans h.c7, World.cell?_setCell_same _ _ _ h.c8, fun j => (World.frozen?_setCell _ _ _ _).trans (h.fz j)⟩
def put9 (W : World) (R : Nat) (v : InV) : World :=
 ((((((((W.setCell ⟨R, 0, none⟩ (.int .i64 v.op)).setCell ⟨R, 1, none⟩ (.int .i64 v.a)).setCell ⟨R, 2, none⟩ (.int .i64 v.b)).setCell ⟨R, 3, none⟩ (.int .i64 v.c)).setCell ⟨R, 4, none⟩ (.int .i64 v.k)).setCell ⟨R, 5, none⟩ (.int .i64 v.sub)).setCell ⟨R, 6, none⟩ (.int .i64 v.scale)).setCell ⟨R, 7, none⟩ (.int .i64 v.imm)).setCell ⟨R, 8, none⟩ (.int .i64 v.label)
theorem InstAt.put9 {W : World} {R : Nat} {v0 : InV} (h : InstAt W R v0) (v : InV) : InstAt (put9 W R v) R v :=
 ((((((((h.set0 v.op).set1 v.a).set2 v.b).set3 v.c).set4 v.k).set5 v.sub).set6 v.scale).set7 v.imm).set8 v.label
theorem grown_put9 (W : World) (R : Nat) (v : InV) : W.grownBy (put9 W R v) (some R) :=
 gtr (gtr (gtr (gtr (gtr (gtr (gtr (gtr (grown_setCell _ _ _ _) (grown_setCell _ _ _ _)) (grown_setCell _ _ _ _)) (grown_setCell _ _ _ _)) (grown_setCell _ _ _ _)) (grown_setCell _ _ _ _)) (grown_setCell _ _ _ _)) (grown_setCell _ _ _ _)) (grown_setCell _ _ _ _)
end Go.Proofs.YtkiockffejlnhaaGreatDoor
