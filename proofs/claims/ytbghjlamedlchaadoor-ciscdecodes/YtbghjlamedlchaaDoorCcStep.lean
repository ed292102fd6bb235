/- The bytes of an instruction of C64 say it. -/
import Derived.Test.YtbghjlamedlchaaDoorG1
namespace Go.Proofs.YtbghjlamedlchaaDoor
set_option linter.unusedVariables false

namespace Cc
theorem rd_step {N : Nat} {g : Nat → Int} {l : Int} {s : List Int} {v : InV} {z : Int} {p : Nat} (hN : p + lcnt l z ≤ N) (hz : ¬ (2 < lsz l z (g p) ∨ (lsz l z (g p) = 2 ∧ v.op ≠ 1))) :
    rdL N g (l :: s) v z p = rdL N g s (lset l v (g p) (num g p (lcnt l z))) (lsz l z (g p)) (p + lcnt l z) := by
  rw [rdL]
  rw [if_neg (by omega), if_neg hz]
theorem step_a {N : Nat} {g : Nat → Int} {s : List Int} {v : InV} {z a b : Int} {p : Nat} (hN : p + 1 ≤ N) (hz : ¬ (2 < z ∨ (z = 2 ∧ v.op ≠ 1))) (hx : g p = (16 * a + b) % 256) (a1 : 0 ≤ a) (a2 : a < 16) (b1 : 0 ≤ b) (b2 : b < 16) :
    rdL N g (97 :: s) v z p = rdL N g s { v with a := a, b := b } z (p + 1) := by
  rw [rd_step (by simpa [lcnt] using hN) (by simpa [lsz] using hz)]
  have e1 : g p / 16 = a := by omega
  have e2 : g p % 16 = b := by omega
  simp [lset, lsz, lcnt, e1, e2]
theorem step_n {N : Nat} {g : Nat → Int} {s : List Int} {v : InV} {z z' a : Int} {p : Nat} (hN : p + 1 ≤ N) (z1 : 0 ≤ z') (hz : ¬ (2 < z' ∨ (z' = 2 ∧ v.op ≠ 1))) (hx : g p = (16 * a + z') % 256) (a1 : 0 ≤ a) (a2 : a < 16) :
    rdL N g (110 :: s) v z p = rdL N g s { v with a := a } z' (p + 1) := by
  have z2 : z' ≤ 2 := by omega
  have e1 : g p / 16 = a := by omega
  have e2 : g p % 16 = z' := by omega
  rw [rd_step (by simpa [lcnt] using hN) (by simpa [lsz, e2] using hz)]
  simp [lset, lsz, lcnt, e1, e2]
theorem step_j {N : Nat} {g : Nat → Int} {s : List Int} {v : InV} {z z' : Int} {p : Nat} (hN : p + 1 ≤ N) (hz : ¬ (2 < z' ∨ (z' = 2 ∧ v.op ≠ 1))) (hx : g p = z') :
    rdL N g (106 :: s) v z p = rdL N g s v z' (p + 1) := by
  rw [rd_step (by simpa [lcnt] using hN) (by simpa [lsz, hx] using hz)]
  simp [lset, lsz, lcnt, hx]
theorem step_J {N : Nat} {g : Nat → Int} {s : List Int} {v : InV} {z z' sub : Int} {p : Nat} (hN : p + 1 ≤ N) (z1 : 0 ≤ z') (hz : ¬ (2 < z' ∨ (z' = 2 ∧ v.op ≠ 1))) (hx : g p = (16 * (sub - 11) + z') % 256) (a1 : 11 ≤ sub) (a2 : sub ≤ 16) :
    rdL N g (74 :: s) v z p = rdL N g s { v with sub := sub } z' (p + 1) := by
  have z2 : z' ≤ 2 := by omega
  have e1 : g p / 16 + 11 = sub := by omega
  have e2 : g p % 16 = z' := by omega
  rw [rd_step (by simpa [lcnt] using hN) (by simpa [lsz, e2] using hz)]
  simp [lset, lsz, lcnt, e1, e2]
theorem step_c {N : Nat} {g : Nat → Int} {s : List Int} {v : InV} {z c sc : Int} {p : Nat} (hN : p + 1 ≤ N) (hz : ¬ (2 < z ∨ (z = 2 ∧ v.op ≠ 1))) (hx : g p = (16 * c + lg sc) % 256) (a1 : 0 ≤ c) (a2 : c < 16) (hs : sc = 1 ∨ sc = 2 ∨ sc = 4 ∨ sc = 8 ∨ sc = 0) :
    rdL N g (99 :: s) v z p = rdL N g s { v with c := c, scale := sc } z (p + 1) := by
  have hl : 0 ≤ lg sc ∧ lg sc < 16 ∧ scl (lg sc) = sc := by rcases hs with rfl | rfl | rfl | rfl | rfl <;> decide
  have e1 : g p / 16 = c := by omega
  have e2 : g p % 16 = lg sc := by omega
  rw [rd_step (by simpa [lcnt] using hN) (by simpa [lsz] using hz)]
  simp [lset, lsz, lcnt, e1, e2, hl.2.2]
theorem step_K {N : Nat} {g : Nat → Int} {s : List Int} {v : InV} {z k : Int} {p : Nat} (hN : p + 1 ≤ N) (hz : ¬ (2 < z ∨ (z = 2 ∧ v.op ≠ 1))) (hx : g p = k % 256) (a1 : 0 ≤ k) (a2 : k < 256) :
    rdL N g (75 :: s) v z p = rdL N g s { v with k := k } z (p + 1) := by
  have e1 : g p = k := by omega
  rw [rd_step (by simpa [lcnt] using hN) (by simpa [lsz] using hz)]
  simp [lset, lsz, lcnt, e1]
theorem step_S {N : Nat} {g : Nat → Int} {s : List Int} {v : InV} {z k : Int} {p : Nat} (hN : p + 1 ≤ N) (hz : ¬ (2 < z ∨ (z = 2 ∧ v.op ≠ 1))) (hx : g p = k % 256) (a1 : 0 ≤ k) (a2 : k < 256) :
    rdL N g (83 :: s) v z p = rdL N g s { v with sub := k } z (p + 1) := by
  have e1 : g p = k := by omega
  rw [rd_step (by simpa [lcnt] using hN) (by simpa [lsz] using hz)]
  simp [lset, lsz, lcnt, e1]
theorem step_i {N : Nat} {g : Nat → Int} {s : List Int} {v : InV} {z n : Int} {p : Nat} (hN : p + cnt z ≤ N) (hz : ¬ (2 < z ∨ (z = 2 ∧ v.op ≠ 1))) (hx : num g p (cnt z) = n) :
    rdL N g (105 :: s) v z p = rdL N g s { v with imm := n } z (p + cnt z) := by
  rw [rd_step (by simpa [lcnt] using hN) (by simpa [lsz] using hz)]
  simp [lset, lsz, lcnt, hx]
theorem step_4 {N : Nat} {g : Nat → Int} {s : List Int} {v : InV} {z n : Int} {p : Nat} (hN : p + 4 ≤ N) (hz : ¬ (2 < z ∨ (z = 2 ∧ v.op ≠ 1))) (hx : num g p 4 = n) :
    rdL N g (52 :: s) v z p = rdL N g s { v with imm := n } z (p + 4) := by
  rw [rd_step (by simpa [lcnt] using hN) (by simpa [lsz] using hz)]
  simp [lset, lsz, lcnt, hx]

theorem codes {v : InV} (h : (row v.op).isEmpty = false) : v.op = 1 ∨ v.op = 3 ∨ v.op = 4 ∨ v.op = 5 ∨ v.op = 6 ∨ v.op = 7 ∨ v.op = 8 ∨ v.op = 10 ∨ v.op = 11 ∨ v.op = 12 ∨ v.op = 13 ∨ v.op = 14 ∨ v.op = 15 ∨ v.op = 16 ∨ v.op = 17 ∨ v.op = 18 ∨ v.op = 19 ∨ v.op = 22 ∨ v.op = 23 ∨ v.op = 24 ∨ v.op = 25 ∨ v.op = 26 ∨ v.op = 27 ∨ v.op = 28 ∨ v.op = 29 := by
  by_cases hh : v.op = 1 ∨ v.op = 3 ∨ v.op = 4 ∨ v.op = 5 ∨ v.op = 6 ∨ v.op = 7 ∨ v.op = 8 ∨ v.op = 10 ∨ v.op = 11 ∨ v.op = 12 ∨ v.op = 13 ∨ v.op = 14 ∨ v.op = 15 ∨ v.op = 16 ∨ v.op = 17 ∨ v.op = 18 ∨ v.op = 19 ∨ v.op = 22 ∨ v.op = 23 ∨ v.op = 24 ∨ v.op = 25 ∨ v.op = 26 ∨ v.op = 27 ∨ v.op = 28 ∨ v.op = 29
  · exact hh
  · exfalso
    have e : row v.op = [] := by
      unfold row
      rw [if_neg (by omega), if_neg (by omega), if_neg (by omega), if_neg (by omega), if_neg (by omega), if_neg (by omega), if_neg (by omega), if_neg (by omega), if_neg (by omega), if_neg (by omega), if_neg (by omega), if_neg (by omega), if_neg (by omega), if_neg (by omega), if_neg (by omega)]
    rw [e] at h
    cases h

/-- what an instruction's numbers are -/
structure Rng (v : InV) : Prop where
  rw : (row v.op).isEmpty = false
  lb : v.label = 0
  a1 : 0 ≤ v.a
  a2 : v.a < 16
  b1 : 0 ≤ v.b
  b2 : v.b < 16
  c1 : 0 ≤ v.c
  c2 : v.c < 16
  u0 : usesB v.op 65 = true ∨ v.a = 0
  u1 : usesB v.op 66 = true ∨ v.b = 0
  u2 : usesB v.op 67 = true ∨ (v.c = 0 ∧ v.scale = 0)
  u3 : usesB v.op 75 = true ∨ v.k = 0
  u4 : usesB v.op 83 = true ∨ v.sub = 0
  u5 : usesB v.op 73 = true ∨ v.imm = 0
  sm : v.op = 1 ∨ (-2147483648 ≤ v.imm ∧ v.imm < 2147483648)
  kd : kindB v = true
theorem rng {v : InV} (h : mayB v = true) : Rng v := by
  unfold mayB Rc.regB Rc.smallB at h
  simp only [Bool.and_eq_true, Bool.or_eq_true, beq_iff_eq, decide_eq_true_eq, Bool.not_eq_true'] at h
  obtain ⟨⟨⟨⟨⟨⟨⟨⟨⟨⟨⟨⟨h0, h1⟩, h2⟩, h3⟩, h4⟩, h5⟩, h6⟩, h7⟩, h8⟩, h9⟩, h10⟩, h11⟩, h12⟩ := h
  exact ⟨h0, h1, h2.1, h2.2, h3.1, h3.2, h4.1, h4.2, h5, h6, h7, h8, h9, h10, h11, h12⟩
theorem of_rng {v : InV} (r : Rng v) : mayB v = true := by
  unfold mayB Rc.regB Rc.smallB
  simp only [Bool.and_eq_true, Bool.or_eq_true, beq_iff_eq, decide_eq_true_eq, Bool.not_eq_true']
  exact ⟨⟨⟨⟨⟨⟨⟨⟨⟨⟨⟨⟨r.rw, r.lb⟩, r.a1, r.a2⟩, r.b1, r.b2⟩, r.c1, r.c2⟩, r.u0⟩, r.u1⟩, r.u2⟩, r.u3⟩, r.u4⟩, r.u5⟩, r.sm⟩, r.kd⟩

theorem imm_rng {sub k n : Int} (h : immB sub k n = true) : 1 ≤ sub ∧ sub ≤ 16 ∧ 2 ≤ k ∧ k ≤ 9 := by
  unfold immB Wd.intB at h
  simp only [Bool.and_eq_true, decide_eq_true_eq] at h
  have := Rc.bin_rng h.1.1.1.1.2
  omega
theorem bin_rng {v : InV} (h : binB v = true) : 1 ≤ v.sub ∧ v.sub ≤ 16 ∧ 1 ≤ v.k ∧ v.k ≤ 11 := by
  unfold binB at h
  rw [Bool.and_eq_true] at h
  exact Rc.bin_rng h.1
theorem binM_rng {sub k : Int} {x y : Bool} (h : (Wd.hasBinB sub k && x && y) = true) : 1 ≤ sub ∧ sub ≤ 16 ∧ 1 ≤ k ∧ k ≤ 11 := by
  rw [Bool.and_eq_true, Bool.and_eq_true] at h
  exact Rc.bin_rng h.1.1
theorem scl_rng {v : InV} (h : sclB v = true) : v.scale = 1 ∨ v.scale = 2 ∨ v.scale = 4 ∨ v.scale = 8 ∨ v.scale = 0 := by
  unfold sclB at h
  simp only [Bool.or_eq_true, Bool.and_eq_true, beq_iff_eq] at h
  omega
theorem cmp_rng {s : Int} (h : Wd.cmpB s = true) : 11 ≤ s ∧ s ≤ 16 := by unfold Wd.cmpB at h; simpa using h

end Cc
end Go.Proofs.YtbghjlamedlchaaDoor
