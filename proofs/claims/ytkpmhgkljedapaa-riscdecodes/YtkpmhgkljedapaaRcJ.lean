/- What risc's forms say of instructions: plain. -/
import Derived.Test.YtkpmhgkljedapaaRcI
import Derived.Test.YtkpmhgkljedapaaRcR
namespace Go.Proofs.Ytkpmhgkljedapaa
open Go.RowKit
set_option linter.unusedVariables false

namespace Rc
theorem may_of {v : InV} (h0 : (fld v.op).data.isEmpty = false) (r : Rng v) : mayB v = true := by
  unfold mayB regB smallB
  simp only [Bool.and_eq_true, Bool.or_eq_true, beq_iff_eq, decide_eq_true_eq]
  exact ⟨⟨⟨⟨⟨⟨⟨⟨⟨⟨⟨⟨⟨by rw [h0]; rfl, r.sc⟩, r.lb⟩, r.a1, r.a2⟩, r.b1, r.b2⟩, r.c1, r.c2⟩, r.i1, r.i2⟩, r.u0⟩, r.u1⟩, r.u2⟩, r.u3⟩, r.u4⟩, r.u5⟩, r.kd⟩

/-- an instruction's form -/
theorem pk_may {v : InV} (h : mayB v = true) : pk v = ⟨v.op, v.a, v.b, cc v, nn v⟩ := by
  have r := rng h
  have hc := codes v h
  obtain ⟨op, a, b, c, k, sub, sc, imm, lb⟩ := v
  obtain ⟨h1, h2, a1, a2, b1, b2, c1, c2, i1, i2, u0, u1, u2, u3, u4, u5, kd⟩ := r
  dsimp only at *
  rcases hc with rfl | rfl | rfl | rfl | rfl | rfl | rfl | rfl | rfl | rfl | rfl | rfl | rfl | rfl | rfl | rfl | rfl | rfl | rfl | rfl
  all_goals try (replace u0 := u0.resolve_left (by decide); subst u0)
  all_goals try (replace u1 := u1.resolve_left (by decide); subst u1)
  all_goals try (replace u2 := u2.resolve_left (by decide); subst u2)
  all_goals try (replace u5 := u5.resolve_left (by decide); subst u5)
  all_goals try (replace kd := bin_rng (show Wd.hasBinB sub k = true from kd))
  all_goals try (replace kd := un_rng (show Wd.hasUnB sub k = true from kd))
  all_goals try (replace kd := conv_rng (show (Wd.numB sub && Wd.numB k) = true from kd))
  all_goals
    unfold pk cc nn
    simp only [Int.reduceEq, or_self, or_false, or_true, if_true, if_false, FmV.mk.injEq, true_and]
    try (unfold wrap64; omega)

theorem unpk_pk {v : InV} (h : mayB v = true) : unpk (pk v) = v := by
  rw [pk_may h]
  have r := rng h
  have hc := codes v h
  obtain ⟨op, a, b, c, k, sub, sc, imm, lb⟩ := v
  obtain ⟨h1, h2, a1, a2, b1, b2, c1, c2, i1, i2, u0, u1, u2, u3, u4, u5, kd⟩ := r
  dsimp only at *
  subst h1 h2
  rcases hc with rfl | rfl | rfl | rfl | rfl | rfl | rfl | rfl | rfl | rfl | rfl | rfl | rfl | rfl | rfl | rfl | rfl | rfl | rfl | rfl
  all_goals try (replace u0 := u0.resolve_left (by decide))
  all_goals try (replace u1 := u1.resolve_left (by decide))
  all_goals try (replace u2 := u2.resolve_left (by decide))
  all_goals try (replace u3 := u3.resolve_left (by decide))
  all_goals try (replace u4 := u4.resolve_left (by decide))
  all_goals try (replace u5 := u5.resolve_left (by decide))
  all_goals try (replace kd := bin_rng (show Wd.hasBinB sub k = true from kd))
  all_goals try (replace kd := un_rng (show Wd.hasUnB sub k = true from kd))
  all_goals try (replace kd := conv_rng (show (Wd.numB sub && Wd.numB k) = true from kd))
  all_goals
    unfold unpk cc nn
    simp only [Int.reduceEq, or_self, or_false, or_true, if_true, if_false, InV.mk.injEq, true_and, and_true]
    try omega

theorem E2_of {v : InV} {f : FmV} (h : unpk f = v) : E2 v f := by
  subst h; exact ⟨rfl, rfl, rfl, rfl, rfl, rfl, rfl, rfl, rfl⟩
theorem E1_of {v : InV} {f : FmV} (h : pk v = f) : E1 v f := by
  subst h; exact ⟨rfl, rfl, rfl, rfl, rfl⟩
theorem of_E1 {v : InV} {f : FmV} (h : E1 v f) : pk v = f := by
  unfold E1 at h
  generalize pk v = p at h
  obtain ⟨_, _, _, _, _⟩ := p
  obtain ⟨_, _, _, _, _⟩ := f
  obtain ⟨rfl, rfl, rfl, rfl, rfl⟩ := h
  rfl
theorem of_E2 {v : InV} {f : FmV} (h : E2 v f) : unpk f = v := by
  unfold E2 at h
  generalize unpk f = p at h
  obtain ⟨_, _, _, _, _, _, _, _, _⟩ := p
  obtain ⟨_, _, _, _, _, _, _, _, _⟩ := v
  obtain ⟨rfl, rfl, rfl, rfl, rfl, rfl, rfl, rfl, rfl⟩ := h
  rfl

theorem ag_of {v : InV} (h : mayB v = true) : Ag v (pk v) := by
  refine ⟨E1_of rfl, E2_of (unpk_pk h), ?_, ?_⟩
  · rw [pk_may h]
    have r := rng h
    have hc := codes v h
    have hk := r.kd
    unfold smallB nn
    dsimp only
    rw [Bool.and_eq_true, decide_eq_true_eq, decide_eq_true_eq]
    have := r.i1
    have := r.i2
    split
    · rename_i ho
      rcases ho with ho | ho | ho
      · unfold kindB at hk; rw [if_pos ho] at hk; have := bin_rng hk; omega
      · unfold kindB at hk; rw [if_neg (by omega), if_pos ho] at hk; have := un_rng hk; omega
      · unfold kindB at hk; rw [if_neg (by omega), if_neg (by omega), if_pos ho] at hk; have := conv_rng hk; omega
    · omega
  · have r := rng h
    have hc := codes v h
    unfold fitB regB
    simp only [Bool.and_eq_true, Bool.not_eq_true', beq_eq_false_iff_ne, ne_eq, decide_eq_true_eq]
    exact ⟨⟨⟨⟨by omega, r.a1, r.a2⟩, r.b1, r.b2⟩, r.c1, r.c2⟩, r.kd⟩

theorem of_ag {v : InV} (h : Ag v (pk v)) : mayB v = true := by
  obtain ⟨-, h2, h3, h4⟩ := h
  have e := of_E2 h2
  obtain ⟨op, a, b, c, k, sub, sc, imm, lb⟩ := v
  unfold fitB regB at h4
  simp only [Bool.and_eq_true, Bool.not_eq_true', beq_eq_false_iff_ne, ne_eq, decide_eq_true_eq] at h4
  obtain ⟨⟨⟨⟨p0, p1, p2⟩, p3, p4⟩, p5, p6⟩, kd⟩ := h4
  unfold smallB at h3
  rw [Bool.and_eq_true, decide_eq_true_eq, decide_eq_true_eq] at h3
  clear h2
  rcases ops op with rfl | rfl | rfl | rfl | rfl | rfl | rfl | rfl | rfl | rfl | rfl | rfl | rfl | rfl | rfl | rfl | rfl | rfl | rfl | rfl | hn
  case inr.inr.inr.inr.inr.inr.inr.inr.inr.inr.inr.inr.inr.inr.inr.inr.inr.inr.inr.inr =>
    exfalso
    simp only [beq_eq_false_iff_ne, ne_eq] at hn
    have : pk ⟨op, a, b, c, k, sub, sc, imm, lb⟩ = ⟨0, 0, 0, 0, 0⟩ := by
      unfold pk
      simp only [hn, or_self, if_false]
    rw [this] at e
    injection e with e0
    exact p0 e0.symm
  all_goals
    unfold pk at e h3
    simp only [Int.reduceEq, or_self, or_false, or_true, if_true, if_false] at e h3
    unfold unpk at e
    simp only [Int.reduceEq, or_self, or_false, or_true, if_true, if_false, InV.mk.injEq, true_and] at e
    refine may_of (by dsimp only; decide) ⟨?_, ?_, p1, p2, p3, p4, p5, p6, ?_, ?_, ?_, ?_, ?_, ?_, ?_, ?_, kd⟩
    all_goals first | exact .inl (by dsimp only; decide) | (dsimp only; omega) | (right; dsimp only; omega)

theorem ag_may (v : InV) : mayB v = true ↔ Ag v (pk v) := ⟨ag_of, of_ag⟩

theorem pk_rng {v : InV} (h1 : -9223372036854775808 ≤ v.imm) (h2 : v.imm ≤ 9223372036854775807) : -9223372036854775808 ≤ (pk v).n ∧ (pk v).n ≤ 9223372036854775807 := by
  have hw : ∀ x, -9223372036854775808 ≤ wrap64 x ∧ wrap64 x ≤ 9223372036854775807 := fun x => by unfold wrap64; omega
  have := hw (v.k + 256 * v.sub)
  unfold pk
  repeat' split
  all_goals (dsimp only; omega)

theorem fb_enc {v : InV} (h : mayB v = true) (i : Nat) (hi : i < 8) : fb (pk v) i = enc v i := by
  rw [pk_may h]
  unfold fb enc
  dsimp only
  repeat' split
  all_goals first | rfl | (rw [show (4294967296 : Int) = 256 ^ 4 from rfl, Mm.by8_mod _ _ 4 (by omega)])

/-- bytes that are a form's are the form's bytes -/
theorem fb_fo {g : Nat → Int} (hg : Mm.Fit g) (i : Nat) (hi : i < 8) : fb (fo g) i = g i := by
  have r := Mm.ld_rng hg 4 4
  have hgi := hg i
  unfold fb fo
  dsimp only
  by_cases h0 : i = 0
  · rw [if_pos h0]; subst h0; omega
  by_cases h1 : i = 1
  · rw [if_neg h0, if_pos h1]; subst h1; omega
  by_cases h2 : i = 2
  · rw [if_neg h0, if_neg h1, if_pos h2]; subst h2; omega
  by_cases h3 : i = 3
  · rw [if_neg h0, if_neg h1, if_neg h2, if_pos h3]; subst h3; omega
  rw [if_neg h0, if_neg h1, if_neg h2, if_neg h3, ← Mm.by8_mod _ _ 4 (by omega)]
  have e : s32 (Mm.ld g 4 4) % 256 ^ 4 = Mm.ld g 4 4 := by
    have : (256 : Int) ^ 4 = 4294967296 := rfl
    unfold s32; omega
  rw [e]
  have h4 := hg 4
  have h5 := hg 5
  have h6 := hg 6
  have h7 := hg 7
  have el : Mm.ld g 4 4 = g 4 + g 5 * 256 + g 6 * 65536 + g 7 * 16777216 := by
    show 0 + g 4 * 1 + g 5 * 256 + g 6 * 65536 + g 7 * 16777216 = _
    omega
  rw [el]
  have : i = 4 ∨ i = 5 ∨ i = 6 ∨ i = 7 := by omega
  rcases this with rfl | rfl | rfl | rfl
  · show (g 4 + g 5 * 256 + g 6 * 65536 + g 7 * 16777216) / 1 % 256 = g 4; omega
  · show (g 4 + g 5 * 256 + g 6 * 65536 + g 7 * 16777216) / 256 % 256 = g 5; omega
  · show (g 4 + g 5 * 256 + g 6 * 65536 + g 7 * 16777216) / 65536 % 256 = g 6; omega
  · show (g 4 + g 5 * 256 + g 6 * 65536 + g 7 * 16777216) / 16777216 % 256 = g 7; omega

theorem pk_rd {g : Nat → Int} (h : okB g = true) : pk (rd g) = fo g := by
  have hm : mayB (rd g) = true := by unfold okB at h; rw [Bool.and_eq_true] at h; exact h.2
  rw [pk_may hm]
  unfold fo
  by_cases hA : g 0 = 4 ∨ g 0 = 7 ∨ g 0 = 8
  · rw [rd_1 hA]
    unfold cc nn
    dsimp only
    rw [if_neg (by omega), if_pos hA]
    congr 1
    omega
  · by_cases hB : g 0 = 11 ∨ g 0 = 13
    · rw [rd_2 hB]
      unfold cc nn
      dsimp only
      rw [if_pos hB, if_neg hA]
    · rw [rd_3 hA hB]
      unfold cc nn
      dsimp only
      rw [if_neg hB, if_neg hA]

/-- Decode takes just what is an instruction's bytes -/
theorem ag_ok {g : Nat → Int} (hg : Mm.Fit g) : okB g = true ↔ Ag (unpk (fo g)) (fo g) := by
  constructor
  · intro h
    have hm : mayB (rd g) = true := by unfold okB at h; rw [Bool.and_eq_true] at h; exact h.2
    have e := pk_rd h
    have a := ag_of hm
    rw [← e, unpk_pk hm]
    exact a
  · intro h
    have e : pk (unpk (fo g)) = fo g := of_E1 h.1
    have hm : mayB (unpk (fo g)) = true := of_ag (by rw [e]; exact h)
    have hb : ∀ i, i < 8 → g i = enc (unpk (fo g)) i := fun i hi => by rw [← fb_enc hm i hi, e, fb_fo hg i hi]
    rw [(rd_congr hb).2]
    exact ok_enc _ hm
theorem unpk_ok {g : Nat → Int} (h : okB g = true) : unpk (fo g) = rd g := by
  have hm : mayB (rd g) = true := by unfold okB at h; rw [Bool.and_eq_true] at h; exact h.2
  rw [← pk_rd h, unpk_pk hm]
end Rc
end Go.Proofs.Ytkpmhgkljedapaa
