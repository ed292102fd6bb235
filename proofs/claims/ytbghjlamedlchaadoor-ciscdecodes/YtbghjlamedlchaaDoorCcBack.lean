/- What follows of C64's bytes: there and back; nothing behind them is looked at; cut short they are too few. -/
import Derived.Test.YtbghjlamedlchaaDoorCcSays
namespace Go.Proofs.YtbghjlamedlchaaDoor
set_option linter.unusedVariables false

namespace Cc
theorem says {v : InV} (h : mayB v = true) (i1 : -9223372036854775808 ≤ v.imm) (i2 : v.imm ≤ 9223372036854775807) : Says v := by
  have r := rng h
  have hc := codes r.rw
  obtain ⟨op, a, b, c, k, sub, sc, imm, lb⟩ := v
  obtain ⟨_, hl, a1, a2, b1, b2, c1, c2, u0, u1, u2, u3, u4, u5, sm, kd⟩ := r
  dsimp only at *
  subst hl
  rcases hc with rfl | rfl | rfl | rfl | rfl | rfl | rfl | rfl | rfl | rfl | rfl | rfl | rfl | rfl | rfl | rfl | rfl | rfl | rfl | rfl | rfl | rfl | rfl | rfl | rfl
  · obtain rfl : b = 0 := u1.resolve_left (by decide)
    obtain rfl : k = 0 := u3.resolve_left (by decide)
    obtain rfl : sub = 0 := u4.resolve_left (by decide)
    obtain ⟨rfl, rfl⟩ : c = 0 ∧ sc = 0 := u2.resolve_left (by decide)
    by_cases z0 : -128 ≤ imm ∧ imm < 128
    · exact says_1_0 a1 a2 z0.1 z0.2
    · by_cases z1 : -2147483648 ≤ imm ∧ imm < 2147483648
      · exact says_1_1 a1 a2 z1.1 z1.2 z0
      · exact says_1_2 a1 a2 i1 i2 z1
  · obtain rfl : k = 0 := u3.resolve_left (by decide)
    obtain rfl : sub = 0 := u4.resolve_left (by decide)
    obtain rfl : imm = 0 := u5.resolve_left (by decide)
    obtain ⟨rfl, rfl⟩ : c = 0 ∧ sc = 0 := u2.resolve_left (by decide)
    exact says_3 a1 a2 b1 b2
  · obtain rfl : imm = 0 := u5.resolve_left (by decide)
    obtain ⟨rfl, rfl⟩ : c = 0 ∧ sc = 0 := u2.resolve_left (by decide)
    have q := bin_rng (show binB _ = true from kd)
    dsimp only at q
    exact says_4 a1 a2 b1 b2 (by omega) (by omega) (by omega) (by omega)
  · obtain rfl : b = 0 := u1.resolve_left (by decide)
    obtain ⟨rfl, rfl⟩ : c = 0 ∧ sc = 0 := u2.resolve_left (by decide)
    have q := imm_rng (show immB sub k imm = true from kd)
    have sm := sm.resolve_left (by decide)
    by_cases z0 : -128 ≤ imm ∧ imm < 128
    · exact says_5_0 a1 a2 (by omega) (by omega) (by omega) (by omega) z0.1 z0.2
    · exact says_5_1 a1 a2 (by omega) (by omega) (by omega) (by omega) sm.1 sm.2 z0
  · obtain ⟨rfl, rfl⟩ : c = 0 ∧ sc = 0 := u2.resolve_left (by decide)
    have q := binM_rng (show (Wd.hasBinB sub k && _ && _) = true from kd)
    have sm := sm.resolve_left (by decide)
    exact says_6 a1 a2 b1 b2 (by omega) (by omega) (by omega) (by omega) sm.1 sm.2
  · obtain rfl : b = 0 := u1.resolve_left (by decide)
    obtain rfl : imm = 0 := u5.resolve_left (by decide)
    obtain ⟨rfl, rfl⟩ : c = 0 ∧ sc = 0 := u2.resolve_left (by decide)
    have q := Rc.un_rng (show Wd.hasUnB sub k = true from kd)
    exact says_7 a1 a2 (by omega) (by omega) (by omega) (by omega)
  · obtain rfl : imm = 0 := u5.resolve_left (by decide)
    obtain ⟨rfl, rfl⟩ : c = 0 ∧ sc = 0 := u2.resolve_left (by decide)
    have q := Rc.conv_rng (show (Wd.numB sub && Wd.numB k) = true from kd)
    exact says_8 a1 a2 b1 b2 (by omega) (by omega) (by omega) (by omega)
  · obtain rfl : k = 0 := u3.resolve_left (by decide)
    obtain rfl : sub = 0 := u4.resolve_left (by decide)
    have q := scl_rng (show sclB _ = true from kd)
    have sm := sm.resolve_left (by decide)
    exact says_10 a1 a2 b1 b2 c1 c2 q sm.1 sm.2
  · obtain rfl : sub = 0 := u4.resolve_left (by decide)
    obtain ⟨rfl, rfl⟩ : c = 0 ∧ sc = 0 := u2.resolve_left (by decide)
    have q := Rc.word_rng (show Wd.wordB k = true from kd)
    have sm := sm.resolve_left (by decide)
    exact says_11 a1 a2 b1 b2 (by omega) (by omega) sm.1 sm.2
  · obtain rfl : sub = 0 := u4.resolve_left (by decide)
    have q2 := (Bool.and_eq_true _ _).mp (show (sclB _ && Wd.wordB k) = true from kd)
    have q := scl_rng q2.1
    have q3 := Rc.word_rng q2.2
    have sm := sm.resolve_left (by decide)
    exact says_12 a1 a2 b1 b2 c1 c2 q (by omega) (by omega) sm.1 sm.2
  · obtain rfl : sub = 0 := u4.resolve_left (by decide)
    obtain ⟨rfl, rfl⟩ : c = 0 ∧ sc = 0 := u2.resolve_left (by decide)
    have q := Rc.word_rng (show Wd.wordB k = true from kd)
    have sm := sm.resolve_left (by decide)
    exact says_13 a1 a2 b1 b2 (by omega) (by omega) sm.1 sm.2
  · obtain rfl : sub = 0 := u4.resolve_left (by decide)
    have q2 := (Bool.and_eq_true _ _).mp (show (sclB _ && Wd.wordB k) = true from kd)
    have q := scl_rng q2.1
    have q3 := Rc.word_rng q2.2
    have sm := sm.resolve_left (by decide)
    exact says_14 a1 a2 b1 b2 c1 c2 q (by omega) (by omega) sm.1 sm.2
  · obtain rfl : k = 0 := u3.resolve_left (by decide)
    obtain rfl : imm = 0 := u5.resolve_left (by decide)
    obtain ⟨rfl, rfl⟩ : c = 0 ∧ sc = 0 := u2.resolve_left (by decide)
    have q := cmp_rng (show Wd.cmpB sub = true from kd)
    exact says_15 a1 a2 b1 b2 (by omega) (by omega)
  · obtain rfl : sub = 0 := u4.resolve_left (by decide)
    obtain rfl : imm = 0 := u5.resolve_left (by decide)
    obtain ⟨rfl, rfl⟩ : c = 0 ∧ sc = 0 := u2.resolve_left (by decide)
    have q := Rc.word_rng (show Wd.wordB k = true from kd)
    exact says_16 a1 a2 b1 b2 (by omega) (by omega)
  · obtain rfl : b = 0 := u1.resolve_left (by decide)
    obtain rfl : sub = 0 := u4.resolve_left (by decide)
    obtain ⟨rfl, rfl⟩ : c = 0 ∧ sc = 0 := u2.resolve_left (by decide)
    have q := imm_rng (show immB 2 k imm = true from kd)
    have sm := sm.resolve_left (by decide)
    by_cases z0 : -128 ≤ imm ∧ imm < 128
    · exact says_17_0 a1 a2 (by omega) (by omega) z0.1 z0.2
    · exact says_17_1 a1 a2 (by omega) (by omega) sm.1 sm.2 z0
  · obtain rfl : b = 0 := u1.resolve_left (by decide)
    obtain rfl : k = 0 := u3.resolve_left (by decide)
    obtain rfl : imm = 0 := u5.resolve_left (by decide)
    obtain ⟨rfl, rfl⟩ : c = 0 ∧ sc = 0 := u2.resolve_left (by decide)
    have q := cmp_rng (show Wd.cmpB sub = true from kd)
    exact says_18 a1 a2 (by omega) (by omega)
  · obtain rfl : a = 0 := u0.resolve_left (by decide)
    obtain rfl : b = 0 := u1.resolve_left (by decide)
    obtain rfl : k = 0 := u3.resolve_left (by decide)
    obtain rfl : sub = 0 := u4.resolve_left (by decide)
    obtain ⟨rfl, rfl⟩ : c = 0 ∧ sc = 0 := u2.resolve_left (by decide)
    have sm := sm.resolve_left (by decide)
    by_cases z0 : -128 ≤ imm ∧ imm < 128
    · exact says_19_0 z0.1 z0.2
    · exact says_19_1 sm.1 sm.2 z0
  · obtain rfl : a = 0 := u0.resolve_left (by decide)
    obtain rfl : b = 0 := u1.resolve_left (by decide)
    obtain rfl : k = 0 := u3.resolve_left (by decide)
    obtain ⟨rfl, rfl⟩ : c = 0 ∧ sc = 0 := u2.resolve_left (by decide)
    have q := cmp_rng (show Wd.cmpB sub = true from kd)
    have sm := sm.resolve_left (by decide)
    by_cases z0 : -128 ≤ imm ∧ imm < 128
    · exact says_22_0 (by omega) (by omega) z0.1 z0.2
    · exact says_22_1 (by omega) (by omega) sm.1 sm.2 z0
  · obtain rfl : a = 0 := u0.resolve_left (by decide)
    obtain rfl : b = 0 := u1.resolve_left (by decide)
    obtain rfl : k = 0 := u3.resolve_left (by decide)
    obtain rfl : sub = 0 := u4.resolve_left (by decide)
    obtain ⟨rfl, rfl⟩ : c = 0 ∧ sc = 0 := u2.resolve_left (by decide)
    have sm := sm.resolve_left (by decide)
    exact says_23 sm.1 sm.2
  · obtain rfl : a = 0 := u0.resolve_left (by decide)
    obtain rfl : b = 0 := u1.resolve_left (by decide)
    obtain rfl : k = 0 := u3.resolve_left (by decide)
    obtain rfl : sub = 0 := u4.resolve_left (by decide)
    obtain rfl : imm = 0 := u5.resolve_left (by decide)
    obtain ⟨rfl, rfl⟩ : c = 0 ∧ sc = 0 := u2.resolve_left (by decide)
    exact says_24
  · obtain rfl : a = 0 := u0.resolve_left (by decide)
    obtain rfl : b = 0 := u1.resolve_left (by decide)
    obtain rfl : k = 0 := u3.resolve_left (by decide)
    obtain rfl : sub = 0 := u4.resolve_left (by decide)
    obtain ⟨rfl, rfl⟩ : c = 0 ∧ sc = 0 := u2.resolve_left (by decide)
    have sm := sm.resolve_left (by decide)
    exact says_25 sm.1 sm.2
  · obtain rfl : k = 0 := u3.resolve_left (by decide)
    obtain rfl : sub = 0 := u4.resolve_left (by decide)
    obtain rfl : imm = 0 := u5.resolve_left (by decide)
    obtain ⟨rfl, rfl⟩ : c = 0 ∧ sc = 0 := u2.resolve_left (by decide)
    exact says_26 a1 a2 b1 b2
  · obtain rfl : b = 0 := u1.resolve_left (by decide)
    obtain rfl : k = 0 := u3.resolve_left (by decide)
    obtain rfl : sub = 0 := u4.resolve_left (by decide)
    obtain rfl : imm = 0 := u5.resolve_left (by decide)
    obtain ⟨rfl, rfl⟩ : c = 0 ∧ sc = 0 := u2.resolve_left (by decide)
    exact says_27 a1 a2
  · obtain rfl : b = 0 := u1.resolve_left (by decide)
    obtain rfl : k = 0 := u3.resolve_left (by decide)
    obtain rfl : sub = 0 := u4.resolve_left (by decide)
    obtain rfl : imm = 0 := u5.resolve_left (by decide)
    obtain ⟨rfl, rfl⟩ : c = 0 ∧ sc = 0 := u2.resolve_left (by decide)
    exact says_28 a1 a2
  · obtain rfl : a = 0 := u0.resolve_left (by decide)
    obtain rfl : b = 0 := u1.resolve_left (by decide)
    obtain rfl : k = 0 := u3.resolve_left (by decide)
    obtain rfl : sub = 0 := u4.resolve_left (by decide)
    obtain ⟨rfl, rfl⟩ : c = 0 ∧ sc = 0 := u2.resolve_left (by decide)
    have sm := sm.resolve_left (by decide)
    exact says_29 sm.1 sm.2

theorem op_mod {v : InV} (h : mayB v = true) : v.op % 256 = v.op := by
  have hc := codes (rng h).rw
  omega
theorem enc_pos (v : InV) : 1 ≤ (enc v).length := by unfold enc; simp
theorem enc_zero {v : InV} (h : mayB v = true) : (enc v).getD 0 0 = v.op := by
  show v.op % 256 = v.op
  exact op_mod h
/-- there and back, whatever stands behind -/
theorem dec_enc {v : InV} (h : mayB v = true) (i1 : -9223372036854775808 ≤ v.imm) (i2 : v.imm ≤ 9223372036854775807) {N : Nat} {g : Nat → Int} (hN : (enc v).length ≤ N) (hg : ∀ i, i < (enc v).length → g i = (enc v).getD i 0) : dec N g = (v, ((enc v).length : Int), 0) := by
  have hp := enc_pos v
  have g0 : g 0 = v.op := (hg 0 (by omega)).trans (enc_zero h)
  have hr : read N g = (v, ((enc v).length : Int)) := by
    unfold read
    rw [g0]
    exact says h i1 i2 N g hN hg
  have hs : startsB (enc v) g = true := decide_eq_true hg
  unfold dec
  rw [hr, g0]
  dsimp only
  rw [if_neg (by omega), if_neg (by rw [(rng h).rw]; decide), if_neg (by omega), if_neg]
  rw [h, hs]
  rintro (e | e | e | e)
  · omega
  · cases e
  · exact e rfl
  · cases e
/-- cut short they are too few -/
theorem dec_cut {v : InV} (h : mayB v = true) (i1 : -9223372036854775808 ≤ v.imm) (i2 : v.imm ≤ 9223372036854775807) {n : Nat} {g : Nat → Int} (hn : n < (enc v).length) (hg : ∀ i, i < n → g i = (enc v).getD i 0) : dec n g = (zero, 0, 41) := by
  unfold dec
  by_cases h0 : n = 0
  · rw [if_pos h0]
  have g0 : g 0 = v.op := (hg 0 (by omega)).trans (enc_zero h)
  have hs := says h i1 i2 (enc v).length (fun i => (enc v).getD i 0) (Nat.le_refl _) (fun _ _ => rfl)
  have hc := (rd_cut (n := n) _ _ _ _ _ _ hs (enc_pos v)).2 hn (by omega)
  have hr : (read n g).2 = 0 := by
    unfold read
    rw [g0, rd_congr hg]
    exact hc
  rw [if_neg h0, g0, if_neg (by rw [(rng h).rw]; decide), if_pos hr]
theorem rd_N {N : Nat} {g : Nat → Int} : ∀ (s : List Int) (v : InV) (z : Int) (p : Nat), p ≤ N → 0 ≤ (rdL N g s v z p).2 → (rdL N g s v z p).2 ≤ N := by
  intro s
  induction s with
  | nil => intro v z p h1 h2; unfold rdL; dsimp only; omega
  | cons l s ih =>
    intro v z p h1 h2
    unfold rdL at h2 ⊢
    split
    · dsimp only; omega
    · rename_i h3
      rw [if_neg h3] at h2
      split
      · rename_i h4
        rw [if_pos h4] at h2
        dsimp only at h2; omega
      · rename_i h4
        rw [if_neg h4] at h2
        exact ih _ _ _ (by omega) h2
/-- what is taken is an instruction, and its bytes -/
theorem dec_ok {N : Nat} {g : Nat → Int} {v : InV} {n : Int} (h : dec N g = (v, n, 0)) : mayB v = true ∧ ((enc v).length : Int) = n ∧ (∀ i, i < (enc v).length → g i = (enc v).getD i 0) ∧ n ≤ N ∧ read N g = (v, n) := by
  unfold dec at h
  split at h
  · simp at h
  split at h
  · simp at h
  split at h
  · simp at h
  split at h
  · simp at h
  rename_i h1 h2 h3 h4
  simp only [Prod.mk.injEq, and_true] at h
  obtain ⟨rfl, rfl⟩ := h
  have h5 : ¬ (read N g).2 < 0 := fun e => h4 (.inl e)
  have h6 : mayB (read N g).1 = true := by
    cases e : mayB (read N g).1
    · exact absurd (.inr (.inl e)) h4
    · rfl
  have h7 : ((enc (read N g).1).length : Int) = (read N g).2 := by
    by_cases e : ((enc (read N g).1).length : Int) = (read N g).2
    · exact e
    · exact absurd (.inr (.inr (.inl e))) h4
  have h8 : startsB (enc (read N g).1) g = true := by
    cases e : startsB (enc (read N g).1) g
    · exact absurd (.inr (.inr (.inr e))) h4
    · rfl
  refine ⟨h6, h7, of_decide_eq_true h8, ?_, rfl⟩
  exact rd_N _ _ _ _ (by omega) (show 0 ≤ (read N g).2 by omega)
end Cc
end Go.Proofs.YtbghjlamedlchaaDoor
