/- Contracts and plain facts that the walks share, text by text: RuSc, CcStep, CcSays, CcBack, CcCat, RcD, RcE, CdLeaf, CcRd, CcCSays, CdTz, CdNext. -/
import Derived.Test.YtdklaeppcjopoaaGreatG4
import Derived.Test.YtdklaeppcjopoaaGreatG5
import Derived.Test.YtdklaeppcjopoaaGreatRuQe
import Derived.Test.YtdklaeppcjopoaaGreatRuQf
import Derived.Test.YtdklaeppcjopoaaGreatRuQg
import Derived.Test.YtdklaeppcjopoaaGreatRuQh
import Derived.Test.YtdklaeppcjopoaaGreatG1
import Derived.Test.YtdklaeppcjopoaaGreatG2
import Derived.WalkLawsBesides
/- The program's C64: a step, by the plain machine. -/
namespace Go.Proofs.YtdklaeppcjopoaaGreat
open Go.RowKit
set_option linter.unusedVariables false

theorem c64_both {op : Int} {h : Pd} {w : World} {s s1 : Ru.St} (x : IsC w h s) (he : s1.e = 0) (a b c : Nat) (a16 : a < 16) (b16 : b < 16) (c16 : c < 16) (k sub sc lb imm : Int)
    (HF : Hid (∀ W, IsC W h s → Calls Tryz.prog 165 #[.pointer (some ⟨h.B, 0, none⟩), .func (.func 212) #[] #[]] W fun r w' => r = .returned (.agg #[.int .i64 op, .int .i64 a, .int .i64 b, .int .i64 c, .int .i64 k, .int .i64 sub, .int .i64 sc, .int .i64 imm, .int .i64 lb]) ∧ IsC w' h s1 ∧ Mc h W w'))
    (ho : op = 1 ∨ op = 3 ∨ op = 8 ∨ op = 11 ∨ op = 13 ∨ op = 19 ∨ op = 23 ∨ op = 24 ∨ op = 25 ∨ op = 26 ∨ op = 27 ∨ op = 28 ∨ op = 29) (hsc : op = 11 ∨ op = 13 → sc = 0) :
    Calls Tryz.prog 211 #[.pointer (some ⟨h.B, 0, none⟩)] w (BoP h w (.agg #[.int .i64 op, .int .i64 a, .int .i64 b, .int .i64 c, .int .i64 k, .int .i64 sub, .int .i64 sc, .int .i64 imm, .int .i64 lb]) (Ru.exec h.im ⟨op, a, b, c, k, sub, sc, imm, lb⟩ s1)) := by
  have HB := fun W (hW : IsC W h s1) => both_any hW he op a b c a16 b16 c16 k sub sc lb imm ho hsc
  have ne : ∀ n : Int, n = 4 ∨ n = 5 ∨ n = 6 ∨ n = 7 ∨ n = 10 ∨ n = 12 ∨ n = 14 ∨ n = 15 ∨ n = 16 ∨ n = 17 ∨ n = 18 ∨ n = 22 → (op == n) = false := fun n hn => by
    rw [beq_eq_false_iff_ne]; omega
  by_cases h5 : (Ru.exec h.im ⟨op, a, b, c, k, sub, sc, imm, lb⟩ s1).e = 5
  · exact BoP.no h5 (pcdn x op a b c a16 b16 c16 k sub sc lb imm HF (ne 4 (by omega)) (ne 5 (by omega)) (ne 6 (by omega)) (ne 7 (by omega)) (ne 10 (by omega)) (ne 12 (by omega)) (ne 14 (by omega)) (ne 15 (by omega)) (ne 16 (by omega)) (ne 17 (by omega)) (ne 18 (by omega)) (ne 22 (by omega)) (fun W hW => BoP.toNo (HB W hW) h5))
  · exact BoP.ok rfl h5 (pcd x op a b c a16 b16 c16 k sub sc lb imm HF _ (ne 4 (by omega)) (ne 5 (by omega)) (ne 6 (by omega)) (ne 7 (by omega)) (ne 10 (by omega)) (ne 12 (by omega)) (ne 14 (by omega)) (ne 15 (by omega)) (ne 16 (by omega)) (ne 17 (by omega)) (ne 18 (by omega)) (ne 22 (by omega)) (fun W hW => BoP.toOk (HB W hW) h5))

/-- an operation of two registers -/
theorem binary_any {h : Pd} {w : World} {s : Ru.St} (x : IsC w h s) (he : s.e = 0) (a b c : Nat) (a16 : a < 16) (b16 : b < 16) (k sub sc imm lb : Int) :
    Calls Tryz.prog 213 #[.pointer (some ⟨h.B, 0, none⟩), .agg #[.int .i64 4, .int .i64 a, .int .i64 b, .int .i64 c, .int .i64 k, .int .i64 sub, .int .i64 sc, .int .i64 imm, .int .i64 lb]] w (BoP h w (.tuple #[]) (s.bin 2 a sub k (s.r a) (s.r b))) := by
  obtain ⟨F, hF⟩ : ∃ F, Fl.binA sub k (Wd.canon k (s.r a)) (Wd.canon (Ru.ky sub k) (s.r b)) = F := ⟨_, rfl⟩
  obtain ⟨u, e⟩ := F
  by_cases hd : sub = 4 ∨ sub = 5
  · have hky : ∀ o : Int, o = 4 ∨ o = 5 → Ru.ky o k = k := fun o ho => by rcases ho with rfl | rfl <;> rfl
    obtain ⟨o, ho⟩ : ∃ o, (if sub = 4 then 5 else if sub = 5 then (4 : Int) else 0) = o := ⟨_, rfl⟩
    have ho' : o = 9 - sub ∧ (o = 4 ∨ o = 5) := by rcases hd with rfl | rfl <;> (simp at ho; omega)
    have ho0 : (o != 0) = true := by simp; omega
    by_cases h10 : k = 10
    · have hE : s.bin 2 a sub k (s.r a) (s.r b) = s.set a u e := by
        unfold Ru.St.bin
        rw [if_neg (fun hh => by rw [h10] at hh; exact absurd hh.2.1 (by decide)), hF]
      by_cases h0 : e = 0
      · subst h0
        exact BoP.ok (hE.trans (Ru.set_ok _ _ _ _ rfl)) (Ru.put_e he _ _) (pbinA x a b c a16 b16 k sub sc imm lb o ho (.inr ⟨ho0, by simpa using h10⟩) u hF)
      · exact BoP.no (by rw [hE, Ru.set_no _ _ _ _ h0]; exact Ru.stop5 he 0) (pbinAn x a b c a16 b16 k sub sc imm lb o ho (.inr ⟨ho0, by simpa using h10⟩) u e hF (bne0 h0))
    · have hk' : (k != 10) = true := by simpa using h10
      obtain ⟨F2, hG⟩ : ∃ F, Fl.binA o k (Wd.canon k (s.r a)) (Wd.canon (Ru.ky o k) (s.r b)) = F := ⟨_, rfl⟩
      obtain ⟨u2, e2⟩ := F2
      cases hi : Wd.intB k
      · -- no such operation
        have hn := Ru.div_none ho'.2 hi h10 (Wd.canon k (s.r a)) (Wd.canon (Ru.ky o k) (s.r b))
        have hn' := Ru.div_none hd hi h10 (Wd.canon k (s.r a)) (Wd.canon (Ru.ky sub k) (s.r b))
        rw [hG] at hn
        rw [hF] at hn'
        have hE : s.bin 2 a sub k (s.r a) (s.r b) = s.set a u e := by
          unfold Ru.St.bin
          rw [if_neg (fun hh => by rw [hi] at hh; exact absurd hh.2.1 (by decide)), hF]
        exact BoP.no (by rw [hE, Ru.set_no _ _ _ _ hn']; exact Ru.stop5 he 0) (pbinBn x a b c a16 b16 k sub sc imm lb o ho ho0 hk' u2 e2 hG (bne0 hn))
      · have hee : e2 = e := by
          have h45 := Ru.div_both hi (Wd.canon k (s.r a)) (Wd.canon k (s.r b))
          have h1 : (Fl.binA o k (Wd.canon k (s.r a)) (Wd.canon k (s.r b))).2 = e2 := by rw [hky o ho'.2] at hG; rw [hG]
          have h2 : (Fl.binA sub k (Wd.canon k (s.r a)) (Wd.canon k (s.r b))).2 = e := by rw [hky sub hd] at hF; rw [hF]
          rw [← h1, ← h2]
          rcases hd with rfl | rfl
          · rw [ho'.1]; exact h45.symm
          · rw [ho'.1]; exact h45
        subst hee
        have hE : s.bin 2 a sub k (s.r a) (s.r b) = (s.set 2 u2 e2).set a u e2 := by
          unfold Ru.St.bin
          rw [if_pos ⟨rfl, hi, hd⟩, hF]
          have : Fl.binA (9 - sub) k (Wd.canon k (s.r a)) (Wd.canon (Ru.ky sub k) (s.r b)) = (u2, e2) := by
            rw [← ho'.1, hky sub hd, ← hky o ho'.2]
            rw [hky o ho'.2] at hG ⊢
            exact hG
          rw [this]
        by_cases h0 : e2 = 0
        · subst h0
          exact BoP.ok (hE.trans (by rw [Ru.set_ok _ _ _ _ rfl, Ru.set_ok _ _ _ _ rfl])) (Ru.put_e (s := s.put 2 u2) he _ _) (pbinB x a b c a16 b16 k sub sc imm lb o ho ho0 hk' u u2 hF hG)
        · refine BoP.no ?_ (pbinBn x a b c a16 b16 k sub sc imm lb o ho ho0 hk' u2 e2 hG (bne0 h0))
          rw [hE, Ru.set_no _ _ _ _ h0, Ru.set_no _ _ _ _ h0, Ru.stop_e he]
          rfl
  · have ho : (if sub = 4 then 5 else if sub = 5 then (4 : Int) else 0) = 0 := by rw [if_neg (by omega), if_neg (by omega)]
    have hE : s.bin 2 a sub k (s.r a) (s.r b) = s.set a u e := by
      unfold Ru.St.bin
      rw [if_neg (fun hh => hd hh.2.2), hF]
    by_cases h0 : e = 0
    · subst h0
      exact BoP.ok (hE.trans (Ru.set_ok _ _ _ _ rfl)) (Ru.put_e he _ _) (pbinA x a b c a16 b16 k sub sc imm lb 0 ho (.inl rfl) u hF)
    · exact BoP.no (by rw [hE, Ru.set_no _ _ _ _ h0]; exact Ru.stop5 he 0) (pbinAn x a b c a16 b16 k sub sc imm lb 0 ho (.inl rfl) u e hF (bne0 h0))
theorem okF_says {s : Ru.St} {sub : Int} (h : s.okF sub = true) : s.says sub = ((Fl.binA sub s.k s.x s.y).1 == 1) := by unfold Ru.St.says; rw [h]; rfl
theorem okF_no {s : Ru.St} {sub : Int} (h : s.okF sub = false) : s.says sub = false := by unfold Ru.St.says; rw [h]; rfl
/-- what a comparison tells is 0 or 1 -/
theorem cmp01A {sub k x y : Int} (hc : Wd.cmpB sub = true) : (Fl.binA sub k x y).1 = 0 ∨ (Fl.binA sub k x y).1 = 1 := by
  have ht : ∀ b, Wd.tr b = 0 ∨ Wd.tr b = 1 := fun b => by cases b <;> simp [Wd.tr]
  have hcm : ∀ a b, Wd.cmpI sub a b = 0 ∨ Wd.cmpI sub a b = 1 := fun a b => by
    unfold Wd.cmpI
    repeat' split
    all_goals first | exact ht _ | exact .inl rfl
  have hsub : 11 ≤ sub ∧ sub ≤ 16 := by simpa [Wd.cmpB] using hc
  unfold Fl.binA
  split
  · unfold Fl.binF
    split
    · have : Fl.bf sub x y = Fl.cmpF sub x y := by
        unfold Fl.bf
        repeat' split
        all_goals first | rfl | omega
      rw [this]
      have := Fl.cmp01 sub x y
      dsimp only
      omega
    · exact .inl rfl
  · unfold Wd.binI
    have hu : Wd.bu sub k x y = Wd.cmpI sub x y := by
      unfold Wd.bu
      rw [if_neg (by omega), if_neg (by omega), if_neg (by omega), if_neg (by omega), if_neg (by omega), if_neg (by omega), if_neg (by omega), if_neg (by omega), if_neg (by omega), if_neg (by omega)]
    have hs : Wd.bs sub k x y = Wd.cmpI sub (Wd.sg x) (Wd.sg y) := by
      unfold Wd.bs
      rw [if_neg (by omega), if_neg (by omega), if_neg (by omega), if_pos (by omega)]
    rw [hu, hs]
    repeat' split
    all_goals first | exact .inl rfl | exact hcm _ _
end Go.Proofs.YtdklaeppcjopoaaGreat

/- The bytes of an instruction of C64 say it. -/
namespace Go.Proofs.YtdklaeppcjopoaaGreat
set_option linter.unusedVariables false

namespace Cc
theorem rd_step {N : Nat} {g : Nat → Int} {l : Int} {s : List Int} {v : InV} {z : Int} {p : Nat} (hN : p + lcnt l z ≤ N) (hz : ¬ (2 < lsz l z (g p) ∨ (lsz l z (g p) = 2 ∧ v.op ≠ 1))) :
    rdL N g (l :: s) v z p = rdL N g s (lset l v (g p) (num g p (lcnt l z))) (lsz l z (g p)) (p + lcnt l z) := by
  rw [rdL]
  rw [if_neg (by omega), if_neg hz]
theorem step_a {N : Nat} {g : Nat → Int} {s : List Int} {v : InV} {z a b : Int} {p : Nat} (hN : p + 1 ≤ N) (hz : ¬ (2 < z ∨ (z = 2 ∧ v.op ≠ 1))) (hx : g p = (16 * a + b) % 256) (a1 : 0 ≤ a) (a2 : a < 16) (b1 : 0 ≤ b) (b2 : b < 16) :
    rdL N g (97 :: s) v z p = rdL N g s { v with a := a, b := b } z (p + 1) := by
  rw [rd_step (by simpa [lcnt] using hN) (by simpa [lsz] using hz)]
  have e1 : g p / 16 = a := by omega
  have e2 : g p % 16 = b := by omega
  simp [lset, lsz, lcnt, e1, e2]
theorem step_n {N : Nat} {g : Nat → Int} {s : List Int} {v : InV} {z z' a : Int} {p : Nat} (hN : p + 1 ≤ N) (z1 : 0 ≤ z') (hz : ¬ (2 < z' ∨ (z' = 2 ∧ v.op ≠ 1))) (hx : g p = (16 * a + z') % 256) (a1 : 0 ≤ a) (a2 : a < 16) :
    rdL N g (110 :: s) v z p = rdL N g s { v with a := a } z' (p + 1) := by
  have z2 : z' ≤ 2 := by omega
  have e1 : g p / 16 = a := by omega
  have e2 : g p % 16 = z' := by omega
  rw [rd_step (by simpa [lcnt] using hN) (by simpa [lsz, e2] using hz)]
  simp [lset, lsz, lcnt, e1, e2]
theorem step_j {N : Nat} {g : Nat → Int} {s : List Int} {v : InV} {z z' : Int} {p : Nat} (hN : p + 1 ≤ N) (hz : ¬ (2 < z' ∨ (z' = 2 ∧ v.op ≠ 1))) (hx : g p = z') :
    rdL N g (106 :: s) v z p = rdL N g s v z' (p + 1) := by
  rw [rd_step (by simpa [lcnt] using hN) (by simpa [lsz, hx] using hz)]
  simp [lset, lsz, lcnt, hx]
theorem step_J {N : Nat} {g : Nat → Int} {s : List Int} {v : InV} {z z' sub : Int} {p : Nat} (hN : p + 1 ≤ N) (z1 : 0 ≤ z') (hz : ¬ (2 < z' ∨ (z' = 2 ∧ v.op ≠ 1))) (hx : g p = (16 * (sub - 11) + z') % 256) (a1 : 11 ≤ sub) (a2 : sub ≤ 16) :
    rdL N g (74 :: s) v z p = rdL N g s { v with sub := sub } z' (p + 1) := by
  have z2 : z' ≤ 2 := by omega
  have e1 : g p / 16 + 11 = sub := by omega
  have e2 : g p % 16 = z' := by omega
  rw [rd_step (by simpa [lcnt] using hN) (by simpa [lsz, e2] using hz)]
  simp [lset, lsz, lcnt, e1, e2]
theorem step_c {N : Nat} {g : Nat → Int} {s : List Int} {v : InV} {z c sc : Int} {p : Nat} (hN : p + 1 ≤ N) (hz : ¬ (2 < z ∨ (z = 2 ∧ v.op ≠ 1))) (hx : g p = (16 * c + lg sc) % 256) (a1 : 0 ≤ c) (a2 : c < 16) (hs : sc = 1 ∨ sc = 2 ∨ sc = 4 ∨ sc = 8 ∨ sc = 0) :
    rdL N g (99 :: s) v z p = rdL N g s { v with c := c, scale := sc } z (p + 1) := by
  have hl : 0 ≤ lg sc ∧ lg sc < 16 ∧ scl (lg sc) = sc := by rcases hs with rfl | rfl | rfl | rfl | rfl <;> decide
  have e1 : g p / 16 = c := by omega
  have e2 : g p % 16 = lg sc := by omega
  rw [rd_step (by simpa [lcnt] using hN) (by simpa [lsz] using hz)]
  simp [lset, lsz, lcnt, e1, e2, hl.2.2]
theorem step_K {N : Nat} {g : Nat → Int} {s : List Int} {v : InV} {z k : Int} {p : Nat} (hN : p + 1 ≤ N) (hz : ¬ (2 < z ∨ (z = 2 ∧ v.op ≠ 1))) (hx : g p = k % 256) (a1 : 0 ≤ k) (a2 : k < 256) :
    rdL N g (75 :: s) v z p = rdL N g s { v with k := k } z (p + 1) := by
  have e1 : g p = k := by omega
  rw [rd_step (by simpa [lcnt] using hN) (by simpa [lsz] using hz)]
  simp [lset, lsz, lcnt, e1]
theorem step_S {N : Nat} {g : Nat → Int} {s : List Int} {v : InV} {z k : Int} {p : Nat} (hN : p + 1 ≤ N) (hz : ¬ (2 < z ∨ (z = 2 ∧ v.op ≠ 1))) (hx : g p = k % 256) (a1 : 0 ≤ k) (a2 : k < 256) :
    rdL N g (83 :: s) v z p = rdL N g s { v with sub := k } z (p + 1) := by
  have e1 : g p = k := by omega
  rw [rd_step (by simpa [lcnt] using hN) (by simpa [lsz] using hz)]
  simp [lset, lsz, lcnt, e1]
theorem step_i {N : Nat} {g : Nat → Int} {s : List Int} {v : InV} {z n : Int} {p : Nat} (hN : p + cnt z ≤ N) (hz : ¬ (2 < z ∨ (z = 2 ∧ v.op ≠ 1))) (hx : num g p (cnt z) = n) :
    rdL N g (105 :: s) v z p = rdL N g s { v with imm := n } z (p + cnt z) := by
  rw [rd_step (by simpa [lcnt] using hN) (by simpa [lsz] using hz)]
  simp [lset, lsz, lcnt, hx]
theorem step_4 {N : Nat} {g : Nat → Int} {s : List Int} {v : InV} {z n : Int} {p : Nat} (hN : p + 4 ≤ N) (hz : ¬ (2 < z ∨ (z = 2 ∧ v.op ≠ 1))) (hx : num g p 4 = n) :
    rdL N g (52 :: s) v z p = rdL N g s { v with imm := n } z (p + 4) := by
  rw [rd_step (by simpa [lcnt] using hN) (by simpa [lsz] using hz)]
  simp [lset, lsz, lcnt, hx]

theorem codes {v : InV} (h : (row v.op).isEmpty = false) : v.op = 1 ∨ v.op = 3 ∨ v.op = 4 ∨ v.op = 5 ∨ v.op = 6 ∨ v.op = 7 ∨ v.op = 8 ∨ v.op = 10 ∨ v.op = 11 ∨ v.op = 12 ∨ v.op = 13 ∨ v.op = 14 ∨ v.op = 15 ∨ v.op = 16 ∨ v.op = 17 ∨ v.op = 18 ∨ v.op = 19 ∨ v.op = 22 ∨ v.op = 23 ∨ v.op = 24 ∨ v.op = 25 ∨ v.op = 26 ∨ v.op = 27 ∨ v.op = 28 ∨ v.op = 29 := by
  by_cases hh : v.op = 1 ∨ v.op = 3 ∨ v.op = 4 ∨ v.op = 5 ∨ v.op = 6 ∨ v.op = 7 ∨ v.op = 8 ∨ v.op = 10 ∨ v.op = 11 ∨ v.op = 12 ∨ v.op = 13 ∨ v.op = 14 ∨ v.op = 15 ∨ v.op = 16 ∨ v.op = 17 ∨ v.op = 18 ∨ v.op = 19 ∨ v.op = 22 ∨ v.op = 23 ∨ v.op = 24 ∨ v.op = 25 ∨ v.op = 26 ∨ v.op = 27 ∨ v.op = 28 ∨ v.op = 29
  · exact hh
  · exfalso
    have e : row v.op = [] := by
      unfold row
      rw [if_neg (by omega), if_neg (by omega), if_neg (by omega), if_neg (by omega), if_neg (by omega), if_neg (by omega), if_neg (by omega), if_neg (by omega), if_neg (by omega), if_neg (by omega), if_neg (by omega), if_neg (by omega), if_neg (by omega), if_neg (by omega), if_neg (by omega)]
    rw [e] at h
    cases h

/-- what an instruction's numbers are -/
structure Rng (v : InV) : Prop where
  rw : (row v.op).isEmpty = false
  lb : v.label = 0
  a1 : 0 ≤ v.a
  a2 : v.a < 16
  b1 : 0 ≤ v.b
  b2 : v.b < 16
  c1 : 0 ≤ v.c
  c2 : v.c < 16
  u0 : usesB v.op 65 = true ∨ v.a = 0
  u1 : usesB v.op 66 = true ∨ v.b = 0
  u2 : usesB v.op 67 = true ∨ (v.c = 0 ∧ v.scale = 0)
  u3 : usesB v.op 75 = true ∨ v.k = 0
  u4 : usesB v.op 83 = true ∨ v.sub = 0
  u5 : usesB v.op 73 = true ∨ v.imm = 0
  sm : v.op = 1 ∨ (-2147483648 ≤ v.imm ∧ v.imm < 2147483648)
  kd : kindB v = true
theorem rng {v : InV} (h : mayB v = true) : Rng v := by
  unfold mayB Rc.regB Rc.smallB at h
  simp only [Bool.and_eq_true, Bool.or_eq_true, beq_iff_eq, decide_eq_true_eq, Bool.not_eq_true'] at h
  obtain ⟨⟨⟨⟨⟨⟨⟨⟨⟨⟨⟨⟨h0, h1⟩, h2⟩, h3⟩, h4⟩, h5⟩, h6⟩, h7⟩, h8⟩, h9⟩, h10⟩, h11⟩, h12⟩ := h
  exact ⟨h0, h1, h2.1, h2.2, h3.1, h3.2, h4.1, h4.2, h5, h6, h7, h8, h9, h10, h11, h12⟩
theorem of_rng {v : InV} (r : Rng v) : mayB v = true := by
  unfold mayB Rc.regB Rc.smallB
  simp only [Bool.and_eq_true, Bool.or_eq_true, beq_iff_eq, decide_eq_true_eq, Bool.not_eq_true']
  exact ⟨⟨⟨⟨⟨⟨⟨⟨⟨⟨⟨⟨r.rw, r.lb⟩, r.a1, r.a2⟩, r.b1, r.b2⟩, r.c1, r.c2⟩, r.u0⟩, r.u1⟩, r.u2⟩, r.u3⟩, r.u4⟩, r.u5⟩, r.sm⟩, r.kd⟩

theorem imm_rng {sub k n : Int} (h : immB sub k n = true) : 1 ≤ sub ∧ sub ≤ 16 ∧ 2 ≤ k ∧ k ≤ 9 := by
  unfold immB Wd.intB at h
  simp only [Bool.and_eq_true, decide_eq_true_eq] at h
  have := Rc.bin_rng h.1.1.1.1.2
  omega
theorem bin_rng {v : InV} (h : binB v = true) : 1 ≤ v.sub ∧ v.sub ≤ 16 ∧ 1 ≤ v.k ∧ v.k ≤ 11 := by
  unfold binB at h
  rw [Bool.and_eq_true] at h
  exact Rc.bin_rng h.1
theorem binM_rng {sub k : Int} {x y : Bool} (h : (Wd.hasBinB sub k && x && y) = true) : 1 ≤ sub ∧ sub ≤ 16 ∧ 1 ≤ k ∧ k ≤ 11 := by
  rw [Bool.and_eq_true, Bool.and_eq_true] at h
  exact Rc.bin_rng h.1.1
theorem scl_rng {v : InV} (h : sclB v = true) : v.scale = 1 ∨ v.scale = 2 ∨ v.scale = 4 ∨ v.scale = 8 ∨ v.scale = 0 := by
  unfold sclB at h
  simp only [Bool.or_eq_true, Bool.and_eq_true, beq_iff_eq] at h
  omega
theorem cmp_rng {s : Int} (h : Wd.cmpB s = true) : 11 ≤ s ∧ s ≤ 16 := by unfold Wd.cmpB at h; simpa using h

end Cc
end Go.Proofs.YtdklaeppcjopoaaGreat

/- The bytes of an instruction of C64 say it: code by code. -/
namespace Go.Proofs.YtdklaeppcjopoaaGreat
set_option linter.unusedVariables false

namespace Cc
/-- what is read of an instruction's bytes, whatever stands behind them -/
def Says (v : InV) : Prop := ∀ (N : Nat) (g : Nat → Int), (enc v).length ≤ N → (∀ i, i < (enc v).length → g i = (enc v).getD i 0) → rdL N g (rrow v.op) ⟨v.op, 0, 0, 0, 0, 0, 0, 0, 0⟩ 0 1 = (v, ((enc v).length : Int))
theorem four {g : Nat → Int} {p : Nat} {x : Int} (h0 : g p = Mm.by8 x 0) (h1 : g (p + 1) = Mm.by8 x 1) (h2 : g (p + 2) = Mm.by8 x 2) (h3 : g (p + 3) = Mm.by8 x 3) : ∀ i, i < 4 → g (p + i) = Mm.by8 x i := by
  intro i hi
  have : i = 0 ∨ i = 1 ∨ i = 2 ∨ i = 3 := by omega
  rcases this with rfl | rfl | rfl | rfl
  · exact h0
  · exact h1
  · exact h2
  · exact h3
theorem one {g : Nat → Int} {p : Nat} {x : Int} (h0 : g p = Mm.by8 x 0) : ∀ i, i < 1 → g (p + i) = Mm.by8 x i := by
  intro i hi
  obtain rfl : i = 0 := by omega
  exact h0
theorem eight {g : Nat → Int} {p : Nat} {x : Int} (h0 : g p = Mm.by8 x 0) (h1 : g (p + 1) = Mm.by8 x 1) (h2 : g (p + 2) = Mm.by8 x 2) (h3 : g (p + 3) = Mm.by8 x 3) (h4 : g (p + 4) = Mm.by8 x 4) (h5 : g (p + 5) = Mm.by8 x 5) (h6 : g (p + 6) = Mm.by8 x 6) (h7 : g (p + 7) = Mm.by8 x 7) : ∀ i, i < 8 → g (p + i) = Mm.by8 x i := by
  intro i hi
  have : i = 0 ∨ i = 1 ∨ i = 2 ∨ i = 3 ∨ i = 4 ∨ i = 5 ∨ i = 6 ∨ i = 7 := by omega
  rcases this with rfl | rfl | rfl | rfl | rfl | rfl | rfl | rfl
  · exact h0
  · exact h1
  · exact h2
  · exact h3
  · exact h4
  · exact h5
  · exact h6
  · exact h7

theorem says_1_0 {a imm : Int} (a1 : 0 ≤ a) (a2 : a < 16) (i1 : -128 ≤ imm) (i2 : imm < 128) : Says ⟨1, a, 0, 0, 0, 0, 0, imm, 0⟩ := by
  have hz : size imm = 0 := by
    unfold size
    rw [if_pos ⟨i1, i2⟩]
  have e : enc ⟨1, a, 0, 0, 0, 0, 0, imm, 0⟩ = [1, (16 * a + 0) % 256, Mm.by8 (imm % 18446744073709551616) 0] := by
    show (1 : Int) % 256 :: ([(16 * a + size imm) % 256] ++ (low imm (cnt (size imm)) ++ [])) = _
    rw [hz]; rfl
  intro N g hN hg
  rw [e] at hN hg ⊢
  have hN : 3 ≤ N := hN
  have g1 : g 1 = (16 * a + 0) % 256 := hg 1 (show 1 < 3 from by decide)
  have g2 : g 2 = Mm.by8 (imm % 18446744073709551616) 0 := hg 2 (show 2 < 3 from by decide)
  show rdL N g [110, 105] ⟨1, 0, 0, 0, 0, 0, 0, 0, 0⟩ 0 1 = _
  rw [step_n (a := a) (z' := 0) (by omega) (by decide) (by dsimp only; decide) g1 a1 a2]
  rw [step_i (n := imm) (show 2 + 1 ≤ N from by omega) (by dsimp only; decide) (show num g 2 1 = imm from num_low (.inl ⟨rfl, by omega, by omega⟩) (one g2))]
  rfl
theorem says_1_1 {a imm : Int} (a1 : 0 ≤ a) (a2 : a < 16) (i1 : -2147483648 ≤ imm) (i2 : imm < 2147483648) (i3 : ¬ (-128 ≤ imm ∧ imm < 128)) : Says ⟨1, a, 0, 0, 0, 0, 0, imm, 0⟩ := by
  have hz : size imm = 1 := by
    unfold size
    rw [if_neg i3, if_pos ⟨i1, i2⟩]
  have e : enc ⟨1, a, 0, 0, 0, 0, 0, imm, 0⟩ = [1, (16 * a + 1) % 256, Mm.by8 (imm % 18446744073709551616) 0, Mm.by8 (imm % 18446744073709551616) 1, Mm.by8 (imm % 18446744073709551616) 2, Mm.by8 (imm % 18446744073709551616) 3] := by
    show (1 : Int) % 256 :: ([(16 * a + size imm) % 256] ++ (low imm (cnt (size imm)) ++ [])) = _
    rw [hz]; rfl
  intro N g hN hg
  rw [e] at hN hg ⊢
  have hN : 6 ≤ N := hN
  have g1 : g 1 = (16 * a + 1) % 256 := hg 1 (show 1 < 6 from by decide)
  have g2 : g 2 = Mm.by8 (imm % 18446744073709551616) 0 := hg 2 (show 2 < 6 from by decide)
  have g3 : g 3 = Mm.by8 (imm % 18446744073709551616) 1 := hg 3 (show 3 < 6 from by decide)
  have g4 : g 4 = Mm.by8 (imm % 18446744073709551616) 2 := hg 4 (show 4 < 6 from by decide)
  have g5 : g 5 = Mm.by8 (imm % 18446744073709551616) 3 := hg 5 (show 5 < 6 from by decide)
  show rdL N g [110, 105] ⟨1, 0, 0, 0, 0, 0, 0, 0, 0⟩ 0 1 = _
  rw [step_n (a := a) (z' := 1) (by omega) (by decide) (by dsimp only; decide) g1 a1 a2]
  rw [step_i (n := imm) (show 2 + 4 ≤ N from by omega) (by dsimp only; decide) (show num g 2 4 = imm from num_low (.inr (.inl ⟨rfl, by omega, by omega⟩)) (four g2 g3 g4 g5))]
  rfl
theorem says_1_2 {a imm : Int} (a1 : 0 ≤ a) (a2 : a < 16) (i1 : -9223372036854775808 ≤ imm) (i2 : imm ≤ 9223372036854775807) (i3 : ¬ (-2147483648 ≤ imm ∧ imm < 2147483648)) : Says ⟨1, a, 0, 0, 0, 0, 0, imm, 0⟩ := by
  have hz : size imm = 2 := by
    unfold size
    rw [if_neg (by omega), if_neg i3]
  have e : enc ⟨1, a, 0, 0, 0, 0, 0, imm, 0⟩ = [1, (16 * a + 2) % 256, Mm.by8 (imm % 18446744073709551616) 0, Mm.by8 (imm % 18446744073709551616) 1, Mm.by8 (imm % 18446744073709551616) 2, Mm.by8 (imm % 18446744073709551616) 3, Mm.by8 (imm % 18446744073709551616) 4, Mm.by8 (imm % 18446744073709551616) 5, Mm.by8 (imm % 18446744073709551616) 6, Mm.by8 (imm % 18446744073709551616) 7] := by
    show (1 : Int) % 256 :: ([(16 * a + size imm) % 256] ++ (low imm (cnt (size imm)) ++ [])) = _
    rw [hz]; rfl
  intro N g hN hg
  rw [e] at hN hg ⊢
  have hN : 10 ≤ N := hN
  have g1 : g 1 = (16 * a + 2) % 256 := hg 1 (show 1 < 10 from by decide)
  have g2 : g 2 = Mm.by8 (imm % 18446744073709551616) 0 := hg 2 (show 2 < 10 from by decide)
  have g3 : g 3 = Mm.by8 (imm % 18446744073709551616) 1 := hg 3 (show 3 < 10 from by decide)
  have g4 : g 4 = Mm.by8 (imm % 18446744073709551616) 2 := hg 4 (show 4 < 10 from by decide)
  have g5 : g 5 = Mm.by8 (imm % 18446744073709551616) 3 := hg 5 (show 5 < 10 from by decide)
  have g6 : g 6 = Mm.by8 (imm % 18446744073709551616) 4 := hg 6 (show 6 < 10 from by decide)
  have g7 : g 7 = Mm.by8 (imm % 18446744073709551616) 5 := hg 7 (show 7 < 10 from by decide)
  have g8 : g 8 = Mm.by8 (imm % 18446744073709551616) 6 := hg 8 (show 8 < 10 from by decide)
  have g9 : g 9 = Mm.by8 (imm % 18446744073709551616) 7 := hg 9 (show 9 < 10 from by decide)
  show rdL N g [110, 105] ⟨1, 0, 0, 0, 0, 0, 0, 0, 0⟩ 0 1 = _
  rw [step_n (a := a) (z' := 2) (by omega) (by decide) (by dsimp only; decide) g1 a1 a2]
  rw [step_i (n := imm) (show 2 + 8 ≤ N from by omega) (by dsimp only; decide) (show num g 2 8 = imm from num_low (.inr (.inr ⟨rfl, by omega, by omega⟩)) (eight g2 g3 g4 g5 g6 g7 g8 g9))]
  rfl
theorem says_3 {a b : Int} (a1 : 0 ≤ a) (a2 : a < 16) (b1 : 0 ≤ b) (b2 : b < 16) : Says ⟨3, a, b, 0, 0, 0, 0, 0, 0⟩ := by
  have e : enc ⟨3, a, b, 0, 0, 0, 0, 0, 0⟩ = [3, (16 * a + b) % 256] := rfl
  intro N g hN hg
  rw [e] at hN hg ⊢
  have hN : 2 ≤ N := hN
  have g1 : g 1 = (16 * a + b) % 256 := hg 1 (show 1 < 2 from by decide)
  show rdL N g [97] ⟨3, 0, 0, 0, 0, 0, 0, 0, 0⟩ 0 1 = _
  rw [step_a (a := a) (b := b) (by omega) (by dsimp only; decide) g1 a1 a2 b1 b2]
  rfl
theorem says_4 {a b k sub : Int} (a1 : 0 ≤ a) (a2 : a < 16) (b1 : 0 ≤ b) (b2 : b < 16) (k1 : 0 ≤ k) (k2 : k < 256) (s1 : 0 ≤ sub) (s2 : sub < 256) : Says ⟨4, a, b, 0, k, sub, 0, 0, 0⟩ := by
  have e : enc ⟨4, a, b, 0, k, sub, 0, 0, 0⟩ = [4, (16 * a + b) % 256, k % 256, sub % 256] := rfl
  intro N g hN hg
  rw [e] at hN hg ⊢
  have hN : 4 ≤ N := hN
  have g1 : g 1 = (16 * a + b) % 256 := hg 1 (show 1 < 4 from by decide)
  have g2 : g 2 = k % 256 := hg 2 (show 2 < 4 from by decide)
  have g3 : g 3 = sub % 256 := hg 3 (show 3 < 4 from by decide)
  show rdL N g [97, 75, 83] ⟨4, 0, 0, 0, 0, 0, 0, 0, 0⟩ 0 1 = _
  rw [step_a (a := a) (b := b) (by omega) (by dsimp only; decide) g1 a1 a2 b1 b2]
  rw [step_K (k := k) (by omega) (by dsimp only; decide) g2 k1 k2]
  rw [step_S (k := sub) (by omega) (by dsimp only; decide) g3 s1 s2]
  rfl
theorem says_5_0 {a k sub imm : Int} (a1 : 0 ≤ a) (a2 : a < 16) (k1 : 0 ≤ k) (k2 : k < 256) (s1 : 0 ≤ sub) (s2 : sub < 256) (i1 : -128 ≤ imm) (i2 : imm < 128) : Says ⟨5, a, 0, 0, k, sub, 0, imm, 0⟩ := by
  have hz : size imm = 0 := by
    unfold size
    rw [if_pos ⟨i1, i2⟩]
  have e : enc ⟨5, a, 0, 0, k, sub, 0, imm, 0⟩ = [5, (16 * a + 0) % 256, k % 256, sub % 256, Mm.by8 (imm % 18446744073709551616) 0] := by
    show (5 : Int) % 256 :: ([(16 * a + size imm) % 256] ++ ([k % 256] ++ ([sub % 256] ++ (low imm (cnt (size imm)) ++ [])))) = _
    rw [hz]; rfl
  intro N g hN hg
  rw [e] at hN hg ⊢
  have hN : 5 ≤ N := hN
  have g1 : g 1 = (16 * a + 0) % 256 := hg 1 (show 1 < 5 from by decide)
  have g2 : g 2 = k % 256 := hg 2 (show 2 < 5 from by decide)
  have g3 : g 3 = sub % 256 := hg 3 (show 3 < 5 from by decide)
  have g4 : g 4 = Mm.by8 (imm % 18446744073709551616) 0 := hg 4 (show 4 < 5 from by decide)
  show rdL N g [110, 75, 83, 105] ⟨5, 0, 0, 0, 0, 0, 0, 0, 0⟩ 0 1 = _
  rw [step_n (a := a) (z' := 0) (by omega) (by decide) (by dsimp only; decide) g1 a1 a2]
  rw [step_K (k := k) (by omega) (by dsimp only; decide) g2 k1 k2]
  rw [step_S (k := sub) (by omega) (by dsimp only; decide) g3 s1 s2]
  rw [step_i (n := imm) (show 4 + 1 ≤ N from by omega) (by dsimp only; decide) (show num g 4 1 = imm from num_low (.inl ⟨rfl, by omega, by omega⟩) (one g4))]
  rfl
theorem says_5_1 {a k sub imm : Int} (a1 : 0 ≤ a) (a2 : a < 16) (k1 : 0 ≤ k) (k2 : k < 256) (s1 : 0 ≤ sub) (s2 : sub < 256) (i1 : -2147483648 ≤ imm) (i2 : imm < 2147483648) (i3 : ¬ (-128 ≤ imm ∧ imm < 128)) : Says ⟨5, a, 0, 0, k, sub, 0, imm, 0⟩ := by
  have hz : size imm = 1 := by
    unfold size
    rw [if_neg i3, if_pos ⟨i1, i2⟩]
  have e : enc ⟨5, a, 0, 0, k, sub, 0, imm, 0⟩ = [5, (16 * a + 1) % 256, k % 256, sub % 256, Mm.by8 (imm % 18446744073709551616) 0, Mm.by8 (imm % 18446744073709551616) 1, Mm.by8 (imm % 18446744073709551616) 2, Mm.by8 (imm % 18446744073709551616) 3] := by
    show (5 : Int) % 256 :: ([(16 * a + size imm) % 256] ++ ([k % 256] ++ ([sub % 256] ++ (low imm (cnt (size imm)) ++ [])))) = _
    rw [hz]; rfl
  intro N g hN hg
  rw [e] at hN hg ⊢
  have hN : 8 ≤ N := hN
  have g1 : g 1 = (16 * a + 1) % 256 := hg 1 (show 1 < 8 from by decide)
  have g2 : g 2 = k % 256 := hg 2 (show 2 < 8 from by decide)
  have g3 : g 3 = sub % 256 := hg 3 (show 3 < 8 from by decide)
  have g4 : g 4 = Mm.by8 (imm % 18446744073709551616) 0 := hg 4 (show 4 < 8 from by decide)
  have g5 : g 5 = Mm.by8 (imm % 18446744073709551616) 1 := hg 5 (show 5 < 8 from by decide)
  have g6 : g 6 = Mm.by8 (imm % 18446744073709551616) 2 := hg 6 (show 6 < 8 from by decide)
  have g7 : g 7 = Mm.by8 (imm % 18446744073709551616) 3 := hg 7 (show 7 < 8 from by decide)
  show rdL N g [110, 75, 83, 105] ⟨5, 0, 0, 0, 0, 0, 0, 0, 0⟩ 0 1 = _
  rw [step_n (a := a) (z' := 1) (by omega) (by decide) (by dsimp only; decide) g1 a1 a2]
  rw [step_K (k := k) (by omega) (by dsimp only; decide) g2 k1 k2]
  rw [step_S (k := sub) (by omega) (by dsimp only; decide) g3 s1 s2]
  rw [step_i (n := imm) (show 4 + 4 ≤ N from by omega) (by dsimp only; decide) (show num g 4 4 = imm from num_low (.inr (.inl ⟨rfl, by omega, by omega⟩)) (four g4 g5 g6 g7))]
  rfl
theorem says_6 {a b k sub imm : Int} (a1 : 0 ≤ a) (a2 : a < 16) (b1 : 0 ≤ b) (b2 : b < 16) (k1 : 0 ≤ k) (k2 : k < 256) (s1 : 0 ≤ sub) (s2 : sub < 256) (i1 : -2147483648 ≤ imm) (i2 : imm < 2147483648) : Says ⟨6, a, b, 0, k, sub, 0, imm, 0⟩ := by
  have e : enc ⟨6, a, b, 0, k, sub, 0, imm, 0⟩ = [6, (16 * a + b) % 256, k % 256, sub % 256, Mm.by8 (imm % 18446744073709551616) 0, Mm.by8 (imm % 18446744073709551616) 1, Mm.by8 (imm % 18446744073709551616) 2, Mm.by8 (imm % 18446744073709551616) 3] := rfl
  intro N g hN hg
  rw [e] at hN hg ⊢
  have hN : 8 ≤ N := hN
  have g1 : g 1 = (16 * a + b) % 256 := hg 1 (show 1 < 8 from by decide)
  have g2 : g 2 = k % 256 := hg 2 (show 2 < 8 from by decide)
  have g3 : g 3 = sub % 256 := hg 3 (show 3 < 8 from by decide)
  have g4 : g 4 = Mm.by8 (imm % 18446744073709551616) 0 := hg 4 (show 4 < 8 from by decide)
  have g5 : g 5 = Mm.by8 (imm % 18446744073709551616) 1 := hg 5 (show 5 < 8 from by decide)
  have g6 : g 6 = Mm.by8 (imm % 18446744073709551616) 2 := hg 6 (show 6 < 8 from by decide)
  have g7 : g 7 = Mm.by8 (imm % 18446744073709551616) 3 := hg 7 (show 7 < 8 from by decide)
  show rdL N g [97, 75, 83, 52] ⟨6, 0, 0, 0, 0, 0, 0, 0, 0⟩ 0 1 = _
  rw [step_a (a := a) (b := b) (by omega) (by dsimp only; decide) g1 a1 a2 b1 b2]
  rw [step_K (k := k) (by omega) (by dsimp only; decide) g2 k1 k2]
  rw [step_S (k := sub) (by omega) (by dsimp only; decide) g3 s1 s2]
  rw [step_4 (n := imm) (by omega) (by dsimp only; decide) (num_low (.inr (.inl ⟨rfl, by omega, by omega⟩)) (four g4 g5 g6 g7))]
  rfl
theorem says_7 {a k sub : Int} (a1 : 0 ≤ a) (a2 : a < 16) (k1 : 0 ≤ k) (k2 : k < 256) (s1 : 0 ≤ sub) (s2 : sub < 256) : Says ⟨7, a, 0, 0, k, sub, 0, 0, 0⟩ := by
  have e : enc ⟨7, a, 0, 0, k, sub, 0, 0, 0⟩ = [7, (16 * a + 0) % 256, k % 256, sub % 256] := rfl
  intro N g hN hg
  rw [e] at hN hg ⊢
  have hN : 4 ≤ N := hN
  have g1 : g 1 = (16 * a + 0) % 256 := hg 1 (show 1 < 4 from by decide)
  have g2 : g 2 = k % 256 := hg 2 (show 2 < 4 from by decide)
  have g3 : g 3 = sub % 256 := hg 3 (show 3 < 4 from by decide)
  show rdL N g [97, 75, 83] ⟨7, 0, 0, 0, 0, 0, 0, 0, 0⟩ 0 1 = _
  rw [step_a (a := a) (b := 0) (by omega) (by dsimp only; decide) g1 a1 a2 (by decide) (by decide)]
  rw [step_K (k := k) (by omega) (by dsimp only; decide) g2 k1 k2]
  rw [step_S (k := sub) (by omega) (by dsimp only; decide) g3 s1 s2]
  rfl
theorem says_8 {a b k sub : Int} (a1 : 0 ≤ a) (a2 : a < 16) (b1 : 0 ≤ b) (b2 : b < 16) (k1 : 0 ≤ k) (k2 : k < 256) (s1 : 0 ≤ sub) (s2 : sub < 256) : Says ⟨8, a, b, 0, k, sub, 0, 0, 0⟩ := by
  have e : enc ⟨8, a, b, 0, k, sub, 0, 0, 0⟩ = [8, (16 * a + b) % 256, k % 256, sub % 256] := rfl
  intro N g hN hg
  rw [e] at hN hg ⊢
  have hN : 4 ≤ N := hN
  have g1 : g 1 = (16 * a + b) % 256 := hg 1 (show 1 < 4 from by decide)
  have g2 : g 2 = k % 256 := hg 2 (show 2 < 4 from by decide)
  have g3 : g 3 = sub % 256 := hg 3 (show 3 < 4 from by decide)
  show rdL N g [97, 75, 83] ⟨8, 0, 0, 0, 0, 0, 0, 0, 0⟩ 0 1 = _
  rw [step_a (a := a) (b := b) (by omega) (by dsimp only; decide) g1 a1 a2 b1 b2]
  rw [step_K (k := k) (by omega) (by dsimp only; decide) g2 k1 k2]
  rw [step_S (k := sub) (by omega) (by dsimp only; decide) g3 s1 s2]
  rfl
theorem says_10 {a b c sc imm : Int} (a1 : 0 ≤ a) (a2 : a < 16) (b1 : 0 ≤ b) (b2 : b < 16) (c1 : 0 ≤ c) (c2 : c < 16) (hs : sc = 1 ∨ sc = 2 ∨ sc = 4 ∨ sc = 8 ∨ sc = 0) (i1 : -2147483648 ≤ imm) (i2 : imm < 2147483648) : Says ⟨10, a, b, c, 0, 0, sc, imm, 0⟩ := by
  have e : enc ⟨10, a, b, c, 0, 0, sc, imm, 0⟩ = [10, (16 * a + b) % 256, (16 * c + lg sc) % 256, Mm.by8 (imm % 18446744073709551616) 0, Mm.by8 (imm % 18446744073709551616) 1, Mm.by8 (imm % 18446744073709551616) 2, Mm.by8 (imm % 18446744073709551616) 3] := rfl
  intro N g hN hg
  rw [e] at hN hg ⊢
  have hN : 7 ≤ N := hN
  have g1 : g 1 = (16 * a + b) % 256 := hg 1 (show 1 < 7 from by decide)
  have g2 : g 2 = (16 * c + lg sc) % 256 := hg 2 (show 2 < 7 from by decide)
  have g3 : g 3 = Mm.by8 (imm % 18446744073709551616) 0 := hg 3 (show 3 < 7 from by decide)
  have g4 : g 4 = Mm.by8 (imm % 18446744073709551616) 1 := hg 4 (show 4 < 7 from by decide)
  have g5 : g 5 = Mm.by8 (imm % 18446744073709551616) 2 := hg 5 (show 5 < 7 from by decide)
  have g6 : g 6 = Mm.by8 (imm % 18446744073709551616) 3 := hg 6 (show 6 < 7 from by decide)
  show rdL N g [97, 99, 52] ⟨10, 0, 0, 0, 0, 0, 0, 0, 0⟩ 0 1 = _
  rw [step_a (a := a) (b := b) (by omega) (by dsimp only; decide) g1 a1 a2 b1 b2]
  rw [step_c (c := c) (sc := sc) (by omega) (by dsimp only; decide) g2 c1 c2 hs]
  rw [step_4 (n := imm) (by omega) (by dsimp only; decide) (num_low (.inr (.inl ⟨rfl, by omega, by omega⟩)) (four g3 g4 g5 g6))]
  rfl
theorem says_11 {a b k imm : Int} (a1 : 0 ≤ a) (a2 : a < 16) (b1 : 0 ≤ b) (b2 : b < 16) (k1 : 0 ≤ k) (k2 : k < 256) (i1 : -2147483648 ≤ imm) (i2 : imm < 2147483648) : Says ⟨11, a, b, 0, k, 0, 0, imm, 0⟩ := by
  have e : enc ⟨11, a, b, 0, k, 0, 0, imm, 0⟩ = [11, (16 * a + b) % 256, k % 256, Mm.by8 (imm % 18446744073709551616) 0, Mm.by8 (imm % 18446744073709551616) 1, Mm.by8 (imm % 18446744073709551616) 2, Mm.by8 (imm % 18446744073709551616) 3] := rfl
  intro N g hN hg
  rw [e] at hN hg ⊢
  have hN : 7 ≤ N := hN
  have g1 : g 1 = (16 * a + b) % 256 := hg 1 (show 1 < 7 from by decide)
  have g2 : g 2 = k % 256 := hg 2 (show 2 < 7 from by decide)
  have g3 : g 3 = Mm.by8 (imm % 18446744073709551616) 0 := hg 3 (show 3 < 7 from by decide)
  have g4 : g 4 = Mm.by8 (imm % 18446744073709551616) 1 := hg 4 (show 4 < 7 from by decide)
  have g5 : g 5 = Mm.by8 (imm % 18446744073709551616) 2 := hg 5 (show 5 < 7 from by decide)
  have g6 : g 6 = Mm.by8 (imm % 18446744073709551616) 3 := hg 6 (show 6 < 7 from by decide)
  show rdL N g [97, 75, 52] ⟨11, 0, 0, 0, 0, 0, 0, 0, 0⟩ 0 1 = _
  rw [step_a (a := a) (b := b) (by omega) (by dsimp only; decide) g1 a1 a2 b1 b2]
  rw [step_K (k := k) (by omega) (by dsimp only; decide) g2 k1 k2]
  rw [step_4 (n := imm) (by omega) (by dsimp only; decide) (num_low (.inr (.inl ⟨rfl, by omega, by omega⟩)) (four g3 g4 g5 g6))]
  rfl
theorem says_12 {a b c k sc imm : Int} (a1 : 0 ≤ a) (a2 : a < 16) (b1 : 0 ≤ b) (b2 : b < 16) (c1 : 0 ≤ c) (c2 : c < 16) (hs : sc = 1 ∨ sc = 2 ∨ sc = 4 ∨ sc = 8 ∨ sc = 0) (k1 : 0 ≤ k) (k2 : k < 256) (i1 : -2147483648 ≤ imm) (i2 : imm < 2147483648) : Says ⟨12, a, b, c, k, 0, sc, imm, 0⟩ := by
  have e : enc ⟨12, a, b, c, k, 0, sc, imm, 0⟩ = [12, (16 * a + b) % 256, (16 * c + lg sc) % 256, k % 256, Mm.by8 (imm % 18446744073709551616) 0, Mm.by8 (imm % 18446744073709551616) 1, Mm.by8 (imm % 18446744073709551616) 2, Mm.by8 (imm % 18446744073709551616) 3] := rfl
  intro N g hN hg
  rw [e] at hN hg ⊢
  have hN : 8 ≤ N := hN
  have g1 : g 1 = (16 * a + b) % 256 := hg 1 (show 1 < 8 from by decide)
  have g2 : g 2 = (16 * c + lg sc) % 256 := hg 2 (show 2 < 8 from by decide)
  have g3 : g 3 = k % 256 := hg 3 (show 3 < 8 from by decide)
  have g4 : g 4 = Mm.by8 (imm % 18446744073709551616) 0 := hg 4 (show 4 < 8 from by decide)
  have g5 : g 5 = Mm.by8 (imm % 18446744073709551616) 1 := hg 5 (show 5 < 8 from by decide)
  have g6 : g 6 = Mm.by8 (imm % 18446744073709551616) 2 := hg 6 (show 6 < 8 from by decide)
  have g7 : g 7 = Mm.by8 (imm % 18446744073709551616) 3 := hg 7 (show 7 < 8 from by decide)
  show rdL N g [97, 99, 75, 52] ⟨12, 0, 0, 0, 0, 0, 0, 0, 0⟩ 0 1 = _
  rw [step_a (a := a) (b := b) (by omega) (by dsimp only; decide) g1 a1 a2 b1 b2]
  rw [step_c (c := c) (sc := sc) (by omega) (by dsimp only; decide) g2 c1 c2 hs]
  rw [step_K (k := k) (by omega) (by dsimp only; decide) g3 k1 k2]
  rw [step_4 (n := imm) (by omega) (by dsimp only; decide) (num_low (.inr (.inl ⟨rfl, by omega, by omega⟩)) (four g4 g5 g6 g7))]
  rfl
theorem says_13 {a b k imm : Int} (a1 : 0 ≤ a) (a2 : a < 16) (b1 : 0 ≤ b) (b2 : b < 16) (k1 : 0 ≤ k) (k2 : k < 256) (i1 : -2147483648 ≤ imm) (i2 : imm < 2147483648) : Says ⟨13, a, b, 0, k, 0, 0, imm, 0⟩ := by
  have e : enc ⟨13, a, b, 0, k, 0, 0, imm, 0⟩ = [13, (16 * a + b) % 256, k % 256, Mm.by8 (imm % 18446744073709551616) 0, Mm.by8 (imm % 18446744073709551616) 1, Mm.by8 (imm % 18446744073709551616) 2, Mm.by8 (imm % 18446744073709551616) 3] := rfl
  intro N g hN hg
  rw [e] at hN hg ⊢
  have hN : 7 ≤ N := hN
  have g1 : g 1 = (16 * a + b) % 256 := hg 1 (show 1 < 7 from by decide)
  have g2 : g 2 = k % 256 := hg 2 (show 2 < 7 from by decide)
  have g3 : g 3 = Mm.by8 (imm % 18446744073709551616) 0 := hg 3 (show 3 < 7 from by decide)
  have g4 : g 4 = Mm.by8 (imm % 18446744073709551616) 1 := hg 4 (show 4 < 7 from by decide)
  have g5 : g 5 = Mm.by8 (imm % 18446744073709551616) 2 := hg 5 (show 5 < 7 from by decide)
  have g6 : g 6 = Mm.by8 (imm % 18446744073709551616) 3 := hg 6 (show 6 < 7 from by decide)
  show rdL N g [97, 75, 52] ⟨13, 0, 0, 0, 0, 0, 0, 0, 0⟩ 0 1 = _
  rw [step_a (a := a) (b := b) (by omega) (by dsimp only; decide) g1 a1 a2 b1 b2]
  rw [step_K (k := k) (by omega) (by dsimp only; decide) g2 k1 k2]
  rw [step_4 (n := imm) (by omega) (by dsimp only; decide) (num_low (.inr (.inl ⟨rfl, by omega, by omega⟩)) (four g3 g4 g5 g6))]
  rfl
theorem says_14 {a b c k sc imm : Int} (a1 : 0 ≤ a) (a2 : a < 16) (b1 : 0 ≤ b) (b2 : b < 16) (c1 : 0 ≤ c) (c2 : c < 16) (hs : sc = 1 ∨ sc = 2 ∨ sc = 4 ∨ sc = 8 ∨ sc = 0) (k1 : 0 ≤ k) (k2 : k < 256) (i1 : -2147483648 ≤ imm) (i2 : imm < 2147483648) : Says ⟨14, a, b, c, k, 0, sc, imm, 0⟩ := by
  have e : enc ⟨14, a, b, c, k, 0, sc, imm, 0⟩ = [14, (16 * a + b) % 256, (16 * c + lg sc) % 256, k % 256, Mm.by8 (imm % 18446744073709551616) 0, Mm.by8 (imm % 18446744073709551616) 1, Mm.by8 (imm % 18446744073709551616) 2, Mm.by8 (imm % 18446744073709551616) 3] := rfl
  intro N g hN hg
  rw [e] at hN hg ⊢
  have hN : 8 ≤ N := hN
  have g1 : g 1 = (16 * a + b) % 256 := hg 1 (show 1 < 8 from by decide)
  have g2 : g 2 = (16 * c + lg sc) % 256 := hg 2 (show 2 < 8 from by decide)
  have g3 : g 3 = k % 256 := hg 3 (show 3 < 8 from by decide)
  have g4 : g 4 = Mm.by8 (imm % 18446744073709551616) 0 := hg 4 (show 4 < 8 from by decide)
  have g5 : g 5 = Mm.by8 (imm % 18446744073709551616) 1 := hg 5 (show 5 < 8 from by decide)
  have g6 : g 6 = Mm.by8 (imm % 18446744073709551616) 2 := hg 6 (show 6 < 8 from by decide)
  have g7 : g 7 = Mm.by8 (imm % 18446744073709551616) 3 := hg 7 (show 7 < 8 from by decide)
  show rdL N g [97, 99, 75, 52] ⟨14, 0, 0, 0, 0, 0, 0, 0, 0⟩ 0 1 = _
  rw [step_a (a := a) (b := b) (by omega) (by dsimp only; decide) g1 a1 a2 b1 b2]
  rw [step_c (c := c) (sc := sc) (by omega) (by dsimp only; decide) g2 c1 c2 hs]
  rw [step_K (k := k) (by omega) (by dsimp only; decide) g3 k1 k2]
  rw [step_4 (n := imm) (by omega) (by dsimp only; decide) (num_low (.inr (.inl ⟨rfl, by omega, by omega⟩)) (four g4 g5 g6 g7))]
  rfl
theorem says_15 {a b sub : Int} (a1 : 0 ≤ a) (a2 : a < 16) (b1 : 0 ≤ b) (b2 : b < 16) (s1 : 0 ≤ sub) (s2 : sub < 256) : Says ⟨15, a, b, 0, 0, sub, 0, 0, 0⟩ := by
  have e : enc ⟨15, a, b, 0, 0, sub, 0, 0, 0⟩ = [15, (16 * a + b) % 256, sub % 256] := rfl
  intro N g hN hg
  rw [e] at hN hg ⊢
  have hN : 3 ≤ N := hN
  have g1 : g 1 = (16 * a + b) % 256 := hg 1 (show 1 < 3 from by decide)
  have g2 : g 2 = sub % 256 := hg 2 (show 2 < 3 from by decide)
  show rdL N g [97, 83] ⟨15, 0, 0, 0, 0, 0, 0, 0, 0⟩ 0 1 = _
  rw [step_a (a := a) (b := b) (by omega) (by dsimp only; decide) g1 a1 a2 b1 b2]
  rw [step_S (k := sub) (by omega) (by dsimp only; decide) g2 s1 s2]
  rfl
theorem says_16 {a b k : Int} (a1 : 0 ≤ a) (a2 : a < 16) (b1 : 0 ≤ b) (b2 : b < 16) (k1 : 0 ≤ k) (k2 : k < 256) : Says ⟨16, a, b, 0, k, 0, 0, 0, 0⟩ := by
  have e : enc ⟨16, a, b, 0, k, 0, 0, 0, 0⟩ = [16, (16 * a + b) % 256, k % 256] := rfl
  intro N g hN hg
  rw [e] at hN hg ⊢
  have hN : 3 ≤ N := hN
  have g1 : g 1 = (16 * a + b) % 256 := hg 1 (show 1 < 3 from by decide)
  have g2 : g 2 = k % 256 := hg 2 (show 2 < 3 from by decide)
  show rdL N g [97, 75] ⟨16, 0, 0, 0, 0, 0, 0, 0, 0⟩ 0 1 = _
  rw [step_a (a := a) (b := b) (by omega) (by dsimp only; decide) g1 a1 a2 b1 b2]
  rw [step_K (k := k) (by omega) (by dsimp only; decide) g2 k1 k2]
  rfl
theorem says_17_0 {a k imm : Int} (a1 : 0 ≤ a) (a2 : a < 16) (k1 : 0 ≤ k) (k2 : k < 256) (i1 : -128 ≤ imm) (i2 : imm < 128) : Says ⟨17, a, 0, 0, k, 0, 0, imm, 0⟩ := by
  have hz : size imm = 0 := by
    unfold size
    rw [if_pos ⟨i1, i2⟩]
  have e : enc ⟨17, a, 0, 0, k, 0, 0, imm, 0⟩ = [17, (16 * a + 0) % 256, k % 256, Mm.by8 (imm % 18446744073709551616) 0] := by
    show (17 : Int) % 256 :: ([(16 * a + size imm) % 256] ++ ([k % 256] ++ (low imm (cnt (size imm)) ++ []))) = _
    rw [hz]; rfl
  intro N g hN hg
  rw [e] at hN hg ⊢
  have hN : 4 ≤ N := hN
  have g1 : g 1 = (16 * a + 0) % 256 := hg 1 (show 1 < 4 from by decide)
  have g2 : g 2 = k % 256 := hg 2 (show 2 < 4 from by decide)
  have g3 : g 3 = Mm.by8 (imm % 18446744073709551616) 0 := hg 3 (show 3 < 4 from by decide)
  show rdL N g [110, 75, 105] ⟨17, 0, 0, 0, 0, 0, 0, 0, 0⟩ 0 1 = _
  rw [step_n (a := a) (z' := 0) (by omega) (by decide) (by dsimp only; decide) g1 a1 a2]
  rw [step_K (k := k) (by omega) (by dsimp only; decide) g2 k1 k2]
  rw [step_i (n := imm) (show 3 + 1 ≤ N from by omega) (by dsimp only; decide) (show num g 3 1 = imm from num_low (.inl ⟨rfl, by omega, by omega⟩) (one g3))]
  rfl
theorem says_17_1 {a k imm : Int} (a1 : 0 ≤ a) (a2 : a < 16) (k1 : 0 ≤ k) (k2 : k < 256) (i1 : -2147483648 ≤ imm) (i2 : imm < 2147483648) (i3 : ¬ (-128 ≤ imm ∧ imm < 128)) : Says ⟨17, a, 0, 0, k, 0, 0, imm, 0⟩ := by
  have hz : size imm = 1 := by
    unfold size
    rw [if_neg i3, if_pos ⟨i1, i2⟩]
  have e : enc ⟨17, a, 0, 0, k, 0, 0, imm, 0⟩ = [17, (16 * a + 1) % 256, k % 256, Mm.by8 (imm % 18446744073709551616) 0, Mm.by8 (imm % 18446744073709551616) 1, Mm.by8 (imm % 18446744073709551616) 2, Mm.by8 (imm % 18446744073709551616) 3] := by
    show (17 : Int) % 256 :: ([(16 * a + size imm) % 256] ++ ([k % 256] ++ (low imm (cnt (size imm)) ++ []))) = _
    rw [hz]; rfl
  intro N g hN hg
  rw [e] at hN hg ⊢
  have hN : 7 ≤ N := hN
  have g1 : g 1 = (16 * a + 1) % 256 := hg 1 (show 1 < 7 from by decide)
  have g2 : g 2 = k % 256 := hg 2 (show 2 < 7 from by decide)
  have g3 : g 3 = Mm.by8 (imm % 18446744073709551616) 0 := hg 3 (show 3 < 7 from by decide)
  have g4 : g 4 = Mm.by8 (imm % 18446744073709551616) 1 := hg 4 (show 4 < 7 from by decide)
  have g5 : g 5 = Mm.by8 (imm % 18446744073709551616) 2 := hg 5 (show 5 < 7 from by decide)
  have g6 : g 6 = Mm.by8 (imm % 18446744073709551616) 3 := hg 6 (show 6 < 7 from by decide)
  show rdL N g [110, 75, 105] ⟨17, 0, 0, 0, 0, 0, 0, 0, 0⟩ 0 1 = _
  rw [step_n (a := a) (z' := 1) (by omega) (by decide) (by dsimp only; decide) g1 a1 a2]
  rw [step_K (k := k) (by omega) (by dsimp only; decide) g2 k1 k2]
  rw [step_i (n := imm) (show 3 + 4 ≤ N from by omega) (by dsimp only; decide) (show num g 3 4 = imm from num_low (.inr (.inl ⟨rfl, by omega, by omega⟩)) (four g3 g4 g5 g6))]
  rfl
theorem says_18 {a sub : Int} (a1 : 0 ≤ a) (a2 : a < 16) (s1 : 0 ≤ sub) (s2 : sub < 256) : Says ⟨18, a, 0, 0, 0, sub, 0, 0, 0⟩ := by
  have e : enc ⟨18, a, 0, 0, 0, sub, 0, 0, 0⟩ = [18, (16 * a + 0) % 256, sub % 256] := rfl
  intro N g hN hg
  rw [e] at hN hg ⊢
  have hN : 3 ≤ N := hN
  have g1 : g 1 = (16 * a + 0) % 256 := hg 1 (show 1 < 3 from by decide)
  have g2 : g 2 = sub % 256 := hg 2 (show 2 < 3 from by decide)
  show rdL N g [97, 83] ⟨18, 0, 0, 0, 0, 0, 0, 0, 0⟩ 0 1 = _
  rw [step_a (a := a) (b := 0) (by omega) (by dsimp only; decide) g1 a1 a2 (by decide) (by decide)]
  rw [step_S (k := sub) (by omega) (by dsimp only; decide) g2 s1 s2]
  rfl
theorem says_19_0 {imm : Int} (i1 : -128 ≤ imm) (i2 : imm < 128) : Says ⟨19, 0, 0, 0, 0, 0, 0, imm, 0⟩ := by
  have hz : size imm = 0 := by
    unfold size
    rw [if_pos ⟨i1, i2⟩]
  have e : enc ⟨19, 0, 0, 0, 0, 0, 0, imm, 0⟩ = [19, 0, Mm.by8 (imm % 18446744073709551616) 0] := by
    show (19 : Int) % 256 :: ([size imm % 256] ++ (low imm (cnt (size imm)) ++ [])) = _
    rw [hz]; rfl
  intro N g hN hg
  rw [e] at hN hg ⊢
  have hN : 3 ≤ N := hN
  have g1 : g 1 = 0 := hg 1 (show 1 < 3 from by decide)
  have g2 : g 2 = Mm.by8 (imm % 18446744073709551616) 0 := hg 2 (show 2 < 3 from by decide)
  show rdL N g [106, 105] ⟨19, 0, 0, 0, 0, 0, 0, 0, 0⟩ 0 1 = _
  rw [step_j (z' := 0) (by omega) (by dsimp only; decide) g1]
  rw [step_i (n := imm) (show 2 + 1 ≤ N from by omega) (by dsimp only; decide) (show num g 2 1 = imm from num_low (.inl ⟨rfl, by omega, by omega⟩) (one g2))]
  rfl
theorem says_19_1 {imm : Int} (i1 : -2147483648 ≤ imm) (i2 : imm < 2147483648) (i3 : ¬ (-128 ≤ imm ∧ imm < 128)) : Says ⟨19, 0, 0, 0, 0, 0, 0, imm, 0⟩ := by
  have hz : size imm = 1 := by
    unfold size
    rw [if_neg i3, if_pos ⟨i1, i2⟩]
  have e : enc ⟨19, 0, 0, 0, 0, 0, 0, imm, 0⟩ = [19, 1, Mm.by8 (imm % 18446744073709551616) 0, Mm.by8 (imm % 18446744073709551616) 1, Mm.by8 (imm % 18446744073709551616) 2, Mm.by8 (imm % 18446744073709551616) 3] := by
    show (19 : Int) % 256 :: ([size imm % 256] ++ (low imm (cnt (size imm)) ++ [])) = _
    rw [hz]; rfl
  intro N g hN hg
  rw [e] at hN hg ⊢
  have hN : 6 ≤ N := hN
  have g1 : g 1 = 1 := hg 1 (show 1 < 6 from by decide)
  have g2 : g 2 = Mm.by8 (imm % 18446744073709551616) 0 := hg 2 (show 2 < 6 from by decide)
  have g3 : g 3 = Mm.by8 (imm % 18446744073709551616) 1 := hg 3 (show 3 < 6 from by decide)
  have g4 : g 4 = Mm.by8 (imm % 18446744073709551616) 2 := hg 4 (show 4 < 6 from by decide)
  have g5 : g 5 = Mm.by8 (imm % 18446744073709551616) 3 := hg 5 (show 5 < 6 from by decide)
  show rdL N g [106, 105] ⟨19, 0, 0, 0, 0, 0, 0, 0, 0⟩ 0 1 = _
  rw [step_j (z' := 1) (by omega) (by dsimp only; decide) g1]
  rw [step_i (n := imm) (show 2 + 4 ≤ N from by omega) (by dsimp only; decide) (show num g 2 4 = imm from num_low (.inr (.inl ⟨rfl, by omega, by omega⟩)) (four g2 g3 g4 g5))]
  rfl
theorem says_22_0 {sub imm : Int} (s1 : 11 ≤ sub) (s2 : sub ≤ 16) (i1 : -128 ≤ imm) (i2 : imm < 128) : Says ⟨22, 0, 0, 0, 0, sub, 0, imm, 0⟩ := by
  have hz : size imm = 0 := by
    unfold size
    rw [if_pos ⟨i1, i2⟩]
  have e : enc ⟨22, 0, 0, 0, 0, sub, 0, imm, 0⟩ = [22, (16 * (sub - 11) + 0) % 256, Mm.by8 (imm % 18446744073709551616) 0] := by
    show (22 : Int) % 256 :: ([(16 * (sub - 11) + size imm) % 256] ++ (low imm (cnt (size imm)) ++ [])) = _
    rw [hz]; rfl
  intro N g hN hg
  rw [e] at hN hg ⊢
  have hN : 3 ≤ N := hN
  have g1 : g 1 = (16 * (sub - 11) + 0) % 256 := hg 1 (show 1 < 3 from by decide)
  have g2 : g 2 = Mm.by8 (imm % 18446744073709551616) 0 := hg 2 (show 2 < 3 from by decide)
  show rdL N g [74, 105] ⟨22, 0, 0, 0, 0, 0, 0, 0, 0⟩ 0 1 = _
  rw [step_J (sub := sub) (z' := 0) (by omega) (by decide) (by dsimp only; decide) g1 s1 s2]
  rw [step_i (n := imm) (show 2 + 1 ≤ N from by omega) (by dsimp only; decide) (show num g 2 1 = imm from num_low (.inl ⟨rfl, by omega, by omega⟩) (one g2))]
  rfl
theorem says_22_1 {sub imm : Int} (s1 : 11 ≤ sub) (s2 : sub ≤ 16) (i1 : -2147483648 ≤ imm) (i2 : imm < 2147483648) (i3 : ¬ (-128 ≤ imm ∧ imm < 128)) : Says ⟨22, 0, 0, 0, 0, sub, 0, imm, 0⟩ := by
  have hz : size imm = 1 := by
    unfold size
    rw [if_neg i3, if_pos ⟨i1, i2⟩]
  have e : enc ⟨22, 0, 0, 0, 0, sub, 0, imm, 0⟩ = [22, (16 * (sub - 11) + 1) % 256, Mm.by8 (imm % 18446744073709551616) 0, Mm.by8 (imm % 18446744073709551616) 1, Mm.by8 (imm % 18446744073709551616) 2, Mm.by8 (imm % 18446744073709551616) 3] := by
    show (22 : Int) % 256 :: ([(16 * (sub - 11) + size imm) % 256] ++ (low imm (cnt (size imm)) ++ [])) = _
    rw [hz]; rfl
  intro N g hN hg
  rw [e] at hN hg ⊢
  have hN : 6 ≤ N := hN
  have g1 : g 1 = (16 * (sub - 11) + 1) % 256 := hg 1 (show 1 < 6 from by decide)
  have g2 : g 2 = Mm.by8 (imm % 18446744073709551616) 0 := hg 2 (show 2 < 6 from by decide)
  have g3 : g 3 = Mm.by8 (imm % 18446744073709551616) 1 := hg 3 (show 3 < 6 from by decide)
  have g4 : g 4 = Mm.by8 (imm % 18446744073709551616) 2 := hg 4 (show 4 < 6 from by decide)
  have g5 : g 5 = Mm.by8 (imm % 18446744073709551616) 3 := hg 5 (show 5 < 6 from by decide)
  show rdL N g [74, 105] ⟨22, 0, 0, 0, 0, 0, 0, 0, 0⟩ 0 1 = _
  rw [step_J (sub := sub) (z' := 1) (by omega) (by decide) (by dsimp only; decide) g1 s1 s2]
  rw [step_i (n := imm) (show 2 + 4 ≤ N from by omega) (by dsimp only; decide) (show num g 2 4 = imm from num_low (.inr (.inl ⟨rfl, by omega, by omega⟩)) (four g2 g3 g4 g5))]
  rfl
theorem says_23 {imm : Int} (i1 : -2147483648 ≤ imm) (i2 : imm < 2147483648) : Says ⟨23, 0, 0, 0, 0, 0, 0, imm, 0⟩ := by
  have e : enc ⟨23, 0, 0, 0, 0, 0, 0, imm, 0⟩ = [23, Mm.by8 (imm % 18446744073709551616) 0, Mm.by8 (imm % 18446744073709551616) 1, Mm.by8 (imm % 18446744073709551616) 2, Mm.by8 (imm % 18446744073709551616) 3] := rfl
  intro N g hN hg
  rw [e] at hN hg ⊢
  have hN : 5 ≤ N := hN
  have g1 : g 1 = Mm.by8 (imm % 18446744073709551616) 0 := hg 1 (show 1 < 5 from by decide)
  have g2 : g 2 = Mm.by8 (imm % 18446744073709551616) 1 := hg 2 (show 2 < 5 from by decide)
  have g3 : g 3 = Mm.by8 (imm % 18446744073709551616) 2 := hg 3 (show 3 < 5 from by decide)
  have g4 : g 4 = Mm.by8 (imm % 18446744073709551616) 3 := hg 4 (show 4 < 5 from by decide)
  show rdL N g [52] ⟨23, 0, 0, 0, 0, 0, 0, 0, 0⟩ 0 1 = _
  rw [step_4 (n := imm) (by omega) (by dsimp only; decide) (num_low (.inr (.inl ⟨rfl, by omega, by omega⟩)) (four g1 g2 g3 g4))]
  rfl
theorem says_24 : Says ⟨24, 0, 0, 0, 0, 0, 0, 0, 0⟩ := by
  have e : enc ⟨24, 0, 0, 0, 0, 0, 0, 0, 0⟩ = [24] := rfl
  intro N g hN hg
  rw [e] at hN hg ⊢
  show rdL N g [] ⟨24, 0, 0, 0, 0, 0, 0, 0, 0⟩ 0 1 = _
  rfl
theorem says_25 {imm : Int} (i1 : -2147483648 ≤ imm) (i2 : imm < 2147483648) : Says ⟨25, 0, 0, 0, 0, 0, 0, imm, 0⟩ := by
  have e : enc ⟨25, 0, 0, 0, 0, 0, 0, imm, 0⟩ = [25, Mm.by8 (imm % 18446744073709551616) 0, Mm.by8 (imm % 18446744073709551616) 1, Mm.by8 (imm % 18446744073709551616) 2, Mm.by8 (imm % 18446744073709551616) 3] := rfl
  intro N g hN hg
  rw [e] at hN hg ⊢
  have hN : 5 ≤ N := hN
  have g1 : g 1 = Mm.by8 (imm % 18446744073709551616) 0 := hg 1 (show 1 < 5 from by decide)
  have g2 : g 2 = Mm.by8 (imm % 18446744073709551616) 1 := hg 2 (show 2 < 5 from by decide)
  have g3 : g 3 = Mm.by8 (imm % 18446744073709551616) 2 := hg 3 (show 3 < 5 from by decide)
  have g4 : g 4 = Mm.by8 (imm % 18446744073709551616) 3 := hg 4 (show 4 < 5 from by decide)
  show rdL N g [52] ⟨25, 0, 0, 0, 0, 0, 0, 0, 0⟩ 0 1 = _
  rw [step_4 (n := imm) (by omega) (by dsimp only; decide) (num_low (.inr (.inl ⟨rfl, by omega, by omega⟩)) (four g1 g2 g3 g4))]
  rfl
theorem says_26 {a b : Int} (a1 : 0 ≤ a) (a2 : a < 16) (b1 : 0 ≤ b) (b2 : b < 16) : Says ⟨26, a, b, 0, 0, 0, 0, 0, 0⟩ := by
  have e : enc ⟨26, a, b, 0, 0, 0, 0, 0, 0⟩ = [26, (16 * a + b) % 256] := rfl
  intro N g hN hg
  rw [e] at hN hg ⊢
  have hN : 2 ≤ N := hN
  have g1 : g 1 = (16 * a + b) % 256 := hg 1 (show 1 < 2 from by decide)
  show rdL N g [97] ⟨26, 0, 0, 0, 0, 0, 0, 0, 0⟩ 0 1 = _
  rw [step_a (a := a) (b := b) (by omega) (by dsimp only; decide) g1 a1 a2 b1 b2]
  rfl
theorem says_27 {a : Int} (a1 : 0 ≤ a) (a2 : a < 16) : Says ⟨27, a, 0, 0, 0, 0, 0, 0, 0⟩ := by
  have e : enc ⟨27, a, 0, 0, 0, 0, 0, 0, 0⟩ = [27, (16 * a + 0) % 256] := rfl
  intro N g hN hg
  rw [e] at hN hg ⊢
  have hN : 2 ≤ N := hN
  have g1 : g 1 = (16 * a + 0) % 256 := hg 1 (show 1 < 2 from by decide)
  show rdL N g [97] ⟨27, 0, 0, 0, 0, 0, 0, 0, 0⟩ 0 1 = _
  rw [step_a (a := a) (b := 0) (by omega) (by dsimp only; decide) g1 a1 a2 (by decide) (by decide)]
  rfl
theorem says_28 {a : Int} (a1 : 0 ≤ a) (a2 : a < 16) : Says ⟨28, a, 0, 0, 0, 0, 0, 0, 0⟩ := by
  have e : enc ⟨28, a, 0, 0, 0, 0, 0, 0, 0⟩ = [28, (16 * a + 0) % 256] := rfl
  intro N g hN hg
  rw [e] at hN hg ⊢
  have hN : 2 ≤ N := hN
  have g1 : g 1 = (16 * a + 0) % 256 := hg 1 (show 1 < 2 from by decide)
  show rdL N g [97] ⟨28, 0, 0, 0, 0, 0, 0, 0, 0⟩ 0 1 = _
  rw [step_a (a := a) (b := 0) (by omega) (by dsimp only; decide) g1 a1 a2 (by decide) (by decide)]
  rfl
theorem says_29 {imm : Int} (i1 : -2147483648 ≤ imm) (i2 : imm < 2147483648) : Says ⟨29, 0, 0, 0, 0, 0, 0, imm, 0⟩ := by
  have e : enc ⟨29, 0, 0, 0, 0, 0, 0, imm, 0⟩ = [29, Mm.by8 (imm % 18446744073709551616) 0, Mm.by8 (imm % 18446744073709551616) 1, Mm.by8 (imm % 18446744073709551616) 2, Mm.by8 (imm % 18446744073709551616) 3] := rfl
  intro N g hN hg
  rw [e] at hN hg ⊢
  have hN : 5 ≤ N := hN
  have g1 : g 1 = Mm.by8 (imm % 18446744073709551616) 0 := hg 1 (show 1 < 5 from by decide)
  have g2 : g 2 = Mm.by8 (imm % 18446744073709551616) 1 := hg 2 (show 2 < 5 from by decide)
  have g3 : g 3 = Mm.by8 (imm % 18446744073709551616) 2 := hg 3 (show 3 < 5 from by decide)
  have g4 : g 4 = Mm.by8 (imm % 18446744073709551616) 3 := hg 4 (show 4 < 5 from by decide)
  show rdL N g [52] ⟨29, 0, 0, 0, 0, 0, 0, 0, 0⟩ 0 1 = _
  rw [step_4 (n := imm) (by omega) (by dsimp only; decide) (num_low (.inr (.inl ⟨rfl, by omega, by omega⟩)) (four g1 g2 g3 g4))]
  rfl

end Cc
end Go.Proofs.YtdklaeppcjopoaaGreat

/- What follows of C64's bytes: there and back; nothing behind them is looked at; cut short they are too few. -/
namespace Go.Proofs.YtdklaeppcjopoaaGreat
set_option linter.unusedVariables false

namespace Cc
theorem says {v : InV} (h : mayB v = true) (i1 : -9223372036854775808 ≤ v.imm) (i2 : v.imm ≤ 9223372036854775807) : Says v := by
  have r := rng h
  have hc := codes r.rw
  obtain ⟨op, a, b, c, k, sub, sc, imm, lb⟩ := v
  obtain ⟨_, hl, a1, a2, b1, b2, c1, c2, u0, u1, u2, u3, u4, u5, sm, kd⟩ := r
  dsimp only at *
  subst hl
  rcases hc with rfl | rfl | rfl | rfl | rfl | rfl | rfl | rfl | rfl | rfl | rfl | rfl | rfl | rfl | rfl | rfl | rfl | rfl | rfl | rfl | rfl | rfl | rfl | rfl | rfl
  · obtain rfl : b = 0 := u1.resolve_left (by decide)
    obtain rfl : k = 0 := u3.resolve_left (by decide)
    obtain rfl : sub = 0 := u4.resolve_left (by decide)
    obtain ⟨rfl, rfl⟩ : c = 0 ∧ sc = 0 := u2.resolve_left (by decide)
    by_cases z0 : -128 ≤ imm ∧ imm < 128
    · exact says_1_0 a1 a2 z0.1 z0.2
    · by_cases z1 : -2147483648 ≤ imm ∧ imm < 2147483648
      · exact says_1_1 a1 a2 z1.1 z1.2 z0
      · exact says_1_2 a1 a2 i1 i2 z1
  · obtain rfl : k = 0 := u3.resolve_left (by decide)
    obtain rfl : sub = 0 := u4.resolve_left (by decide)
    obtain rfl : imm = 0 := u5.resolve_left (by decide)
    obtain ⟨rfl, rfl⟩ : c = 0 ∧ sc = 0 := u2.resolve_left (by decide)
    exact says_3 a1 a2 b1 b2
  · obtain rfl : imm = 0 := u5.resolve_left (by decide)
    obtain ⟨rfl, rfl⟩ : c = 0 ∧ sc = 0 := u2.resolve_left (by decide)
    have q := bin_rng (show binB _ = true from kd)
    dsimp only at q
    exact says_4 a1 a2 b1 b2 (by omega) (by omega) (by omega) (by omega)
  · obtain rfl : b = 0 := u1.resolve_left (by decide)
    obtain ⟨rfl, rfl⟩ : c = 0 ∧ sc = 0 := u2.resolve_left (by decide)
    have q := imm_rng (show immB sub k imm = true from kd)
    have sm := sm.resolve_left (by decide)
    by_cases z0 : -128 ≤ imm ∧ imm < 128
    · exact says_5_0 a1 a2 (by omega) (by omega) (by omega) (by omega) z0.1 z0.2
    · exact says_5_1 a1 a2 (by omega) (by omega) (by omega) (by omega) sm.1 sm.2 z0
  · obtain ⟨rfl, rfl⟩ : c = 0 ∧ sc = 0 := u2.resolve_left (by decide)
    have q := binM_rng (show (Wd.hasBinB sub k && _ && _) = true from kd)
    have sm := sm.resolve_left (by decide)
    exact says_6 a1 a2 b1 b2 (by omega) (by omega) (by omega) (by omega) sm.1 sm.2
  · obtain rfl : b = 0 := u1.resolve_left (by decide)
    obtain rfl : imm = 0 := u5.resolve_left (by decide)
    obtain ⟨rfl, rfl⟩ : c = 0 ∧ sc = 0 := u2.resolve_left (by decide)
    have q := Rc.un_rng (show Wd.hasUnB sub k = true from kd)
    exact says_7 a1 a2 (by omega) (by omega) (by omega) (by omega)
  · obtain rfl : imm = 0 := u5.resolve_left (by decide)
    obtain ⟨rfl, rfl⟩ : c = 0 ∧ sc = 0 := u2.resolve_left (by decide)
    have q := Rc.conv_rng (show (Wd.numB sub && Wd.numB k) = true from kd)
    exact says_8 a1 a2 b1 b2 (by omega) (by omega) (by omega) (by omega)
  · obtain rfl : k = 0 := u3.resolve_left (by decide)
    obtain rfl : sub = 0 := u4.resolve_left (by decide)
    have q := scl_rng (show sclB _ = true from kd)
    have sm := sm.resolve_left (by decide)
    exact says_10 a1 a2 b1 b2 c1 c2 q sm.1 sm.2
  · obtain rfl : sub = 0 := u4.resolve_left (by decide)
    obtain ⟨rfl, rfl⟩ : c = 0 ∧ sc = 0 := u2.resolve_left (by decide)
    have q := Rc.word_rng (show Wd.wordB k = true from kd)
    have sm := sm.resolve_left (by decide)
    exact says_11 a1 a2 b1 b2 (by omega) (by omega) sm.1 sm.2
  · obtain rfl : sub = 0 := u4.resolve_left (by decide)
    have q2 := (Bool.and_eq_true _ _).mp (show (sclB _ && Wd.wordB k) = true from kd)
    have q := scl_rng q2.1
    have q3 := Rc.word_rng q2.2
    have sm := sm.resolve_left (by decide)
    exact says_12 a1 a2 b1 b2 c1 c2 q (by omega) (by omega) sm.1 sm.2
  · obtain rfl : sub = 0 := u4.resolve_left (by decide)
    obtain ⟨rfl, rfl⟩ : c = 0 ∧ sc = 0 := u2.resolve_left (by decide)
    have q := Rc.word_rng (show Wd.wordB k = true from kd)
    have sm := sm.resolve_left (by decide)
    exact says_13 a1 a2 b1 b2 (by omega) (by omega) sm.1 sm.2
  · obtain rfl : sub = 0 := u4.resolve_left (by decide)
    have q2 := (Bool.and_eq_true _ _).mp (show (sclB _ && Wd.wordB k) = true from kd)
    have q := scl_rng q2.1
    have q3 := Rc.word_rng q2.2
    have sm := sm.resolve_left (by decide)
    exact says_14 a1 a2 b1 b2 c1 c2 q (by omega) (by omega) sm.1 sm.2
  · obtain rfl : k = 0 := u3.resolve_left (by decide)
    obtain rfl : imm = 0 := u5.resolve_left (by decide)
    obtain ⟨rfl, rfl⟩ : c = 0 ∧ sc = 0 := u2.resolve_left (by decide)
    have q := cmp_rng (show Wd.cmpB sub = true from kd)
    exact says_15 a1 a2 b1 b2 (by omega) (by omega)
  · obtain rfl : sub = 0 := u4.resolve_left (by decide)
    obtain rfl : imm = 0 := u5.resolve_left (by decide)
    obtain ⟨rfl, rfl⟩ : c = 0 ∧ sc = 0 := u2.resolve_left (by decide)
    have q := Rc.word_rng (show Wd.wordB k = true from kd)
    exact says_16 a1 a2 b1 b2 (by omega) (by omega)
  · obtain rfl : b = 0 := u1.resolve_left (by decide)
    obtain rfl : sub = 0 := u4.resolve_left (by decide)
    obtain ⟨rfl, rfl⟩ : c = 0 ∧ sc = 0 := u2.resolve_left (by decide)
    have q := imm_rng (show immB 2 k imm = true from kd)
    have sm := sm.resolve_left (by decide)
    by_cases z0 : -128 ≤ imm ∧ imm < 128
    · exact says_17_0 a1 a2 (by omega) (by omega) z0.1 z0.2
    · exact says_17_1 a1 a2 (by omega) (by omega) sm.1 sm.2 z0
  · obtain rfl : b = 0 := u1.resolve_left (by decide)
    obtain rfl : k = 0 := u3.resolve_left (by decide)
    obtain rfl : imm = 0 := u5.resolve_left (by decide)
    obtain ⟨rfl, rfl⟩ : c = 0 ∧ sc = 0 := u2.resolve_left (by decide)
    have q := cmp_rng (show Wd.cmpB sub = true from kd)
    exact says_18 a1 a2 (by omega) (by omega)
  · obtain rfl : a = 0 := u0.resolve_left (by decide)
    obtain rfl : b = 0 := u1.resolve_left (by decide)
    obtain rfl : k = 0 := u3.resolve_left (by decide)
    obtain rfl : sub = 0 := u4.resolve_left (by decide)
    obtain ⟨rfl, rfl⟩ : c = 0 ∧ sc = 0 := u2.resolve_left (by decide)
    have sm := sm.resolve_left (by decide)
    by_cases z0 : -128 ≤ imm ∧ imm < 128
    · exact says_19_0 z0.1 z0.2
    · exact says_19_1 sm.1 sm.2 z0
  · obtain rfl : a = 0 := u0.resolve_left (by decide)
    obtain rfl : b = 0 := u1.resolve_left (by decide)
    obtain rfl : k = 0 := u3.resolve_left (by decide)
    obtain ⟨rfl, rfl⟩ : c = 0 ∧ sc = 0 := u2.resolve_left (by decide)
    have q := cmp_rng (show Wd.cmpB sub = true from kd)
    have sm := sm.resolve_left (by decide)
    by_cases z0 : -128 ≤ imm ∧ imm < 128
    · exact says_22_0 (by omega) (by omega) z0.1 z0.2
    · exact says_22_1 (by omega) (by omega) sm.1 sm.2 z0
  · obtain rfl : a = 0 := u0.resolve_left (by decide)
    obtain rfl : b = 0 := u1.resolve_left (by decide)
    obtain rfl : k = 0 := u3.resolve_left (by decide)
    obtain rfl : sub = 0 := u4.resolve_left (by decide)
    obtain ⟨rfl, rfl⟩ : c = 0 ∧ sc = 0 := u2.resolve_left (by decide)
    have sm := sm.resolve_left (by decide)
    exact says_23 sm.1 sm.2
  · obtain rfl : a = 0 := u0.resolve_left (by decide)
    obtain rfl : b = 0 := u1.resolve_left (by decide)
    obtain rfl : k = 0 := u3.resolve_left (by decide)
    obtain rfl : sub = 0 := u4.resolve_left (by decide)
    obtain rfl : imm = 0 := u5.resolve_left (by decide)
    obtain ⟨rfl, rfl⟩ : c = 0 ∧ sc = 0 := u2.resolve_left (by decide)
    exact says_24
  · obtain rfl : a = 0 := u0.resolve_left (by decide)
    obtain rfl : b = 0 := u1.resolve_left (by decide)
    obtain rfl : k = 0 := u3.resolve_left (by decide)
    obtain rfl : sub = 0 := u4.resolve_left (by decide)
    obtain ⟨rfl, rfl⟩ : c = 0 ∧ sc = 0 := u2.resolve_left (by decide)
    have sm := sm.resolve_left (by decide)
    exact says_25 sm.1 sm.2
  · obtain rfl : k = 0 := u3.resolve_left (by decide)
    obtain rfl : sub = 0 := u4.resolve_left (by decide)
    obtain rfl : imm = 0 := u5.resolve_left (by decide)
    obtain ⟨rfl, rfl⟩ : c = 0 ∧ sc = 0 := u2.resolve_left (by decide)
    exact says_26 a1 a2 b1 b2
  · obtain rfl : b = 0 := u1.resolve_left (by decide)
    obtain rfl : k = 0 := u3.resolve_left (by decide)
    obtain rfl : sub = 0 := u4.resolve_left (by decide)
    obtain rfl : imm = 0 := u5.resolve_left (by decide)
    obtain ⟨rfl, rfl⟩ : c = 0 ∧ sc = 0 := u2.resolve_left (by decide)
    exact says_27 a1 a2
  · obtain rfl : b = 0 := u1.resolve_left (by decide)
    obtain rfl : k = 0 := u3.resolve_left (by decide)
    obtain rfl : sub = 0 := u4.resolve_left (by decide)
    obtain rfl : imm = 0 := u5.resolve_left (by decide)
    obtain ⟨rfl, rfl⟩ : c = 0 ∧ sc = 0 := u2.resolve_left (by decide)
    exact says_28 a1 a2
  · obtain rfl : a = 0 := u0.resolve_left (by decide)
    obtain rfl : b = 0 := u1.resolve_left (by decide)
    obtain rfl : k = 0 := u3.resolve_left (by decide)
    obtain rfl : sub = 0 := u4.resolve_left (by decide)
    obtain ⟨rfl, rfl⟩ : c = 0 ∧ sc = 0 := u2.resolve_left (by decide)
    have sm := sm.resolve_left (by decide)
    exact says_29 sm.1 sm.2

theorem op_mod {v : InV} (h : mayB v = true) : v.op % 256 = v.op := by
  have hc := codes (rng h).rw
  omega
theorem enc_pos (v : InV) : 1 ≤ (enc v).length := by unfold enc; simp
theorem enc_zero {v : InV} (h : mayB v = true) : (enc v).getD 0 0 = v.op := by
  show v.op % 256 = v.op
  exact op_mod h
/-- there and back, whatever stands behind -/
theorem dec_enc {v : InV} (h : mayB v = true) (i1 : -9223372036854775808 ≤ v.imm) (i2 : v.imm ≤ 9223372036854775807) {N : Nat} {g : Nat → Int} (hN : (enc v).length ≤ N) (hg : ∀ i, i < (enc v).length → g i = (enc v).getD i 0) : dec N g = (v, ((enc v).length : Int), 0) := by
  have hp := enc_pos v
  have g0 : g 0 = v.op := (hg 0 (by omega)).trans (enc_zero h)
  have hr : read N g = (v, ((enc v).length : Int)) := by
    unfold read
    rw [g0]
    exact says h i1 i2 N g hN hg
  have hs : startsB (enc v) g = true := decide_eq_true hg
  unfold dec
  rw [hr, g0]
  dsimp only
  rw [if_neg (by omega), if_neg (by rw [(rng h).rw]; decide), if_neg (by omega), if_neg]
  rw [h, hs]
  rintro (e | e | e | e)
  · omega
  · cases e
  · exact e rfl
  · cases e
theorem rd_N {N : Nat} {g : Nat → Int} : ∀ (s : List Int) (v : InV) (z : Int) (p : Nat), p ≤ N → 0 ≤ (rdL N g s v z p).2 → (rdL N g s v z p).2 ≤ N := by
  intro s
  induction s with
  | nil => intro v z p h1 h2; unfold rdL; dsimp only; omega
  | cons l s ih =>
    intro v z p h1 h2
    unfold rdL at h2 ⊢
    split
    · dsimp only; omega
    · rename_i h3
      rw [if_neg h3] at h2
      split
      · rename_i h4
        rw [if_pos h4] at h2
        dsimp only at h2; omega
      · rename_i h4
        rw [if_neg h4] at h2
        exact ih _ _ _ (by omega) h2
/-- what is taken is an instruction, and its bytes -/
theorem dec_ok {N : Nat} {g : Nat → Int} {v : InV} {n : Int} (h : dec N g = (v, n, 0)) : mayB v = true ∧ ((enc v).length : Int) = n ∧ (∀ i, i < (enc v).length → g i = (enc v).getD i 0) ∧ n ≤ N ∧ read N g = (v, n) := by
  unfold dec at h
  split at h
  · simp at h
  split at h
  · simp at h
  split at h
  · simp at h
  split at h
  · simp at h
  rename_i h1 h2 h3 h4
  simp only [Prod.mk.injEq, and_true] at h
  obtain ⟨rfl, rfl⟩ := h
  have h5 : ¬ (read N g).2 < 0 := fun e => h4 (.inl e)
  have h6 : mayB (read N g).1 = true := by
    cases e : mayB (read N g).1
    · exact absurd (.inr (.inl e)) h4
    · rfl
  have h7 : ((enc (read N g).1).length : Int) = (read N g).2 := by
    by_cases e : ((enc (read N g).1).length : Int) = (read N g).2
    · exact e
    · exact absurd (.inr (.inr (.inl e))) h4
  have h8 : startsB (enc (read N g).1) g = true := by
    cases e : startsB (enc (read N g).1) g
    · exact absurd (.inr (.inr (.inr e))) h4
    · rfl
  refine ⟨h6, h7, of_decide_eq_true h8, ?_, rfl⟩
  exact rd_N _ _ _ _ (by omega) (show 0 ≤ (read N g).2 by omega)
end Cc
end Go.Proofs.YtdklaeppcjopoaaGreat

/- Instructions of C64 one behind the other: their bytes fall apart in one way. Plain. -/
namespace Go.Proofs.YtdklaeppcjopoaaGreat
set_option linter.unusedVariables false

namespace Cc
end Cc
end Go.Proofs.YtdklaeppcjopoaaGreat

/- gantryref3.May: its contract. -/
namespace Go.Proofs.YtdklaeppcjopoaaGreat
open Go.RowKit
set_option linter.unusedVariables false

namespace Rc
def kindC (v : InV) : Bool :=
  cond (v.op == 4) (Wd.hasBinB v.sub v.k) (cond (v.op == 7) (Wd.hasUnB v.sub v.k) (cond (v.op == 8) (Wd.numB v.sub && Wd.numB v.k) (cond (v.op == 11) (Wd.wordB v.k) (cond (v.op == 13) (Wd.wordB v.k)
  (cond (v.op == 15) (decide (0 ≤ v.imm) && decide (v.imm < 16)) (cond (v.op == 25) (decide (0 ≤ v.imm)) (cond (v.op == 29) (decide (0 < v.imm)) true)))))))
theorem kind_c (v : InV) : kindB v = kindC v := by
  unfold kindB kindC
  simp only [Bool.cond_eq_ite, beq_iff_eq]
  repeat' split
  all_goals first | rfl | omega
end Rc
end Go.Proofs.YtdklaeppcjopoaaGreat

/- risc.fits: its contract. -/
namespace Go.Proofs.YtdklaeppcjopoaaGreat
open Go.RowKit
set_option linter.unusedVariables false

namespace Rc
def fitB (v : InV) : Bool := !(v.op == 0) && regB v.a && regB v.b && regB v.c && kindB v
/-- an error of the kind alone says that there is no such operation -/
theorem bin_e (s k : Int) : ((Fl.binA s k 0 0).2 == 10) = !Wd.hasBinB s k := by
  unfold Fl.binA Fl.binF Wd.binI
  by_cases hk : k = 10
  · subst hk; rw [if_pos rfl]; cases Wd.hasBinB s 10 <;> rfl
  · rw [if_neg hk]
    cases Wd.hasBinB s k
    · rfl
    · rw [if_neg (by simp)]
      repeat' split
      all_goals rfl
theorem un_e (s k : Int) : ((Wd.unI s k 0).2 == 10) = !Wd.hasUnB s k := by
  unfold Wd.unI
  cases Wd.hasUnB s k
  · rfl
  · rw [if_neg (by simp)]
    repeat' split
    all_goals rfl
theorem conv_e (s k : Int) : ((Fl.convA s k 0).2 == 10) = !(Wd.numB s && Wd.numB k) := by
  unfold Fl.convA
  cases (Wd.numB s && Wd.numB k)
  · rfl
  · rw [if_neg (by simp)]
    repeat' split
    all_goals rfl
theorem wid_e (k : Int) : decide (0 < Wd.wid k) = Wd.wordB k := by
  unfold Wd.wid Wd.wordB
  rw [Bool.eq_iff_iff]
  simp only [decide_eq_true_eq, Bool.and_eq_true]
  repeat' split
  all_goals omega
theorem bin_ne (s k : Int) : ((Fl.binA s k 0 0).2 != 10) = Wd.hasBinB s k := by rw [bne, bin_e]; simp
theorem un_ne (s k : Int) : ((Wd.unI s k 0).2 != 10) = Wd.hasUnB s k := by rw [bne, un_e]; simp
theorem conv_ne (s k : Int) : ((Fl.convA s k 0).2 != 10) = (Wd.numB s && Wd.numB k) := by rw [bne, conv_e]; simp
theorem fit_c (v : InV) : fitB v = (!(v.op == 0) && regB v.a && regB v.b && regB v.c && kindC v) := by unfold fitB; rw [kind_c]
end Rc

set_option maxHeartbeats 8000000 in
theorem fits_any (v : InV) (w : World) :
    Calls Tryz.prog 185 #[inst v] w fun e w' => e = .returned (.bool (Rc.fitB v)) ∧ w.grownBy w' none := by
  unfold inst
  go_enter Tryz.func185, Tryz.ntmps185
  go_wp2_with (first
    | (go_at_call 196; refine (isReg_any _ _).mono ?_; rintro e w' ⟨rfl, rfl⟩)
    | (go_at_call 175; refine (binA_any _ _ 0 0 _ (by decide) (by decide) (by decide) (by decide)).mono ?_; rintro e w' ⟨rfl, n, rfl⟩)
    | (go_at_call 177; refine (un_any _ _ 0 _ (by decide) (by decide)).mono ?_; rintro e w' ⟨rfl, rfl⟩)
    | (go_at_call 193; refine (conv_any _ _ 0 _ (by decide) (by decide)).mono ?_; rintro e w' ⟨rfl, rfl⟩)
    | (go_at_call 140; refine (width_any _ _).mono ?_; rintro e w' ⟨rfl, rfl⟩))
  all_goals
    go_ret
    refine ⟨ret_bool ?_, ?_⟩
    · rw [Rc.fit_c]
      try rw [Rc.bin_ne]
      try rw [Rc.un_ne]
      try rw [Rc.conv_ne]
      try rw [Rc.wid_e]
      unfold Rc.kindC
      first | (simp [*]; done) | (simp_all; done) | (simp_all; omega)
    · first | exact World.grownBy_alloc _ _ _ | exact grown_drewN (World.grownBy_alloc _ _ _) _

end Go.Proofs.YtdklaeppcjopoaaGreat

/- Small functions of cisc, gantryref4 and gantrylaw4: contracts. -/
namespace Go.Proofs.YtdklaeppcjopoaaGreat
open Go.RowKit
set_option linter.unusedVariables false

theorem wrap_i8 (x : Int) : IntKind.i8.wrap x = (x + 128) % 256 - 128 := by
  simp [IntKind.wrap, IntKind.bits, IntKind.signed]
  split <;> omega
set_option maxHeartbeats 400000 in
theorem csize_any (n : Int) (w : World) (h1 : -9223372036854775808 ≤ n) (h2 : n ≤ 9223372036854775807) :
    Calls Tryz.prog 240 #[.int .i64 n] w fun e w' => e = .returned (.int .i64 (Cc.size n)) ∧ w' = w := by
  go_enter Tryz.func240, Tryz.ntmps240
  go_wp2
  all_goals (go_ret; refine ⟨ret_i64 ?_, rfl⟩; simp only [beq_iff_eq, beq_eq_false_iff_ne, ne_eq] at *; unfold Cc.size; simp only [wrap64, wrap32, wrap_i8] at *; (repeat' split) <;> omega)

set_option maxHeartbeats 400000 in
theorem cbytes_any (s : Int) (w : World) :
    Calls Tryz.prog 239 #[.int .i64 s] w fun e w' => e = .returned (.int .i64 (Cc.cnt s)) ∧ w' = w := by
  go_enter Tryz.func239, Tryz.ntmps239
  go_wp2
  all_goals (go_ret; refine ⟨ret_i64 ?_, rfl⟩; simp only [beq_iff_eq, beq_eq_false_iff_ne] at *; unfold Cc.cnt; simp [*])

set_option maxHeartbeats 400000 in
theorem cshift_any (k : Int) (w : World) :
    Calls Tryz.prog 226 #[.int .i64 k] w fun e w' => e = .returned (.bool (Wd.shB k)) ∧ w' = w := by
  go_enter Tryz.func226, Tryz.ntmps226
  go_wp2
  all_goals (go_ret; refine ⟨ret_bool ?_, rfl⟩; simp only [Wd.shB] at *; (try simp_all))

set_option maxHeartbeats 400000 in
theorem ccond_any (k : Int) (w : World) :
    Calls Tryz.prog 230 #[.int .i64 k] w fun e w' => e = .returned (.bool (Wd.cmpB k)) ∧ w' = w := by
  go_enter Tryz.func230, Tryz.ntmps230
  go_wp2
  all_goals (go_ret; refine ⟨ret_bool ?_, rfl⟩; simp only [Wd.cmpB] at *; first | (rw [Bool.eq_iff_iff]; simp at *; omega))

set_option maxHeartbeats 400000 in
theorem cint_any (k : Int) (w : World) :
    Calls Tryz.prog 238 #[.int .i64 k] w fun e w' => e = .returned (.bool (Wd.intB k)) ∧ w' = w := by
  go_enter Tryz.func238, Tryz.ntmps238
  go_wp2
  all_goals (go_ret; refine ⟨ret_bool ?_, rfl⟩; simp only [Wd.intB] at *; first | (rw [Bool.eq_iff_iff]; simp at *; omega))

set_option maxHeartbeats 400000 in
theorem cword_any (k : Int) (w : World) :
    Calls Tryz.prog 229 #[.int .i64 k] w fun e w' => e = .returned (.bool (Wd.wordB k)) ∧ w' = w := by
  go_enter Tryz.func229, Tryz.ntmps229
  go_wp2_with (go_at_call 140; refine (width_any _ _).mono ?_; rintro e w' ⟨rfl, rfl⟩)
  go_ret
  exact ⟨ret_bool (Rc.wid_e k), rfl⟩

namespace Cc
def divB (s k : Int) : Bool := Wd.intB k && (s == 4 || s == 5)
/-- does a number of 32 bits stand for a word of the kind? -/
def fnB (s k n : Int) : Bool := Wd.intB k && (Rc.s32 (Wd.canon (if Wd.shB s then 9 else k) (n % 18446744073709551616)) == n)
/-- 1 shifted -/
def sclC (n : Int) : Int := if n = 15 then 0 else 2 ^ n.toNat
end Cc

set_option maxHeartbeats 400000 in
theorem cdiv_any (s k : Int) (w : World) :
    Calls Tryz.prog 224 #[.int .i64 s, .int .i64 k] w fun e w' => e = .returned (.bool (Cc.divB s k)) ∧ w' = w := by
  cases hk : Wd.intB k
  all_goals
    go_enter Tryz.func224, Tryz.ntmps224
    go_wp2_with (go_at_call 238; refine (cint_any _ _).mono ?_; rw [hk]; rintro e w' ⟨rfl, rfl⟩)
    all_goals (go_ret; refine ⟨ret_bool ?_, rfl⟩; simp only [Cc.divB] at *; simp_all)

set_option maxHeartbeats 400000 in
theorem chasBin_any (s k : Int) (w : World) :
    Calls Tryz.prog 222 #[.int .i64 s, .int .i64 k] w fun e w' => e = .returned (.bool (Wd.hasBinB s k)) ∧ ∃ n, w' = w.drewN n := by
  go_enter Tryz.func222, Tryz.ntmps222
  go_wp2_with (go_at_call 175; refine (binA_any _ _ 0 0 _ (by decide) (by decide) (by decide) (by decide)).mono ?_; rintro e w' ⟨rfl, n, rfl⟩)
  go_ret
  exact ⟨ret_bool (Rc.bin_ne s k), n, rfl⟩
set_option maxHeartbeats 400000 in
theorem chasUn_any (s k : Int) (w : World) :
    Calls Tryz.prog 227 #[.int .i64 s, .int .i64 k] w fun e w' => e = .returned (.bool (Wd.hasUnB s k)) ∧ w' = w := by
  go_enter Tryz.func227, Tryz.ntmps227
  go_wp2_with (go_at_call 177; refine (un_any _ _ 0 _ (by decide) (by decide)).mono ?_; rintro e w' ⟨rfl, rfl⟩)
  go_ret
  exact ⟨ret_bool (Rc.un_ne s k), rfl⟩
set_option maxHeartbeats 400000 in
theorem chasConv_any (s k : Int) (w : World) :
    Calls Tryz.prog 228 #[.int .i64 s, .int .i64 k] w fun e w' => e = .returned (.bool (Wd.numB s && Wd.numB k)) ∧ w' = w := by
  go_enter Tryz.func228, Tryz.ntmps228
  go_wp2_with (go_at_call 193; refine (conv_any _ _ 0 _ (by decide) (by decide)).mono ?_; rintro e w' ⟨rfl, rfl⟩)
  go_ret
  exact ⟨ret_bool (Rc.conv_ne s k), rfl⟩

end Go.Proofs.YtdklaeppcjopoaaGreat

/- Bytes read as package cisc reads them: plain. It is what the page says. -/
namespace Go.Proofs.YtdklaeppcjopoaaGreat
set_option linter.unusedVariables false

namespace Cc
def lsetC (l : Int) (v : InV) (x y : Int) : InV := if l = 99 then { v with c := x / 16, scale := sclC (x % 16) } else lset l v x y
/-- cisc's reading: the instruction, and how many bytes; 0: they end too early; -1: a size that is none, or not the least -/
def crdL (N : Nat) (g : Nat → Int) : List Int → InV → Int → Nat → InV × Int
  | [], v, _, p => (v, p)
  | l :: s, v, z, p =>
    if N < p + lcnt l z then (v, 0)
    else if 2 < lsz l z (g p) ∨ (lsz l z (g p) = 2 ∧ v.op ≠ 1) then (v, -1)
    else if l = 105 ∧ size (num g p (lcnt l z)) ≠ z then (v, -1)
    else crdL N g s (lsetC l v (g p) (num g p (lcnt l z))) (lsz l z (g p)) (p + lcnt l z)
def cread (N : Nat) (g : Nat → Int) : InV × Int := crdL N g (rrow (g 0)) ⟨g 0, 0, 0, 0, 0, 0, 0, 0, 0⟩ 0 1
/-- is what was read such as its row allows? -/
def tiesB (v : InV) : Bool := cond (divB v.sub v.k) (v.a == 0 && v.b != 0 && v.b != 2) (cond (Wd.shB v.sub) (v.b == 1 && v.a != 1) true)
def fitsB (v : InV) : Bool :=
  if v.op = 4 then Wd.hasBinB v.sub v.k && tiesB v else if v.op = 5 then Wd.hasBinB v.sub v.k && !divB v.sub v.k && fnB v.sub v.k v.imm
  else if v.op = 6 then Wd.hasBinB v.sub v.k && !divB v.sub v.k && !Wd.shB v.sub else if v.op = 7 then Wd.hasUnB v.sub v.k && v.b == 0 else if v.op = 8 then Wd.numB v.sub && Wd.numB v.k
  else if v.op = 10 then decide (v.scale ≤ 8) && (decide (0 < v.scale) || v.c == 0) else if v.op = 11 ∨ v.op = 13 ∨ v.op = 16 then Wd.wordB v.k
  else if v.op = 12 ∨ v.op = 14 then Wd.wordB v.k && decide (0 < v.scale) && decide (v.scale ≤ 8) else if v.op = 15 ∨ v.op = 22 then Wd.cmpB v.sub else if v.op = 17 then fnB 2 v.k v.imm
  else if v.op = 18 then Wd.cmpB v.sub && v.b == 0 else if v.op = 25 then decide (0 ≤ v.imm) else if v.op = 29 then decide (0 < v.imm) else if v.op = 27 ∨ v.op = 28 then v.b == 0 else true
def cdec (N : Nat) (g : Nat → Int) : InV × Int × Int :=
  if N = 0 then (zero, 0, 41) else if (row (g 0)).isEmpty then (zero, 0, 40) else if (cread N g).2 = 0 then (zero, 0, 41)
  else if (cread N g).2 < 0 ∨ fitsB (cread N g).1 = false then (zero, 0, 40) else ((cread N g).1, (cread N g).2, 0)

/-- both readings stand beside each other -/
structure Alike (c r : InV) : Prop where
  op : c.op = r.op
  a : c.a = r.a
  b : c.b = r.b
  c' : c.c = r.c
  k : c.k = r.k
  sub : c.sub = r.sub
  imm : c.imm = r.imm
  label : c.label = r.label
  scale : c.scale = r.scale ∨ (r.scale = -1 ∧ 16 ≤ c.scale)
theorem scl_c {n : Int} (h1 : 0 ≤ n) (h2 : n < 16) : sclC n = scl n ∨ (scl n = -1 ∧ 16 ≤ sclC n) := by
  obtain h | h | h | h | h | h | h | h | h | h | h | h | h | h | h | h : n = 0 ∨ n = 1 ∨ n = 2 ∨ n = 3 ∨ n = 4 ∨ n = 5 ∨ n = 6 ∨ n = 7 ∨ n = 8 ∨ n = 9 ∨ n = 10 ∨ n = 11 ∨ n = 12 ∨ n = 13 ∨ n = 14 ∨ n = 15 := by omega
  all_goals subst h; decide
theorem lset_alike {c r : InV} (h : Alike c r) (l x y : Int) : Alike (lsetC l c x y) (lset l r x y) := by
  have hs := scl_c (n := x % 16) (by omega) (by omega)
  unfold lsetC lset
  repeat' split
  all_goals first | omega | (obtain ⟨h0, h1, h2, h3, h4, h5, h6, h7, h8⟩ := h; constructor <;> first | exact hs | assumption | rfl)
theorem lset_op (l : Int) (v : InV) (x y : Int) : (lset l v x y).op = v.op := by
  unfold lset
  repeat' split
  all_goals rfl
/-- the number stands last -/
def iLast : List Int → Bool
  | [] => true
  | l :: s => (l != 105 || s.isEmpty) && iLast s
theorem crd_alike {N : Nat} {g : Nat → Int} : ∀ (s : List Int) (c r : InV) (z : Int) (p : Nat), iLast s = true → Alike c r → 0 < p →
    ((crdL N g s c z p).2 = (rdL N g s r z p).2 ∧ (0 < (rdL N g s r z p).2 → Alike (crdL N g s c z p).1 (rdL N g s r z p).1)) ∨ ((crdL N g s c z p).2 = -1 ∧ (rdL N g s r z p).2 ≠ 0) := by
  intro s
  induction s with
  | nil => intro c r z p hl h hp; exact .inl ⟨rfl, fun _ => h⟩
  | cons l s ih =>
    intro c r z p hl h hp
    unfold iLast at hl
    rw [Bool.and_eq_true] at hl
    unfold crdL rdL
    by_cases h1 : N < p + lcnt l z
    · rw [if_pos h1, if_pos h1]; exact .inl ⟨rfl, fun e => absurd (show (0 : Int) < 0 from e) (by decide)⟩
    · rw [if_neg h1, if_neg h1, h.op]
      by_cases h2 : 2 < lsz l z (g p) ∨ (lsz l z (g p) = 2 ∧ r.op ≠ 1)
      · rw [if_pos h2, if_pos h2]; exact .inr ⟨rfl, by dsimp only; omega⟩
      · rw [if_neg h2, if_neg h2]
        by_cases h3 : l = 105 ∧ size (num g p (lcnt l z)) ≠ z
        · rw [if_pos h3]
          refine .inr ⟨rfl, ?_⟩
          have h4 : s = [] := by
            have := hl.1
            rw [h3.1] at this
            simpa using this
          subst h4
          unfold rdL
          dsimp only
          omega
        · rw [if_neg h3]
          exact ih _ _ _ _ hl.2 (lset_alike h _ _ _) (by omega)
/-- one letter back -/
theorem crd_inv {N : Nat} {g : Nat → Int} {l : Int} {s : List Int} {v v' : InV} {z : Int} {p T : Nat} (h : crdL N g (l :: s) v z p = (v', (T : Int))) (hT : 0 < T) :
    p + lcnt l z ≤ N ∧ ¬ (2 < lsz l z (g p) ∨ (lsz l z (g p) = 2 ∧ v.op ≠ 1)) ∧ ¬ (l = 105 ∧ size (num g p (lcnt l z)) ≠ z) ∧ crdL N g s (lsetC l v (g p) (num g p (lcnt l z))) (lsz l z (g p)) (p + lcnt l z) = (v', (T : Int)) := by
  unfold crdL at h
  by_cases h1 : N < p + lcnt l z
  · rw [if_pos h1] at h; simp only [Prod.mk.injEq] at h; omega
  · rw [if_neg h1] at h
    by_cases h2 : 2 < lsz l z (g p) ∨ (lsz l z (g p) = 2 ∧ v.op ≠ 1)
    · rw [if_pos h2] at h; simp only [Prod.mk.injEq] at h; omega
    · rw [if_neg h2] at h
      by_cases h3 : l = 105 ∧ size (num g p (lcnt l z)) ≠ z
      · rw [if_pos h3] at h; simp only [Prod.mk.injEq] at h; omega
      · rw [if_neg h3] at h
        exact ⟨by omega, h2, h3, h⟩
theorem crd_nil {N : Nat} {g : Nat → Int} {v v' : InV} {z : Int} {p T : Nat} (h : crdL N g [] v z p = (v', (T : Int))) : v' = v ∧ T = p := by
  unfold crdL at h
  simp only [Prod.mk.injEq] at h
  exact ⟨h.1.symm, by omega⟩
theorem by8_ld {g : Nat → Int} (hg : Mm.Fit g) {p c i : Nat} (hi : i < c) : Mm.by8 (Mm.ld g p c) i = g (p + i) := by
  induction c with
  | zero => omega
  | succ c ih =>
    have hr := Mm.ld_rng hg p c
    have hf := hg (p + c)
    rw [Mm.ld_succ]
    by_cases e : i = c
    · subst e
      unfold Mm.by8
      have hp : (256 : Int) ^ i ≠ 0 := by omega
      rw [Int.add_mul_ediv_right _ _ hp, Int.ediv_eq_zero_of_lt hr.1 hr.2]
      omega
    · rw [← ih (by omega), ← Mm.by8_mod _ i c (by omega), Int.add_mul_emod_self_right, Int.emod_eq_of_lt hr.1 hr.2]
/-- a number's bytes are what it was read of -/
theorem low_num {g : Nat → Int} (hg : Mm.Fit g) {p c i : Nat} (hc : c = 1 ∨ c = 4 ∨ c = 8) (hi : i < c) : Mm.by8 (num g p c % 18446744073709551616) i = g (p + i) := by
  have hr := Mm.ld_rng hg p c
  have e : num g p c % 18446744073709551616 % 256 ^ c = Mm.ld g p c := by
    unfold num Rc.s32 Wd.sg
    rcases hc with rfl | rfl | rfl
    · rw [if_pos rfl]; have : (256 : Int) ^ 1 = 256 := rfl
      omega
    · rw [if_neg (by decide), if_pos rfl]; have : (256 : Int) ^ 4 = 4294967296 := rfl
      omega
    · rw [if_neg (by decide), if_neg (by decide)]; have : (256 : Int) ^ 8 = 18446744073709551616 := rfl
      omega
  rw [← Mm.by8_mod _ i c hi, e]
  exact by8_ld hg hi
end Cc
end Go.Proofs.YtdklaeppcjopoaaGreat

/- The bytes of an instruction of C64 say it, as package cisc reads them: code by code. -/
namespace Go.Proofs.YtdklaeppcjopoaaGreat
set_option linter.unusedVariables false

namespace Cc
/-- what cisc reads of an instruction's bytes, whatever stands behind them -/
def CSays (v : InV) : Prop := ∀ (N : Nat) (g : Nat → Int), (enc v).length ≤ N → (∀ i, i < (enc v).length → g i = (enc v).getD i 0) → crdL N g (rrow v.op) ⟨v.op, 0, 0, 0, 0, 0, 0, 0, 0⟩ 0 1 = (v, ((enc v).length : Int))
theorem crd_step {N : Nat} {g : Nat → Int} {l : Int} {s : List Int} {v : InV} {z : Int} {p : Nat} (hN : p + lcnt l z ≤ N) (hz : ¬ (2 < lsz l z (g p) ∨ (lsz l z (g p) = 2 ∧ v.op ≠ 1))) (hs : ¬ (l = 105 ∧ size (num g p (lcnt l z)) ≠ z)) :
    crdL N g (l :: s) v z p = crdL N g s (lsetC l v (g p) (num g p (lcnt l z))) (lsz l z (g p)) (p + lcnt l z) := by
  rw [crdL]
  rw [if_neg (by omega), if_neg hz, if_neg hs]
theorem cstep_a {N : Nat} {g : Nat → Int} {s : List Int} {v : InV} {z a b : Int} {p : Nat} (hN : p + 1 ≤ N) (hz : ¬ (2 < z ∨ (z = 2 ∧ v.op ≠ 1))) (hx : g p = (16 * a + b) % 256) (a1 : 0 ≤ a) (a2 : a < 16) (b1 : 0 ≤ b) (b2 : b < 16) :
    crdL N g (97 :: s) v z p = crdL N g s { v with a := a, b := b } z (p + 1) := by
  rw [crd_step (by simpa [lcnt] using hN) (by simpa [lsz] using hz) (by rintro ⟨h, _⟩; revert h; decide)]
  have e1 : g p / 16 = a := by omega
  have e2 : g p % 16 = b := by omega
  simp [lsetC, lset, lsz, lcnt, e1, e2]
theorem cstep_n {N : Nat} {g : Nat → Int} {s : List Int} {v : InV} {z z' a : Int} {p : Nat} (hN : p + 1 ≤ N) (z1 : 0 ≤ z') (hz : ¬ (2 < z' ∨ (z' = 2 ∧ v.op ≠ 1))) (hx : g p = (16 * a + z') % 256) (a1 : 0 ≤ a) (a2 : a < 16) :
    crdL N g (110 :: s) v z p = crdL N g s { v with a := a } z' (p + 1) := by
  have z2 : z' ≤ 2 := by omega
  have e1 : g p / 16 = a := by omega
  have e2 : g p % 16 = z' := by omega
  rw [crd_step (by simpa [lcnt] using hN) (by simpa [lsz, e2] using hz) (by rintro ⟨h, _⟩; revert h; decide)]
  simp [lsetC, lset, lsz, lcnt, e1, e2]
theorem cstep_j {N : Nat} {g : Nat → Int} {s : List Int} {v : InV} {z z' : Int} {p : Nat} (hN : p + 1 ≤ N) (hz : ¬ (2 < z' ∨ (z' = 2 ∧ v.op ≠ 1))) (hx : g p = z') :
    crdL N g (106 :: s) v z p = crdL N g s v z' (p + 1) := by
  rw [crd_step (by simpa [lcnt] using hN) (by simpa [lsz, hx] using hz) (by rintro ⟨h, _⟩; revert h; decide)]
  simp [lsetC, lset, lsz, lcnt, hx]
theorem cstep_J {N : Nat} {g : Nat → Int} {s : List Int} {v : InV} {z z' sub : Int} {p : Nat} (hN : p + 1 ≤ N) (z1 : 0 ≤ z') (hz : ¬ (2 < z' ∨ (z' = 2 ∧ v.op ≠ 1))) (hx : g p = (16 * (sub - 11) + z') % 256) (a1 : 11 ≤ sub) (a2 : sub ≤ 16) :
    crdL N g (74 :: s) v z p = crdL N g s { v with sub := sub } z' (p + 1) := by
  have z2 : z' ≤ 2 := by omega
  have e1 : g p / 16 + 11 = sub := by omega
  have e2 : g p % 16 = z' := by omega
  rw [crd_step (by simpa [lcnt] using hN) (by simpa [lsz, e2] using hz) (by rintro ⟨h, _⟩; revert h; decide)]
  simp [lsetC, lset, lsz, lcnt, e1, e2]
theorem cstep_c {N : Nat} {g : Nat → Int} {s : List Int} {v : InV} {z c sc : Int} {p : Nat} (hN : p + 1 ≤ N) (hz : ¬ (2 < z ∨ (z = 2 ∧ v.op ≠ 1))) (hx : g p = (16 * c + lg sc) % 256) (a1 : 0 ≤ c) (a2 : c < 16) (hs : sc = 1 ∨ sc = 2 ∨ sc = 4 ∨ sc = 8 ∨ sc = 0) :
    crdL N g (99 :: s) v z p = crdL N g s { v with c := c, scale := sc } z (p + 1) := by
  have hl : 0 ≤ lg sc ∧ lg sc < 16 ∧ sclC (lg sc) = sc := by rcases hs with rfl | rfl | rfl | rfl | rfl <;> decide
  have e1 : g p / 16 = c := by omega
  have e2 : g p % 16 = lg sc := by omega
  rw [crd_step (by simpa [lcnt] using hN) (by simpa [lsz] using hz) (by rintro ⟨h, _⟩; revert h; decide)]
  simp [lsetC, lsz, lcnt, e1, e2, hl.2.2]
theorem cstep_K {N : Nat} {g : Nat → Int} {s : List Int} {v : InV} {z k : Int} {p : Nat} (hN : p + 1 ≤ N) (hz : ¬ (2 < z ∨ (z = 2 ∧ v.op ≠ 1))) (hx : g p = k % 256) (a1 : 0 ≤ k) (a2 : k < 256) :
    crdL N g (75 :: s) v z p = crdL N g s { v with k := k } z (p + 1) := by
  have e1 : g p = k := by omega
  rw [crd_step (by simpa [lcnt] using hN) (by simpa [lsz] using hz) (by rintro ⟨h, _⟩; revert h; decide)]
  simp [lsetC, lset, lsz, lcnt, e1]
theorem cstep_S {N : Nat} {g : Nat → Int} {s : List Int} {v : InV} {z k : Int} {p : Nat} (hN : p + 1 ≤ N) (hz : ¬ (2 < z ∨ (z = 2 ∧ v.op ≠ 1))) (hx : g p = k % 256) (a1 : 0 ≤ k) (a2 : k < 256) :
    crdL N g (83 :: s) v z p = crdL N g s { v with sub := k } z (p + 1) := by
  have e1 : g p = k := by omega
  rw [crd_step (by simpa [lcnt] using hN) (by simpa [lsz] using hz) (by rintro ⟨h, _⟩; revert h; decide)]
  simp [lsetC, lset, lsz, lcnt, e1]
theorem cstep_i {N : Nat} {g : Nat → Int} {s : List Int} {v : InV} {z n : Int} {p : Nat} (hs : size n = z) (hN : p + cnt z ≤ N) (hz : ¬ (2 < z ∨ (z = 2 ∧ v.op ≠ 1))) (hx : num g p (cnt z) = n) :
    crdL N g (105 :: s) v z p = crdL N g s { v with imm := n } z (p + cnt z) := by
  rw [crd_step (by simpa [lcnt] using hN) (by simpa [lsz] using hz) (by rintro ⟨_, h⟩; exact h (by rw [show lcnt 105 z = cnt z from rfl, hx]; exact hs))]
  simp [lsetC, lset, lsz, lcnt, hx]
theorem cstep_4 {N : Nat} {g : Nat → Int} {s : List Int} {v : InV} {z n : Int} {p : Nat} (hN : p + 4 ≤ N) (hz : ¬ (2 < z ∨ (z = 2 ∧ v.op ≠ 1))) (hx : num g p 4 = n) :
    crdL N g (52 :: s) v z p = crdL N g s { v with imm := n } z (p + 4) := by
  rw [crd_step (by simpa [lcnt] using hN) (by simpa [lsz] using hz) (by rintro ⟨h, _⟩; revert h; decide)]
  simp [lsetC, lset, lsz, lcnt, hx]

theorem csays_1_0 {a imm : Int} (a1 : 0 ≤ a) (a2 : a < 16) (i1 : -128 ≤ imm) (i2 : imm < 128) : CSays ⟨1, a, 0, 0, 0, 0, 0, imm, 0⟩ := by
  have hz : size imm = 0 := by
    unfold size
    rw [if_pos ⟨i1, i2⟩]
  have e : enc ⟨1, a, 0, 0, 0, 0, 0, imm, 0⟩ = [1, (16 * a + 0) % 256, Mm.by8 (imm % 18446744073709551616) 0] := by
    show (1 : Int) % 256 :: ([(16 * a + size imm) % 256] ++ (low imm (cnt (size imm)) ++ [])) = _
    rw [hz]; rfl
  intro N g hN hg
  rw [e] at hN hg ⊢
  have hN : 3 ≤ N := hN
  have g1 : g 1 = (16 * a + 0) % 256 := hg 1 (show 1 < 3 from by decide)
  have g2 : g 2 = Mm.by8 (imm % 18446744073709551616) 0 := hg 2 (show 2 < 3 from by decide)
  show crdL N g [110, 105] ⟨1, 0, 0, 0, 0, 0, 0, 0, 0⟩ 0 1 = _
  rw [cstep_n (a := a) (z' := 0) (by omega) (by decide) (by dsimp only; decide) g1 a1 a2]
  rw [cstep_i hz (n := imm) (show 2 + 1 ≤ N from by omega) (by dsimp only; decide) (show num g 2 1 = imm from num_low (.inl ⟨rfl, by omega, by omega⟩) (one g2))]
  rfl
theorem csays_1_1 {a imm : Int} (a1 : 0 ≤ a) (a2 : a < 16) (i1 : -2147483648 ≤ imm) (i2 : imm < 2147483648) (i3 : ¬ (-128 ≤ imm ∧ imm < 128)) : CSays ⟨1, a, 0, 0, 0, 0, 0, imm, 0⟩ := by
  have hz : size imm = 1 := by
    unfold size
    rw [if_neg i3, if_pos ⟨i1, i2⟩]
  have e : enc ⟨1, a, 0, 0, 0, 0, 0, imm, 0⟩ = [1, (16 * a + 1) % 256, Mm.by8 (imm % 18446744073709551616) 0, Mm.by8 (imm % 18446744073709551616) 1, Mm.by8 (imm % 18446744073709551616) 2, Mm.by8 (imm % 18446744073709551616) 3] := by
    show (1 : Int) % 256 :: ([(16 * a + size imm) % 256] ++ (low imm (cnt (size imm)) ++ [])) = _
    rw [hz]; rfl
  intro N g hN hg
  rw [e] at hN hg ⊢
  have hN : 6 ≤ N := hN
  have g1 : g 1 = (16 * a + 1) % 256 := hg 1 (show 1 < 6 from by decide)
  have g2 : g 2 = Mm.by8 (imm % 18446744073709551616) 0 := hg 2 (show 2 < 6 from by decide)
  have g3 : g 3 = Mm.by8 (imm % 18446744073709551616) 1 := hg 3 (show 3 < 6 from by decide)
  have g4 : g 4 = Mm.by8 (imm % 18446744073709551616) 2 := hg 4 (show 4 < 6 from by decide)
  have g5 : g 5 = Mm.by8 (imm % 18446744073709551616) 3 := hg 5 (show 5 < 6 from by decide)
  show crdL N g [110, 105] ⟨1, 0, 0, 0, 0, 0, 0, 0, 0⟩ 0 1 = _
  rw [cstep_n (a := a) (z' := 1) (by omega) (by decide) (by dsimp only; decide) g1 a1 a2]
  rw [cstep_i hz (n := imm) (show 2 + 4 ≤ N from by omega) (by dsimp only; decide) (show num g 2 4 = imm from num_low (.inr (.inl ⟨rfl, by omega, by omega⟩)) (four g2 g3 g4 g5))]
  rfl
theorem csays_1_2 {a imm : Int} (a1 : 0 ≤ a) (a2 : a < 16) (i1 : -9223372036854775808 ≤ imm) (i2 : imm ≤ 9223372036854775807) (i3 : ¬ (-2147483648 ≤ imm ∧ imm < 2147483648)) : CSays ⟨1, a, 0, 0, 0, 0, 0, imm, 0⟩ := by
  have hz : size imm = 2 := by
    unfold size
    rw [if_neg (by omega), if_neg i3]
  have e : enc ⟨1, a, 0, 0, 0, 0, 0, imm, 0⟩ = [1, (16 * a + 2) % 256, Mm.by8 (imm % 18446744073709551616) 0, Mm.by8 (imm % 18446744073709551616) 1, Mm.by8 (imm % 18446744073709551616) 2, Mm.by8 (imm % 18446744073709551616) 3, Mm.by8 (imm % 18446744073709551616) 4, Mm.by8 (imm % 18446744073709551616) 5, Mm.by8 (imm % 18446744073709551616) 6, Mm.by8 (imm % 18446744073709551616) 7] := by
    show (1 : Int) % 256 :: ([(16 * a + size imm) % 256] ++ (low imm (cnt (size imm)) ++ [])) = _
    rw [hz]; rfl
  intro N g hN hg
  rw [e] at hN hg ⊢
  have hN : 10 ≤ N := hN
  have g1 : g 1 = (16 * a + 2) % 256 := hg 1 (show 1 < 10 from by decide)
  have g2 : g 2 = Mm.by8 (imm % 18446744073709551616) 0 := hg 2 (show 2 < 10 from by decide)
  have g3 : g 3 = Mm.by8 (imm % 18446744073709551616) 1 := hg 3 (show 3 < 10 from by decide)
  have g4 : g 4 = Mm.by8 (imm % 18446744073709551616) 2 := hg 4 (show 4 < 10 from by decide)
  have g5 : g 5 = Mm.by8 (imm % 18446744073709551616) 3 := hg 5 (show 5 < 10 from by decide)
  have g6 : g 6 = Mm.by8 (imm % 18446744073709551616) 4 := hg 6 (show 6 < 10 from by decide)
  have g7 : g 7 = Mm.by8 (imm % 18446744073709551616) 5 := hg 7 (show 7 < 10 from by decide)
  have g8 : g 8 = Mm.by8 (imm % 18446744073709551616) 6 := hg 8 (show 8 < 10 from by decide)
  have g9 : g 9 = Mm.by8 (imm % 18446744073709551616) 7 := hg 9 (show 9 < 10 from by decide)
  show crdL N g [110, 105] ⟨1, 0, 0, 0, 0, 0, 0, 0, 0⟩ 0 1 = _
  rw [cstep_n (a := a) (z' := 2) (by omega) (by decide) (by dsimp only; decide) g1 a1 a2]
  rw [cstep_i hz (n := imm) (show 2 + 8 ≤ N from by omega) (by dsimp only; decide) (show num g 2 8 = imm from num_low (.inr (.inr ⟨rfl, by omega, by omega⟩)) (eight g2 g3 g4 g5 g6 g7 g8 g9))]
  rfl
theorem csays_3 {a b : Int} (a1 : 0 ≤ a) (a2 : a < 16) (b1 : 0 ≤ b) (b2 : b < 16) : CSays ⟨3, a, b, 0, 0, 0, 0, 0, 0⟩ := by
  have e : enc ⟨3, a, b, 0, 0, 0, 0, 0, 0⟩ = [3, (16 * a + b) % 256] := rfl
  intro N g hN hg
  rw [e] at hN hg ⊢
  have hN : 2 ≤ N := hN
  have g1 : g 1 = (16 * a + b) % 256 := hg 1 (show 1 < 2 from by decide)
  show crdL N g [97] ⟨3, 0, 0, 0, 0, 0, 0, 0, 0⟩ 0 1 = _
  rw [cstep_a (a := a) (b := b) (by omega) (by dsimp only; decide) g1 a1 a2 b1 b2]
  rfl
theorem csays_4 {a b k sub : Int} (a1 : 0 ≤ a) (a2 : a < 16) (b1 : 0 ≤ b) (b2 : b < 16) (k1 : 0 ≤ k) (k2 : k < 256) (s1 : 0 ≤ sub) (s2 : sub < 256) : CSays ⟨4, a, b, 0, k, sub, 0, 0, 0⟩ := by
  have e : enc ⟨4, a, b, 0, k, sub, 0, 0, 0⟩ = [4, (16 * a + b) % 256, k % 256, sub % 256] := rfl
  intro N g hN hg
  rw [e] at hN hg ⊢
  have hN : 4 ≤ N := hN
  have g1 : g 1 = (16 * a + b) % 256 := hg 1 (show 1 < 4 from by decide)
  have g2 : g 2 = k % 256 := hg 2 (show 2 < 4 from by decide)
  have g3 : g 3 = sub % 256 := hg 3 (show 3 < 4 from by decide)
  show crdL N g [97, 75, 83] ⟨4, 0, 0, 0, 0, 0, 0, 0, 0⟩ 0 1 = _
  rw [cstep_a (a := a) (b := b) (by omega) (by dsimp only; decide) g1 a1 a2 b1 b2]
  rw [cstep_K (k := k) (by omega) (by dsimp only; decide) g2 k1 k2]
  rw [cstep_S (k := sub) (by omega) (by dsimp only; decide) g3 s1 s2]
  rfl
theorem csays_5_0 {a k sub imm : Int} (a1 : 0 ≤ a) (a2 : a < 16) (k1 : 0 ≤ k) (k2 : k < 256) (s1 : 0 ≤ sub) (s2 : sub < 256) (i1 : -128 ≤ imm) (i2 : imm < 128) : CSays ⟨5, a, 0, 0, k, sub, 0, imm, 0⟩ := by
  have hz : size imm = 0 := by
    unfold size
    rw [if_pos ⟨i1, i2⟩]
  have e : enc ⟨5, a, 0, 0, k, sub, 0, imm, 0⟩ = [5, (16 * a + 0) % 256, k % 256, sub % 256, Mm.by8 (imm % 18446744073709551616) 0] := by
    show (5 : Int) % 256 :: ([(16 * a + size imm) % 256] ++ ([k % 256] ++ ([sub % 256] ++ (low imm (cnt (size imm)) ++ [])))) = _
    rw [hz]; rfl
  intro N g hN hg
  rw [e] at hN hg ⊢
  have hN : 5 ≤ N := hN
  have g1 : g 1 = (16 * a + 0) % 256 := hg 1 (show 1 < 5 from by decide)
  have g2 : g 2 = k % 256 := hg 2 (show 2 < 5 from by decide)
  have g3 : g 3 = sub % 256 := hg 3 (show 3 < 5 from by decide)
  have g4 : g 4 = Mm.by8 (imm % 18446744073709551616) 0 := hg 4 (show 4 < 5 from by decide)
  show crdL N g [110, 75, 83, 105] ⟨5, 0, 0, 0, 0, 0, 0, 0, 0⟩ 0 1 = _
  rw [cstep_n (a := a) (z' := 0) (by omega) (by decide) (by dsimp only; decide) g1 a1 a2]
  rw [cstep_K (k := k) (by omega) (by dsimp only; decide) g2 k1 k2]
  rw [cstep_S (k := sub) (by omega) (by dsimp only; decide) g3 s1 s2]
  rw [cstep_i hz (n := imm) (show 4 + 1 ≤ N from by omega) (by dsimp only; decide) (show num g 4 1 = imm from num_low (.inl ⟨rfl, by omega, by omega⟩) (one g4))]
  rfl
theorem csays_5_1 {a k sub imm : Int} (a1 : 0 ≤ a) (a2 : a < 16) (k1 : 0 ≤ k) (k2 : k < 256) (s1 : 0 ≤ sub) (s2 : sub < 256) (i1 : -2147483648 ≤ imm) (i2 : imm < 2147483648) (i3 : ¬ (-128 ≤ imm ∧ imm < 128)) : CSays ⟨5, a, 0, 0, k, sub, 0, imm, 0⟩ := by
  have hz : size imm = 1 := by
    unfold size
    rw [if_neg i3, if_pos ⟨i1, i2⟩]
  have e : enc ⟨5, a, 0, 0, k, sub, 0, imm, 0⟩ = [5, (16 * a + 1) % 256, k % 256, sub % 256, Mm.by8 (imm % 18446744073709551616) 0, Mm.by8 (imm % 18446744073709551616) 1, Mm.by8 (imm % 18446744073709551616) 2, Mm.by8 (imm % 18446744073709551616) 3] := by
    show (5 : Int) % 256 :: ([(16 * a + size imm) % 256] ++ ([k % 256] ++ ([sub % 256] ++ (low imm (cnt (size imm)) ++ [])))) = _
    rw [hz]; rfl
  intro N g hN hg
  rw [e] at hN hg ⊢
  have hN : 8 ≤ N := hN
  have g1 : g 1 = (16 * a + 1) % 256 := hg 1 (show 1 < 8 from by decide)
  have g2 : g 2 = k % 256 := hg 2 (show 2 < 8 from by decide)
  have g3 : g 3 = sub % 256 := hg 3 (show 3 < 8 from by decide)
  have g4 : g 4 = Mm.by8 (imm % 18446744073709551616) 0 := hg 4 (show 4 < 8 from by decide)
  have g5 : g 5 = Mm.by8 (imm % 18446744073709551616) 1 := hg 5 (show 5 < 8 from by decide)
  have g6 : g 6 = Mm.by8 (imm % 18446744073709551616) 2 := hg 6 (show 6 < 8 from by decide)
  have g7 : g 7 = Mm.by8 (imm % 18446744073709551616) 3 := hg 7 (show 7 < 8 from by decide)
  show crdL N g [110, 75, 83, 105] ⟨5, 0, 0, 0, 0, 0, 0, 0, 0⟩ 0 1 = _
  rw [cstep_n (a := a) (z' := 1) (by omega) (by decide) (by dsimp only; decide) g1 a1 a2]
  rw [cstep_K (k := k) (by omega) (by dsimp only; decide) g2 k1 k2]
  rw [cstep_S (k := sub) (by omega) (by dsimp only; decide) g3 s1 s2]
  rw [cstep_i hz (n := imm) (show 4 + 4 ≤ N from by omega) (by dsimp only; decide) (show num g 4 4 = imm from num_low (.inr (.inl ⟨rfl, by omega, by omega⟩)) (four g4 g5 g6 g7))]
  rfl
theorem csays_6 {a b k sub imm : Int} (a1 : 0 ≤ a) (a2 : a < 16) (b1 : 0 ≤ b) (b2 : b < 16) (k1 : 0 ≤ k) (k2 : k < 256) (s1 : 0 ≤ sub) (s2 : sub < 256) (i1 : -2147483648 ≤ imm) (i2 : imm < 2147483648) : CSays ⟨6, a, b, 0, k, sub, 0, imm, 0⟩ := by
  have e : enc ⟨6, a, b, 0, k, sub, 0, imm, 0⟩ = [6, (16 * a + b) % 256, k % 256, sub % 256, Mm.by8 (imm % 18446744073709551616) 0, Mm.by8 (imm % 18446744073709551616) 1, Mm.by8 (imm % 18446744073709551616) 2, Mm.by8 (imm % 18446744073709551616) 3] := rfl
  intro N g hN hg
  rw [e] at hN hg ⊢
  have hN : 8 ≤ N := hN
  have g1 : g 1 = (16 * a + b) % 256 := hg 1 (show 1 < 8 from by decide)
  have g2 : g 2 = k % 256 := hg 2 (show 2 < 8 from by decide)
  have g3 : g 3 = sub % 256 := hg 3 (show 3 < 8 from by decide)
  have g4 : g 4 = Mm.by8 (imm % 18446744073709551616) 0 := hg 4 (show 4 < 8 from by decide)
  have g5 : g 5 = Mm.by8 (imm % 18446744073709551616) 1 := hg 5 (show 5 < 8 from by decide)
  have g6 : g 6 = Mm.by8 (imm % 18446744073709551616) 2 := hg 6 (show 6 < 8 from by decide)
  have g7 : g 7 = Mm.by8 (imm % 18446744073709551616) 3 := hg 7 (show 7 < 8 from by decide)
  show crdL N g [97, 75, 83, 52] ⟨6, 0, 0, 0, 0, 0, 0, 0, 0⟩ 0 1 = _
  rw [cstep_a (a := a) (b := b) (by omega) (by dsimp only; decide) g1 a1 a2 b1 b2]
  rw [cstep_K (k := k) (by omega) (by dsimp only; decide) g2 k1 k2]
  rw [cstep_S (k := sub) (by omega) (by dsimp only; decide) g3 s1 s2]
  rw [cstep_4 (n := imm) (by omega) (by dsimp only; decide) (num_low (.inr (.inl ⟨rfl, by omega, by omega⟩)) (four g4 g5 g6 g7))]
  rfl
theorem csays_7 {a k sub : Int} (a1 : 0 ≤ a) (a2 : a < 16) (k1 : 0 ≤ k) (k2 : k < 256) (s1 : 0 ≤ sub) (s2 : sub < 256) : CSays ⟨7, a, 0, 0, k, sub, 0, 0, 0⟩ := by
  have e : enc ⟨7, a, 0, 0, k, sub, 0, 0, 0⟩ = [7, (16 * a + 0) % 256, k % 256, sub % 256] := rfl
  intro N g hN hg
  rw [e] at hN hg ⊢
  have hN : 4 ≤ N := hN
  have g1 : g 1 = (16 * a + 0) % 256 := hg 1 (show 1 < 4 from by decide)
  have g2 : g 2 = k % 256 := hg 2 (show 2 < 4 from by decide)
  have g3 : g 3 = sub % 256 := hg 3 (show 3 < 4 from by decide)
  show crdL N g [97, 75, 83] ⟨7, 0, 0, 0, 0, 0, 0, 0, 0⟩ 0 1 = _
  rw [cstep_a (a := a) (b := 0) (by omega) (by dsimp only; decide) g1 a1 a2 (by decide) (by decide)]
  rw [cstep_K (k := k) (by omega) (by dsimp only; decide) g2 k1 k2]
  rw [cstep_S (k := sub) (by omega) (by dsimp only; decide) g3 s1 s2]
  rfl
theorem csays_8 {a b k sub : Int} (a1 : 0 ≤ a) (a2 : a < 16) (b1 : 0 ≤ b) (b2 : b < 16) (k1 : 0 ≤ k) (k2 : k < 256) (s1 : 0 ≤ sub) (s2 : sub < 256) : CSays ⟨8, a, b, 0, k, sub, 0, 0, 0⟩ := by
  have e : enc ⟨8, a, b, 0, k, sub, 0, 0, 0⟩ = [8, (16 * a + b) % 256, k % 256, sub % 256] := rfl
  intro N g hN hg
  rw [e] at hN hg ⊢
  have hN : 4 ≤ N := hN
  have g1 : g 1 = (16 * a + b) % 256 := hg 1 (show 1 < 4 from by decide)
  have g2 : g 2 = k % 256 := hg 2 (show 2 < 4 from by decide)
  have g3 : g 3 = sub % 256 := hg 3 (show 3 < 4 from by decide)
  show crdL N g [97, 75, 83] ⟨8, 0, 0, 0, 0, 0, 0, 0, 0⟩ 0 1 = _
  rw [cstep_a (a := a) (b := b) (by omega) (by dsimp only; decide) g1 a1 a2 b1 b2]
  rw [cstep_K (k := k) (by omega) (by dsimp only; decide) g2 k1 k2]
  rw [cstep_S (k := sub) (by omega) (by dsimp only; decide) g3 s1 s2]
  rfl
theorem csays_10 {a b c sc imm : Int} (a1 : 0 ≤ a) (a2 : a < 16) (b1 : 0 ≤ b) (b2 : b < 16) (c1 : 0 ≤ c) (c2 : c < 16) (hs : sc = 1 ∨ sc = 2 ∨ sc = 4 ∨ sc = 8 ∨ sc = 0) (i1 : -2147483648 ≤ imm) (i2 : imm < 2147483648) : CSays ⟨10, a, b, c, 0, 0, sc, imm, 0⟩ := by
  have e : enc ⟨10, a, b, c, 0, 0, sc, imm, 0⟩ = [10, (16 * a + b) % 256, (16 * c + lg sc) % 256, Mm.by8 (imm % 18446744073709551616) 0, Mm.by8 (imm % 18446744073709551616) 1, Mm.by8 (imm % 18446744073709551616) 2, Mm.by8 (imm % 18446744073709551616) 3] := rfl
  intro N g hN hg
  rw [e] at hN hg ⊢
  have hN : 7 ≤ N := hN
  have g1 : g 1 = (16 * a + b) % 256 := hg 1 (show 1 < 7 from by decide)
  have g2 : g 2 = (16 * c + lg sc) % 256 := hg 2 (show 2 < 7 from by decide)
  have g3 : g 3 = Mm.by8 (imm % 18446744073709551616) 0 := hg 3 (show 3 < 7 from by decide)
  have g4 : g 4 = Mm.by8 (imm % 18446744073709551616) 1 := hg 4 (show 4 < 7 from by decide)
  have g5 : g 5 = Mm.by8 (imm % 18446744073709551616) 2 := hg 5 (show 5 < 7 from by decide)
  have g6 : g 6 = Mm.by8 (imm % 18446744073709551616) 3 := hg 6 (show 6 < 7 from by decide)
  show crdL N g [97, 99, 52] ⟨10, 0, 0, 0, 0, 0, 0, 0, 0⟩ 0 1 = _
  rw [cstep_a (a := a) (b := b) (by omega) (by dsimp only; decide) g1 a1 a2 b1 b2]
  rw [cstep_c (c := c) (sc := sc) (by omega) (by dsimp only; decide) g2 c1 c2 hs]
  rw [cstep_4 (n := imm) (by omega) (by dsimp only; decide) (num_low (.inr (.inl ⟨rfl, by omega, by omega⟩)) (four g3 g4 g5 g6))]
  rfl
theorem csays_11 {a b k imm : Int} (a1 : 0 ≤ a) (a2 : a < 16) (b1 : 0 ≤ b) (b2 : b < 16) (k1 : 0 ≤ k) (k2 : k < 256) (i1 : -2147483648 ≤ imm) (i2 : imm < 2147483648) : CSays ⟨11, a, b, 0, k, 0, 0, imm, 0⟩ := by
  have e : enc ⟨11, a, b, 0, k, 0, 0, imm, 0⟩ = [11, (16 * a + b) % 256, k % 256, Mm.by8 (imm % 18446744073709551616) 0, Mm.by8 (imm % 18446744073709551616) 1, Mm.by8 (imm % 18446744073709551616) 2, Mm.by8 (imm % 18446744073709551616) 3] := rfl
  intro N g hN hg
  rw [e] at hN hg ⊢
  have hN : 7 ≤ N := hN
  have g1 : g 1 = (16 * a + b) % 256 := hg 1 (show 1 < 7 from by decide)
  have g2 : g 2 = k % 256 := hg 2 (show 2 < 7 from by decide)
  have g3 : g 3 = Mm.by8 (imm % 18446744073709551616) 0 := hg 3 (show 3 < 7 from by decide)
  have g4 : g 4 = Mm.by8 (imm % 18446744073709551616) 1 := hg 4 (show 4 < 7 from by decide)
  have g5 : g 5 = Mm.by8 (imm % 18446744073709551616) 2 := hg 5 (show 5 < 7 from by decide)
  have g6 : g 6 = Mm.by8 (imm % 18446744073709551616) 3 := hg 6 (show 6 < 7 from by decide)
  show crdL N g [97, 75, 52] ⟨11, 0, 0, 0, 0, 0, 0, 0, 0⟩ 0 1 = _
  rw [cstep_a (a := a) (b := b) (by omega) (by dsimp only; decide) g1 a1 a2 b1 b2]
  rw [cstep_K (k := k) (by omega) (by dsimp only; decide) g2 k1 k2]
  rw [cstep_4 (n := imm) (by omega) (by dsimp only; decide) (num_low (.inr (.inl ⟨rfl, by omega, by omega⟩)) (four g3 g4 g5 g6))]
  rfl
theorem csays_12 {a b c k sc imm : Int} (a1 : 0 ≤ a) (a2 : a < 16) (b1 : 0 ≤ b) (b2 : b < 16) (c1 : 0 ≤ c) (c2 : c < 16) (hs : sc = 1 ∨ sc = 2 ∨ sc = 4 ∨ sc = 8 ∨ sc = 0) (k1 : 0 ≤ k) (k2 : k < 256) (i1 : -2147483648 ≤ imm) (i2 : imm < 2147483648) : CSays ⟨12, a, b, c, k, 0, sc, imm, 0⟩ := by
  have e : enc ⟨12, a, b, c, k, 0, sc, imm, 0⟩ = [12, (16 * a + b) % 256, (16 * c + lg sc) % 256, k % 256, Mm.by8 (imm % 18446744073709551616) 0, Mm.by8 (imm % 18446744073709551616) 1, Mm.by8 (imm % 18446744073709551616) 2, Mm.by8 (imm % 18446744073709551616) 3] := rfl
  intro N g hN hg
  rw [e] at hN hg ⊢
  have hN : 8 ≤ N := hN
  have g1 : g 1 = (16 * a + b) % 256 := hg 1 (show 1 < 8 from by decide)
  have g2 : g 2 = (16 * c + lg sc) % 256 := hg 2 (show 2 < 8 from by decide)
  have g3 : g 3 = k % 256 := hg 3 (show 3 < 8 from by decide)
  have g4 : g 4 = Mm.by8 (imm % 18446744073709551616) 0 := hg 4 (show 4 < 8 from by decide)
  have g5 : g 5 = Mm.by8 (imm % 18446744073709551616) 1 := hg 5 (show 5 < 8 from by decide)
  have g6 : g 6 = Mm.by8 (imm % 18446744073709551616) 2 := hg 6 (show 6 < 8 from by decide)
  have g7 : g 7 = Mm.by8 (imm % 18446744073709551616) 3 := hg 7 (show 7 < 8 from by decide)
  show crdL N g [97, 99, 75, 52] ⟨12, 0, 0, 0, 0, 0, 0, 0, 0⟩ 0 1 = _
  rw [cstep_a (a := a) (b := b) (by omega) (by dsimp only; decide) g1 a1 a2 b1 b2]
  rw [cstep_c (c := c) (sc := sc) (by omega) (by dsimp only; decide) g2 c1 c2 hs]
  rw [cstep_K (k := k) (by omega) (by dsimp only; decide) g3 k1 k2]
  rw [cstep_4 (n := imm) (by omega) (by dsimp only; decide) (num_low (.inr (.inl ⟨rfl, by omega, by omega⟩)) (four g4 g5 g6 g7))]
  rfl
theorem csays_13 {a b k imm : Int} (a1 : 0 ≤ a) (a2 : a < 16) (b1 : 0 ≤ b) (b2 : b < 16) (k1 : 0 ≤ k) (k2 : k < 256) (i1 : -2147483648 ≤ imm) (i2 : imm < 2147483648) : CSays ⟨13, a, b, 0, k, 0, 0, imm, 0⟩ := by
  have e : enc ⟨13, a, b, 0, k, 0, 0, imm, 0⟩ = [13, (16 * a + b) % 256, k % 256, Mm.by8 (imm % 18446744073709551616) 0, Mm.by8 (imm % 18446744073709551616) 1, Mm.by8 (imm % 18446744073709551616) 2, Mm.by8 (imm % 18446744073709551616) 3] := rfl
  intro N g hN hg
  rw [e] at hN hg ⊢
  have hN : 7 ≤ N := hN
  have g1 : g 1 = (16 * a + b) % 256 := hg 1 (show 1 < 7 from by decide)
  have g2 : g 2 = k % 256 := hg 2 (show 2 < 7 from by decide)
  have g3 : g 3 = Mm.by8 (imm % 18446744073709551616) 0 := hg 3 (show 3 < 7 from by decide)
  have g4 : g 4 = Mm.by8 (imm % 18446744073709551616) 1 := hg 4 (show 4 < 7 from by decide)
  have g5 : g 5 = Mm.by8 (imm % 18446744073709551616) 2 := hg 5 (show 5 < 7 from by decide)
  have g6 : g 6 = Mm.by8 (imm % 18446744073709551616) 3 := hg 6 (show 6 < 7 from by decide)
  show crdL N g [97, 75, 52] ⟨13, 0, 0, 0, 0, 0, 0, 0, 0⟩ 0 1 = _
  rw [cstep_a (a := a) (b := b) (by omega) (by dsimp only; decide) g1 a1 a2 b1 b2]
  rw [cstep_K (k := k) (by omega) (by dsimp only; decide) g2 k1 k2]
  rw [cstep_4 (n := imm) (by omega) (by dsimp only; decide) (num_low (.inr (.inl ⟨rfl, by omega, by omega⟩)) (four g3 g4 g5 g6))]
  rfl
theorem csays_14 {a b c k sc imm : Int} (a1 : 0 ≤ a) (a2 : a < 16) (b1 : 0 ≤ b) (b2 : b < 16) (c1 : 0 ≤ c) (c2 : c < 16) (hs : sc = 1 ∨ sc = 2 ∨ sc = 4 ∨ sc = 8 ∨ sc = 0) (k1 : 0 ≤ k) (k2 : k < 256) (i1 : -2147483648 ≤ imm) (i2 : imm < 2147483648) : CSays ⟨14, a, b, c, k, 0, sc, imm, 0⟩ := by
  have e : enc ⟨14, a, b, c, k, 0, sc, imm, 0⟩ = [14, (16 * a + b) % 256, (16 * c + lg sc) % 256, k % 256, Mm.by8 (imm % 18446744073709551616) 0, Mm.by8 (imm % 18446744073709551616) 1, Mm.by8 (imm % 18446744073709551616) 2, Mm.by8 (imm % 18446744073709551616) 3] := rfl
  intro N g hN hg
  rw [e] at hN hg ⊢
  have hN : 8 ≤ N := hN
  have g1 : g 1 = (16 * a + b) % 256 := hg 1 (show 1 < 8 from by decide)
  have g2 : g 2 = (16 * c + lg sc) % 256 := hg 2 (show 2 < 8 from by decide)
  have g3 : g 3 = k % 256 := hg 3 (show 3 < 8 from by decide)
  have g4 : g 4 = Mm.by8 (imm % 18446744073709551616) 0 := hg 4 (show 4 < 8 from by decide)
  have g5 : g 5 = Mm.by8 (imm % 18446744073709551616) 1 := hg 5 (show 5 < 8 from by decide)
  have g6 : g 6 = Mm.by8 (imm % 18446744073709551616) 2 := hg 6 (show 6 < 8 from by decide)
  have g7 : g 7 = Mm.by8 (imm % 18446744073709551616) 3 := hg 7 (show 7 < 8 from by decide)
  show crdL N g [97, 99, 75, 52] ⟨14, 0, 0, 0, 0, 0, 0, 0, 0⟩ 0 1 = _
  rw [cstep_a (a := a) (b := b) (by omega) (by dsimp only; decide) g1 a1 a2 b1 b2]
  rw [cstep_c (c := c) (sc := sc) (by omega) (by dsimp only; decide) g2 c1 c2 hs]
  rw [cstep_K (k := k) (by omega) (by dsimp only; decide) g3 k1 k2]
  rw [cstep_4 (n := imm) (by omega) (by dsimp only; decide) (num_low (.inr (.inl ⟨rfl, by omega, by omega⟩)) (four g4 g5 g6 g7))]
  rfl
theorem csays_15 {a b sub : Int} (a1 : 0 ≤ a) (a2 : a < 16) (b1 : 0 ≤ b) (b2 : b < 16) (s1 : 0 ≤ sub) (s2 : sub < 256) : CSays ⟨15, a, b, 0, 0, sub, 0, 0, 0⟩ := by
  have e : enc ⟨15, a, b, 0, 0, sub, 0, 0, 0⟩ = [15, (16 * a + b) % 256, sub % 256] := rfl
  intro N g hN hg
  rw [e] at hN hg ⊢
  have hN : 3 ≤ N := hN
  have g1 : g 1 = (16 * a + b) % 256 := hg 1 (show 1 < 3 from by decide)
  have g2 : g 2 = sub % 256 := hg 2 (show 2 < 3 from by decide)
  show crdL N g [97, 83] ⟨15, 0, 0, 0, 0, 0, 0, 0, 0⟩ 0 1 = _
  rw [cstep_a (a := a) (b := b) (by omega) (by dsimp only; decide) g1 a1 a2 b1 b2]
  rw [cstep_S (k := sub) (by omega) (by dsimp only; decide) g2 s1 s2]
  rfl
theorem csays_16 {a b k : Int} (a1 : 0 ≤ a) (a2 : a < 16) (b1 : 0 ≤ b) (b2 : b < 16) (k1 : 0 ≤ k) (k2 : k < 256) : CSays ⟨16, a, b, 0, k, 0, 0, 0, 0⟩ := by
  have e : enc ⟨16, a, b, 0, k, 0, 0, 0, 0⟩ = [16, (16 * a + b) % 256, k % 256] := rfl
  intro N g hN hg
  rw [e] at hN hg ⊢
  have hN : 3 ≤ N := hN
  have g1 : g 1 = (16 * a + b) % 256 := hg 1 (show 1 < 3 from by decide)
  have g2 : g 2 = k % 256 := hg 2 (show 2 < 3 from by decide)
  show crdL N g [97, 75] ⟨16, 0, 0, 0, 0, 0, 0, 0, 0⟩ 0 1 = _
  rw [cstep_a (a := a) (b := b) (by omega) (by dsimp only; decide) g1 a1 a2 b1 b2]
  rw [cstep_K (k := k) (by omega) (by dsimp only; decide) g2 k1 k2]
  rfl
theorem csays_17_0 {a k imm : Int} (a1 : 0 ≤ a) (a2 : a < 16) (k1 : 0 ≤ k) (k2 : k < 256) (i1 : -128 ≤ imm) (i2 : imm < 128) : CSays ⟨17, a, 0, 0, k, 0, 0, imm, 0⟩ := by
  have hz : size imm = 0 := by
    unfold size
    rw [if_pos ⟨i1, i2⟩]
  have e : enc ⟨17, a, 0, 0, k, 0, 0, imm, 0⟩ = [17, (16 * a + 0) % 256, k % 256, Mm.by8 (imm % 18446744073709551616) 0] := by
    show (17 : Int) % 256 :: ([(16 * a + size imm) % 256] ++ ([k % 256] ++ (low imm (cnt (size imm)) ++ []))) = _
    rw [hz]; rfl
  intro N g hN hg
  rw [e] at hN hg ⊢
  have hN : 4 ≤ N := hN
  have g1 : g 1 = (16 * a + 0) % 256 := hg 1 (show 1 < 4 from by decide)
  have g2 : g 2 = k % 256 := hg 2 (show 2 < 4 from by decide)
  have g3 : g 3 = Mm.by8 (imm % 18446744073709551616) 0 := hg 3 (show 3 < 4 from by decide)
  show crdL N g [110, 75, 105] ⟨17, 0, 0, 0, 0, 0, 0, 0, 0⟩ 0 1 = _
  rw [cstep_n (a := a) (z' := 0) (by omega) (by decide) (by dsimp only; decide) g1 a1 a2]
  rw [cstep_K (k := k) (by omega) (by dsimp only; decide) g2 k1 k2]
  rw [cstep_i hz (n := imm) (show 3 + 1 ≤ N from by omega) (by dsimp only; decide) (show num g 3 1 = imm from num_low (.inl ⟨rfl, by omega, by omega⟩) (one g3))]
  rfl
theorem csays_17_1 {a k imm : Int} (a1 : 0 ≤ a) (a2 : a < 16) (k1 : 0 ≤ k) (k2 : k < 256) (i1 : -2147483648 ≤ imm) (i2 : imm < 2147483648) (i3 : ¬ (-128 ≤ imm ∧ imm < 128)) : CSays ⟨17, a, 0, 0, k, 0, 0, imm, 0⟩ := by
  have hz : size imm = 1 := by
    unfold size
    rw [if_neg i3, if_pos ⟨i1, i2⟩]
  have e : enc ⟨17, a, 0, 0, k, 0, 0, imm, 0⟩ = [17, (16 * a + 1) % 256, k % 256, Mm.by8 (imm % 18446744073709551616) 0, Mm.by8 (imm % 18446744073709551616) 1, Mm.by8 (imm % 18446744073709551616) 2, Mm.by8 (imm % 18446744073709551616) 3] := by
    show (17 : Int) % 256 :: ([(16 * a + size imm) % 256] ++ ([k % 256] ++ (low imm (cnt (size imm)) ++ []))) = _
    rw [hz]; rfl
  intro N g hN hg
  rw [e] at hN hg ⊢
  have hN : 7 ≤ N := hN
  have g1 : g 1 = (16 * a + 1) % 256 := hg 1 (show 1 < 7 from by decide)
  have g2 : g 2 = k % 256 := hg 2 (show 2 < 7 from by decide)
  have g3 : g 3 = Mm.by8 (imm % 18446744073709551616) 0 := hg 3 (show 3 < 7 from by decide)
  have g4 : g 4 = Mm.by8 (imm % 18446744073709551616) 1 := hg 4 (show 4 < 7 from by decide)
  have g5 : g 5 = Mm.by8 (imm % 18446744073709551616) 2 := hg 5 (show 5 < 7 from by decide)
  have g6 : g 6 = Mm.by8 (imm % 18446744073709551616) 3 := hg 6 (show 6 < 7 from by decide)
  show crdL N g [110, 75, 105] ⟨17, 0, 0, 0, 0, 0, 0, 0, 0⟩ 0 1 = _
  rw [cstep_n (a := a) (z' := 1) (by omega) (by decide) (by dsimp only; decide) g1 a1 a2]
  rw [cstep_K (k := k) (by omega) (by dsimp only; decide) g2 k1 k2]
  rw [cstep_i hz (n := imm) (show 3 + 4 ≤ N from by omega) (by dsimp only; decide) (show num g 3 4 = imm from num_low (.inr (.inl ⟨rfl, by omega, by omega⟩)) (four g3 g4 g5 g6))]
  rfl
theorem csays_18 {a sub : Int} (a1 : 0 ≤ a) (a2 : a < 16) (s1 : 0 ≤ sub) (s2 : sub < 256) : CSays ⟨18, a, 0, 0, 0, sub, 0, 0, 0⟩ := by
  have e : enc ⟨18, a, 0, 0, 0, sub, 0, 0, 0⟩ = [18, (16 * a + 0) % 256, sub % 256] := rfl
  intro N g hN hg
  rw [e] at hN hg ⊢
  have hN : 3 ≤ N := hN
  have g1 : g 1 = (16 * a + 0) % 256 := hg 1 (show 1 < 3 from by decide)
  have g2 : g 2 = sub % 256 := hg 2 (show 2 < 3 from by decide)
  show crdL N g [97, 83] ⟨18, 0, 0, 0, 0, 0, 0, 0, 0⟩ 0 1 = _
  rw [cstep_a (a := a) (b := 0) (by omega) (by dsimp only; decide) g1 a1 a2 (by decide) (by decide)]
  rw [cstep_S (k := sub) (by omega) (by dsimp only; decide) g2 s1 s2]
  rfl
theorem csays_19_0 {imm : Int} (i1 : -128 ≤ imm) (i2 : imm < 128) : CSays ⟨19, 0, 0, 0, 0, 0, 0, imm, 0⟩ := by
  have hz : size imm = 0 := by
    unfold size
    rw [if_pos ⟨i1, i2⟩]
  have e : enc ⟨19, 0, 0, 0, 0, 0, 0, imm, 0⟩ = [19, 0, Mm.by8 (imm % 18446744073709551616) 0] := by
    show (19 : Int) % 256 :: ([size imm % 256] ++ (low imm (cnt (size imm)) ++ [])) = _
    rw [hz]; rfl
  intro N g hN hg
  rw [e] at hN hg ⊢
  have hN : 3 ≤ N := hN
  have g1 : g 1 = 0 := hg 1 (show 1 < 3 from by decide)
  have g2 : g 2 = Mm.by8 (imm % 18446744073709551616) 0 := hg 2 (show 2 < 3 from by decide)
  show crdL N g [106, 105] ⟨19, 0, 0, 0, 0, 0, 0, 0, 0⟩ 0 1 = _
  rw [cstep_j (z' := 0) (by omega) (by dsimp only; decide) g1]
  rw [cstep_i hz (n := imm) (show 2 + 1 ≤ N from by omega) (by dsimp only; decide) (show num g 2 1 = imm from num_low (.inl ⟨rfl, by omega, by omega⟩) (one g2))]
  rfl
theorem csays_19_1 {imm : Int} (i1 : -2147483648 ≤ imm) (i2 : imm < 2147483648) (i3 : ¬ (-128 ≤ imm ∧ imm < 128)) : CSays ⟨19, 0, 0, 0, 0, 0, 0, imm, 0⟩ := by
  have hz : size imm = 1 := by
    unfold size
    rw [if_neg i3, if_pos ⟨i1, i2⟩]
  have e : enc ⟨19, 0, 0, 0, 0, 0, 0, imm, 0⟩ = [19, 1, Mm.by8 (imm % 18446744073709551616) 0, Mm.by8 (imm % 18446744073709551616) 1, Mm.by8 (imm % 18446744073709551616) 2, Mm.by8 (imm % 18446744073709551616) 3] := by
    show (19 : Int) % 256 :: ([size imm % 256] ++ (low imm (cnt (size imm)) ++ [])) = _
    rw [hz]; rfl
  intro N g hN hg
  rw [e] at hN hg ⊢
  have hN : 6 ≤ N := hN
  have g1 : g 1 = 1 := hg 1 (show 1 < 6 from by decide)
  have g2 : g 2 = Mm.by8 (imm % 18446744073709551616) 0 := hg 2 (show 2 < 6 from by decide)
  have g3 : g 3 = Mm.by8 (imm % 18446744073709551616) 1 := hg 3 (show 3 < 6 from by decide)
  have g4 : g 4 = Mm.by8 (imm % 18446744073709551616) 2 := hg 4 (show 4 < 6 from by decide)
  have g5 : g 5 = Mm.by8 (imm % 18446744073709551616) 3 := hg 5 (show 5 < 6 from by decide)
  show crdL N g [106, 105] ⟨19, 0, 0, 0, 0, 0, 0, 0, 0⟩ 0 1 = _
  rw [cstep_j (z' := 1) (by omega) (by dsimp only; decide) g1]
  rw [cstep_i hz (n := imm) (show 2 + 4 ≤ N from by omega) (by dsimp only; decide) (show num g 2 4 = imm from num_low (.inr (.inl ⟨rfl, by omega, by omega⟩)) (four g2 g3 g4 g5))]
  rfl
theorem csays_22_0 {sub imm : Int} (s1 : 11 ≤ sub) (s2 : sub ≤ 16) (i1 : -128 ≤ imm) (i2 : imm < 128) : CSays ⟨22, 0, 0, 0, 0, sub, 0, imm, 0⟩ := by
  have hz : size imm = 0 := by
    unfold size
    rw [if_pos ⟨i1, i2⟩]
  have e : enc ⟨22, 0, 0, 0, 0, sub, 0, imm, 0⟩ = [22, (16 * (sub - 11) + 0) % 256, Mm.by8 (imm % 18446744073709551616) 0] := by
    show (22 : Int) % 256 :: ([(16 * (sub - 11) + size imm) % 256] ++ (low imm (cnt (size imm)) ++ [])) = _
    rw [hz]; rfl
  intro N g hN hg
  rw [e] at hN hg ⊢
  have hN : 3 ≤ N := hN
  have g1 : g 1 = (16 * (sub - 11) + 0) % 256 := hg 1 (show 1 < 3 from by decide)
  have g2 : g 2 = Mm.by8 (imm % 18446744073709551616) 0 := hg 2 (show 2 < 3 from by decide)
  show crdL N g [74, 105] ⟨22, 0, 0, 0, 0, 0, 0, 0, 0⟩ 0 1 = _
  rw [cstep_J (sub := sub) (z' := 0) (by omega) (by decide) (by dsimp only; decide) g1 s1 s2]
  rw [cstep_i hz (n := imm) (show 2 + 1 ≤ N from by omega) (by dsimp only; decide) (show num g 2 1 = imm from num_low (.inl ⟨rfl, by omega, by omega⟩) (one g2))]
  rfl
theorem csays_22_1 {sub imm : Int} (s1 : 11 ≤ sub) (s2 : sub ≤ 16) (i1 : -2147483648 ≤ imm) (i2 : imm < 2147483648) (i3 : ¬ (-128 ≤ imm ∧ imm < 128)) : CSays ⟨22, 0, 0, 0, 0, sub, 0, imm, 0⟩ := by
  have hz : size imm = 1 := by
    unfold size
    rw [if_neg i3, if_pos ⟨i1, i2⟩]
  have e : enc ⟨22, 0, 0, 0, 0, sub, 0, imm, 0⟩ = [22, (16 * (sub - 11) + 1) % 256, Mm.by8 (imm % 18446744073709551616) 0, Mm.by8 (imm % 18446744073709551616) 1, Mm.by8 (imm % 18446744073709551616) 2, Mm.by8 (imm % 18446744073709551616) 3] := by
    show (22 : Int) % 256 :: ([(16 * (sub - 11) + size imm) % 256] ++ (low imm (cnt (size imm)) ++ [])) = _
    rw [hz]; rfl
  intro N g hN hg
  rw [e] at hN hg ⊢
  have hN : 6 ≤ N := hN
  have g1 : g 1 = (16 * (sub - 11) + 1) % 256 := hg 1 (show 1 < 6 from by decide)
  have g2 : g 2 = Mm.by8 (imm % 18446744073709551616) 0 := hg 2 (show 2 < 6 from by decide)
  have g3 : g 3 = Mm.by8 (imm % 18446744073709551616) 1 := hg 3 (show 3 < 6 from by decide)
  have g4 : g 4 = Mm.by8 (imm % 18446744073709551616) 2 := hg 4 (show 4 < 6 from by decide)
  have g5 : g 5 = Mm.by8 (imm % 18446744073709551616) 3 := hg 5 (show 5 < 6 from by decide)
  show crdL N g [74, 105] ⟨22, 0, 0, 0, 0, 0, 0, 0, 0⟩ 0 1 = _
  rw [cstep_J (sub := sub) (z' := 1) (by omega) (by decide) (by dsimp only; decide) g1 s1 s2]
  rw [cstep_i hz (n := imm) (show 2 + 4 ≤ N from by omega) (by dsimp only; decide) (show num g 2 4 = imm from num_low (.inr (.inl ⟨rfl, by omega, by omega⟩)) (four g2 g3 g4 g5))]
  rfl
theorem csays_23 {imm : Int} (i1 : -2147483648 ≤ imm) (i2 : imm < 2147483648) : CSays ⟨23, 0, 0, 0, 0, 0, 0, imm, 0⟩ := by
  have e : enc ⟨23, 0, 0, 0, 0, 0, 0, imm, 0⟩ = [23, Mm.by8 (imm % 18446744073709551616) 0, Mm.by8 (imm % 18446744073709551616) 1, Mm.by8 (imm % 18446744073709551616) 2, Mm.by8 (imm % 18446744073709551616) 3] := rfl
  intro N g hN hg
  rw [e] at hN hg ⊢
  have hN : 5 ≤ N := hN
  have g1 : g 1 = Mm.by8 (imm % 18446744073709551616) 0 := hg 1 (show 1 < 5 from by decide)
  have g2 : g 2 = Mm.by8 (imm % 18446744073709551616) 1 := hg 2 (show 2 < 5 from by decide)
  have g3 : g 3 = Mm.by8 (imm % 18446744073709551616) 2 := hg 3 (show 3 < 5 from by decide)
  have g4 : g 4 = Mm.by8 (imm % 18446744073709551616) 3 := hg 4 (show 4 < 5 from by decide)
  show crdL N g [52] ⟨23, 0, 0, 0, 0, 0, 0, 0, 0⟩ 0 1 = _
  rw [cstep_4 (n := imm) (by omega) (by dsimp only; decide) (num_low (.inr (.inl ⟨rfl, by omega, by omega⟩)) (four g1 g2 g3 g4))]
  rfl
theorem csays_24 : CSays ⟨24, 0, 0, 0, 0, 0, 0, 0, 0⟩ := by
  have e : enc ⟨24, 0, 0, 0, 0, 0, 0, 0, 0⟩ = [24] := rfl
  intro N g hN hg
  rw [e] at hN hg ⊢
  show crdL N g [] ⟨24, 0, 0, 0, 0, 0, 0, 0, 0⟩ 0 1 = _
  rfl
theorem csays_25 {imm : Int} (i1 : -2147483648 ≤ imm) (i2 : imm < 2147483648) : CSays ⟨25, 0, 0, 0, 0, 0, 0, imm, 0⟩ := by
  have e : enc ⟨25, 0, 0, 0, 0, 0, 0, imm, 0⟩ = [25, Mm.by8 (imm % 18446744073709551616) 0, Mm.by8 (imm % 18446744073709551616) 1, Mm.by8 (imm % 18446744073709551616) 2, Mm.by8 (imm % 18446744073709551616) 3] := rfl
  intro N g hN hg
  rw [e] at hN hg ⊢
  have hN : 5 ≤ N := hN
  have g1 : g 1 = Mm.by8 (imm % 18446744073709551616) 0 := hg 1 (show 1 < 5 from by decide)
  have g2 : g 2 = Mm.by8 (imm % 18446744073709551616) 1 := hg 2 (show 2 < 5 from by decide)
  have g3 : g 3 = Mm.by8 (imm % 18446744073709551616) 2 := hg 3 (show 3 < 5 from by decide)
  have g4 : g 4 = Mm.by8 (imm % 18446744073709551616) 3 := hg 4 (show 4 < 5 from by decide)
  show crdL N g [52] ⟨25, 0, 0, 0, 0, 0, 0, 0, 0⟩ 0 1 = _
  rw [cstep_4 (n := imm) (by omega) (by dsimp only; decide) (num_low (.inr (.inl ⟨rfl, by omega, by omega⟩)) (four g1 g2 g3 g4))]
  rfl
theorem csays_26 {a b : Int} (a1 : 0 ≤ a) (a2 : a < 16) (b1 : 0 ≤ b) (b2 : b < 16) : CSays ⟨26, a, b, 0, 0, 0, 0, 0, 0⟩ := by
  have e : enc ⟨26, a, b, 0, 0, 0, 0, 0, 0⟩ = [26, (16 * a + b) % 256] := rfl
  intro N g hN hg
  rw [e] at hN hg ⊢
  have hN : 2 ≤ N := hN
  have g1 : g 1 = (16 * a + b) % 256 := hg 1 (show 1 < 2 from by decide)
  show crdL N g [97] ⟨26, 0, 0, 0, 0, 0, 0, 0, 0⟩ 0 1 = _
  rw [cstep_a (a := a) (b := b) (by omega) (by dsimp only; decide) g1 a1 a2 b1 b2]
  rfl
theorem csays_27 {a : Int} (a1 : 0 ≤ a) (a2 : a < 16) : CSays ⟨27, a, 0, 0, 0, 0, 0, 0, 0⟩ := by
  have e : enc ⟨27, a, 0, 0, 0, 0, 0, 0, 0⟩ = [27, (16 * a + 0) % 256] := rfl
  intro N g hN hg
  rw [e] at hN hg ⊢
  have hN : 2 ≤ N := hN
  have g1 : g 1 = (16 * a + 0) % 256 := hg 1 (show 1 < 2 from by decide)
  show crdL N g [97] ⟨27, 0, 0, 0, 0, 0, 0, 0, 0⟩ 0 1 = _
  rw [cstep_a (a := a) (b := 0) (by omega) (by dsimp only; decide) g1 a1 a2 (by decide) (by decide)]
  rfl
theorem csays_28 {a : Int} (a1 : 0 ≤ a) (a2 : a < 16) : CSays ⟨28, a, 0, 0, 0, 0, 0, 0, 0⟩ := by
  have e : enc ⟨28, a, 0, 0, 0, 0, 0, 0, 0⟩ = [28, (16 * a + 0) % 256] := rfl
  intro N g hN hg
  rw [e] at hN hg ⊢
  have hN : 2 ≤ N := hN
  have g1 : g 1 = (16 * a + 0) % 256 := hg 1 (show 1 < 2 from by decide)
  show crdL N g [97] ⟨28, 0, 0, 0, 0, 0, 0, 0, 0⟩ 0 1 = _
  rw [cstep_a (a := a) (b := 0) (by omega) (by dsimp only; decide) g1 a1 a2 (by decide) (by decide)]
  rfl
theorem csays_29 {imm : Int} (i1 : -2147483648 ≤ imm) (i2 : imm < 2147483648) : CSays ⟨29, 0, 0, 0, 0, 0, 0, imm, 0⟩ := by
  have e : enc ⟨29, 0, 0, 0, 0, 0, 0, imm, 0⟩ = [29, Mm.by8 (imm % 18446744073709551616) 0, Mm.by8 (imm % 18446744073709551616) 1, Mm.by8 (imm % 18446744073709551616) 2, Mm.by8 (imm % 18446744073709551616) 3] := rfl
  intro N g hN hg
  rw [e] at hN hg ⊢
  have hN : 5 ≤ N := hN
  have g1 : g 1 = Mm.by8 (imm % 18446744073709551616) 0 := hg 1 (show 1 < 5 from by decide)
  have g2 : g 2 = Mm.by8 (imm % 18446744073709551616) 1 := hg 2 (show 2 < 5 from by decide)
  have g3 : g 3 = Mm.by8 (imm % 18446744073709551616) 2 := hg 3 (show 3 < 5 from by decide)
  have g4 : g 4 = Mm.by8 (imm % 18446744073709551616) 3 := hg 4 (show 4 < 5 from by decide)
  show crdL N g [52] ⟨29, 0, 0, 0, 0, 0, 0, 0, 0⟩ 0 1 = _
  rw [cstep_4 (n := imm) (by omega) (by dsimp only; decide) (num_low (.inr (.inl ⟨rfl, by omega, by omega⟩)) (four g1 g2 g3 g4))]
  rfl

theorem csays {v : InV} (h : mayB v = true) (i1 : -9223372036854775808 ≤ v.imm) (i2 : v.imm ≤ 9223372036854775807) : CSays v := by
  have r := rng h
  have hc := codes r.rw
  obtain ⟨op, a, b, c, k, sub, sc, imm, lb⟩ := v
  obtain ⟨_, hl, a1, a2, b1, b2, c1, c2, u0, u1, u2, u3, u4, u5, sm, kd⟩ := r
  dsimp only at *
  subst hl
  rcases hc with rfl | rfl | rfl | rfl | rfl | rfl | rfl | rfl | rfl | rfl | rfl | rfl | rfl | rfl | rfl | rfl | rfl | rfl | rfl | rfl | rfl | rfl | rfl | rfl | rfl
  · obtain rfl : b = 0 := u1.resolve_left (by decide)
    obtain rfl : k = 0 := u3.resolve_left (by decide)
    obtain rfl : sub = 0 := u4.resolve_left (by decide)
    obtain ⟨rfl, rfl⟩ : c = 0 ∧ sc = 0 := u2.resolve_left (by decide)
    by_cases z0 : -128 ≤ imm ∧ imm < 128
    · exact csays_1_0 a1 a2 z0.1 z0.2
    · by_cases z1 : -2147483648 ≤ imm ∧ imm < 2147483648
      · exact csays_1_1 a1 a2 z1.1 z1.2 z0
      · exact csays_1_2 a1 a2 i1 i2 z1
  · obtain rfl : k = 0 := u3.resolve_left (by decide)
    obtain rfl : sub = 0 := u4.resolve_left (by decide)
    obtain rfl : imm = 0 := u5.resolve_left (by decide)
    obtain ⟨rfl, rfl⟩ : c = 0 ∧ sc = 0 := u2.resolve_left (by decide)
    exact csays_3 a1 a2 b1 b2
  · obtain rfl : imm = 0 := u5.resolve_left (by decide)
    obtain ⟨rfl, rfl⟩ : c = 0 ∧ sc = 0 := u2.resolve_left (by decide)
    have q := bin_rng (show binB _ = true from kd)
    dsimp only at q
    exact csays_4 a1 a2 b1 b2 (by omega) (by omega) (by omega) (by omega)
  · obtain rfl : b = 0 := u1.resolve_left (by decide)
    obtain ⟨rfl, rfl⟩ : c = 0 ∧ sc = 0 := u2.resolve_left (by decide)
    have q := imm_rng (show immB sub k imm = true from kd)
    have sm := sm.resolve_left (by decide)
    by_cases z0 : -128 ≤ imm ∧ imm < 128
    · exact csays_5_0 a1 a2 (by omega) (by omega) (by omega) (by omega) z0.1 z0.2
    · exact csays_5_1 a1 a2 (by omega) (by omega) (by omega) (by omega) sm.1 sm.2 z0
  · obtain ⟨rfl, rfl⟩ : c = 0 ∧ sc = 0 := u2.resolve_left (by decide)
    have q := binM_rng (show (Wd.hasBinB sub k && _ && _) = true from kd)
    have sm := sm.resolve_left (by decide)
    exact csays_6 a1 a2 b1 b2 (by omega) (by omega) (by omega) (by omega) sm.1 sm.2
  · obtain rfl : b = 0 := u1.resolve_left (by decide)
    obtain rfl : imm = 0 := u5.resolve_left (by decide)
    obtain ⟨rfl, rfl⟩ : c = 0 ∧ sc = 0 := u2.resolve_left (by decide)
    have q := Rc.un_rng (show Wd.hasUnB sub k = true from kd)
    exact csays_7 a1 a2 (by omega) (by omega) (by omega) (by omega)
  · obtain rfl : imm = 0 := u5.resolve_left (by decide)
    obtain ⟨rfl, rfl⟩ : c = 0 ∧ sc = 0 := u2.resolve_left (by decide)
    have q := Rc.conv_rng (show (Wd.numB sub && Wd.numB k) = true from kd)
    exact csays_8 a1 a2 b1 b2 (by omega) (by omega) (by omega) (by omega)
  · obtain rfl : k = 0 := u3.resolve_left (by decide)
    obtain rfl : sub = 0 := u4.resolve_left (by decide)
    have q := scl_rng (show sclB _ = true from kd)
    have sm := sm.resolve_left (by decide)
    exact csays_10 a1 a2 b1 b2 c1 c2 q sm.1 sm.2
  · obtain rfl : sub = 0 := u4.resolve_left (by decide)
    obtain ⟨rfl, rfl⟩ : c = 0 ∧ sc = 0 := u2.resolve_left (by decide)
    have q := Rc.word_rng (show Wd.wordB k = true from kd)
    have sm := sm.resolve_left (by decide)
    exact csays_11 a1 a2 b1 b2 (by omega) (by omega) sm.1 sm.2
  · obtain rfl : sub = 0 := u4.resolve_left (by decide)
    have q2 := (Bool.and_eq_true _ _).mp (show (sclB _ && Wd.wordB k) = true from kd)
    have q := scl_rng q2.1
    have q3 := Rc.word_rng q2.2
    have sm := sm.resolve_left (by decide)
    exact csays_12 a1 a2 b1 b2 c1 c2 q (by omega) (by omega) sm.1 sm.2
  · obtain rfl : sub = 0 := u4.resolve_left (by decide)
    obtain ⟨rfl, rfl⟩ : c = 0 ∧ sc = 0 := u2.resolve_left (by decide)
    have q := Rc.word_rng (show Wd.wordB k = true from kd)
    have sm := sm.resolve_left (by decide)
    exact csays_13 a1 a2 b1 b2 (by omega) (by omega) sm.1 sm.2
  · obtain rfl : sub = 0 := u4.resolve_left (by decide)
    have q2 := (Bool.and_eq_true _ _).mp (show (sclB _ && Wd.wordB k) = true from kd)
    have q := scl_rng q2.1
    have q3 := Rc.word_rng q2.2
    have sm := sm.resolve_left (by decide)
    exact csays_14 a1 a2 b1 b2 c1 c2 q (by omega) (by omega) sm.1 sm.2
  · obtain rfl : k = 0 := u3.resolve_left (by decide)
    obtain rfl : imm = 0 := u5.resolve_left (by decide)
    obtain ⟨rfl, rfl⟩ : c = 0 ∧ sc = 0 := u2.resolve_left (by decide)
    have q := cmp_rng (show Wd.cmpB sub = true from kd)
    exact csays_15 a1 a2 b1 b2 (by omega) (by omega)
  · obtain rfl : sub = 0 := u4.resolve_left (by decide)
    obtain rfl : imm = 0 := u5.resolve_left (by decide)
    obtain ⟨rfl, rfl⟩ : c = 0 ∧ sc = 0 := u2.resolve_left (by decide)
    have q := Rc.word_rng (show Wd.wordB k = true from kd)
    exact csays_16 a1 a2 b1 b2 (by omega) (by omega)
  · obtain rfl : b = 0 := u1.resolve_left (by decide)
    obtain rfl : sub = 0 := u4.resolve_left (by decide)
    obtain ⟨rfl, rfl⟩ : c = 0 ∧ sc = 0 := u2.resolve_left (by decide)
    have q := imm_rng (show immB 2 k imm = true from kd)
    have sm := sm.resolve_left (by decide)
    by_cases z0 : -128 ≤ imm ∧ imm < 128
    · exact csays_17_0 a1 a2 (by omega) (by omega) z0.1 z0.2
    · exact csays_17_1 a1 a2 (by omega) (by omega) sm.1 sm.2 z0
  · obtain rfl : b = 0 := u1.resolve_left (by decide)
    obtain rfl : k = 0 := u3.resolve_left (by decide)
    obtain rfl : imm = 0 := u5.resolve_left (by decide)
    obtain ⟨rfl, rfl⟩ : c = 0 ∧ sc = 0 := u2.resolve_left (by decide)
    have q := cmp_rng (show Wd.cmpB sub = true from kd)
    exact csays_18 a1 a2 (by omega) (by omega)
  · obtain rfl : a = 0 := u0.resolve_left (by decide)
    obtain rfl : b = 0 := u1.resolve_left (by decide)
    obtain rfl : k = 0 := u3.resolve_left (by decide)
    obtain rfl : sub = 0 := u4.resolve_left (by decide)
    obtain ⟨rfl, rfl⟩ : c = 0 ∧ sc = 0 := u2.resolve_left (by decide)
    have sm := sm.resolve_left (by decide)
    by_cases z0 : -128 ≤ imm ∧ imm < 128
    · exact csays_19_0 z0.1 z0.2
    · exact csays_19_1 sm.1 sm.2 z0
  · obtain rfl : a = 0 := u0.resolve_left (by decide)
    obtain rfl : b = 0 := u1.resolve_left (by decide)
    obtain rfl : k = 0 := u3.resolve_left (by decide)
    obtain ⟨rfl, rfl⟩ : c = 0 ∧ sc = 0 := u2.resolve_left (by decide)
    have q := cmp_rng (show Wd.cmpB sub = true from kd)
    have sm := sm.resolve_left (by decide)
    by_cases z0 : -128 ≤ imm ∧ imm < 128
    · exact csays_22_0 (by omega) (by omega) z0.1 z0.2
    · exact csays_22_1 (by omega) (by omega) sm.1 sm.2 z0
  · obtain rfl : a = 0 := u0.resolve_left (by decide)
    obtain rfl : b = 0 := u1.resolve_left (by decide)
    obtain rfl : k = 0 := u3.resolve_left (by decide)
    obtain rfl : sub = 0 := u4.resolve_left (by decide)
    obtain ⟨rfl, rfl⟩ : c = 0 ∧ sc = 0 := u2.resolve_left (by decide)
    have sm := sm.resolve_left (by decide)
    exact csays_23 sm.1 sm.2
  · obtain rfl : a = 0 := u0.resolve_left (by decide)
    obtain rfl : b = 0 := u1.resolve_left (by decide)
    obtain rfl : k = 0 := u3.resolve_left (by decide)
    obtain rfl : sub = 0 := u4.resolve_left (by decide)
    obtain rfl : imm = 0 := u5.resolve_left (by decide)
    obtain ⟨rfl, rfl⟩ : c = 0 ∧ sc = 0 := u2.resolve_left (by decide)
    exact csays_24
  · obtain rfl : a = 0 := u0.resolve_left (by decide)
    obtain rfl : b = 0 := u1.resolve_left (by decide)
    obtain rfl : k = 0 := u3.resolve_left (by decide)
    obtain rfl : sub = 0 := u4.resolve_left (by decide)
    obtain ⟨rfl, rfl⟩ : c = 0 ∧ sc = 0 := u2.resolve_left (by decide)
    have sm := sm.resolve_left (by decide)
    exact csays_25 sm.1 sm.2
  · obtain rfl : k = 0 := u3.resolve_left (by decide)
    obtain rfl : sub = 0 := u4.resolve_left (by decide)
    obtain rfl : imm = 0 := u5.resolve_left (by decide)
    obtain ⟨rfl, rfl⟩ : c = 0 ∧ sc = 0 := u2.resolve_left (by decide)
    exact csays_26 a1 a2 b1 b2
  · obtain rfl : b = 0 := u1.resolve_left (by decide)
    obtain rfl : k = 0 := u3.resolve_left (by decide)
    obtain rfl : sub = 0 := u4.resolve_left (by decide)
    obtain rfl : imm = 0 := u5.resolve_left (by decide)
    obtain ⟨rfl, rfl⟩ : c = 0 ∧ sc = 0 := u2.resolve_left (by decide)
    exact csays_27 a1 a2
  · obtain rfl : b = 0 := u1.resolve_left (by decide)
    obtain rfl : k = 0 := u3.resolve_left (by decide)
    obtain rfl : sub = 0 := u4.resolve_left (by decide)
    obtain rfl : imm = 0 := u5.resolve_left (by decide)
    obtain ⟨rfl, rfl⟩ : c = 0 ∧ sc = 0 := u2.resolve_left (by decide)
    exact csays_28 a1 a2
  · obtain rfl : a = 0 := u0.resolve_left (by decide)
    obtain rfl : b = 0 := u1.resolve_left (by decide)
    obtain rfl : k = 0 := u3.resolve_left (by decide)
    obtain rfl : sub = 0 := u4.resolve_left (by decide)
    obtain ⟨rfl, rfl⟩ : c = 0 ∧ sc = 0 := u2.resolve_left (by decide)
    have sm := sm.resolve_left (by decide)
    exact csays_29 sm.1 sm.2

end Cc
end Go.Proofs.YtdklaeppcjopoaaGreat

/- The number of zero bits behind a word's lowest one: package math/bits, by its table; cisc.logOf. -/
namespace Go.Proofs.YtdklaeppcjopoaaGreat
open Go.RowKit
set_option linter.unusedVariables false

namespace Cc
/-- what package math/bits's table of 64 bytes holds -/
def tzL : List Int := [0, 1, 56, 2, 57, 49, 28, 3, 61, 58, 42, 50, 38, 29, 17, 4, 62, 47, 59, 36, 45, 43, 51, 22, 53, 39, 33, 30, 24, 18, 12, 5, 63, 55, 48, 27, 60, 41, 37, 16, 46, 35, 44, 21, 52, 32, 23, 11, 54, 26, 40, 15, 34, 20, 31, 10, 25, 14, 19, 9, 13, 8, 7, 6]
end Cc
/-- .. and where it lies -/
def TabAt (w : World) : Prop := 1 < w.heap.size ∧ ∀ i, i < 64 → w.cell? ⟨1, i, none⟩ = some (.int .u8 (Cc.tzL.getD i 0))
theorem TabAt.kept {w w' : World} {row : Option Nat} (h : TabAt w) (hg : w.grownBy w' row) (hr : some 1 ≠ row) : TabAt w' := ⟨Nat.lt_of_lt_of_le h.1 hg.size, fun i hi => hg.cell (h.2 i hi) hr⟩
namespace Cc
end Cc

end Go.Proofs.YtdklaeppcjopoaaGreat

/- cisc's reader: byte by byte; where the bytes end it panics. -/
namespace Go.Proofs.YtdklaeppcjopoaaGreat
open Go.RowKit
set_option linter.unusedVariables false

/-- a panic with an error's number -/
abbrev panics (n : Int) : Ending := .panicked [{ v := .iface 36 (.int .i64 n), recovered := false }]

/-- a reader in block B: n bytes g that lie from off on in block b; it is at p -/
structure RdAt (w : World) (B b off n cap : Nat) (g : Nat → Int) (p : Nat) : Prop where
  c0 : w.cell? ⟨B, 0, none⟩ = some (.slice (some ⟨b, off, none⟩) n cap)
  c1 : w.cell? ⟨B, 1, none⟩ = some (.int .i64 p)
  fz : ∀ k, w.frozen? ⟨B, k, none⟩ = false
  bs : ∀ i, i < n → w.cell? ⟨b, off + i, none⟩ = some (.int .u8 (g i))
  ft : Mm.Fit g
  nb : B ≠ b
  mx : n ≤ maxLen
  pn : p ≤ n

theorem RdAt.step {w : World} {B b off n cap p : Nat} {g : Nat → Int} (h : RdAt w B b off n cap g p) (hp : p < n) (d : Nat) : RdAt ((w.drewN d).setCell ⟨B, 1, none⟩ (.int .i64 (p + 1 : Nat))) B b off n cap g (p + 1) :=
  ⟨(World.cell?_setCell_other _ _ _ _ (by simp)).trans h.c0, World.cell?_setCell_same _ _ _ (show (w.drewN d).cell? ⟨B, 1, none⟩ = _ from h.c1), fun k => (World.frozen?_setCell _ _ _ _).trans (h.fz k), fun i hi => (World.cell?_setCell_other _ _ _ _ (fun e => h.nb (congrArg Addr.block e))).trans (h.bs i hi), h.ft, h.nb, h.mx, hp⟩
theorem RdAt.kept {w w' : World} {B b off n cap p : Nat} {g : Nat → Int} {row : Option Nat} (h : RdAt w B b off n cap g p) (hg : w.grownBy w' row) (h1 : some B ≠ row) (h2 : some b ≠ row) : RdAt w' B b off n cap g p :=
  ⟨hg.cell h.c0 h1, hg.cell h.c1 h1, fun k => (hg.frozen_far ⟨B, k, none⟩ (World.block_lt_of_cell? w ⟨B, 0, none⟩ h.c0) h1).trans (h.fz k), fun i hi => hg.cell (h.bs i hi) h2, h.ft, h.nb, h.mx, h.pn⟩

set_option maxHeartbeats 800000 in
theorem next_in {w : World} {B b off n cap p : Nat} {g : Nat → Int} (h : RdAt w B b off n cap g p) (hp : p < n) :
    Calls Tryz.prog 231 #[.pointer (some ⟨B, 0, none⟩)] w fun e w' => e = .returned (.int .i64 (g p)) ∧ RdAt w' B b off n cap g (p + 1) ∧ w.grownBy w' (some B) := by
  have HR : Hid (∀ d, RdAt ((w.drewN d).setCell ⟨B, 1, none⟩ (.int .i64 (p + 1 : Nat))) B b off n cap g (p + 1)) := fun d => h.step hp d
  obtain ⟨c0, c1, fz, bs, ft, nb, mx, pn⟩ := h
  have c2 := bs p hp
  have z1 := fz 1
  have f := ft p
  have hm : (n : Int) ≤ 9223372036854775807 := by unfold maxLen at mx; omega
  have hp' : (p : Int) < n := by omega
  clear bs fz ft mx
  go_enter Tryz.func231, Tryz.ntmps231
  go_wp2_with fail
  go_quiet (fail)
  go_wp2_with fail
  go_quiet (fail)
  go_wp2
  go_ret
  exact ⟨rfl, HR.out _, grown_trans (grown_drewN (World.grownBy.refl _ _) _) (grown_setCell _ _ _ _)⟩

set_option maxHeartbeats 800000 in
theorem next_out {w : World} {B n cap p : Nat} {ao : Option Addr} (c0 : w.cell? ⟨B, 0, none⟩ = some (.slice ao n cap)) (c1 : w.cell? ⟨B, 1, none⟩ = some (.int .i64 p)) (hp : n ≤ p) :
    Calls Tryz.prog 231 #[.pointer (some ⟨B, 0, none⟩)] w fun e w' => e = panics 41 ∧ w.grownBy w' (some B) := by
  have hp' : (n : Int) ≤ p := by omega
  go_enter Tryz.func231, Tryz.ntmps231
  go_wp2_with fail
  go_quiet (fail)
  go_wp2
  exact ⟨rfl, rfl, grown_drewN (World.grownBy.refl _ _) _⟩

set_option maxHeartbeats 800000 in
theorem pair_in {w : World} {B b off n cap p : Nat} {g : Nat → Int} (h : RdAt w B b off n cap g p) (hp : p < n) :
    Calls Tryz.prog 233 #[.pointer (some ⟨B, 0, none⟩)] w fun e w' => e = .returned (.tuple #[.int .i64 (g p / 16), .int .i64 (g p % 16)]) ∧ RdAt w' B b off n cap g (p + 1) ∧ w.grownBy w' (some B) := by
  have f := h.ft p
  go_enter Tryz.func233, Tryz.ntmps233
  go_wp2_with (go_at_call 231; refine (next_in h hp).mono ?_; rintro e w1 ⟨rfl, r1, g1⟩)
  go_ret2
  exact ⟨rfl, r1, g1⟩

set_option maxHeartbeats 800000 in
theorem pair_out {w : World} {B n cap p : Nat} {ao : Option Addr} (c0 : w.cell? ⟨B, 0, none⟩ = some (.slice ao n cap)) (c1 : w.cell? ⟨B, 1, none⟩ = some (.int .i64 p)) (hp : n ≤ p) :
    Calls Tryz.prog 233 #[.pointer (some ⟨B, 0, none⟩)] w fun e w' => e = panics 41 ∧ w.grownBy w' (some B) := by
  go_enter Tryz.func233, Tryz.ntmps233
  go_wp2_with (go_at_call 231; refine (next_out c0 c1 hp).mono ?_; rintro e w1 ⟨rfl, g1⟩)
  exact ⟨rfl, rfl, g1⟩

set_option maxHeartbeats 800000 in
theorem chk_ok (c z : Int) (w : World) (h : ¬ (2 < z ∨ (z = 2 ∧ c ≠ 1))) :
    Calls Tryz.prog 234 #[.int .i64 c, .int .i64 z] w fun e w' => e = .returned (.tuple #[]) ∧ w' = w := by
  have h1 : ¬ 2 < z := fun a => h (.inl a)
  have h2 : (z == 2) = true → (c != 1) = false := fun a => by
    have a : z = 2 := by simpa using a
    by_cases e : c = 1
    · simp [e]
    · exact absurd (.inr ⟨a, e⟩) h
  cases a : (z == 2)
  · go_enter Tryz.func234, Tryz.ntmps234
    go_wp2
    go_end0
    exact ⟨rfl, rfl⟩
  · have h3 := h2 a
    go_enter Tryz.func234, Tryz.ntmps234
    go_wp2
    go_end0
    exact ⟨rfl, rfl⟩
set_option maxHeartbeats 800000 in
theorem chk_no (c z : Int) (w : World) (h : 2 < z ∨ (z = 2 ∧ c ≠ 1)) :
    Calls Tryz.prog 234 #[.int .i64 c, .int .i64 z] w fun e w' => e = panics 40 ∧ w' = w := by
  rcases h with h | ⟨rfl, h⟩
  · go_enter Tryz.func234, Tryz.ntmps234
    go_wp2
    exact ⟨rfl, rfl, rfl⟩
  · have hb : (c != 1) = true := by simpa using h
    go_enter Tryz.func234, Tryz.ntmps234
    go_wp2
    exact ⟨rfl, rfl, rfl⟩

set_option maxHeartbeats 800000 in
theorem cscale_any (s : Int) (w : World) (h1 : 0 ≤ s) (h2 : s < 16) :
    Calls Tryz.prog 235 #[.int .i64 s] w fun e w' => e = .returned (.int .i64 (Cc.sclC s)) ∧ w' = w := by
  obtain h | h | h | h | h | h | h | h | h | h | h | h | h | h | h | h : s = 0 ∨ s = 1 ∨ s = 2 ∨ s = 3 ∨ s = 4 ∨ s = 5 ∨ s = 6 ∨ s = 7 ∨ s = 8 ∨ s = 9 ∨ s = 10 ∨ s = 11 ∨ s = 12 ∨ s = 13 ∨ s = 14 ∨ s = 15 := by omega
  all_goals
    subst h
    go_enter Tryz.func235, Tryz.ntmps235
    go_wp2
    go_ret
    exact ⟨rfl, rfl⟩

end Go.Proofs.YtdklaeppcjopoaaGreat
