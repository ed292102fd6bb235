/- Contracts and plain facts that the walks share, text by text: CcDc, RcBox. -/
import Derived.Test.YtkiockffejlnhaaGreatDoorG10
import Derived.Test.YtkiockffejlnhaaGreatDoorG3
/- What package cisc tells of any bytes is what the page says: plain. -/
namespace Go.Proofs.YtkiockffejlnhaaGreatDoor
set_option linter.unusedVariables false
namespace Cc
theorem codeOf {o : Int} (h : (row o).isEmpty = false) : o = 1 ∨ o = 3 ∨ o = 4 ∨ o = 5 ∨ o = 6 ∨ o = 7 ∨ o = 8 ∨ o = 10 ∨ o = 11 ∨ o = 12 ∨ o = 13 ∨ o = 14 ∨ o = 15 ∨ o = 16 ∨ o = 17 ∨ o = 18 ∨ o = 19 ∨ o = 22 ∨ o = 23 ∨ o = 24 ∨ o = 25 ∨ o = 26 ∨ o = 27 ∨ o = 28 ∨ o = 29 := codes (v := ⟨o, 0, 0, 0, 0, 0, 0, 0, 0⟩) h
theorem row_last {o : Int} (h : (row o).isEmpty = false) : iLast (rrow o) = true := by
  rcases codeOf h with rfl | rfl | rfl | rfl | rfl | rfl | rfl | rfl | rfl | rfl | rfl | rfl | rfl | rfl | rfl | rfl | rfl | rfl | rfl | rfl | rfl | rfl | rfl | rfl | rfl
  all_goals decide
theorem bk_all {N : Nat} {g : Nat → Int} {v : InV} {T : Nat} (hg : Mm.Fit g) (hN : 1 ≤ N) (hr : (row (g 0)).isEmpty = false) (h : cread N g = (v, (T : Int))) (hT : 0 < T) (hf : fitsB v = true) : Bk N g v T := by
  unfold cread at h
  have hc := codeOf hr
  generalize h0 : g 0 = o at *
  rcases hc with rfl | rfl | rfl | rfl | rfl | rfl | rfl | rfl | rfl | rfl | rfl | rfl | rfl | rfl | rfl | rfl | rfl | rfl | rfl | rfl | rfl | rfl | rfl | rfl | rfl
  · exact bk_1 hg h0 hN h hT hf
  · exact bk_3 hg h0 hN h hT hf
  · exact bk_4 hg h0 hN h hT hf
  · exact bk_5 hg h0 hN h hT hf
  · exact bk_6 hg h0 hN h hT hf
  · exact bk_7 hg h0 hN h hT hf
  · exact bk_8 hg h0 hN h hT hf
  · exact bk_10 hg h0 hN h hT hf
  · exact bk_11 hg h0 hN h hT hf
  · exact bk_12 hg h0 hN h hT hf
  · exact bk_13 hg h0 hN h hT hf
  · exact bk_14 hg h0 hN h hT hf
  · exact bk_15 hg h0 hN h hT hf
  · exact bk_16 hg h0 hN h hT hf
  · exact bk_17 hg h0 hN h hT hf
  · exact bk_18 hg h0 hN h hT hf
  · exact bk_19 hg h0 hN h hT hf
  · exact bk_22 hg h0 hN h hT hf
  · exact bk_23 hg h0 hN h hT hf
  · exact bk_24 hg h0 hN h hT hf
  · exact bk_25 hg h0 hN h hT hf
  · exact bk_26 hg h0 hN h hT hf
  · exact bk_27 hg h0 hN h hT hf
  · exact bk_28 hg h0 hN h hT hf
  · exact bk_29 hg h0 hN h hT hf
theorem kind4 {v : InV} (h : binB v = true) : (Wd.hasBinB v.sub v.k && tiesB v) = true := by
  unfold binB at h
  unfold tiesB divB
  rw [Bool.and_eq_true] at h ⊢
  refine ⟨h.1, ?_⟩
  have h2 := h.2
  unfold Wd.shB at h2 ⊢
  by_cases e : v.sub = 9 ∨ v.sub = 10
  · have e1 : (v.sub == 9 || v.sub == 10) = true := by simpa using e
    have e2 : (Wd.intB v.k && (v.sub == 4 || v.sub == 5)) = false := by
      rw [Bool.and_eq_false_iff]; right; simp; omega
    rw [e1] at h2
    rw [e1, e2]
    exact h2
  · have e1 : (v.sub == 9 || v.sub == 10) = false := by simp; omega
    rw [e1] at h2
    rw [e1]
    cases e2 : (Wd.intB v.k && (v.sub == 4 || v.sub == 5))
    · rfl
    · rw [e2] at h2; exact h2
theorem kind5 {s k n : Int} (h : immB s k n = true) : (Wd.hasBinB s k && !divB s k && fnB s k n) = true := by
  unfold immB at h
  unfold divB fnB
  simp only [Bool.and_eq_true, Bool.not_eq_true', Bool.and_eq_false_iff, Bool.or_eq_false_iff, beq_eq_false_iff_ne, bne_iff_ne] at h ⊢
  obtain ⟨⟨⟨⟨⟨h3, h1⟩, h4⟩, h5⟩, hs⟩, h6⟩ := h
  exact ⟨⟨h1, .inr ⟨h4, h5⟩⟩, h3, h6⟩
theorem kind6 {s k : Int} (h : (Wd.hasBinB s k && !Wd.shB s && (!Wd.intB k || (s != 4 && s != 5))) = true) : (Wd.hasBinB s k && !divB s k && !Wd.shB s) = true := by
  unfold divB
  revert h
  generalize Wd.hasBinB s k = x
  generalize Wd.shB s = y
  generalize Wd.intB k = z
  generalize e4 : (s == 4) = a
  generalize e5 : (s == 5) = b
  rw [bne, bne, e4, e5]
  cases x <;> cases y <;> cases z <;> cases a <;> cases b <;> decide
theorem kand' {x : Bool} {b : Int} (h : x = true) (h2 : b = 0) : (x && b == 0) = true := by rw [h, h2]; rfl
theorem kind10 {v : InV} (h : sclB v = true) : (decide (v.scale ≤ 8) && (decide (0 < v.scale) || v.c == 0)) = true := by
  unfold sclB at h
  simp only [Bool.and_eq_true, Bool.or_eq_true, decide_eq_true_eq, beq_iff_eq] at h ⊢
  omega
theorem kind12 {v : InV} (ho : v.op ≠ 10) (h : (sclB v && Wd.wordB v.k) = true) : (Wd.wordB v.k && decide (0 < v.scale) && decide (v.scale ≤ 8)) = true := by
  unfold sclB at h
  simp only [Bool.and_eq_true, Bool.or_eq_true, decide_eq_true_eq, beq_iff_eq] at h ⊢
  refine ⟨⟨h.2, ?_⟩, ?_⟩ <;> omega
theorem may_fits {v : InV} (h : mayB v = true) : fitsB v = true := by
  have r := rng h
  have hc := codes r.rw
  obtain ⟨op, a, b, c, k, sub, sc, imm, lb⟩ := v
  obtain ⟨_, hl, a1, a2, b1, b2, c1, c2, u0, u1, u2, u3, u4, u5, sm, kd⟩ := r
  dsimp only at *
  rcases hc with rfl | rfl | rfl | rfl | rfl | rfl | rfl | rfl | rfl | rfl | rfl | rfl | rfl | rfl | rfl | rfl | rfl | rfl | rfl | rfl | rfl | rfl | rfl | rfl | rfl
  · rfl
  · rfl
  · exact kind4 (v := ⟨4, a, b, c, k, sub, sc, imm, lb⟩) kd
  · exact kind5 kd
  · exact kind6 kd
  · exact kand' kd (u1.resolve_left (by decide))
  · exact kd
  · exact kind10 (v := ⟨10, a, b, c, k, sub, sc, imm, lb⟩) kd
  · exact kd
  · exact kind12 (v := ⟨12, a, b, c, k, sub, sc, imm, lb⟩) (by dsimp only; decide) kd
  · exact kd
  · exact kind12 (v := ⟨14, a, b, c, k, sub, sc, imm, lb⟩) (by dsimp only; decide) kd
  · exact kd
  · exact kd
  · have := kind5 (s := 2) kd
    simp only [Bool.and_eq_true] at this
    exact this.2
  · exact kand' kd (u1.resolve_left (by decide))
  · rfl
  · exact kd
  · rfl
  · rfl
  · exact kd
  · rfl
  · exact kand' (x := true) rfl (u1.resolve_left (by decide))
  · exact kand' (x := true) rfl (u1.resolve_left (by decide))
  · exact kd
theorem lset_imm {l : Int} {v : InV} {x y : Int} (h1 : -9223372036854775808 ≤ v.imm ∧ v.imm ≤ 9223372036854775807) (h2 : -9223372036854775808 ≤ y ∧ y ≤ 9223372036854775807) : -9223372036854775808 ≤ (lset l v x y).imm ∧ (lset l v x y).imm ≤ 9223372036854775807 := by
  unfold lset
  repeat' split
  all_goals first | exact h1 | exact h2
theorem rd_imm {N : Nat} {g : Nat → Int} (hg : Mm.Fit g) : ∀ (s : List Int) (v : InV) (z : Int) (p : Nat), -9223372036854775808 ≤ v.imm ∧ v.imm ≤ 9223372036854775807 → -9223372036854775808 ≤ (rdL N g s v z p).1.imm ∧ (rdL N g s v z p).1.imm ≤ 9223372036854775807 := by
  intro s
  induction s with
  | nil => intro v z p h; exact h
  | cons l s ih =>
    intro v z p h
    have hn := num_rng hg p (lcnt l z)
    unfold rdL
    split
    · exact h
    · split
      · exact lset_imm h hn
      · exact ih _ _ _ (lset_imm h hn)
theorem dec_c {N : Nat} {g : Nat → Int} {v : InV} {n : Int} (hg : Mm.Fit g) (h : dec N g = (v, n, 0)) : cread N g = (v, n) ∧ fitsB v = true := by
  obtain ⟨hm, hl, hp, hN, hr⟩ := dec_ok h
  have hi := rd_imm hg (N := N) (rrow (g 0)) ⟨g 0, 0, 0, 0, 0, 0, 0, 0, 0⟩ 0 1 (by dsimp only; decide)
  rw [show rdL N g (rrow (g 0)) ⟨g 0, 0, 0, 0, 0, 0, 0, 0, 0⟩ 0 1 = (v, n) from hr] at hi
  have hs := csays hm hi.1 hi.2 N g (by omega) hp
  have g0 : g 0 = v.op := (hp 0 (enc_pos v)).trans (enc_zero hm)
  refine ⟨?_, may_fits hm⟩
  unfold cread
  rw [g0, hs, hl]
theorem cdec_eq {N : Nat} {g : Nat → Int} (hg : Mm.Fit g) : cdec N g = dec N g := by
  by_cases h0 : N = 0
  · unfold cdec dec; rw [if_pos h0, if_pos h0]
  cases hr : (row (g 0)).isEmpty
  case true => unfold cdec dec; rw [if_neg h0, if_neg h0, hr]; rfl
  have hA := crd_alike (N := N) (g := g) (rrow (g 0)) ⟨g 0, 0, 0, 0, 0, 0, 0, 0, 0⟩ ⟨g 0, 0, 0, 0, 0, 0, 0, 0, 0⟩ 0 1 (row_last hr) ⟨rfl, rfl, rfl, rfl, rfl, rfl, rfl, rfl, .inl rfl⟩ (by decide)
  have hA : ((cread N g).2 = (read N g).2 ∧ (0 < (read N g).2 → Alike (cread N g).1 (read N g).1)) ∨ ((cread N g).2 = -1 ∧ (read N g).2 ≠ 0) := hA
  by_cases hd : (dec N g).2.2 = 0
  · obtain ⟨hc, hf⟩ := dec_c hg (v := (dec N g).1) (n := (dec N g).2.1) (by rw [← hd])
    obtain ⟨hm, hl, hp, hN, hrd⟩ := dec_ok (v := (dec N g).1) (n := (dec N g).2.1) (by rw [← hd])
    have hpos := enc_pos (dec N g).1
    generalize hD : dec N g = D at *
    unfold cdec
    rw [if_neg h0, hr, if_neg (by decide), hc]
    dsimp only
    rw [if_neg (by omega), if_neg (by rw [hf]; rintro (e | e); · omega
                                      · cases e), ← hd]
  · have hcn : ∀ T : Nat, 0 < T → (cread N g).2 = T → fitsB (cread N g).1 = false := by
      intro T hT hc
      cases hf : fitsB (cread N g).1
      · rfl
      · exfalso
        have hb := bk_all hg (by omega) hr (show cread N g = ((cread N g).1, (T : Int)) by rw [← hc]) hT hf
        obtain ⟨hm, hl, hp, hTN, i1, i2⟩ := hb
        have := dec_enc (N := N) (g := g) hm i1 i2 (by omega) hp
        exact hd (by rw [this])
    have hdd : dec N g = if (read N g).2 = 0 then (zero, 0, 41) else (zero, 0, 40) := by
      unfold dec at hd ⊢
      rw [if_neg h0, hr, if_neg (by decide)] at hd ⊢
      split
      · rfl
      · rename_i h1
        rw [if_neg h1] at hd
        split
        · rfl
        · rename_i h2
          rw [if_neg h2] at hd
          exact absurd rfl hd
    rw [hdd]
    unfold cdec
    rw [if_neg h0, hr, if_neg (by decide)]
    rcases hA with ⟨h1, _⟩ | ⟨h1, h2⟩
    · rw [h1]
      by_cases h3 : (read N g).2 = 0
      · rw [if_pos h3, if_pos h3]
      · rw [if_neg h3, if_neg h3, if_pos]
        by_cases h4 : (read N g).2 < 0
        · exact .inl h4
        · right
          obtain ⟨T, hT⟩ := Int.eq_ofNat_of_zero_le (show 0 ≤ (read N g).2 by omega)
          exact hcn T (by omega) (h1.trans hT)
    · rw [h1, if_neg (by decide), if_pos (.inl (by decide)), if_neg h2]
end Cc
end Go.Proofs.YtkiockffejlnhaaGreatDoor

/- An instruction in a block of its own, stored field by field. -/
namespace Go.Proofs.YtkiockffejlnhaaGreatDoor
open Go.RowKit
set_option linter.unusedVariables false
theorem InstAt.set1 {W : World} {B : Nat} {v : InV} (h : InstAt W B v) (x : Int) : InstAt (W.setCell ⟨B, 1, none⟩ (.int .i64 x)) B { v with a := x } :=
  ⟨(World.cell?_setCell_other _ _ _ _ (by simp)).trans h.c0, World.cell?_setCell_same _ _ _ h.c1, (World.cell?_setCell_other _ _ _ _ (by simp)).trans h.c2, (World.cell?_setCell_other _ _ _ _ (by simp)).trans h.c3, (World.cell?_setCell_other _ _ _ _ (by simp)).trans h.c4, (World.cell?_setCell_other _ _ _ _ (by simp)).trans h.c5, (World.cell?_setCell_other _ _ _ _ (by simp)).trans h.c6, (World.cell?_setCell_other _ _ _ _ (by simp)).trans h.c7, (World.cell?_setCell_other _ _ _ _ (by simp)).trans h.c8, fun j => (World.frozen?_setCell _ _ _ _).trans (h.fz j)⟩
theorem InstAt.set2 {W : World} {B : Nat} {v : InV} (h : InstAt W B v) (x : Int) : InstAt (W.setCell ⟨B, 2, none⟩ (.int .i64 x)) B { v with b := x } :=
  ⟨(World.cell?_setCell_other _ _ _ _ (by simp)).trans h.c0, (World.cell?_setCell_other _ _ _ _ (by simp)).trans h.c1, World.cell?_setCell_same _ _ _ h.c2, (World.cell?_setCell_other _ _ _ _ (by simp)).trans h.c3, (World.cell?_setCell_other _ _ _ _ (by simp)).trans h.c4, (World.cell?_setCell_other _ _ _ _ (by simp)).trans h.c5, (World.cell?_setCell_other _ _ _ _ (by simp)).trans h.c6, (World.cell?_setCell_other _ _ _ _ (by simp)).trans h.c7, (World.cell?_setCell_other _ _ _ _ (by simp)).trans h.c8, fun j => (World.frozen?_setCell _ _ _ _).trans (h.fz j)⟩
theorem InstAt.set6 {W : World} {B : Nat} {v : InV} (h : InstAt W B v) (x : Int) : InstAt (W.setCell ⟨B, 6, none⟩ (.int .i64 x)) B { v with scale := x } :=
  ⟨(World.cell?_setCell_other _ _ _ _ (by simp)).trans h.c0, (World.cell?_setCell_other _ _ _ _ (by simp)).trans h.c1, (World.cell?_setCell_other _ _ _ _ (by simp)).trans h.c2, (World.cell?_setCell_other _ _ _ _ (by simp)).trans h.c3, (World.cell?_setCell_other _ _ _ _ (by simp)).trans h.c4, (World.cell?_setCell_other _ _ _ _ (by simp)).trans h.c5, World.cell?_setCell_same _ _ _ h.c6, (World.cell?_setCell_other _ _ _ _ (by simp)).trans h.c7, (World.cell?_setCell_other _ _ _ _ (by simp)).trans h.c8, fun j => (World.frozen?_setCell _ _ _ _).trans (h.fz j)⟩
theorem InstAt.set0 {W : World} {B : Nat} {v : InV} (h : InstAt W B v) (x : Int) : InstAt (W.setCell ⟨B, 0, none⟩ (.int .i64 x)) B { v with op := x } :=
  ⟨World.cell?_setCell_same _ _ _ h.c0, (World.cell?_setCell_other _ _ _ _ (by simp)).trans h.c1, (World.cell?_setCell_other _ _ _ _ (by simp)).trans h.c2, (World.cell?_setCell_other _ _ _ _ (by simp)).trans h.c3, (World.cell?_setCell_other _ _ _ _ (by simp)).trans h.c4, (World.cell?_setCell_other _ _ _ _ (by simp)).trans h.c5, (World.cell?_setCell_other _ _ _ _ (by simp)).trans h.c6, (World.cell?_setCell_other _ _ _ _ (by simp)).trans h.c7, (World.cell?_setCell_other _ _ _ _ (by simp)).trans h.c8, fun j => (World.frozen?_setCell _ _ _ _).trans (h.fz j)⟩
theorem InstAt.set8 {W : World} {B : Nat} {v : InV} (h : InstAt W B v) (x : Int) : InstAt (W.setCell ⟨B, 8, none⟩ (.int .i64 x)) B { v with label := x } :=
  ⟨(World.cell?_setCell_other _ _ _ _ (by simp)).trans h.c0, (World.cell?_setCell_other _ _ _ _ (by simp)).trans h.c1, (World.cell?_setCell_other _ _ _ _ (by simp)).trans h.c2, (World.cell?_setCell_other _ _ _ _ (by simp)).trans h.c3, (World.cell?_setCell_other _ _ _ _ (by simp)).trans h.c4, (World.cell?_setCell_other _ _ _ _ (by simp)).trans h.c5, (World.cell?_setCell_other _ _ _ _ (by simp)).trans h.c6, (World.cell?_setCell_other _ _ _ _ (by simp)).trans h.c7, World.cell?_setCell_same _ _ _ h.c8, fun j => (World.frozen?_setCell _ _ _ _).trans (h.fz j)⟩
def put9 (W : World) (R : Nat) (v : InV) : World :=
  ((((((((W.setCell ⟨R, 0, none⟩ (.int .i64 v.op)).setCell ⟨R, 1, none⟩ (.int .i64 v.a)).setCell ⟨R, 2, none⟩ (.int .i64 v.b)).setCell ⟨R, 3, none⟩ (.int .i64 v.c)).setCell ⟨R, 4, none⟩ (.int .i64 v.k)).setCell ⟨R, 5, none⟩ (.int .i64 v.sub)).setCell ⟨R, 6, none⟩ (.int .i64 v.scale)).setCell ⟨R, 7, none⟩ (.int .i64 v.imm)).setCell ⟨R, 8, none⟩ (.int .i64 v.label)
theorem InstAt.put9 {W : World} {R : Nat} {v0 : InV} (h : InstAt W R v0) (v : InV) : InstAt (put9 W R v) R v :=
  ((((((((h.set0 v.op).set1 v.a).set2 v.b).set3 v.c).set4 v.k).set5 v.sub).set6 v.scale).set7 v.imm).set8 v.label
theorem grown_put9 (W : World) (R : Nat) (v : InV) : W.grownBy (put9 W R v) (some R) :=
  grown_trans (grown_trans (grown_trans (grown_trans (grown_trans (grown_trans (grown_trans (grown_trans (grown_setCell _ _ _ _) (grown_setCell _ _ _ _)) (grown_setCell _ _ _ _)) (grown_setCell _ _ _ _)) (grown_setCell _ _ _ _)) (grown_setCell _ _ _ _)) (grown_setCell _ _ _ _)) (grown_setCell _ _ _ _)) (grown_setCell _ _ _ _)
end Go.Proofs.YtkiockffejlnhaaGreatDoor
