/- Contracts and plain facts that the walks share, text by text: RcI, RcJ, RcK, RuI, RuPure, RuOk, RuTail, RuPr, RuPl, RuPm, RuPn, RuW, RuPc, RuPd, RuBox. -/
import Derived.Test.YtdklaeppcjopoaaGreatDoorRcB
import Derived.Test.YtdklaeppcjopoaaGreatDoorRcC
import Derived.Test.YtdklaeppcjopoaaGreatDoorG2
import Derived.Test.YtdklaeppcjopoaaGreatDoorG1
import Derived.Test.YtdklaeppcjopoaaGreatDoorG5
import Derived.Test.YtdklaeppcjopoaaGreatDoorG6
import Derived.Test.YtdklaeppcjopoaaGreatDoorG4
import Derived.Deep.Onto
import Derived.Deep.RegionWith
/- risc.agree, Encode, Decode: contracts. -/
namespace Go.Proofs.YtdklaeppcjopoaaGreatDoor
open Go.RowKit
set_option linter.unusedVariables false

namespace Rc
def E1 (v : InV) (f : FmV) : Prop := (pk v).code = f.code ∧ (pk v).a = f.a ∧ (pk v).b = f.b ∧ (pk v).c = f.c ∧ (pk v).n = f.n
def E2 (v : InV) (f : FmV) : Prop := (unpk f).op = v.op ∧ (unpk f).a = v.a ∧ (unpk f).b = v.b ∧ (unpk f).c = v.c ∧ (unpk f).k = v.k ∧ (unpk f).sub = v.sub ∧ (unpk f).scale = v.scale ∧ (unpk f).imm = v.imm ∧ (unpk f).label = v.label
def Ag (v : InV) (f : FmV) : Prop := E1 v f ∧ E2 v f ∧ smallB f.n = true ∧ fitB v = true
end Rc

set_option maxHeartbeats 8000000 in
theorem agree_any (v : InV) (f : FmV) (w : World) (h1 : -9223372036854775808 ≤ f.n) (h2 : f.n ≤ 9223372036854775807) (ag : Bool) (hag : ag = true ↔ Rc.Ag v f) :
    Calls Tryz.prog 40 #[inst v, formv f] w fun e w' => e = .returned (.bool ag) ∧ w.grownBy w' none := by
  have HA : Hid (ag = true ↔ Rc.Ag v f) := hag
  clear hag
  unfold inst formv
  go_enter Tryz.func40, Tryz.ntmps40
  go_wp2_with fail
  obtain ⟨W0, hW0⟩ : ∃ W0, W0 = (w.alloc (Obj.cells #[.int .i64 v.op, .int .i64 v.a, .int .i64 v.b, .int .i64 v.c, .int .i64 v.k, .int .i64 v.sub, .int .i64 v.scale, .int .i64 v.imm, .int .i64 v.label] 34)).alloc (Obj.cells #[.int .i64 f.code, .int .i64 f.a, .int .i64 f.b, .int .i64 f.c, .int .i64 f.n] 93) := ⟨_, rfl⟩
  have i0 : ∀ x : Gw W0, x.w.cell? ⟨w.heap.size, 0, none⟩ = some (.int .i64 v.op) := fun x => x.h.cell (by rw [hW0]; simp) (by simp)
  have i1 : ∀ x : Gw W0, x.w.cell? ⟨w.heap.size, 1, none⟩ = some (.int .i64 v.a) := fun x => x.h.cell (by rw [hW0]; simp) (by simp)
  have i2 : ∀ x : Gw W0, x.w.cell? ⟨w.heap.size, 2, none⟩ = some (.int .i64 v.b) := fun x => x.h.cell (by rw [hW0]; simp) (by simp)
  have i3 : ∀ x : Gw W0, x.w.cell? ⟨w.heap.size, 3, none⟩ = some (.int .i64 v.c) := fun x => x.h.cell (by rw [hW0]; simp) (by simp)
  have i4 : ∀ x : Gw W0, x.w.cell? ⟨w.heap.size, 4, none⟩ = some (.int .i64 v.k) := fun x => x.h.cell (by rw [hW0]; simp) (by simp)
  have i5 : ∀ x : Gw W0, x.w.cell? ⟨w.heap.size, 5, none⟩ = some (.int .i64 v.sub) := fun x => x.h.cell (by rw [hW0]; simp) (by simp)
  have i6 : ∀ x : Gw W0, x.w.cell? ⟨w.heap.size, 6, none⟩ = some (.int .i64 v.scale) := fun x => x.h.cell (by rw [hW0]; simp) (by simp)
  have i7 : ∀ x : Gw W0, x.w.cell? ⟨w.heap.size, 7, none⟩ = some (.int .i64 v.imm) := fun x => x.h.cell (by rw [hW0]; simp) (by simp)
  have i8 : ∀ x : Gw W0, x.w.cell? ⟨w.heap.size, 8, none⟩ = some (.int .i64 v.label) := fun x => x.h.cell (by rw [hW0]; simp) (by simp)
  have j0 : ∀ x : Gw W0, x.w.cell? ⟨w.heap.size + 1, 0, none⟩ = some (.int .i64 f.code) := fun x => x.h.cell (by rw [hW0]; simp) (by simp)
  have j1 : ∀ x : Gw W0, x.w.cell? ⟨w.heap.size + 1, 1, none⟩ = some (.int .i64 f.a) := fun x => x.h.cell (by rw [hW0]; simp) (by simp)
  have j2 : ∀ x : Gw W0, x.w.cell? ⟨w.heap.size + 1, 2, none⟩ = some (.int .i64 f.b) := fun x => x.h.cell (by rw [hW0]; simp) (by simp)
  have j3 : ∀ x : Gw W0, x.w.cell? ⟨w.heap.size + 1, 3, none⟩ = some (.int .i64 f.c) := fun x => x.h.cell (by rw [hW0]; simp) (by simp)
  have j4 : ∀ x : Gw W0, x.w.cell? ⟨w.heap.size + 1, 4, none⟩ = some (.int .i64 f.n) := fun x => x.h.cell (by rw [hW0]; simp) (by simp)
  have HG : Hid (w.grownBy W0 none) := by rw [hW0]; exact grown_alloc2 _ _ _
  rw [← hW0]
  clear hW0
  have ne : Nonempty (Gw W0) := ⟨⟨W0, World.grownBy.refl _ _⟩⟩
  have hite : ∀ (p q : Prop) [Decidable p] [Decidable q] (x y : Result Next), (if p then if q then x else y else y) = if p ∧ q then x else y := fun p q _ _ x y => by by_cases hp : p <;> by_cases hq : q <;> simp [hp, hq]
  refine region_grown (by kernel_rfl) (by kernel_rfl) ?_
  by_cases c1 : Rc.E1 v f
  · have d1 := _root_.eq_true c1
    unfold Rc.E1 at d1
    by_cases c2 : Rc.E2 v f
    · have d2 := _root_.eq_true c2
      unfold Rc.E2 at d2
      cases c3 : Rc.smallB f.n
      · have HF : Hid (ag = false) := by
          show _ = _
          cases e : ag
          · rfl
          · exact absurd (HA.out.1 e).2.2.1 (by rw [c3]; decide)
        repeat (go_big_quiet_step ((first
          | (go_at_call 39; exact Gw.call (v := .agg #[.int .i64 (Rc.pk v).code, .int .i64 (Rc.pk v).a, .int .i64 (Rc.pk v).b, .int .i64 (Rc.pk v).c, .int .i64 (Rc.pk v).n]) (pack_any v _))
          | (go_at_call 55; exact Gw.call (v := .agg #[.int .i64 (Rc.unpk f).op, .int .i64 (Rc.unpk f).a, .int .i64 (Rc.unpk f).b, .int .i64 (Rc.unpk f).c, .int .i64 (Rc.unpk f).k, .int .i64 (Rc.unpk f).sub, .int .i64 (Rc.unpk f).scale, .int .i64 (Rc.unpk f).imm, .int .i64 (Rc.unpk f).label]) (unpack_any f _ h1 h2))
          | (go_at_call 56; exact Gw.call (v := .bool (Rc.smallB f.n)) (ffits_any _ _ _ _ _ _))
          | (go_at_call 57; exact Gw.call (v := .bool (Rc.fitB v)) (fits_any v _)))))
        refine wpQuiet_nil ?_
        rintro _ ⟨x, rfl⟩
        go_wp2
        go_ret
        exact ⟨ret_bool HF.out.symm, grown_trans HG.out x.h⟩
      · cases c4 : Rc.fitB v
        · have HF : Hid (ag = false) := by
            show _ = _
            cases e : ag
            · rfl
            · exact absurd (HA.out.1 e).2.2.2 (by rw [c4]; decide)
          repeat (go_big_quiet_step ((first
            | (go_at_call 39; exact Gw.call (v := .agg #[.int .i64 (Rc.pk v).code, .int .i64 (Rc.pk v).a, .int .i64 (Rc.pk v).b, .int .i64 (Rc.pk v).c, .int .i64 (Rc.pk v).n]) (pack_any v _))
            | (go_at_call 55; exact Gw.call (v := .agg #[.int .i64 (Rc.unpk f).op, .int .i64 (Rc.unpk f).a, .int .i64 (Rc.unpk f).b, .int .i64 (Rc.unpk f).c, .int .i64 (Rc.unpk f).k, .int .i64 (Rc.unpk f).sub, .int .i64 (Rc.unpk f).scale, .int .i64 (Rc.unpk f).imm, .int .i64 (Rc.unpk f).label]) (unpack_any f _ h1 h2))
            | (go_at_call 56; exact Gw.call (v := .bool (Rc.smallB f.n)) (ffits_any _ _ _ _ _ _))
            | (go_at_call 57; exact Gw.call (v := .bool (Rc.fitB v)) (fits_any v _)))))
          refine wpQuiet_nil ?_
          rintro _ ⟨x, rfl⟩
          go_wp2
          go_ret
          exact ⟨ret_bool HF.out.symm, grown_trans HG.out x.h⟩
        · have HF : Hid (ag = true) := HA.out.2 ⟨c1, c2, c3, c4⟩
          repeat (go_big_quiet_step ((first
            | (go_at_call 39; exact Gw.call (v := .agg #[.int .i64 (Rc.pk v).code, .int .i64 (Rc.pk v).a, .int .i64 (Rc.pk v).b, .int .i64 (Rc.pk v).c, .int .i64 (Rc.pk v).n]) (pack_any v _))
            | (go_at_call 55; exact Gw.call (v := .agg #[.int .i64 (Rc.unpk f).op, .int .i64 (Rc.unpk f).a, .int .i64 (Rc.unpk f).b, .int .i64 (Rc.unpk f).c, .int .i64 (Rc.unpk f).k, .int .i64 (Rc.unpk f).sub, .int .i64 (Rc.unpk f).scale, .int .i64 (Rc.unpk f).imm, .int .i64 (Rc.unpk f).label]) (unpack_any f _ h1 h2))
            | (go_at_call 56; exact Gw.call (v := .bool (Rc.smallB f.n)) (ffits_any _ _ _ _ _ _))
            | (go_at_call 57; exact Gw.call (v := .bool (Rc.fitB v)) (fits_any v _)))))
          refine wpQuiet_nil ?_
          rintro _ ⟨x, rfl⟩
          go_wp2
          go_ret
          exact ⟨ret_bool HF.out.symm, grown_trans HG.out x.h⟩
    · have d2 := _root_.eq_false c2
      unfold Rc.E2 at d2
      have HF : Hid (ag = false) := by
        show _ = _
        cases e : ag
        · rfl
        · exact absurd (HA.out.1 e).2.1 c2
      repeat (go_big_quiet_step ((first
        | (go_at_call 39; exact Gw.call (v := .agg #[.int .i64 (Rc.pk v).code, .int .i64 (Rc.pk v).a, .int .i64 (Rc.pk v).b, .int .i64 (Rc.pk v).c, .int .i64 (Rc.pk v).n]) (pack_any v _))
        | (go_at_call 55; exact Gw.call (v := .agg #[.int .i64 (Rc.unpk f).op, .int .i64 (Rc.unpk f).a, .int .i64 (Rc.unpk f).b, .int .i64 (Rc.unpk f).c, .int .i64 (Rc.unpk f).k, .int .i64 (Rc.unpk f).sub, .int .i64 (Rc.unpk f).scale, .int .i64 (Rc.unpk f).imm, .int .i64 (Rc.unpk f).label]) (unpack_any f _ h1 h2))
        | (go_at_call 56; exact Gw.call (v := .bool (Rc.smallB f.n)) (ffits_any _ _ _ _ _ _))
        | (go_at_call 57; exact Gw.call (v := .bool (Rc.fitB v)) (fits_any v _)))))
      refine wpQuiet_nil ?_
      rintro _ ⟨x, rfl⟩
      go_wp2
      go_ret
      exact ⟨ret_bool HF.out.symm, grown_trans HG.out x.h⟩
  · have d1 := _root_.eq_false c1
    unfold Rc.E1 at d1
    have HF : Hid (ag = false) := by
      show _ = _
      cases e : ag
      · rfl
      · exact absurd (HA.out.1 e).1 c1
    repeat (go_big_quiet_step ((first
      | (go_at_call 39; exact Gw.call (v := .agg #[.int .i64 (Rc.pk v).code, .int .i64 (Rc.pk v).a, .int .i64 (Rc.pk v).b, .int .i64 (Rc.pk v).c, .int .i64 (Rc.pk v).n]) (pack_any v _))
      | (go_at_call 55; exact Gw.call (v := .agg #[.int .i64 (Rc.unpk f).op, .int .i64 (Rc.unpk f).a, .int .i64 (Rc.unpk f).b, .int .i64 (Rc.unpk f).c, .int .i64 (Rc.unpk f).k, .int .i64 (Rc.unpk f).sub, .int .i64 (Rc.unpk f).scale, .int .i64 (Rc.unpk f).imm, .int .i64 (Rc.unpk f).label]) (unpack_any f _ h1 h2))
      | (go_at_call 56; exact Gw.call (v := .bool (Rc.smallB f.n)) (ffits_any _ _ _ _ _ _))
      | (go_at_call 57; exact Gw.call (v := .bool (Rc.fitB v)) (fits_any v _)))))
    refine wpQuiet_nil ?_
    rintro _ ⟨x, rfl⟩
    go_wp2
    go_ret
    exact ⟨ret_bool HF.out.symm, grown_trans HG.out x.h⟩

end Go.Proofs.YtdklaeppcjopoaaGreatDoor

/- What risc's forms say of instructions: plain. -/
namespace Go.Proofs.YtdklaeppcjopoaaGreatDoor
open Go.RowKit
set_option linter.unusedVariables false

namespace Rc
theorem may_of {v : InV} (h0 : (fld v.op).data.isEmpty = false) (r : Rng v) : mayB v = true := by
  unfold mayB regB smallB
  simp only [Bool.and_eq_true, Bool.or_eq_true, beq_iff_eq, decide_eq_true_eq]
  exact ⟨⟨⟨⟨⟨⟨⟨⟨⟨⟨⟨⟨⟨by rw [h0]; rfl, r.sc⟩, r.lb⟩, r.a1, r.a2⟩, r.b1, r.b2⟩, r.c1, r.c2⟩, r.i1, r.i2⟩, r.u0⟩, r.u1⟩, r.u2⟩, r.u3⟩, r.u4⟩, r.u5⟩, r.kd⟩

/-- an instruction's form -/
theorem pk_may {v : InV} (h : mayB v = true) : pk v = ⟨v.op, v.a, v.b, cc v, nn v⟩ := by
  have r := rng h
  have hc := codes v h
  obtain ⟨op, a, b, c, k, sub, sc, imm, lb⟩ := v
  obtain ⟨h1, h2, a1, a2, b1, b2, c1, c2, i1, i2, u0, u1, u2, u3, u4, u5, kd⟩ := r
  dsimp only at *
  rcases hc with rfl | rfl | rfl | rfl | rfl | rfl | rfl | rfl | rfl | rfl | rfl | rfl | rfl | rfl | rfl | rfl | rfl | rfl | rfl | rfl
  all_goals try (replace u0 := u0.resolve_left (by decide); subst u0)
  all_goals try (replace u1 := u1.resolve_left (by decide); subst u1)
  all_goals try (replace u2 := u2.resolve_left (by decide); subst u2)
  all_goals try (replace u5 := u5.resolve_left (by decide); subst u5)
  all_goals try (replace kd := bin_rng (show Wd.hasBinB sub k = true from kd))
  all_goals try (replace kd := un_rng (show Wd.hasUnB sub k = true from kd))
  all_goals try (replace kd := conv_rng (show (Wd.numB sub && Wd.numB k) = true from kd))
  all_goals
    unfold pk cc nn
    simp only [Int.reduceEq, or_self, or_false, or_true, if_true, if_false, FmV.mk.injEq, true_and]
    try (unfold wrap64; omega)

theorem unpk_pk {v : InV} (h : mayB v = true) : unpk (pk v) = v := by
  rw [pk_may h]
  have r := rng h
  have hc := codes v h
  obtain ⟨op, a, b, c, k, sub, sc, imm, lb⟩ := v
  obtain ⟨h1, h2, a1, a2, b1, b2, c1, c2, i1, i2, u0, u1, u2, u3, u4, u5, kd⟩ := r
  dsimp only at *
  subst h1 h2
  rcases hc with rfl | rfl | rfl | rfl | rfl | rfl | rfl | rfl | rfl | rfl | rfl | rfl | rfl | rfl | rfl | rfl | rfl | rfl | rfl | rfl
  all_goals try (replace u0 := u0.resolve_left (by decide))
  all_goals try (replace u1 := u1.resolve_left (by decide))
  all_goals try (replace u2 := u2.resolve_left (by decide))
  all_goals try (replace u3 := u3.resolve_left (by decide))
  all_goals try (replace u4 := u4.resolve_left (by decide))
  all_goals try (replace u5 := u5.resolve_left (by decide))
  all_goals try (replace kd := bin_rng (show Wd.hasBinB sub k = true from kd))
  all_goals try (replace kd := un_rng (show Wd.hasUnB sub k = true from kd))
  all_goals try (replace kd := conv_rng (show (Wd.numB sub && Wd.numB k) = true from kd))
  all_goals
    unfold unpk cc nn
    simp only [Int.reduceEq, or_self, or_false, or_true, if_true, if_false, InV.mk.injEq, true_and, and_true]
    try omega

theorem E2_of {v : InV} {f : FmV} (h : unpk f = v) : E2 v f := by
  subst h; exact ⟨rfl, rfl, rfl, rfl, rfl, rfl, rfl, rfl, rfl⟩
theorem E1_of {v : InV} {f : FmV} (h : pk v = f) : E1 v f := by
  subst h; exact ⟨rfl, rfl, rfl, rfl, rfl⟩
theorem of_E1 {v : InV} {f : FmV} (h : E1 v f) : pk v = f := by
  unfold E1 at h
  generalize pk v = p at h
  obtain ⟨_, _, _, _, _⟩ := p
  obtain ⟨_, _, _, _, _⟩ := f
  obtain ⟨rfl, rfl, rfl, rfl, rfl⟩ := h
  rfl
theorem of_E2 {v : InV} {f : FmV} (h : E2 v f) : unpk f = v := by
  unfold E2 at h
  generalize unpk f = p at h
  obtain ⟨_, _, _, _, _, _, _, _, _⟩ := p
  obtain ⟨_, _, _, _, _, _, _, _, _⟩ := v
  obtain ⟨rfl, rfl, rfl, rfl, rfl, rfl, rfl, rfl, rfl⟩ := h
  rfl

theorem ag_of {v : InV} (h : mayB v = true) : Ag v (pk v) := by
  refine ⟨E1_of rfl, E2_of (unpk_pk h), ?_, ?_⟩
  · rw [pk_may h]
    have r := rng h
    have hc := codes v h
    have hk := r.kd
    unfold smallB nn
    dsimp only
    rw [Bool.and_eq_true, decide_eq_true_eq, decide_eq_true_eq]
    have := r.i1
    have := r.i2
    split
    · rename_i ho
      rcases ho with ho | ho | ho
      · unfold kindB at hk; rw [if_pos ho] at hk; have := bin_rng hk; omega
      · unfold kindB at hk; rw [if_neg (by omega), if_pos ho] at hk; have := un_rng hk; omega
      · unfold kindB at hk; rw [if_neg (by omega), if_neg (by omega), if_pos ho] at hk; have := conv_rng hk; omega
    · omega
  · have r := rng h
    have hc := codes v h
    unfold fitB regB
    simp only [Bool.and_eq_true, Bool.not_eq_true', beq_eq_false_iff_ne, ne_eq, decide_eq_true_eq]
    exact ⟨⟨⟨⟨by omega, r.a1, r.a2⟩, r.b1, r.b2⟩, r.c1, r.c2⟩, r.kd⟩

theorem of_ag {v : InV} (h : Ag v (pk v)) : mayB v = true := by
  obtain ⟨-, h2, h3, h4⟩ := h
  have e := of_E2 h2
  obtain ⟨op, a, b, c, k, sub, sc, imm, lb⟩ := v
  unfold fitB regB at h4
  simp only [Bool.and_eq_true, Bool.not_eq_true', beq_eq_false_iff_ne, ne_eq, decide_eq_true_eq] at h4
  obtain ⟨⟨⟨⟨p0, p1, p2⟩, p3, p4⟩, p5, p6⟩, kd⟩ := h4
  unfold smallB at h3
  rw [Bool.and_eq_true, decide_eq_true_eq, decide_eq_true_eq] at h3
  clear h2
  rcases ops op with rfl | rfl | rfl | rfl | rfl | rfl | rfl | rfl | rfl | rfl | rfl | rfl | rfl | rfl | rfl | rfl | rfl | rfl | rfl | rfl | hn
  case inr.inr.inr.inr.inr.inr.inr.inr.inr.inr.inr.inr.inr.inr.inr.inr.inr.inr.inr.inr =>
    exfalso
    simp only [beq_eq_false_iff_ne, ne_eq] at hn
    have : pk ⟨op, a, b, c, k, sub, sc, imm, lb⟩ = ⟨0, 0, 0, 0, 0⟩ := by
      unfold pk
      simp only [hn, or_self, if_false]
    rw [this] at e
    injection e with e0
    exact p0 e0.symm
  all_goals
    unfold pk at e h3
    simp only [Int.reduceEq, or_self, or_false, or_true, if_true, if_false] at e h3
    unfold unpk at e
    simp only [Int.reduceEq, or_self, or_false, or_true, if_true, if_false, InV.mk.injEq, true_and] at e
    refine may_of (by dsimp only; decide) ⟨?_, ?_, p1, p2, p3, p4, p5, p6, ?_, ?_, ?_, ?_, ?_, ?_, ?_, ?_, kd⟩
    all_goals first | exact .inl (by dsimp only; decide) | (dsimp only; omega) | (right; dsimp only; omega)

theorem ag_may (v : InV) : mayB v = true ↔ Ag v (pk v) := ⟨ag_of, of_ag⟩

theorem pk_rng {v : InV} (h1 : -9223372036854775808 ≤ v.imm) (h2 : v.imm ≤ 9223372036854775807) : -9223372036854775808 ≤ (pk v).n ∧ (pk v).n ≤ 9223372036854775807 := by
  have hw : ∀ x, -9223372036854775808 ≤ wrap64 x ∧ wrap64 x ≤ 9223372036854775807 := fun x => by unfold wrap64; omega
  have := hw (v.k + 256 * v.sub)
  unfold pk
  repeat' split
  all_goals (dsimp only; omega)

theorem fb_enc {v : InV} (h : mayB v = true) (i : Nat) (hi : i < 8) : fb (pk v) i = enc v i := by
  rw [pk_may h]
  unfold fb enc
  dsimp only
  repeat' split
  all_goals first | rfl | (rw [show (4294967296 : Int) = 256 ^ 4 from rfl, Mm.by8_mod _ _ 4 (by omega)])

/-- bytes that are a form's are the form's bytes -/
theorem fb_fo {g : Nat → Int} (hg : Mm.Fit g) (i : Nat) (hi : i < 8) : fb (fo g) i = g i := by
  have r := Mm.ld_rng hg 4 4
  have hgi := hg i
  unfold fb fo
  dsimp only
  by_cases h0 : i = 0
  · rw [if_pos h0]; subst h0; omega
  by_cases h1 : i = 1
  · rw [if_neg h0, if_pos h1]; subst h1; omega
  by_cases h2 : i = 2
  · rw [if_neg h0, if_neg h1, if_pos h2]; subst h2; omega
  by_cases h3 : i = 3
  · rw [if_neg h0, if_neg h1, if_neg h2, if_pos h3]; subst h3; omega
  rw [if_neg h0, if_neg h1, if_neg h2, if_neg h3, ← Mm.by8_mod _ _ 4 (by omega)]
  have e : s32 (Mm.ld g 4 4) % 256 ^ 4 = Mm.ld g 4 4 := by
    have : (256 : Int) ^ 4 = 4294967296 := rfl
    unfold s32; omega
  rw [e]
  have h4 := hg 4
  have h5 := hg 5
  have h6 := hg 6
  have h7 := hg 7
  have el : Mm.ld g 4 4 = g 4 + g 5 * 256 + g 6 * 65536 + g 7 * 16777216 := by
    show 0 + g 4 * 1 + g 5 * 256 + g 6 * 65536 + g 7 * 16777216 = _
    omega
  rw [el]
  have : i = 4 ∨ i = 5 ∨ i = 6 ∨ i = 7 := by omega
  rcases this with rfl | rfl | rfl | rfl
  · show (g 4 + g 5 * 256 + g 6 * 65536 + g 7 * 16777216) / 1 % 256 = g 4; omega
  · show (g 4 + g 5 * 256 + g 6 * 65536 + g 7 * 16777216) / 256 % 256 = g 5; omega
  · show (g 4 + g 5 * 256 + g 6 * 65536 + g 7 * 16777216) / 65536 % 256 = g 6; omega
  · show (g 4 + g 5 * 256 + g 6 * 65536 + g 7 * 16777216) / 16777216 % 256 = g 7; omega

theorem pk_rd {g : Nat → Int} (h : okB g = true) : pk (rd g) = fo g := by
  have hm : mayB (rd g) = true := by unfold okB at h; rw [Bool.and_eq_true] at h; exact h.2
  rw [pk_may hm]
  unfold fo
  by_cases hA : g 0 = 4 ∨ g 0 = 7 ∨ g 0 = 8
  · rw [rd_1 hA]
    unfold cc nn
    dsimp only
    rw [if_neg (by omega), if_pos hA]
    congr 1
    omega
  · by_cases hB : g 0 = 11 ∨ g 0 = 13
    · rw [rd_2 hB]
      unfold cc nn
      dsimp only
      rw [if_pos hB, if_neg hA]
    · rw [rd_3 hA hB]
      unfold cc nn
      dsimp only
      rw [if_neg hB, if_neg hA]

/-- Decode takes just what is an instruction's bytes -/
theorem ag_ok {g : Nat → Int} (hg : Mm.Fit g) : okB g = true ↔ Ag (unpk (fo g)) (fo g) := by
  constructor
  · intro h
    have hm : mayB (rd g) = true := by unfold okB at h; rw [Bool.and_eq_true] at h; exact h.2
    have e := pk_rd h
    have a := ag_of hm
    rw [← e, unpk_pk hm]
    exact a
  · intro h
    have e : pk (unpk (fo g)) = fo g := of_E1 h.1
    have hm : mayB (unpk (fo g)) = true := of_ag (by rw [e]; exact h)
    have hb : ∀ i, i < 8 → g i = enc (unpk (fo g)) i := fun i hi => by rw [← fb_enc hm i hi, e, fb_fo hg i hi]
    rw [(rd_congr hb).2]
    exact ok_enc _ hm
theorem unpk_ok {g : Nat → Int} (h : okB g = true) : unpk (fo g) = rd g := by
  have hm : mayB (rd g) = true := by unfold okB at h; rw [Bool.and_eq_true] at h; exact h.2
  rw [← pk_rd h, unpk_pk hm]
end Rc
end Go.Proofs.YtdklaeppcjopoaaGreatDoor

/- risc.Encode: its contract. -/
namespace Go.Proofs.YtdklaeppcjopoaaGreatDoor
open Go.RowKit
set_option linter.unusedVariables false

theorem pack_x (v : InV) (w : World) : Calls Tryz.prog 39 #[inst v] w fun e w' => e = .returned (.agg #[.int .i64 (Rc.pk v).code, .int .i64 (Rc.pk v).a, .int .i64 (Rc.pk v).b, .int .i64 (Rc.pk v).c, .int .i64 (Rc.pk v).n]) ∧ w.grownBy w' none := pack_any v w
theorem OwnB.congr {w : World} {base n : Nat} {v : Value} {g g' : Nat → Int} (h : OwnB w base v n g) (e : ∀ i, i < n → g i = g' i) : OwnB w base v n g' := by
  have : bytesL n g = bytesL n g' := by
    unfold bytesL
    exact List.map_congr_left fun i hi => by rw [e i (List.mem_range.1 hi)]
  unfold OwnB at *
  rw [← this]; exact h

set_option maxHeartbeats 8000000 in
theorem encode_ok (v : InV) (w : World) (h1 : -9223372036854775808 ≤ v.imm) (h2 : v.imm ≤ 9223372036854775807) (hm : Rc.mayB v = true) :
    Calls Tryz.prog 30 #[inst v] w fun e w' => ∃ T, e = .returned (.tuple #[.slice (some ⟨T, 0, none⟩) 8 8, .int .i64 0]) ∧ OwnB w' w.heap.size (.slice (some ⟨T, 0, none⟩) 8 8) 8 (Rc.enc v) ∧ w.grownBy w' none := by
  have r := Rc.pk_rng h1 h2
  have HA : Hid (Rc.Ag v (Rc.pk v)) := (Rc.ag_may v).1 hm
  have HE : Hid (∀ i, i < 8 → Rc.fb (Rc.pk v) i = Rc.enc v i) := Rc.fb_enc hm
  have c0 : (w.alloc (Obj.cells #[.int .i64 v.op, .int .i64 v.a, .int .i64 v.b, .int .i64 v.c, .int .i64 v.k, .int .i64 v.sub, .int .i64 v.scale, .int .i64 v.imm, .int .i64 v.label] 34)).cell? ⟨w.heap.size, 0, none⟩ = some (.int .i64 v.op) := by simp
  have c1 : (w.alloc (Obj.cells #[.int .i64 v.op, .int .i64 v.a, .int .i64 v.b, .int .i64 v.c, .int .i64 v.k, .int .i64 v.sub, .int .i64 v.scale, .int .i64 v.imm, .int .i64 v.label] 34)).cell? ⟨w.heap.size, 1, none⟩ = some (.int .i64 v.a) := by simp
  have c2 : (w.alloc (Obj.cells #[.int .i64 v.op, .int .i64 v.a, .int .i64 v.b, .int .i64 v.c, .int .i64 v.k, .int .i64 v.sub, .int .i64 v.scale, .int .i64 v.imm, .int .i64 v.label] 34)).cell? ⟨w.heap.size, 2, none⟩ = some (.int .i64 v.b) := by simp
  have c3 : (w.alloc (Obj.cells #[.int .i64 v.op, .int .i64 v.a, .int .i64 v.b, .int .i64 v.c, .int .i64 v.k, .int .i64 v.sub, .int .i64 v.scale, .int .i64 v.imm, .int .i64 v.label] 34)).cell? ⟨w.heap.size, 3, none⟩ = some (.int .i64 v.c) := by simp
  have c4 : (w.alloc (Obj.cells #[.int .i64 v.op, .int .i64 v.a, .int .i64 v.b, .int .i64 v.c, .int .i64 v.k, .int .i64 v.sub, .int .i64 v.scale, .int .i64 v.imm, .int .i64 v.label] 34)).cell? ⟨w.heap.size, 4, none⟩ = some (.int .i64 v.k) := by simp
  have c5 : (w.alloc (Obj.cells #[.int .i64 v.op, .int .i64 v.a, .int .i64 v.b, .int .i64 v.c, .int .i64 v.k, .int .i64 v.sub, .int .i64 v.scale, .int .i64 v.imm, .int .i64 v.label] 34)).cell? ⟨w.heap.size, 5, none⟩ = some (.int .i64 v.sub) := by simp
  have c6 : (w.alloc (Obj.cells #[.int .i64 v.op, .int .i64 v.a, .int .i64 v.b, .int .i64 v.c, .int .i64 v.k, .int .i64 v.sub, .int .i64 v.scale, .int .i64 v.imm, .int .i64 v.label] 34)).cell? ⟨w.heap.size, 6, none⟩ = some (.int .i64 v.scale) := by simp
  have c7 : (w.alloc (Obj.cells #[.int .i64 v.op, .int .i64 v.a, .int .i64 v.b, .int .i64 v.c, .int .i64 v.k, .int .i64 v.sub, .int .i64 v.scale, .int .i64 v.imm, .int .i64 v.label] 34)).cell? ⟨w.heap.size, 7, none⟩ = some (.int .i64 v.imm) := by simp
  have c8 : (w.alloc (Obj.cells #[.int .i64 v.op, .int .i64 v.a, .int .i64 v.b, .int .i64 v.c, .int .i64 v.k, .int .i64 v.sub, .int .i64 v.scale, .int .i64 v.imm, .int .i64 v.label] 34)).cell? ⟨w.heap.size, 8, none⟩ = some (.int .i64 v.label) := by simp
  have hb0 := World.grownBy_alloc w (Obj.cells #[.int .i64 v.op, .int .i64 v.a, .int .i64 v.b, .int .i64 v.c, .int .i64 v.k, .int .i64 v.sub, .int .i64 v.scale, .int .i64 v.imm, .int .i64 v.label] 34) none
  unfold inst
  go_enter Tryz.func30, Tryz.ntmps30
  go_wp2_with (first
    | (go_at_call 39; refine (pack_x v _).mono ?_; rintro e w1 ⟨rfl, hg1⟩; have i0 := (World.grownBy_alloc w1 (Obj.cells #[.int .i64 (Rc.pk v).code, .int .i64 (Rc.pk v).a, .int .i64 (Rc.pk v).b, .int .i64 (Rc.pk v).c, .int .i64 (Rc.pk v).n] 93) none).cell (hg1.cell c0 (by simp)) (by simp); have i1 := (World.grownBy_alloc w1 (Obj.cells #[.int .i64 (Rc.pk v).code, .int .i64 (Rc.pk v).a, .int .i64 (Rc.pk v).b, .int .i64 (Rc.pk v).c, .int .i64 (Rc.pk v).n] 93) none).cell (hg1.cell c1 (by simp)) (by simp); have i2 := (World.grownBy_alloc w1 (Obj.cells #[.int .i64 (Rc.pk v).code, .int .i64 (Rc.pk v).a, .int .i64 (Rc.pk v).b, .int .i64 (Rc.pk v).c, .int .i64 (Rc.pk v).n] 93) none).cell (hg1.cell c2 (by simp)) (by simp); have i3 := (World.grownBy_alloc w1 (Obj.cells #[.int .i64 (Rc.pk v).code, .int .i64 (Rc.pk v).a, .int .i64 (Rc.pk v).b, .int .i64 (Rc.pk v).c, .int .i64 (Rc.pk v).n] 93) none).cell (hg1.cell c3 (by simp)) (by simp); have i4 := (World.grownBy_alloc w1 (Obj.cells #[.int .i64 (Rc.pk v).code, .int .i64 (Rc.pk v).a, .int .i64 (Rc.pk v).b, .int .i64 (Rc.pk v).c, .int .i64 (Rc.pk v).n] 93) none).cell (hg1.cell c4 (by simp)) (by simp); have i5 := (World.grownBy_alloc w1 (Obj.cells #[.int .i64 (Rc.pk v).code, .int .i64 (Rc.pk v).a, .int .i64 (Rc.pk v).b, .int .i64 (Rc.pk v).c, .int .i64 (Rc.pk v).n] 93) none).cell (hg1.cell c5 (by simp)) (by simp); have i6 := (World.grownBy_alloc w1 (Obj.cells #[.int .i64 (Rc.pk v).code, .int .i64 (Rc.pk v).a, .int .i64 (Rc.pk v).b, .int .i64 (Rc.pk v).c, .int .i64 (Rc.pk v).n] 93) none).cell (hg1.cell c6 (by simp)) (by simp); have i7 := (World.grownBy_alloc w1 (Obj.cells #[.int .i64 (Rc.pk v).code, .int .i64 (Rc.pk v).a, .int .i64 (Rc.pk v).b, .int .i64 (Rc.pk v).c, .int .i64 (Rc.pk v).n] 93) none).cell (hg1.cell c7 (by simp)) (by simp); have i8 := (World.grownBy_alloc w1 (Obj.cells #[.int .i64 (Rc.pk v).code, .int .i64 (Rc.pk v).a, .int .i64 (Rc.pk v).b, .int .i64 (Rc.pk v).c, .int .i64 (Rc.pk v).n] 93) none).cell (hg1.cell c8 (by simp)) (by simp))
    | (go_at_call 40; refine (agree_any v (Rc.pk v) _ r.1 r.2 true ⟨fun _ => HA.out, fun _ => rfl⟩).mono ?_; rintro e w2 ⟨rfl, hg2⟩; have j0 : w2.cell? ⟨w1.heap.size, 0, none⟩ = some (.int .i64 (Rc.pk v).code) := hg2.cell (by simp) (by simp); have j1 : w2.cell? ⟨w1.heap.size, 1, none⟩ = some (.int .i64 (Rc.pk v).a) := hg2.cell (by simp) (by simp); have j2 : w2.cell? ⟨w1.heap.size, 2, none⟩ = some (.int .i64 (Rc.pk v).b) := hg2.cell (by simp) (by simp); have j3 : w2.cell? ⟨w1.heap.size, 3, none⟩ = some (.int .i64 (Rc.pk v).c) := hg2.cell (by simp) (by simp); have j4 : w2.cell? ⟨w1.heap.size, 4, none⟩ = some (.int .i64 (Rc.pk v).n) := hg2.cell (by simp) (by simp))
    | (go_at_call 41; refine (fbytes_any (Rc.pk v) _).mono ?_; rintro e w3 ⟨T, rfl, ho3, hg3⟩))
  go_ret2
  have g2 := grown_trans (grown_trans (grown_trans hb0 hg1) (World.grownBy_alloc _ _ _)) hg2
  exact ⟨T, rfl, World.ownsRow.mono (ho3.congr HE.out) g2.size, grown_trans g2 hg3⟩

end Go.Proofs.YtdklaeppcjopoaaGreatDoor

/- Instructions in a row of the call's own; their bytes on a target. -/
namespace Go.Proofs.YtdklaeppcjopoaaGreatDoor
open Go.RowKit
set_option linter.unusedVariables false

/-- an instruction's nine cells -/
def cells9 (v : InV) : List Value := [.int .i64 v.op, .int .i64 v.a, .int .i64 v.b, .int .i64 v.c, .int .i64 v.k, .int .i64 v.sub, .int .i64 v.scale, .int .i64 v.imm, .int .i64 v.label]
/-- a row of the call's own whose instructions are l -/
def OwnI (w : World) (base : Nat) (v : Value) (l : List InV) : Prop := w.ownsRow base 34 9 v l.length (l.flatMap cells9)
theorem info_inst : (Tryz.prog.info? 34).map (fun i => (i.zero, i.size, i.bytes)) = some (some (.agg #[.int .i64 0, .int .i64 0, .int .i64 0, .int .i64 0, .int .i64 0, .int .i64 0, .int .i64 0, .int .i64 0, .int .i64 0]), 9, 72) := by kernel_rfl
theorem OwnI.nil (w : World) (base : Nat) : OwnI w base (.slice none 0 0) [] := World.ownsRow_nil _ _ _ _
theorem OwnI.kept {w w' : World} {base : Nat} {v : Value} {l : List InV} {row : Option Nat} (h : OwnI w base v l) (hg : w.grownBy w' row) (hne : v.ownBlock = none ∨ v.ownBlock ≠ row) : OwnI w' base v l := World.ownsRow.kept h hg hne
theorem OwnI.grow {w w' : World} {base : Nat} {v : Value} {l : List InV} (h : OwnI w base v l) (hg : w.grownBy w' none) : OwnI w' base v l := h.kept hg (Classical.em _)
theorem OwnI.base {w : World} {base : Nat} {v : Value} {l : List InV} (h : OwnI w base v l) : ∀ k, v.ownBlock = some k → base ≤ k := fun k hk => (World.ownsRow.lt h k hk).1
theorem flat9_len (l : List InV) : (l.flatMap cells9).length = l.length * 9 := by
  induction l with
  | nil => rfl
  | cons v l ih => rw [List.flatMap_cons, List.length_append, ih, List.length_cons]; simp [cells9]; omega
theorem flat9_at : ∀ (l : List InV) (i k : Nat) (hi : i < l.length), k < 9 → (l.flatMap cells9)[i * 9 + k]? = (cells9 l[i])[k]?
  | [], i, k, hi, _ => by simp at hi
  | v :: l, 0, k, _, hk => by
    rw [List.flatMap_cons, List.getElem?_append_left (by simp [cells9]; omega)]
    simp
  | v :: l, i + 1, k, hi, hk => by
    have h9 : (cells9 v).length = 9 := rfl
    rw [List.flatMap_cons, List.getElem?_append_right (by rw [h9]; omega), h9, show (i + 1) * 9 + k - 9 = i * 9 + k by omega]
    exact flat9_at l i k (by simpa using hi) hk
theorem OwnI.inAt {w : World} {base T n c : Nat} {l : List InV} (h : OwnI w base (.slice (some ⟨T, 0, none⟩) n c) l) (hn : n = l.length) {i : Nat} (hi : i < l.length) : InAt w T (0 + i * 9) l[i] := by
  subst hn
  rw [Nat.zero_add]
  have e : ∀ k, k < 9 → w.cell? ⟨T, i * 9 + k, none⟩ = (cells9 l[i])[k]? := fun k hk => (World.ownsRow.cellAt h (i * 9 + k) (by omega)).trans (flat9_at l i k hi hk)
  exact ⟨e 0 (by decide), e 1 (by decide), e 2 (by decide), e 3 (by decide), e 4 (by decide), e 5 (by decide), e 6 (by decide), e 7 (by decide), e 8 (by decide)⟩
theorem OwnI.slice {w : World} {base : Nat} {v : Value} {l : List InV} (h : OwnI w base v l) : ∃ ao c, v = .slice ao l.length c ∧ l.length ≤ c ∧ (0 < l.length → ∃ T, ao = some ⟨T, 0, none⟩ ∧ T < w.heap.size) := by
  rcases h.2 with ⟨rfl, h0⟩ | ⟨T, c, cur, rfl, _, e, hc, _⟩
  · exact ⟨none, 0, by rw [h0], by omega, fun h => by omega⟩
  · exact ⟨some ⟨T, 0, none⟩, c, rfl, hc, fun _ => ⟨T, rfl, (World.ownsRow.lt h T rfl).2⟩⟩

/-- bytes of one's own, appended to bytes of one's own -/
theorem wp_appS {ops : Array Oper} {rest : List Oper} {o : Oper} {a : Act} {Q : Exit → Act → World → Prop} {W : World} (hgd : o.guard = none) (s x : Operand)
    (ho : o.op = .call { callee := .builtin .append, args := #[s, x], argTypes := #[56, 56] }) (base : Nat) (v : Value) (l m : List Int) (T c b2 : Nat) (hs : a.eval s = v) (hown : OwnL W base v l)
    (hx : a.eval x = .slice (some ⟨T, 0, none⟩) m.length c) (hsrc : OwnL W b2 (.slice (some ⟨T, 0, none⟩) m.length c) m) (hl : l.length ≤ 100000) (hm : m.length ≤ 1000) (hb : base ≤ W.heap.size)
    (h : ∀ v' w', OwnL w' base v' (l ++ m) → W.grownBy w' v.ownBlock → wpList Tryz.prog ops Q rest (a.put o.dst v') w') : wpList Tryz.prog ops Q (o :: rest) a W := by
  obtain ⟨i, hi, hz0, hz1, hz2⟩ := info_parts info_u8
  refine wpList_append_own _ hgd s x 56 ho base 5 i (.int .u8 0) 1 1 Tryz.underlying56 hi hz0 hz1 hz2 rfl (by decide) v l.length (l.map (Value.int .u8)) hs hown ⟨T, 0, none⟩ m.length c (m.map (Value.int .u8)) hx (by simp)
    (fun j y hj => World.ownsRow.cells hsrc rfl j y hj) (by intro y hy; obtain ⟨z, _, rfl⟩ := List.mem_map.mp hy; rfl) (by unfold maxLen; omega) (by omega) hb ?_
  intro v' w2 ho2 hg2 _
  exact h v' w2 (OwnL.app ho2) hg2
namespace Cc
theorem enc_len5 (v : InV) : (enc v).length ≤ 33 := by
  have h : ∀ s : List Int, (s.flatMap (letB v)).length ≤ 8 * s.length := by
    intro s
    induction s with
    | nil => exact Nat.le_refl _
    | cons l s ih =>
      have : (letB v l).length ≤ 8 := by
        have hc := cnt_c (z := size v.imm)
        unfold letB
        repeat' split
        all_goals first | (rw [low_len]; omega) | (simp only [List.length_cons, List.length_nil]; omega)
      rw [List.flatMap_cons, List.length_append, List.length_cons]
      omega
  have h2 := h (row v.op)
  have h3 : (row v.op).length ≤ 4 := by
    rcases ops v.op with h | h | h | h | h | h | h | h | h | h | h | h | h | h | h | h | h | h | h | h | h | h | h | h | h | h
    case inr.inr.inr.inr.inr.inr.inr.inr.inr.inr.inr.inr.inr.inr.inr.inr.inr.inr.inr.inr.inr.inr.inr.inr.inr =>
      rw [(row_none h).1]; decide
    all_goals (rw [h]; decide)
  unfold enc
  rw [List.length_cons]
  omega
end Cc
namespace Ru
/-- an instruction's bytes on a target; may it be? -/
def encT (t : Int) (v : InV) : List Int := if t = 1 then (List.range 8).map (Rc.enc v) else Cc.enc v
def mayT (t : Int) (v : InV) : Bool := if t = 1 then Rc.mayB v else Cc.mayB v
def codeT (t : Int) (L : List InV) : List Int := L.flatMap (encT t)
theorem cc_len (v : InV) : (Cc.enc v).length ≤ 33 := Cc.enc_len5 v
theorem encT_len (t : Int) (v : InV) : 0 < (encT t v).length ∧ (encT t v).length ≤ 33 := by
  unfold encT
  split
  · simp
  · refine ⟨?_, cc_len v⟩
    unfold Cc.enc
    simp
theorem codeT_len (t : Int) (L : List InV) : (codeT t L).length ≤ 33 * L.length := by
  induction L with
  | nil => exact Nat.le_refl _
  | cons v L ih =>
    have := (encT_len t v).2
    show (encT t v ++ codeT t L).length ≤ _
    rw [List.length_append, List.length_cons]
    omega
theorem codeT_snoc (t : Int) (L : List InV) (v : InV) : codeT t (L ++ [v]) = codeT t L ++ encT t v := by unfold codeT; rw [List.flatMap_append]; simp
end Ru
end Go.Proofs.YtdklaeppcjopoaaGreatDoor

/- The machine of layer 5 as plain functions: registers, place, heap, flags, memory, what was told, the end; one step. -/
namespace Go.Proofs.YtdklaeppcjopoaaGreatDoor
open Go.RowKit
set_option linter.unusedVariables false

namespace Ru
/-- a machine as it stands -/
structure St where
  r : Nat → Int
  pl : Int
  hp : Int
  k : Int
  x : Int
  y : Int
  m : Nat → Int
  out : List Int
  e : Int
  n : Int
/-- what it runs: the target, the code's bytes, the memory's size -/
structure Im where
  t : Int
  N : Nat
  g : Nat → Int
  S : Nat
def wr (x : Int) : Int := x % 18446744073709551616
def Im.lim (I : Im) : Int := I.S - 4096
def St.reg (s : St) (a : Int) : Int := s.r a.toNat
def St.put (s : St) (a x : Int) : St := { s with r := fun i => if i = a.toNat then x else s.r i }
/-- the first end stays -/
def St.stop (s : St) (e n : Int) : St := if s.e = 0 then { s with e := e, n := n } else s
def St.set (s : St) (a x e : Int) : St := if e = 0 then s.put a x else s.stop 5 0
/-- can the flags be asked? what do they say? -/
def St.okF (s : St) (sub : Int) : Bool := s.k != 0 && (Fl.binA sub s.k s.x s.y).2 == 0
def St.says (s : St) (sub : Int) : Bool := s.okF sub && (Fl.binA sub s.k s.x s.y).1 == 1
def St.ask (s : St) (sub : Int) : St := if s.okF sub then s else s.stop 5 0
def ky (sub k : Int) : Int := if Wd.shB sub then 9 else k
/-- an operation of two words as they stand -/
def St.bin (s : St) (t a sub k x y : Int) : St :=
  if t = 2 ∧ Wd.intB k = true ∧ (sub = 4 ∨ sub = 5) then
    (s.set 2 (Fl.binA (9 - sub) k (Wd.canon k x) (Wd.canon (ky sub k) y)).1 (Fl.binA sub k (Wd.canon k x) (Wd.canon (ky sub k) y)).2).set a (Fl.binA sub k (Wd.canon k x) (Wd.canon (ky sub k) y)).1 (Fl.binA sub k (Wd.canon k x) (Wd.canon (ky sub k) y)).2
  else s.set a (Fl.binA sub k (Wd.canon k x) (Wd.canon (ky sub k) y)).1 (Fl.binA sub k (Wd.canon k x) (Wd.canon (ky sub k) y)).2
def St.adr (s : St) (v : InV) : Int := wr (s.reg v.b + s.reg v.c * v.scale + v.imm)
/-- a word laid down -/
def St.lay (s : St) (S : Nat) (a k x : Int) : St :=
  if Mm.lE S k a = 0 then { s with m := Mm.pt s.m a.toNat (Wd.by' k).toNat (Mm.by8 (Wd.canon k x)) } else s.stop 5 0
def up (n : Int) : Int := (n + 7) / 8 * 8
def St.alloc (s : St) (I : Im) (a n : Int) : St :=
  if 1048576 < n then s.stop 4 0
  else if I.lim < s.hp + (if up n = 0 then 8 else up n) then s.stop 4 0
  else { s.put a s.hp with hp := s.hp + (if up n = 0 then 8 else up n) }
def St.goto (s : St) (p : Int) : St := { s with pl := Wd.sg p }
def St.call (s : St) (I : Im) (n : Int) : St :=
  if wr (s.reg 15 - 8) < I.lim then (s.put 15 (wr (s.reg 15 - 8))).stop 4 0
  else let s1 := (s.put 15 (wr (s.reg 15 - 8))).lay I.S (wr (s.reg 15 - 8)) 9 (wr s.pl); s1.goto (s1.pl + n)
def St.ret (s : St) (I : Im) : St :=
  if Mm.lE I.S 9 (s.reg 15) = 0 then (s.put 15 (wr (s.reg 15 + 8))).goto (Mm.lV I.S s.m 9 (s.reg 15)) else s.stop 5 0
def St.flg (s : St) (k x y : Int) : St := { s with k := k, x := Wd.canon k x, y := Wd.canon k y }
/-- what an instruction does -/
def exec (I : Im) (v : InV) (s : St) : St :=
  if v.op = 1 then s.put v.a (wr v.imm)
  else if v.op = 2 then s.put v.a (s.reg v.a % 4294967296 + v.imm % 4294967296 * 4294967296)
  else if v.op = 3 then s.put v.a (s.reg v.b)
  else if v.op = 4 then (if I.t = 2 then s.bin I.t v.a v.sub v.k (s.reg v.a) (s.reg v.b) else s.bin I.t v.a v.sub v.k (s.reg v.b) (s.reg v.c))
  else if v.op = 5 then s.bin I.t v.a v.sub v.k (s.reg v.a) (wr v.imm)
  else if v.op = 6 then (if Mm.lE I.S v.k (s.adr v) = 0 then s.bin I.t v.a v.sub v.k (s.reg v.a) (Mm.lV I.S s.m v.k (s.adr v)) else s.stop 5 0)
  else if v.op = 7 then s.set v.a (Wd.unI v.sub v.k (Wd.canon v.k (s.reg (if I.t = 2 then v.a else v.b)))).1 (Wd.unI v.sub v.k (Wd.canon v.k (s.reg (if I.t = 2 then v.a else v.b)))).2
  else if v.op = 8 then s.set v.a (Fl.convA v.sub v.k (Wd.canon v.sub (s.reg v.b))).1 (Fl.convA v.sub v.k (Wd.canon v.sub (s.reg v.b))).2
  else if v.op = 9 ∨ v.op = 10 then s.put v.a (s.adr v)
  else if v.op = 11 ∨ v.op = 12 then s.set v.a (Mm.lV I.S s.m v.k (s.adr v)) (Mm.lE I.S v.k (s.adr v))
  else if v.op = 13 ∨ v.op = 14 then s.lay I.S (s.adr v) v.k (s.reg v.a)
  else if v.op = 15 then
    (if I.t = 2 then (if s.says v.sub then s.put v.a (s.reg v.b) else s.ask v.sub)
     else s.put v.a (if s.reg v.b = 0 then s.reg v.imm else s.reg v.c))
  else if v.op = 16 then s.flg v.k (s.reg v.a) (s.reg v.b)
  else if v.op = 17 then s.flg v.k (s.reg v.a) (wr v.imm)
  else if v.op = 18 then (if s.okF v.sub then s.put v.a (if s.says v.sub then 1 else 0) else s.stop 5 0)
  else if v.op = 19 then s.goto (s.pl + v.imm)
  else if v.op = 20 then (if s.reg v.a = 0 then s else s.goto (s.pl + v.imm))
  else if v.op = 21 then (if s.reg v.a = 0 then s.goto (s.pl + v.imm) else s)
  else if v.op = 22 then (if s.says v.sub then s.goto (s.pl + v.imm) else s.ask v.sub)
  else if v.op = 23 then s.call I v.imm
  else if v.op = 24 then s.ret I
  else if v.op = 25 then (if s.reg 15 < wr (I.lim + v.imm) then s.stop 4 0 else s)
  else if v.op = 26 then s.alloc I v.a (s.reg v.b)
  else if v.op = 27 then { s with out := s.out ++ [s.reg v.a] }
  else if v.op = 28 then s.stop 1 (Wd.sg (s.reg v.a))
  else if v.op = 29 then s.stop 2 v.imm
  else s
def sh (g : Nat → Int) (p : Nat) : Nat → Int := fun i => g (p + i)
/-- the instruction at the place, its bytes, whether there is one -/
def next (I : Im) (p : Int) : InV × Int × Bool :=
  if p < 0 ∨ (I.N : Int) < p then (Cc.zero, 0, false)
  else if I.t = 1 then (if (I.N : Int) - p < 8 then (Cc.zero, 8, false) else (Rc.dv (sh I.g p.toNat), 8, Rc.de (sh I.g p.toNat) == 0))
  else ((Cc.dec (I.N - p.toNat) (sh I.g p.toNat)).1, (Cc.dec (I.N - p.toNat) (sh I.g p.toNat)).2.1, (Cc.dec (I.N - p.toNat) (sh I.g p.toNat)).2.2 == 0)
def step (I : Im) (s : St) : St :=
  if s.e = 0 then (if (next I s.pl).2.2 then exec I (next I s.pl).1 (s.goto (s.pl + (next I s.pl).2.1)) else s.stop 5 0) else s
end Ru
end Go.Proofs.YtdklaeppcjopoaaGreatDoor

/- What holds of every machine as plain functions. -/
namespace Go.Proofs.YtdklaeppcjopoaaGreatDoor
open Go.RowKit
set_option linter.unusedVariables false

namespace Ru
def W64 (x : Int) : Prop := 0 ≤ x ∧ x < 18446744073709551616
structure St.Ok (s : St) : Prop where
  r : ∀ i, W64 (s.r i)
  hp : 0 ≤ s.hp ∧ s.hp ≤ 1048600
  x : W64 s.x
  y : W64 s.y
  pl : -9223372036854775808 ≤ s.pl ∧ s.pl ≤ 9223372036854775807
  fit : Mm.Fit s.m
theorem wr_w (x : Int) : W64 (wr x) := by unfold wr W64; omega
theorem sg_b (x : Int) : -9223372036854775808 ≤ Wd.sg x ∧ Wd.sg x ≤ 9223372036854775807 := by unfold Wd.sg; omega
theorem St.Ok.put {s : St} (h : s.Ok) (a : Int) {x : Int} (hx : W64 x) : (s.put a x).Ok := ⟨fun i => by show W64 (if i = a.toNat then x else s.r i); split; (· exact hx); exact h.r i, h.hp, h.x, h.y, h.pl, h.fit⟩
end Ru
theorem row_apart {w : World} {b b' : Nat} {t t' : TypeId} {n n' : Nat} {f f' : Nat → Value} (h : w.rowIs b t n f) (h' : w.rowIs b' t' n' f') (ht : t ≠ t') : b ≠ b' := by
  rintro rfl
  obtain ⟨c, h1, _⟩ := h
  obtain ⟨c', h2, _⟩ := h'
  rw [h1] at h2
  injection h2 with h2
  injection h2 with _ h2
  exact ht h2

end Go.Proofs.YtdklaeppcjopoaaGreatDoor

/- A region that draws its order: its head is quiet over a class of worlds and its tail forced; or one of its calls panics, whatever came ahead of it. -/
namespace Go.Proofs.YtdklaeppcjopoaaGreatDoor
open Go.RowKit
set_option linter.unusedVariables false

section
variable {P : Program} {ops : Array Oper} {md : Region.Mode} {C : World → Prop}

/-- from here on: so many operations, each of them one of the first n, each quiet; then L -/
def headQ (P : Program) (md : Region.Mode) (ops : Array Oper) (C : World → Prop) (n : Nat) (L : Array Bool → Act → Prop) : Nat → Array Bool → Act → Prop
  | 0, listed, a => L listed a
  | f + 1, listed, a => Region.ready md ops listed ≠ [] ∧ ∀ i ∈ Region.ready md ops listed, i < n ∧ qOp P ops C i (headQ P md ops C n L f (listed.setIfInBounds i true)) a

theorem any_of_headQ {n g : Nat} {L : Array Bool → Act → Prop} {Q' : Exit → Act → World → Prop} (hL : ∀ listed a w, C w → L listed a → wpAny P md ops Q' g listed a w) (f : Nat) :
    ∀ (listed : Array Bool) (a : Act) (w : World), C w → headQ P md ops C n L f listed a → wpAny P md ops Q' (f + g) listed a w := by
  induction f with
  | zero => intro listed a w hw h; rw [Nat.zero_add]; exact hL _ _ _ hw h
  | succ f ih =>
    intro listed a w hw h
    rw [Nat.add_right_comm]
    exact ⟨fun h0 => absurd h0 h.1, fun i hi => wpOp_of_qOp hw (fun a' w' hw' h' => ih _ a' w' hw' h') (h.2 i hi).2⟩

theorem headQ_take {n i : Nat} {oi : Oper} {v : Value} {L : Array Bool → Act → Prop} (hi : ops[i]? = some oi) (hsel : ∀ (j : Nat) (o : Oper) cs b, ops[j]? = some o → o.op ≠ .select cs b)
    (hs : Region.sinkB md ops n = true) (hc : Region.chainB md ops n = true) (hn : n < ops.size) (hin : i < n) (hdone : ∀ listed a, L listed a → ∀ j ∈ Region.ready md ops listed, n ≤ j) (f : Nat) :
    ∀ (listed : Array Bool) (a : Act), HeadInv md ops n listed →
      (∀ j oj, ops[j]? = some oj → j ≠ i → listed.getD j true = false → (∀ e ∈ oj.after, Region.binds md e = true → e.on ≠ i) → oi.apart ops oj = true) →
      i ∈ Region.ready md ops listed → YieldsIn P ops C oi v a →
      headQ P md ops C n L f (listed.setIfInBounds i true) (a.put oi.dst v) → headQ P md ops C n L (f + 1) listed a := by
  induction f with
  | zero =>
    intro listed a inv hfree hr hy H
    refine ⟨List.ne_nil_of_mem hr, fun j hj => ?_⟩
    have hjn : j < n := Nat.lt_of_not_le fun h => tail_waits hs hc hn inv _ i rfl hin (mem_ready.1 hr).1 j h hj
    by_cases hji : j = i
    · subst hji; exact ⟨hjn, hy.qOp hi H⟩
    · exact absurd (hdone _ _ H j (ready_mono hj hji)) (by omega)
  | succ f ih =>
    intro listed a inv hfree hr hy H
    refine ⟨List.ne_nil_of_mem hr, fun j hj => ?_⟩
    have hun := (mem_ready.1 hr).1
    have hjn : j < n := Nat.lt_of_not_le fun h => tail_waits hs hc hn inv _ i rfl hin hun j h hj
    refine ⟨hjn, ?_⟩
    by_cases hji : j = i
    · subst hji; exact hy.qOp hi H
    · obtain ⟨hjun, oj, hoj, hall⟩ := mem_ready.1 hj
      have hnot : ∀ e ∈ oj.after, Region.binds md e = true → e.on ≠ i := fun e he hb heq => by
        have h1 := hall e he hb
        rw [heq, getD_both hun] at h1
        cases h1
      have h2 := qOp_put hoj (hfree j oj hoj hji hjun hnot) (fun cs b => hsel i oi cs b hi) (fun cs b => hsel j oj cs b hoj) hy (H.2 j (ready_mono hj hji)).2
      refine qOp_mono (fun a' h3 => ih (listed.setIfInBounds j true) a' (inv.set hj hjn) (fun k ok hk hki hun' hno => ?_) (ready_mono hr (Ne.symm hji)) h3.1 ?_) h2
      · refine hfree k ok hk hki ?_ hno
        by_cases hjk : j = k
        · subst hjk; exact hjun
        · rw [getD_set_ne true hjk] at hun'; exact hun'
      · rw [Array.setIfInBounds_comm _ _ hji]
        exact h3.2

theorem headQ_lex {n g : Nat} {Lq : Act → Prop} (hsel : Region.noSelect ops = true) (hs : Region.sinkB md ops n = true) (hc : Region.chainB md ops n = true) (hn : n < ops.size) :
    ∀ (l : List Oper) (k : Nat) (listed : Array Bool) (a : Act), (∀ j, j < l.length → l[j]? = ops[k + j]?) → k + l.length = n → HeadInv md ops n listed →
    Region.lexHead md ops g l.length k listed = true → wpQuiet P ops C Lq l a →
    headQ P md ops C n (fun listed' a' => Region.seqB md ops g n listed' = true ∧ Lq a') l.length listed a := by
  intro l
  induction l with
  | nil =>
    intro k listed a _ hk _ hB h
    obtain rfl : k = n := by simpa using hk
    exact ⟨by simpa [Region.lexHead] using hB, h⟩
  | cons o l ih =>
    intro k listed a hl hk inv hB h
    have h0 : ops[k]? = some o := by simpa using (hl 0 (by simp)).symm
    simp only [List.length_cons, Region.lexHead, Bool.and_eq_true] at hB
    obtain ⟨⟨hr, hf⟩, hB'⟩ := hB
    simp only [List.length_cons] at hk
    have hr' : k ∈ Region.ready md ops listed := by simpa using hr
    obtain ⟨v, hy, hK⟩ := yieldsIn_of_qOp (K := wpQuiet P ops C Lq l) (C := C) h0 (by unfold qOp; simp only [h0]; exact h)
    refine headQ_take h0 (Region.noSelect_spec hsel) hs hc hn (by omega) (fun listed' a' hL => seqB_ready hL.1) l.length listed a inv (Region.free_spec h0 hf) hr' hy ?_
    exact ih (k + 1) _ _ (fun j hj => by have := hl (j + 1) (by simp; omega); simpa [Nat.add_assoc, Nat.add_comm 1 j] using this) (by omega) (inv.set hr' (by omega)) hB' hK

/-- the head quiet over a class, the tail forced -/
theorem tail_class {id : Nat} {Q : Exit → Act → World → Prop} {a : Act} {w : World} {l : List Oper} (C : World → Prop) (n : Nat) (hm : P.follows .mixedOrders = true) (hB : Region.lexTailB .any l.toArray n = true) (hC : C w.drew)
    (h : wpQuiet P l.toArray C (fun a' => ∀ w', C w' → wpList P l.toArray Q (l.drop n) a' w') (l.take n) a) : (Code.region id l.toArray true).wp P Q a w := by
  simp only [Region.lexTailB, Bool.and_eq_true, decide_eq_true_eq] at hB
  obtain ⟨⟨⟨⟨hsel, hn⟩, hs⟩, hc⟩, hlex⟩ := hB
  have hn' : n < l.length := by simpa using hn
  have htl : (l.take n).length = n := by simp; omega
  have hdl : (l.drop n).length = l.toArray.size - n := by simp
  have inv0 : HeadInv .any l.toArray n (Array.replicate l.toArray.size false) :=
    ⟨by simp, fun j oj _ hl => (by rw [getD_replicate_false] at hl; cases hl), fun t _ ht => getD_in (by simpa using ht) (getD_replicate_false _ _)⟩
  have H := headQ_lex (md := .any) (g := l.toArray.size - n) hsel hs hc hn (l.take n) 0 _ a (fun j hj => by
    have hj' : j < n := by rw [htl] at hj; exact hj
    simp [hj']) (by simpa using htl) inv0 (by rw [htl]; exact hlex) h
  refine wp_region_any hm ?_
  have T := any_of_headQ (Q' := Q) (g := l.toArray.size - n) (fun listed a' w' hw' hL => by
    have := wpAny_of_seq (md := .any) (Q' := Q) (l.drop n) n listed a' w' (fun j => by simp [List.getElem?_drop]) (by rw [hdl]; exact hL.1) (hL.2 w' hw')
    rwa [hdl] at this) _ _ _ _ hC H
  rw [htl, show n + (l.toArray.size - n) = l.toArray.size by omega] at T
  exact T

/-- in this state, in every world of the class, the operation is a call that panics -/
def PanicsIn (P : Program) (ops : Array Oper) (C : World → Prop) (o : Oper) (Z : List PanicEntry → World → Prop) (a : Act) : Prop :=
  Region.wanted o (yielded ops a.tmps) = true ∧ ∀ w, C w → ∃ f args, (execOp a.eval o).run P w = .ok (.enter f args) w ∧ Calls P f args w fun e w' => ∃ ch, e = .panicked ch ∧ Z ch w'

/-- whatever comes up is quiet, or the one that panics -/
def headX (P : Program) (md : Region.Mode) (ops : Array Oper) (C : World → Prop) (p : Nat) (o : Oper) (Z : List PanicEntry → World → Prop) : Nat → Array Bool → Act → Prop
  | 0, listed, a => Region.ready md ops listed = [p] ∧ PanicsIn P ops C o Z a
  | f + 1, listed, a => Region.ready md ops listed ≠ [] ∧ ∀ i ∈ Region.ready md ops listed, (i = p ∧ PanicsIn P ops C o Z a) ∨ qOp P ops C i (headX P md ops C p o Z f (listed.setIfInBounds i true)) a

theorem put_defers (a : Act) (d : Option Tmp) (v : Value) : (a.put d v).defers = a.defers := by cases d <;> rfl

theorem PanicsIn.wpOp {p : Nat} {o : Oper} {Z : List PanicEntry → World → Prop} {a : Act} {w : World} {K : Act → World → Prop} {Q : Exit → Act → World → Prop} (ho : ops[p]? = some o) (hw : C w) (h : PanicsIn P ops C o Z a) (hQ : ∀ ch w', Z ch w' → Q (.panic ch) a w') : wpOp P ops Q p K a w := by
  obtain ⟨h1, h2⟩ := h
  obtain ⟨f, args, h3, h4⟩ := h2 w hw
  unfold Go.wpOp
  simp only [ho, h1, if_true]
  refine .inl ?_
  unfold Oper.wp
  rw [h3, Oper.upon_enter]
  refine h4.mono ?_
  rintro e w' ⟨ch, rfl, hz⟩
  exact hQ ch w' hz

theorem any_of_headX {p : Nat} {o : Oper} {Z : List PanicEntry → World → Prop} {Q : Exit → Act → World → Prop} {d : List Deferred} (ho : ops[p]? = some o) (hQ : ∀ a' ch w', a'.defers = d → Z ch w' → Q (.panic ch) a' w') (f : Nat) :
    ∀ (g : Nat) (listed : Array Bool) (a : Act) (w : World), C w → a.defers = d → f < g → headX P md ops C p o Z f listed a → wpAny P md ops Q g listed a w := by
  induction f with
  | zero =>
    intro g listed a w hw hd hg h
    obtain ⟨g, rfl⟩ : ∃ k, g = k + 1 := ⟨g - 1, by omega⟩
    obtain ⟨h1, h2⟩ := h
    refine ⟨fun h0 => (by rw [h1] at h0; cases h0), fun i hi => ?_⟩
    rw [h1] at hi
    obtain rfl : i = p := by simpa using hi
    exact h2.wpOp ho hw fun ch w' hz => hQ a ch w' hd hz
  | succ f ih =>
    intro g listed a w hw hd hg h
    obtain ⟨g, rfl⟩ : ∃ k, g = k + 1 := ⟨g - 1, by omega⟩
    refine ⟨fun h0 => absurd h0 h.1, fun i hi => ?_⟩
    rcases h.2 i hi with ⟨rfl, hx⟩ | hq
    · exact hx.wpOp ho hw fun ch w' hz => hQ a ch w' hd hz
    · unfold qOp at hq
      unfold wpOp
      split
      · rename_i hn; simp only [hn] at hq; exact ih g _ _ _ hw hd (by omega) hq
      · rename_i oi hoi
        simp only [hoi] at hq
        split
        · rename_i hwa
          simp only [hwa, if_true] at hq
          obtain ⟨v, h1, h2⟩ := hq
          exact .inl (Oper.wp_of_quiet (K := fun a'' => a'' = a.put oi.dst v) hw (fun a'' w' hw' e => by subst e; exact ih g _ _ _ hw' ((put_defers _ _ _).trans hd) (by omega) h2) ⟨v, h1, rfl⟩)
        · rename_i hwa
          simp only [hwa] at hq
          exact ih g _ _ _ hw ((put_defers _ _ _).trans hd) (by omega) hq

theorem PanicsIn.of_put {o oi : Oper} {Z : List PanicEntry → World → Prop} {a : Act} {v : Value} (hap : oi.apart ops o = true) (hsel : ∀ cs b, o.op ≠ .select cs b) (h : PanicsIn P ops C o Z (a.put oi.dst v)) : PanicsIn P ops C o Z a := by
  obtain ⟨h1, h2, h3⟩ := Oper.apart_spec hap
  unfold PanicsIn at *
  rw [wanted_put o a oi.dst v h1, execOp_put o hsel a oi.dst v h1] at h
  exact h

theorem headX_take {p i : Nat} {o oi : Oper} {v : Value} {Z : List PanicEntry → World → Prop} (ho : ops[p]? = some o) (hi : ops[i]? = some oi) (hip : i ≠ p) (hsel : ∀ (j : Nat) (o : Oper) cs b, ops[j]? = some o → o.op ≠ .select cs b) (f : Nat) :
    ∀ (listed : Array Bool) (a : Act),
      (∀ j oj, ops[j]? = some oj → j ≠ i → listed.getD j true = false → (∀ e ∈ oj.after, Region.binds md e = true → e.on ≠ i) → oi.apart ops oj = true) →
      i ∈ Region.ready md ops listed → YieldsIn P ops C oi v a →
      headX P md ops C p o Z f (listed.setIfInBounds i true) (a.put oi.dst v) → headX P md ops C p o Z (f + 1) listed a := by
  have key : ∀ (listed : Array Bool), i ∈ Region.ready md ops listed → ∀ j oj, j ∈ Region.ready md ops listed → ops[j]? = some oj → ∀ e ∈ oj.after, Region.binds md e = true → e.on ≠ i := by
    intro listed hr j oj hj hoj e he hb heq
    obtain ⟨_, o', ho', hall⟩ := mem_ready.1 hj
    obtain rfl : o' = oj := Option.some.inj (ho'.symm.trans hoj)
    have h1 := hall e he hb
    rw [heq, getD_both (mem_ready.1 hr).1] at h1
    cases h1
  induction f with
  | zero =>
    intro listed a hfree hr hy H
    refine ⟨List.ne_nil_of_mem hr, fun j hj => ?_⟩
    by_cases hji : j = i
    · subst hji
      exact .inr (hy.qOp hi H)
    · have h1 := ready_mono hj hji
      rw [H.1] at h1
      obtain rfl : j = p := by simpa using h1
      exact .inl ⟨rfl, H.2.of_put (hfree j o ho hji (mem_ready.1 hj).1 (key listed hr j o hj ho)) (hsel j o · · ho)⟩
  | succ f ih =>
    intro listed a hfree hr hy H
    refine ⟨List.ne_nil_of_mem hr, fun j hj => ?_⟩
    by_cases hji : j = i
    · subst hji
      exact .inr (hy.qOp hi H)
    · obtain ⟨hjun, oj, hoj, hall⟩ := mem_ready.1 hj
      have hnot := key listed hr j oj hj hoj
      have hap := hfree j oj hoj hji hjun hnot
      rcases H.2 j (ready_mono hj hji) with ⟨rfl, hx⟩ | hq
      · obtain rfl : oj = o := Option.some.inj (hoj.symm.trans ho)
        exact .inl ⟨rfl, hx.of_put hap (hsel j oj · · ho)⟩
      · have h2 := qOp_put hoj hap (fun cs b => hsel i oi cs b hi) (fun cs b => hsel j oj cs b hoj) hy hq
        refine .inr (qOp_mono (fun a' h3 => ih (listed.setIfInBounds j true) a' (fun k ok hk hki hun' hno => ?_) (ready_mono hr (Ne.symm hji)) h3.1 ?_) h2)
        · refine hfree k ok hk hki ?_ hno
          by_cases hjk : j = k
          · subst hjk; exact hjun
          · rw [getD_set_ne true hjk] at hun'; exact hun'
        · rw [Array.setIfInBounds_comm _ _ hji]
          exact h3.2

/-- these may be taken as they stand; then that one alone may come up -/
def lexX (md : Region.Mode) (ops : Array Oper) (p : Nat) : List Nat → Array Bool → Bool
  | [], listed => Region.ready md ops listed == [p]
  | k :: ks, listed => (Region.ready md ops listed).contains k && k != p && Region.free md ops listed k && lexX md ops p ks (listed.setIfInBounds k true)

theorem headX_lex {p : Nat} {o : Oper} {Z : List PanicEntry → World → Prop} (ho : ops[p]? = some o) (hsel : Region.noSelect ops = true) :
    ∀ (l : List Oper) (ks : List Nat) (listed : Array Bool) (a : Act), l.length = ks.length → (∀ (j k : Nat), ks[j]? = some k → l[j]? = ops[k]?) →
    lexX md ops p ks listed = true → wpQuiet P ops C (PanicsIn P ops C o Z) l a → headX P md ops C p o Z l.length listed a := by
  intro l
  induction l with
  | nil =>
    intro ks listed a hk _ hB h
    obtain rfl : ks = [] := List.eq_nil_of_length_eq_zero hk.symm
    exact ⟨by simpa [lexX] using hB, h⟩
  | cons oi l ih =>
    intro ks listed a hk hl hB h
    match ks, hk with
    | k :: ks, hk =>
      have h0 : ops[k]? = some oi := by simpa using (hl 0 k rfl).symm
      simp only [lexX, Bool.and_eq_true, bne_iff_ne, ne_eq] at hB
      obtain ⟨⟨⟨hr, hkp⟩, hf⟩, hB'⟩ := hB
      have hr' : k ∈ Region.ready md ops listed := by simpa using hr
      obtain ⟨v, hy, hK⟩ := yieldsIn_of_qOp (K := wpQuiet P ops C (PanicsIn P ops C o Z) l) (C := C) h0 (by unfold qOp; simp only [h0]; exact h)
      refine headX_take ho h0 hkp (Region.noSelect_spec hsel) l.length listed a (Region.free_spec h0 hf) hr' hy ?_
      exact ih ks _ _ (by simpa using hk) (fun j k' hj => by have := hl (j + 1) k' (by simpa using hj); simpa using this) hB' hK

/-- all ahead of p, and m from q on -/
def aheadX (p q m : Nat) : List Nat := List.range p ++ (List.range m).map (q + ·)
def lexXB (ops : Array Oper) (p q m : Nat) : Bool := Region.noSelect ops && decide (p < q) && decide (q + m ≤ ops.size) && lexX .any ops p (aheadX p q m) (Array.replicate ops.size false)

/-- a call that panics, whatever came ahead of it -/
theorem region_panics {id : Nat} {Q : Exit → Act → World → Prop} {a : Act} {w : World} {l : List Oper} (C : World → Prop) (Z : List PanicEntry → World → Prop) (p q m : Nat) (o : Oper) (ho : l[p]? = some o) (hm : P.follows .mixedOrders = true) (hB : lexXB l.toArray p q m = true) (hC : C w.drew)
    (hQ : ∀ a' ch w', a'.defers = a.defers → Z ch w' → Q (.panic ch) a' w')
    (h : wpQuiet P l.toArray C (PanicsIn P l.toArray C o Z) (l.take p ++ (l.drop q).take m) a) : (Code.region id l.toArray true).wp P Q a w := by
  simp only [lexXB, Bool.and_eq_true, decide_eq_true_eq] at hB
  obtain ⟨⟨⟨hsel, hpq⟩, hp⟩, hlex⟩ := hB
  have hp' : q + m ≤ l.length := by simpa using hp
  have htl : (l.take p ++ (l.drop q).take m).length = p + m := by simp; omega
  have hal : (aheadX p q m).length = p + m := by simp [aheadX]
  have H := headX_lex (md := .any) (P := P) (C := C) (ops := l.toArray) (p := p) (o := o) (Z := Z) (by simpa using ho) hsel (l.take p ++ (l.drop q).take m) (aheadX p q m) (Array.replicate l.toArray.size false) a (htl.trans hal.symm) (fun j k hj => by
    unfold aheadX at hj
    have htp : (l.take p).length = p := by simp; omega
    by_cases hjp : j < p
    · rw [List.getElem?_append_left (by simpa using hjp)] at hj
      rw [List.getElem?_append_left (by rw [htp]; exact hjp)]
      have : j = k := by simpa [hjp] using hj
      subst this
      simp [hjp]
    · rw [List.getElem?_append_right (by simpa using hjp)] at hj
      rw [List.getElem?_append_right (by rw [htp]; omega), htp]
      simp only [List.length_range, List.getElem?_map, Option.map_eq_some_iff] at hj
      obtain ⟨x, hx, rfl⟩ := hj
      have hx' := List.getElem?_eq_some_iff.1 hx
      obtain ⟨hlt, hx'⟩ := hx'
      simp only [List.length_range] at hlt
      simp only [List.getElem_range] at hx'
      subst hx'
      rw [List.getElem?_take_of_lt hlt, List.getElem?_drop]
      simp) hlex h
  rw [htl] at H
  exact wp_region_any hm (any_of_headX (by simpa using ho) (fun a' ch w' hd hz => hQ a' ch w' hd hz) (p + m) _ _ _ _ hC rfl (by simpa using (by omega : p + m < l.length)) H)
end
end Go.Proofs.YtdklaeppcjopoaaGreatDoor

/- The program's machine: how it lies in memory. -/
namespace Go.Proofs.YtdklaeppcjopoaaGreatDoor
open Go.RowKit
set_option linter.unusedVariables false

/-- where a machine's parts lie, and what stays: the target, the code, the machine's block, its memory -/
structure Pd where
  t : Int
  ao : Option Addr
  N : Nat
  cap : Nat
  g : Nat → Int
  B : Nat
  M : Nat
  D : Nat
  S : Nat
namespace Pd
def ty (h : Pd) : TypeId := if h.t = 2 then 118 else 113
def n (h : Pd) : Nat := if h.t = 2 then 26 else 23
def im (h : Pd) : Ru.Im := ⟨h.t, h.N, h.g, h.S⟩
def fld (h : Pd) (s : Ru.St) : Nat → Value
  | 0 => .slice h.ao h.N h.cap
  | 1 => .int .u64 (Ru.wr s.pl)
  | 2 => .int .u64 (s.r 0)
  | 3 => .int .u64 (s.r 1)
  | 4 => .int .u64 (s.r 2)
  | 5 => .int .u64 (s.r 3)
  | 6 => .int .u64 (s.r 4)
  | 7 => .int .u64 (s.r 5)
  | 8 => .int .u64 (s.r 6)
  | 9 => .int .u64 (s.r 7)
  | 10 => .int .u64 (s.r 8)
  | 11 => .int .u64 (s.r 9)
  | 12 => .int .u64 (s.r 10)
  | 13 => .int .u64 (s.r 11)
  | 14 => .int .u64 (s.r 12)
  | 15 => .int .u64 (s.r 13)
  | 16 => .int .u64 (s.r 14)
  | 17 => .int .u64 (s.r 15)
  | 18 => .pointer (some ⟨h.M, 0, none⟩)
  | 19 => .int .u64 s.hp
  | 20 => .int .u64 (h.S - 4096)
  | 21 => .int .i64 s.e
  | 22 => .int .i64 s.n
  | 23 => .int .i64 s.k
  | 24 => .int .u64 s.x
  | _ => .int .u64 s.y
theorem fld_reg (h : Pd) (s : Ru.St) {a : Nat} (ha : a < 16) : h.fld s (2 + a) = .int .u64 (s.r a) := by
  have hc : a = 0 ∨ a = 1 ∨ a = 2 ∨ a = 3 ∨ a = 4 ∨ a = 5 ∨ a = 6 ∨ a = 7 ∨ a = 8 ∨ a = 9 ∨ a = 10 ∨ a = 11 ∨ a = 12 ∨ a = 13 ∨ a = 14 ∨ a = 15 := by omega
  rcases hc with rfl | rfl | rfl | rfl | rfl | rfl | rfl | rfl | rfl | rfl | rfl | rfl | rfl | rfl | rfl | rfl <;> rfl
theorem n23 (h : Pd) {k : Nat} (hk : k < 23) : k < h.n := by unfold n; split <;> omega
end Pd
/-- a machine as it lies -/
structure IsC (w : World) (h : Pd) (s : Ru.St) : Prop where
  hd : w.rowIs h.B h.ty h.n (h.fld s)
  mm : IsM w h.M h.D h.S s.m
  cd : BsIn w h.ao h.N h.cap h.g
  cb : ∀ b off, 0 < h.N → h.ao = some ⟨b, off, none⟩ → b ≠ h.B ∧ b ≠ h.M ∧ b ≠ h.D
  s1 : (8192 : Int) ≤ h.S
  s2 : (h.S : Int) ≤ 1048576
  ok : s.Ok
/-- bytes that came in, in a world that has grown -/
theorem BsIn.grow {w w' : World} {ao : Option Addr} {n cap : Nat} {g : Nat → Int} {row : Option Nat} (h : BsIn w ao n cap g) (hg : w.grownBy w' row) (hne : ∀ b off, 0 < n → ao = some ⟨b, off, none⟩ → some b ≠ row) : BsIn w' ao n cap g where
  nil := h.nil
  le := h.le
  max := h.max
  fit := h.fit
  bs := by
    rcases Nat.eq_zero_or_pos n with h0 | h0
    · exact .inl h0
    · obtain ⟨b, off, e, hc⟩ := h.bs.at h0
      exact .inr ⟨b, off, e, fun i hi => hg.cell (hc i hi) (hne b off h0 e)⟩
  lt := fun b off h0 e => Nat.lt_of_lt_of_le (h.lt b off h0 e) hg.size
namespace IsC
variable {w : World} {h : Pd} {s : Ru.St}
theorem c0 (x : IsC w h s) : w.cell? ⟨h.B, 0, none⟩ = some (.slice h.ao h.N h.cap) := x.hd.cell (h.n23 (by decide))
theorem c1 (x : IsC w h s) : w.cell? ⟨h.B, 1, none⟩ = some (.int .u64 (Ru.wr s.pl)) := x.hd.cell (h.n23 (by decide))
theorem c18 (x : IsC w h s) : w.cell? ⟨h.B, 18, none⟩ = some (.pointer (some ⟨h.M, 0, none⟩)) := x.hd.cell (h.n23 (by decide))
theorem c19 (x : IsC w h s) : w.cell? ⟨h.B, 19, none⟩ = some (.int .u64 s.hp) := x.hd.cell (h.n23 (by decide))
theorem c20 (x : IsC w h s) : w.cell? ⟨h.B, 20, none⟩ = some (.int .u64 (h.S - 4096)) := x.hd.cell (h.n23 (by decide))
theorem c21 (x : IsC w h s) : w.cell? ⟨h.B, 21, none⟩ = some (.int .i64 s.e) := x.hd.cell (h.n23 (by decide))
theorem c22 (x : IsC w h s) : w.cell? ⟨h.B, 22, none⟩ = some (.int .i64 s.n) := x.hd.cell (h.n23 (by decide))
theorem c23 (x : IsC w h s) (ht : h.t = 2) : w.cell? ⟨h.B, 23, none⟩ = some (.int .i64 s.k) := x.hd.cell (by unfold Pd.n; rw [if_pos ht]; decide)
theorem c24 (x : IsC w h s) (ht : h.t = 2) : w.cell? ⟨h.B, 24, none⟩ = some (.int .u64 s.x) := x.hd.cell (by unfold Pd.n; rw [if_pos ht]; decide)
theorem c25 (x : IsC w h s) (ht : h.t = 2) : w.cell? ⟨h.B, 25, none⟩ = some (.int .u64 s.y) := x.hd.cell (by unfold Pd.n; rw [if_pos ht]; decide)
theorem rc (x : IsC w h s) {a : Nat} (ha : a < 16) : w.cell? ⟨h.B, 2 + a, none⟩ = some (.int .u64 (s.r a)) := by
  rw [← Pd.fld_reg h s ha]
  exact x.hd.cell (h.n23 (by omega))
theorem fz (x : IsC w h s) (k : Nat) : w.frozen? ⟨h.B, k, none⟩ = false := x.hd.frozen k
theorem bty (h : Pd) : h.ty ≠ 5 := by unfold Pd.ty; split <;> decide
theorem bty2 (h : Pd) : h.ty ≠ 138 := by unfold Pd.ty; split <;> decide
theorem bm (x : IsC w h s) : h.B ≠ h.M := row_apart x.hd x.mm.head (bty2 h)
theorem bd (x : IsC w h s) : h.B ≠ h.D := row_apart x.hd x.mm.row (bty h)
theorem md (x : IsC w h s) : h.M ≠ h.D := row_apart x.mm.head x.mm.row (by decide)
/-- a field is stored -/
theorem upd (x : IsC w h s) (k : Nat) (v : Value) {s' : Ru.St} (e : ∀ j, j < 26 → (if j = k then v else h.fld s j) = h.fld s' j) (hm : s'.m = s.m) (hok : s'.Ok) : IsC (w.setCell ⟨h.B, k, none⟩ v) h s' where
  hd := (x.hd.set k v).congr (fun j hj => e j (Nat.lt_of_lt_of_le hj (by unfold Pd.n; split <;> omega)))
  mm := by rw [hm]; exact x.mm.kept (grown_setCell _ _ _ _) (fun e => x.bm (by injection e with e; exact e.symm)) (fun e => x.bd (by injection e with e; exact e.symm))
  cd := x.cd.grow (grown_setCell _ _ _ _) (fun b off h0 e hh => (x.cb b off h0 e).1 (by injection hh))
  cb := x.cb
  s1 := x.s1
  s2 := x.s2
  ok := hok
theorem put (x : IsC w h s) {a : Nat} (ha : a < 16) {y : Int} (hy : Ru.W64 y) : IsC (w.setCell ⟨h.B, 2 + a, none⟩ (.int .u64 y)) h (s.put a y) := by
  refine x.upd (2 + a) _ (fun j hj => ?_) rfl (x.ok.put a hy)
  by_cases hja : j = 2 + a
  · subst hja
    rw [if_pos rfl, Pd.fld_reg _ _ ha]
    show Value.int .u64 y = Value.int .u64 (if a = ((a : Nat) : Int).toNat then y else s.r a)
    rw [Int.toNat_natCast, if_pos rfl]
  · rw [if_neg hja]
    by_cases h2 : 2 ≤ j ∧ j < 18
    · obtain ⟨b, rfl⟩ : ∃ b, j = 2 + b := ⟨j - 2, by omega⟩
      have hb : b < 16 := by omega
      rw [Pd.fld_reg _ _ hb, Pd.fld_reg _ _ hb]
      show _ = Value.int .u64 (if b = ((a : Nat) : Int).toNat then y else s.r b)
      rw [Int.toNat_natCast, if_neg (by omega)]
    · have hc : j = 0 ∨ j = 1 ∨ j = 18 ∨ j = 19 ∨ j = 20 ∨ j = 21 ∨ j = 22 ∨ j = 23 ∨ j = 24 ∨ j = 25 := by omega
      rcases hc with rfl | rfl | rfl | rfl | rfl | rfl | rfl | rfl | rfl | rfl <;> rfl
theorem all26 {p : Nat → Prop} (h : p 0 ∧ p 1 ∧ p 2 ∧ p 3 ∧ p 4 ∧ p 5 ∧ p 6 ∧ p 7 ∧ p 8 ∧ p 9 ∧ p 10 ∧ p 11 ∧ p 12 ∧ p 13 ∧ p 14 ∧ p 15 ∧ p 16 ∧ p 17 ∧ p 18 ∧ p 19 ∧ p 20 ∧ p 21 ∧ p 22 ∧ p 23 ∧ p 24 ∧ p 25) : ∀ j, j < 26 → p j := by
  obtain ⟨a0, a1, a2, a3, a4, a5, a6, a7, a8, a9, b0, b1, b2, b3, b4, b5, b6, b7, b8, b9, d0, d1, d2, d3, d4, d5⟩ := h
  intro j hj
  have hc : j = 0 ∨ j = 1 ∨ j = 2 ∨ j = 3 ∨ j = 4 ∨ j = 5 ∨ j = 6 ∨ j = 7 ∨ j = 8 ∨ j = 9 ∨ j = 10 ∨ j = 11 ∨ j = 12 ∨ j = 13 ∨ j = 14 ∨ j = 15 ∨ j = 16 ∨ j = 17 ∨ j = 18 ∨ j = 19 ∨ j = 20 ∨ j = 21 ∨ j = 22 ∨ j = 23 ∨ j = 24 ∨ j = 25 := by omega
  rcases hc with rfl | rfl | rfl | rfl | rfl | rfl | rfl | rfl | rfl | rfl | rfl | rfl | rfl | rfl | rfl | rfl | rfl | rfl | rfl | rfl | rfl | rfl | rfl | rfl | rfl | rfl <;> assumption
theorem pl (x : IsC w h s) {p : Int} (hp : -9223372036854775808 ≤ p ∧ p ≤ 9223372036854775807) : IsC (w.setCell ⟨h.B, 1, none⟩ (.int .u64 (Ru.wr p))) h { s with pl := p } :=
  x.upd 1 _ (all26 (by refine ⟨?_, ?_, ?_, ?_, ?_, ?_, ?_, ?_, ?_, ?_, ?_, ?_, ?_, ?_, ?_, ?_, ?_, ?_, ?_, ?_, ?_, ?_, ?_, ?_, ?_, ?_⟩ <;> rfl)) rfl ⟨x.ok.r, x.ok.hp, x.ok.x, x.ok.y, hp, x.ok.fit⟩
theorem hp (x : IsC w h s) {p : Int} (hp : 0 ≤ p ∧ p ≤ 1048600) : IsC (w.setCell ⟨h.B, 19, none⟩ (.int .u64 p)) h { s with hp := p } :=
  x.upd 19 _ (all26 (by refine ⟨?_, ?_, ?_, ?_, ?_, ?_, ?_, ?_, ?_, ?_, ?_, ?_, ?_, ?_, ?_, ?_, ?_, ?_, ?_, ?_, ?_, ?_, ?_, ?_, ?_, ?_⟩ <;> rfl)) rfl ⟨x.ok.r, hp, x.ok.x, x.ok.y, x.ok.pl, x.ok.fit⟩
theorem en (x : IsC w h s) (p : Int) : IsC (w.setCell ⟨h.B, 21, none⟩ (.int .i64 p)) h { s with e := p } :=
  x.upd 21 _ (all26 (by refine ⟨?_, ?_, ?_, ?_, ?_, ?_, ?_, ?_, ?_, ?_, ?_, ?_, ?_, ?_, ?_, ?_, ?_, ?_, ?_, ?_, ?_, ?_, ?_, ?_, ?_, ?_⟩ <;> rfl)) rfl ⟨x.ok.r, x.ok.hp, x.ok.x, x.ok.y, x.ok.pl, x.ok.fit⟩
theorem nn (x : IsC w h s) (p : Int) : IsC (w.setCell ⟨h.B, 22, none⟩ (.int .i64 p)) h { s with n := p } :=
  x.upd 22 _ (all26 (by refine ⟨?_, ?_, ?_, ?_, ?_, ?_, ?_, ?_, ?_, ?_, ?_, ?_, ?_, ?_, ?_, ?_, ?_, ?_, ?_, ?_, ?_, ?_, ?_, ?_, ?_, ?_⟩ <;> rfl)) rfl ⟨x.ok.r, x.ok.hp, x.ok.x, x.ok.y, x.ok.pl, x.ok.fit⟩
theorem fk (x : IsC w h s) (k : Int) : IsC (w.setCell ⟨h.B, 23, none⟩ (.int .i64 k)) h { s with k := k } :=
  x.upd 23 _ (all26 (by refine ⟨?_, ?_, ?_, ?_, ?_, ?_, ?_, ?_, ?_, ?_, ?_, ?_, ?_, ?_, ?_, ?_, ?_, ?_, ?_, ?_, ?_, ?_, ?_, ?_, ?_, ?_⟩ <;> rfl)) rfl ⟨x.ok.r, x.ok.hp, x.ok.x, x.ok.y, x.ok.pl, x.ok.fit⟩
theorem fx (x : IsC w h s) {p : Int} (hp : Ru.W64 p) : IsC (w.setCell ⟨h.B, 24, none⟩ (.int .u64 p)) h { s with x := p } :=
  x.upd 24 _ (all26 (by refine ⟨?_, ?_, ?_, ?_, ?_, ?_, ?_, ?_, ?_, ?_, ?_, ?_, ?_, ?_, ?_, ?_, ?_, ?_, ?_, ?_, ?_, ?_, ?_, ?_, ?_, ?_⟩ <;> rfl)) rfl ⟨x.ok.r, x.ok.hp, hp, x.ok.y, x.ok.pl, x.ok.fit⟩
theorem fy (x : IsC w h s) {p : Int} (hp : Ru.W64 p) : IsC (w.setCell ⟨h.B, 25, none⟩ (.int .u64 p)) h { s with y := p } :=
  x.upd 25 _ (all26 (by refine ⟨?_, ?_, ?_, ?_, ?_, ?_, ?_, ?_, ?_, ?_, ?_, ?_, ?_, ?_, ?_, ?_, ?_, ?_, ?_, ?_, ?_, ?_, ?_, ?_, ?_, ?_⟩ <;> rfl)) rfl ⟨x.ok.r, x.ok.hp, x.ok.x, hp, x.ok.pl, x.ok.fit⟩
/-- what was told lies elsewhere -/
theorem out (x : IsC w h s) (o : List Int) : IsC w h { s with out := o } := ⟨x.hd.congr (fun j hj => by unfold Pd.fld; rfl), x.mm, x.cd, x.cb, x.s1, x.s2, ⟨x.ok.r, x.ok.hp, x.ok.x, x.ok.y, x.ok.pl, x.ok.fit⟩⟩
/-- new memory, a draw -/
theorem kept {w' : World} (x : IsC w h s) (g : w.grownBy w' none) : IsC w' h s where
  hd := x.hd.of_block (g.block _ x.hd.lt (by simp))
  mm := x.mm.kept g (by simp) (by simp)
  cd := x.cd.grow g (fun _ _ _ _ => by simp)
  cb := x.cb
  s1 := x.s1
  s2 := x.s2
  ok := x.ok
/-- the memory's bytes are turned -/
theorem mem {w' : World} {m : Nat → Int} (x : IsC w h s) (g : w.grownBy w' (some h.D)) (hm : IsM w' h.M h.D h.S m) : IsC w' h { s with m := m } where
  hd := x.hd.of_block (g.block _ x.hd.lt (fun e => x.bd (by injection e)))
  mm := hm
  cd := x.cd.grow g (fun b off h0 e hh => (x.cb b off h0 e).2.2 (by injection hh))
  cb := x.cb
  s1 := x.s1
  s2 := x.s2
  ok := ⟨x.ok.r, x.ok.hp, x.ok.x, x.ok.y, x.ok.pl, hm.fit⟩
end IsC
/-- only a machine's own blocks are turned -/
structure Mc (h : Pd) (w : World) (w' : World) : Prop where
  os : w'.os = w.os
  tape : w'.tape = w.tape
  output : w'.output = w.output
  size : w.heap.size ≤ w'.heap.size
  block : ∀ k, k < w.heap.size → k ≠ h.B → k ≠ h.D → w'.heap[k]? = w.heap[k]?
namespace Mc
variable {h : Pd} {w w' w'' : World}
theorem refl : Mc h w w := ⟨rfl, rfl, rfl, Nat.le_refl _, fun _ _ _ _ => rfl⟩
theorem trans (a : Mc h w w') (b : Mc h w' w'') : Mc h w w'' where
  os := b.os.trans a.os
  tape := b.tape.trans a.tape
  output := b.output.trans a.output
  size := Nat.le_trans a.size b.size
  block := fun k hk h1 h2 => (b.block k (Nat.lt_of_lt_of_le hk a.size) h1 h2).trans (a.block k hk h1 h2)
theorem setB (a : Mc h w w') (k : Nat) (v : Value) : Mc h w (w'.setCell ⟨h.B, k, none⟩ v) :=
  a.trans ⟨rfl, rfl, rfl, by simp [World.setCell], fun j _ h1 _ => Below.heap_setCell _ _ _ _ h1⟩
theorem grown (a : Mc h w w') (g : w'.grownBy w'' none) : Mc h w w'' :=
  a.trans ⟨g.os, g.tape, g.output, g.size, fun j hj _ _ => g.block j hj (by simp)⟩
theorem mem (a : Mc h w w') (g : w'.grownBy w'' (some h.D)) : Mc h w w'' :=
  a.trans ⟨g.os, g.tape, g.output, g.size, fun j hj _ h1 => g.block j hj (fun e => h1 (by injection e))⟩
end Mc
/-- what a step that is stuck panics with -/
def stk : List PanicEntry := [{ v := .iface 196 (.agg #[]), recovered := false }]
end Go.Proofs.YtdklaeppcjopoaaGreatDoor

/- The program's machine: its smallest functions. -/
namespace Go.Proofs.YtdklaeppcjopoaaGreatDoor
open Go.RowKit
set_option linter.unusedVariables false

theorem pmust_ok (w : World) : Calls Tryz.prog 146 #[.int .i64 0] w fun r w' => r = .returned (.tuple #[]) ∧ w' = w := by
  go_enter Tryz.func146, Tryz.ntmps146
  go_wp2
  first | go_end0 | go_returns
  exact ⟨rfl, rfl⟩
theorem pmust_no (e : Int) (he : (e != 0) = true) (w : World) : Calls Tryz.prog 146 #[.int .i64 e] w fun r w' => r = .panicked stk ∧ w' = w := by
  go_enter Tryz.func146, Tryz.ntmps146
  go_wp2
  exact ⟨rfl, rfl, rfl⟩
theorem psec_any (op k : Int) (w : World) : Calls Tryz.prog 148 #[.int .i64 op, .int .i64 k] w fun r w' => r = .returned (.int .i64 (Ru.ky op k)) ∧ w' = w := by
  by_cases h1 : op = 9
  · subst h1
    go_enter Tryz.func148, Tryz.ntmps148
    go_wp2
    go_ret
    exact ⟨rfl, rfl⟩
  · have h1' : (op == 9) = false := by simpa using h1
    by_cases h2 : op = 10
    · subst h2
      go_enter Tryz.func148, Tryz.ntmps148
      go_wp2
      go_ret
      exact ⟨rfl, rfl⟩
    · have h2' : (op == 10) = false := by simpa using h2
      have e : Ru.ky op k = k := by unfold Ru.ky Wd.shB; rw [h1', h2']; rfl
      rw [e]
      go_enter Tryz.func148, Tryz.ntmps148
      go_wp2
      go_ret
      exact ⟨rfl, rfl⟩
set_option maxRecDepth 100000 in
set_option maxHeartbeats 4000000 in
theorem pbin_ok (op k x y v : Int) (hx : Ru.W64 x) (hy : Ru.W64 y) (w : World) (hF : Fl.binA op k (Wd.canon k x) (Wd.canon (Ru.ky op k) y) = (v, 0)) :
    Calls Tryz.prog 142 #[.int .i64 op, .int .i64 k, .int .u64 x, .int .u64 y] w fun r w' => r = .returned (.int .u64 v) ∧ w.grownBy w' none := by
  obtain ⟨x1, x2⟩ := hx
  obtain ⟨y1, y2⟩ := hy
  have HC : Hid (∀ W, Calls Tryz.prog 95 #[.int .i64 k, .int .u64 x] W fun e w' => e = .returned (.int .u64 (Wd.canon k x)) ∧ w' = W) := fun W => canon_any k x W x1 x2
  have HD : Hid (∀ W, Calls Tryz.prog 95 #[.int .i64 (Ru.ky op k), .int .u64 y] W fun e w' => e = .returned (.int .u64 (Wd.canon (Ru.ky op k) y)) ∧ w' = W) := fun W => canon_any _ y W y1 y2
  have c1 := Wd.canon_rng k x
  have c2 := Wd.canon_rng (Ru.ky op k) y
  have HB : Hid (∀ W, Calls Tryz.prog 71 #[.int .i64 op, .int .i64 k, .int .u64 (Wd.canon k x), .int .u64 (Wd.canon (Ru.ky op k) y)] W fun e w' => e = .returned (.tuple #[.int .u64 v, .int .i64 0]) ∧ W.grownBy w' none) := fun W => by
    refine (binA_any op k _ _ W c1.1 c1.2 c2.1 c2.2).mono ?_
    rw [hF]
    rintro r w' ⟨rfl, n, rfl⟩
    exact ⟨rfl, grown_drewN (World.grownBy.refl _ _) n⟩
  have HS : Hid (∀ W, Calls Tryz.prog 148 #[.int .i64 op, .int .i64 k] W fun r w' => r = .returned (.int .i64 (Ru.ky op k)) ∧ w' = W) := fun W => psec_any op k W
  clear hF c1 c2
  generalize Wd.canon (Ru.ky op k) y = Y at *
  generalize Wd.canon k x = X at *
  generalize Ru.ky op k = K at *
  go_enter Tryz.func142, Tryz.ntmps142
  go_wp2_with (first
    | (go_at_call 95; refine (HC.out _).mono ?_; rintro r w1 ⟨rfl, rfl⟩; clear HC)
    | (go_at_call 95; refine (HD.out _).mono ?_; rintro r w1 ⟨rfl, rfl⟩)
    | (go_at_call 148; refine (HS.out _).mono ?_; rintro r w1 ⟨rfl, rfl⟩)
    | (go_at_call 71; refine (HB.out _).mono ?_; rintro r w2 ⟨rfl, g2⟩)
    | (go_at_call 146; refine (pmust_ok _).mono ?_; rintro r w3 ⟨rfl, rfl⟩))
  go_ret
  exact ⟨rfl, g2⟩
set_option maxRecDepth 100000 in
set_option maxHeartbeats 4000000 in
theorem pbin_no (op k x y v e : Int) (hx : Ru.W64 x) (hy : Ru.W64 y) (w : World) (hF : Fl.binA op k (Wd.canon k x) (Wd.canon (Ru.ky op k) y) = (v, e)) (he : (e != 0) = true) :
    Calls Tryz.prog 142 #[.int .i64 op, .int .i64 k, .int .u64 x, .int .u64 y] w fun r w' => r = .panicked stk ∧ w.grownBy w' none := by
  obtain ⟨x1, x2⟩ := hx
  obtain ⟨y1, y2⟩ := hy
  have HC : Hid (∀ W, Calls Tryz.prog 95 #[.int .i64 k, .int .u64 x] W fun e w' => e = .returned (.int .u64 (Wd.canon k x)) ∧ w' = W) := fun W => canon_any k x W x1 x2
  have HD : Hid (∀ W, Calls Tryz.prog 95 #[.int .i64 (Ru.ky op k), .int .u64 y] W fun e w' => e = .returned (.int .u64 (Wd.canon (Ru.ky op k) y)) ∧ w' = W) := fun W => canon_any _ y W y1 y2
  have c1 := Wd.canon_rng k x
  have c2 := Wd.canon_rng (Ru.ky op k) y
  have HB : Hid (∀ W, Calls Tryz.prog 71 #[.int .i64 op, .int .i64 k, .int .u64 (Wd.canon k x), .int .u64 (Wd.canon (Ru.ky op k) y)] W fun r w' => r = .returned (.tuple #[.int .u64 v, .int .i64 e]) ∧ W.grownBy w' none) := fun W => by
    refine (binA_any op k _ _ W c1.1 c1.2 c2.1 c2.2).mono ?_
    rw [hF]
    rintro r w' ⟨rfl, n, rfl⟩
    exact ⟨rfl, grown_drewN (World.grownBy.refl _ _) n⟩
  have HS : Hid (∀ W, Calls Tryz.prog 148 #[.int .i64 op, .int .i64 k] W fun r w' => r = .returned (.int .i64 (Ru.ky op k)) ∧ w' = W) := fun W => psec_any op k W
  clear hF c1 c2
  generalize Wd.canon (Ru.ky op k) y = Y at *
  generalize Wd.canon k x = X at *
  generalize Ru.ky op k = K at *
  go_enter Tryz.func142, Tryz.ntmps142
  go_wp2_with (first
    | (go_at_call 95; refine (HC.out _).mono ?_; rintro r w1 ⟨rfl, rfl⟩; clear HC)
    | (go_at_call 95; refine (HD.out _).mono ?_; rintro r w1 ⟨rfl, rfl⟩)
    | (go_at_call 148; refine (HS.out _).mono ?_; rintro r w1 ⟨rfl, rfl⟩)
    | (go_at_call 71; refine (HB.out _).mono ?_; rintro r w2 ⟨rfl, g2⟩)
    | (go_at_call 146; refine (pmust_no e he _).mono ?_; rintro r w3 ⟨rfl, rfl⟩))
  exact ⟨rfl, rfl, g2⟩
set_option maxRecDepth 100000 in
set_option maxHeartbeats 4000000 in
theorem pun_ok (op k x v : Int) (hx : Ru.W64 x) (w : World) (hF : Wd.unI op k (Wd.canon k x) = (v, 0)) :
    Calls Tryz.prog 143 #[.int .i64 op, .int .i64 k, .int .u64 x] w fun r w' => r = .returned (.int .u64 v) ∧ w.grownBy w' none := by
  obtain ⟨x1, x2⟩ := hx
  have c1 := Wd.canon_rng k x
  have HU : Hid (∀ W, Calls Tryz.prog 72 #[.int .i64 op, .int .i64 k, .int .u64 (Wd.canon k x)] W fun r w' => r = .returned (.tuple #[.int .u64 v, .int .i64 0]) ∧ w' = W) := fun W => by
    have := un_any op k _ W c1.1 c1.2
    rw [hF] at this
    exact this
  clear hF c1
  go_enter Tryz.func143, Tryz.ntmps143
  go_wp2_with (first
    | (go_at_call 95; refine (canon_any k x _ x1 x2).mono ?_; rintro r w1 ⟨rfl, rfl⟩)
    | (go_at_call 72; refine (HU.out _).mono ?_; rintro r w2 ⟨rfl, rfl⟩)
    | (go_at_call 146; refine (pmust_ok _).mono ?_; rintro r w3 ⟨rfl, rfl⟩))
  go_ret
  exact ⟨rfl, World.grownBy.refl _ _⟩
set_option maxRecDepth 100000 in
set_option maxHeartbeats 4000000 in
theorem pun_no (op k x v e : Int) (hx : Ru.W64 x) (w : World) (hF : Wd.unI op k (Wd.canon k x) = (v, e)) (he : (e != 0) = true) :
    Calls Tryz.prog 143 #[.int .i64 op, .int .i64 k, .int .u64 x] w fun r w' => r = .panicked stk ∧ w.grownBy w' none := by
  obtain ⟨x1, x2⟩ := hx
  have c1 := Wd.canon_rng k x
  have HU : Hid (∀ W, Calls Tryz.prog 72 #[.int .i64 op, .int .i64 k, .int .u64 (Wd.canon k x)] W fun r w' => r = .returned (.tuple #[.int .u64 v, .int .i64 e]) ∧ w' = W) := fun W => by
    have := un_any op k _ W c1.1 c1.2
    rw [hF] at this
    exact this
  clear hF c1
  go_enter Tryz.func143, Tryz.ntmps143
  go_wp2_with (first
    | (go_at_call 95; refine (canon_any k x _ x1 x2).mono ?_; rintro r w1 ⟨rfl, rfl⟩)
    | (go_at_call 72; refine (HU.out _).mono ?_; rintro r w2 ⟨rfl, rfl⟩)
    | (go_at_call 146; refine (pmust_no e he _).mono ?_; rintro r w3 ⟨rfl, rfl⟩))
  exact ⟨rfl, rfl, World.grownBy.refl _ _⟩
set_option maxRecDepth 100000 in
set_option maxHeartbeats 4000000 in
theorem pconv_ok (f t x v : Int) (hx : Ru.W64 x) (w : World) (hF : Fl.convA f t (Wd.canon f x) = (v, 0)) :
    Calls Tryz.prog 149 #[.int .i64 f, .int .i64 t, .int .u64 x] w fun r w' => r = .returned (.int .u64 v) ∧ w.grownBy w' none := by
  obtain ⟨x1, x2⟩ := hx
  have c1 := Wd.canon_rng f x
  have HU : Hid (∀ W, Calls Tryz.prog 73 #[.int .i64 f, .int .i64 t, .int .u64 (Wd.canon f x)] W fun r w' => r = .returned (.tuple #[.int .u64 v, .int .i64 0]) ∧ w' = W) := fun W => by
    have := conv_any f t _ W c1.1 c1.2
    rw [hF] at this
    exact this
  clear hF c1
  go_enter Tryz.func149, Tryz.ntmps149
  go_wp2_with (first
    | (go_at_call 95; refine (canon_any f x _ x1 x2).mono ?_; rintro r w1 ⟨rfl, rfl⟩)
    | (go_at_call 73; refine (HU.out _).mono ?_; rintro r w2 ⟨rfl, rfl⟩)
    | (go_at_call 146; refine (pmust_ok _).mono ?_; rintro r w3 ⟨rfl, rfl⟩))
  go_ret
  exact ⟨rfl, World.grownBy.refl _ _⟩
set_option maxRecDepth 100000 in
set_option maxHeartbeats 4000000 in
theorem pconv_no (f t x v e : Int) (hx : Ru.W64 x) (w : World) (hF : Fl.convA f t (Wd.canon f x) = (v, e)) (he : (e != 0) = true) :
    Calls Tryz.prog 149 #[.int .i64 f, .int .i64 t, .int .u64 x] w fun r w' => r = .panicked stk ∧ w.grownBy w' none := by
  obtain ⟨x1, x2⟩ := hx
  have c1 := Wd.canon_rng f x
  have HU : Hid (∀ W, Calls Tryz.prog 73 #[.int .i64 f, .int .i64 t, .int .u64 (Wd.canon f x)] W fun r w' => r = .returned (.tuple #[.int .u64 v, .int .i64 e]) ∧ w' = W) := fun W => by
    have := conv_any f t _ W c1.1 c1.2
    rw [hF] at this
    exact this
  clear hF c1
  go_enter Tryz.func149, Tryz.ntmps149
  go_wp2_with (first
    | (go_at_call 95; refine (canon_any f x _ x1 x2).mono ?_; rintro r w1 ⟨rfl, rfl⟩)
    | (go_at_call 73; refine (HU.out _).mono ?_; rintro r w2 ⟨rfl, rfl⟩)
    | (go_at_call 146; refine (pmust_no e he _).mono ?_; rintro r w3 ⟨rfl, rfl⟩))
  exact ⟨rfl, rfl, World.grownBy.refl _ _⟩
end Go.Proofs.YtdklaeppcjopoaaGreatDoor

/- The program's machine: its end, jumps, memory. -/
namespace Go.Proofs.YtdklaeppcjopoaaGreatDoor
open Go.RowKit
set_option linter.unusedVariables false

theorem pfinish {w : World} {h : Pd} {s : Ru.St} (x : IsC w h s) (e n : Int) :
    Calls Tryz.prog 51 #[.pointer (some ⟨h.B, 0, none⟩), .int .i64 e, .int .i64 n] w fun r w' => r = .returned (.tuple #[]) ∧ IsC w' h { s with e := e, n := n } ∧ Mc h w w' := by
  have HX : Hid (IsC w h s) := x
  have c21 := x.c21
  have c22 := x.c22
  have f21 := x.fz 21
  have f22 := x.fz 22
  clear x
  go_enter Tryz.func51, Tryz.ntmps51
  go_wp2
  first | go_end0 | go_returns
  exact ⟨rfl, (HX.out.en e).nn n, (Mc.refl.setB _ _).setB _ _⟩
theorem wr_add (p n : Int) : IntKind.u64.wrap (Ru.wr p + IntKind.u64.wrap n) = Ru.wr (Wd.sg (p + n)) := by
  simp only [IntKind.wrap_u64]
  unfold Ru.wr Wd.sg
  omega
theorem pjump {w : World} {h : Pd} {s : Ru.St} (x : IsC w h s) (n : Int) :
    Calls Tryz.prog 144 #[.pointer (some ⟨h.B, 0, none⟩), .int .i64 n] w fun r w' => r = .returned (.tuple #[]) ∧ IsC w' h (s.goto (s.pl + n)) ∧ Mc h w w' := by
  have HX : Hid (IsC w h s) := x
  have c1 := x.c1
  have f1 := x.fz 1
  have HP : Hid (IsC (w.setCell ⟨h.B, 1, none⟩ (.int .u64 (Ru.wr (Wd.sg (s.pl + n))))) h (s.goto (s.pl + n))) := x.pl (Ru.sg_b _)
  rw [← wr_add] at HP
  clear x
  go_enter Tryz.func144, Tryz.ntmps144
  go_wp2
  first | go_end0 | go_returns
  exact ⟨rfl, HP.out, Mc.refl.setB _ _⟩
theorem pload_ok {w : World} {h : Pd} {s : Ru.St} (x : IsC w h s) (a k v : Int) (ha : Ru.W64 a) (hv : Mm.lV h.S s.m k a = v) (he : Mm.lE h.S k a = 0) :
    Calls Tryz.prog 150 #[.pointer (some ⟨h.B, 0, none⟩), .int .u64 a, .int .i64 k] w fun r w' => r = .returned (.int .u64 v) ∧ w.grownBy w' none := by
  have c18 := x.c18
  have HL : Hid (Calls Tryz.prog 87 #[.pointer (some ⟨h.M, 0, none⟩), .int .u64 a, .int .i64 k] w fun r w' => r = .returned (.tuple #[.int .u64 v, .int .i64 0]) ∧ w' = w) := by
    have := load_any h.M h.D h.S s.m a k w x.mm x.s2 ha.1 ha.2
    rw [hv, he] at this
    exact this
  clear x hv he
  go_enter Tryz.func150, Tryz.ntmps150
  go_wp2_with (first
    | (go_at_call 87; refine HL.out.mono ?_; rintro r w1 ⟨rfl, rfl⟩)
    | (go_at_call 146; refine (pmust_ok _).mono ?_; rintro r w3 ⟨rfl, rfl⟩))
  go_ret
  exact ⟨rfl, World.grownBy.refl _ _⟩
theorem pload_no {w : World} {h : Pd} {s : Ru.St} (x : IsC w h s) (a k : Int) (ha : Ru.W64 a) (he : (Mm.lE h.S k a != 0) = true) :
    Calls Tryz.prog 150 #[.pointer (some ⟨h.B, 0, none⟩), .int .u64 a, .int .i64 k] w fun r w' => r = .panicked stk ∧ w.grownBy w' none := by
  have c18 := x.c18
  have HL : Hid (Calls Tryz.prog 87 #[.pointer (some ⟨h.M, 0, none⟩), .int .u64 a, .int .i64 k] w fun r w' => r = .returned (.tuple #[.int .u64 (Mm.lV h.S s.m k a), .int .i64 (Mm.lE h.S k a)]) ∧ w' = w) := load_any h.M h.D h.S s.m a k w x.mm x.s2 ha.1 ha.2
  generalize Mm.lV h.S s.m k a = v at *
  generalize Mm.lE h.S k a = e at *
  clear x
  go_enter Tryz.func150, Tryz.ntmps150
  go_wp2_with (first
    | (go_at_call 87; refine HL.out.mono ?_; rintro r w1 ⟨rfl, rfl⟩)
    | (go_at_call 146; refine (pmust_no e he _).mono ?_; rintro r w3 ⟨rfl, rfl⟩))
  exact ⟨rfl, rfl, World.grownBy.refl _ _⟩
end Go.Proofs.YtdklaeppcjopoaaGreatDoor

/- The program's machine: store, alloc, call. -/
namespace Go.Proofs.YtdklaeppcjopoaaGreatDoor
open Go.RowKit
set_option linter.unusedVariables false

namespace Mm
theorem is_canon {k : Int} (h : Wd.wordB k = true) (x : Int) : Wd.isB k (Wd.canon k x) = true := by
  unfold Wd.isB
  unfold Wd.wordB at h
  rw [Wd.canon_canon, beq_self_eq_true, Bool.and_true]
  exact h
theorem sE_canon (S : Nat) (k a x : Int) : sE S k a (Wd.canon k x) = lE S k a := by
  unfold sE lE
  cases h : Wd.wordB k
  · rfl
  · rw [is_canon h]; rfl
theorem sM_canon (S : Nat) (m : Nat → Int) (k a x : Int) : sM S m k a (Wd.canon k x) = if lE S k a = 0 then pt m a.toNat (Wd.by' k).toNat (by8 (Wd.canon k x)) else m := by
  unfold sM lE
  cases h : Wd.wordB k
  · rfl
  · rw [is_canon h]
    cases hasB S a (Wd.by' k) <;> rfl
end Mm
set_option maxRecDepth 100000 in
set_option maxHeartbeats 4000000 in
theorem pstore_ok {w : World} {h : Pd} {s : Ru.St} (x : IsC w h s) (a k y : Int) (ha : Ru.W64 a) (hy : Ru.W64 y) (he : Mm.lE h.S k a = 0) :
    Calls Tryz.prog 151 #[.pointer (some ⟨h.B, 0, none⟩), .int .u64 a, .int .i64 k, .int .u64 y] w fun r w' => r = .returned (.tuple #[]) ∧ IsC w' h (s.lay h.S a k y) ∧ Mc h w w' := by
  have x1 := x.kept (grown_drew (World.grownBy.refl w none))
  have HV : Hid (Mc h w w.drew) := Mc.refl.grown (grown_drew (World.grownBy.refl w none))
  have hc := Wd.canon_rng k y
  have es : s.lay h.S a k y = { s with m := Mm.pt s.m a.toNat (Wd.by' k).toNat (Mm.by8 (Wd.canon k y)) } := by unfold Ru.St.lay; rw [if_pos he]
  rw [es]
  have HS : Hid (∀ W, IsC W h s → Calls Tryz.prog 153 #[.pointer (some ⟨h.M, 0, none⟩), .int .u64 a, .int .i64 k, .int .u64 (Wd.canon k y)] W fun r w' => r = .returned (.int .i64 0) ∧ IsM w' h.M h.D h.S (Mm.pt s.m a.toNat (Wd.by' k).toNat (Mm.by8 (Wd.canon k y))) ∧ W.grownBy w' (some h.D)) := fun W hW => by
    have := store_any h.M h.D h.S s.m a k (Wd.canon k y) W hW.mm hW.s2 ha.1 ha.2 hc.1 hc.2
    rw [Mm.sE_canon, Mm.sM_canon, he, if_pos rfl] at this
    exact this
  have HC : Hid (∀ W, Calls Tryz.prog 95 #[.int .i64 k, .int .u64 y] W fun e w' => e = .returned (.int .u64 (Wd.canon k y)) ∧ w' = W) := fun W => canon_any k y W hy.1 hy.2
  generalize Wd.canon k y = Y at *
  have HX : Hid (IsC w.drew h s) := x1
  have c18 := x1.c18
  clear x x1 he hc es
  go_enter Tryz.func151, Tryz.ntmps151
  go_wp2_with fail
  refine tail_quiet 9 (by kernel_rfl) (by kernel_rfl) ?_
  generalize w.drew = W at *
  simp only [List.take_succ_cons, List.take_zero, List.drop_succ_cons, List.drop_zero]
  repeat (go_big_quiet_step (first | exact rfl | (exact HC.out _ _)))
  refine wpQuiet_nil ?_
  go_wp2_with (first
    | (go_at_call 153; refine (HS.out _ HX.out).mono ?_; rintro r w1 ⟨rfl, hm1, g1⟩)
    | (go_at_call 146; refine (pmust_ok _).mono ?_; rintro r w3 ⟨rfl, rfl⟩))
  first | go_end0 | go_returns
  exact ⟨rfl, HX.out.mem g1 hm1, HV.out.mem g1⟩
set_option maxRecDepth 100000 in
set_option maxHeartbeats 4000000 in
theorem pstore_no {w : World} {h : Pd} {s : Ru.St} (x : IsC w h s) (a k y : Int) (ha : Ru.W64 a) (hy : Ru.W64 y) (he : (Mm.lE h.S k a != 0) = true) :
    Calls Tryz.prog 151 #[.pointer (some ⟨h.B, 0, none⟩), .int .u64 a, .int .i64 k, .int .u64 y] w fun r w' => r = .panicked stk ∧ IsC w' h s ∧ Mc h w w' := by
  have x1 := x.kept (grown_drew (World.grownBy.refl w none))
  have HV : Hid (Mc h w w.drew) := Mc.refl.grown (grown_drew (World.grownBy.refl w none))
  have hc := Wd.canon_rng k y
  have he0 : Mm.lE h.S k a ≠ 0 := by simpa using he
  have HS : Hid (∀ W, IsC W h s → Calls Tryz.prog 153 #[.pointer (some ⟨h.M, 0, none⟩), .int .u64 a, .int .i64 k, .int .u64 (Wd.canon k y)] W fun r w' => r = .returned (.int .i64 (Mm.lE h.S k a)) ∧ IsM w' h.M h.D h.S s.m ∧ W.grownBy w' (some h.D)) := fun W hW => by
    have := store_any h.M h.D h.S s.m a k (Wd.canon k y) W hW.mm hW.s2 ha.1 ha.2 hc.1 hc.2
    rw [Mm.sE_canon, Mm.sM_canon, if_neg he0] at this
    exact this
  have HC : Hid (∀ W, Calls Tryz.prog 95 #[.int .i64 k, .int .u64 y] W fun e w' => e = .returned (.int .u64 (Wd.canon k y)) ∧ w' = W) := fun W => canon_any k y W hy.1 hy.2
  generalize Wd.canon k y = Y at *
  generalize Mm.lE h.S k a = E at *
  have HX : Hid (IsC w.drew h s) := x1
  have c18 := x1.c18
  clear x x1 hc he0
  go_enter Tryz.func151, Tryz.ntmps151
  go_wp2_with fail
  refine tail_quiet 9 (by kernel_rfl) (by kernel_rfl) ?_
  generalize w.drew = W at *
  simp only [List.take_succ_cons, List.take_zero, List.drop_succ_cons, List.drop_zero]
  repeat (go_big_quiet_step (first | exact rfl | (exact HC.out _ _)))
  refine wpQuiet_nil ?_
  go_wp2_with (first
    | (go_at_call 153; refine (HS.out _ HX.out).mono ?_; rintro r w1 ⟨rfl, hm1, g1⟩)
    | (go_at_call 146; refine (pmust_no E he _).mono ?_; rintro r w3 ⟨rfl, rfl⟩))
  exact ⟨rfl, rfl, HX.out.mem g1 hm1, HV.out.mem g1⟩
/-- the next multiple of 8 as it is reckoned -/
def rup (n : Int) : Int := IntKind.u64.wrap (IntKind.u64.wrap ((IntKind.u64.wrap (IntKind.u64.wrap (n + 8) - 1)).tdiv 8) * 8)
theorem rup_eq (n : Int) : rup n = (n + 7) % 18446744073709551616 / 8 * 8 := by
  unfold rup
  simp only [IntKind.wrap_u64]
  have e : ((n + 8) % 18446744073709551616 - 1) % 18446744073709551616 = (n + 7) % 18446744073709551616 := by omega
  rw [e, Int.tdiv_eq_ediv_of_nonneg (by omega)]
  omega
theorem pround (n : Int) (w : World) (h1 : 0 ≤ n) (h2 : n < 18446744073709551616) : Calls Tryz.prog 49 #[.int .u64 n] w fun r w' => r = .returned (.tuple #[.int .u64 (rup n), .bool (decide (n ≤ rup n))]) ∧ w' = w := by
  go_enter Tryz.func49, Tryz.ntmps49
  go_wp2
  go_returns
  exact ⟨rfl, rfl⟩
set_option maxRecDepth 100000 in
set_option maxHeartbeats 4000000 in
theorem palloc_stop {w : World} {h : Pd} {s : Ru.St} (x : IsC w h s) {a : Nat} (ha : a < 16) (n U : Int) (b : Bool) (n1 : 1 ≤ n) (n2 : n < 18446744073709551616) (u1 : 0 ≤ U) (u2 : U < 18446744073709551616)
    (HR : Hid (∀ W, Calls Tryz.prog 49 #[.int .u64 n] W fun r w' => r = .returned (.tuple #[.int .u64 U, .bool b]) ∧ w' = W))
    (hU : b = false ∨ (b = true ∧ 1048576 < U) ∨ (b = true ∧ U ≤ 1048576 ∧ (h.S : Int) - 4096 < s.hp + U)) :
    Calls Tryz.prog 152 #[.pointer (some ⟨h.B, 0, none⟩), .int .i64 a, .int .u64 n] w fun r w' => r = .returned (.tuple #[]) ∧ IsC w' h { s with e := 4, n := 0 } ∧ Mc h w w' := by
  obtain ⟨p1, p2⟩ := x.ok.hp
  have s1 := x.s1
  have s2 := x.s2
  have HX : Hid (IsC w h s) := x
  have c19 := x.c19
  have c20 := x.c20
  have HD : Hid (∀ d, IsC (w.drewN d) h s ∧ Mc h w (w.drewN d)) := fun d => ⟨HX.out.kept (grown_drewN (World.grownBy.refl w none) d), Mc.refl.grown (grown_drewN (World.grownBy.refl w none) d)⟩
  clear x
  have hU' : (b = false) ∨ (b = true ∧ decide (1048576 < U) = true) ∨ (b = true ∧ decide (1048576 < U) = false ∧ decide ((h.S : Int) - 4096 < IntKind.u64.wrap (s.hp + U)) = true) := by
    rcases hU with rfl | ⟨rfl, hU⟩ | ⟨rfl, hU, hV⟩
    · exact .inl rfl
    · exact .inr (.inl ⟨rfl, decide_eq_true hU⟩)
    · refine .inr (.inr ⟨rfl, decide_eq_false (by omega), decide_eq_true ?_⟩)
      rw [IntKind.wrap_u64]
      omega
  clear hU
  rcases hU' with rfl | ⟨rfl, hU⟩ | ⟨rfl, hU, hV⟩
  all_goals
    go_enter Tryz.func152, Tryz.ntmps152
    go_wp2_with (go_at_call 49; refine (HR.out _).mono ?_; rintro r w1 ⟨rfl, hw1⟩; rw [hw1]; clear hw1 w1)
    go_quiet (fail)
    go_wp2_with (go_at_call 51; refine (pfinish (HD.out _).1 4 0).mono ?_; rintro r w2 ⟨rfl, x2, v2⟩)
    first | go_end0 | go_returns
    exact ⟨rfl, x2, (HD.out _).2.trans v2⟩
set_option maxRecDepth 100000 in
set_option maxHeartbeats 4000000 in
theorem palloc_go {w : World} {h : Pd} {s : Ru.St} (x : IsC w h s) {a : Nat} (ha : a < 16) (n U : Int) (n1 : 1 ≤ n) (n2 : n < 18446744073709551616) (u1 : 0 ≤ U) (u2 : U ≤ 1048576)
    (HR : Hid (∀ W, Calls Tryz.prog 49 #[.int .u64 n] W fun r w' => r = .returned (.tuple #[.int .u64 U, .bool true]) ∧ w' = W))
    (hU : s.hp + U ≤ (h.S : Int) - 4096) :
    Calls Tryz.prog 152 #[.pointer (some ⟨h.B, 0, none⟩), .int .i64 a, .int .u64 n] w fun r w' => r = .returned (.tuple #[]) ∧ IsC w' h { s.put a s.hp with hp := s.hp + U } ∧ Mc h w w' := by
  obtain ⟨p1, p2⟩ := x.ok.hp
  have s1 := x.s1
  have s2 := x.s2
  have HX : Hid (IsC w h s) := x
  have c19 := x.c19
  have c20 := x.c20
  have ha' : (a : Int) < 16 := by omega
  have d1 : decide (1048576 < U) = false := decide_eq_false (by omega)
  have d2 : IntKind.u64.wrap (s.hp + U) = s.hp + U := by rw [IntKind.wrap_u64]; omega
  have d3 : decide ((h.S : Int) - 4096 < s.hp + U) = false := decide_eq_false (by omega)
  have d4 : decide ((h.S : Int) - 4096 < IntKind.u64.wrap (s.hp + U)) = false := by rw [d2]; exact d3
  have HD : Hid (∀ d, IsC (w.drewN d) h s ∧ Mc h w (w.drewN d)) := fun d => ⟨HX.out.kept (grown_drewN (World.grownBy.refl w none) d), Mc.refl.grown (grown_drewN (World.grownBy.refl w none) d)⟩
  clear x
  go_enter Tryz.func152, Tryz.ntmps152
  go_wp2_with (go_at_call 49; refine (HR.out _).mono ?_; rintro r w1 ⟨rfl, hw1⟩; rw [hw1]; clear hw1 w1)
  go_quiet (fail)
  obtain ⟨x1, v1⟩ := HD.out nq
  clear c19 c20 HD HX
  generalize w.drewN nq = W1 at *
  go_wp2
  refine tail_quiet 9 (by kernel_rfl) (by kernel_rfl) ?_
  have HX5 : Hid (IsC W1.drew h s) := x1.kept (grown_drew (World.grownBy.refl _ none))
  have V5 : Mc h w W1.drew := v1.grown (grown_drew (World.grownBy.refl _ none))
  clear x1 v1
  generalize W1.drew = W5 at *
  have c19 := HX5.out.c19
  have ra := HX5.out.rc ha
  have rf := HX5.out.fz (2 + a)
  simp only [List.take_succ_cons, List.take_zero, List.drop_succ_cons, List.drop_zero]
  repeat (go_big_quiet_step (exact rfl))
  refine wpQuiet_nil ?_
  have X5 := HX5.out.put ha (y := s.hp) ⟨p1, by omega⟩
  have e8 : (W5.setCell ⟨h.B, 2 + a, none⟩ (.int .u64 s.hp)).cell? ⟨h.B, 19, none⟩ = some (.int .u64 s.hp) := X5.c19
  have g8 := X5.fz 19
  have HX6 : Hid (IsC ((W5.setCell ⟨h.B, 2 + a, none⟩ (.int .u64 s.hp)).setCell ⟨h.B, 19, none⟩ (.int .u64 (s.hp + U))) h { s.put a s.hp with hp := s.hp + U }) := X5.hp (p := s.hp + U) (by omega)
  have HV6 : Hid (Mc h w ((W5.setCell ⟨h.B, 2 + a, none⟩ (.int .u64 s.hp)).setCell ⟨h.B, 19, none⟩ (.int .u64 (s.hp + U)))) := (V5.setB _ _).setB _ _
  clear X5 V5
  go_wp2
  first | go_end0 | go_returns
  exact ⟨rfl, HX6.out, HV6.out⟩
set_option maxRecDepth 100000 in
set_option maxHeartbeats 4000000 in
theorem palloc_stop0 {w : World} {h : Pd} {s : Ru.St} (x : IsC w h s) {a : Nat} (ha : a < 16) (n U : Int) (b : Bool) (hn : n = 0) (u1 : 0 ≤ U) (u2 : U < 18446744073709551616)
    (HR : Hid (∀ W, Calls Tryz.prog 49 #[.int .u64 1] W fun r w' => r = .returned (.tuple #[.int .u64 U, .bool b]) ∧ w' = W))
    (hU : b = false ∨ (b = true ∧ 1048576 < U) ∨ (b = true ∧ U ≤ 1048576 ∧ (h.S : Int) - 4096 < s.hp + U)) :
    Calls Tryz.prog 152 #[.pointer (some ⟨h.B, 0, none⟩), .int .i64 a, .int .u64 n] w fun r w' => r = .returned (.tuple #[]) ∧ IsC w' h { s with e := 4, n := 0 } ∧ Mc h w w' := by
  obtain ⟨p1, p2⟩ := x.ok.hp
  have s1 := x.s1
  have s2 := x.s2
  have HX : Hid (IsC w h s) := x
  have c19 := x.c19
  have c20 := x.c20
  have HD : Hid (∀ d, IsC (w.drewN d) h s ∧ Mc h w (w.drewN d)) := fun d => ⟨HX.out.kept (grown_drewN (World.grownBy.refl w none) d), Mc.refl.grown (grown_drewN (World.grownBy.refl w none) d)⟩
  clear x
  subst hn
  have hU' : (b = false) ∨ (b = true ∧ decide (1048576 < U) = true) ∨ (b = true ∧ decide (1048576 < U) = false ∧ decide ((h.S : Int) - 4096 < IntKind.u64.wrap (s.hp + U)) = true) := by
    rcases hU with rfl | ⟨rfl, hU⟩ | ⟨rfl, hU, hV⟩
    · exact .inl rfl
    · exact .inr (.inl ⟨rfl, decide_eq_true hU⟩)
    · refine .inr (.inr ⟨rfl, decide_eq_false (by omega), decide_eq_true ?_⟩)
      rw [IntKind.wrap_u64]
      omega
  clear hU
  rcases hU' with rfl | ⟨rfl, hU⟩ | ⟨rfl, hU, hV⟩
  all_goals
    go_enter Tryz.func152, Tryz.ntmps152
    go_wp2_with (go_at_call 49; refine (HR.out _).mono ?_; rintro r w1 ⟨rfl, hw1⟩; rw [hw1]; clear hw1 w1)
    go_quiet (fail)
    go_wp2_with (go_at_call 51; refine (pfinish (HD.out _).1 4 0).mono ?_; rintro r w2 ⟨rfl, x2, v2⟩)
    first | go_end0 | go_returns
    exact ⟨rfl, x2, (HD.out _).2.trans v2⟩
set_option maxRecDepth 100000 in
set_option maxHeartbeats 4000000 in
theorem palloc_go0 {w : World} {h : Pd} {s : Ru.St} (x : IsC w h s) {a : Nat} (ha : a < 16) (n U : Int) (hn : n = 0) (u1 : 0 ≤ U) (u2 : U ≤ 1048576)
    (HR : Hid (∀ W, Calls Tryz.prog 49 #[.int .u64 1] W fun r w' => r = .returned (.tuple #[.int .u64 U, .bool true]) ∧ w' = W))
    (hU : s.hp + U ≤ (h.S : Int) - 4096) :
    Calls Tryz.prog 152 #[.pointer (some ⟨h.B, 0, none⟩), .int .i64 a, .int .u64 n] w fun r w' => r = .returned (.tuple #[]) ∧ IsC w' h { s.put a s.hp with hp := s.hp + U } ∧ Mc h w w' := by
  obtain ⟨p1, p2⟩ := x.ok.hp
  have s1 := x.s1
  have s2 := x.s2
  have HX : Hid (IsC w h s) := x
  have c19 := x.c19
  have c20 := x.c20
  have ha' : (a : Int) < 16 := by omega
  have d1 : decide (1048576 < U) = false := decide_eq_false (by omega)
  have d2 : IntKind.u64.wrap (s.hp + U) = s.hp + U := by rw [IntKind.wrap_u64]; omega
  have d3 : decide ((h.S : Int) - 4096 < s.hp + U) = false := decide_eq_false (by omega)
  have d4 : decide ((h.S : Int) - 4096 < IntKind.u64.wrap (s.hp + U)) = false := by rw [d2]; exact d3
  have HD : Hid (∀ d, IsC (w.drewN d) h s ∧ Mc h w (w.drewN d)) := fun d => ⟨HX.out.kept (grown_drewN (World.grownBy.refl w none) d), Mc.refl.grown (grown_drewN (World.grownBy.refl w none) d)⟩
  clear x
  subst hn
  go_enter Tryz.func152, Tryz.ntmps152
  go_wp2_with (go_at_call 49; refine (HR.out _).mono ?_; rintro r w1 ⟨rfl, hw1⟩; rw [hw1]; clear hw1 w1)
  go_quiet (fail)
  obtain ⟨x1, v1⟩ := HD.out nq
  clear c19 c20 HD HX
  generalize w.drewN nq = W1 at *
  go_wp2
  refine tail_quiet 9 (by kernel_rfl) (by kernel_rfl) ?_
  have HX5 : Hid (IsC W1.drew h s) := x1.kept (grown_drew (World.grownBy.refl _ none))
  have V5 : Mc h w W1.drew := v1.grown (grown_drew (World.grownBy.refl _ none))
  clear x1 v1
  generalize W1.drew = W5 at *
  have c19 := HX5.out.c19
  have ra := HX5.out.rc ha
  have rf := HX5.out.fz (2 + a)
  simp only [List.take_succ_cons, List.take_zero, List.drop_succ_cons, List.drop_zero]
  repeat (go_big_quiet_step (exact rfl))
  refine wpQuiet_nil ?_
  have X5 := HX5.out.put ha (y := s.hp) ⟨p1, by omega⟩
  have e8 : (W5.setCell ⟨h.B, 2 + a, none⟩ (.int .u64 s.hp)).cell? ⟨h.B, 19, none⟩ = some (.int .u64 s.hp) := X5.c19
  have g8 := X5.fz 19
  have HX6 : Hid (IsC ((W5.setCell ⟨h.B, 2 + a, none⟩ (.int .u64 s.hp)).setCell ⟨h.B, 19, none⟩ (.int .u64 (s.hp + U))) h { s.put a s.hp with hp := s.hp + U }) := X5.hp (p := s.hp + U) (by omega)
  have HV6 : Hid (Mc h w ((W5.setCell ⟨h.B, 2 + a, none⟩ (.int .u64 s.hp)).setCell ⟨h.B, 19, none⟩ (.int .u64 (s.hp + U)))) := (V5.setB _ _).setB _ _
  clear X5 V5
  go_wp2
  first | go_end0 | go_returns
  exact ⟨rfl, HX6.out, HV6.out⟩

theorem palloc {w : World} {h : Pd} {s : Ru.St} (x : IsC w h s) (he : s.e = 0) {a : Nat} (ha : a < 16) (n : Int) (hn : Ru.W64 n) :
    Calls Tryz.prog 152 #[.pointer (some ⟨h.B, 0, none⟩), .int .i64 a, .int .u64 n] w fun r w' => r = .returned (.tuple #[]) ∧ IsC w' h (s.alloc h.im a n) ∧ Mc h w w' := by
  obtain ⟨n1, n2⟩ := hn
  have hst : ∀ e m, s.stop e m = { s with e := e, n := m } := fun e m => by unfold Ru.St.stop; rw [if_pos he]
  have hl : h.im.lim = h.S - 4096 := rfl
  unfold Ru.St.alloc
  rw [hl]
  by_cases h0 : n = 0
  · have eu : Ru.up n = 0 := by rw [h0]; rfl
    have er : rup 1 = 8 := by rw [rup_eq]; rfl
    have HR : Hid (∀ W, Calls Tryz.prog 49 #[.int .u64 1] W fun r w' => r = .returned (.tuple #[.int .u64 8, .bool true]) ∧ w' = W) := fun W => by
      have := pround 1 W (by omega) (by omega)
      rw [er] at this
      exact this
    rw [if_neg (by omega), eu, if_pos rfl]
    by_cases c : (h.S : Int) - 4096 < s.hp + 8
    · rw [if_pos c, hst]
      exact palloc_stop0 x ha n 8 true h0 (by omega) (by omega) HR (.inr (.inr ⟨rfl, by omega, c⟩))
    · rw [if_neg c]
      exact palloc_go0 x ha n 8 h0 (by omega) (by omega) HR (by omega)
  · have er := rup_eq n
    have HR : Hid (∀ W, Calls Tryz.prog 49 #[.int .u64 n] W fun r w' => r = .returned (.tuple #[.int .u64 (rup n), .bool (decide (n ≤ rup n))]) ∧ w' = W) := fun W => pround n W n1 n2
    by_cases c1 : 1048576 < n
    · rw [if_pos c1, hst]
      refine palloc_stop x ha n (rup n) _ (by omega) n2 (by omega) (by omega) HR ?_
      by_cases c : n ≤ rup n
      · exact .inr (.inl ⟨decide_eq_true c, by omega⟩)
      · exact .inl (decide_eq_false c)
    · have eu : Ru.up n = rup n := by unfold Ru.up; omega
      have ed : decide (n ≤ rup n) = true := decide_eq_true (by omega)
      rw [ed] at HR
      have e3 : (if rup n = 0 then (8 : Int) else rup n) = rup n := if_neg (by omega)
      rw [if_neg c1, eu, e3]
      by_cases c : (h.S : Int) - 4096 < s.hp + rup n
      · rw [if_pos c, hst]
        exact palloc_stop x ha n (rup n) true (by omega) n2 (by omega) (by omega) HR (.inr (.inr ⟨rfl, by omega, c⟩))
      · rw [if_neg c]
        exact palloc_go x ha n (rup n) (by omega) n2 (by omega) (by omega) HR (by omega)
end Go.Proofs.YtdklaeppcjopoaaGreatDoor

/- Ranges of what words' operations tell. -/
namespace Go.Proofs.YtdklaeppcjopoaaGreatDoor
open Go.RowKit
set_option linter.unusedVariables false

namespace Ru
theorem tr_w (b : Bool) : W64 (Wd.tr b) := by cases b <;> exact ⟨by decide, by decide⟩
theorem cmp_w' (op a b : Int) : W64 (Wd.cmpI op a b) := by
  unfold Wd.cmpI
  repeat' split
  all_goals first | exact tr_w _ | exact ⟨by decide, by decide⟩
theorem bu_w (op k x y : Int) : W64 (Wd.bu op k x y) := by
  unfold Wd.bu
  repeat' split
  all_goals first | exact Wd.canon_rng _ _ | exact cmp_w' _ _ _
theorem bs_w (op k x y : Int) : W64 (Wd.bs op k x y) := by
  unfold Wd.bs
  repeat' split
  all_goals first | exact Wd.canon_rng _ _ | exact cmp_w' _ _ _ | exact bu_w _ _ _ _ | (unfold W64; omega)
theorem bin_w (op k x y : Int) : W64 (Fl.binA op k x y).1 := by
  unfold Fl.binA
  split
  · exact Fl.bv_rng
  · unfold Wd.binI
    repeat' split
    all_goals first | exact bs_w _ _ _ _ | exact bu_w _ _ _ _ | exact ⟨by decide, by decide⟩
theorem un_w {op k x : Int} (hx : W64 x) : W64 (Wd.unI op k x).1 := by
  unfold Wd.unI
  split
  · exact ⟨by decide, by decide⟩
  · rename_i h1
    split
    · exact ⟨by decide, by decide⟩
    · rename_i h2
      split
      · rename_i h3
        subst h3
        have hk : k = 1 := by
          simp only [Wd.hasUnB, Bool.not_eq_false] at h1
          simpa using h1
        subst hk
        have h4 : Wd.canon 1 x = x := by
          simp only [Wd.isB, Bool.not_eq_false, Bool.and_eq_true, beq_iff_eq] at h2
          exact h2.2
        rw [Wd.canon1] at h4
        unfold W64
        dsimp only
        omega
      · repeat' split
        all_goals first | exact Wd.canon_rng _ _ | (obtain ⟨a, b⟩ := hx; unfold W64 Wd.flip; dsimp only; split <;> omega)
theorem flt_w (s : Int) : W64 (floatOfInt .f64 s : Nat) := by
  have h := Ieee.Format.nearest_lt Ieee.double (decide (s < 0)) s.natAbs 0
  have e : 2 ^ Ieee.double.width = 18446744073709551616 := by decide +kernel
  rw [e] at h
  have h' : floatOfInt .f64 s < 18446744073709551616 := h
  unfold W64
  omega
theorem conv_w {k t x : Int} (hx : W64 x) : W64 (Fl.convA k t x).1 := by
  unfold Fl.convA
  repeat' split
  all_goals first | exact ⟨by decide, by decide⟩ | exact hx | exact Wd.canon_rng _ _ | exact flt_w _
theorem lv_w (S : Nat) (m : Nat → Int) (k a : Int) : W64 (Mm.lV S m k a) := by
  unfold Mm.lV
  split
  · exact Wd.canon_rng _ _
  · exact ⟨by decide, by decide⟩
theorem movh {r i : Int} (r1 : 0 ≤ r) (r2 : r < 18446744073709551616) : bits .or .u64 (bits .and .u64 r 4294967295) (IntKind.u64.wrap (Ru.wr i * 4294967296)) = r % 4294967296 + i % 4294967296 * 4294967296 := by
  have e1 : bits .and .u64 r 4294967295 = r % 4294967296 := by
    obtain ⟨a, rfl⟩ : ∃ a : Nat, r = a := ⟨r.toNat, by omega⟩
    show bits .and .u64 (a : Int) ((4294967295 : Nat) : Int) = _
    rw [Mm.bits_and rfl (by show a < 2 ^ 64; omega) (by decide)]
    have : a &&& 4294967295 = a % 2 ^ 32 := Nat.and_two_pow_sub_one_eq_mod a 32
    rw [this]
    omega
  have e2 : IntKind.u64.wrap (Ru.wr i * 4294967296) = i % 4294967296 * 2 ^ 32 := by rw [IntKind.wrap_u64]; unfold Ru.wr; omega
  rw [e1, e2]
  have := Mm.or_high (k := .u64) rfl (x := r % 4294967296) (y := i % 4294967296) (j := 32) (by omega) (by show _ < (4294967296 : Int); omega) (by omega) (by show _ < (18446744073709551616 : Int); show r % 4294967296 + i % 4294967296 * 4294967296 < _; omega)
  exact this
end Ru
end Go.Proofs.YtdklaeppcjopoaaGreatDoor

/- The program's machine: calls; C64's addresses, flags. -/
namespace Go.Proofs.YtdklaeppcjopoaaGreatDoor
open Go.RowKit
set_option linter.unusedVariables false

set_option maxRecDepth 100000 in
set_option maxHeartbeats 4000000 in
/-- no room on the stack -/
theorem pcall_full {w : World} {h : Pd} {s : Ru.St} (x : IsC w h s) (n : Int) (hl : Ru.wr (s.r 15 - 8) < (h.S : Int) - 4096) :
    Calls Tryz.prog 137 #[.pointer (some ⟨h.B, 0, none⟩), .int .i64 n] w fun r w' => r = .returned (.tuple #[]) ∧ IsC w' h { s.put 15 (Ru.wr (s.r 15 - 8)) with e := 4, n := 0 } ∧ Mc h w w' := by
  have c17 : w.cell? ⟨h.B, 17, none⟩ = some (.int .u64 (s.r 15)) := x.rc (a := 15) (by decide)
  have f17 := x.fz 17
  have eW : IntKind.u64.wrap (s.r 15 - 8) = Ru.wr (s.r 15 - 8) := by rw [IntKind.wrap_u64]; rfl
  have hA := Ru.wr_w (s.r 15 - 8)
  generalize Ru.wr (s.r 15 - 8) = A at *
  have x1 : IsC (w.setCell ⟨h.B, 17, none⟩ (.int .u64 A)) h (s.put 15 A) := x.put (a := 15) (by decide) hA
  have HV1 : Hid (Mc h w (w.setCell ⟨h.B, 17, none⟩ (.int .u64 A))) := Mc.refl.setB _ _
  have c17' : (w.setCell ⟨h.B, 17, none⟩ (.int .u64 A)).cell? ⟨h.B, 17, none⟩ = some (.int .u64 A) := World.cell?_setCell_same _ _ _ c17
  have c20' := x1.c20
  have HX : Hid (IsC (w.setCell ⟨h.B, 17, none⟩ (.int .u64 A)) h (s.put 15 A)) := x1
  clear x x1 hA
  go_enter Tryz.func137, Tryz.ntmps137
  go_wp2_with fail
  generalize w.setCell ⟨h.B, 17, none⟩ (.int .u64 A) = W at *
  have HD : Hid (∀ d, IsC (W.drewN d) h (s.put 15 A) ∧ Mc h w (W.drewN d)) := fun d => ⟨HX.out.kept (grown_drewN (World.grownBy.refl W none) d), HV1.out.grown (grown_drewN (World.grownBy.refl W none) d)⟩
  go_quiet (fail)
  go_wp2_with (go_at_call 51; refine (pfinish (HD.out _).1 4 0).mono ?_; rintro r w2 ⟨rfl, x2, v2⟩)
  first | go_end0 | go_returns
  exact ⟨rfl, x2, (HD.out _).2.trans v2⟩
set_option maxRecDepth 100000 in
set_option maxHeartbeats 4000000 in
theorem pcall_ok {w : World} {h : Pd} {s : Ru.St} (x : IsC w h s) (n : Int) (hl : (h.S : Int) - 4096 ≤ Ru.wr (s.r 15 - 8)) (he : Mm.lE h.S 9 (Ru.wr (s.r 15 - 8)) = 0) :
    Calls Tryz.prog 137 #[.pointer (some ⟨h.B, 0, none⟩), .int .i64 n] w fun r w' => r = .returned (.tuple #[]) ∧ IsC w' h (((s.put 15 (Ru.wr (s.r 15 - 8))).lay h.S (Ru.wr (s.r 15 - 8)) 9 (Ru.wr s.pl)).goto (((s.put 15 (Ru.wr (s.r 15 - 8))).lay h.S (Ru.wr (s.r 15 - 8)) 9 (Ru.wr s.pl)).pl + n)) ∧ Mc h w w' := by
  have c17 : w.cell? ⟨h.B, 17, none⟩ = some (.int .u64 (s.r 15)) := x.rc (a := 15) (by decide)
  have f17 := x.fz 17
  have eW : IntKind.u64.wrap (s.r 15 - 8) = Ru.wr (s.r 15 - 8) := by rw [IntKind.wrap_u64]; rfl
  have hA := Ru.wr_w (s.r 15 - 8)
  have hP := Ru.wr_w s.pl
  generalize Ru.wr (s.r 15 - 8) = A at *
  have x1 : IsC (w.setCell ⟨h.B, 17, none⟩ (.int .u64 A)) h (s.put 15 A) := x.put (a := 15) (by decide) hA
  have HV1 : Hid (Mc h w (w.setCell ⟨h.B, 17, none⟩ (.int .u64 A))) := Mc.refl.setB _ _
  have c17' : (w.setCell ⟨h.B, 17, none⟩ (.int .u64 A)).cell? ⟨h.B, 17, none⟩ = some (.int .u64 A) := World.cell?_setCell_same _ _ _ c17
  have c20' := x1.c20
  have c1' : (w.setCell ⟨h.B, 17, none⟩ (.int .u64 A)).cell? ⟨h.B, 1, none⟩ = some (.int .u64 (Ru.wr s.pl)) := x1.c1
  have HX : Hid (IsC (w.setCell ⟨h.B, 17, none⟩ (.int .u64 A)) h (s.put 15 A)) := x1
  have HA : Hid (Ru.W64 A) := hA
  have HP : Hid (Ru.W64 (Ru.wr s.pl)) := hP
  clear x x1 hA hP
  go_enter Tryz.func137, Tryz.ntmps137
  go_wp2_with fail
  generalize w.setCell ⟨h.B, 17, none⟩ (.int .u64 A) = W at *
  have HD : Hid (∀ d, IsC (W.drewN d) h (s.put 15 A) ∧ Mc h w (W.drewN d)) := fun d => ⟨HX.out.kept (grown_drewN (World.grownBy.refl W none) d), HV1.out.grown (grown_drewN (World.grownBy.refl W none) d)⟩
  go_quiet (fail)
  obtain ⟨x2, v2⟩ := HD.out nq
  clear c17 f17 c17' c20' c1' HX HV1 HD
  generalize W.drewN nq = W2 at *
  go_wp2_with fail
  refine tail_quiet 8 (by kernel_rfl) (by kernel_rfl) ?_
  have HX3 : Hid (IsC W2.drew h (s.put 15 A)) := x2.kept (grown_drew (World.grownBy.refl _ none))
  have HV3 : Hid (Mc h w W2.drew) := v2.grown (grown_drew (World.grownBy.refl _ none))
  clear x2 v2
  generalize W2.drew = W3 at *
  have c17 : W3.cell? ⟨h.B, 17, none⟩ = some (.int .u64 A) := HX3.out.rc (a := 15) (by decide)
  have c1 : W3.cell? ⟨h.B, 1, none⟩ = some (.int .u64 (Ru.wr s.pl)) := HX3.out.c1
  simp only [List.take_succ_cons, List.take_zero, List.drop_succ_cons, List.drop_zero]
  repeat (go_big_quiet_step (exact rfl))
  refine wpQuiet_nil ?_
  go_wp2_with (first
    | (go_at_call 151; refine (pstore_ok HX3.out A 9 (Ru.wr s.pl) HA.out HP.out he).mono ?_; rintro r w4 ⟨rfl, x4, v4⟩)
    | (go_at_call 144; refine (pjump x4 n).mono ?_; rintro r w5 ⟨rfl, x5, v5⟩))
  first | go_end0 | go_returns
  exact ⟨rfl, x5, (HV3.out.trans v4).trans v5⟩
set_option maxRecDepth 100000 in
set_option maxHeartbeats 4000000 in
theorem pcall_no {w : World} {h : Pd} {s : Ru.St} (x : IsC w h s) (n : Int) (hl : (h.S : Int) - 4096 ≤ Ru.wr (s.r 15 - 8)) (he : (Mm.lE h.S 9 (Ru.wr (s.r 15 - 8)) != 0) = true) :
    Calls Tryz.prog 137 #[.pointer (some ⟨h.B, 0, none⟩), .int .i64 n] w fun r w' => r = .panicked stk ∧ (∃ s', IsC w' h s') ∧ Mc h w w' := by
  have c17 : w.cell? ⟨h.B, 17, none⟩ = some (.int .u64 (s.r 15)) := x.rc (a := 15) (by decide)
  have f17 := x.fz 17
  have eW : IntKind.u64.wrap (s.r 15 - 8) = Ru.wr (s.r 15 - 8) := by rw [IntKind.wrap_u64]; rfl
  have hA := Ru.wr_w (s.r 15 - 8)
  have hP := Ru.wr_w s.pl
  generalize Ru.wr (s.r 15 - 8) = A at *
  have x1 : IsC (w.setCell ⟨h.B, 17, none⟩ (.int .u64 A)) h (s.put 15 A) := x.put (a := 15) (by decide) hA
  have HV1 : Hid (Mc h w (w.setCell ⟨h.B, 17, none⟩ (.int .u64 A))) := Mc.refl.setB _ _
  have c17' : (w.setCell ⟨h.B, 17, none⟩ (.int .u64 A)).cell? ⟨h.B, 17, none⟩ = some (.int .u64 A) := World.cell?_setCell_same _ _ _ c17
  have c20' := x1.c20
  have c1' : (w.setCell ⟨h.B, 17, none⟩ (.int .u64 A)).cell? ⟨h.B, 1, none⟩ = some (.int .u64 (Ru.wr s.pl)) := x1.c1
  have HX : Hid (IsC (w.setCell ⟨h.B, 17, none⟩ (.int .u64 A)) h (s.put 15 A)) := x1
  have HA : Hid (Ru.W64 A) := hA
  have HP : Hid (Ru.W64 (Ru.wr s.pl)) := hP
  clear x x1 hA hP
  go_enter Tryz.func137, Tryz.ntmps137
  go_wp2_with fail
  generalize w.setCell ⟨h.B, 17, none⟩ (.int .u64 A) = W at *
  have HD : Hid (∀ d, IsC (W.drewN d) h (s.put 15 A) ∧ Mc h w (W.drewN d)) := fun d => ⟨HX.out.kept (grown_drewN (World.grownBy.refl W none) d), HV1.out.grown (grown_drewN (World.grownBy.refl W none) d)⟩
  go_quiet (fail)
  obtain ⟨x2, v2⟩ := HD.out nq
  clear c17 f17 c17' c20' c1' HX HV1 HD
  generalize W.drewN nq = W2 at *
  go_wp2_with fail
  refine tail_quiet 8 (by kernel_rfl) (by kernel_rfl) ?_
  have HX3 : Hid (IsC W2.drew h (s.put 15 A)) := x2.kept (grown_drew (World.grownBy.refl _ none))
  have HV3 : Hid (Mc h w W2.drew) := v2.grown (grown_drew (World.grownBy.refl _ none))
  clear x2 v2
  generalize W2.drew = W3 at *
  have c17 : W3.cell? ⟨h.B, 17, none⟩ = some (.int .u64 A) := HX3.out.rc (a := 15) (by decide)
  have c1 : W3.cell? ⟨h.B, 1, none⟩ = some (.int .u64 (Ru.wr s.pl)) := HX3.out.c1
  simp only [List.take_succ_cons, List.take_zero, List.drop_succ_cons, List.drop_zero]
  repeat (go_big_quiet_step (exact rfl))
  refine wpQuiet_nil ?_
  go_wp2_with (go_at_call 151; refine (pstore_no HX3.out A 9 (Ru.wr s.pl) HA.out HP.out he).mono ?_; rintro r w4 ⟨rfl, x4, v4⟩)
  exact ⟨rfl, rfl, ⟨_, x4⟩, HV3.out.trans v4⟩
theorem padr_eq (p q c i : Int) : IntKind.u64.wrap (IntKind.u64.wrap (p + IntKind.u64.wrap (q * IntKind.u64.wrap c)) + IntKind.u64.wrap i) = Ru.wr (p + q * c + i) := by
  simp only [IntKind.wrap_u64]
  unfold Ru.wr
  rw [Int.mul_emod, Int.emod_emod_of_dvd c (by decide : (18446744073709551616 : Int) ∣ 18446744073709551616), ← Int.mul_emod]
  generalize q * c = z
  omega
set_option maxRecDepth 100000 in
set_option maxHeartbeats 4000000 in
theorem paddress {w : World} {h : Pd} {s : Ru.St} (x : IsC w h s) (op a : Int) (b c : Nat) (k sub sc imm lb : Int) (b16 : b < 16) (c16 : c < 16) :
    Calls Tryz.prog 161 #[.pointer (some ⟨h.B, 0, none⟩), .agg #[.int .i64 op, .int .i64 a, .int .i64 b, .int .i64 c, .int .i64 k, .int .i64 sub, .int .i64 sc, .int .i64 imm, .int .i64 lb]] w fun r w' => r = .returned (.int .u64 (s.adr ⟨op, a, b, c, k, sub, sc, imm, lb⟩)) ∧ w.grownBy w' none := by
  have HA : Hid (s.adr ⟨op, a, b, c, k, sub, sc, imm, lb⟩ = Ru.wr (s.r b + s.r c * sc + imm)) := rfl
  have G := World.grownBy_alloc w (Obj.cells #[.int .i64 op, .int .i64 a, .int .i64 b, .int .i64 c, .int .i64 k, .int .i64 sub, .int .i64 sc, .int .i64 imm, .int .i64 lb] 34) none
  have x1 := x.kept G
  have I : InstAt (w.alloc (Obj.cells #[.int .i64 op, .int .i64 a, .int .i64 b, .int .i64 c, .int .i64 k, .int .i64 sub, .int .i64 sc, .int .i64 imm, .int .i64 lb] 34)) w.heap.size ⟨op, a, b, c, k, sub, sc, imm, lb⟩ := InstAt.new w ⟨op, a, b, c, k, sub, sc, imm, lb⟩
  have hb' : (b : Int) < 16 := by omega
  have hc' : (c : Int) < 16 := by omega
  go_enter Tryz.func161, Tryz.ntmps161
  go_wp2_with fail
  generalize w.alloc (Obj.cells #[.int .i64 op, .int .i64 a, .int .i64 b, .int .i64 c, .int .i64 k, .int .i64 sub, .int .i64 sc, .int .i64 imm, .int .i64 lb] 34) = W at *
  have rb := x1.rc b16
  have rc := x1.rc c16
  obtain ⟨d0, d1, d2, d3, d4, d5, d6, d7, d8, dz⟩ := I
  clear dz x x1
  go_quiet (fail)
  go_wp2
  go_ret
  refine ⟨?_, grown_drewN G _⟩
  rw [HA.out, ← padr_eq]
  rfl
set_option maxRecDepth 100000 in
set_option maxHeartbeats 4000000 in
theorem pcompare {w : World} {h : Pd} {s : Ru.St} (x : IsC w h s) (t2 : h.t = 2) (k p q : Int) (hp : Ru.W64 p) (hq : Ru.W64 q) :
    Calls Tryz.prog 163 #[.pointer (some ⟨h.B, 0, none⟩), .int .i64 k, .int .u64 p, .int .u64 q] w fun r w' => r = .returned (.tuple #[]) ∧ IsC w' h (s.flg k p q) ∧ Mc h w w' := by
  have c23 := x.c23 t2
  have c24 := x.c24 t2
  have c25 := x.c25 t2
  have f23 := x.fz 23
  have f24 := x.fz 24
  have f25 := x.fz 25
  obtain ⟨p1, p2⟩ := hp
  obtain ⟨q1, q2⟩ := hq
  have HX6 : Hid (IsC (((w.setCell ⟨h.B, 23, none⟩ (.int .i64 k)).setCell ⟨h.B, 24, none⟩ (.int .u64 (Wd.canon k p))).setCell ⟨h.B, 25, none⟩ (.int .u64 (Wd.canon k q))) h (s.flg k p q)) := ((x.fk k).fx (Wd.canon_rng k p)).fy (Wd.canon_rng k q)
  have HV6 : Hid (Mc h w (((w.setCell ⟨h.B, 23, none⟩ (.int .i64 k)).setCell ⟨h.B, 24, none⟩ (.int .u64 (Wd.canon k p))).setCell ⟨h.B, 25, none⟩ (.int .u64 (Wd.canon k q)))) := ((Mc.refl.setB _ _).setB _ _).setB _ _
  have HC : Hid (∀ W, Calls Tryz.prog 95 #[.int .i64 k, .int .u64 p] W fun e w' => e = .returned (.int .u64 (Wd.canon k p)) ∧ w' = W) := fun W => canon_any k p W p1 p2
  have HD : Hid (∀ W, Calls Tryz.prog 95 #[.int .i64 k, .int .u64 q] W fun e w' => e = .returned (.int .u64 (Wd.canon k q)) ∧ w' = W) := fun W => canon_any k q W q1 q2
  generalize Wd.canon k p = X at *
  generalize Wd.canon k q = Y at *
  clear x
  go_enter Tryz.func163, Tryz.ntmps163
  go_wp2_with (first
    | (go_at_call 95; refine (HC.out _).mono ?_; rintro r w1 ⟨rfl, rfl⟩; clear HC)
    | (go_at_call 95; refine (HD.out _).mono ?_; rintro r w1 ⟨rfl, rfl⟩))
  first | go_end0 | go_returns
  exact ⟨rfl, HX6.out, HV6.out⟩
end Go.Proofs.YtdklaeppcjopoaaGreatDoor

/- The program's machine: what C64's flags say; a division's two answers. -/
namespace Go.Proofs.YtdklaeppcjopoaaGreatDoor
open Go.RowKit
set_option linter.unusedVariables false

namespace Ru
/-- flags are words of their kind -/
def St.Fc (s : St) : Prop := Wd.canon s.k s.x = s.x ∧ Wd.canon s.k s.y = s.y
theorem bin0 (sub x y : Int) : (Fl.binA sub 0 x y).2 ≠ 0 := by
  have h : Wd.hasBinB sub 0 = false := rfl
  unfold Fl.binA Wd.binI
  rw [if_neg (by decide), h]
  simp
theorem ky_cmp {sub : Int} (h : Wd.shB sub = false) (k : Int) : ky sub k = k := by unfold ky; rw [h]; rfl
/-- both answers of a division are there, or none -/
theorem div_both {k : Int} (h : Wd.intB k = true) (x y : Int) : (Fl.binA 4 k x y).2 = (Fl.binA 5 k x y).2 := by
  have h4 : Wd.hasBinB 4 k = true := by unfold Wd.hasBinB; rw [h]; rfl
  have h5 : Wd.hasBinB 5 k = true := by unfold Wd.hasBinB; rw [h]; rfl
  unfold Fl.binA
  split
  · rename_i hk; subst hk; exact absurd h (by decide)
  · unfold Wd.binI
    rw [h4, h5, show Wd.shB 4 = false from rfl, show Wd.shB 5 = false from rfl]
    by_cases c1 : Wd.isB k x = false ∨ Wd.isB k y = false
    · simp [c1]
    · by_cases c2 : y = 0
      · simp [c2]
      · cases Wd.sgnB k <;> simp [c1, c2]
/-- a division of other kinds: none -/
theorem div_none {k sub : Int} (hs : sub = 4 ∨ sub = 5) (h : Wd.intB k = false) (hk : k ≠ 10) (x y : Int) : (Fl.binA sub k x y).2 ≠ 0 := by
  have hb : Wd.hasBinB sub k = false := by
    unfold Wd.hasBinB
    rw [h]
    have h10 : (k == 10) = false := by simpa using hk
    rw [h10]
    rcases hs with rfl | rfl <;> simp
  unfold Fl.binA Wd.binI
  rw [if_neg hk, hb]
  simp
end Ru
def SayF (s : Ru.St) (sub : Int) : Int × Int := Fl.binA sub s.k (Wd.canon s.k s.x) (Wd.canon (Ru.ky sub s.k) s.y)
theorem sayF_eq {s : Ru.St} {sub : Int} (fc : s.Fc) (hs : Wd.shB sub = false) : SayF s sub = Fl.binA sub s.k s.x s.y := by
  unfold SayF
  rw [Ru.ky_cmp hs, fc.1, fc.2]
set_option maxRecDepth 100000 in
set_option maxHeartbeats 4000000 in
theorem psay_ok {w : World} {h : Pd} {s : Ru.St} (x : IsC w h s) (t2 : h.t = 2) (fc : s.Fc) (sub : Int) (hs : Wd.shB sub = false) (ho : s.okF sub = true) :
    Calls Tryz.prog 162 #[.pointer (some ⟨h.B, 0, none⟩), .int .i64 sub] w fun r w' => r = .returned (.int .u64 (Fl.binA sub s.k s.x s.y).1) ∧ w.grownBy w' none := by
  have hF : Fl.binA sub s.k (Wd.canon s.k s.x) (Wd.canon (Ru.ky sub s.k) s.y) = ((Fl.binA sub s.k s.x s.y).1, 0) := by
    have := sayF_eq fc hs
    unfold SayF at this
    rw [this]
    unfold Ru.St.okF at ho
    simp only [Bool.and_eq_true, beq_iff_eq] at ho
    rw [← ho.2]
  have HB : Hid (∀ W, Calls Tryz.prog 142 #[.int .i64 sub, .int .i64 s.k, .int .u64 s.x, .int .u64 s.y] W fun r w' => r = .returned (.int .u64 (Fl.binA sub s.k s.x s.y).1) ∧ W.grownBy w' none) := fun W => pbin_ok _ _ _ _ _ x.ok.x x.ok.y W hF
  generalize (Fl.binA sub s.k s.x s.y).1 = V at *
  have HX : Hid (IsC w h s) := x
  have c23 := fun y : Gw w => (HX.out.kept y.h).c23 t2
  have c24 := fun y : Gw w => (HX.out.kept y.h).c24 t2
  have c25 := fun y : Gw w => (HX.out.kept y.h).c25 t2
  clear x hF fc ho
  go_enter Tryz.func162, Tryz.ntmps162
  go_wp2_with fail
  refine region_grown (by kernel_rfl) (by kernel_rfl) ?_
  repeat (go_big_quiet_step (first | exact rfl | (go_at_call 142; exact Gw.call (HB.out _))))
  refine wpQuiet_nil ?_
  rintro W4 ⟨x4, hx4⟩
  have G4 : w.grownBy W4 none := by rw [hx4]; exact x4.h
  clear hx4 x4 c23 c24 c25
  go_wp2
  go_ret
  exact ⟨rfl, G4⟩
set_option maxRecDepth 100000 in
set_option maxHeartbeats 4000000 in
theorem psay_no {w : World} {h : Pd} {s : Ru.St} (x : IsC w h s) (t2 : h.t = 2) (fc : s.Fc) (sub : Int) (hs : Wd.shB sub = false) (ho : s.okF sub = false) :
    Calls Tryz.prog 162 #[.pointer (some ⟨h.B, 0, none⟩), .int .i64 sub] w fun r w' => r = .panicked stk ∧ w.grownBy w' none := by
  have hE : ((Fl.binA sub s.k (Wd.canon s.k s.x) (Wd.canon (Ru.ky sub s.k) s.y)).2 != 0) = true := by
    have := sayF_eq fc hs
    unfold SayF at this
    rw [this]
    unfold Ru.St.okF at ho
    rw [Bool.and_eq_false_iff] at ho
    rcases ho with ho | ho
    · have h0 : s.k = 0 := by simpa using ho
      rw [h0]
      simpa using Ru.bin0 sub s.x s.y
    · simpa using ho
  have HB : Hid (∀ W, Calls Tryz.prog 142 #[.int .i64 sub, .int .i64 s.k, .int .u64 s.x, .int .u64 s.y] W fun r w' => r = .panicked stk ∧ W.grownBy w' none) := fun W => pbin_no _ _ _ _ _ _ x.ok.x x.ok.y W rfl hE
  have HX : Hid (IsC w h s) := x
  have c23 := fun y : Gw w => (HX.out.kept y.h).c23 t2
  have c24 := fun y : Gw w => (HX.out.kept y.h).c24 t2
  have c25 := fun y : Gw w => (HX.out.kept y.h).c25 t2
  clear x hE fc ho
  go_enter Tryz.func162, Tryz.ntmps162
  go_wp2_with fail
  refine region_panics (fun w' => ∃ y : Gw w, w' = y.w) (fun ch w' => ch = stk ∧ ∃ y : Gw w, w' = y.w) 16 17 0 _ rfl (by kernel_rfl) (by kernel_rfl) ⟨⟨w.drew, grown_drew (World.grownBy.refl _ _)⟩, rfl⟩ ?_ ?_
  · rintro a' ch w' hd ⟨rfl, y, rfl⟩
    exact ⟨hd, rfl, y.h⟩
  · simp only [List.take_succ_cons, List.take_zero, List.append_nil]
    repeat (go_big_quiet_step (exact rfl))
    refine wpQuiet_nil ⟨rfl, ?_⟩
    rintro w' ⟨y, rfl⟩
    refine ⟨142, #[.int .i64 sub, .int .i64 s.k, .int .u64 s.x, .int .u64 s.y], by first | kernel_rfl | simp [go_sem], ?_⟩
    exact (HB.out _).mono fun r w' ⟨h1, h2⟩ => ⟨stk, h1, rfl, ⟨_, grown_trans y.h h2⟩, rfl⟩
theorem pother (op : Int) (w : World) : Calls Tryz.prog 164 #[.int .i64 op] w fun r w' => r = .returned (.int .i64 (if op = 4 then 5 else if op = 5 then 4 else 0)) ∧ w' = w := by
  by_cases h4 : op = 4
  · subst h4
    go_enter Tryz.func164, Tryz.ntmps164
    go_wp2
    go_ret
    exact ⟨rfl, rfl⟩
  · by_cases h5 : op = 5
    · subst h5
      go_enter Tryz.func164, Tryz.ntmps164
      go_wp2
      go_ret
      exact ⟨rfl, rfl⟩
    · have h4' : (op == 4) = false := by simpa using h4
      have h5' : (op == 5) = false := by simpa using h5
      rw [if_neg h4, if_neg h5]
      go_enter Tryz.func164, Tryz.ntmps164
      go_wp2
      go_ret
      exact ⟨rfl, rfl⟩
end Go.Proofs.YtdklaeppcjopoaaGreatDoor

/- What a step of the program's machine shares: an instruction's box, what lies apart from a machine. -/
namespace Go.Proofs.YtdklaeppcjopoaaGreatDoor
open Go.RowKit
set_option linter.unusedVariables false

theorem Mc.inst {h : Pd} {w W w' : World} {s : Ru.St} {K : Nat} {v : InV} (m : Mc h W w') (i : InstAt W K v) (x : IsC w h s) (hK : w.heap.size ≤ K) : InstAt w' K v := by
  have e : w'.heap[K]? = W.heap[K]? := m.block K i.lt (by have := x.hd.lt; omega) (by have := x.mm.row.lt; omega)
  have c : ∀ o, w'.cell? ⟨K, o, none⟩ = W.cell? ⟨K, o, none⟩ := fun o => World.cell?_of_block (w := W) e
  exact ⟨(c 0).trans i.c0, (c 1).trans i.c1, (c 2).trans i.c2, (c 3).trans i.c3, (c 4).trans i.c4, (c 5).trans i.c5, (c 6).trans i.c6, (c 7).trans i.c7, (c 8).trans i.c8, fun o => (World.frozen?_of_block (w := W) e).trans (i.fz o)⟩
/-- what is stored beyond stays beyond -/
theorem IsC.far {w W W' : World} {h : Pd} {s0 s : Ru.St} {K : Nat} (y : IsC W h s) (x : IsC w h s0) (g : W.grownBy W' (some K)) (hK : w.heap.size ≤ K) : IsC W' h s where
  hd := y.hd.of_block (g.block _ y.hd.lt (fun e => by have := x.hd.lt; injection e with e; omega))
  mm := y.mm.kept g (fun e => by have := x.mm.head.lt; injection e with e; omega) (fun e => by have := x.mm.row.lt; injection e with e; omega)
  cd := y.cd.grow g (fun b off h0 e hh => by have := x.cd.lt b off h0 e; injection hh with hh; omega)
  cb := y.cb
  s1 := y.s1
  s2 := y.s2
  ok := y.ok
theorem Mc.far {h : Pd} {w W W' : World} {K : Nat} (m : Mc h w W) (g : W.grownBy W' (some K)) (hK : w.heap.size ≤ K) : Mc h w W' where
  os := g.os.trans m.os
  tape := g.tape.trans m.tape
  output := g.output.trans m.output
  size := Nat.le_trans m.size g.size
  block := fun k hk h1 h2 => (g.block k (Nat.lt_of_lt_of_le hk m.size) (fun e => by injection e with e; omega)).trans (m.block k hk h1 h2)
theorem InstAt.setB {W : World} {K B o : Nat} {v : InV} (i : InstAt W K v) (h : K ≠ B) (u : Value) : InstAt (W.setCell ⟨B, o, none⟩ u) K v := i.kept (grown_setCell _ _ _ _) (fun e => h (by injection e))
end Go.Proofs.YtdklaeppcjopoaaGreatDoor
