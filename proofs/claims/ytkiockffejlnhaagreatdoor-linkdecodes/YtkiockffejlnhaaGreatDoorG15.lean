/- Contracts and plain facts that the walks share, text by text: RcI, RcJ, RcK, RuI. -/
import Derived.Test.YtkiockffejlnhaaGreatDoorRcB
import Derived.Test.YtkiockffejlnhaaGreatDoorRcC
import Derived.Test.YtkiockffejlnhaaGreatDoorG5
import Derived.Test.YtkiockffejlnhaaGreatDoorG3
import Derived.Test.YtkiockffejlnhaaGreatDoorG12
import Derived.Test.YtkiockffejlnhaaGreatDoorG14
import Derived.Deep.Onto
/- risc.agree, Encode, Decode: contracts. -/
namespace Go.Proofs.YtkiockffejlnhaaGreatDoor
open Go.RowKit
set_option linter.unusedVariables false
namespace Rc
def E1 (v : InV) (f : FmV) : Prop := (pk v).code = f.code ∧ (pk v).a = f.a ∧ (pk v).b = f.b ∧ (pk v).c = f.c ∧ (pk v).n = f.n
def E2 (v : InV) (f : FmV) : Prop := (unpk f).op = v.op ∧ (unpk f).a = v.a ∧ (unpk f).b = v.b ∧ (unpk f).c = v.c ∧ (unpk f).k = v.k ∧ (unpk f).sub = v.sub ∧ (unpk f).scale = v.scale ∧ (unpk f).imm = v.imm ∧ (unpk f).label = v.label
def Ag (v : InV) (f : FmV) : Prop := E1 v f ∧ E2 v f ∧ smallB f.n = true ∧ fitB v = true
end Rc
set_option maxHeartbeats 8000000 in
theorem agree_any (v : InV) (f : FmV) (w : World) (h1 : -9223372036854775808 ≤ f.n) (h2 : f.n ≤ 9223372036854775807) (ag : Bool) (hag : ag = true ↔ Rc.Ag v f) :
    Calls Tryz.prog 57 #[inst v, formv f] w fun e w' => e = .returned (.bool ag) ∧ w.grownBy w' none := by
  have HA : Hid (ag = true ↔ Rc.Ag v f) := hag
  clear hag
  unfold inst formv
  go_enter Tryz.func57, Tryz.ntmps57
  go_wp2_with fail
  obtain ⟨W0, hW0⟩ : ∃ W0, W0 = (w.alloc (Obj.cells #[.int .i64 v.op, .int .i64 v.a, .int .i64 v.b, .int .i64 v.c, .int .i64 v.k, .int .i64 v.sub, .int .i64 v.scale, .int .i64 v.imm, .int .i64 v.label] 50)).alloc (Obj.cells #[.int .i64 f.code, .int .i64 f.a, .int .i64 f.b, .int .i64 f.c, .int .i64 f.n] 97) := ⟨_, rfl⟩
  have i0 : ∀ x : Gw W0, x.w.cell? ⟨w.heap.size, 0, none⟩ = some (.int .i64 v.op) := fun x => x.h.cell (by rw [hW0]; simp) (by simp)
  have i1 : ∀ x : Gw W0, x.w.cell? ⟨w.heap.size, 1, none⟩ = some (.int .i64 v.a) := fun x => x.h.cell (by rw [hW0]; simp) (by simp)
  have i2 : ∀ x : Gw W0, x.w.cell? ⟨w.heap.size, 2, none⟩ = some (.int .i64 v.b) := fun x => x.h.cell (by rw [hW0]; simp) (by simp)
  have i3 : ∀ x : Gw W0, x.w.cell? ⟨w.heap.size, 3, none⟩ = some (.int .i64 v.c) := fun x => x.h.cell (by rw [hW0]; simp) (by simp)
  have i4 : ∀ x : Gw W0, x.w.cell? ⟨w.heap.size, 4, none⟩ = some (.int .i64 v.k) := fun x => x.h.cell (by rw [hW0]; simp) (by simp)
  have i5 : ∀ x : Gw W0, x.w.cell? ⟨w.heap.size, 5, none⟩ = some (.int .i64 v.sub) := fun x => x.h.cell (by rw [hW0]; simp) (by simp)
  have i6 : ∀ x : Gw W0, x.w.cell? ⟨w.heap.size, 6, none⟩ = some (.int .i64 v.scale) := fun x => x.h.cell (by rw [hW0]; simp) (by simp)
  have i7 : ∀ x : Gw W0, x.w.cell? ⟨w.heap.size, 7, none⟩ = some (.int .i64 v.imm) := fun x => x.h.cell (by rw [hW0]; simp) (by simp)
  have i8 : ∀ x : Gw W0, x.w.cell? ⟨w.heap.size, 8, none⟩ = some (.int .i64 v.label) := fun x => x.h.cell (by rw [hW0]; simp) (by simp)
  have j0 : ∀ x : Gw W0, x.w.cell? ⟨w.heap.size + 1, 0, none⟩ = some (.int .i64 f.code) := fun x => x.h.cell (by rw [hW0]; simp) (by simp)
  have j1 : ∀ x : Gw W0, x.w.cell? ⟨w.heap.size + 1, 1, none⟩ = some (.int .i64 f.a) := fun x => x.h.cell (by rw [hW0]; simp) (by simp)
  have j2 : ∀ x : Gw W0, x.w.cell? ⟨w.heap.size + 1, 2, none⟩ = some (.int .i64 f.b) := fun x => x.h.cell (by rw [hW0]; simp) (by simp)
  have j3 : ∀ x : Gw W0, x.w.cell? ⟨w.heap.size + 1, 3, none⟩ = some (.int .i64 f.c) := fun x => x.h.cell (by rw [hW0]; simp) (by simp)
  have j4 : ∀ x : Gw W0, x.w.cell? ⟨w.heap.size + 1, 4, none⟩ = some (.int .i64 f.n) := fun x => x.h.cell (by rw [hW0]; simp) (by simp)
  have HG : Hid (w.grownBy W0 none) := by rw [hW0]; exact grown_alloc2 _ _ _
  rw [← hW0]
  clear hW0
  have ne : Nonempty (Gw W0) := ⟨⟨W0, World.grownBy.refl _ _⟩⟩
  have hite : ∀ (p q : Prop) [Decidable p] [Decidable q] (x y : Result Next), (if p then if q then x else y else y) = if p ∧ q then x else y := fun p q _ _ x y => by by_cases hp : p <;> by_cases hq : q <;> simp [hp, hq]
  refine region_grown (by kernel_rfl) (by kernel_rfl) ?_
  by_cases c1 : Rc.E1 v f
  · have d1 := _root_.eq_true c1
    unfold Rc.E1 at d1
    by_cases c2 : Rc.E2 v f
    · have d2 := _root_.eq_true c2
      unfold Rc.E2 at d2
      cases c3 : Rc.smallB f.n
      · have HF : Hid (ag = false) := by
          show _ = _
          cases e : ag
          · rfl
          · exact absurd (HA.out.1 e).2.2.1 (by rw [c3]; decide)
        repeat (go_big_quiet_step ((first
          | (go_at_call 77; exact Gw.call (v := .agg #[.int .i64 (Rc.pk v).code, .int .i64 (Rc.pk v).a, .int .i64 (Rc.pk v).b, .int .i64 (Rc.pk v).c, .int .i64 (Rc.pk v).n]) (pack_any v _))
          | (go_at_call 56; exact Gw.call (v := .agg #[.int .i64 (Rc.unpk f).op, .int .i64 (Rc.unpk f).a, .int .i64 (Rc.unpk f).b, .int .i64 (Rc.unpk f).c, .int .i64 (Rc.unpk f).k, .int .i64 (Rc.unpk f).sub, .int .i64 (Rc.unpk f).scale, .int .i64 (Rc.unpk f).imm, .int .i64 (Rc.unpk f).label]) (unpack_any f _ h1 h2))
          | (go_at_call 78; exact Gw.call (v := .bool (Rc.smallB f.n)) (ffits_any _ _ _ _ _ _))
          | (go_at_call 79; exact Gw.call (v := .bool (Rc.fitB v)) (fits_any v _)))))
        refine wpQuiet_nil ?_
        rintro _ ⟨x, rfl⟩
        go_wp2
        go_ret
        exact ⟨ret_bool HF.out.symm, grown_trans HG.out x.h⟩
      · cases c4 : Rc.fitB v
        · have HF : Hid (ag = false) := by
            show _ = _
            cases e : ag
            · rfl
            · exact absurd (HA.out.1 e).2.2.2 (by rw [c4]; decide)
          repeat (go_big_quiet_step ((first
            | (go_at_call 77; exact Gw.call (v := .agg #[.int .i64 (Rc.pk v).code, .int .i64 (Rc.pk v).a, .int .i64 (Rc.pk v).b, .int .i64 (Rc.pk v).c, .int .i64 (Rc.pk v).n]) (pack_any v _))
            | (go_at_call 56; exact Gw.call (v := .agg #[.int .i64 (Rc.unpk f).op, .int .i64 (Rc.unpk f).a, .int .i64 (Rc.unpk f).b, .int .i64 (Rc.unpk f).c, .int .i64 (Rc.unpk f).k, .int .i64 (Rc.unpk f).sub, .int .i64 (Rc.unpk f).scale, .int .i64 (Rc.unpk f).imm, .int .i64 (Rc.unpk f).label]) (unpack_any f _ h1 h2))
            | (go_at_call 78; exact Gw.call (v := .bool (Rc.smallB f.n)) (ffits_any _ _ _ _ _ _))
            | (go_at_call 79; exact Gw.call (v := .bool (Rc.fitB v)) (fits_any v _)))))
          refine wpQuiet_nil ?_
          rintro _ ⟨x, rfl⟩
          go_wp2
          go_ret
          exact ⟨ret_bool HF.out.symm, grown_trans HG.out x.h⟩
        · have HF : Hid (ag = true) := HA.out.2 ⟨c1, c2, c3, c4⟩
          repeat (go_big_quiet_step ((first
            | (go_at_call 77; exact Gw.call (v := .agg #[.int .i64 (Rc.pk v).code, .int .i64 (Rc.pk v).a, .int .i64 (Rc.pk v).b, .int .i64 (Rc.pk v).c, .int .i64 (Rc.pk v).n]) (pack_any v _))
            | (go_at_call 56; exact Gw.call (v := .agg #[.int .i64 (Rc.unpk f).op, .int .i64 (Rc.unpk f).a, .int .i64 (Rc.unpk f).b, .int .i64 (Rc.unpk f).c, .int .i64 (Rc.unpk f).k, .int .i64 (Rc.unpk f).sub, .int .i64 (Rc.unpk f).scale, .int .i64 (Rc.unpk f).imm, .int .i64 (Rc.unpk f).label]) (unpack_any f _ h1 h2))
            | (go_at_call 78; exact Gw.call (v := .bool (Rc.smallB f.n)) (ffits_any _ _ _ _ _ _))
            | (go_at_call 79; exact Gw.call (v := .bool (Rc.fitB v)) (fits_any v _)))))
          refine wpQuiet_nil ?_
          rintro _ ⟨x, rfl⟩
          go_wp2
          go_ret
          exact ⟨ret_bool HF.out.symm, grown_trans HG.out x.h⟩
    · have d2 := _root_.eq_false c2
      unfold Rc.E2 at d2
      have HF : Hid (ag = false) := by
        show _ = _
        cases e : ag
        · rfl
        · exact absurd (HA.out.1 e).2.1 c2
      repeat (go_big_quiet_step ((first
        | (go_at_call 77; exact Gw.call (v := .agg #[.int .i64 (Rc.pk v).code, .int .i64 (Rc.pk v).a, .int .i64 (Rc.pk v).b, .int .i64 (Rc.pk v).c, .int .i64 (Rc.pk v).n]) (pack_any v _))
        | (go_at_call 56; exact Gw.call (v := .agg #[.int .i64 (Rc.unpk f).op, .int .i64 (Rc.unpk f).a, .int .i64 (Rc.unpk f).b, .int .i64 (Rc.unpk f).c, .int .i64 (Rc.unpk f).k, .int .i64 (Rc.unpk f).sub, .int .i64 (Rc.unpk f).scale, .int .i64 (Rc.unpk f).imm, .int .i64 (Rc.unpk f).label]) (unpack_any f _ h1 h2))
        | (go_at_call 78; exact Gw.call (v := .bool (Rc.smallB f.n)) (ffits_any _ _ _ _ _ _))
        | (go_at_call 79; exact Gw.call (v := .bool (Rc.fitB v)) (fits_any v _)))))
      refine wpQuiet_nil ?_
      rintro _ ⟨x, rfl⟩
      go_wp2
      go_ret
      exact ⟨ret_bool HF.out.symm, grown_trans HG.out x.h⟩
  · have d1 := _root_.eq_false c1
    unfold Rc.E1 at d1
    have HF : Hid (ag = false) := by
      show _ = _
      cases e : ag
      · rfl
      · exact absurd (HA.out.1 e).1 c1
    repeat (go_big_quiet_step ((first
      | (go_at_call 77; exact Gw.call (v := .agg #[.int .i64 (Rc.pk v).code, .int .i64 (Rc.pk v).a, .int .i64 (Rc.pk v).b, .int .i64 (Rc.pk v).c, .int .i64 (Rc.pk v).n]) (pack_any v _))
      | (go_at_call 56; exact Gw.call (v := .agg #[.int .i64 (Rc.unpk f).op, .int .i64 (Rc.unpk f).a, .int .i64 (Rc.unpk f).b, .int .i64 (Rc.unpk f).c, .int .i64 (Rc.unpk f).k, .int .i64 (Rc.unpk f).sub, .int .i64 (Rc.unpk f).scale, .int .i64 (Rc.unpk f).imm, .int .i64 (Rc.unpk f).label]) (unpack_any f _ h1 h2))
      | (go_at_call 78; exact Gw.call (v := .bool (Rc.smallB f.n)) (ffits_any _ _ _ _ _ _))
      | (go_at_call 79; exact Gw.call (v := .bool (Rc.fitB v)) (fits_any v _)))))
    refine wpQuiet_nil ?_
    rintro _ ⟨x, rfl⟩
    go_wp2
    go_ret
    exact ⟨ret_bool HF.out.symm, grown_trans HG.out x.h⟩
end Go.Proofs.YtkiockffejlnhaaGreatDoor

/- What risc's forms say of instructions: plain. -/
namespace Go.Proofs.YtkiockffejlnhaaGreatDoor
open Go.RowKit
set_option linter.unusedVariables false
namespace Rc
theorem may_of {v : InV} (h0 : (fld v.op).data.isEmpty = false) (r : Rng v) : mayB v = true := by
  unfold mayB regB smallB
  simp only [Bool.and_eq_true, Bool.or_eq_true, beq_iff_eq, decide_eq_true_eq]
  exact ⟨⟨⟨⟨⟨⟨⟨⟨⟨⟨⟨⟨⟨by rw [h0]; rfl, r.sc⟩, r.lb⟩, r.a1, r.a2⟩, r.b1, r.b2⟩, r.c1, r.c2⟩, r.i1, r.i2⟩, r.u0⟩, r.u1⟩, r.u2⟩, r.u3⟩, r.u4⟩, r.u5⟩, r.kd⟩
theorem pk_may {v : InV} (h : mayB v = true) : pk v = ⟨v.op, v.a, v.b, cc v, nn v⟩ := by
  have r := rng h
  have hc := codes v h
  obtain ⟨op, a, b, c, k, sub, sc, imm, lb⟩ := v
  obtain ⟨h1, h2, a1, a2, b1, b2, c1, c2, i1, i2, u0, u1, u2, u3, u4, u5, kd⟩ := r
  dsimp only at *
  rcases hc with rfl | rfl | rfl | rfl | rfl | rfl | rfl | rfl | rfl | rfl | rfl | rfl | rfl | rfl | rfl | rfl | rfl | rfl | rfl | rfl
  all_goals try (replace u0 := u0.resolve_left (by decide); subst u0)
  all_goals try (replace u1 := u1.resolve_left (by decide); subst u1)
  all_goals try (replace u2 := u2.resolve_left (by decide); subst u2)
  all_goals try (replace u5 := u5.resolve_left (by decide); subst u5)
  all_goals try (replace kd := bin_rng (show Wd.hasBinB sub k = true from kd))
  all_goals try (replace kd := un_rng (show Wd.hasUnB sub k = true from kd))
  all_goals try (replace kd := conv_rng (show (Wd.numB sub && Wd.numB k) = true from kd))
  all_goals
    unfold pk cc nn
    simp only [Int.reduceEq, or_self, or_false, or_true, if_true, if_false, FmV.mk.injEq, true_and]
    try (unfold wrap64; omega)
theorem unpk_pk {v : InV} (h : mayB v = true) : unpk (pk v) = v := by
  rw [pk_may h]
  have r := rng h
  have hc := codes v h
  obtain ⟨op, a, b, c, k, sub, sc, imm, lb⟩ := v
  obtain ⟨h1, h2, a1, a2, b1, b2, c1, c2, i1, i2, u0, u1, u2, u3, u4, u5, kd⟩ := r
  dsimp only at *
  subst h1 h2
  rcases hc with rfl | rfl | rfl | rfl | rfl | rfl | rfl | rfl | rfl | rfl | rfl | rfl | rfl | rfl | rfl | rfl | rfl | rfl | rfl | rfl
  all_goals try (replace u0 := u0.resolve_left (by decide))
  all_goals try (replace u1 := u1.resolve_left (by decide))
  all_goals try (replace u2 := u2.resolve_left (by decide))
  all_goals try (replace u3 := u3.resolve_left (by decide))
  all_goals try (replace u4 := u4.resolve_left (by decide))
  all_goals try (replace u5 := u5.resolve_left (by decide))
  all_goals try (replace kd := bin_rng (show Wd.hasBinB sub k = true from kd))
  all_goals try (replace kd := un_rng (show Wd.hasUnB sub k = true from kd))
  all_goals try (replace kd := conv_rng (show (Wd.numB sub && Wd.numB k) = true from kd))
  all_goals
    unfold unpk cc nn
    simp only [Int.reduceEq, or_self, or_false, or_true, if_true, if_false, InV.mk.injEq, true_and, and_true]
    try omega
theorem E2_of {v : InV} {f : FmV} (h : unpk f = v) : E2 v f := by
  subst h; exact ⟨rfl, rfl, rfl, rfl, rfl, rfl, rfl, rfl, rfl⟩
theorem E1_of {v : InV} {f : FmV} (h : pk v = f) : E1 v f := by
  subst h; exact ⟨rfl, rfl, rfl, rfl, rfl⟩
theorem of_E1 {v : InV} {f : FmV} (h : E1 v f) : pk v = f := by
  unfold E1 at h
  generalize pk v = p at h
  obtain ⟨_, _, _, _, _⟩ := p
  obtain ⟨_, _, _, _, _⟩ := f
  obtain ⟨rfl, rfl, rfl, rfl, rfl⟩ := h
  rfl
theorem of_E2 {v : InV} {f : FmV} (h : E2 v f) : unpk f = v := by
  unfold E2 at h
  generalize unpk f = p at h
  obtain ⟨_, _, _, _, _, _, _, _, _⟩ := p
  obtain ⟨_, _, _, _, _, _, _, _, _⟩ := v
  obtain ⟨rfl, rfl, rfl, rfl, rfl, rfl, rfl, rfl, rfl⟩ := h
  rfl
theorem ag_of {v : InV} (h : mayB v = true) : Ag v (pk v) := by
  refine ⟨E1_of rfl, E2_of (unpk_pk h), ?_, ?_⟩
  · rw [pk_may h]
    have r := rng h
    have hc := codes v h
    have hk := r.kd
    unfold smallB nn
    dsimp only
    rw [Bool.and_eq_true, decide_eq_true_eq, decide_eq_true_eq]
    have := r.i1
    have := r.i2
    split
    · rename_i ho
      rcases ho with ho | ho | ho
      · unfold kindB at hk; rw [if_pos ho] at hk; have := bin_rng hk; omega
      · unfold kindB at hk; rw [if_neg (by omega), if_pos ho] at hk; have := un_rng hk; omega
      · unfold kindB at hk; rw [if_neg (by omega), if_neg (by omega), if_pos ho] at hk; have := conv_rng hk; omega
    · omega
  · have r := rng h
    have hc := codes v h
    unfold fitB regB
    simp only [Bool.and_eq_true, Bool.not_eq_true', beq_eq_false_iff_ne, ne_eq, decide_eq_true_eq]
    exact ⟨⟨⟨⟨by omega, r.a1, r.a2⟩, r.b1, r.b2⟩, r.c1, r.c2⟩, r.kd⟩
theorem of_ag {v : InV} (h : Ag v (pk v)) : mayB v = true := by
  obtain ⟨-, h2, h3, h4⟩ := h
  have e := of_E2 h2
  obtain ⟨op, a, b, c, k, sub, sc, imm, lb⟩ := v
  unfold fitB regB at h4
  simp only [Bool.and_eq_true, Bool.not_eq_true', beq_eq_false_iff_ne, ne_eq, decide_eq_true_eq] at h4
  obtain ⟨⟨⟨⟨p0, p1, p2⟩, p3, p4⟩, p5, p6⟩, kd⟩ := h4
  unfold smallB at h3
  rw [Bool.and_eq_true, decide_eq_true_eq, decide_eq_true_eq] at h3
  clear h2
  rcases ops op with rfl | rfl | rfl | rfl | rfl | rfl | rfl | rfl | rfl | rfl | rfl | rfl | rfl | rfl | rfl | rfl | rfl | rfl | rfl | rfl | hn
  case inr.inr.inr.inr.inr.inr.inr.inr.inr.inr.inr.inr.inr.inr.inr.inr.inr.inr.inr.inr =>
    exfalso
    simp only [beq_eq_false_iff_ne, ne_eq] at hn
    have : pk ⟨op, a, b, c, k, sub, sc, imm, lb⟩ = ⟨0, 0, 0, 0, 0⟩ := by
      unfold pk
      simp only [hn, or_self, if_false]
    rw [this] at e
    injection e with e0
    exact p0 e0.symm
  all_goals
    unfold pk at e h3
    simp only [Int.reduceEq, or_self, or_false, or_true, if_true, if_false] at e h3
    unfold unpk at e
    simp only [Int.reduceEq, or_self, or_false, or_true, if_true, if_false, InV.mk.injEq, true_and] at e
    refine may_of (by dsimp only; decide) ⟨?_, ?_, p1, p2, p3, p4, p5, p6, ?_, ?_, ?_, ?_, ?_, ?_, ?_, ?_, kd⟩
    all_goals first | exact .inl (by dsimp only; decide) | (dsimp only; omega) | (right; dsimp only; omega)
theorem ag_may (v : InV) : mayB v = true ↔ Ag v (pk v) := ⟨ag_of, of_ag⟩
theorem pk_rng {v : InV} (h1 : -9223372036854775808 ≤ v.imm) (h2 : v.imm ≤ 9223372036854775807) : -9223372036854775808 ≤ (pk v).n ∧ (pk v).n ≤ 9223372036854775807 := by
  have hw : ∀ x, -9223372036854775808 ≤ wrap64 x ∧ wrap64 x ≤ 9223372036854775807 := fun x => by unfold wrap64; omega
  have := hw (v.k + 256 * v.sub)
  unfold pk
  repeat' split
  all_goals (dsimp only; omega)
theorem fb_enc {v : InV} (h : mayB v = true) (i : Nat) (hi : i < 8) : fb (pk v) i = enc v i := by
  rw [pk_may h]
  unfold fb enc
  dsimp only
  repeat' split
  all_goals first | rfl | (rw [show (4294967296 : Int) = 256 ^ 4 from rfl, Mm.by8_mod _ _ 4 (by omega)])
theorem fb_fo {g : Nat → Int} (hg : Mm.Fit g) (i : Nat) (hi : i < 8) : fb (fo g) i = g i := by
  have r := Mm.ld_rng hg 4 4
  have hgi := hg i
  unfold fb fo
  dsimp only
  by_cases h0 : i = 0
  · rw [if_pos h0]; subst h0; omega
  by_cases h1 : i = 1
  · rw [if_neg h0, if_pos h1]; subst h1; omega
  by_cases h2 : i = 2
  · rw [if_neg h0, if_neg h1, if_pos h2]; subst h2; omega
  by_cases h3 : i = 3
  · rw [if_neg h0, if_neg h1, if_neg h2, if_pos h3]; subst h3; omega
  rw [if_neg h0, if_neg h1, if_neg h2, if_neg h3, ← Mm.by8_mod _ _ 4 (by omega)]
  have e : s32 (Mm.ld g 4 4) % 256 ^ 4 = Mm.ld g 4 4 := by
    have : (256 : Int) ^ 4 = 4294967296 := rfl
    unfold s32; omega
  rw [e]
  have h4 := hg 4
  have h5 := hg 5
  have h6 := hg 6
  have h7 := hg 7
  have el : Mm.ld g 4 4 = g 4 + g 5 * 256 + g 6 * 65536 + g 7 * 16777216 := by
    show 0 + g 4 * 1 + g 5 * 256 + g 6 * 65536 + g 7 * 16777216 = _
    omega
  rw [el]
  have : i = 4 ∨ i = 5 ∨ i = 6 ∨ i = 7 := by omega
  rcases this with rfl | rfl | rfl | rfl
  · show (g 4 + g 5 * 256 + g 6 * 65536 + g 7 * 16777216) / 1 % 256 = g 4; omega
  · show (g 4 + g 5 * 256 + g 6 * 65536 + g 7 * 16777216) / 256 % 256 = g 5; omega
  · show (g 4 + g 5 * 256 + g 6 * 65536 + g 7 * 16777216) / 65536 % 256 = g 6; omega
  · show (g 4 + g 5 * 256 + g 6 * 65536 + g 7 * 16777216) / 16777216 % 256 = g 7; omega
theorem pk_rd {g : Nat → Int} (h : okB g = true) : pk (rd g) = fo g := by
  have hm : mayB (rd g) = true := by unfold okB at h; rw [Bool.and_eq_true] at h; exact h.2
  rw [pk_may hm]
  unfold fo
  by_cases hA : g 0 = 4 ∨ g 0 = 7 ∨ g 0 = 8
  · rw [rd_1 hA]
    unfold cc nn
    dsimp only
    rw [if_neg (by omega), if_pos hA]
    congr 1
    omega
  · by_cases hB : g 0 = 11 ∨ g 0 = 13
    · rw [rd_2 hB]
      unfold cc nn
      dsimp only
      rw [if_pos hB, if_neg hA]
    · rw [rd_3 hA hB]
      unfold cc nn
      dsimp only
      rw [if_neg hB, if_neg hA]
theorem ag_ok {g : Nat → Int} (hg : Mm.Fit g) : okB g = true ↔ Ag (unpk (fo g)) (fo g) := by
  constructor
  · intro h
    have hm : mayB (rd g) = true := by unfold okB at h; rw [Bool.and_eq_true] at h; exact h.2
    have e := pk_rd h
    have a := ag_of hm
    rw [← e, unpk_pk hm]
    exact a
  · intro h
    have e : pk (unpk (fo g)) = fo g := of_E1 h.1
    have hm : mayB (unpk (fo g)) = true := of_ag (by rw [e]; exact h)
    have hb : ∀ i, i < 8 → g i = enc (unpk (fo g)) i := fun i hi => by rw [← fb_enc hm i hi, e, fb_fo hg i hi]
    rw [(rd_congr hb).2]
    exact ok_enc _ hm
theorem unpk_ok {g : Nat → Int} (h : okB g = true) : unpk (fo g) = rd g := by
  have hm : mayB (rd g) = true := by unfold okB at h; rw [Bool.and_eq_true] at h; exact h.2
  rw [← pk_rd h, unpk_pk hm]
end Rc
end Go.Proofs.YtkiockffejlnhaaGreatDoor

/- risc.Encode: its contract. -/
namespace Go.Proofs.YtkiockffejlnhaaGreatDoor
open Go.RowKit
set_option linter.unusedVariables false
theorem pack_x (v : InV) (w : World) : Calls Tryz.prog 77 #[inst v] w fun e w' => e = .returned (.agg #[.int .i64 (Rc.pk v).code, .int .i64 (Rc.pk v).a, .int .i64 (Rc.pk v).b, .int .i64 (Rc.pk v).c, .int .i64 (Rc.pk v).n]) ∧ w.grownBy w' none := pack_any v w
theorem OwnB.congr {w : World} {base n : Nat} {v : Value} {g g' : Nat → Int} (h : OwnB w base v n g) (e : ∀ i, i < n → g i = g' i) : OwnB w base v n g' := by
  have : bytesL n g = bytesL n g' := by
    unfold bytesL
    exact List.map_congr_left fun i hi => by rw [e i (List.mem_range.1 hi)]
  unfold OwnB at *
  rw [← this]; exact h
set_option maxHeartbeats 8000000 in
theorem encode_no (v : InV) (w : World) (h1 : -9223372036854775808 ≤ v.imm) (h2 : v.imm ≤ 9223372036854775807) (hm : Rc.mayB v = false) :
    Calls Tryz.prog 60 #[inst v] w fun e w' => e = .returned (.tuple #[.slice none 0 0, .int .i64 30]) ∧ w.grownBy w' none := by
  have r := Rc.pk_rng h1 h2
  have HA : Hid (false = true ↔ Rc.Ag v (Rc.pk v)) := by
    show _ ↔ _
    rw [← hm]; exact Rc.ag_may v
  have c0 : (w.alloc (Obj.cells #[.int .i64 v.op, .int .i64 v.a, .int .i64 v.b, .int .i64 v.c, .int .i64 v.k, .int .i64 v.sub, .int .i64 v.scale, .int .i64 v.imm, .int .i64 v.label] 50)).cell? ⟨w.heap.size, 0, none⟩ = some (.int .i64 v.op) := by simp
  have c1 : (w.alloc (Obj.cells #[.int .i64 v.op, .int .i64 v.a, .int .i64 v.b, .int .i64 v.c, .int .i64 v.k, .int .i64 v.sub, .int .i64 v.scale, .int .i64 v.imm, .int .i64 v.label] 50)).cell? ⟨w.heap.size, 1, none⟩ = some (.int .i64 v.a) := by simp
  have c2 : (w.alloc (Obj.cells #[.int .i64 v.op, .int .i64 v.a, .int .i64 v.b, .int .i64 v.c, .int .i64 v.k, .int .i64 v.sub, .int .i64 v.scale, .int .i64 v.imm, .int .i64 v.label] 50)).cell? ⟨w.heap.size, 2, none⟩ = some (.int .i64 v.b) := by simp
  have c3 : (w.alloc (Obj.cells #[.int .i64 v.op, .int .i64 v.a, .int .i64 v.b, .int .i64 v.c, .int .i64 v.k, .int .i64 v.sub, .int .i64 v.scale, .int .i64 v.imm, .int .i64 v.label] 50)).cell? ⟨w.heap.size, 3, none⟩ = some (.int .i64 v.c) := by simp
  have c4 : (w.alloc (Obj.cells #[.int .i64 v.op, .int .i64 v.a, .int .i64 v.b, .int .i64 v.c, .int .i64 v.k, .int .i64 v.sub, .int .i64 v.scale, .int .i64 v.imm, .int .i64 v.label] 50)).cell? ⟨w.heap.size, 4, none⟩ = some (.int .i64 v.k) := by simp
  have c5 : (w.alloc (Obj.cells #[.int .i64 v.op, .int .i64 v.a, .int .i64 v.b, .int .i64 v.c, .int .i64 v.k, .int .i64 v.sub, .int .i64 v.scale, .int .i64 v.imm, .int .i64 v.label] 50)).cell? ⟨w.heap.size, 5, none⟩ = some (.int .i64 v.sub) := by simp
  have c6 : (w.alloc (Obj.cells #[.int .i64 v.op, .int .i64 v.a, .int .i64 v.b, .int .i64 v.c, .int .i64 v.k, .int .i64 v.sub, .int .i64 v.scale, .int .i64 v.imm, .int .i64 v.label] 50)).cell? ⟨w.heap.size, 6, none⟩ = some (.int .i64 v.scale) := by simp
  have c7 : (w.alloc (Obj.cells #[.int .i64 v.op, .int .i64 v.a, .int .i64 v.b, .int .i64 v.c, .int .i64 v.k, .int .i64 v.sub, .int .i64 v.scale, .int .i64 v.imm, .int .i64 v.label] 50)).cell? ⟨w.heap.size, 7, none⟩ = some (.int .i64 v.imm) := by simp
  have c8 : (w.alloc (Obj.cells #[.int .i64 v.op, .int .i64 v.a, .int .i64 v.b, .int .i64 v.c, .int .i64 v.k, .int .i64 v.sub, .int .i64 v.scale, .int .i64 v.imm, .int .i64 v.label] 50)).cell? ⟨w.heap.size, 8, none⟩ = some (.int .i64 v.label) := by simp
  have hb0 := World.grownBy_alloc w (Obj.cells #[.int .i64 v.op, .int .i64 v.a, .int .i64 v.b, .int .i64 v.c, .int .i64 v.k, .int .i64 v.sub, .int .i64 v.scale, .int .i64 v.imm, .int .i64 v.label] 50) none
  unfold inst
  go_enter Tryz.func60, Tryz.ntmps60
  go_wp2_with (first
    | (go_at_call 77; refine (pack_x v _).mono ?_; rintro e w1 ⟨rfl, hg1⟩; have i0 := (World.grownBy_alloc w1 (Obj.cells #[.int .i64 (Rc.pk v).code, .int .i64 (Rc.pk v).a, .int .i64 (Rc.pk v).b, .int .i64 (Rc.pk v).c, .int .i64 (Rc.pk v).n] 97) none).cell (hg1.cell c0 (by simp)) (by simp); have i1 := (World.grownBy_alloc w1 (Obj.cells #[.int .i64 (Rc.pk v).code, .int .i64 (Rc.pk v).a, .int .i64 (Rc.pk v).b, .int .i64 (Rc.pk v).c, .int .i64 (Rc.pk v).n] 97) none).cell (hg1.cell c1 (by simp)) (by simp); have i2 := (World.grownBy_alloc w1 (Obj.cells #[.int .i64 (Rc.pk v).code, .int .i64 (Rc.pk v).a, .int .i64 (Rc.pk v).b, .int .i64 (Rc.pk v).c, .int .i64 (Rc.pk v).n] 97) none).cell (hg1.cell c2 (by simp)) (by simp); have i3 := (World.grownBy_alloc w1 (Obj.cells #[.int .i64 (Rc.pk v).code, .int .i64 (Rc.pk v).a, .int .i64 (Rc.pk v).b, .int .i64 (Rc.pk v).c, .int .i64 (Rc.pk v).n] 97) none).cell (hg1.cell c3 (by simp)) (by simp); have i4 := (World.grownBy_alloc w1 (Obj.cells #[.int .i64 (Rc.pk v).code, .int .i64 (Rc.pk v).a, .int .i64 (Rc.pk v).b, .int .i64 (Rc.pk v).c, .int .i64 (Rc.pk v).n] 97) none).cell (hg1.cell c4 (by simp)) (by simp); have i5 := (World.grownBy_alloc w1 (Obj.cells #[.int .i64 (Rc.pk v).code, .int .i64 (Rc.pk v).a, .int .i64 (Rc.pk v).b, .int .i64 (Rc.pk v).c, .int .i64 (Rc.pk v).n] 97) none).cell (hg1.cell c5 (by simp)) (by simp); have i6 := (World.grownBy_alloc w1 (Obj.cells #[.int .i64 (Rc.pk v).code, .int .i64 (Rc.pk v).a, .int .i64 (Rc.pk v).b, .int .i64 (Rc.pk v).c, .int .i64 (Rc.pk v).n] 97) none).cell (hg1.cell c6 (by simp)) (by simp); have i7 := (World.grownBy_alloc w1 (Obj.cells #[.int .i64 (Rc.pk v).code, .int .i64 (Rc.pk v).a, .int .i64 (Rc.pk v).b, .int .i64 (Rc.pk v).c, .int .i64 (Rc.pk v).n] 97) none).cell (hg1.cell c7 (by simp)) (by simp); have i8 := (World.grownBy_alloc w1 (Obj.cells #[.int .i64 (Rc.pk v).code, .int .i64 (Rc.pk v).a, .int .i64 (Rc.pk v).b, .int .i64 (Rc.pk v).c, .int .i64 (Rc.pk v).n] 97) none).cell (hg1.cell c8 (by simp)) (by simp))
    | (go_at_call 57; refine (agree_any v (Rc.pk v) _ r.1 r.2 false HA.out).mono ?_; rintro e w2 ⟨rfl, hg2⟩))
  go_ret2
  exact ⟨rfl, grown_trans (grown_trans (grown_trans hb0 hg1) (World.grownBy_alloc _ _ _)) hg2⟩
set_option maxHeartbeats 8000000 in
theorem encode_ok (v : InV) (w : World) (h1 : -9223372036854775808 ≤ v.imm) (h2 : v.imm ≤ 9223372036854775807) (hm : Rc.mayB v = true) :
    Calls Tryz.prog 60 #[inst v] w fun e w' => ∃ T, e = .returned (.tuple #[.slice (some ⟨T, 0, none⟩) 8 8, .int .i64 0]) ∧ OwnB w' w.heap.size (.slice (some ⟨T, 0, none⟩) 8 8) 8 (Rc.enc v) ∧ w.grownBy w' none := by
  have r := Rc.pk_rng h1 h2
  have HA : Hid (Rc.Ag v (Rc.pk v)) := (Rc.ag_may v).1 hm
  have HE : Hid (∀ i, i < 8 → Rc.fb (Rc.pk v) i = Rc.enc v i) := Rc.fb_enc hm
  have c0 : (w.alloc (Obj.cells #[.int .i64 v.op, .int .i64 v.a, .int .i64 v.b, .int .i64 v.c, .int .i64 v.k, .int .i64 v.sub, .int .i64 v.scale, .int .i64 v.imm, .int .i64 v.label] 50)).cell? ⟨w.heap.size, 0, none⟩ = some (.int .i64 v.op) := by simp
  have c1 : (w.alloc (Obj.cells #[.int .i64 v.op, .int .i64 v.a, .int .i64 v.b, .int .i64 v.c, .int .i64 v.k, .int .i64 v.sub, .int .i64 v.scale, .int .i64 v.imm, .int .i64 v.label] 50)).cell? ⟨w.heap.size, 1, none⟩ = some (.int .i64 v.a) := by simp
  have c2 : (w.alloc (Obj.cells #[.int .i64 v.op, .int .i64 v.a, .int .i64 v.b, .int .i64 v.c, .int .i64 v.k, .int .i64 v.sub, .int .i64 v.scale, .int .i64 v.imm, .int .i64 v.label] 50)).cell? ⟨w.heap.size, 2, none⟩ = some (.int .i64 v.b) := by simp
  have c3 : (w.alloc (Obj.cells #[.int .i64 v.op, .int .i64 v.a, .int .i64 v.b, .int .i64 v.c, .int .i64 v.k, .int .i64 v.sub, .int .i64 v.scale, .int .i64 v.imm, .int .i64 v.label] 50)).cell? ⟨w.heap.size, 3, none⟩ = some (.int .i64 v.c) := by simp
  have c4 : (w.alloc (Obj.cells #[.int .i64 v.op, .int .i64 v.a, .int .i64 v.b, .int .i64 v.c, .int .i64 v.k, .int .i64 v.sub, .int .i64 v.scale, .int .i64 v.imm, .int .i64 v.label] 50)).cell? ⟨w.heap.size, 4, none⟩ = some (.int .i64 v.k) := by simp
  have c5 : (w.alloc (Obj.cells #[.int .i64 v.op, .int .i64 v.a, .int .i64 v.b, .int .i64 v.c, .int .i64 v.k, .int .i64 v.sub, .int .i64 v.scale, .int .i64 v.imm, .int .i64 v.label] 50)).cell? ⟨w.heap.size, 5, none⟩ = some (.int .i64 v.sub) := by simp
  have c6 : (w.alloc (Obj.cells #[.int .i64 v.op, .int .i64 v.a, .int .i64 v.b, .int .i64 v.c, .int .i64 v.k, .int .i64 v.sub, .int .i64 v.scale, .int .i64 v.imm, .int .i64 v.label] 50)).cell? ⟨w.heap.size, 6, none⟩ = some (.int .i64 v.scale) := by simp
  have c7 : (w.alloc (Obj.cells #[.int .i64 v.op, .int .i64 v.a, .int .i64 v.b, .int .i64 v.c, .int .i64 v.k, .int .i64 v.sub, .int .i64 v.scale, .int .i64 v.imm, .int .i64 v.label] 50)).cell? ⟨w.heap.size, 7, none⟩ = some (.int .i64 v.imm) := by simp
  have c8 : (w.alloc (Obj.cells #[.int .i64 v.op, .int .i64 v.a, .int .i64 v.b, .int .i64 v.c, .int .i64 v.k, .int .i64 v.sub, .int .i64 v.scale, .int .i64 v.imm, .int .i64 v.label] 50)).cell? ⟨w.heap.size, 8, none⟩ = some (.int .i64 v.label) := by simp
  have hb0 := World.grownBy_alloc w (Obj.cells #[.int .i64 v.op, .int .i64 v.a, .int .i64 v.b, .int .i64 v.c, .int .i64 v.k, .int .i64 v.sub, .int .i64 v.scale, .int .i64 v.imm, .int .i64 v.label] 50) none
  unfold inst
  go_enter Tryz.func60, Tryz.ntmps60
  go_wp2_with (first
    | (go_at_call 77; refine (pack_x v _).mono ?_; rintro e w1 ⟨rfl, hg1⟩; have i0 := (World.grownBy_alloc w1 (Obj.cells #[.int .i64 (Rc.pk v).code, .int .i64 (Rc.pk v).a, .int .i64 (Rc.pk v).b, .int .i64 (Rc.pk v).c, .int .i64 (Rc.pk v).n] 97) none).cell (hg1.cell c0 (by simp)) (by simp); have i1 := (World.grownBy_alloc w1 (Obj.cells #[.int .i64 (Rc.pk v).code, .int .i64 (Rc.pk v).a, .int .i64 (Rc.pk v).b, .int .i64 (Rc.pk v).c, .int .i64 (Rc.pk v).n] 97) none).cell (hg1.cell c1 (by simp)) (by simp); have i2 := (World.grownBy_alloc w1 (Obj.cells #[.int .i64 (Rc.pk v).code, .int .i64 (Rc.pk v).a, .int .i64 (Rc.pk v).b, .int .i64 (Rc.pk v).c, .int .i64 (Rc.pk v).n] 97) none).cell (hg1.cell c2 (by simp)) (by simp); have i3 := (World.grownBy_alloc w1 (Obj.cells #[.int .i64 (Rc.pk v).code, .int .i64 (Rc.pk v).a, .int .i64 (Rc.pk v).b, .int .i64 (Rc.pk v).c, .int .i64 (Rc.pk v).n] 97) none).cell (hg1.cell c3 (by simp)) (by simp); have i4 := (World.grownBy_alloc w1 (Obj.cells #[.int .i64 (Rc.pk v).code, .int .i64 (Rc.pk v).a, .int .i64 (Rc.pk v).b, .int .i64 (Rc.pk v).c, .int .i64 (Rc.pk v).n] 97) none).cell (hg1.cell c4 (by simp)) (by simp); have i5 := (World.grownBy_alloc w1 (Obj.cells #[.int .i64 (Rc.pk v).code, .int .i64 (Rc.pk v).a, .int .i64 (Rc.pk v).b, .int .i64 (Rc.pk v).c, .int .i64 (Rc.pk v).n] 97) none).cell (hg1.cell c5 (by simp)) (by simp); have i6 := (World.grownBy_alloc w1 (Obj.cells #[.int .i64 (Rc.pk v).code, .int .i64 (Rc.pk v).a, .int .i64 (Rc.pk v).b, .int .i64 (Rc.pk v).c, .int .i64 (Rc.pk v).n] 97) none).cell (hg1.cell c6 (by simp)) (by simp); have i7 := (World.grownBy_alloc w1 (Obj.cells #[.int .i64 (Rc.pk v).code, .int .i64 (Rc.pk v).a, .int .i64 (Rc.pk v).b, .int .i64 (Rc.pk v).c, .int .i64 (Rc.pk v).n] 97) none).cell (hg1.cell c7 (by simp)) (by simp); have i8 := (World.grownBy_alloc w1 (Obj.cells #[.int .i64 (Rc.pk v).code, .int .i64 (Rc.pk v).a, .int .i64 (Rc.pk v).b, .int .i64 (Rc.pk v).c, .int .i64 (Rc.pk v).n] 97) none).cell (hg1.cell c8 (by simp)) (by simp))
    | (go_at_call 57; refine (agree_any v (Rc.pk v) _ r.1 r.2 true ⟨fun _ => HA.out, fun _ => rfl⟩).mono ?_; rintro e w2 ⟨rfl, hg2⟩; have j0 : w2.cell? ⟨w1.heap.size, 0, none⟩ = some (.int .i64 (Rc.pk v).code) := hg2.cell (by simp) (by simp); have j1 : w2.cell? ⟨w1.heap.size, 1, none⟩ = some (.int .i64 (Rc.pk v).a) := hg2.cell (by simp) (by simp); have j2 : w2.cell? ⟨w1.heap.size, 2, none⟩ = some (.int .i64 (Rc.pk v).b) := hg2.cell (by simp) (by simp); have j3 : w2.cell? ⟨w1.heap.size, 3, none⟩ = some (.int .i64 (Rc.pk v).c) := hg2.cell (by simp) (by simp); have j4 : w2.cell? ⟨w1.heap.size, 4, none⟩ = some (.int .i64 (Rc.pk v).n) := hg2.cell (by simp) (by simp))
    | (go_at_call 91; refine (fbytes_any (Rc.pk v) _).mono ?_; rintro e w3 ⟨T, rfl, ho3, hg3⟩))
  go_ret2
  have g2 := grown_trans (grown_trans (grown_trans hb0 hg1) (World.grownBy_alloc _ _ _)) hg2
  exact ⟨T, rfl, World.ownsRow.mono (ho3.congr HE.out) g2.size, grown_trans g2 hg3⟩
end Go.Proofs.YtkiockffejlnhaaGreatDoor

/- Instructions in a row of the call's own; their bytes on a target. -/
namespace Go.Proofs.YtkiockffejlnhaaGreatDoor
open Go.RowKit
set_option linter.unusedVariables false
def cells9 (v : InV) : List Value := [.int .i64 v.op, .int .i64 v.a, .int .i64 v.b, .int .i64 v.c, .int .i64 v.k, .int .i64 v.sub, .int .i64 v.scale, .int .i64 v.imm, .int .i64 v.label]
def OwnI (w : World) (base : Nat) (v : Value) (l : List InV) : Prop := w.ownsRow base 50 9 v l.length (l.flatMap cells9)
theorem info_inst : (Tryz.prog.info? 50).map (fun i => (i.zero, i.size, i.bytes)) = some (some (.agg #[.int .i64 0, .int .i64 0, .int .i64 0, .int .i64 0, .int .i64 0, .int .i64 0, .int .i64 0, .int .i64 0, .int .i64 0]), 9, 72) := by kernel_rfl
theorem OwnI.nil (w : World) (base : Nat) : OwnI w base (.slice none 0 0) [] := World.ownsRow_nil _ _ _ _
theorem OwnI.kept {w w' : World} {base : Nat} {v : Value} {l : List InV} {row : Option Nat} (h : OwnI w base v l) (hg : w.grownBy w' row) (hne : v.ownBlock = none ∨ v.ownBlock ≠ row) : OwnI w' base v l := World.ownsRow.kept h hg hne
theorem OwnI.grow {w w' : World} {base : Nat} {v : Value} {l : List InV} (h : OwnI w base v l) (hg : w.grownBy w' none) : OwnI w' base v l := h.kept hg (Classical.em _)
theorem OwnI.base {w : World} {base : Nat} {v : Value} {l : List InV} (h : OwnI w base v l) : ∀ k, v.ownBlock = some k → base ≤ k := fun k hk => (World.ownsRow.lt h k hk).1
theorem flat9_len (l : List InV) : (l.flatMap cells9).length = l.length * 9 := by
  induction l with
  | nil => rfl
  | cons v l ih => rw [List.flatMap_cons, List.length_append, ih, List.length_cons]; simp [cells9]; omega
theorem flat9_at : ∀ (l : List InV) (i k : Nat) (hi : i < l.length), k < 9 → (l.flatMap cells9)[i * 9 + k]? = (cells9 l[i])[k]?
  | [], i, k, hi, _ => by simp at hi
  | v :: l, 0, k, _, hk => by
    rw [List.flatMap_cons, List.getElem?_append_left (by simp [cells9]; omega)]
    simp
  | v :: l, i + 1, k, hi, hk => by
    have h9 : (cells9 v).length = 9 := rfl
    rw [List.flatMap_cons, List.getElem?_append_right (by rw [h9]; omega), h9, show (i + 1) * 9 + k - 9 = i * 9 + k by omega]
    exact flat9_at l i k (by simpa using hi) hk
theorem OwnI.inAt {w : World} {base T n c : Nat} {l : List InV} (h : OwnI w base (.slice (some ⟨T, 0, none⟩) n c) l) (hn : n = l.length) {i : Nat} (hi : i < l.length) : InAt w T (0 + i * 9) l[i] := by
  subst hn
  rw [Nat.zero_add]
  have e : ∀ k, k < 9 → w.cell? ⟨T, i * 9 + k, none⟩ = (cells9 l[i])[k]? := fun k hk => (World.ownsRow.cellAt h (i * 9 + k) (by omega)).trans (flat9_at l i k hi hk)
  exact ⟨e 0 (by decide), e 1 (by decide), e 2 (by decide), e 3 (by decide), e 4 (by decide), e 5 (by decide), e 6 (by decide), e 7 (by decide), e 8 (by decide)⟩
theorem OwnI.slice {w : World} {base : Nat} {v : Value} {l : List InV} (h : OwnI w base v l) : ∃ ao c, v = .slice ao l.length c ∧ l.length ≤ c ∧ (0 < l.length → ∃ T, ao = some ⟨T, 0, none⟩ ∧ T < w.heap.size) := by
  rcases h.2 with ⟨rfl, h0⟩ | ⟨T, c, cur, rfl, _, e, hc, _⟩
  · exact ⟨none, 0, by rw [h0], by omega, fun h => by omega⟩
  · exact ⟨some ⟨T, 0, none⟩, c, rfl, hc, fun _ => ⟨T, rfl, (World.ownsRow.lt h T rfl).2⟩⟩
namespace Cc
theorem enc_len5 (v : InV) : (enc v).length ≤ 33 := by
  have h : ∀ s : List Int, (s.flatMap (letB v)).length ≤ 8 * s.length := by
    intro s
    induction s with
    | nil => exact Nat.le_refl _
    | cons l s ih =>
      have : (letB v l).length ≤ 8 := by
        have hc := cnt_c (z := size v.imm)
        unfold letB
        repeat' split
        all_goals first | (rw [low_len]; omega) | (simp only [List.length_cons, List.length_nil]; omega)
      rw [List.flatMap_cons, List.length_append, List.length_cons]
      omega
  have h2 := h (row v.op)
  have h3 : (row v.op).length ≤ 4 := by
    rcases ops v.op with h | h | h | h | h | h | h | h | h | h | h | h | h | h | h | h | h | h | h | h | h | h | h | h | h | h
    case inr.inr.inr.inr.inr.inr.inr.inr.inr.inr.inr.inr.inr.inr.inr.inr.inr.inr.inr.inr.inr.inr.inr.inr.inr =>
      rw [(row_none h).1]; decide
    all_goals (rw [h]; decide)
  unfold enc
  rw [List.length_cons]
  omega
end Cc
namespace Ru
def encT (t : Int) (v : InV) : List Int := if t = 1 then (List.range 8).map (Rc.enc v) else Cc.enc v
def mayT (t : Int) (v : InV) : Bool := if t = 1 then Rc.mayB v else Cc.mayB v
theorem cc_len (v : InV) : (Cc.enc v).length ≤ 33 := Cc.enc_len5 v
theorem encT_len (t : Int) (v : InV) : 0 < (encT t v).length ∧ (encT t v).length ≤ 33 := by
  unfold encT
  split
  · simp
  · refine ⟨?_, cc_len v⟩
    unfold Cc.enc
    simp
end Ru
end Go.Proofs.YtkiockffejlnhaaGreatDoor
