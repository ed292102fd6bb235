/- Contracts and plain facts that the walks share, text by text: RcI, RcJ, RcK, RuI, LkPieces, RuTail, ChN, LkLay, LkPlaces, LkSmall, LkLab, LkJumps, LkImms, LkEnc. -/
import Derived.Test.YtkiockffejlnhaaGreatDoorRcB
import Derived.Test.YtkiockffejlnhaaGreatDoorRcC
import Derived.Test.YtkiockffejlnhaaGreatDoorG2
import Derived.Test.YtkiockffejlnhaaGreatDoorG1
import Derived.Test.YtkiockffejlnhaaGreatDoorG5
import Derived.Test.YtkiockffejlnhaaGreatDoorG6
import Derived.Deep.Onto
import Derived.Laws.AppendOwnNone
/- risc.agree, Encode, Decode: contracts. -/
namespace Go.Proofs.YtkiockffejlnhaaGreatDoor
open Go.RowKit
set_option linter.unusedVariables false
namespace Rc
def E1 (v : InV) (f : FmV) : Prop := (pk v).code = f.code ∧ (pk v).a = f.a ∧ (pk v).b = f.b ∧ (pk v).c = f.c ∧ (pk v).n = f.n
def E2 (v : InV) (f : FmV) : Prop := (unpk f).op = v.op ∧ (unpk f).a = v.a ∧ (unpk f).b = v.b ∧ (unpk f).c = v.c ∧ (unpk f).k = v.k ∧ (unpk f).sub = v.sub ∧ (unpk f).scale = v.scale ∧ (unpk f).imm = v.imm ∧ (unpk f).label = v.label
def Ag (v : InV) (f : FmV) : Prop := E1 v f ∧ E2 v f ∧ smallB f.n = true ∧ fitB v = true
end Rc
set_option maxHeartbeats 8000000 in
theorem agree_any (v : InV) (f : FmV) (w : World) (h1 : -9223372036854775808 ≤ f.n) (h2 : f.n ≤ 9223372036854775807) (ag : Bool) (hag : ag = true ↔ Rc.Ag v f) :
    Calls Tryz.prog 57 #[inst v, formv f] w fun e w' => e = .returned (.bool ag) ∧ w.grownBy w' none := by
  have HA : Hid (ag = true ↔ Rc.Ag v f) := hag
  clear hag
  unfold inst formv
  go_enter Tryz.func57, Tryz.ntmps57
  go_wp2_with fail
  obtain ⟨W0, hW0⟩ : ∃ W0, W0 = (w.alloc (Obj.cells #[.int .i64 v.op, .int .i64 v.a, .int .i64 v.b, .int .i64 v.c, .int .i64 v.k, .int .i64 v.sub, .int .i64 v.scale, .int .i64 v.imm, .int .i64 v.label] 50)).alloc (Obj.cells #[.int .i64 f.code, .int .i64 f.a, .int .i64 f.b, .int .i64 f.c, .int .i64 f.n] 97) := ⟨_, rfl⟩
  have i0 : ∀ x : Gw W0, x.w.cell? ⟨w.heap.size, 0, none⟩ = some (.int .i64 v.op) := fun x => x.h.cell (by rw [hW0]; simp) (by simp)
  have i1 : ∀ x : Gw W0, x.w.cell? ⟨w.heap.size, 1, none⟩ = some (.int .i64 v.a) := fun x => x.h.cell (by rw [hW0]; simp) (by simp)
  have i2 : ∀ x : Gw W0, x.w.cell? ⟨w.heap.size, 2, none⟩ = some (.int .i64 v.b) := fun x => x.h.cell (by rw [hW0]; simp) (by simp)
  have i3 : ∀ x : Gw W0, x.w.cell? ⟨w.heap.size, 3, none⟩ = some (.int .i64 v.c) := fun x => x.h.cell (by rw [hW0]; simp) (by simp)
  have i4 : ∀ x : Gw W0, x.w.cell? ⟨w.heap.size, 4, none⟩ = some (.int .i64 v.k) := fun x => x.h.cell (by rw [hW0]; simp) (by simp)
  have i5 : ∀ x : Gw W0, x.w.cell? ⟨w.heap.size, 5, none⟩ = some (.int .i64 v.sub) := fun x => x.h.cell (by rw [hW0]; simp) (by simp)
  have i6 : ∀ x : Gw W0, x.w.cell? ⟨w.heap.size, 6, none⟩ = some (.int .i64 v.scale) := fun x => x.h.cell (by rw [hW0]; simp) (by simp)
  have i7 : ∀ x : Gw W0, x.w.cell? ⟨w.heap.size, 7, none⟩ = some (.int .i64 v.imm) := fun x => x.h.cell (by rw [hW0]; simp) (by simp)
  have i8 : ∀ x : Gw W0, x.w.cell? ⟨w.heap.size, 8, none⟩ = some (.int .i64 v.label) := fun x => x.h.cell (by rw [hW0]; simp) (by simp)
  have j0 : ∀ x : Gw W0, x.w.cell? ⟨w.heap.size + 1, 0, none⟩ = some (.int .i64 f.code) := fun x => x.h.cell (by rw [hW0]; simp) (by simp)
  have j1 : ∀ x : Gw W0, x.w.cell? ⟨w.heap.size + 1, 1, none⟩ = some (.int .i64 f.a) := fun x => x.h.cell (by rw [hW0]; simp) (by simp)
  have j2 : ∀ x : Gw W0, x.w.cell? ⟨w.heap.size + 1, 2, none⟩ = some (.int .i64 f.b) := fun x => x.h.cell (by rw [hW0]; simp) (by simp)
  have j3 : ∀ x : Gw W0, x.w.cell? ⟨w.heap.size + 1, 3, none⟩ = some (.int .i64 f.c) := fun x => x.h.cell (by rw [hW0]; simp) (by simp)
  have j4 : ∀ x : Gw W0, x.w.cell? ⟨w.heap.size + 1, 4, none⟩ = some (.int .i64 f.n) := fun x => x.h.cell (by rw [hW0]; simp) (by simp)
  have HG : Hid (w.grownBy W0 none) := by rw [hW0]; exact grown_alloc2 _ _ _
  rw [← hW0]
  clear hW0
  have ne : Nonempty (Gw W0) := ⟨⟨W0, World.grownBy.refl _ _⟩⟩
  have hite : ∀ (p q : Prop) [Decidable p] [Decidable q] (x y : Result Next), (if p then if q then x else y else y) = if p ∧ q then x else y := fun p q _ _ x y => by by_cases hp : p <;> by_cases hq : q <;> simp [hp, hq]
  refine region_grown (by kernel_rfl) (by kernel_rfl) ?_
  by_cases c1 : Rc.E1 v f
  · have d1 := _root_.eq_true c1
    unfold Rc.E1 at d1
    by_cases c2 : Rc.E2 v f
    · have d2 := _root_.eq_true c2
      unfold Rc.E2 at d2
      cases c3 : Rc.smallB f.n
      · have HF : Hid (ag = false) := by
          show _ = _
          cases e : ag
          · rfl
          · exact absurd (HA.out.1 e).2.2.1 (by rw [c3]; decide)
        repeat (go_big_quiet_step ((first
          | (go_at_call 77; exact Gw.call (v := .agg #[.int .i64 (Rc.pk v).code, .int .i64 (Rc.pk v).a, .int .i64 (Rc.pk v).b, .int .i64 (Rc.pk v).c, .int .i64 (Rc.pk v).n]) (pack_any v _))
          | (go_at_call 56; exact Gw.call (v := .agg #[.int .i64 (Rc.unpk f).op, .int .i64 (Rc.unpk f).a, .int .i64 (Rc.unpk f).b, .int .i64 (Rc.unpk f).c, .int .i64 (Rc.unpk f).k, .int .i64 (Rc.unpk f).sub, .int .i64 (Rc.unpk f).scale, .int .i64 (Rc.unpk f).imm, .int .i64 (Rc.unpk f).label]) (unpack_any f _ h1 h2))
          | (go_at_call 78; exact Gw.call (v := .bool (Rc.smallB f.n)) (ffits_any _ _ _ _ _ _))
          | (go_at_call 79; exact Gw.call (v := .bool (Rc.fitB v)) (fits_any v _)))))
        refine wpQuiet_nil ?_
        rintro _ ⟨x, rfl⟩
        go_wp2
        go_ret
        exact ⟨ret_bool HF.out.symm, grown_trans HG.out x.h⟩
      · cases c4 : Rc.fitB v
        · have HF : Hid (ag = false) := by
            show _ = _
            cases e : ag
            · rfl
            · exact absurd (HA.out.1 e).2.2.2 (by rw [c4]; decide)
          repeat (go_big_quiet_step ((first
            | (go_at_call 77; exact Gw.call (v := .agg #[.int .i64 (Rc.pk v).code, .int .i64 (Rc.pk v).a, .int .i64 (Rc.pk v).b, .int .i64 (Rc.pk v).c, .int .i64 (Rc.pk v).n]) (pack_any v _))
            | (go_at_call 56; exact Gw.call (v := .agg #[.int .i64 (Rc.unpk f).op, .int .i64 (Rc.unpk f).a, .int .i64 (Rc.unpk f).b, .int .i64 (Rc.unpk f).c, .int .i64 (Rc.unpk f).k, .int .i64 (Rc.unpk f).sub, .int .i64 (Rc.unpk f).scale, .int .i64 (Rc.unpk f).imm, .int .i64 (Rc.unpk f).label]) (unpack_any f _ h1 h2))
            | (go_at_call 78; exact Gw.call (v := .bool (Rc.smallB f.n)) (ffits_any _ _ _ _ _ _))
            | (go_at_call 79; exact Gw.call (v := .bool (Rc.fitB v)) (fits_any v _)))))
          refine wpQuiet_nil ?_
          rintro _ ⟨x, rfl⟩
          go_wp2
          go_ret
          exact ⟨ret_bool HF.out.symm, grown_trans HG.out x.h⟩
        · have HF : Hid (ag = true) := HA.out.2 ⟨c1, c2, c3, c4⟩
          repeat (go_big_quiet_step ((first
            | (go_at_call 77; exact Gw.call (v := .agg #[.int .i64 (Rc.pk v).code, .int .i64 (Rc.pk v).a, .int .i64 (Rc.pk v).b, .int .i64 (Rc.pk v).c, .int .i64 (Rc.pk v).n]) (pack_any v _))
            | (go_at_call 56; exact Gw.call (v := .agg #[.int .i64 (Rc.unpk f).op, .int .i64 (Rc.unpk f).a, .int .i64 (Rc.unpk f).b, .int .i64 (Rc.unpk f).c, .int .i64 (Rc.unpk f).k, .int .i64 (Rc.unpk f).sub, .int .i64 (Rc.unpk f).scale, .int .i64 (Rc.unpk f).imm, .int .i64 (Rc.unpk f).label]) (unpack_any f _ h1 h2))
            | (go_at_call 78; exact Gw.call (v := .bool (Rc.smallB f.n)) (ffits_any _ _ _ _ _ _))
            | (go_at_call 79; exact Gw.call (v := .bool (Rc.fitB v)) (fits_any v _)))))
          refine wpQuiet_nil ?_
          rintro _ ⟨x, rfl⟩
          go_wp2
          go_ret
          exact ⟨ret_bool HF.out.symm, grown_trans HG.out x.h⟩
    · have d2 := _root_.eq_false c2
      unfold Rc.E2 at d2
      have HF : Hid (ag = false) := by
        show _ = _
        cases e : ag
        · rfl
        · exact absurd (HA.out.1 e).2.1 c2
      repeat (go_big_quiet_step ((first
        | (go_at_call 77; exact Gw.call (v := .agg #[.int .i64 (Rc.pk v).code, .int .i64 (Rc.pk v).a, .int .i64 (Rc.pk v).b, .int .i64 (Rc.pk v).c, .int .i64 (Rc.pk v).n]) (pack_any v _))
        | (go_at_call 56; exact Gw.call (v := .agg #[.int .i64 (Rc.unpk f).op, .int .i64 (Rc.unpk f).a, .int .i64 (Rc.unpk f).b, .int .i64 (Rc.unpk f).c, .int .i64 (Rc.unpk f).k, .int .i64 (Rc.unpk f).sub, .int .i64 (Rc.unpk f).scale, .int .i64 (Rc.unpk f).imm, .int .i64 (Rc.unpk f).label]) (unpack_any f _ h1 h2))
        | (go_at_call 78; exact Gw.call (v := .bool (Rc.smallB f.n)) (ffits_any _ _ _ _ _ _))
        | (go_at_call 79; exact Gw.call (v := .bool (Rc.fitB v)) (fits_any v _)))))
      refine wpQuiet_nil ?_
      rintro _ ⟨x, rfl⟩
      go_wp2
      go_ret
      exact ⟨ret_bool HF.out.symm, grown_trans HG.out x.h⟩
  · have d1 := _root_.eq_false c1
    unfold Rc.E1 at d1
    have HF : Hid (ag = false) := by
      show _ = _
      cases e : ag
      · rfl
      · exact absurd (HA.out.1 e).1 c1
    repeat (go_big_quiet_step ((first
      | (go_at_call 77; exact Gw.call (v := .agg #[.int .i64 (Rc.pk v).code, .int .i64 (Rc.pk v).a, .int .i64 (Rc.pk v).b, .int .i64 (Rc.pk v).c, .int .i64 (Rc.pk v).n]) (pack_any v _))
      | (go_at_call 56; exact Gw.call (v := .agg #[.int .i64 (Rc.unpk f).op, .int .i64 (Rc.unpk f).a, .int .i64 (Rc.unpk f).b, .int .i64 (Rc.unpk f).c, .int .i64 (Rc.unpk f).k, .int .i64 (Rc.unpk f).sub, .int .i64 (Rc.unpk f).scale, .int .i64 (Rc.unpk f).imm, .int .i64 (Rc.unpk f).label]) (unpack_any f _ h1 h2))
      | (go_at_call 78; exact Gw.call (v := .bool (Rc.smallB f.n)) (ffits_any _ _ _ _ _ _))
      | (go_at_call 79; exact Gw.call (v := .bool (Rc.fitB v)) (fits_any v _)))))
    refine wpQuiet_nil ?_
    rintro _ ⟨x, rfl⟩
    go_wp2
    go_ret
    exact ⟨ret_bool HF.out.symm, grown_trans HG.out x.h⟩
end Go.Proofs.YtkiockffejlnhaaGreatDoor

/- What risc's forms say of instructions: plain. -/
namespace Go.Proofs.YtkiockffejlnhaaGreatDoor
open Go.RowKit
set_option linter.unusedVariables false
namespace Rc
theorem may_of {v : InV} (h0 : (fld v.op).data.isEmpty = false) (r : Rng v) : mayB v = true := by
  unfold mayB regB smallB
  simp only [Bool.and_eq_true, Bool.or_eq_true, beq_iff_eq, decide_eq_true_eq]
  exact ⟨⟨⟨⟨⟨⟨⟨⟨⟨⟨⟨⟨⟨by rw [h0]; rfl, r.sc⟩, r.lb⟩, r.a1, r.a2⟩, r.b1, r.b2⟩, r.c1, r.c2⟩, r.i1, r.i2⟩, r.u0⟩, r.u1⟩, r.u2⟩, r.u3⟩, r.u4⟩, r.u5⟩, r.kd⟩
theorem pk_may {v : InV} (h : mayB v = true) : pk v = ⟨v.op, v.a, v.b, cc v, nn v⟩ := by
  have r := rng h
  have hc := codes v h
  obtain ⟨op, a, b, c, k, sub, sc, imm, lb⟩ := v
  obtain ⟨h1, h2, a1, a2, b1, b2, c1, c2, i1, i2, u0, u1, u2, u3, u4, u5, kd⟩ := r
  dsimp only at *
  rcases hc with rfl | rfl | rfl | rfl | rfl | rfl | rfl | rfl | rfl | rfl | rfl | rfl | rfl | rfl | rfl | rfl | rfl | rfl | rfl | rfl
  all_goals try (replace u0 := u0.resolve_left (by decide); subst u0)
  all_goals try (replace u1 := u1.resolve_left (by decide); subst u1)
  all_goals try (replace u2 := u2.resolve_left (by decide); subst u2)
  all_goals try (replace u5 := u5.resolve_left (by decide); subst u5)
  all_goals try (replace kd := bin_rng (show Wd.hasBinB sub k = true from kd))
  all_goals try (replace kd := un_rng (show Wd.hasUnB sub k = true from kd))
  all_goals try (replace kd := conv_rng (show (Wd.numB sub && Wd.numB k) = true from kd))
  all_goals
    unfold pk cc nn
    simp only [Int.reduceEq, or_self, or_false, or_true, if_true, if_false, FmV.mk.injEq, true_and]
    try (unfold wrap64; omega)
theorem unpk_pk {v : InV} (h : mayB v = true) : unpk (pk v) = v := by
  rw [pk_may h]
  have r := rng h
  have hc := codes v h
  obtain ⟨op, a, b, c, k, sub, sc, imm, lb⟩ := v
  obtain ⟨h1, h2, a1, a2, b1, b2, c1, c2, i1, i2, u0, u1, u2, u3, u4, u5, kd⟩ := r
  dsimp only at *
  subst h1 h2
  rcases hc with rfl | rfl | rfl | rfl | rfl | rfl | rfl | rfl | rfl | rfl | rfl | rfl | rfl | rfl | rfl | rfl | rfl | rfl | rfl | rfl
  all_goals try (replace u0 := u0.resolve_left (by decide))
  all_goals try (replace u1 := u1.resolve_left (by decide))
  all_goals try (replace u2 := u2.resolve_left (by decide))
  all_goals try (replace u3 := u3.resolve_left (by decide))
  all_goals try (replace u4 := u4.resolve_left (by decide))
  all_goals try (replace u5 := u5.resolve_left (by decide))
  all_goals try (replace kd := bin_rng (show Wd.hasBinB sub k = true from kd))
  all_goals try (replace kd := un_rng (show Wd.hasUnB sub k = true from kd))
  all_goals try (replace kd := conv_rng (show (Wd.numB sub && Wd.numB k) = true from kd))
  all_goals
    unfold unpk cc nn
    simp only [Int.reduceEq, or_self, or_false, or_true, if_true, if_false, InV.mk.injEq, true_and, and_true]
    try omega
theorem E2_of {v : InV} {f : FmV} (h : unpk f = v) : E2 v f := by
  subst h; exact ⟨rfl, rfl, rfl, rfl, rfl, rfl, rfl, rfl, rfl⟩
theorem E1_of {v : InV} {f : FmV} (h : pk v = f) : E1 v f := by
  subst h; exact ⟨rfl, rfl, rfl, rfl, rfl⟩
theorem of_E1 {v : InV} {f : FmV} (h : E1 v f) : pk v = f := by
  unfold E1 at h
  generalize pk v = p at h
  obtain ⟨_, _, _, _, _⟩ := p
  obtain ⟨_, _, _, _, _⟩ := f
  obtain ⟨rfl, rfl, rfl, rfl, rfl⟩ := h
  rfl
theorem of_E2 {v : InV} {f : FmV} (h : E2 v f) : unpk f = v := by
  unfold E2 at h
  generalize unpk f = p at h
  obtain ⟨_, _, _, _, _, _, _, _, _⟩ := p
  obtain ⟨_, _, _, _, _, _, _, _, _⟩ := v
  obtain ⟨rfl, rfl, rfl, rfl, rfl, rfl, rfl, rfl, rfl⟩ := h
  rfl
theorem ag_of {v : InV} (h : mayB v = true) : Ag v (pk v) := by
  refine ⟨E1_of rfl, E2_of (unpk_pk h), ?_, ?_⟩
  · rw [pk_may h]
    have r := rng h
    have hc := codes v h
    have hk := r.kd
    unfold smallB nn
    dsimp only
    rw [Bool.and_eq_true, decide_eq_true_eq, decide_eq_true_eq]
    have := r.i1
    have := r.i2
    split
    · rename_i ho
      rcases ho with ho | ho | ho
      · unfold kindB at hk; rw [if_pos ho] at hk; have := bin_rng hk; omega
      · unfold kindB at hk; rw [if_neg (by omega), if_pos ho] at hk; have := un_rng hk; omega
      · unfold kindB at hk; rw [if_neg (by omega), if_neg (by omega), if_pos ho] at hk; have := conv_rng hk; omega
    · omega
  · have r := rng h
    have hc := codes v h
    unfold fitB regB
    simp only [Bool.and_eq_true, Bool.not_eq_true', beq_eq_false_iff_ne, ne_eq, decide_eq_true_eq]
    exact ⟨⟨⟨⟨by omega, r.a1, r.a2⟩, r.b1, r.b2⟩, r.c1, r.c2⟩, r.kd⟩
theorem of_ag {v : InV} (h : Ag v (pk v)) : mayB v = true := by
  obtain ⟨-, h2, h3, h4⟩ := h
  have e := of_E2 h2
  obtain ⟨op, a, b, c, k, sub, sc, imm, lb⟩ := v
  unfold fitB regB at h4
  simp only [Bool.and_eq_true, Bool.not_eq_true', beq_eq_false_iff_ne, ne_eq, decide_eq_true_eq] at h4
  obtain ⟨⟨⟨⟨p0, p1, p2⟩, p3, p4⟩, p5, p6⟩, kd⟩ := h4
  unfold smallB at h3
  rw [Bool.and_eq_true, decide_eq_true_eq, decide_eq_true_eq] at h3
  clear h2
  rcases ops op with rfl | rfl | rfl | rfl | rfl | rfl | rfl | rfl | rfl | rfl | rfl | rfl | rfl | rfl | rfl | rfl | rfl | rfl | rfl | rfl | hn
  case inr.inr.inr.inr.inr.inr.inr.inr.inr.inr.inr.inr.inr.inr.inr.inr.inr.inr.inr.inr =>
    exfalso
    simp only [beq_eq_false_iff_ne, ne_eq] at hn
    have : pk ⟨op, a, b, c, k, sub, sc, imm, lb⟩ = ⟨0, 0, 0, 0, 0⟩ := by
      unfold pk
      simp only [hn, or_self, if_false]
    rw [this] at e
    injection e with e0
    exact p0 e0.symm
  all_goals
    unfold pk at e h3
    simp only [Int.reduceEq, or_self, or_false, or_true, if_true, if_false] at e h3
    unfold unpk at e
    simp only [Int.reduceEq, or_self, or_false, or_true, if_true, if_false, InV.mk.injEq, true_and] at e
    refine may_of (by dsimp only; decide) ⟨?_, ?_, p1, p2, p3, p4, p5, p6, ?_, ?_, ?_, ?_, ?_, ?_, ?_, ?_, kd⟩
    all_goals first | exact .inl (by dsimp only; decide) | (dsimp only; omega) | (right; dsimp only; omega)
theorem ag_may (v : InV) : mayB v = true ↔ Ag v (pk v) := ⟨ag_of, of_ag⟩
theorem pk_rng {v : InV} (h1 : -9223372036854775808 ≤ v.imm) (h2 : v.imm ≤ 9223372036854775807) : -9223372036854775808 ≤ (pk v).n ∧ (pk v).n ≤ 9223372036854775807 := by
  have hw : ∀ x, -9223372036854775808 ≤ wrap64 x ∧ wrap64 x ≤ 9223372036854775807 := fun x => by unfold wrap64; omega
  have := hw (v.k + 256 * v.sub)
  unfold pk
  repeat' split
  all_goals (dsimp only; omega)
theorem fb_enc {v : InV} (h : mayB v = true) (i : Nat) (hi : i < 8) : fb (pk v) i = enc v i := by
  rw [pk_may h]
  unfold fb enc
  dsimp only
  repeat' split
  all_goals first | rfl | (rw [show (4294967296 : Int) = 256 ^ 4 from rfl, Mm.by8_mod _ _ 4 (by omega)])
theorem fb_fo {g : Nat → Int} (hg : Mm.Fit g) (i : Nat) (hi : i < 8) : fb (fo g) i = g i := by
  have r := Mm.ld_rng hg 4 4
  have hgi := hg i
  unfold fb fo
  dsimp only
  by_cases h0 : i = 0
  · rw [if_pos h0]; subst h0; omega
  by_cases h1 : i = 1
  · rw [if_neg h0, if_pos h1]; subst h1; omega
  by_cases h2 : i = 2
  · rw [if_neg h0, if_neg h1, if_pos h2]; subst h2; omega
  by_cases h3 : i = 3
  · rw [if_neg h0, if_neg h1, if_neg h2, if_pos h3]; subst h3; omega
  rw [if_neg h0, if_neg h1, if_neg h2, if_neg h3, ← Mm.by8_mod _ _ 4 (by omega)]
  have e : s32 (Mm.ld g 4 4) % 256 ^ 4 = Mm.ld g 4 4 := by
    have : (256 : Int) ^ 4 = 4294967296 := rfl
    unfold s32; omega
  rw [e]
  have h4 := hg 4
  have h5 := hg 5
  have h6 := hg 6
  have h7 := hg 7
  have el : Mm.ld g 4 4 = g 4 + g 5 * 256 + g 6 * 65536 + g 7 * 16777216 := by
    show 0 + g 4 * 1 + g 5 * 256 + g 6 * 65536 + g 7 * 16777216 = _
    omega
  rw [el]
  have : i = 4 ∨ i = 5 ∨ i = 6 ∨ i = 7 := by omega
  rcases this with rfl | rfl | rfl | rfl
  · show (g 4 + g 5 * 256 + g 6 * 65536 + g 7 * 16777216) / 1 % 256 = g 4; omega
  · show (g 4 + g 5 * 256 + g 6 * 65536 + g 7 * 16777216) / 256 % 256 = g 5; omega
  · show (g 4 + g 5 * 256 + g 6 * 65536 + g 7 * 16777216) / 65536 % 256 = g 6; omega
  · show (g 4 + g 5 * 256 + g 6 * 65536 + g 7 * 16777216) / 16777216 % 256 = g 7; omega
theorem pk_rd {g : Nat → Int} (h : okB g = true) : pk (rd g) = fo g := by
  have hm : mayB (rd g) = true := by unfold okB at h; rw [Bool.and_eq_true] at h; exact h.2
  rw [pk_may hm]
  unfold fo
  by_cases hA : g 0 = 4 ∨ g 0 = 7 ∨ g 0 = 8
  · rw [rd_1 hA]
    unfold cc nn
    dsimp only
    rw [if_neg (by omega), if_pos hA]
    congr 1
    omega
  · by_cases hB : g 0 = 11 ∨ g 0 = 13
    · rw [rd_2 hB]
      unfold cc nn
      dsimp only
      rw [if_pos hB, if_neg hA]
    · rw [rd_3 hA hB]
      unfold cc nn
      dsimp only
      rw [if_neg hB, if_neg hA]
theorem ag_ok {g : Nat → Int} (hg : Mm.Fit g) : okB g = true ↔ Ag (unpk (fo g)) (fo g) := by
  constructor
  · intro h
    have hm : mayB (rd g) = true := by unfold okB at h; rw [Bool.and_eq_true] at h; exact h.2
    have e := pk_rd h
    have a := ag_of hm
    rw [← e, unpk_pk hm]
    exact a
  · intro h
    have e : pk (unpk (fo g)) = fo g := of_E1 h.1
    have hm : mayB (unpk (fo g)) = true := of_ag (by rw [e]; exact h)
    have hb : ∀ i, i < 8 → g i = enc (unpk (fo g)) i := fun i hi => by rw [← fb_enc hm i hi, e, fb_fo hg i hi]
    rw [(rd_congr hb).2]
    exact ok_enc _ hm
theorem unpk_ok {g : Nat → Int} (h : okB g = true) : unpk (fo g) = rd g := by
  have hm : mayB (rd g) = true := by unfold okB at h; rw [Bool.and_eq_true] at h; exact h.2
  rw [← pk_rd h, unpk_pk hm]
end Rc
end Go.Proofs.YtkiockffejlnhaaGreatDoor

/- risc.Encode: its contract. -/
namespace Go.Proofs.YtkiockffejlnhaaGreatDoor
open Go.RowKit
set_option linter.unusedVariables false
theorem pack_x (v : InV) (w : World) : Calls Tryz.prog 77 #[inst v] w fun e w' => e = .returned (.agg #[.int .i64 (Rc.pk v).code, .int .i64 (Rc.pk v).a, .int .i64 (Rc.pk v).b, .int .i64 (Rc.pk v).c, .int .i64 (Rc.pk v).n]) ∧ w.grownBy w' none := pack_any v w
theorem OwnB.congr {w : World} {base n : Nat} {v : Value} {g g' : Nat → Int} (h : OwnB w base v n g) (e : ∀ i, i < n → g i = g' i) : OwnB w base v n g' := by
  have : bytesL n g = bytesL n g' := by
    unfold bytesL
    exact List.map_congr_left fun i hi => by rw [e i (List.mem_range.1 hi)]
  unfold OwnB at *
  rw [← this]; exact h
set_option maxHeartbeats 8000000 in
theorem encode_no (v : InV) (w : World) (h1 : -9223372036854775808 ≤ v.imm) (h2 : v.imm ≤ 9223372036854775807) (hm : Rc.mayB v = false) :
    Calls Tryz.prog 60 #[inst v] w fun e w' => e = .returned (.tuple #[.slice none 0 0, .int .i64 30]) ∧ w.grownBy w' none := by
  have r := Rc.pk_rng h1 h2
  have HA : Hid (false = true ↔ Rc.Ag v (Rc.pk v)) := by
    show _ ↔ _
    rw [← hm]; exact Rc.ag_may v
  have c0 : (w.alloc (Obj.cells #[.int .i64 v.op, .int .i64 v.a, .int .i64 v.b, .int .i64 v.c, .int .i64 v.k, .int .i64 v.sub, .int .i64 v.scale, .int .i64 v.imm, .int .i64 v.label] 50)).cell? ⟨w.heap.size, 0, none⟩ = some (.int .i64 v.op) := by simp
  have c1 : (w.alloc (Obj.cells #[.int .i64 v.op, .int .i64 v.a, .int .i64 v.b, .int .i64 v.c, .int .i64 v.k, .int .i64 v.sub, .int .i64 v.scale, .int .i64 v.imm, .int .i64 v.label] 50)).cell? ⟨w.heap.size, 1, none⟩ = some (.int .i64 v.a) := by simp
  have c2 : (w.alloc (Obj.cells #[.int .i64 v.op, .int .i64 v.a, .int .i64 v.b, .int .i64 v.c, .int .i64 v.k, .int .i64 v.sub, .int .i64 v.scale, .int .i64 v.imm, .int .i64 v.label] 50)).cell? ⟨w.heap.size, 2, none⟩ = some (.int .i64 v.b) := by simp
  have c3 : (w.alloc (Obj.cells #[.int .i64 v.op, .int .i64 v.a, .int .i64 v.b, .int .i64 v.c, .int .i64 v.k, .int .i64 v.sub, .int .i64 v.scale, .int .i64 v.imm, .int .i64 v.label] 50)).cell? ⟨w.heap.size, 3, none⟩ = some (.int .i64 v.c) := by simp
  have c4 : (w.alloc (Obj.cells #[.int .i64 v.op, .int .i64 v.a, .int .i64 v.b, .int .i64 v.c, .int .i64 v.k, .int .i64 v.sub, .int .i64 v.scale, .int .i64 v.imm, .int .i64 v.label] 50)).cell? ⟨w.heap.size, 4, none⟩ = some (.int .i64 v.k) := by simp
  have c5 : (w.alloc (Obj.cells #[.int .i64 v.op, .int .i64 v.a, .int .i64 v.b, .int .i64 v.c, .int .i64 v.k, .int .i64 v.sub, .int .i64 v.scale, .int .i64 v.imm, .int .i64 v.label] 50)).cell? ⟨w.heap.size, 5, none⟩ = some (.int .i64 v.sub) := by simp
  have c6 : (w.alloc (Obj.cells #[.int .i64 v.op, .int .i64 v.a, .int .i64 v.b, .int .i64 v.c, .int .i64 v.k, .int .i64 v.sub, .int .i64 v.scale, .int .i64 v.imm, .int .i64 v.label] 50)).cell? ⟨w.heap.size, 6, none⟩ = some (.int .i64 v.scale) := by simp
  have c7 : (w.alloc (Obj.cells #[.int .i64 v.op, .int .i64 v.a, .int .i64 v.b, .int .i64 v.c, .int .i64 v.k, .int .i64 v.sub, .int .i64 v.scale, .int .i64 v.imm, .int .i64 v.label] 50)).cell? ⟨w.heap.size, 7, none⟩ = some (.int .i64 v.imm) := by simp
  have c8 : (w.alloc (Obj.cells #[.int .i64 v.op, .int .i64 v.a, .int .i64 v.b, .int .i64 v.c, .int .i64 v.k, .int .i64 v.sub, .int .i64 v.scale, .int .i64 v.imm, .int .i64 v.label] 50)).cell? ⟨w.heap.size, 8, none⟩ = some (.int .i64 v.label) := by simp
  have hb0 := World.grownBy_alloc w (Obj.cells #[.int .i64 v.op, .int .i64 v.a, .int .i64 v.b, .int .i64 v.c, .int .i64 v.k, .int .i64 v.sub, .int .i64 v.scale, .int .i64 v.imm, .int .i64 v.label] 50) none
  unfold inst
  go_enter Tryz.func60, Tryz.ntmps60
  go_wp2_with (first
    | (go_at_call 77; refine (pack_x v _).mono ?_; rintro e w1 ⟨rfl, hg1⟩; have i0 := (World.grownBy_alloc w1 (Obj.cells #[.int .i64 (Rc.pk v).code, .int .i64 (Rc.pk v).a, .int .i64 (Rc.pk v).b, .int .i64 (Rc.pk v).c, .int .i64 (Rc.pk v).n] 97) none).cell (hg1.cell c0 (by simp)) (by simp); have i1 := (World.grownBy_alloc w1 (Obj.cells #[.int .i64 (Rc.pk v).code, .int .i64 (Rc.pk v).a, .int .i64 (Rc.pk v).b, .int .i64 (Rc.pk v).c, .int .i64 (Rc.pk v).n] 97) none).cell (hg1.cell c1 (by simp)) (by simp); have i2 := (World.grownBy_alloc w1 (Obj.cells #[.int .i64 (Rc.pk v).code, .int .i64 (Rc.pk v).a, .int .i64 (Rc.pk v).b, .int .i64 (Rc.pk v).c, .int .i64 (Rc.pk v).n] 97) none).cell (hg1.cell c2 (by simp)) (by simp); have i3 := (World.grownBy_alloc w1 (Obj.cells #[.int .i64 (Rc.pk v).code, .int .i64 (Rc.pk v).a, .int .i64 (Rc.pk v).b, .int .i64 (Rc.pk v).c, .int .i64 (Rc.pk v).n] 97) none).cell (hg1.cell c3 (by simp)) (by simp); have i4 := (World.grownBy_alloc w1 (Obj.cells #[.int .i64 (Rc.pk v).code, .int .i64 (Rc.pk v).a, .int .i64 (Rc.pk v).b, .int .i64 (Rc.pk v).c, .int .i64 (Rc.pk v).n] 97) none).cell (hg1.cell c4 (by simp)) (by simp); have i5 := (World.grownBy_alloc w1 (Obj.cells #[.int .i64 (Rc.pk v).code, .int .i64 (Rc.pk v).a, .int .i64 (Rc.pk v).b, .int .i64 (Rc.pk v).c, .int .i64 (Rc.pk v).n] 97) none).cell (hg1.cell c5 (by simp)) (by simp); have i6 := (World.grownBy_alloc w1 (Obj.cells #[.int .i64 (Rc.pk v).code, .int .i64 (Rc.pk v).a, .int .i64 (Rc.pk v).b, .int .i64 (Rc.pk v).c, .int .i64 (Rc.pk v).n] 97) none).cell (hg1.cell c6 (by simp)) (by simp); have i7 := (World.grownBy_alloc w1 (Obj.cells #[.int .i64 (Rc.pk v).code, .int .i64 (Rc.pk v).a, .int .i64 (Rc.pk v).b, .int .i64 (Rc.pk v).c, .int .i64 (Rc.pk v).n] 97) none).cell (hg1.cell c7 (by simp)) (by simp); have i8 := (World.grownBy_alloc w1 (Obj.cells #[.int .i64 (Rc.pk v).code, .int .i64 (Rc.pk v).a, .int .i64 (Rc.pk v).b, .int .i64 (Rc.pk v).c, .int .i64 (Rc.pk v).n] 97) none).cell (hg1.cell c8 (by simp)) (by simp))
    | (go_at_call 57; refine (agree_any v (Rc.pk v) _ r.1 r.2 false HA.out).mono ?_; rintro e w2 ⟨rfl, hg2⟩))
  go_ret2
  exact ⟨rfl, grown_trans (grown_trans (grown_trans hb0 hg1) (World.grownBy_alloc _ _ _)) hg2⟩
set_option maxHeartbeats 8000000 in
theorem encode_ok (v : InV) (w : World) (h1 : -9223372036854775808 ≤ v.imm) (h2 : v.imm ≤ 9223372036854775807) (hm : Rc.mayB v = true) :
    Calls Tryz.prog 60 #[inst v] w fun e w' => ∃ T, e = .returned (.tuple #[.slice (some ⟨T, 0, none⟩) 8 8, .int .i64 0]) ∧ OwnB w' w.heap.size (.slice (some ⟨T, 0, none⟩) 8 8) 8 (Rc.enc v) ∧ w.grownBy w' none := by
  have r := Rc.pk_rng h1 h2
  have HA : Hid (Rc.Ag v (Rc.pk v)) := (Rc.ag_may v).1 hm
  have HE : Hid (∀ i, i < 8 → Rc.fb (Rc.pk v) i = Rc.enc v i) := Rc.fb_enc hm
  have c0 : (w.alloc (Obj.cells #[.int .i64 v.op, .int .i64 v.a, .int .i64 v.b, .int .i64 v.c, .int .i64 v.k, .int .i64 v.sub, .int .i64 v.scale, .int .i64 v.imm, .int .i64 v.label] 50)).cell? ⟨w.heap.size, 0, none⟩ = some (.int .i64 v.op) := by simp
  have c1 : (w.alloc (Obj.cells #[.int .i64 v.op, .int .i64 v.a, .int .i64 v.b, .int .i64 v.c, .int .i64 v.k, .int .i64 v.sub, .int .i64 v.scale, .int .i64 v.imm, .int .i64 v.label] 50)).cell? ⟨w.heap.size, 1, none⟩ = some (.int .i64 v.a) := by simp
  have c2 : (w.alloc (Obj.cells #[.int .i64 v.op, .int .i64 v.a, .int .i64 v.b, .int .i64 v.c, .int .i64 v.k, .int .i64 v.sub, .int .i64 v.scale, .int .i64 v.imm, .int .i64 v.label] 50)).cell? ⟨w.heap.size, 2, none⟩ = some (.int .i64 v.b) := by simp
  have c3 : (w.alloc (Obj.cells #[.int .i64 v.op, .int .i64 v.a, .int .i64 v.b, .int .i64 v.c, .int .i64 v.k, .int .i64 v.sub, .int .i64 v.scale, .int .i64 v.imm, .int .i64 v.label] 50)).cell? ⟨w.heap.size, 3, none⟩ = some (.int .i64 v.c) := by simp
  have c4 : (w.alloc (Obj.cells #[.int .i64 v.op, .int .i64 v.a, .int .i64 v.b, .int .i64 v.c, .int .i64 v.k, .int .i64 v.sub, .int .i64 v.scale, .int .i64 v.imm, .int .i64 v.label] 50)).cell? ⟨w.heap.size, 4, none⟩ = some (.int .i64 v.k) := by simp
  have c5 : (w.alloc (Obj.cells #[.int .i64 v.op, .int .i64 v.a, .int .i64 v.b, .int .i64 v.c, .int .i64 v.k, .int .i64 v.sub, .int .i64 v.scale, .int .i64 v.imm, .int .i64 v.label] 50)).cell? ⟨w.heap.size, 5, none⟩ = some (.int .i64 v.sub) := by simp
  have c6 : (w.alloc (Obj.cells #[.int .i64 v.op, .int .i64 v.a, .int .i64 v.b, .int .i64 v.c, .int .i64 v.k, .int .i64 v.sub, .int .i64 v.scale, .int .i64 v.imm, .int .i64 v.label] 50)).cell? ⟨w.heap.size, 6, none⟩ = some (.int .i64 v.scale) := by simp
  have c7 : (w.alloc (Obj.cells #[.int .i64 v.op, .int .i64 v.a, .int .i64 v.b, .int .i64 v.c, .int .i64 v.k, .int .i64 v.sub, .int .i64 v.scale, .int .i64 v.imm, .int .i64 v.label] 50)).cell? ⟨w.heap.size, 7, none⟩ = some (.int .i64 v.imm) := by simp
  have c8 : (w.alloc (Obj.cells #[.int .i64 v.op, .int .i64 v.a, .int .i64 v.b, .int .i64 v.c, .int .i64 v.k, .int .i64 v.sub, .int .i64 v.scale, .int .i64 v.imm, .int .i64 v.label] 50)).cell? ⟨w.heap.size, 8, none⟩ = some (.int .i64 v.label) := by simp
  have hb0 := World.grownBy_alloc w (Obj.cells #[.int .i64 v.op, .int .i64 v.a, .int .i64 v.b, .int .i64 v.c, .int .i64 v.k, .int .i64 v.sub, .int .i64 v.scale, .int .i64 v.imm, .int .i64 v.label] 50) none
  unfold inst
  go_enter Tryz.func60, Tryz.ntmps60
  go_wp2_with (first
    | (go_at_call 77; refine (pack_x v _).mono ?_; rintro e w1 ⟨rfl, hg1⟩; have i0 := (World.grownBy_alloc w1 (Obj.cells #[.int .i64 (Rc.pk v).code, .int .i64 (Rc.pk v).a, .int .i64 (Rc.pk v).b, .int .i64 (Rc.pk v).c, .int .i64 (Rc.pk v).n] 97) none).cell (hg1.cell c0 (by simp)) (by simp); have i1 := (World.grownBy_alloc w1 (Obj.cells #[.int .i64 (Rc.pk v).code, .int .i64 (Rc.pk v).a, .int .i64 (Rc.pk v).b, .int .i64 (Rc.pk v).c, .int .i64 (Rc.pk v).n] 97) none).cell (hg1.cell c1 (by simp)) (by simp); have i2 := (World.grownBy_alloc w1 (Obj.cells #[.int .i64 (Rc.pk v).code, .int .i64 (Rc.pk v).a, .int .i64 (Rc.pk v).b, .int .i64 (Rc.pk v).c, .int .i64 (Rc.pk v).n] 97) none).cell (hg1.cell c2 (by simp)) (by simp); have i3 := (World.grownBy_alloc w1 (Obj.cells #[.int .i64 (Rc.pk v).code, .int .i64 (Rc.pk v).a, .int .i64 (Rc.pk v).b, .int .i64 (Rc.pk v).c, .int .i64 (Rc.pk v).n] 97) none).cell (hg1.cell c3 (by simp)) (by simp); have i4 := (World.grownBy_alloc w1 (Obj.cells #[.int .i64 (Rc.pk v).code, .int .i64 (Rc.pk v).a, .int .i64 (Rc.pk v).b, .int .i64 (Rc.pk v).c, .int .i64 (Rc.pk v).n] 97) none).cell (hg1.cell c4 (by simp)) (by simp); have i5 := (World.grownBy_alloc w1 (Obj.cells #[.int .i64 (Rc.pk v).code, .int .i64 (Rc.pk v).a, .int .i64 (Rc.pk v).b, .int .i64 (Rc.pk v).c, .int .i64 (Rc.pk v).n] 97) none).cell (hg1.cell c5 (by simp)) (by simp); have i6 := (World.grownBy_alloc w1 (Obj.cells #[.int .i64 (Rc.pk v).code, .int .i64 (Rc.pk v).a, .int .i64 (Rc.pk v).b, .int .i64 (Rc.pk v).c, .int .i64 (Rc.pk v).n] 97) none).cell (hg1.cell c6 (by simp)) (by simp); have i7 := (World.grownBy_alloc w1 (Obj.cells #[.int .i64 (Rc.pk v).code, .int .i64 (Rc.pk v).a, .int .i64 (Rc.pk v).b, .int .i64 (Rc.pk v).c, .int .i64 (Rc.pk v).n] 97) none).cell (hg1.cell c7 (by simp)) (by simp); have i8 := (World.grownBy_alloc w1 (Obj.cells #[.int .i64 (Rc.pk v).code, .int .i64 (Rc.pk v).a, .int .i64 (Rc.pk v).b, .int .i64 (Rc.pk v).c, .int .i64 (Rc.pk v).n] 97) none).cell (hg1.cell c8 (by simp)) (by simp))
    | (go_at_call 57; refine (agree_any v (Rc.pk v) _ r.1 r.2 true ⟨fun _ => HA.out, fun _ => rfl⟩).mono ?_; rintro e w2 ⟨rfl, hg2⟩; have j0 : w2.cell? ⟨w1.heap.size, 0, none⟩ = some (.int .i64 (Rc.pk v).code) := hg2.cell (by simp) (by simp); have j1 : w2.cell? ⟨w1.heap.size, 1, none⟩ = some (.int .i64 (Rc.pk v).a) := hg2.cell (by simp) (by simp); have j2 : w2.cell? ⟨w1.heap.size, 2, none⟩ = some (.int .i64 (Rc.pk v).b) := hg2.cell (by simp) (by simp); have j3 : w2.cell? ⟨w1.heap.size, 3, none⟩ = some (.int .i64 (Rc.pk v).c) := hg2.cell (by simp) (by simp); have j4 : w2.cell? ⟨w1.heap.size, 4, none⟩ = some (.int .i64 (Rc.pk v).n) := hg2.cell (by simp) (by simp))
    | (go_at_call 91; refine (fbytes_any (Rc.pk v) _).mono ?_; rintro e w3 ⟨T, rfl, ho3, hg3⟩))
  go_ret2
  have g2 := grown_trans (grown_trans (grown_trans hb0 hg1) (World.grownBy_alloc _ _ _)) hg2
  exact ⟨T, rfl, World.ownsRow.mono (ho3.congr HE.out) g2.size, grown_trans g2 hg3⟩
end Go.Proofs.YtkiockffejlnhaaGreatDoor

/- Instructions in a row of the call's own; their bytes on a target. -/
namespace Go.Proofs.YtkiockffejlnhaaGreatDoor
open Go.RowKit
set_option linter.unusedVariables false
def cells9 (v : InV) : List Value := [.int .i64 v.op, .int .i64 v.a, .int .i64 v.b, .int .i64 v.c, .int .i64 v.k, .int .i64 v.sub, .int .i64 v.scale, .int .i64 v.imm, .int .i64 v.label]
def OwnI (w : World) (base : Nat) (v : Value) (l : List InV) : Prop := w.ownsRow base 50 9 v l.length (l.flatMap cells9)
theorem info_inst : (Tryz.prog.info? 50).map (fun i => (i.zero, i.size, i.bytes)) = some (some (.agg #[.int .i64 0, .int .i64 0, .int .i64 0, .int .i64 0, .int .i64 0, .int .i64 0, .int .i64 0, .int .i64 0, .int .i64 0]), 9, 72) := by kernel_rfl
theorem OwnI.nil (w : World) (base : Nat) : OwnI w base (.slice none 0 0) [] := World.ownsRow_nil _ _ _ _
theorem OwnI.kept {w w' : World} {base : Nat} {v : Value} {l : List InV} {row : Option Nat} (h : OwnI w base v l) (hg : w.grownBy w' row) (hne : v.ownBlock = none ∨ v.ownBlock ≠ row) : OwnI w' base v l := World.ownsRow.kept h hg hne
theorem OwnI.grow {w w' : World} {base : Nat} {v : Value} {l : List InV} (h : OwnI w base v l) (hg : w.grownBy w' none) : OwnI w' base v l := h.kept hg (Classical.em _)
theorem OwnI.base {w : World} {base : Nat} {v : Value} {l : List InV} (h : OwnI w base v l) : ∀ k, v.ownBlock = some k → base ≤ k := fun k hk => (World.ownsRow.lt h k hk).1
theorem flat9_len (l : List InV) : (l.flatMap cells9).length = l.length * 9 := by
  induction l with
  | nil => rfl
  | cons v l ih => rw [List.flatMap_cons, List.length_append, ih, List.length_cons]; simp [cells9]; omega
theorem flat9_at : ∀ (l : List InV) (i k : Nat) (hi : i < l.length), k < 9 → (l.flatMap cells9)[i * 9 + k]? = (cells9 l[i])[k]?
  | [], i, k, hi, _ => by simp at hi
  | v :: l, 0, k, _, hk => by
    rw [List.flatMap_cons, List.getElem?_append_left (by simp [cells9]; omega)]
    simp
  | v :: l, i + 1, k, hi, hk => by
    have h9 : (cells9 v).length = 9 := rfl
    rw [List.flatMap_cons, List.getElem?_append_right (by rw [h9]; omega), h9, show (i + 1) * 9 + k - 9 = i * 9 + k by omega]
    exact flat9_at l i k (by simpa using hi) hk
theorem OwnI.inAt {w : World} {base T n c : Nat} {l : List InV} (h : OwnI w base (.slice (some ⟨T, 0, none⟩) n c) l) (hn : n = l.length) {i : Nat} (hi : i < l.length) : InAt w T (0 + i * 9) l[i] := by
  subst hn
  rw [Nat.zero_add]
  have e : ∀ k, k < 9 → w.cell? ⟨T, i * 9 + k, none⟩ = (cells9 l[i])[k]? := fun k hk => (World.ownsRow.cellAt h (i * 9 + k) (by omega)).trans (flat9_at l i k hi hk)
  exact ⟨e 0 (by decide), e 1 (by decide), e 2 (by decide), e 3 (by decide), e 4 (by decide), e 5 (by decide), e 6 (by decide), e 7 (by decide), e 8 (by decide)⟩
theorem OwnI.slice {w : World} {base : Nat} {v : Value} {l : List InV} (h : OwnI w base v l) : ∃ ao c, v = .slice ao l.length c ∧ l.length ≤ c ∧ (0 < l.length → ∃ T, ao = some ⟨T, 0, none⟩ ∧ T < w.heap.size) := by
  rcases h.2 with ⟨rfl, h0⟩ | ⟨T, c, cur, rfl, _, e, hc, _⟩
  · exact ⟨none, 0, by rw [h0], by omega, fun h => by omega⟩
  · exact ⟨some ⟨T, 0, none⟩, c, rfl, hc, fun _ => ⟨T, rfl, (World.ownsRow.lt h T rfl).2⟩⟩
namespace Cc
theorem enc_len5 (v : InV) : (enc v).length ≤ 33 := by
  have h : ∀ s : List Int, (s.flatMap (letB v)).length ≤ 8 * s.length := by
    intro s
    induction s with
    | nil => exact Nat.le_refl _
    | cons l s ih =>
      have : (letB v l).length ≤ 8 := by
        have hc := cnt_c (z := size v.imm)
        unfold letB
        repeat' split
        all_goals first | (rw [low_len]; omega) | (simp only [List.length_cons, List.length_nil]; omega)
      rw [List.flatMap_cons, List.length_append, List.length_cons]
      omega
  have h2 := h (row v.op)
  have h3 : (row v.op).length ≤ 4 := by
    rcases ops v.op with h | h | h | h | h | h | h | h | h | h | h | h | h | h | h | h | h | h | h | h | h | h | h | h | h | h
    case inr.inr.inr.inr.inr.inr.inr.inr.inr.inr.inr.inr.inr.inr.inr.inr.inr.inr.inr.inr.inr.inr.inr.inr.inr =>
      rw [(row_none h).1]; decide
    all_goals (rw [h]; decide)
  unfold enc
  rw [List.length_cons]
  omega
end Cc
namespace Ru
def encT (t : Int) (v : InV) : List Int := if t = 1 then (List.range 8).map (Rc.enc v) else Cc.enc v
def mayT (t : Int) (v : InV) : Bool := if t = 1 then Rc.mayB v else Cc.mayB v
theorem cc_len (v : InV) : (Cc.enc v).length ≤ 33 := Cc.enc_len5 v
theorem encT_len (t : Int) (v : InV) : 0 < (encT t v).length ∧ (encT t v).length ≤ 33 := by
  unfold encT
  split
  · simp
  · refine ⟨?_, cc_len v⟩
    unfold Cc.enc
    simp
end Ru
end Go.Proofs.YtkiockffejlnhaaGreatDoor

/- Pieces as plain numbers: which may be linked, how their instructions lead. -/
namespace Go.Proofs.YtkiockffejlnhaaGreatDoor
set_option linter.unusedVariables false
namespace Lk
def jmpB (op : Int) : Bool := op == 19 || op == 20 || op == 21 || op == 22
theorem jmpB_iff {op : Int} : jmpB op = true ↔ op = 19 ∨ op = 20 ∨ op = 21 ∨ op = 22 := by unfold jmpB; simp [or_assoc]
structure PcV where
  n : Nat
  I : Nat → InV
  m : Nat
  M : Nat → Int
def bare (v : InV) : InV := { v with label := 0 }
def lead (v : InV) (x : Int) : InV := { v with imm := x, label := 0 }
def labB (m p : Int) (v : InV) : Bool :=
  if jmpB v.op then v.imm == 0 && (decide (0 ≤ v.label) && decide (v.label < m)) else if v.op = 23 then v.imm == 0 && (decide (0 ≤ v.label) && decide (v.label < p)) else v.label == 0
def instB (t : Int) (m p : Int) (v : InV) : Bool := labB m p v && Ru.mayT t (bare v)
structure PcV.Ok (t : Int) (p : Int) (P : PcV) : Prop where
  marks : ∀ i, i < P.m → 0 ≤ P.M i ∧ P.M i ≤ P.n
  insts : ∀ i, i < P.n → instB t P.m p (P.I i) = true
def long (t : Int) : Int := if t = 1 then 8 else 6
def PcV.sh (t : Int) (P : PcV) : Sh where
  n := P.n
  j := fun i => jmpB (P.I i).op
  tg := fun i => (P.M (P.I i).label.toNat).toNat
  s := fun i => ((Ru.encT t (bare (P.I i))).length : Int)
  g := long t
theorem lab_jmp {m p : Int} {v : InV} (h : labB m p v = true) (hj : jmpB v.op = true) : v.imm = 0 ∧ 0 ≤ v.label ∧ v.label < m := by
  unfold labB at h
  rw [if_pos hj] at h
  simpa using h
theorem lab_call {m p : Int} {v : InV} (h : labB m p v = true) (hj : v.op = 23) : v.imm = 0 ∧ 0 ≤ v.label ∧ v.label < p := by
  unfold labB at h
  rw [if_neg (by rw [hj]; decide), if_pos hj] at h
  simpa using h
theorem lab_none {m p : Int} {v : InV} (h : labB m p v = true) (hj : jmpB v.op = false) (hc : v.op ≠ 23) : v.label = 0 := by
  unfold labB at h
  rw [if_neg (by rw [hj]; decide), if_neg hc] at h
  simpa using h
theorem low_len' (n : Int) (c : Nat) : (Cc.low n c).length = c := by unfold Cc.low; simp
theorem may_lead {t : Int} {v : InV} (hj : jmpB v.op = true ∨ v.op = 23) (hm : Ru.mayT t (bare v) = true) {x : Int} (h1 : -2147483648 ≤ x) (h2 : x < 2147483648) : Ru.mayT t (lead v x) = true := by
  rw [jmpB_iff] at hj
  have hs : Rc.smallB x = true := by unfold Rc.smallB; simp; exact ⟨h1, h2⟩
  unfold Ru.mayT at hm ⊢
  split
  · rename_i ht
    rw [if_pos ht] at hm
    obtain ⟨op, a, b, c, k, sub, sc, imm, lb⟩ := v
    simp only [bare, lead, Rc.mayB, Rc.kindB] at *
    rcases hj with (rfl | rfl | rfl | rfl) | rfl
    · have e : Rc.hasS (Rc.fld 19) 73 = true := by decide
      simp [e, hs] at hm ⊢
      simp [hm]
    · have e : Rc.hasS (Rc.fld 20) 73 = true := by decide
      simp [e, hs] at hm ⊢
      simp [hm]
    · have e : Rc.hasS (Rc.fld 21) 73 = true := by decide
      simp [e, hs] at hm ⊢
      simp [hm]
    · have e : (Rc.fld 22).data.isEmpty = true := by decide
      simp [e] at hm
    · have e : Rc.hasS (Rc.fld 23) 73 = true := by decide
      simp [e, hs] at hm ⊢
      simp [hm]
  · rename_i ht
    rw [if_neg ht] at hm
    obtain ⟨op, a, b, c, k, sub, sc, imm, lb⟩ := v
    simp only [bare, lead, Cc.mayB, Cc.kindB] at *
    rcases hj with (rfl | rfl | rfl | rfl) | rfl
    · have e : Cc.usesB 19 73 = true := by decide
      simp [e, hs] at hm ⊢
      simp [hm]
    · have e : Cc.row 20 = [] := by decide
      simp [e] at hm
    · have e : Cc.row 21 = [] := by decide
      simp [e] at hm
    · have e : Cc.usesB 22 73 = true := by decide
      simp [e, hs] at hm ⊢
      simp [hm]
    · have e : Cc.usesB 23 73 = true := by decide
      simp [e, hs] at hm ⊢
      simp [hm]
theorem len_jmp {t : Int} {v : InV} (hj : jmpB v.op = true) (hm : Ru.mayT t (bare v) = true) {x : Int} (h1 : -2147483648 ≤ x) (h2 : x < 2147483648) : ((Ru.encT t (lead v x)).length : Int) = if fitB x then (if t = 1 then 8 else 3) else long t := by
  rw [jmpB_iff] at hj
  unfold Ru.mayT at hm
  unfold Ru.encT long
  by_cases ht : t = 1
  · simp [ht]
  · rw [if_neg ht] at hm ⊢
    have hz : Cc.cnt (Cc.size x) = if fitB x then 1 else 4 := by
      unfold Cc.size
      cases hf : fitB x
      · rw [fitB_no] at hf
        rw [if_neg (by omega), if_pos (by omega)]
        decide
      · rw [fitB_iff] at hf
        rw [if_pos (by omega)]
        decide
    obtain ⟨op, a, b, c, k, sub, sc, imm, lb⟩ := v
    simp only [bare, lead, Cc.mayB, Cc.enc] at *
    rcases hj with rfl | rfl | rfl | rfl
    · have e : Cc.row 19 = [106, 105] := by decide
      rw [e]
      simp [Cc.letB, low_len', hz]
      cases fitB x <;> simp [ht]
    · have e : Cc.row 20 = [] := by decide
      simp [e] at hm
    · have e : Cc.row 21 = [] := by decide
      simp [e] at hm
    · have e : Cc.row 22 = [74, 105] := by decide
      rw [e]
      simp [Cc.letB, low_len', hz]
      cases fitB x <;> simp [ht]
theorem bare_lead {v : InV} (h : v.imm = 0) : bare v = lead v 0 := by unfold bare lead; rw [h]
theorem bare_label {v : InV} (h : v.label = 0) : bare v = v := by unfold bare; rw [← h]
theorem len_short {t : Int} {v : InV} (hj : jmpB v.op = true) (hm : Ru.mayT t (bare v) = true) (hi : v.imm = 0) : ((Ru.encT t (bare v)).length : Int) = if t = 1 then 8 else 3 := by
  rw [bare_lead hi, len_jmp hj hm (by decide) (by decide)]
  rw [if_pos (by decide)]
theorem len_call {t : Int} {v : InV} (hc : v.op = 23) (x : Int) : (Ru.encT t (lead v x)).length = (Ru.encT t (bare v)).length := by
  unfold Ru.encT
  split
  · simp
  · obtain ⟨op, a, b, c, k, sub, sc, imm, lb⟩ := v
    simp only [bare, lead, Cc.enc] at *
    subst hc
    have e : Cc.row 23 = [52] := by decide
    rw [e]
    simp [Cc.letB, low_len']
theorem PcV.Ok.may {t p : Int} {P : PcV} (h : P.Ok t p) {i : Nat} (hi : i < P.n) : labB P.m p (P.I i) = true ∧ Ru.mayT t (bare (P.I i)) = true := by
  have := h.insts i hi
  unfold instB at this
  simpa using this
theorem PcV.Ok.sh {t p : Int} {P : PcV} (h : P.Ok t p) : (P.sh t).Ok where
  tg := fun i hi hj => by
    have hl := lab_jmp (h.may hi).1 hj
    have := h.marks (P.I i).label.toNat (by omega)
    show (P.M (P.I i).label.toNat).toNat ≤ P.n
    omega
  one := fun i hi => by
    have := (Ru.encT_len t (bare (P.I i))).1
    show (1 : Int) ≤ ((Ru.encT t (bare (P.I i))).length : Int)
    omega
  le := fun i hi hj => by
    have hl := lab_jmp (h.may hi).1 hj
    have := len_short hj (h.may hi).2 hl.1
    show ((Ru.encT t (bare (P.I i))).length : Int) ≤ long t
    rw [this]
    unfold long
    split <;> omega
theorem PcV.Ok.len {t p : Int} {P : PcV} (h : P.Ok t p) {L : Nat → Bool} (hl : (P.sh t).Least L) {i : Nat} (hi : i < P.n) (hj : jmpB (P.I i).op = true) (hs : -2147483648 ≤ (P.sh t).imm L i ∧ (P.sh t).imm L i < 2147483648) :
    ((Ru.encT t (lead (P.I i) ((P.sh t).imm L i))).length : Int) = (P.sh t).size L i := by
  have hv := h.may hi
  have h0 := lab_jmp hv.1 hj
  rw [len_jmp hj hv.2 hs.1 hs.2]
  have hf := hl.far h.sh hi hj
  have e : (P.sh t).j i = true := hj
  have e2 : (P.sh t).s i = if t = 1 then 8 else 3 := len_short hj hv.2 h0.1
  have e3 : (P.sh t).g = long t := rfl
  unfold Sh.size
  rw [e, hf, e2, e3]
  cases fitB ((P.sh t).imm L i) <;> simp
end Lk
end Go.Proofs.YtkiockffejlnhaaGreatDoor

/- A region that draws its order: its head is quiet over a class of worlds and its tail forced; or one of its calls panics, whatever came ahead of it. -/
namespace Go.Proofs.YtkiockffejlnhaaGreatDoor
open Go.RowKit
set_option linter.unusedVariables false
section
variable {P : Program} {ops : Array Oper} {md : Region.Mode} {C : World → Prop}
def headQ (P : Program) (md : Region.Mode) (ops : Array Oper) (C : World → Prop) (n : Nat) (L : Array Bool → Act → Prop) : Nat → Array Bool → Act → Prop
  | 0, listed, a => L listed a
  | f + 1, listed, a => Region.ready md ops listed ≠ [] ∧ ∀ i ∈ Region.ready md ops listed, i < n ∧ qOp P ops C i (headQ P md ops C n L f (listed.setIfInBounds i true)) a
theorem any_of_headQ {n g : Nat} {L : Array Bool → Act → Prop} {Q' : Exit → Act → World → Prop} (hL : ∀ listed a w, C w → L listed a → wpAny P md ops Q' g listed a w) (f : Nat) :
    ∀ (listed : Array Bool) (a : Act) (w : World), C w → headQ P md ops C n L f listed a → wpAny P md ops Q' (f + g) listed a w := by
  induction f with
  | zero => intro listed a w hw h; rw [Nat.zero_add]; exact hL _ _ _ hw h
  | succ f ih =>
    intro listed a w hw h
    rw [Nat.add_right_comm]
    exact ⟨fun h0 => absurd h0 h.1, fun i hi => wpOp_of_qOp hw (fun a' w' hw' h' => ih _ a' w' hw' h') (h.2 i hi).2⟩
theorem headQ_take {n i : Nat} {oi : Oper} {v : Value} {L : Array Bool → Act → Prop} (hi : ops[i]? = some oi) (hsel : ∀ (j : Nat) (o : Oper) cs b, ops[j]? = some o → o.op ≠ .select cs b)
    (hs : Region.sinkB md ops n = true) (hc : Region.chainB md ops n = true) (hn : n < ops.size) (hin : i < n) (hdone : ∀ listed a, L listed a → ∀ j ∈ Region.ready md ops listed, n ≤ j) (f : Nat) :
    ∀ (listed : Array Bool) (a : Act), HeadInv md ops n listed →
      (∀ j oj, ops[j]? = some oj → j ≠ i → listed.getD j true = false → (∀ e ∈ oj.after, Region.binds md e = true → e.on ≠ i) → oi.apart ops oj = true) →
      i ∈ Region.ready md ops listed → YieldsIn P ops C oi v a →
      headQ P md ops C n L f (listed.setIfInBounds i true) (a.put oi.dst v) → headQ P md ops C n L (f + 1) listed a := by
  induction f with
  | zero =>
    intro listed a inv hfree hr hy H
    refine ⟨List.ne_nil_of_mem hr, fun j hj => ?_⟩
    have hjn : j < n := Nat.lt_of_not_le fun h => tail_waits hs hc hn inv _ i rfl hin (mem_ready.1 hr).1 j h hj
    by_cases hji : j = i
    · subst hji; exact ⟨hjn, hy.qOp hi H⟩
    · exact absurd (hdone _ _ H j (ready_mono hj hji)) (by omega)
  | succ f ih =>
    intro listed a inv hfree hr hy H
    refine ⟨List.ne_nil_of_mem hr, fun j hj => ?_⟩
    have hun := (mem_ready.1 hr).1
    have hjn : j < n := Nat.lt_of_not_le fun h => tail_waits hs hc hn inv _ i rfl hin hun j h hj
    refine ⟨hjn, ?_⟩
    by_cases hji : j = i
    · subst hji; exact hy.qOp hi H
    · obtain ⟨hjun, oj, hoj, hall⟩ := mem_ready.1 hj
      have hnot : ∀ e ∈ oj.after, Region.binds md e = true → e.on ≠ i := fun e he hb heq => by
        have h1 := hall e he hb
        rw [heq, getD_both hun] at h1
        cases h1
      have h2 := qOp_put hoj (hfree j oj hoj hji hjun hnot) (fun cs b => hsel i oi cs b hi) (fun cs b => hsel j oj cs b hoj) hy (H.2 j (ready_mono hj hji)).2
      refine qOp_mono (fun a' h3 => ih (listed.setIfInBounds j true) a' (inv.set hj hjn) (fun k ok hk hki hun' hno => ?_) (ready_mono hr (Ne.symm hji)) h3.1 ?_) h2
      · refine hfree k ok hk hki ?_ hno
        by_cases hjk : j = k
        · subst hjk; exact hjun
        · rw [getD_set_ne true hjk] at hun'; exact hun'
      · rw [Array.setIfInBounds_comm _ _ hji]
        exact h3.2
theorem headQ_lex {n g : Nat} {Lq : Act → Prop} (hsel : Region.noSelect ops = true) (hs : Region.sinkB md ops n = true) (hc : Region.chainB md ops n = true) (hn : n < ops.size) :
    ∀ (l : List Oper) (k : Nat) (listed : Array Bool) (a : Act), (∀ j, j < l.length → l[j]? = ops[k + j]?) → k + l.length = n → HeadInv md ops n listed →
    Region.lexHead md ops g l.length k listed = true → wpQuiet P ops C Lq l a →
    headQ P md ops C n (fun listed' a' => Region.seqB md ops g n listed' = true ∧ Lq a') l.length listed a := by
  intro l
  induction l with
  | nil =>
    intro k listed a _ hk _ hB h
    obtain rfl : k = n := by simpa using hk
    exact ⟨by simpa [Region.lexHead] using hB, h⟩
  | cons o l ih =>
    intro k listed a hl hk inv hB h
    have h0 : ops[k]? = some o := by simpa using (hl 0 (by simp)).symm
    simp only [List.length_cons, Region.lexHead, Bool.and_eq_true] at hB
    obtain ⟨⟨hr, hf⟩, hB'⟩ := hB
    simp only [List.length_cons] at hk
    have hr' : k ∈ Region.ready md ops listed := by simpa using hr
    obtain ⟨v, hy, hK⟩ := yieldsIn_of_qOp (K := wpQuiet P ops C Lq l) (C := C) h0 (by unfold qOp; simp only [h0]; exact h)
    refine headQ_take h0 (Region.noSelect_spec hsel) hs hc hn (by omega) (fun listed' a' hL => seqB_ready hL.1) l.length listed a inv (Region.free_spec h0 hf) hr' hy ?_
    exact ih (k + 1) _ _ (fun j hj => by have := hl (j + 1) (by simp; omega); simpa [Nat.add_assoc, Nat.add_comm 1 j] using this) (by omega) (inv.set hr' (by omega)) hB' hK
theorem tail_class {id : Nat} {Q : Exit → Act → World → Prop} {a : Act} {w : World} {l : List Oper} (C : World → Prop) (n : Nat) (hm : P.follows .mixedOrders = true) (hB : Region.lexTailB .any l.toArray n = true) (hC : C w.drew)
    (h : wpQuiet P l.toArray C (fun a' => ∀ w', C w' → wpList P l.toArray Q (l.drop n) a' w') (l.take n) a) : (Code.region id l.toArray true).wp P Q a w := by
  simp only [Region.lexTailB, Bool.and_eq_true, decide_eq_true_eq] at hB
  obtain ⟨⟨⟨⟨hsel, hn⟩, hs⟩, hc⟩, hlex⟩ := hB
  have hn' : n < l.length := by simpa using hn
  have htl : (l.take n).length = n := by simp; omega
  have hdl : (l.drop n).length = l.toArray.size - n := by simp
  have inv0 : HeadInv .any l.toArray n (Array.replicate l.toArray.size false) :=
    ⟨by simp, fun j oj _ hl => (by rw [getD_replicate_false] at hl; cases hl), fun t _ ht => getD_in (by simpa using ht) (getD_replicate_false _ _)⟩
  have H := headQ_lex (md := .any) (g := l.toArray.size - n) hsel hs hc hn (l.take n) 0 _ a (fun j hj => by
    have hj' : j < n := by rw [htl] at hj; exact hj
    simp [hj']) (by simpa using htl) inv0 (by rw [htl]; exact hlex) h
  refine wp_region_any hm ?_
  have T := any_of_headQ (Q' := Q) (g := l.toArray.size - n) (fun listed a' w' hw' hL => by
    have := wpAny_of_seq (md := .any) (Q' := Q) (l.drop n) n listed a' w' (fun j => by simp [List.getElem?_drop]) (by rw [hdl]; exact hL.1) (hL.2 w' hw')
    rwa [hdl] at this) _ _ _ _ hC H
  rw [htl, show n + (l.toArray.size - n) = l.toArray.size by omega] at T
  exact T
def PanicsIn (P : Program) (ops : Array Oper) (C : World → Prop) (o : Oper) (Z : List PanicEntry → World → Prop) (a : Act) : Prop :=
  Region.wanted o (yielded ops a.tmps) = true ∧ ∀ w, C w → ∃ f args, (execOp a.eval o).run P w = .ok (.enter f args) w ∧ Calls P f args w fun e w' => ∃ ch, e = .panicked ch ∧ Z ch w'
theorem put_defers (a : Act) (d : Option Tmp) (v : Value) : (a.put d v).defers = a.defers := by cases d <;> rfl
theorem PanicsIn.wpOp {p : Nat} {o : Oper} {Z : List PanicEntry → World → Prop} {a : Act} {w : World} {K : Act → World → Prop} {Q : Exit → Act → World → Prop} (ho : ops[p]? = some o) (hw : C w) (h : PanicsIn P ops C o Z a) (hQ : ∀ ch w', Z ch w' → Q (.panic ch) a w') : wpOp P ops Q p K a w := by
  obtain ⟨h1, h2⟩ := h
  obtain ⟨f, args, h3, h4⟩ := h2 w hw
  unfold Go.wpOp
  simp only [ho, h1, if_true]
  refine .inl ?_
  unfold Oper.wp
  rw [h3, Oper.upon_enter]
  refine h4.mono ?_
  rintro e w' ⟨ch, rfl, hz⟩
  exact hQ ch w' hz
end
end Go.Proofs.YtkiockffejlnhaaGreatDoor

/- Which blocks are turned; numbers that lie in a row; numbers of the call's own. -/
namespace Go.Proofs.YtkiockffejlnhaaGreatDoor
open Go.RowKit
set_option linter.unusedVariables false
structure Ch (w w' : World) (l : List Nat) : Prop where
  os : w'.os = w.os
  tape : w'.tape = w.tape
  output : w'.output = w.output
  size : w.heap.size ≤ w'.heap.size
  block : ∀ k, k < w.heap.size → k ∉ l → w'.heap[k]? = w.heap[k]?
theorem Ch.refl (w : World) (l : List Nat) : Ch w w l := ⟨rfl, rfl, rfl, Nat.le_refl _, fun _ _ _ => rfl⟩
theorem Ch.trans {w w1 w2 : World} {l : List Nat} (h1 : Ch w w1 l) (h2 : Ch w1 w2 l) : Ch w w2 l :=
  ⟨h2.os.trans h1.os, h2.tape.trans h1.tape, h2.output.trans h1.output, Nat.le_trans h1.size h2.size, fun k hk hl => (h2.block k (Nat.lt_of_lt_of_le hk h1.size) hl).trans (h1.block k hk hl)⟩
theorem Ch.of {w w' : World} {l : List Nat} (h : w.grownBy w' none) : Ch w w' l := ⟨h.os, h.tape, h.output, h.size, fun k hk _ => h.block k hk (by simp)⟩
theorem Ch.one {w w' : World} {b : Nat} {l : List Nat} (h : w.grownBy w' (some b)) (hb : b ∈ l) : Ch w w' l := ⟨h.os, h.tape, h.output, h.size, fun k hk hl => h.block k hk (by intro e; injection e with e; subst e; exact hl hb)⟩
theorem Ch.mono {w w' : World} {l l' : List Nat} (h : Ch w w' l) (hl : ∀ k, k < w.heap.size → k ∈ l → k ∈ l') : Ch w w' l' := ⟨h.os, h.tape, h.output, h.size, fun k hk hn => h.block k hk (fun hm => hn (hl k hk hm))⟩
theorem Ch.nil {w w' : World} {l : List Nat} (h : Ch w w' l) (hl : ∀ k, k ∈ l → w.heap.size ≤ k) : w.grownBy w' none := ⟨h.os, h.tape, h.output, h.size, fun k hk _ => h.block k hk (fun hm => by have := hl k hm; omega)⟩
theorem Ch.below {w w' : World} {l : List Nat} {N : Nat} (h : Ch w w' l) (hN : N ≤ w.heap.size) (hl : ∀ k, k ∈ l → N ≤ k) : Below N w w' := ⟨h.os, h.tape, h.output, h.size, fun k hk => h.block k (by omega) (fun hm => by have := hl k hm; omega)⟩
theorem Ch.new {w w1 w2 : World} {l : List Nat} (h1 : Ch w w1 l) {b : Nat} (hb : w.heap.size ≤ b) (h2 : w1.grownBy w2 (some b)) : Ch w w2 l :=
  ⟨h2.os.trans h1.os, h2.tape.trans h1.tape, h2.output.trans h1.output, Nat.le_trans h1.size h2.size, fun k hk hl => (h2.block k (Nat.lt_of_lt_of_le hk h1.size) (by intro e; injection e with e; omega)).trans (h1.block k hk hl)⟩
theorem Ch.cell {w w' : World} {l : List Nat} (h : Ch w w' l) {b o : Nat} {v : Value} (hc : w.cell? ⟨b, o, none⟩ = some v) (hb : b ∉ l) : w'.cell? ⟨b, o, none⟩ = some v := by
  have hlt := World.block_lt_of_cell? _ _ hc
  rw [← hc]
  exact World.cell?_of_block (h.block b hlt hb)
structure NumIn (N : Nat) (w : World) (a : Option Addr) (n c : Nat) (M : Nat → Int) : Prop where
  le : n ≤ c
  max : c ≤ maxLen
  lie : n = 0 ∨ ∃ b off, a = some ⟨b, off, none⟩ ∧ b < N ∧ ∀ i, i < n → w.cell? ⟨b, off + i, none⟩ = some (.int .i64 (M i))
theorem NumIn.ch {N : Nat} {w w' : World} {a : Option Addr} {n c : Nat} {M : Nat → Int} {l : List Nat} (h : NumIn N w a n c M) (hg : Ch w w' l) (hl : ∀ k, k ∈ l → N ≤ k) : NumIn N w' a n c M :=
  ⟨h.le, h.max, by
    rcases h.lie with h0 | ⟨b, off, e, hb, hi⟩
    · exact .inl h0
    · exact .inr ⟨b, off, e, hb, fun i hi' => hg.cell (hi i hi') (fun hm => by have := hl b hm; omega)⟩⟩
def OwnN (w : World) (base : Nat) (v : Value) (n : Nat) (g : Nat → Int) : Prop := w.ownsRow base 3 1 v n ((List.range n).map fun i => Value.int .i64 (g i))
def OwnZ (w : World) (base : Nat) (v : Value) (l : List Int) : Prop := w.ownsRow base 3 1 v l.length (l.map (Value.int .i64))
theorem OwnZ.n {w : World} {base : Nat} {v : Value} {l : List Int} (h : OwnZ w base v l) : OwnN w base v l.length (fun i => l.getD i 0) := by
  unfold OwnN
  have e : (List.range l.length).map (fun i => Value.int .i64 (l.getD i 0)) = l.map (Value.int .i64) := by
    refine List.ext_getElem (by simp) fun i h1 h2 => ?_
    simp at h1
    simp [List.getD_eq_getElem?_getD, List.getElem?_eq_getElem h1]
  rw [e]
  exact h
theorem OwnN.z {w : World} {base n : Nat} {v : Value} {g : Nat → Int} (h : OwnN w base v n g) : OwnZ w base v ((List.range n).map g) := by
  unfold OwnZ
  rw [List.length_map, List.length_range, List.map_map]
  exact h
theorem OwnN.congr {w : World} {base n : Nat} {v : Value} {g g' : Nat → Int} (h : OwnN w base v n g) (e : ∀ i, i < n → g i = g' i) : OwnN w base v n g' := by
  unfold OwnN at h ⊢
  rw [show (List.range n).map (fun i => Value.int .i64 (g' i)) = (List.range n).map (fun i => Value.int .i64 (g i)) from List.map_congr_left fun i hi => by rw [e i (List.mem_range.1 hi)]]
  exact h
theorem OwnN.low {w : World} {base base' n : Nat} {v : Value} {g : Nat → Int} (h : OwnN w base v n g) (hb : base' ≤ base) : OwnN w base' v n g := World.ownsRow.mono h hb
theorem OwnZ.low {w : World} {base base' : Nat} {v : Value} {l : List Int} (h : OwnZ w base v l) (hb : base' ≤ base) : OwnZ w base' v l := World.ownsRow.mono h hb
theorem ownsRow_ch {w w' : World} {l : List Nat} {base : Nat} {e : TypeId} {size n : Nat} {v : Value} {xs : List Value} (h : w.ownsRow base e size v n xs) (hg : Ch w w' l) (hne : ∀ k, v.ownBlock = some k → k ∉ l) : w'.ownsRow base e size v n xs := by
  refine ⟨h.1, ?_⟩
  rcases h.2 with h0 | ⟨g, cap, cur, e1, e2, e3, e4⟩
  · exact .inl h0
  · have hlt : g < w.heap.size := (World.ownsRow.lt h g (by rw [e1]; rfl)).2
    exact .inr ⟨g, cap, cur, e1, e2, (hg.block g hlt (hne g (by rw [e1]; rfl))).trans e3, e4⟩
theorem OwnN.ch {w w' : World} {l : List Nat} {base n : Nat} {v : Value} {g : Nat → Int} (h : OwnN w base v n g) (hg : Ch w w' l) (hne : ∀ k, v.ownBlock = some k → k ∉ l) : OwnN w' base v n g := ownsRow_ch h hg hne
theorem OwnZ.ch {w w' : World} {l : List Nat} {base : Nat} {v : Value} {z : List Int} (h : OwnZ w base v z) (hg : Ch w w' l) (hne : ∀ k, v.ownBlock = some k → k ∉ l) : OwnZ w' base v z := ownsRow_ch h hg hne
theorem OwnN.grow {w w' : World} {base n : Nat} {v : Value} {g : Nat → Int} (h : OwnN w base v n g) (hg : w.grownBy w' none) : OwnN w' base v n g := World.ownsRow.kept h hg (Classical.em _)
theorem OwnZ.grow {w w' : World} {base : Nat} {v : Value} {l : List Int} (h : OwnZ w base v l) (hg : w.grownBy w' none) : OwnZ w' base v l := World.ownsRow.kept h hg (Classical.em _)
theorem OwnN.base {w : World} {base n : Nat} {v : Value} {g : Nat → Int} (h : OwnN w base v n g) : ∀ k, v.ownBlock = some k → base ≤ k := fun k hk => (World.ownsRow.lt h k hk).1
theorem OwnZ.base {w : World} {base : Nat} {v : Value} {l : List Int} (h : OwnZ w base v l) : ∀ k, v.ownBlock = some k → base ≤ k := fun k hk => (World.ownsRow.lt h k hk).1
theorem OwnN.lt {w : World} {base n : Nat} {v : Value} {g : Nat → Int} (h : OwnN w base v n g) : ∀ k, v.ownBlock = some k → k < w.heap.size := fun k hk => (World.ownsRow.lt h k hk).2
theorem OwnZ.lt {w : World} {base : Nat} {v : Value} {l : List Int} (h : OwnZ w base v l) : ∀ k, v.ownBlock = some k → k < w.heap.size := fun k hk => (World.ownsRow.lt h k hk).2
theorem OwnN.slice {w : World} {base n : Nat} {v : Value} {g : Nat → Int} (h : OwnN w base v n g) : ∃ a c, v = .slice a n c ∧ n ≤ c ∧ c ≤ maxLen ∧ (0 < n → ∃ T, a = some ⟨T, 0, none⟩ ∧ base ≤ T ∧ T < w.heap.size) := by
  rcases h.2 with ⟨rfl, h0⟩ | ⟨T, c, cur, rfl, e2, e3, e4, e5, _⟩
  · exact ⟨none, 0, by rw [h0], by omega, Nat.zero_le _, fun h => by omega⟩
  · exact ⟨some ⟨T, 0, none⟩, c, rfl, e4, e5, fun _ => ⟨T, rfl, e2, (World.ownsRow.lt h T rfl).2⟩⟩
theorem OwnZ.slice {w : World} {base : Nat} {v : Value} {l : List Int} (h : OwnZ w base v l) : ∃ a c, v = .slice a l.length c ∧ l.length ≤ c ∧ c ≤ maxLen ∧ (0 < l.length → ∃ T, a = some ⟨T, 0, none⟩ ∧ base ≤ T ∧ T < w.heap.size) := h.n.slice
theorem OwnN.cell {w : World} {base n c T : Nat} {g : Nat → Int} (h : OwnN w base (.slice (some ⟨T, 0, none⟩) n c) n g) {i : Nat} (hi : i < n) : w.cell? ⟨T, i, none⟩ = some (.int .i64 (g i)) := by
  rw [World.ownsRow.cellAt h i (by omega), List.getElem?_map, List.getElem?_range hi]
  rfl
theorem OwnN.frozen {w : World} {base n c T : Nat} {g : Nat → Int} (h : OwnN w base (.slice (some ⟨T, 0, none⟩) n c) n g) (i : Nat) : w.frozen? ⟨T, i, none⟩ = false := World.ownsRow.frozenAt h i
def setF (g : Nat → Int) (i : Nat) (x : Int) : Nat → Int := fun k => if k = i then x else g k
theorem grown_set (w : World) (T i : Nat) (u : Value) : w.grownBy (w.setCell ⟨T, i, none⟩ u) (some T) := grown_setCell _ _ _ _
theorem OwnN.set {w : World} {base n c T : Nat} {g : Nat → Int} (h : OwnN w base (.slice (some ⟨T, 0, none⟩) n c) n g) {i : Nat} (hi : i < n) (x : Int) : OwnN (w.setCell ⟨T, i, none⟩ (.int .i64 x)) base (.slice (some ⟨T, 0, none⟩) n c) n (setF g i x) := by
  have := (World.ownsRow.stored h i (.int .i64 x)).1
  unfold OwnN
  rw [show (List.range n).map (fun k => Value.int .i64 (setF g i x k)) = ((List.range n).map fun k => Value.int .i64 (g k)).set i (.int .i64 x) from ?_]
  · exact this
  · refine List.ext_getElem (by simp) fun k h1 h2 => ?_
    simp at h1
    simp [setF, List.getElem_set]
    by_cases e : k = i
    · subst e; simp
    · simp [e, Ne.symm e]
theorem info_int : (Tryz.prog.info? 3).map (fun i => (i.zero, i.size, i.bytes)) = some (some (.int .i64 0), 1, 8) := by kernel_rfl
theorem run_make_n (w : World) (n : Nat) (hn : (n : Int) ≤ 8796093022208) : ∃ w1, (Instr.makeSlice 30 (.int .i64 n) (.int .i64 n)).run Tryz.prog w = .ok (.slice (some ⟨w.heap.size, 0, none⟩) n n) w1 ∧ OwnN w1 w.heap.size (.slice (some ⟨w.heap.size, 0, none⟩) n n) n (fun _ => 0) ∧ w.grownBy w1 none := by
  obtain ⟨i, hi, hz0, hz1, hz2⟩ := info_parts info_int
  have := run_make (P := Tryz.prog) w 30 3 i (.int .i64 0) Tryz.underlying30 hi hz0 .i64 .i64 n n (by omega) (by omega) (by rw [hz2]; omega) (by omega)
  rw [hz1] at this
  simp only [Int.toNat_natCast, Nat.mul_one] at this
  refine ⟨_, this, ?_, World.grownBy_alloc _ _ _⟩
  have e : madeCells (Value.int .i64 0).cells n = ((List.range n).map fun _ => Value.int .i64 0).toArray := by
    apply Array.ext
    · simp [madeCells]
    · intro k h1 h2
      simp [madeCells, Value.cells, Nat.mod_one]
  rw [e]
  have := World.ownsRow_lit (base := w.heap.size) (e := 3) (size := 1) w ((List.range n).map fun _ => Value.int .i64 0).toArray n (Nat.le_refl _) (by unfold maxLen; omega) (by simp)
  simpa [OwnN] using this
theorem NumIn.at {N : Nat} {w : World} {a : Option Addr} {n c : Nat} {M : Nat → Int} (h : NumIn N w a n c M) {i : Nat} (hi : i < n) : ∃ b off, a = some ⟨b, off, none⟩ ∧ b < N ∧ w.cell? ⟨b, off + i, none⟩ = some (.int .i64 (M i)) := by
  rcases h.lie with h0 | ⟨b, off, e, hb, hh⟩
  · omega
  · exact ⟨b, off, e, hb, hh i hi⟩
theorem wp_appZs {ops : Array Oper} {rest : List Oper} {o : Oper} {a : Act} {Q : Exit → Act → World → Prop} {W : World} (hgd : o.guard = none) (s x : Operand)
    (ho : o.op = .call { callee := .builtin .append, args := #[s, x], argTypes := #[30, 30] }) (base : Nat) (v u : Value) (l m : List Int) (b2 : Nat) (hs : a.eval s = v) (hown : OwnZ W base v l)
    (hx : a.eval x = u) (hsrc : OwnZ W b2 u m) (hl : l.length ≤ 2000000) (hm : m.length ≤ 2000000) (hb : base ≤ W.heap.size)
    (h : ∀ v' w', OwnZ w' base v' (l ++ m) → W.grownBy w' v.ownBlock → wpList Tryz.prog ops Q rest (a.put o.dst v') w') : wpList Tryz.prog ops Q (o :: rest) a W := by
  obtain ⟨i, hi, hz0, hz1, hz2⟩ := info_parts info_int
  rcases hsrc.2 with ⟨rfl, h0⟩ | ⟨T, c, cur, rfl, _⟩
  · have : m = [] := List.length_eq_zero_iff.1 h0
    subst this
    refine wpList_append_own_none hgd s x 30 ho base 3 i 1 Tryz.underlying30 hi v l.length (l.map (Value.int .i64)) hs hown hx ?_
    exact h v W (by rw [List.append_nil]; exact hown) (World.grownBy.refl _ _)
  · refine wpList_append_own _ hgd s x 30 ho base 3 i (.int .i64 0) 1 8 Tryz.underlying30 hi hz0 hz1 hz2 rfl (by decide) v l.length (l.map (Value.int .i64)) hs hown ⟨T, 0, none⟩ m.length c (m.map (Value.int .i64)) hx (by simp)
      (fun j y hj => World.ownsRow.cells hsrc rfl j y hj) (by intro y hy; obtain ⟨z, _, rfl⟩ := List.mem_map.mp hy; rfl) (by unfold maxLen; omega) (by omega) hb ?_
    intro v' w2 ho2 hg2 _
    refine h v' w2 ?_ hg2
    unfold OwnZ
    rw [List.length_append, List.map_append]
    exact ho2
end Go.Proofs.YtkiockffejlnhaaGreatDoor

/- How link's parts lie; link's small functions. -/
namespace Go.Proofs.YtkiockffejlnhaaGreatDoor
open Go.RowKit
set_option linter.unusedVariables false
theorem InAt.ch {w w' : World} {l : List Nat} {b o : Nat} {v : InV} (h : InAt w b o v) (hg : Ch w w' l) (hb : b ∉ l) : InAt w' b o v :=
  ⟨hg.cell h.c0 hb, hg.cell h.c1 hb, hg.cell h.c2 hb, hg.cell h.c3 hb, hg.cell h.c4 hb, hg.cell h.c5 hb, hg.cell h.c6 hb, hg.cell h.c7 hb, hg.cell h.c8 hb⟩
structure InsIn (N : Nat) (w : World) (a : Option Addr) (n c : Nat) (I : Nat → InV) : Prop where
  le : n ≤ c
  max : c ≤ maxLen
  lie : n = 0 ∨ ∃ b off, a = some ⟨b, off, none⟩ ∧ b < N ∧ ∀ i, i < n → InAt w b (off + i * 9) (I i)
  rng : ∀ i, i < n → InRng (I i)
theorem InsIn.ch {N : Nat} {w w' : World} {a : Option Addr} {n c : Nat} {I : Nat → InV} {l : List Nat} (h : InsIn N w a n c I) (hg : Ch w w' l) (hl : ∀ k, k ∈ l → N ≤ k) : InsIn N w' a n c I :=
  ⟨h.le, h.max, by
    rcases h.lie with h0 | ⟨b, off, e, hb, hi⟩
    · exact .inl h0
    · exact .inr ⟨b, off, e, hb, fun i hi' => (hi i hi').ch hg (fun hm => by have := hl b hm; omega)⟩, h.rng⟩
structure Pt (N : Nat) (w : World) (B fe : Nat) (P : Lk.PcV) (ia ma : Option Addr) (ic mc : Nat) (sv : Value) : Prop where
  blk : w.heap[B]? = some (.cells #[.func (.func fe) #[] #[], .slice ia P.n ic, .slice ma P.m mc, sv] 83 (0, 0))
  ins : InsIn N w ia P.n ic P.I
  mks : NumIn N w ma P.m mc P.M
  nb : N ≤ B
theorem Pt.lt {N : Nat} {w : World} {B fe : Nat} {P : Lk.PcV} {ia ma : Option Addr} {ic mc : Nat} {sv : Value} (h : Pt N w B fe P ia ma ic mc sv) : B < w.heap.size := by
  have := h.blk
  exact (Array.getElem?_eq_some_iff.1 this).1
theorem Pt.c0 {N : Nat} {w : World} {B fe : Nat} {P : Lk.PcV} {ia ma : Option Addr} {ic mc : Nat} {sv : Value} (h : Pt N w B fe P ia ma ic mc sv) : w.cell? ⟨B, 0, none⟩ = some (.func (.func fe) #[] #[]) := by simp [World.cell?, h.blk]
theorem Pt.c1 {N : Nat} {w : World} {B fe : Nat} {P : Lk.PcV} {ia ma : Option Addr} {ic mc : Nat} {sv : Value} (h : Pt N w B fe P ia ma ic mc sv) : w.cell? ⟨B, 1, none⟩ = some (.slice ia P.n ic) := by simp [World.cell?, h.blk]
theorem Pt.c2 {N : Nat} {w : World} {B fe : Nat} {P : Lk.PcV} {ia ma : Option Addr} {ic mc : Nat} {sv : Value} (h : Pt N w B fe P ia ma ic mc sv) : w.cell? ⟨B, 2, none⟩ = some (.slice ma P.m mc) := by simp [World.cell?, h.blk]
theorem Pt.c3 {N : Nat} {w : World} {B fe : Nat} {P : Lk.PcV} {ia ma : Option Addr} {ic mc : Nat} {sv : Value} (h : Pt N w B fe P ia ma ic mc sv) : w.cell? ⟨B, 3, none⟩ = some sv := by simp [World.cell?, h.blk]
theorem Pt.fz {N : Nat} {w : World} {B fe : Nat} {P : Lk.PcV} {ia ma : Option Addr} {ic mc : Nat} {sv : Value} (h : Pt N w B fe P ia ma ic mc sv) (k : Nat) : w.frozen? ⟨B, k, none⟩ = false := by simp [World.frozen?, h.blk]
theorem Pt.ch {N : Nat} {w w' : World} {B fe : Nat} {P : Lk.PcV} {ia ma : Option Addr} {ic mc : Nat} {sv : Value} {l : List Nat} (h : Pt N w B fe P ia ma ic mc sv) (hg : Ch w w' l) (hl : ∀ k, k ∈ l → N ≤ k) (hb : B ∉ l) : Pt N w' B fe P ia ma ic mc sv :=
  ⟨(hg.block B h.lt hb).trans h.blk, h.ins.ch hg hl, h.mks.ch hg hl, h.nb⟩
theorem Pt.grow {N : Nat} {w w' : World} {B fe : Nat} {P : Lk.PcV} {ia ma : Option Addr} {ic mc : Nat} {sv : Value} (h : Pt N w B fe P ia ma ic mc sv) (hg : w.grownBy w' none) : Pt N w' B fe P ia ma ic mc sv :=
  h.ch (l := []) (Ch.of hg) (by simp) (by simp)
theorem isjump_any (v : InV) (w : World) : Calls Tryz.prog 46 #[.agg #[.int .i64 v.op, .int .i64 v.a, .int .i64 v.b, .int .i64 v.c, .int .i64 v.k, .int .i64 v.sub, .int .i64 v.scale, .int .i64 v.imm, .int .i64 v.label]] w fun e w' => e = .returned (.bool (Lk.jmpB v.op)) ∧ w.grownBy w' none := by
  have hc : v.op = 19 ∨ v.op = 20 ∨ v.op = 21 ∨ v.op = 22 ∨ (Lk.jmpB v.op = false ∧ (v.op == 19) = false ∧ (v.op == 20) = false ∧ (v.op == 21) = false ∧ (v.op == 22) = false) := by
    unfold Lk.jmpB
    cases h1 : v.op == 19 <;> cases h2 : v.op == 20 <;> cases h3 : v.op == 21 <;> cases h4 : v.op == 22 <;> simp_all
  obtain ⟨op, a, b, c, k, sub, sc, imm, lb⟩ := v
  simp only at hc ⊢
  rcases hc with rfl | rfl | rfl | rfl | ⟨e, h1, h2, h3, h4⟩
  case inr.inr.inr.inr =>
    rw [e]
    clear e
    go_enter Tryz.func46, Tryz.ntmps46
    go_wp2
    go_ret
    exact ⟨rfl, World.grownBy_alloc _ _ _⟩
  all_goals (
    go_enter Tryz.func46, Tryz.ntmps46
    go_wp2
    go_ret
    exact ⟨rfl, World.grownBy_alloc _ _ _⟩)
theorem iscall_any (v : InV) (w : World) : Calls Tryz.prog 48 #[.agg #[.int .i64 v.op, .int .i64 v.a, .int .i64 v.b, .int .i64 v.c, .int .i64 v.k, .int .i64 v.sub, .int .i64 v.scale, .int .i64 v.imm, .int .i64 v.label]] w fun e w' => e = .returned (.bool (v.op == 23)) ∧ w.grownBy w' none := by
  go_enter Tryz.func48, Tryz.ntmps48
  go_wp2
  go_ret
  exact ⟨rfl, World.grownBy_alloc _ _ _⟩
theorem fitb_any (x : Int) (w : World) : Calls Tryz.prog 66 #[.int .i64 x] w fun e w' => e = .returned (.bool (Lk.fitB x)) ∧ w' = w := by
  have HF : Hid (Lk.fitB x = (x == (x + 128) % 256 - 128)) := by
    show _ = _
    rw [Bool.eq_iff_iff, Lk.fitB_iff]
    simp
    omega
  go_enter Tryz.func66, Tryz.ntmps66
  go_wp2
  go_ret
  refine ⟨?_, rfl⟩
  show Ending.returned (Value.bool (x == wrap64 (IntKind.i8.wrap x))) = _
  rw [HF.out, show wrap64 (IntKind.i8.wrap x) = (x + 128) % 256 - 128 from by rw [wrap_i8]; unfold wrap64; omega]
theorem leading_any (v : InV) (x : Int) (w : World) : Calls Tryz.prog 47 #[.agg #[.int .i64 v.op, .int .i64 v.a, .int .i64 v.b, .int .i64 v.c, .int .i64 v.k, .int .i64 v.sub, .int .i64 v.scale, .int .i64 v.imm, .int .i64 v.label], .int .i64 x] w fun e w' => e = .returned (.agg #[.int .i64 v.op, .int .i64 v.a, .int .i64 v.b, .int .i64 v.c, .int .i64 v.k, .int .i64 v.sub, .int .i64 v.scale, .int .i64 x, .int .i64 0]) ∧ w.grownBy w' none := by
  go_enter Tryz.func47, Tryz.ntmps47
  go_wp2
  refine bodyPost_ret (by simp [results, Tryz.results47, go_sem]; try rfl) rfl ?_
  refine ⟨rfl, ?_⟩
  repeat (refine gs ?_ _ _ (by simp))
  exact ga (World.grownBy_alloc _ _ _) _
theorem InsIn.at {N : Nat} {w : World} {a : Option Addr} {n c : Nat} {I : Nat → InV} (h : InsIn N w a n c I) {i : Nat} (hi : i < n) : ∃ b off, a = some ⟨b, off, none⟩ ∧ b < N ∧ InAt w b (off + i * 9) (I i) ∧ InRng (I i) := by
  rcases h.lie with h0 | ⟨b, off, e, hb, hh⟩
  · omega
  · exact ⟨b, off, e, hb, hh i hi, h.rng i hi⟩
theorem psize_any {N : Nat} {w : World} {B fe : Nat} {P : Lk.PcV} {ia ma : Option Addr} {ic mc : Nat} {sv : Value} {base : Nat} {S : Nat → Int} (h : Pt N w B fe P ia ma ic mc sv) (ho : OwnN w base sv P.n S) {k : Nat} (hk : k < P.n) :
    Calls Tryz.prog 93 #[.pointer (some ⟨B, 0, none⟩), .int .i64 k] w fun e w' => e = .returned (.int .i64 (S k)) ∧ w' = w := by
  have hk' : (k : Int) < P.n := by omega
  obtain ⟨a, c, rfl, hc, hcm, ha⟩ := ho.slice
  obtain ⟨T, rfl, hT, _⟩ := ha (by omega)
  have c3 := h.c3
  have cc := ho.cell hk
  generalize P.n = n at *
  clear h ho
  go_enter Tryz.func93, Tryz.ntmps93
  go_wp2
  go_ret
  exact ⟨rfl, rfl⟩
set_option maxRecDepth 100000 in
set_option maxHeartbeats 4000000 in
theorem ptarget_any {N : Nat} {w : World} {B fe : Nat} {P : Lk.PcV} {ia ma : Option Addr} {ic mc : Nat} {sv : Value} (h : Pt N w B fe P ia ma ic mc sv) {k : Nat} (hk : k < P.n) (h1 : 0 ≤ (P.I k).label) (h2 : (P.I k).label < P.m) :
    Calls Tryz.prog 65 #[.pointer (some ⟨B, 0, none⟩), .int .i64 k] w fun e w' => e = .returned (.int .i64 (P.M (P.I k).label.toNat)) ∧ ∃ d, w' = w.drewN d := by
  have hk' : (k : Int) < P.n := by omega
  obtain ⟨b, off, rfl, hb, hin, hr⟩ := h.ins.at hk
  obtain ⟨b2, off2, rfl, hb2, hm⟩ := h.mks.at (i := (P.I k).label.toNat) (by omega)
  have c1 := h.c1
  have c2 := h.c2
  have c8 := hin.c8
  obtain ⟨L, hL⟩ : ∃ L : Nat, (P.I k).label = L := ⟨(P.I k).label.toNat, by omega⟩
  rw [hL] at c8 h1 h2 hm ⊢
  simp only [Int.toNat_natCast] at hm ⊢
  have h2' : L < P.m := by omega
  generalize P.n = n at *
  generalize P.m = m at *
  generalize P.M L = x at *
  clear h hin hr hL
  go_enter Tryz.func65, Tryz.ntmps65
  go_wp2_with fail
  go_quiet (fail)
  go_wp2
  go_ret
  exact ⟨rfl, _, rfl⟩
end Go.Proofs.YtkiockffejlnhaaGreatDoor

/- link.places: where things begin that lie one behind the other. -/
namespace Go.Proofs.YtkiockffejlnhaaGreatDoor
open Go.RowKit
set_option linter.unusedVariables false
set_option maxRecDepth 100000 in
set_option maxHeartbeats 4000000 in
theorem places_p (x : Value) (n : Nat) (S : Nat → Int) (w : World) (hn : (n : Int) ≤ 8796093022208) (hS : ∀ k, k ≤ n → 0 ≤ Lk.pos S k ∧ Lk.pos S k ≤ 4611686018427387904)
    (hC : ∀ k, k < n → ∀ W, w.grownBy W none → Calls Tryz.prog 93 #[x, .int .i64 k] W fun e w' => e = .returned (.int .i64 (S k)) ∧ W.grownBy w' none) :
    Calls Tryz.prog 44 #[.int .i64 n, .func (.func 93) #[x] #[]] w fun e w' => e = .returned (.tuple #[.slice (some ⟨w.heap.size, 0, none⟩) n n, .int .i64 (Lk.pos S n)]) ∧
      OwnN w' w.heap.size (.slice (some ⟨w.heap.size, 0, none⟩) n n) n (Lk.pos S) ∧ w.grownBy w' none := by
  have HS : Hid (∀ k, k ≤ n → 0 ≤ Lk.pos S k ∧ Lk.pos S k ≤ 4611686018427387904) := hS
  have HC : Hid (∀ k, k < n → ∀ W, w.grownBy W none → Calls Tryz.prog 93 #[x, .int .i64 k] W fun e w' => e = .returned (.int .i64 (S k)) ∧ W.grownBy w' none) := hC
  clear hS hC
  obtain ⟨w1, hmk, ho1, hg1⟩ := run_make_n w n hn
  have HO1 : Hid (OwnN w1 w.heap.size (.slice (some ⟨w.heap.size, 0, none⟩) n n) n (fun _ => 0)) := ho1
  have HG1 : Hid (w.grownBy w1 none) := hg1
  clear ho1 hg1
  go_enter Tryz.func44, Tryz.ntmps44
  go_wp2_with fail
  go_loopw [7, 13] (fun e i wr => ∃ k : Nat, i = .int .i64 k ∧ e = .int .i64 (Lk.pos S k) ∧ k ≤ n ∧ OwnN wr w.heap.size (.slice (some ⟨w.heap.size, 0, none⟩) n n) n (fun i => if i < k then Lk.pos S i else 0) ∧ w.grownBy wr none) (fun _ i _ => n - (intOf i).toNat)
  case atStart => exact ⟨0, rfl, rfl, Nat.zero_le _, HO1.out.congr (fun i _ => by simp), HG1.out⟩
  case round =>
    obtain ⟨k, rfl, rfl, hk, ho, hg⟩ := hrel
    have HO : Hid (OwnN wr w.heap.size (.slice (some ⟨w.heap.size, 0, none⟩) n n) n (fun i => if i < k then Lk.pos S i else 0)) := ho
    have HG : Hid (w.grownBy wr none) := hg
    clear ho hg
    by_cases hkn : k < n
    · have hkn' : (k : Int) < n := by omega
      have f1 := HO.out.frozen k
      have c1 := HO.out.cell hkn
      have hb1 := HS.out k (by omega)
      have hb2 := HS.out (k + 1) (by omega)
      rw [Lk.pos_succ] at hb2
      have g2 : wr.grownBy (wr.setCell ⟨w.heap.size, k, none⟩ (.int .i64 (Lk.pos S k))) (some w.heap.size) := grown_set _ _ _ _
      have HG2 : Hid (w.grownBy (wr.setCell ⟨w.heap.size, k, none⟩ (.int .i64 (Lk.pos S k))) none) := grown_two HG.out g2 (Nat.le_refl _)
      have HO2 : Hid (OwnN (wr.setCell ⟨w.heap.size, k, none⟩ (.int .i64 (Lk.pos S k))) w.heap.size (.slice (some ⟨w.heap.size, 0, none⟩) n n) n (fun i => if i < k + 1 then Lk.pos S i else 0)) := (HO.out.set hkn _).congr (fun i hi => by
        unfold setF
        by_cases e : i = k
        · subst e; simp
        · by_cases h2 : i < k
          · simp [e, h2, show i < k + 1 by omega]
          · simp [e, h2, show ¬ i < k + 1 by omega])
      clear g2
      go_wp2_with (go_at_call 93; refine (HC.out k hkn _ HG2.out).mono ?_; rintro e w3 ⟨rfl, hg3⟩)
      go_roundw
      case rel => exact ⟨k + 1, by go_num, by rw [Lk.pos_succ], by omega, HO2.out.grow hg3, grown_trans HG2.out hg3⟩
      case measure => simp [intOf]; omega
    · obtain rfl : k = n := by omega
      go_wp2
      go_ret2
      exact ⟨rfl, HO.out.congr (fun i hi => by simp [hi]), HG.out⟩
set_option maxRecDepth 100000 in
set_option maxHeartbeats 4000000 in
theorem places_r (x : Value) (n : Nat) (S : Nat → Int) (w : World) (hn : (n : Int) ≤ 8796093022208) (hS : ∀ k, k ≤ n → 0 ≤ Lk.pos S k ∧ Lk.pos S k ≤ 4611686018427387904)
    (hC : ∀ k, k < n → ∀ W, w.grownBy W none → Calls Tryz.prog 45 #[x, .int .i64 k] W fun e w' => e = .returned (.int .i64 (S k)) ∧ W.grownBy w' none) :
    Calls Tryz.prog 44 #[.int .i64 n, .func (.func 45) #[x] #[]] w fun e w' => e = .returned (.tuple #[.slice (some ⟨w.heap.size, 0, none⟩) n n, .int .i64 (Lk.pos S n)]) ∧
      OwnN w' w.heap.size (.slice (some ⟨w.heap.size, 0, none⟩) n n) n (Lk.pos S) ∧ w.grownBy w' none := by
  have HS : Hid (∀ k, k ≤ n → 0 ≤ Lk.pos S k ∧ Lk.pos S k ≤ 4611686018427387904) := hS
  have HC : Hid (∀ k, k < n → ∀ W, w.grownBy W none → Calls Tryz.prog 45 #[x, .int .i64 k] W fun e w' => e = .returned (.int .i64 (S k)) ∧ W.grownBy w' none) := hC
  clear hS hC
  obtain ⟨w1, hmk, ho1, hg1⟩ := run_make_n w n hn
  have HO1 : Hid (OwnN w1 w.heap.size (.slice (some ⟨w.heap.size, 0, none⟩) n n) n (fun _ => 0)) := ho1
  have HG1 : Hid (w.grownBy w1 none) := hg1
  clear ho1 hg1
  go_enter Tryz.func44, Tryz.ntmps44
  go_wp2_with fail
  go_loopw [7, 13] (fun e i wr => ∃ k : Nat, i = .int .i64 k ∧ e = .int .i64 (Lk.pos S k) ∧ k ≤ n ∧ OwnN wr w.heap.size (.slice (some ⟨w.heap.size, 0, none⟩) n n) n (fun i => if i < k then Lk.pos S i else 0) ∧ w.grownBy wr none) (fun _ i _ => n - (intOf i).toNat)
  case atStart => exact ⟨0, rfl, rfl, Nat.zero_le _, HO1.out.congr (fun i _ => by simp), HG1.out⟩
  case round =>
    obtain ⟨k, rfl, rfl, hk, ho, hg⟩ := hrel
    have HO : Hid (OwnN wr w.heap.size (.slice (some ⟨w.heap.size, 0, none⟩) n n) n (fun i => if i < k then Lk.pos S i else 0)) := ho
    have HG : Hid (w.grownBy wr none) := hg
    clear ho hg
    by_cases hkn : k < n
    · have hkn' : (k : Int) < n := by omega
      have f1 := HO.out.frozen k
      have c1 := HO.out.cell hkn
      have hb1 := HS.out k (by omega)
      have hb2 := HS.out (k + 1) (by omega)
      rw [Lk.pos_succ] at hb2
      have g2 : wr.grownBy (wr.setCell ⟨w.heap.size, k, none⟩ (.int .i64 (Lk.pos S k))) (some w.heap.size) := grown_set _ _ _ _
      have HG2 : Hid (w.grownBy (wr.setCell ⟨w.heap.size, k, none⟩ (.int .i64 (Lk.pos S k))) none) := grown_two HG.out g2 (Nat.le_refl _)
      have HO2 : Hid (OwnN (wr.setCell ⟨w.heap.size, k, none⟩ (.int .i64 (Lk.pos S k))) w.heap.size (.slice (some ⟨w.heap.size, 0, none⟩) n n) n (fun i => if i < k + 1 then Lk.pos S i else 0)) := (HO.out.set hkn _).congr (fun i hi => by
        unfold setF
        by_cases e : i = k
        · subst e; simp
        · by_cases h2 : i < k
          · simp [e, h2, show i < k + 1 by omega]
          · simp [e, h2, show ¬ i < k + 1 by omega])
      clear g2
      go_wp2_with (go_at_call 45; refine (HC.out k hkn _ HG2.out).mono ?_; rintro e w3 ⟨rfl, hg3⟩)
      go_roundw
      case rel => exact ⟨k + 1, by go_num, by rw [Lk.pos_succ], by omega, HO2.out.grow hg3, grown_trans HG2.out hg3⟩
      case measure => simp [intOf]; omega
    · obtain rfl : k = n := by omega
      go_wp2
      go_ret2
      exact ⟨rfl, HO.out.congr (fun i hi => by simp [hi]), HG.out⟩
end Go.Proofs.YtkiockffejlnhaaGreatDoor

/- link's parts in a row: where they begin, whether they are too large; over, labelMayBe, marksMayBe, encoderOf. -/
namespace Go.Proofs.YtkiockffejlnhaaGreatDoor
open Go.RowKit
set_option linter.unusedVariables false
theorem run_mkf (fn : Fn) (first cap : Array Value) (w : World) : (Instr.makeFunc fn first cap).run Tryz.prog w = .ok (.func fn first cap) w := rfl
set_option maxRecDepth 100000 in
set_option maxHeartbeats 4000000 in
theorem pplaces_any {N : Nat} {w : World} {B fe : Nat} {P : Lk.PcV} {ia ma : Option Addr} {ic mc : Nat} {sv : Value} {base : Nat} {S : Nat → Int} (h : Pt N w B fe P ia ma ic mc sv) (ho : OwnN w base sv P.n S) (hn : (P.n : Int) ≤ 8796093022208) (hS : ∀ k, k ≤ P.n → 0 ≤ Lk.pos S k ∧ Lk.pos S k ≤ 4611686018427387904) :
    Calls Tryz.prog 63 #[.pointer (some ⟨B, 0, none⟩)] w fun e w' => e = .returned (.tuple #[.slice (some ⟨w.heap.size, 0, none⟩) P.n P.n, .int .i64 (Lk.pos S P.n)]) ∧
      OwnN w' w.heap.size (.slice (some ⟨w.heap.size, 0, none⟩) P.n P.n) P.n (Lk.pos S) ∧ w.grownBy w' none := by
  have HC : Hid (∀ k, k < P.n → ∀ W, w.grownBy W none → Calls Tryz.prog 93 #[.pointer (some ⟨B, 0, none⟩), .int .i64 k] W fun e w' => e = .returned (.int .i64 (S k)) ∧ W.grownBy w' none) := fun k hk W hW => (psize_any (h.grow hW) (ho.grow hW) hk).mono (by rintro e w' ⟨rfl, rfl⟩; exact ⟨rfl, World.grownBy.refl _ _⟩)
  have HS : Hid (∀ k, k ≤ P.n → 0 ≤ Lk.pos S k ∧ Lk.pos S k ≤ 4611686018427387904) := hS
  have c1 := h.c1
  clear hS h ho
  generalize P.n = n at *
  have hmf := run_mkf
  go_enter Tryz.func63, Tryz.ntmps63
  go_wp2_with (go_at_call 44; refine (places_p _ n S _ hn HS.out HC.out).mono ?_; rintro e w1 ⟨rfl, ho1, hg1⟩)
  go_ret2
  exact ⟨rfl, ho1, hg1⟩
structure PtA where
  B : Nat
  T : Nat
  ia : Option Addr
  ic : Nat
  ma : Option Addr
  mc : Nat
structure Rw (N : Nat) (w : World) (rv : Value) (K fe : Nat) (V : Nat → Lk.PcV) (A : Nat → PtA) (S : Nat → Nat → Int) : Prop where
  own : w.ownsRow N 59 1 rv K ((List.range K).map fun k => Value.pointer (some ⟨(A k).B, 0, none⟩))
  pt : ∀ k, k < K → Pt N w (A k).B fe (V k) (A k).ia (A k).ma (A k).ic (A k).mc (.slice (some ⟨(A k).T, 0, none⟩) (V k).n (V k).n)
  sz : ∀ k, k < K → OwnN w N (.slice (some ⟨(A k).T, 0, none⟩) (V k).n (V k).n) (V k).n (S k)
  dis : ∀ j k, j < K → k < K → j ≠ k → (A j).T ≠ (A k).T
theorem Rw.ch {N : Nat} {w w' : World} {rv : Value} {K fe : Nat} {V : Nat → Lk.PcV} {A : Nat → PtA} {S : Nat → Nat → Int} {l : List Nat} (h : Rw N w rv K fe V A S) (hg : Ch w w' l) (hl : ∀ k, k ∈ l → N ≤ k) (hR : ∀ k, rv.ownBlock = some k → k ∉ l) (hB : ∀ k, k < K → (A k).B ∉ l) (hT : ∀ k, k < K → (A k).T ∉ l) : Rw N w' rv K fe V A S where
  own := ownsRow_ch h.own hg hR
  pt := fun k hk => (h.pt k hk).ch hg hl (hB k hk)
  sz := fun k hk => (h.sz k hk).ch hg (fun b hb => by simp [Value.ownBlock] at hb; subst hb; exact hT k hk)
  dis := h.dis
theorem Rw.grow {N : Nat} {w w' : World} {rv : Value} {K fe : Nat} {V : Nat → Lk.PcV} {A : Nat → PtA} {S : Nat → Nat → Int} (h : Rw N w rv K fe V A S) (hg : w.grownBy w' none) : Rw N w' rv K fe V A S :=
  h.ch (l := []) (Ch.of hg) (by simp) (by simp) (by simp) (by simp)
theorem Rw.slice {N : Nat} {w : World} {rv : Value} {K fe : Nat} {V : Nat → Lk.PcV} {A : Nat → PtA} {S : Nat → Nat → Int} (h : Rw N w rv K fe V A S) : ∃ a c, rv = .slice a K c ∧ K ≤ c ∧ c ≤ maxLen ∧ (0 < K → ∃ R, a = some ⟨R, 0, none⟩ ∧ ∀ k, k < K → w.cell? ⟨R, k, none⟩ = some (.pointer (some ⟨(A k).B, 0, none⟩))) := by
  rcases h.own.2 with ⟨rfl, h0⟩ | ⟨T, c, cur, rfl, e2, e3, e4, e5, _⟩
  · exact ⟨none, 0, by rw [h0], by omega, Nat.zero_le _, fun h => by omega⟩
  · refine ⟨some ⟨T, 0, none⟩, c, rfl, e4, e5, fun _ => ⟨T, rfl, fun k hk => ?_⟩⟩
    rw [World.ownsRow.cellAt h.own k (by omega), List.getElem?_map, List.getElem?_range hk]
    rfl
structure Lim (K : Nat) (V : Nat → Lk.PcV) (S : Nat → Nat → Int) : Prop where
  n : ∀ k, k < K → ((V k).n : Int) ≤ 8796093022208
  s : ∀ k, k < K → ∀ i, i < (V k).n → 0 ≤ S k i ∧ S k i ≤ 40
theorem pos_lim {s : Nat → Int} {B : Int} : ∀ {n : Nat}, (∀ i, i < n → 0 ≤ s i ∧ s i ≤ B) → 0 ≤ Lk.pos s n ∧ Lk.pos s n ≤ B * n
  | 0, _ => by simp [Lk.pos]
  | n + 1, h => by
    have h1 := pos_lim (n := n) (fun i hi => h i (by omega))
    have h2 := h n (by omega)
    rw [Lk.pos_succ, show ((n + 1 : Nat) : Int) = (n : Int) + 1 by omega, Int.mul_add]
    omega
theorem Lim.part {K : Nat} {V : Nat → Lk.PcV} {S : Nat → Nat → Int} (h : Lim K V S) {k : Nat} (hk : k < K) : ∀ i, i ≤ (V k).n → 0 ≤ Lk.pos (S k) i ∧ Lk.pos (S k) i ≤ 351843720888320 := fun i hi => by
  have := pos_lim (n := i) (s := S k) (B := 40) (fun j hj => h.s k hk j (by omega))
  have := h.n k hk
  omega
def ends (V : Nat → Lk.PcV) (S : Nat → Nat → Int) (k : Nat) : Int := Lk.pos (S k) (V k).n
theorem Lim.row {K : Nat} {V : Nat → Lk.PcV} {S : Nat → Nat → Int} (h : Lim K V S) (hK : K ≤ 33) : ∀ k, k ≤ K → 0 ≤ Lk.pos (ends V S) k ∧ Lk.pos (ends V S) k ≤ 11610842789314560 := fun k hk => by
  have := pos_lim (n := k) (s := ends V S) (B := 351843720888320) (fun j hj => h.part (k := j) (by omega) _ (Nat.le_refl _))
  omega
set_option maxRecDepth 100000 in
set_option maxHeartbeats 4000000 in
theorem rwsize_any {N : Nat} {w : World} {rv : Value} {K fe : Nat} {V : Nat → Lk.PcV} {A : Nat → PtA} {S : Nat → Nat → Int} (h : Rw N w rv K fe V A S) (hl : Lim K V S) {k : Nat} (hk : k < K) :
    Calls Tryz.prog 45 #[rv, .int .i64 k] w fun e w' => e = .returned (.int .i64 (ends V S k)) ∧ w.grownBy w' none := by
  have hk' : (k : Int) < K := by omega
  obtain ⟨a, c, rfl, hc, hcm, ha⟩ := h.slice
  obtain ⟨R, rfl, hcs⟩ := ha (by omega)
  have cc := hcs k hk
  have HP : Hid (∀ W, w.grownBy W none → Calls Tryz.prog 63 #[.pointer (some ⟨(A k).B, 0, none⟩)] W fun e w' => e = .returned (.tuple #[.slice (some ⟨W.heap.size, 0, none⟩) (V k).n (V k).n, .int .i64 (ends V S k)]) ∧ W.grownBy w' none) := fun W hW =>
    (pplaces_any ((h.pt k hk).grow hW) ((h.sz k hk).grow hW) (hl.n k hk) (fun i hi => by have := hl.part hk i hi; omega)).mono (by rintro e w' ⟨rfl, _, hg⟩; exact ⟨rfl, hg⟩)
  generalize (A k).B = B at *
  generalize (V k).n = n at *
  generalize ends V S k = E at *
  clear h hl hcs ha
  go_enter Tryz.func45, Tryz.ntmps45
  go_wp2_with (go_at_call 63; refine (HP.out _ (World.grownBy.refl _ _)).mono ?_; rintro e w1 ⟨rfl, hg1⟩)
  go_ret
  exact ⟨rfl, hg1⟩
set_option maxRecDepth 100000 in
set_option maxHeartbeats 4000000 in
theorem rplaces_any {N : Nat} {w : World} {rv : Value} {K fe : Nat} {V : Nat → Lk.PcV} {A : Nat → PtA} {S : Nat → Nat → Int} (h : Rw N w rv K fe V A S) (hl : Lim K V S) (hK : K ≤ 33) :
    Calls Tryz.prog 23 #[rv] w fun e w' => e = .returned (.tuple #[.slice (some ⟨w.heap.size, 0, none⟩) K K, .int .i64 (Lk.pos (ends V S) K)]) ∧
      OwnN w' w.heap.size (.slice (some ⟨w.heap.size, 0, none⟩) K K) K (Lk.pos (ends V S)) ∧ w.grownBy w' none := by
  have HC : Hid (∀ k, k < K → ∀ W, w.grownBy W none → Calls Tryz.prog 45 #[rv, .int .i64 k] W fun e w' => e = .returned (.int .i64 (ends V S k)) ∧ W.grownBy w' none) := fun k hk W hW => rwsize_any (h.grow hW) hl hk
  have HS : Hid (∀ k, k ≤ K → 0 ≤ Lk.pos (ends V S) k ∧ Lk.pos (ends V S) k ≤ 4611686018427387904) := fun k hk => by have := hl.row hK k hk; omega
  obtain ⟨a, c, rfl, hc, hcm, ha⟩ := h.slice
  generalize ends V S = E at *
  clear h hl ha
  have hmf := run_mkf
  go_enter Tryz.func23, Tryz.ntmps23
  go_wp2_with (go_at_call 44; refine (places_r _ K E _ (by omega) HS.out HC.out).mono ?_; rintro e w1 ⟨rfl, ho1, hg1⟩)
  go_ret2
  exact ⟨rfl, ho1, hg1⟩
theorem large_any {N : Nat} {w : World} {rv : Value} {K fe : Nat} {V : Nat → Lk.PcV} {A : Nat → PtA} {S : Nat → Nat → Int} (h : Rw N w rv K fe V A S) (hl : Lim K V S) (hK : K ≤ 33) :
    Calls Tryz.prog 21 #[rv] w fun e w' => e = .returned (.bool (decide (1048576 < Lk.pos (ends V S) K))) ∧ w.grownBy w' none := by
  have HP : Hid (∀ W, w.grownBy W none → Calls Tryz.prog 23 #[rv] W fun e w' => e = .returned (.tuple #[.slice (some ⟨W.heap.size, 0, none⟩) K K, .int .i64 (Lk.pos (ends V S) K)]) ∧ W.grownBy w' none) := fun W hW => (rplaces_any (h.grow hW) hl hK).mono (by rintro e w' ⟨rfl, _, hg⟩; exact ⟨rfl, hg⟩)
  generalize Lk.pos (ends V S) K = E at *
  clear h hl
  go_enter Tryz.func21, Tryz.ntmps21
  go_wp2_with (go_at_call 23; refine (HP.out _ (World.grownBy.refl _ _)).mono ?_; rintro e w1 ⟨rfl, hg1⟩)
  go_ret
  exact ⟨rfl, hg1⟩
set_option maxRecDepth 100000 in
set_option maxHeartbeats 4000000 in
theorem pover_any {N : Nat} {w : World} {B fe : Nat} {P : Lk.PcV} {ia ma : Option Addr} {ic mc : Nat} {sv : Value} {t p : Int} (h : Pt N w B fe P ia ma ic mc sv) (hP : P.Ok t p) {j m : Nat} (hj : j < P.n) (hm : m < P.n) :
    Calls Tryz.prog 67 #[.pointer (some ⟨B, 0, none⟩), .int .i64 j, .int .i64 m] w fun e w' => e = .returned (.int .i64 (if Lk.jmpB (P.I j).op then (P.sh t).over j m else 0)) ∧ w.grownBy w' none := by
  have hj' : (j : Int) < P.n := by omega
  obtain ⟨b, off, rfl, hb, hin, hr⟩ := h.ins.at hj
  have c1 := h.c1
  have HJ : Hid (∀ W, Calls Tryz.prog 46 #[.agg #[.int .i64 (P.I j).op, .int .i64 (P.I j).a, .int .i64 (P.I j).b, .int .i64 (P.I j).c, .int .i64 (P.I j).k, .int .i64 (P.I j).sub, .int .i64 (P.I j).scale, .int .i64 (P.I j).imm, .int .i64 (P.I j).label]] W fun e w' => e = .returned (.bool (Lk.jmpB (P.I j).op)) ∧ W.grownBy w' none) := fun W => isjump_any (P.I j) W
  cases hjj : Lk.jmpB (P.I j).op
  · rw [hjj] at HJ
    obtain ⟨d0, d1, d2, d3, d4, d5, d6, d7, d8⟩ := hin
    generalize P.n = n at *
    clear h hr
    go_enter Tryz.func67, Tryz.ntmps67
    go_wp2_with (go_at_call 46; refine (HJ.out _).mono ?_; rintro e w1 ⟨rfl, hg1⟩)
    go_ret
    exact ⟨rfl, hg1⟩
  · rw [hjj] at HJ
    have hl := Lk.lab_jmp (hP.may hj).1 hjj
    have HT : Hid (∀ W, w.grownBy W none → Calls Tryz.prog 65 #[.pointer (some ⟨B, 0, none⟩), .int .i64 j] W fun e w' => e = .returned (.int .i64 (P.M (P.I j).label.toNat)) ∧ ∃ d, w' = W.drewN d) := fun W hW => ptarget_any (h.grow hW) hj hl.2.1 hl.2.2
    have hM := hP.marks (P.I j).label.toNat (by omega)
    obtain ⟨x, hx⟩ : ∃ x : Nat, P.M (P.I j).label.toNat = x := ⟨(P.M (P.I j).label.toNat).toNat, by omega⟩
    rw [hx] at HT
    have ho : (P.sh t).over j m = if j < m ∧ m < x then 1 else if x ≤ m ∧ m < j then -1 else 0 := by
      have : (P.sh t).tg j = x := by show (P.M (P.I j).label.toNat).toNat = x; rw [hx]; rfl
      unfold Lk.Sh.over
      rw [this]
    obtain ⟨o, hoo⟩ : ∃ o, (P.sh t).over j m = o := ⟨_, rfl⟩
    simp only [if_true]
    rw [hoo] at ho ⊢
    have HO : Hid (o = if j < m ∧ m < x then 1 else if x ≤ m ∧ m < j then -1 else 0) := ho
    clear ho hoo hx hM hl hP
    obtain ⟨d0, d1, d2, d3, d4, d5, d6, d7, d8⟩ := hin
    generalize P.n = n at *
    clear h hr
    go_enter Tryz.func67, Tryz.ntmps67
    go_wp2_with (first | (go_at_call 46; refine (HJ.out _).mono ?_; rintro e w1 ⟨rfl, hg1⟩) | (go_at_call 65; refine (HT.out _ hg1).mono ?_; rintro e w2 ⟨rfl, d, rfl⟩))
    all_goals (
      go_ret
      refine ⟨?_, grown_drewN hg1 d⟩
      rw [HO.out]
      first
      | (rw [if_pos (by omega)]; rfl)
      | (rw [if_neg (by omega), if_pos (by omega)]; rfl)
      | (rw [if_neg (by omega), if_neg (by omega)]; rfl))
end Go.Proofs.YtkiockffejlnhaaGreatDoor

/- link's labelMayBe. -/
namespace Go.Proofs.YtkiockffejlnhaaGreatDoor
open Go.RowKit
set_option linter.unusedVariables false
set_option maxRecDepth 100000 in
set_option maxHeartbeats 4000000 in
theorem plabel_any {N : Nat} {w : World} {B fe : Nat} {P : Lk.PcV} {ia ma : Option Addr} {ic mc : Nat} {sv : Value} (h : Pt N w B fe P ia ma ic mc sv) (v : InV) (p : Int) :
    Calls Tryz.prog 62 #[.pointer (some ⟨B, 0, none⟩), .agg #[.int .i64 v.op, .int .i64 v.a, .int .i64 v.b, .int .i64 v.c, .int .i64 v.k, .int .i64 v.sub, .int .i64 v.scale, .int .i64 v.imm, .int .i64 v.label], .int .i64 p] w fun e w' => e = .returned (.bool (Lk.labB P.m p v)) ∧ w.grownBy w' none := by
  have HJ : Hid (∀ W, Calls Tryz.prog 46 #[.agg #[.int .i64 v.op, .int .i64 v.a, .int .i64 v.b, .int .i64 v.c, .int .i64 v.k, .int .i64 v.sub, .int .i64 v.scale, .int .i64 v.imm, .int .i64 v.label]] W fun e w' => e = .returned (.bool (Lk.jmpB v.op)) ∧ W.grownBy w' none) := fun W => isjump_any v W
  have HK : Hid (∀ W, Calls Tryz.prog 48 #[.agg #[.int .i64 v.op, .int .i64 v.a, .int .i64 v.b, .int .i64 v.c, .int .i64 v.k, .int .i64 v.sub, .int .i64 v.scale, .int .i64 v.imm, .int .i64 v.label]] W fun e w' => e = .returned (.bool (v.op == 23)) ∧ W.grownBy w' none) := fun W => iscall_any v W
  have c2 : (w.alloc (.cells #[.int .i64 v.op, .int .i64 v.a, .int .i64 v.b, .int .i64 v.c, .int .i64 v.k, .int .i64 v.sub, .int .i64 v.scale, .int .i64 v.imm, .int .i64 v.label] 50)).cell? ⟨B, 2, none⟩ = some (.slice ma P.m mc) := (World.grownBy_alloc w _ none).cell h.c2 (by simp)
  have IN := InstAt.new w v
  generalize hm : P.m = m at *
  clear h hm
  have hA := World.grownBy_alloc w (.cells #[.int .i64 v.op, .int .i64 v.a, .int .i64 v.b, .int .i64 v.c, .int .i64 v.k, .int .i64 v.sub, .int .i64 v.scale, .int .i64 v.imm, .int .i64 v.label] 50) none
  cases hj : Lk.jmpB v.op
  · rw [hj] at HJ
    cases hc : v.op == 23
    · rw [hc] at HK
      have HL : Hid (Lk.labB m p v = (v.label == 0)) := by show _ = _; unfold Lk.labB; rw [if_neg (by rw [hj]; decide), if_neg (by simpa using hc)]
      clear hj hc
      go_enter Tryz.func62, Tryz.ntmps62
      go_wp2_with (first | (go_at_call 46; refine (HJ.out _).mono ?_; rintro e w1 ⟨rfl, hg1⟩; obtain ⟨d0, d1, d2, d3, d4, d5, d6, d7, d8, dz⟩ := IN.kept hg1 (by simp)) | (go_at_call 48; refine (HK.out _).mono ?_; rintro e w2 ⟨rfl, hg2⟩; obtain ⟨e0, e1, e2, e3, e4, e5, e6, e7, e8, ez⟩ := (IN.kept hg1 (by simp)).kept hg2 (by simp)))
      go_ret
      rw [HL.out]
      exact ⟨rfl, grown_trans hA (grown_trans hg1 hg2)⟩
    · rw [hc] at HK
      have HL : Hid (Lk.labB m p v = (v.imm == 0 && (decide (0 ≤ v.label) && decide (v.label < p)))) := by show _ = _; unfold Lk.labB; rw [if_neg (by rw [hj]; decide), if_pos (by simpa using hc)]
      clear hj hc
      cases h1 : v.imm == 0
      · rw [show Lk.labB m p v = false from by rw [HL.out, h1]; rfl]
        clear HL
        have h1' : v.imm ≠ 0 := by simpa using h1
        go_enter Tryz.func62, Tryz.ntmps62
        go_wp2_with (first | (go_at_call 46; refine (HJ.out _).mono ?_; rintro e w1 ⟨rfl, hg1⟩; obtain ⟨d0, d1, d2, d3, d4, d5, d6, d7, d8, dz⟩ := IN.kept hg1 (by simp)) | (go_at_call 48; refine (HK.out _).mono ?_; rintro e w2 ⟨rfl, hg2⟩; obtain ⟨e0, e1, e2, e3, e4, e5, e6, e7, e8, ez⟩ := (IN.kept hg1 (by simp)).kept hg2 (by simp)))
        go_ret
        exact ⟨rfl, grown_trans hA (grown_trans hg1 hg2)⟩
      · by_cases h2 : 0 ≤ v.label
        · rw [show Lk.labB m p v = decide (v.label < p) from by rw [HL.out, h1]; simp [h2]]
          clear HL
          have h1' : v.imm = 0 := by simpa using h1
          obtain ⟨op, a, b, c, k, sub, sc, imm, lb⟩ := v
          simp only at *
          subst h1'
          go_enter Tryz.func62, Tryz.ntmps62
          go_wp2_with (first | (go_at_call 46; refine (HJ.out _).mono ?_; rintro e w1 ⟨rfl, hg1⟩; obtain ⟨d0, d1, d2, d3, d4, d5, d6, d7, d8, dz⟩ := IN.kept hg1 (by simp)) | (go_at_call 48; refine (HK.out _).mono ?_; rintro e w2 ⟨rfl, hg2⟩; obtain ⟨e0, e1, e2, e3, e4, e5, e6, e7, e8, ez⟩ := (IN.kept hg1 (by simp)).kept hg2 (by simp)))
          go_ret
          exact ⟨rfl, grown_trans hA (grown_trans hg1 hg2)⟩
        · rw [show Lk.labB m p v = false from by rw [HL.out, h1]; simp [h2]]
          clear HL
          have h1' : v.imm = 0 := by simpa using h1
          obtain ⟨op, a, b, c, k, sub, sc, imm, lb⟩ := v
          simp only at *
          subst h1'
          have h2' : lb < 0 := by omega
          have h3' : decide (0 ≤ lb) = false := by simp [h2]
          go_enter Tryz.func62, Tryz.ntmps62
          go_wp2_with (first | (go_at_call 46; refine (HJ.out _).mono ?_; rintro e w1 ⟨rfl, hg1⟩; obtain ⟨d0, d1, d2, d3, d4, d5, d6, d7, d8, dz⟩ := IN.kept hg1 (by simp)) | (go_at_call 48; refine (HK.out _).mono ?_; rintro e w2 ⟨rfl, hg2⟩; obtain ⟨e0, e1, e2, e3, e4, e5, e6, e7, e8, ez⟩ := (IN.kept hg1 (by simp)).kept hg2 (by simp)))
          go_ret
          exact ⟨rfl, grown_trans hA (grown_trans hg1 hg2)⟩
  · rw [hj] at HJ
    have HL : Hid (Lk.labB m p v = (v.imm == 0 && (decide (0 ≤ v.label) && decide (v.label < m)))) := by show _ = _; unfold Lk.labB; rw [if_pos hj]
    clear hj
    cases h1 : v.imm == 0
    · rw [show Lk.labB m p v = false from by rw [HL.out, h1]; rfl]
      clear HL
      have h1' : v.imm ≠ 0 := by simpa using h1
      go_enter Tryz.func62, Tryz.ntmps62
      go_wp2_with (first | (go_at_call 46; refine (HJ.out _).mono ?_; rintro e w1 ⟨rfl, hg1⟩; obtain ⟨d0, d1, d2, d3, d4, d5, d6, d7, d8, dz⟩ := IN.kept hg1 (by simp); have e2 := hg1.cell c2 (by simp)))
      go_quiet (fail)
      go_wp2
      go_ret
      exact ⟨rfl, grown_drewN (grown_trans hA hg1) _⟩
    · by_cases h2 : 0 ≤ v.label
      · rw [show Lk.labB m p v = decide (v.label < m) from by rw [HL.out, h1]; simp [h2]]
        clear HL
        have h1' : v.imm = 0 := by simpa using h1
        obtain ⟨op, a, b, c, k, sub, sc, imm, lb⟩ := v
        simp only at *
        subst h1'
        go_enter Tryz.func62, Tryz.ntmps62
        go_wp2_with (first | (go_at_call 46; refine (HJ.out _).mono ?_; rintro e w1 ⟨rfl, hg1⟩; obtain ⟨d0, d1, d2, d3, d4, d5, d6, d7, d8, dz⟩ := IN.kept hg1 (by simp); have e2 := hg1.cell c2 (by simp)))
        go_quiet (fail)
        go_wp2
        go_ret
        exact ⟨rfl, grown_drewN (grown_trans hA hg1) _⟩
      · rw [show Lk.labB m p v = false from by rw [HL.out, h1]; simp [h2]]
        clear HL
        have h1' : v.imm = 0 := by simpa using h1
        obtain ⟨op, a, b, c, k, sub, sc, imm, lb⟩ := v
        simp only at *
        subst h1'
        have h2' : lb < 0 := by omega
        have h3' : decide (0 ≤ lb) = false := by simp [h2]
        go_enter Tryz.func62, Tryz.ntmps62
        go_wp2_with (first | (go_at_call 46; refine (HJ.out _).mono ?_; rintro e w1 ⟨rfl, hg1⟩; obtain ⟨d0, d1, d2, d3, d4, d5, d6, d7, d8, dz⟩ := IN.kept hg1 (by simp); have e2 := hg1.cell c2 (by simp)))
        go_quiet (fail)
        go_wp2
        go_ret
        exact ⟨rfl, grown_drewN (grown_trans hA hg1) _⟩
end Go.Proofs.YtkiockffejlnhaaGreatDoor

/- link's jumps, imms, tooFar; marksMayBe, encoderOf. -/
namespace Go.Proofs.YtkiockffejlnhaaGreatDoor
open Go.RowKit
set_option linter.unusedVariables false
theorem OwnZ.one {w : World} {base : Nat} {v : Value} {l : List Int} {x : Int} (h : w.ownsRow base 3 1 v (l.length + 1) (l.map (Value.int .i64) ++ [.int .i64 x])) : OwnZ w base v (l ++ [x]) := by
  unfold OwnZ
  simpa using h
theorem OwnZ.cast {w : World} {base : Nat} {v : Value} {l l' : List Int} (h : OwnZ w base v l) (e : l' = l) : OwnZ w base v l' := by rw [e]; exact h
theorem wp_appZ {ops : Array Oper} {rest : List Oper} {o : Oper} {a : Act} {Q : Exit → Act → World → Prop} {W : World} (hgd : o.guard = none) (s x : Operand)
    (ho : o.op = .call { callee := .builtin .append, args := #[s, x], argTypes := #[30, 30] }) (base : Nat) (v : Value) (l : List Int) (X : Int) (hs : a.eval s = v) (hown : OwnZ W base v l)
    (hx : a.eval x = .slice (some ⟨W.heap.size, 0, none⟩) 1 1) (hl : l.length ≤ 2000000) (hb : base ≤ W.heap.size)
    (h : ∀ v' w', OwnZ w' base v' (l ++ [X]) → W.grownBy w' v.ownBlock → wpList Tryz.prog ops Q rest (a.put o.dst v') w') : wpList Tryz.prog ops Q (o :: rest) a (W.alloc (Obj.cells #[.int .i64 X] 3)) := by
  obtain ⟨i, hi, hz0, hz1, hz2⟩ := info_parts info_int
  refine wpList_append_own _ hgd s x 30 ho base 3 i (.int .i64 0) 1 8 Tryz.underlying30 hi hz0 hz1 hz2 rfl (by decide) v l.length (l.map (Value.int .i64)) hs (World.ownsRow.alloc hown _) ⟨W.heap.size, 0, none⟩ 1 1 [.int .i64 X] hx rfl
    (by intro j u hj; match j, hj with | 0, hj => simp at hj; subst hj; simp [Addr.add]) (by simp; rfl) (by unfold maxLen; omega) (by omega) (by simp; omega) ?_
  intro v' w2 ho2 hg2 _
  exact h v' w2 (OwnZ.one ho2) (grown_trans (grown_noneR _ (World.grownBy_alloc _ _ _)) hg2)
theorem own_new {w w1 w2 : World} {v : Value} {row : Option Nat} (g1 : w.grownBy w1 none) (g2 : w1.grownBy w2 row) (h : ∀ b, row = some b → w.heap.size ≤ b) : w.grownBy w2 none :=
  ⟨g2.os.trans g1.os, g2.tape.trans g1.tape, g2.output.trans g1.output, Nat.le_trans g1.size g2.size, fun k hk _ => (g2.block k (Nat.lt_of_lt_of_le hk g1.size) (fun e => by have := h k e.symm; omega)).trans (g1.block k hk (by simp))⟩
namespace Lk
def marksB (P : PcV) : Bool := (List.range P.m).all fun i => decide (0 ≤ P.M i) && decide (P.M i ≤ P.n)
theorem marksB_iff {P : PcV} : marksB P = true ↔ ∀ i, i < P.m → 0 ≤ P.M i ∧ P.M i ≤ P.n := by unfold marksB; simp
def jl (P : PcV) : Nat → List Int
  | 0 => []
  | k + 1 => jl P k ++ if jmpB (P.I k).op then [(k : Int)] else []
theorem jl_len (P : PcV) : ∀ k, (jl P k).length ≤ k
  | 0 => Nat.le_refl _
  | k + 1 => by have := jl_len P k; unfold jl; rw [List.length_append]; split <;> simp <;> omega
theorem jl_mem (P : PcV) : ∀ {k : Nat} {x : Int}, x ∈ jl P k ↔ ∃ i : Nat, i < k ∧ x = i ∧ jmpB (P.I i).op = true
  | 0, x => by simp [jl]
  | k + 1, x => by
    unfold jl
    rw [List.mem_append, jl_mem P (k := k)]
    constructor
    · rintro (⟨i, h1, h2, h3⟩ | h)
      · exact ⟨i, by omega, h2, h3⟩
      · split at h
        · next hj => simp at h; exact ⟨k, by omega, h, hj⟩
        · cases h
    · rintro ⟨i, h1, h2, h3⟩
      by_cases e : i = k
      · subst e; rw [if_pos h3]; exact .inr (by simp [h2])
      · exact .inl ⟨i, by omega, h2, h3⟩
end Lk
set_option maxRecDepth 100000 in
set_option maxHeartbeats 4000000 in
theorem pmarks_any {N : Nat} {w : World} {B fe : Nat} {P : Lk.PcV} {ia ma : Option Addr} {ic mc : Nat} {sv : Value} (h : Pt N w B fe P ia ma ic mc sv) :
    Calls Tryz.prog 39 #[.pointer (some ⟨B, 0, none⟩)] w fun e w' => e = .returned (.bool (Lk.marksB P)) ∧ w' = w := by
  have c1 := h.c1
  have c2 := h.c2
  have hmax : (P.m : Int) ≤ 9223372036854775807 := by have := h.mks.max; have := h.mks.le; unfold maxLen at *; omega
  have HM : Hid (∀ i, i < P.m → ∃ b off, ma = some ⟨b, off, none⟩ ∧ b < N ∧ w.cell? ⟨b, off + i, none⟩ = some (.int .i64 (P.M i))) := fun i hi => h.mks.at hi
  have HB : Hid (∀ b : Bool, (b = true → ∀ i, i < P.m → 0 ≤ P.M i ∧ P.M i ≤ P.n) → (b = false → ∃ i, i < P.m ∧ ¬ (0 ≤ P.M i ∧ P.M i ≤ P.n)) → b = Lk.marksB P) := by
    intro b h1 h2
    cases b
    · obtain ⟨i, hi, hn⟩ := h2 rfl
      cases hb : Lk.marksB P
      · rfl
      · exact absurd (Lk.marksB_iff.1 hb i hi) hn
    · exact (Lk.marksB_iff.2 (h1 rfl)).symm
  clear h
  obtain ⟨n, hn⟩ : ∃ n, n = P.n := ⟨_, rfl⟩
  obtain ⟨m, hm⟩ : ∃ m, m = P.m := ⟨_, rfl⟩
  rw [← hn] at c1 HB
  rw [← hm] at c2 HM HB hmax
  clear hn hm
  obtain ⟨r, hr⟩ : ∃ r, r = Lk.marksB P := ⟨_, rfl⟩
  rw [← hr] at HB ⊢
  clear hr
  go_enter Tryz.func39, Tryz.ntmps39
  go_wp2
  go_loopw [10] (fun i wr => ∃ k : Nat, i = .int .i64 k ∧ k ≤ m ∧ wr = w ∧ ∀ i, i < k → 0 ≤ P.M i ∧ P.M i ≤ n) (fun i _ => m - (intOf i).toNat)
  case atStart => exact ⟨0, rfl, Nat.zero_le _, rfl, fun i hi => by omega⟩
  case round =>
    obtain ⟨k, rfl, hk, rfl, hall⟩ := hrel
    have HA : Hid (∀ i, i < k → 0 ≤ P.M i ∧ P.M i ≤ n) := hall
    clear hall
    by_cases hkm : k < m
    · have hkm' : (k : Int) < m := by omega
      obtain ⟨b, off, rfl, hb, hc⟩ := HM.out k hkm
      obtain ⟨x, hx⟩ : ∃ x, x = P.M k := ⟨_, rfl⟩
      rw [← hx] at hc
      have HX : Hid (x = P.M k) := hx
      clear hx
      by_cases h1 : 0 ≤ x
      · by_cases h2 : x ≤ n
        · go_wp2
          go_roundw
          case rel => exact ⟨k + 1, by go_num, by omega, by trivial, fun i hi => by
            by_cases e : i = k
            · subst e; rw [← HX.out]; exact ⟨h1, h2⟩
            · exact HA.out i (by omega)⟩
          case measure => simp [intOf]; omega
        · have h2' : n < x := by omega
          go_wp2
          go_ret
          rw [← HB.out false (fun h => by cases h) (fun _ => ⟨k, hkm, by rw [← HX.out]; omega⟩)]
          exact ⟨rfl, rfl⟩
      · have h1' : x < 0 := by omega
        go_wp2
        go_ret
        rw [← HB.out false (fun h => by cases h) (fun _ => ⟨k, hkm, by rw [← HX.out]; omega⟩)]
        exact ⟨rfl, rfl⟩
    · obtain rfl : k = m := by omega
      go_wp2
      go_ret
      rw [← HB.out true (fun _ i hi => HA.out i hi) (fun h => by cases h)]
      exact ⟨rfl, rfl⟩
theorem encof_r (w : World) : Calls Tryz.prog 38 #[.int .i64 1] w fun e w' => e = .returned (.tuple #[.func (.func 60) #[] #[], .bool true]) ∧ w' = w := by
  go_enter Tryz.func38, Tryz.ntmps38
  go_wp2
  go_ret2
  exact ⟨rfl, rfl⟩
theorem encof_c (w : World) : Calls Tryz.prog 38 #[.int .i64 2] w fun e w' => e = .returned (.tuple #[.func (.func 61) #[] #[], .bool true]) ∧ w' = w := by
  go_enter Tryz.func38, Tryz.ntmps38
  go_wp2
  go_ret2
  exact ⟨rfl, rfl⟩
theorem encof_no (t : Int) (h1 : (t == 1) = false) (h2 : (t == 2) = false) (w : World) : Calls Tryz.prog 38 #[.int .i64 t] w fun e w' => e = .returned (.tuple #[.nilFunc, .bool false]) ∧ w' = w := by
  go_enter Tryz.func38, Tryz.ntmps38
  go_wp2
  go_ret2
  exact ⟨rfl, rfl⟩
set_option maxRecDepth 100000 in
set_option maxHeartbeats 4000000 in
theorem pjumps_any {N : Nat} {w : World} {B fe : Nat} {P : Lk.PcV} {ia ma : Option Addr} {ic mc : Nat} {sv : Value} (h : Pt N w B fe P ia ma ic mc sv) (hn : P.n ≤ 1100000) :
    Calls Tryz.prog 64 #[.pointer (some ⟨B, 0, none⟩)] w fun e w' => ∃ v, e = .returned v ∧ OwnZ w' w.heap.size v (Lk.jl P P.n) ∧ w.grownBy w' none := by
  have c1 := h.c1
  have HI : Hid (∀ k, k < P.n → ∀ W, w.grownBy W none → ∃ b off, ia = some ⟨b, off, none⟩ ∧ b < N ∧ InAt W b (off + k * 9) (P.I k)) := fun k hk W g => by
    obtain ⟨b, off, e, hb, hi, _⟩ := (h.grow g).ins.at hk
    exact ⟨b, off, e, hb, hi⟩
  obtain ⟨n, hnn⟩ : ∃ n, n = P.n := ⟨_, rfl⟩
  rw [← hnn] at c1 HI hn ⊢
  clear h hnn
  have hn' : (n : Int) ≤ 1100000 := by omega
  go_enter Tryz.func64, Tryz.ntmps64
  go_wp2_with fail
  go_loopw [3, 11] (fun v i wr => ∃ k : Nat, i = .int .i64 k ∧ k ≤ n ∧ OwnZ wr w.heap.size v (Lk.jl P k) ∧ w.grownBy wr none) (fun _ i _ => n - (intOf i).toNat)
  case atStart => exact ⟨0, rfl, Nat.zero_le _, World.ownsRow_nil _ _ _ _, World.grownBy.refl _ _⟩
  case round =>
    obtain ⟨al, hal⟩ : ∃ al, al = u3 := ⟨_, rfl⟩
    obtain ⟨k, rfl, hk, ho, hg⟩ := hrel
    rw [← hal] at ho ⊢
    clear hal
    have HO : Hid (OwnZ wr w.heap.size al (Lk.jl P k)) := ho
    have HG : Hid (w.grownBy wr none) := hg
    by_cases hkn : k < n
    · have hkn' : (k : Int) < n := by omega
      obtain ⟨b, off, rfl, hb, hin⟩ := HI.out k hkn wr hg
      have hl := Lk.jl_len P k
      obtain ⟨v, hv⟩ : ∃ v, v = P.I k := ⟨_, rfl⟩
      rw [← hv] at hin
      have HS : Hid (Lk.jl P (k + 1) = Lk.jl P k ++ if Lk.jmpB v.op then [(k : Int)] else []) := by rw [hv]; exact rfl
      clear hv
      obtain ⟨d0, d1, d2, d3, d4, d5, d6, d7, d8⟩ := hin
      have HJ : Hid (∀ W, Calls Tryz.prog 46 #[.agg #[.int .i64 v.op, .int .i64 v.a, .int .i64 v.b, .int .i64 v.c, .int .i64 v.k, .int .i64 v.sub, .int .i64 v.scale, .int .i64 v.imm, .int .i64 v.label]] W fun e w' => e = .returned (.bool (Lk.jmpB v.op)) ∧ W.grownBy w' none) := fun W => isjump_any v W
      generalize Lk.jl P k = L at *
      obtain ⟨ao, cp, rfl, _⟩ := HO.out.slice
      have hsz : w.heap.size ≤ wr.heap.size := hg.size
      clear ho hg
      cases hjj : Lk.jmpB v.op
      · rw [hjj] at HJ HS
        go_wp2_with (go_at_call 46; refine (HJ.out _).mono ?_; rintro e w1 ⟨rfl, hg1⟩)
        have GX : wr.grownBy w1 none := grown_trans (World.grownBy_alloc _ _ _) hg1
        exact ⟨⟨k + 1, by go_num, by omega, (HO.out.grow GX).cast (by rw [HS.out]; simp), grown_trans HG.out GX⟩, by simp [intOf]; omega⟩
      · rw [hjj] at HJ HS
        go_wp2_with (first | (go_at_call 46; refine (HJ.out _).mono ?_; rintro e w1 ⟨rfl, hg1⟩; have GX : wr.grownBy w1 none := grown_trans (World.grownBy_alloc _ _ _) hg1; have HO1 : Hid (OwnZ w1 w.heap.size (.slice ao L.length cp) L) := HO.out.grow GX; have HG1 : Hid (w.grownBy w1 none) := grown_trans HG.out GX; have hs1 : w.heap.size ≤ w1.heap.size := HG1.out.size; clear GX hg1) | (at_builtin; refine wp_appZ rfl _ _ rfl w.heap.size (.slice ao L.length cp) L (k : Int) rfl HO1.out rfl (by omega) hs1 ?_; intro v' w4 ho4 hg4))
        exact ⟨⟨k + 1, by go_num, by omega, ho4.cast (by rw [HS.out]; simp), own_new (v := .nilFunc) HG1.out hg4 (HO1.out.base)⟩, by simp [intOf]; omega⟩
    · obtain rfl : k = n := by omega
      go_wp2
      go_ret
      exact ⟨_, rfl, HO.out, HG.out⟩
end Go.Proofs.YtkiockffejlnhaaGreatDoor

/- link's imms, tooFar. -/
namespace Go.Proofs.YtkiockffejlnhaaGreatDoor
open Go.RowKit
set_option linter.unusedVariables false
theorem range_snoc (n : Nat) (g : Nat → Int) : (List.range n).map g ++ [g n] = (List.range (n + 1)).map g := by rw [List.range_succ, List.map_append]; rfl
theorem OwnN.kept {w w' : World} {base n : Nat} {v : Value} {g : Nat → Int} {row : Option Nat} (h : OwnN w base v n g) (hg : w.grownBy w' row) (hne : v.ownBlock = none ∨ v.ownBlock ≠ row) : OwnN w' base v n g := World.ownsRow.kept h hg hne
theorem OwnZ.kept {w w' : World} {base : Nat} {v : Value} {l : List Int} {row : Option Nat} (h : OwnZ w base v l) (hg : w.grownBy w' row) (hne : v.ownBlock = none ∨ v.ownBlock ≠ row) : OwnZ w' base v l := World.ownsRow.kept h hg hne
namespace Lk
def immS (P : PcV) (t : Int) (S : Nat → Int) (i : Nat) : Int := pos S ((P.sh t).tg i) - pos S (i + 1)
def immJ (P : PcV) (t : Int) (S : Nat → Int) (i : Nat) : Int := if jmpB (P.I i).op then immS P t S i else 0
end Lk
set_option maxRecDepth 100000 in
set_option maxHeartbeats 8000000 in
theorem pimms_any {N : Nat} {w : World} {B fe : Nat} {P : Lk.PcV} {ia ma : Option Addr} {ic mc : Nat} {sv : Value} {base : Nat} {S : Nat → Int} {t p : Int} (h : Pt N w B fe P ia ma ic mc sv) (ho : OwnN w base sv P.n S) (hP : P.Ok t p) (hn : P.n ≤ 1100000) (hS : ∀ i, i < P.n → 0 ≤ S i ∧ S i ≤ 40) :
    Calls Tryz.prog 41 #[.pointer (some ⟨B, 0, none⟩)] w fun e w' => ∃ T, e = .returned (.slice (some ⟨T, 0, none⟩) P.n P.n) ∧ OwnN w' w.heap.size (.slice (some ⟨T, 0, none⟩) P.n P.n) P.n (Lk.immJ P t S) ∧ w.grownBy w' none := by
  have hpos : ∀ k, k ≤ P.n → 0 ≤ Lk.pos S k ∧ Lk.pos S k ≤ 44000000 := fun k hk => by
    have := pos_lim (n := k) (s := S) (B := 40) (fun i hi => hS i (by omega))
    omega
  have HP : Hid (∀ W, w.grownBy W none → Calls Tryz.prog 63 #[.pointer (some ⟨B, 0, none⟩)] W fun e w' => e = .returned (.tuple #[.slice (some ⟨W.heap.size, 0, none⟩) P.n P.n, .int .i64 (Lk.pos S P.n)]) ∧ OwnN w' W.heap.size (.slice (some ⟨W.heap.size, 0, none⟩) P.n P.n) P.n (Lk.pos S) ∧ W.grownBy w' none) := fun W hW => pplaces_any (h.grow hW) (ho.grow hW) (by omega) (fun k hk => by have := hpos k hk; omega)
  have HJ : Hid (∀ W, w.grownBy W none → Calls Tryz.prog 64 #[.pointer (some ⟨B, 0, none⟩)] W fun e w' => ∃ v, e = .returned v ∧ OwnZ w' W.heap.size v (Lk.jl P P.n) ∧ W.grownBy w' none) := fun W hW => pjumps_any (h.grow hW) hn
  have HT : Hid (∀ i, i < P.n → Lk.jmpB (P.I i).op = true → ∃ x : Nat, (P.sh t).tg i = x ∧ x ≤ P.n ∧ ∀ W, w.grownBy W none → Calls Tryz.prog 65 #[.pointer (some ⟨B, 0, none⟩), .int .i64 i] W fun e w' => e = .returned (.int .i64 x) ∧ W.grownBy w' none) := fun i hi hj => by
    have hl := Lk.lab_jmp (hP.may hi).1 hj
    have hM := hP.marks (P.I i).label.toNat (by omega)
    refine ⟨(P.M (P.I i).label.toNat).toNat, rfl, by omega, fun W hW => ?_⟩
    refine (ptarget_any (h.grow hW) hi hl.2.1 hl.2.2).mono ?_
    rintro e w' ⟨rfl, d, rfl⟩
    refine ⟨?_, grown_drewN (World.grownBy.refl _ _) d⟩
    rw [show (((P.M (P.I i).label.toNat).toNat : Nat) : Int) = P.M (P.I i).label.toNat from by omega]
  have HQ : Hid (∀ k, k ≤ P.n → 0 ≤ Lk.pos S k ∧ Lk.pos S k ≤ 44000000) := hpos
  have HM : Hid (∀ x, x ∈ Lk.jl P P.n → ∃ i : Nat, i < P.n ∧ x = i ∧ Lk.jmpB (P.I i).op = true) := fun x hx => (Lk.jl_mem P).1 hx
  have HM2 : Hid (∀ i, i < P.n → Lk.jmpB (P.I i).op = true → (i : Int) ∈ Lk.jl P P.n) := fun i hi hj => (Lk.jl_mem P).2 ⟨i, hi, rfl, hj⟩
  have hjl := Lk.jl_len P P.n
  have c1 := h.c1
  have HC1 : Hid (w.cell? ⟨B, 1, none⟩ = some (.slice ia P.n ic)) := c1
  clear hpos h ho hP hS c1
  obtain ⟨n, hnn⟩ : ∃ n, n = P.n := ⟨_, rfl⟩
  obtain ⟨js, hjs⟩ : ∃ js, js = Lk.jl P P.n := ⟨_, rfl⟩
  rw [← hjs] at HJ HM HM2 hjl
  rw [← hnn] at HP HT HQ HM HM2 HC1 hn hjl ⊢
  clear hjs hnn
  have hn' : (n : Int) ≤ 1100000 := by omega
  go_enter Tryz.func41, Tryz.ntmps41
  go_wp2_with (first
    | (go_at_call 63; refine (HP.out _ (World.grownBy.refl _ _)).mono ?_; rintro e w1 ⟨rfl, ho1, hg1⟩; have HO1 : Hid (OwnZ w1 w.heap.size (.slice (some ⟨w.heap.size, 0, none⟩) n n) ((List.range n).map (Lk.pos S))) := ho1.z; have HG1 : Hid (w.grownBy w1 none) := hg1; have hs1 := hg1.size; clear ho1 hg1)
    | (at_builtin; refine wp_appZ rfl _ _ rfl w.heap.size (.slice (some ⟨w.heap.size, 0, none⟩) n n) ((List.range n).map (Lk.pos S)) (Lk.pos S n) rfl HO1.out rfl (by simp; omega) hs1 ?_; intro v2 w2 ho2 hg2; rw [range_snoc] at ho2; obtain ⟨a2, c2, rfl, hc2, hm2, ha2⟩ := ho2.slice; obtain ⟨T2, rfl, hT2, hl2⟩ := ha2 (by simp); have HG2 : Hid (w.grownBy w2 none) := own_new (v := .nilFunc) HG1.out hg2 HO1.out.base; have HO2 : Hid (OwnN w2 w.heap.size (.slice (some ⟨T2, 0, none⟩) (n + 1) c2) (n + 1) (Lk.pos S)) := by { have := ho2.n; simp only [List.length_map, List.length_range] at this; exact this.congr (fun i hi => by simp [List.getD_eq_getElem?_getD, hi]) }; clear ho2 hg2 HO1; have c12 := HG2.out.cell HC1.out (by simp); simp only [List.length_map, List.length_range] at *; obtain ⟨w3, hmk, ho3, hg3⟩ := run_make_n w2 n (by omega); have HO3 : Hid (OwnN w3 w2.heap.size (.slice (some ⟨w2.heap.size, 0, none⟩) n n) n (fun _ => 0)) := ho3; have HG3 : Hid (w2.grownBy w3 none) := hg3; clear ho3 hg3)
    | (go_at_call 64; refine (HJ.out _ (grown_trans HG2.out HG3.out)).mono ?_; rintro e w4 ⟨v4, rfl, ho4, hg4⟩; obtain ⟨a4, c4, rfl, hc4, hm4, ha4⟩ := ho4.slice; have HO4 : Hid (OwnZ w4 w3.heap.size (.slice a4 js.length c4) js) := ho4; have HG4 : Hid (w3.grownBy w4 none) := hg4; clear ho4 hg4))
  have HGa : Hid (w.grownBy w4 none) := grown_trans HG2.out (grown_trans HG3.out HG4.out)
  have HOa : Hid (OwnN w4 w.heap.size (.slice (some ⟨T2, 0, none⟩) (n + 1) c2) (n + 1) (Lk.pos S)) := HO2.out.grow (grown_trans HG3.out HG4.out)
  have HOj : Hid (OwnN w4 w2.heap.size (.slice (some ⟨w2.heap.size, 0, none⟩) n n) n (fun _ => 0)) := HO3.out.grow HG4.out
  have hI2 : w.heap.size ≤ w2.heap.size := HG2.out.size
  have hI3 : w2.heap.size < w3.heap.size := (World.ownsRow.lt HO3.out w2.heap.size rfl).2
  have hTl : T2 < w2.heap.size := hl2
  obtain ⟨I, hI⟩ : ∃ I, I = w2.heap.size := ⟨_, rfl⟩
  rw [← hI] at HOj hI2 hI3 hTl ⊢
  clear HO2 HO3 HG2 HG3 HG4 HG1 hl2 c12 hmk HP HJ HC1 hI hs1
  go_loopw [26] (fun i wr => ∃ q : Nat, i = .int .i64 q ∧ q ≤ js.length ∧ OwnN wr I (.slice (some ⟨I, 0, none⟩) n n) n (fun i => if (i : Int) ∈ js.take q then Lk.immS P t S i else 0) ∧ w4.grownBy wr (some I)) (fun i _ => js.length - (intOf i).toNat)
  case atStart => exact ⟨0, rfl, Nat.zero_le _, HOj.out.congr (fun i _ => by simp), World.grownBy.refl _ _⟩
  case round =>
    obtain ⟨q, rfl, hq, hoq, hgq⟩ := hrel
    have HOq : Hid (OwnN wr I (.slice (some ⟨I, 0, none⟩) n n) n (fun i => if (i : Int) ∈ js.take q then Lk.immS P t S i else 0)) := hoq
    have HGq : Hid (w4.grownBy wr (some I)) := hgq
    have HGw : Hid (w.grownBy wr none) := grown_two HGa.out hgq hI2
    have HOb : Hid (OwnN wr w.heap.size (.slice (some ⟨T2, 0, none⟩) (n + 1) c2) (n + 1) (Lk.pos S)) := HOa.out.kept hgq (.inr (by simp [Value.ownBlock]; omega))
    have HOc : Hid (OwnZ wr w3.heap.size (.slice a4 js.length c4) js) := HO4.out.kept hgq (by
      cases hb : (Value.slice a4 js.length c4).ownBlock with
      | none => exact .inl rfl
      | some b => exact .inr (by have := HO4.out.base b hb; simp; omega))
    clear hoq hgq
    by_cases hqj : q < js.length
    · have hqj' : (q : Int) < js.length := by omega
      obtain ⟨TJ, rfl, _, _⟩ := ha4 (by omega)
      obtain ⟨i, hi, hx, hj⟩ := HM.out js[q] (List.getElem_mem hqj)
      have cj : wr.cell? ⟨TJ, q, none⟩ = some (.int .i64 (i : Int)) := by
        have := HOc.out.n.cell hqj
        rw [this, List.getD_eq_getElem?_getD, List.getElem?_eq_getElem hqj]
        simp [hx]
      obtain ⟨x, htg, hxn, htc⟩ := HT.out i hi hj
      have HTC : Hid (∀ W, w.grownBy W none → Calls Tryz.prog 65 #[.pointer (some ⟨B, 0, none⟩), .int .i64 i] W fun e w' => e = .returned (.int .i64 x) ∧ W.grownBy w' none) := htc
      have hb1 := HQ.out x hxn
      have hb2 := HQ.out (i + 1) (by omega)
      have HIm : Hid (Lk.immS P t S i = Lk.pos S x - Lk.pos S (i + 1)) := by show _ = _; unfold Lk.immS; rw [htg]
      have hxn' : (x : Int) < (n : Int) + 1 := by omega
      have hi' : (i : Int) < n := by omega
      have hi1 : (i : Int) + 1 < (n : Int) + 1 := by omega
      have HTk : Hid (js.take (q + 1) = js.take q ++ [(i : Int)]) := by show _ = _; rw [List.take_succ_eq_append_getElem hqj, hx]
      clear htg htc hx
      go_wp2_with fail
      refine tail_class (fun w' => ∃ y : Gw wr, w' = y.w) 15 (by kernel_rfl) (by kernel_rfl) ⟨⟨wr.drew, grown_drew (World.grownBy.refl _ _)⟩, rfl⟩ ?_
      have e1 := fun y : Gw wr => (HOb.out.grow y.h).cell (i := x) (by omega)
      have e2 := fun y : Gw wr => (HOb.out.grow y.h).cell (i := i + 1) (by omega)
      have HTD : Hid (∀ y : Gw wr, Calls Tryz.prog 65 #[.pointer (some ⟨B, 0, none⟩), .int .i64 i] y.w fun e w' => e = .returned (.int .i64 x) ∧ y.w.grownBy w' none) := fun y => HTC.out _ (grown_trans HGw.out y.h)
      simp only [List.take_succ_cons, List.take_zero, List.drop_succ_cons, List.drop_zero]
      repeat (go_big_quiet_step (first | exact rfl | (go_at_call 65; exact Gw.call (HTD.out _))))
      refine wpQuiet_nil ?_
      rintro W8 ⟨y8, hy8⟩
      have g : wr.grownBy W8 none := by rw [hy8]; exact y8.h
      clear hy8 y8 e1 e2 HTD
      have f8 := (HOq.out.grow g).frozen i
      have c8 := (HOq.out.grow g).cell hi
      have HO9 : Hid (OwnN (W8.setCell ⟨I, i, none⟩ (.int .i64 (Lk.pos S x - Lk.pos S (i + 1)))) I (.slice (some ⟨I, 0, none⟩) n n) n (fun i => if (i : Int) ∈ js.take (q + 1) then Lk.immS P t S i else 0)) := ((HOq.out.grow g).set hi _).congr (fun k hk => by
        unfold setF
        rw [HTk.out]
        by_cases e : k = i
        · subst e
          rw [← HIm.out]
          simp
        · simp [e]
          by_cases hm : (k : Int) ∈ js.take q
          · simp [hm]
          · simp [hm]
            intro h
            omega)
      have HG9 : Hid (w4.grownBy (W8.setCell ⟨I, i, none⟩ (.int .i64 (Lk.pos S x - Lk.pos S (i + 1)))) (some I)) := grown_trans (grown_trans HGq.out (grown_noneR _ g)) (grown_set _ _ _ _)
      clear g
      go_wp2
      go_roundw
      case rel => exact ⟨q + 1, by go_num, by omega, HO9.out, HG9.out⟩
      case measure => simp [intOf]; omega
    · obtain rfl : q = js.length := by omega
      go_wp2
      go_ret
      refine ⟨_, rfl, (HOq.out.congr (fun i hi => ?_)).low hI2, HGw.out⟩
      rw [List.take_length]
      unfold Lk.immJ
      cases hj : Lk.jmpB (P.I i).op
      · rw [if_neg]
        · simp
        · intro hm
          obtain ⟨i', _, e, hj'⟩ := HM.out _ hm
          obtain rfl : i = i' := by omega
          rw [hj] at hj'
          cases hj'
      · rw [if_pos (HM2.out i hi hj)]
        simp
namespace Lk
def farL (J : Nat → Int) (l : List Int) : List Int := l.filter fun x => !fitB (J x.toNat)
theorem farL_snoc (J : Nat → Int) (l : List Int) (i : Nat) : farL J (l ++ [(i : Int)]) = farL J l ++ if fitB (J i) then [] else [(i : Int)] := by
  unfold farL
  rw [List.filter_append]
  cases h : fitB (J i) <;> simp [h]
theorem farL_len (J : Nat → Int) (l : List Int) : (farL J l).length ≤ l.length := List.length_filter_le _ _
end Lk
set_option maxRecDepth 100000 in
set_option maxHeartbeats 8000000 in
theorem pfar_any {N : Nat} {w : World} {B fe : Nat} {P : Lk.PcV} {ia ma : Option Addr} {ic mc : Nat} {sv : Value} {base T : Nat} {J : Nat → Int} (h : Pt N w B fe P ia ma ic mc sv) (ho : OwnN w base (.slice (some ⟨T, 0, none⟩) P.n P.n) P.n J) (hn : P.n ≤ 1100000) :
    Calls Tryz.prog 42 #[.pointer (some ⟨B, 0, none⟩), .slice (some ⟨T, 0, none⟩) P.n P.n] w fun e w' => ∃ v, e = .returned v ∧ OwnZ w' w.heap.size v (Lk.farL J (Lk.jl P P.n)) ∧ w.grownBy w' none := by
  have HJ : Hid (∀ W, w.grownBy W none → Calls Tryz.prog 64 #[.pointer (some ⟨B, 0, none⟩)] W fun e w' => ∃ v, e = .returned v ∧ OwnZ w' W.heap.size v (Lk.jl P P.n) ∧ W.grownBy w' none) := fun W hW => pjumps_any (h.grow hW) hn
  have HM : Hid (∀ x, x ∈ Lk.jl P P.n → ∃ i : Nat, i < P.n ∧ x = i ∧ Lk.jmpB (P.I i).op = true) := fun x hx => (Lk.jl_mem P).1 hx
  have hjl := Lk.jl_len P P.n
  have HO : Hid (OwnN w base (.slice (some ⟨T, 0, none⟩) P.n P.n) P.n J) := ho
  clear h ho
  generalize Lk.jl P P.n = js at *
  generalize P.n = n at *
  have hn' : (n : Int) ≤ 1100000 := by omega
  go_enter Tryz.func42, Tryz.ntmps42
  go_wp2_with (go_at_call 64; refine (HJ.out _ (World.grownBy.refl _ _)).mono ?_; rintro e w4 ⟨v4, rfl, ho4, hg4⟩; obtain ⟨a4, c4, rfl, hc4, hm4, ha4⟩ := ho4.slice; have HO4 : Hid (OwnZ w4 w.heap.size (.slice a4 js.length c4) js) := ho4; have HG4 : Hid (w.grownBy w4 none) := hg4; have hs4 := hg4.size; clear ho4 hg4)
  go_loopw [5, 11] (fun v i wr => ∃ q : Nat, i = .int .i64 q ∧ q ≤ js.length ∧ OwnZ wr w4.heap.size v (Lk.farL J (js.take q)) ∧ w4.grownBy wr none) (fun _ i _ => js.length - (intOf i).toNat)
  case atStart => exact ⟨0, rfl, Nat.zero_le _, World.ownsRow_nil _ _ _ _, World.grownBy.refl _ _⟩
  case round =>
    obtain ⟨al, hal⟩ : ∃ al, al = u5 := ⟨_, rfl⟩
    obtain ⟨q, rfl, hq, hoq, hgq⟩ := hrel
    rw [← hal] at hoq ⊢
    clear hal
    have HOq : Hid (OwnZ wr w4.heap.size al (Lk.farL J (js.take q))) := hoq
    have HGq : Hid (w4.grownBy wr none) := hgq
    have hsq := hgq.size
    have hlq := Lk.farL_len J (js.take q)
    obtain ⟨ao, cp, rfl, _⟩ := hoq.slice
    have HOj : Hid (OwnZ wr w.heap.size (.slice a4 js.length c4) js) := HO4.out.grow hgq
    have HOi : Hid (OwnN wr base (.slice (some ⟨T, 0, none⟩) n n) n J) := HO.out.grow (grown_trans HG4.out hgq)
    clear hoq hgq
    by_cases hqj : q < js.length
    · have hqj' : (q : Int) < js.length := by omega
      obtain ⟨TJ, rfl, _, _⟩ := ha4 (by omega)
      obtain ⟨i, hi, hx, hj⟩ := HM.out js[q] (List.getElem_mem hqj)
      have cj : wr.cell? ⟨TJ, q, none⟩ = some (.int .i64 (i : Int)) := by
        have := HOj.out.n.cell hqj
        rw [this, List.getD_eq_getElem?_getD, List.getElem?_eq_getElem hqj]
        simp [hx]
      have ci := HOi.out.cell hi
      have hi' : (i : Int) < n := by omega
      have HTk : Hid (Lk.farL J (js.take (q + 1)) = Lk.farL J (js.take q) ++ if Lk.fitB (J i) then [] else [(i : Int)]) := by show _ = _; rw [List.take_succ_eq_append_getElem hqj, hx, Lk.farL_snoc]
      have htl : (js.take q).length ≤ q := by simp; omega
      clear hx
      generalize Lk.farL J (js.take q) = L at *
      generalize J i = z at *
      cases hf : Lk.fitB z
      · rw [hf] at HTk
        have HF : Hid (∀ W, Calls Tryz.prog 66 #[.int .i64 z] W fun e w' => e = .returned (.bool false) ∧ w' = W) := fun W => by rw [← hf]; exact fitb_any z W
        go_wp2_with (first | (go_at_call 66; refine (HF.out _).mono ?_; rintro e w5 ⟨rfl, rfl⟩) | (at_builtin; refine wp_appZ rfl _ _ rfl w4.heap.size (.slice ao L.length cp) L (i : Int) rfl HOq.out rfl (by omega) hsq ?_; intro v' w6 ho6 hg6))
        exact ⟨⟨q + 1, by go_num, by omega, ho6.cast (by rw [HTk.out]; simp), own_new (v := .nilFunc) HGq.out hg6 HOq.out.base⟩, by simp [intOf]; omega⟩
      · rw [hf] at HTk
        have HF : Hid (∀ W, Calls Tryz.prog 66 #[.int .i64 z] W fun e w' => e = .returned (.bool true) ∧ w' = W) := fun W => by rw [← hf]; exact fitb_any z W
        go_wp2_with (first | (go_at_call 66; refine (HF.out _).mono ?_; rintro e w5 ⟨rfl, rfl⟩))
        exact ⟨⟨q + 1, by go_num, by omega, HOq.out.cast (by rw [HTk.out]; simp), HGq.out⟩, by simp [intOf]; omega⟩
    · obtain rfl : q = js.length := by omega
      go_wp2
      go_ret
      exact ⟨_, rfl, (HOq.out.low hs4).cast (by rw [List.take_length]), grown_trans HG4.out HGq.out⟩
end Go.Proofs.YtkiockffejlnhaaGreatDoor

/- An instruction's bytes by its target's encoder; the laws' table of bits kept; numbers appended to numbers. -/
namespace Go.Proofs.YtkiockffejlnhaaGreatDoor
open Go.RowKit
set_option linter.unusedVariables false
theorem TabAt.ch {w w' : World} {l : List Nat} (h : TabAt w) (hg : Ch w w' l) (hl : 2 ∉ l) : TabAt w' := ⟨Nat.lt_of_lt_of_le h.1 hg.size, fun i hi => hg.cell (h.2 i hi) hl⟩
theorem enc_r (v : InV) (W : World) (hr : InRng v) (hm : Ru.mayT 1 v = true) :
    Calls Tryz.prog 60 #[.agg #[.int .i64 v.op, .int .i64 v.a, .int .i64 v.b, .int .i64 v.c, .int .i64 v.k, .int .i64 v.sub, .int .i64 v.scale, .int .i64 v.imm, .int .i64 v.label]] W fun e w' => ∃ T' c', e = .returned (.tuple #[.slice (some ⟨T', 0, none⟩) (Ru.encT 1 v).length c', .int .i64 0]) ∧ OwnL w' W.heap.size (.slice (some ⟨T', 0, none⟩) (Ru.encT 1 v).length c') (Ru.encT 1 v) ∧ W.grownBy w' none := by
  unfold Ru.mayT at hm
  rw [if_pos rfl] at hm
  have e1 : Ru.encT 1 v = (List.range 8).map (Rc.enc v) := by unfold Ru.encT; rw [if_pos rfl]
  have el : (Ru.encT 1 v).length = 8 := by rw [e1]; simp
  refine (encode_ok v W hr.i1 hr.i2 hm).mono ?_
  rintro e w' ⟨T, rfl, ho, hg⟩
  rw [el]
  refine ⟨T, 8, rfl, ?_, hg⟩
  rw [e1]
  exact ho.toL
theorem enc_c (v : InV) (W : World) (hT : TabAt W) (hr : InRng v) (hm : Ru.mayT 2 v = true) :
    Calls Tryz.prog 61 #[.agg #[.int .i64 v.op, .int .i64 v.a, .int .i64 v.b, .int .i64 v.c, .int .i64 v.k, .int .i64 v.sub, .int .i64 v.scale, .int .i64 v.imm, .int .i64 v.label]] W fun e w' => ∃ T' c', e = .returned (.tuple #[.slice (some ⟨T', 0, none⟩) (Ru.encT 2 v).length c', .int .i64 0]) ∧ OwnL w' W.heap.size (.slice (some ⟨T', 0, none⟩) (Ru.encT 2 v).length c') (Ru.encT 2 v) ∧ W.grownBy w' none := by
  have hpos := (Ru.encT_len 2 v).1
  unfold Ru.mayT at hm
  rw [if_neg (by decide)] at hm
  have e1 : Ru.encT 2 v = Cc.enc v := by unfold Ru.encT; rw [if_neg (by decide)]
  refine (cencode_ok v W hT hr hm).mono ?_
  rintro e w' ⟨x, rfl, ho, hg⟩
  rw [e1] at hpos ⊢
  obtain ⟨T, c, rfl, _, _⟩ := own_slice ho.toB hpos
  exact ⟨T, c, rfl, ho, hg⟩
theorem enc_rn (v : InV) (W : World) (hr : InRng v) (hm : Ru.mayT 1 v = false) :
    Calls Tryz.prog 60 #[.agg #[.int .i64 v.op, .int .i64 v.a, .int .i64 v.b, .int .i64 v.c, .int .i64 v.k, .int .i64 v.sub, .int .i64 v.scale, .int .i64 v.imm, .int .i64 v.label]] W fun e w' => e = .returned (.tuple #[.slice none 0 0, .int .i64 30]) ∧ W.grownBy w' none := by
  unfold Ru.mayT at hm
  rw [if_pos rfl] at hm
  exact encode_no v W hr.i1 hr.i2 hm
theorem enc_cn (v : InV) (W : World) (hT : TabAt W) (hr : InRng v) (hm : Ru.mayT 2 v = false) :
    Calls Tryz.prog 61 #[.agg #[.int .i64 v.op, .int .i64 v.a, .int .i64 v.b, .int .i64 v.c, .int .i64 v.k, .int .i64 v.sub, .int .i64 v.scale, .int .i64 v.imm, .int .i64 v.label]] W fun e w' => e = .returned (.tuple #[.slice none 0 0, .int .i64 40]) ∧ W.grownBy w' none := by
  unfold Ru.mayT at hm
  rw [if_neg (by decide)] at hm
  exact cencode_no v W hT hr hm
end Go.Proofs.YtkiockffejlnhaaGreatDoor
