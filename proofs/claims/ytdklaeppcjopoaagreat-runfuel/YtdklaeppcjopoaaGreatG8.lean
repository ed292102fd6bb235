/- Contracts and plain facts that the walks share, text by text: RcI, RcJ, RcK, RcL. -/
import Derived.Test.YtdklaeppcjopoaaGreatRcB
import Derived.Test.YtdklaeppcjopoaaGreatRcC
import Derived.Test.YtdklaeppcjopoaaGreatG6
import Derived.Test.YtdklaeppcjopoaaGreatG2
import Derived.Deep.Onto
import Derived.Deep.AppendLies
/- risc.agree, Encode, Decode: contracts. -/
namespace Go.Proofs.YtdklaeppcjopoaaGreat
open Go.RowKit
set_option linter.unusedVariables false

namespace Rc
def E1 (v : InV) (f : FmV) : Prop := (pk v).code = f.code ∧ (pk v).a = f.a ∧ (pk v).b = f.b ∧ (pk v).c = f.c ∧ (pk v).n = f.n
def E2 (v : InV) (f : FmV) : Prop := (unpk f).op = v.op ∧ (unpk f).a = v.a ∧ (unpk f).b = v.b ∧ (unpk f).c = v.c ∧ (unpk f).k = v.k ∧ (unpk f).sub = v.sub ∧ (unpk f).scale = v.scale ∧ (unpk f).imm = v.imm ∧ (unpk f).label = v.label
def Ag (v : InV) (f : FmV) : Prop := E1 v f ∧ E2 v f ∧ smallB f.n = true ∧ fitB v = true
end Rc

set_option maxHeartbeats 8000000 in
theorem agree_any (v : InV) (f : FmV) (w : World) (h1 : -9223372036854775808 ≤ f.n) (h2 : f.n ≤ 9223372036854775807) (ag : Bool) (hag : ag = true ↔ Rc.Ag v f) :
    Calls Tryz.prog 174 #[inst v, formv f] w fun e w' => e = .returned (.bool ag) ∧ w.grownBy w' none := by
  have HA : Hid (ag = true ↔ Rc.Ag v f) := hag
  clear hag
  unfold inst formv
  go_enter Tryz.func174, Tryz.ntmps174
  go_wp2_with fail
  obtain ⟨W0, hW0⟩ : ∃ W0, W0 = (w.alloc (Obj.cells #[.int .i64 v.op, .int .i64 v.a, .int .i64 v.b, .int .i64 v.c, .int .i64 v.k, .int .i64 v.sub, .int .i64 v.scale, .int .i64 v.imm, .int .i64 v.label] 87)).alloc (Obj.cells #[.int .i64 f.code, .int .i64 f.a, .int .i64 f.b, .int .i64 f.c, .int .i64 f.n] 228) := ⟨_, rfl⟩
  have i0 : ∀ x : Gw W0, x.w.cell? ⟨w.heap.size, 0, none⟩ = some (.int .i64 v.op) := fun x => x.h.cell (by rw [hW0]; simp) (by simp)
  have i1 : ∀ x : Gw W0, x.w.cell? ⟨w.heap.size, 1, none⟩ = some (.int .i64 v.a) := fun x => x.h.cell (by rw [hW0]; simp) (by simp)
  have i2 : ∀ x : Gw W0, x.w.cell? ⟨w.heap.size, 2, none⟩ = some (.int .i64 v.b) := fun x => x.h.cell (by rw [hW0]; simp) (by simp)
  have i3 : ∀ x : Gw W0, x.w.cell? ⟨w.heap.size, 3, none⟩ = some (.int .i64 v.c) := fun x => x.h.cell (by rw [hW0]; simp) (by simp)
  have i4 : ∀ x : Gw W0, x.w.cell? ⟨w.heap.size, 4, none⟩ = some (.int .i64 v.k) := fun x => x.h.cell (by rw [hW0]; simp) (by simp)
  have i5 : ∀ x : Gw W0, x.w.cell? ⟨w.heap.size, 5, none⟩ = some (.int .i64 v.sub) := fun x => x.h.cell (by rw [hW0]; simp) (by simp)
  have i6 : ∀ x : Gw W0, x.w.cell? ⟨w.heap.size, 6, none⟩ = some (.int .i64 v.scale) := fun x => x.h.cell (by rw [hW0]; simp) (by simp)
  have i7 : ∀ x : Gw W0, x.w.cell? ⟨w.heap.size, 7, none⟩ = some (.int .i64 v.imm) := fun x => x.h.cell (by rw [hW0]; simp) (by simp)
  have i8 : ∀ x : Gw W0, x.w.cell? ⟨w.heap.size, 8, none⟩ = some (.int .i64 v.label) := fun x => x.h.cell (by rw [hW0]; simp) (by simp)
  have j0 : ∀ x : Gw W0, x.w.cell? ⟨w.heap.size + 1, 0, none⟩ = some (.int .i64 f.code) := fun x => x.h.cell (by rw [hW0]; simp) (by simp)
  have j1 : ∀ x : Gw W0, x.w.cell? ⟨w.heap.size + 1, 1, none⟩ = some (.int .i64 f.a) := fun x => x.h.cell (by rw [hW0]; simp) (by simp)
  have j2 : ∀ x : Gw W0, x.w.cell? ⟨w.heap.size + 1, 2, none⟩ = some (.int .i64 f.b) := fun x => x.h.cell (by rw [hW0]; simp) (by simp)
  have j3 : ∀ x : Gw W0, x.w.cell? ⟨w.heap.size + 1, 3, none⟩ = some (.int .i64 f.c) := fun x => x.h.cell (by rw [hW0]; simp) (by simp)
  have j4 : ∀ x : Gw W0, x.w.cell? ⟨w.heap.size + 1, 4, none⟩ = some (.int .i64 f.n) := fun x => x.h.cell (by rw [hW0]; simp) (by simp)
  have HG : Hid (w.grownBy W0 none) := by rw [hW0]; exact grown_alloc2 _ _ _
  rw [← hW0]
  clear hW0
  have ne : Nonempty (Gw W0) := ⟨⟨W0, World.grownBy.refl _ _⟩⟩
  have hite : ∀ (p q : Prop) [Decidable p] [Decidable q] (x y : Result Next), (if p then if q then x else y else y) = if p ∧ q then x else y := fun p q _ _ x y => by by_cases hp : p <;> by_cases hq : q <;> simp [hp, hq]
  refine region_grown (by kernel_rfl) (by kernel_rfl) ?_
  by_cases c1 : Rc.E1 v f
  · have d1 := _root_.eq_true c1
    unfold Rc.E1 at d1
    by_cases c2 : Rc.E2 v f
    · have d2 := _root_.eq_true c2
      unfold Rc.E2 at d2
      cases c3 : Rc.smallB f.n
      · have HF : Hid (ag = false) := by
          show _ = _
          cases e : ag
          · rfl
          · exact absurd (HA.out.1 e).2.2.1 (by rw [c3]; decide)
        repeat (go_big_quiet_step ((first
          | (go_at_call 183; exact Gw.call (v := .agg #[.int .i64 (Rc.pk v).code, .int .i64 (Rc.pk v).a, .int .i64 (Rc.pk v).b, .int .i64 (Rc.pk v).c, .int .i64 (Rc.pk v).n]) (pack_any v _))
          | (go_at_call 173; exact Gw.call (v := .agg #[.int .i64 (Rc.unpk f).op, .int .i64 (Rc.unpk f).a, .int .i64 (Rc.unpk f).b, .int .i64 (Rc.unpk f).c, .int .i64 (Rc.unpk f).k, .int .i64 (Rc.unpk f).sub, .int .i64 (Rc.unpk f).scale, .int .i64 (Rc.unpk f).imm, .int .i64 (Rc.unpk f).label]) (unpack_any f _ h1 h2))
          | (go_at_call 184; exact Gw.call (v := .bool (Rc.smallB f.n)) (ffits_any _ _ _ _ _ _))
          | (go_at_call 185; exact Gw.call (v := .bool (Rc.fitB v)) (fits_any v _)))))
        refine wpQuiet_nil ?_
        rintro _ ⟨x, rfl⟩
        go_wp2
        go_ret
        exact ⟨ret_bool HF.out.symm, grown_trans HG.out x.h⟩
      · cases c4 : Rc.fitB v
        · have HF : Hid (ag = false) := by
            show _ = _
            cases e : ag
            · rfl
            · exact absurd (HA.out.1 e).2.2.2 (by rw [c4]; decide)
          repeat (go_big_quiet_step ((first
            | (go_at_call 183; exact Gw.call (v := .agg #[.int .i64 (Rc.pk v).code, .int .i64 (Rc.pk v).a, .int .i64 (Rc.pk v).b, .int .i64 (Rc.pk v).c, .int .i64 (Rc.pk v).n]) (pack_any v _))
            | (go_at_call 173; exact Gw.call (v := .agg #[.int .i64 (Rc.unpk f).op, .int .i64 (Rc.unpk f).a, .int .i64 (Rc.unpk f).b, .int .i64 (Rc.unpk f).c, .int .i64 (Rc.unpk f).k, .int .i64 (Rc.unpk f).sub, .int .i64 (Rc.unpk f).scale, .int .i64 (Rc.unpk f).imm, .int .i64 (Rc.unpk f).label]) (unpack_any f _ h1 h2))
            | (go_at_call 184; exact Gw.call (v := .bool (Rc.smallB f.n)) (ffits_any _ _ _ _ _ _))
            | (go_at_call 185; exact Gw.call (v := .bool (Rc.fitB v)) (fits_any v _)))))
          refine wpQuiet_nil ?_
          rintro _ ⟨x, rfl⟩
          go_wp2
          go_ret
          exact ⟨ret_bool HF.out.symm, grown_trans HG.out x.h⟩
        · have HF : Hid (ag = true) := HA.out.2 ⟨c1, c2, c3, c4⟩
          repeat (go_big_quiet_step ((first
            | (go_at_call 183; exact Gw.call (v := .agg #[.int .i64 (Rc.pk v).code, .int .i64 (Rc.pk v).a, .int .i64 (Rc.pk v).b, .int .i64 (Rc.pk v).c, .int .i64 (Rc.pk v).n]) (pack_any v _))
            | (go_at_call 173; exact Gw.call (v := .agg #[.int .i64 (Rc.unpk f).op, .int .i64 (Rc.unpk f).a, .int .i64 (Rc.unpk f).b, .int .i64 (Rc.unpk f).c, .int .i64 (Rc.unpk f).k, .int .i64 (Rc.unpk f).sub, .int .i64 (Rc.unpk f).scale, .int .i64 (Rc.unpk f).imm, .int .i64 (Rc.unpk f).label]) (unpack_any f _ h1 h2))
            | (go_at_call 184; exact Gw.call (v := .bool (Rc.smallB f.n)) (ffits_any _ _ _ _ _ _))
            | (go_at_call 185; exact Gw.call (v := .bool (Rc.fitB v)) (fits_any v _)))))
          refine wpQuiet_nil ?_
          rintro _ ⟨x, rfl⟩
          go_wp2
          go_ret
          exact ⟨ret_bool HF.out.symm, grown_trans HG.out x.h⟩
    · have d2 := _root_.eq_false c2
      unfold Rc.E2 at d2
      have HF : Hid (ag = false) := by
        show _ = _
        cases e : ag
        · rfl
        · exact absurd (HA.out.1 e).2.1 c2
      repeat (go_big_quiet_step ((first
        | (go_at_call 183; exact Gw.call (v := .agg #[.int .i64 (Rc.pk v).code, .int .i64 (Rc.pk v).a, .int .i64 (Rc.pk v).b, .int .i64 (Rc.pk v).c, .int .i64 (Rc.pk v).n]) (pack_any v _))
        | (go_at_call 173; exact Gw.call (v := .agg #[.int .i64 (Rc.unpk f).op, .int .i64 (Rc.unpk f).a, .int .i64 (Rc.unpk f).b, .int .i64 (Rc.unpk f).c, .int .i64 (Rc.unpk f).k, .int .i64 (Rc.unpk f).sub, .int .i64 (Rc.unpk f).scale, .int .i64 (Rc.unpk f).imm, .int .i64 (Rc.unpk f).label]) (unpack_any f _ h1 h2))
        | (go_at_call 184; exact Gw.call (v := .bool (Rc.smallB f.n)) (ffits_any _ _ _ _ _ _))
        | (go_at_call 185; exact Gw.call (v := .bool (Rc.fitB v)) (fits_any v _)))))
      refine wpQuiet_nil ?_
      rintro _ ⟨x, rfl⟩
      go_wp2
      go_ret
      exact ⟨ret_bool HF.out.symm, grown_trans HG.out x.h⟩
  · have d1 := _root_.eq_false c1
    unfold Rc.E1 at d1
    have HF : Hid (ag = false) := by
      show _ = _
      cases e : ag
      · rfl
      · exact absurd (HA.out.1 e).1 c1
    repeat (go_big_quiet_step ((first
      | (go_at_call 183; exact Gw.call (v := .agg #[.int .i64 (Rc.pk v).code, .int .i64 (Rc.pk v).a, .int .i64 (Rc.pk v).b, .int .i64 (Rc.pk v).c, .int .i64 (Rc.pk v).n]) (pack_any v _))
      | (go_at_call 173; exact Gw.call (v := .agg #[.int .i64 (Rc.unpk f).op, .int .i64 (Rc.unpk f).a, .int .i64 (Rc.unpk f).b, .int .i64 (Rc.unpk f).c, .int .i64 (Rc.unpk f).k, .int .i64 (Rc.unpk f).sub, .int .i64 (Rc.unpk f).scale, .int .i64 (Rc.unpk f).imm, .int .i64 (Rc.unpk f).label]) (unpack_any f _ h1 h2))
      | (go_at_call 184; exact Gw.call (v := .bool (Rc.smallB f.n)) (ffits_any _ _ _ _ _ _))
      | (go_at_call 185; exact Gw.call (v := .bool (Rc.fitB v)) (fits_any v _)))))
    refine wpQuiet_nil ?_
    rintro _ ⟨x, rfl⟩
    go_wp2
    go_ret
    exact ⟨ret_bool HF.out.symm, grown_trans HG.out x.h⟩

end Go.Proofs.YtdklaeppcjopoaaGreat

/- What risc's forms say of instructions: plain. -/
namespace Go.Proofs.YtdklaeppcjopoaaGreat
open Go.RowKit
set_option linter.unusedVariables false

namespace Rc
theorem may_of {v : InV} (h0 : (fld v.op).data.isEmpty = false) (r : Rng v) : mayB v = true := by
  unfold mayB regB smallB
  simp only [Bool.and_eq_true, Bool.or_eq_true, beq_iff_eq, decide_eq_true_eq]
  exact ⟨⟨⟨⟨⟨⟨⟨⟨⟨⟨⟨⟨⟨by rw [h0]; rfl, r.sc⟩, r.lb⟩, r.a1, r.a2⟩, r.b1, r.b2⟩, r.c1, r.c2⟩, r.i1, r.i2⟩, r.u0⟩, r.u1⟩, r.u2⟩, r.u3⟩, r.u4⟩, r.u5⟩, r.kd⟩

/-- an instruction's form -/
theorem pk_may {v : InV} (h : mayB v = true) : pk v = ⟨v.op, v.a, v.b, cc v, nn v⟩ := by
  have r := rng h
  have hc := codes v h
  obtain ⟨op, a, b, c, k, sub, sc, imm, lb⟩ := v
  obtain ⟨h1, h2, a1, a2, b1, b2, c1, c2, i1, i2, u0, u1, u2, u3, u4, u5, kd⟩ := r
  dsimp only at *
  rcases hc with rfl | rfl | rfl | rfl | rfl | rfl | rfl | rfl | rfl | rfl | rfl | rfl | rfl | rfl | rfl | rfl | rfl | rfl | rfl | rfl
  all_goals try (replace u0 := u0.resolve_left (by decide); subst u0)
  all_goals try (replace u1 := u1.resolve_left (by decide); subst u1)
  all_goals try (replace u2 := u2.resolve_left (by decide); subst u2)
  all_goals try (replace u5 := u5.resolve_left (by decide); subst u5)
  all_goals try (replace kd := bin_rng (show Wd.hasBinB sub k = true from kd))
  all_goals try (replace kd := un_rng (show Wd.hasUnB sub k = true from kd))
  all_goals try (replace kd := conv_rng (show (Wd.numB sub && Wd.numB k) = true from kd))
  all_goals
    unfold pk cc nn
    simp only [Int.reduceEq, or_self, or_false, or_true, if_true, if_false, FmV.mk.injEq, true_and]
    try (unfold wrap64; omega)

theorem unpk_pk {v : InV} (h : mayB v = true) : unpk (pk v) = v := by
  rw [pk_may h]
  have r := rng h
  have hc := codes v h
  obtain ⟨op, a, b, c, k, sub, sc, imm, lb⟩ := v
  obtain ⟨h1, h2, a1, a2, b1, b2, c1, c2, i1, i2, u0, u1, u2, u3, u4, u5, kd⟩ := r
  dsimp only at *
  subst h1 h2
  rcases hc with rfl | rfl | rfl | rfl | rfl | rfl | rfl | rfl | rfl | rfl | rfl | rfl | rfl | rfl | rfl | rfl | rfl | rfl | rfl | rfl
  all_goals try (replace u0 := u0.resolve_left (by decide))
  all_goals try (replace u1 := u1.resolve_left (by decide))
  all_goals try (replace u2 := u2.resolve_left (by decide))
  all_goals try (replace u3 := u3.resolve_left (by decide))
  all_goals try (replace u4 := u4.resolve_left (by decide))
  all_goals try (replace u5 := u5.resolve_left (by decide))
  all_goals try (replace kd := bin_rng (show Wd.hasBinB sub k = true from kd))
  all_goals try (replace kd := un_rng (show Wd.hasUnB sub k = true from kd))
  all_goals try (replace kd := conv_rng (show (Wd.numB sub && Wd.numB k) = true from kd))
  all_goals
    unfold unpk cc nn
    simp only [Int.reduceEq, or_self, or_false, or_true, if_true, if_false, InV.mk.injEq, true_and, and_true]
    try omega

theorem E2_of {v : InV} {f : FmV} (h : unpk f = v) : E2 v f := by
  subst h; exact ⟨rfl, rfl, rfl, rfl, rfl, rfl, rfl, rfl, rfl⟩
theorem E1_of {v : InV} {f : FmV} (h : pk v = f) : E1 v f := by
  subst h; exact ⟨rfl, rfl, rfl, rfl, rfl⟩
theorem of_E1 {v : InV} {f : FmV} (h : E1 v f) : pk v = f := by
  unfold E1 at h
  generalize pk v = p at h
  obtain ⟨_, _, _, _, _⟩ := p
  obtain ⟨_, _, _, _, _⟩ := f
  obtain ⟨rfl, rfl, rfl, rfl, rfl⟩ := h
  rfl
theorem of_E2 {v : InV} {f : FmV} (h : E2 v f) : unpk f = v := by
  unfold E2 at h
  generalize unpk f = p at h
  obtain ⟨_, _, _, _, _, _, _, _, _⟩ := p
  obtain ⟨_, _, _, _, _, _, _, _, _⟩ := v
  obtain ⟨rfl, rfl, rfl, rfl, rfl, rfl, rfl, rfl, rfl⟩ := h
  rfl

theorem ag_of {v : InV} (h : mayB v = true) : Ag v (pk v) := by
  refine ⟨E1_of rfl, E2_of (unpk_pk h), ?_, ?_⟩
  · rw [pk_may h]
    have r := rng h
    have hc := codes v h
    have hk := r.kd
    unfold smallB nn
    dsimp only
    rw [Bool.and_eq_true, decide_eq_true_eq, decide_eq_true_eq]
    have := r.i1
    have := r.i2
    split
    · rename_i ho
      rcases ho with ho | ho | ho
      · unfold kindB at hk; rw [if_pos ho] at hk; have := bin_rng hk; omega
      · unfold kindB at hk; rw [if_neg (by omega), if_pos ho] at hk; have := un_rng hk; omega
      · unfold kindB at hk; rw [if_neg (by omega), if_neg (by omega), if_pos ho] at hk; have := conv_rng hk; omega
    · omega
  · have r := rng h
    have hc := codes v h
    unfold fitB regB
    simp only [Bool.and_eq_true, Bool.not_eq_true', beq_eq_false_iff_ne, ne_eq, decide_eq_true_eq]
    exact ⟨⟨⟨⟨by omega, r.a1, r.a2⟩, r.b1, r.b2⟩, r.c1, r.c2⟩, r.kd⟩

theorem of_ag {v : InV} (h : Ag v (pk v)) : mayB v = true := by
  obtain ⟨-, h2, h3, h4⟩ := h
  have e := of_E2 h2
  obtain ⟨op, a, b, c, k, sub, sc, imm, lb⟩ := v
  unfold fitB regB at h4
  simp only [Bool.and_eq_true, Bool.not_eq_true', beq_eq_false_iff_ne, ne_eq, decide_eq_true_eq] at h4
  obtain ⟨⟨⟨⟨p0, p1, p2⟩, p3, p4⟩, p5, p6⟩, kd⟩ := h4
  unfold smallB at h3
  rw [Bool.and_eq_true, decide_eq_true_eq, decide_eq_true_eq] at h3
  clear h2
  rcases ops op with rfl | rfl | rfl | rfl | rfl | rfl | rfl | rfl | rfl | rfl | rfl | rfl | rfl | rfl | rfl | rfl | rfl | rfl | rfl | rfl | hn
  case inr.inr.inr.inr.inr.inr.inr.inr.inr.inr.inr.inr.inr.inr.inr.inr.inr.inr.inr.inr =>
    exfalso
    simp only [beq_eq_false_iff_ne, ne_eq] at hn
    have : pk ⟨op, a, b, c, k, sub, sc, imm, lb⟩ = ⟨0, 0, 0, 0, 0⟩ := by
      unfold pk
      simp only [hn, or_self, if_false]
    rw [this] at e
    injection e with e0
    exact p0 e0.symm
  all_goals
    unfold pk at e h3
    simp only [Int.reduceEq, or_self, or_false, or_true, if_true, if_false] at e h3
    unfold unpk at e
    simp only [Int.reduceEq, or_self, or_false, or_true, if_true, if_false, InV.mk.injEq, true_and] at e
    refine may_of (by dsimp only; decide) ⟨?_, ?_, p1, p2, p3, p4, p5, p6, ?_, ?_, ?_, ?_, ?_, ?_, ?_, ?_, kd⟩
    all_goals first | exact .inl (by dsimp only; decide) | (dsimp only; omega) | (right; dsimp only; omega)

theorem fb_enc {v : InV} (h : mayB v = true) (i : Nat) (hi : i < 8) : fb (pk v) i = enc v i := by
  rw [pk_may h]
  unfold fb enc
  dsimp only
  repeat' split
  all_goals first | rfl | (rw [show (4294967296 : Int) = 256 ^ 4 from rfl, Mm.by8_mod _ _ 4 (by omega)])

/-- bytes that are a form's are the form's bytes -/
theorem fb_fo {g : Nat → Int} (hg : Mm.Fit g) (i : Nat) (hi : i < 8) : fb (fo g) i = g i := by
  have r := Mm.ld_rng hg 4 4
  have hgi := hg i
  unfold fb fo
  dsimp only
  by_cases h0 : i = 0
  · rw [if_pos h0]; subst h0; omega
  by_cases h1 : i = 1
  · rw [if_neg h0, if_pos h1]; subst h1; omega
  by_cases h2 : i = 2
  · rw [if_neg h0, if_neg h1, if_pos h2]; subst h2; omega
  by_cases h3 : i = 3
  · rw [if_neg h0, if_neg h1, if_neg h2, if_pos h3]; subst h3; omega
  rw [if_neg h0, if_neg h1, if_neg h2, if_neg h3, ← Mm.by8_mod _ _ 4 (by omega)]
  have e : s32 (Mm.ld g 4 4) % 256 ^ 4 = Mm.ld g 4 4 := by
    have : (256 : Int) ^ 4 = 4294967296 := rfl
    unfold s32; omega
  rw [e]
  have h4 := hg 4
  have h5 := hg 5
  have h6 := hg 6
  have h7 := hg 7
  have el : Mm.ld g 4 4 = g 4 + g 5 * 256 + g 6 * 65536 + g 7 * 16777216 := by
    show 0 + g 4 * 1 + g 5 * 256 + g 6 * 65536 + g 7 * 16777216 = _
    omega
  rw [el]
  have : i = 4 ∨ i = 5 ∨ i = 6 ∨ i = 7 := by omega
  rcases this with rfl | rfl | rfl | rfl
  · show (g 4 + g 5 * 256 + g 6 * 65536 + g 7 * 16777216) / 1 % 256 = g 4; omega
  · show (g 4 + g 5 * 256 + g 6 * 65536 + g 7 * 16777216) / 256 % 256 = g 5; omega
  · show (g 4 + g 5 * 256 + g 6 * 65536 + g 7 * 16777216) / 65536 % 256 = g 6; omega
  · show (g 4 + g 5 * 256 + g 6 * 65536 + g 7 * 16777216) / 16777216 % 256 = g 7; omega

theorem pk_rd {g : Nat → Int} (h : okB g = true) : pk (rd g) = fo g := by
  have hm : mayB (rd g) = true := by unfold okB at h; rw [Bool.and_eq_true] at h; exact h.2
  rw [pk_may hm]
  unfold fo
  by_cases hA : g 0 = 4 ∨ g 0 = 7 ∨ g 0 = 8
  · rw [rd_1 hA]
    unfold cc nn
    dsimp only
    rw [if_neg (by omega), if_pos hA]
    congr 1
    omega
  · by_cases hB : g 0 = 11 ∨ g 0 = 13
    · rw [rd_2 hB]
      unfold cc nn
      dsimp only
      rw [if_pos hB, if_neg hA]
    · rw [rd_3 hA hB]
      unfold cc nn
      dsimp only
      rw [if_neg hB, if_neg hA]

/-- Decode takes just what is an instruction's bytes -/
theorem ag_ok {g : Nat → Int} (hg : Mm.Fit g) : okB g = true ↔ Ag (unpk (fo g)) (fo g) := by
  constructor
  · intro h
    have hm : mayB (rd g) = true := by unfold okB at h; rw [Bool.and_eq_true] at h; exact h.2
    have e := pk_rd h
    have a := ag_of hm
    rw [← e, unpk_pk hm]
    exact a
  · intro h
    have e : pk (unpk (fo g)) = fo g := of_E1 h.1
    have hm : mayB (unpk (fo g)) = true := of_ag (by rw [e]; exact h)
    have hb : ∀ i, i < 8 → g i = enc (unpk (fo g)) i := fun i hi => by rw [← fb_enc hm i hi, e, fb_fo hg i hi]
    rw [(rd_congr hb).2]
    exact ok_enc _ hm
theorem unpk_ok {g : Nat → Int} (h : okB g = true) : unpk (fo g) = rd g := by
  have hm : mayB (rd g) = true := by unfold okB at h; rw [Bool.and_eq_true] at h; exact h.2
  rw [← pk_rd h, unpk_pk hm]
end Rc
end Go.Proofs.YtdklaeppcjopoaaGreat

/- risc.Encode: its contract. -/
namespace Go.Proofs.YtdklaeppcjopoaaGreat
open Go.RowKit
set_option linter.unusedVariables false

theorem OwnB.congr {w : World} {base n : Nat} {v : Value} {g g' : Nat → Int} (h : OwnB w base v n g) (e : ∀ i, i < n → g i = g' i) : OwnB w base v n g' := by
  have : bytesL n g = bytesL n g' := by
    unfold bytesL
    exact List.map_congr_left fun i hi => by rw [e i (List.mem_range.1 hi)]
  unfold OwnB at *
  rw [← this]; exact h

end Go.Proofs.YtdklaeppcjopoaaGreat

/- risc.Decode: its contract. -/
namespace Go.Proofs.YtdklaeppcjopoaaGreat
open Go.RowKit
set_option linter.unusedVariables false

theorem formOf_x (b off n cap : Nat) (g : Nat → Int) (w : World) (hn : 8 ≤ n) (hnc : n ≤ cap) (hg : Mm.Fit g) (hc : ∀ i, i < n → w.cell? ⟨b, off + i, none⟩ = some (.int .u8 (g i))) :
    Calls Tryz.prog 172 #[.slice (some ⟨b, off, none⟩) n cap] w fun e w' => e = .returned (.agg #[.int .i64 (Rc.fo g).code, .int .i64 (Rc.fo g).a, .int .i64 (Rc.fo g).b, .int .i64 (Rc.fo g).c, .int .i64 (Rc.fo g).n]) ∧ w.grownBy w' none := formOf_any b off n cap g w hn hnc hg hc
theorem unpack_x (g : Nat → Int) (w : World) :
    Calls Tryz.prog 173 #[formv (Rc.fo g)] w fun e w' => e = .returned (.agg #[.int .i64 (Rc.unpk (Rc.fo g)).op, .int .i64 (Rc.unpk (Rc.fo g)).a, .int .i64 (Rc.unpk (Rc.fo g)).b, .int .i64 (Rc.unpk (Rc.fo g)).c, .int .i64 (Rc.unpk (Rc.fo g)).k, .int .i64 (Rc.unpk (Rc.fo g)).sub, .int .i64 (Rc.unpk (Rc.fo g)).scale, .int .i64 (Rc.unpk (Rc.fo g)).imm, .int .i64 (Rc.unpk (Rc.fo g)).label]) ∧ w.grownBy w' none := by
  have r := Rc.s32_rng (Mm.ld g 4 4)
  exact unpack_any (Rc.fo g) w (by show _ ≤ Rc.s32 _; omega) (by show Rc.s32 _ ≤ _; omega)
theorem agree_x (g : Nat → Int) (hg : Mm.Fit g) (w : World) :
    Calls Tryz.prog 174 #[inst (Rc.unpk (Rc.fo g)), formv (Rc.fo g)] w fun e w' => e = .returned (.bool (Rc.okB g)) ∧ w.grownBy w' none := by
  have r := Rc.s32_rng (Mm.ld g 4 4)
  exact agree_any _ _ w (by show _ ≤ Rc.s32 _; omega) (by show Rc.s32 _ ≤ _; omega) (Rc.okB g) (Rc.ag_ok hg)

set_option maxHeartbeats 8000000 in
theorem decode_short (ao : Option Addr) (n cap : Nat) (w : World) (hn : (n : Int) < 8) :
    Calls Tryz.prog 166 #[.slice ao n cap] w fun e w' => e = .returned (.tuple #[inst zeroI, .int .i64 0, .int .i64 31]) ∧ w.grownBy w' none := by
  go_enter Tryz.func166, Tryz.ntmps166
  go_wp2
  go_returns
  exact ⟨rfl, World.grownBy_alloc _ _ _⟩

set_option maxHeartbeats 8000000 in
theorem decode_no (b off n cap : Nat) (g : Nat → Int) (w : World) (hn : 8 ≤ n) (hnc : n ≤ cap) (hg : Mm.Fit g) (hc : ∀ i, i < n → w.cell? ⟨b, off + i, none⟩ = some (.int .u8 (g i))) (ho : Rc.okB g = false) :
    Calls Tryz.prog 166 #[.slice (some ⟨b, off, none⟩) n cap] w fun e w' => e = .returned (.tuple #[inst zeroI, .int .i64 0, .int .i64 30]) ∧ w.grownBy w' none := by
  have HC : Hid (∀ i, i < n → (w.alloc (Obj.cells #[.int .i64 0, .int .i64 0, .int .i64 0, .int .i64 0, .int .i64 0, .int .i64 0, .int .i64 0, .int .i64 0, .int .i64 0] 87)).cell? ⟨b, off + i, none⟩ = some (.int .u8 (g i))) := fun i hi => (World.grownBy_alloc w (Obj.cells #[.int .i64 0, .int .i64 0, .int .i64 0, .int .i64 0, .int .i64 0, .int .i64 0, .int .i64 0, .int .i64 0, .int .i64 0] 87) none).cell (hc i hi) (by simp)
  have c0 : (w.alloc (Obj.cells #[.int .i64 0, .int .i64 0, .int .i64 0, .int .i64 0, .int .i64 0, .int .i64 0, .int .i64 0, .int .i64 0, .int .i64 0] 87)).cell? ⟨w.heap.size, 0, none⟩ = some (.int .i64 0) := by simp
  have c1 : (w.alloc (Obj.cells #[.int .i64 0, .int .i64 0, .int .i64 0, .int .i64 0, .int .i64 0, .int .i64 0, .int .i64 0, .int .i64 0, .int .i64 0] 87)).cell? ⟨w.heap.size, 1, none⟩ = some (.int .i64 0) := by simp
  have c2 : (w.alloc (Obj.cells #[.int .i64 0, .int .i64 0, .int .i64 0, .int .i64 0, .int .i64 0, .int .i64 0, .int .i64 0, .int .i64 0, .int .i64 0] 87)).cell? ⟨w.heap.size, 2, none⟩ = some (.int .i64 0) := by simp
  have c3 : (w.alloc (Obj.cells #[.int .i64 0, .int .i64 0, .int .i64 0, .int .i64 0, .int .i64 0, .int .i64 0, .int .i64 0, .int .i64 0, .int .i64 0] 87)).cell? ⟨w.heap.size, 3, none⟩ = some (.int .i64 0) := by simp
  have c4 : (w.alloc (Obj.cells #[.int .i64 0, .int .i64 0, .int .i64 0, .int .i64 0, .int .i64 0, .int .i64 0, .int .i64 0, .int .i64 0, .int .i64 0] 87)).cell? ⟨w.heap.size, 4, none⟩ = some (.int .i64 0) := by simp
  have c5 : (w.alloc (Obj.cells #[.int .i64 0, .int .i64 0, .int .i64 0, .int .i64 0, .int .i64 0, .int .i64 0, .int .i64 0, .int .i64 0, .int .i64 0] 87)).cell? ⟨w.heap.size, 5, none⟩ = some (.int .i64 0) := by simp
  have c6 : (w.alloc (Obj.cells #[.int .i64 0, .int .i64 0, .int .i64 0, .int .i64 0, .int .i64 0, .int .i64 0, .int .i64 0, .int .i64 0, .int .i64 0] 87)).cell? ⟨w.heap.size, 6, none⟩ = some (.int .i64 0) := by simp
  have c7 : (w.alloc (Obj.cells #[.int .i64 0, .int .i64 0, .int .i64 0, .int .i64 0, .int .i64 0, .int .i64 0, .int .i64 0, .int .i64 0, .int .i64 0] 87)).cell? ⟨w.heap.size, 7, none⟩ = some (.int .i64 0) := by simp
  have c8 : (w.alloc (Obj.cells #[.int .i64 0, .int .i64 0, .int .i64 0, .int .i64 0, .int .i64 0, .int .i64 0, .int .i64 0, .int .i64 0, .int .i64 0] 87)).cell? ⟨w.heap.size, 8, none⟩ = some (.int .i64 0) := by simp
  have q0 : (w.alloc (Obj.cells #[.int .i64 0, .int .i64 0, .int .i64 0, .int .i64 0, .int .i64 0, .int .i64 0, .int .i64 0, .int .i64 0, .int .i64 0] 87)).frozen? ⟨w.heap.size, 0, none⟩ = false := by simp
  have q1 : (w.alloc (Obj.cells #[.int .i64 0, .int .i64 0, .int .i64 0, .int .i64 0, .int .i64 0, .int .i64 0, .int .i64 0, .int .i64 0, .int .i64 0] 87)).frozen? ⟨w.heap.size, 1, none⟩ = false := by simp
  have q2 : (w.alloc (Obj.cells #[.int .i64 0, .int .i64 0, .int .i64 0, .int .i64 0, .int .i64 0, .int .i64 0, .int .i64 0, .int .i64 0, .int .i64 0] 87)).frozen? ⟨w.heap.size, 2, none⟩ = false := by simp
  have q3 : (w.alloc (Obj.cells #[.int .i64 0, .int .i64 0, .int .i64 0, .int .i64 0, .int .i64 0, .int .i64 0, .int .i64 0, .int .i64 0, .int .i64 0] 87)).frozen? ⟨w.heap.size, 3, none⟩ = false := by simp
  have q4 : (w.alloc (Obj.cells #[.int .i64 0, .int .i64 0, .int .i64 0, .int .i64 0, .int .i64 0, .int .i64 0, .int .i64 0, .int .i64 0, .int .i64 0] 87)).frozen? ⟨w.heap.size, 4, none⟩ = false := by simp
  have q5 : (w.alloc (Obj.cells #[.int .i64 0, .int .i64 0, .int .i64 0, .int .i64 0, .int .i64 0, .int .i64 0, .int .i64 0, .int .i64 0, .int .i64 0] 87)).frozen? ⟨w.heap.size, 5, none⟩ = false := by simp
  have q6 : (w.alloc (Obj.cells #[.int .i64 0, .int .i64 0, .int .i64 0, .int .i64 0, .int .i64 0, .int .i64 0, .int .i64 0, .int .i64 0, .int .i64 0] 87)).frozen? ⟨w.heap.size, 6, none⟩ = false := by simp
  have q7 : (w.alloc (Obj.cells #[.int .i64 0, .int .i64 0, .int .i64 0, .int .i64 0, .int .i64 0, .int .i64 0, .int .i64 0, .int .i64 0, .int .i64 0] 87)).frozen? ⟨w.heap.size, 7, none⟩ = false := by simp
  have q8 : (w.alloc (Obj.cells #[.int .i64 0, .int .i64 0, .int .i64 0, .int .i64 0, .int .i64 0, .int .i64 0, .int .i64 0, .int .i64 0, .int .i64 0] 87)).frozen? ⟨w.heap.size, 8, none⟩ = false := by simp
  have hz : w.heap.size < (w.alloc (Obj.cells #[.int .i64 0, .int .i64 0, .int .i64 0, .int .i64 0, .int .i64 0, .int .i64 0, .int .i64 0, .int .i64 0, .int .i64 0] 87)).heap.size := by rw [size_alloc]; omega
  have l8 : ¬ ((n : Int) < 8) := by omega
  have hb0 := World.grownBy_alloc w (Obj.cells #[.int .i64 0, .int .i64 0, .int .i64 0, .int .i64 0, .int .i64 0, .int .i64 0, .int .i64 0, .int .i64 0, .int .i64 0] 87) none
  clear hc
  go_enter Tryz.func166, Tryz.ntmps166
  go_wp2_with fail
  generalize w.alloc (Obj.cells #[.int .i64 0, .int .i64 0, .int .i64 0, .int .i64 0, .int .i64 0, .int .i64 0, .int .i64 0, .int .i64 0, .int .i64 0] 87) = W0 at *
  refine (formOf_x b off n cap g _ hn hnc hg HC.out).mono ?_
  rintro e w1 ⟨rfl, hg1⟩
  clear HC
  have hA := World.grownBy_alloc w1 (Obj.cells #[.int .i64 (Rc.fo g).code, .int .i64 (Rc.fo g).a, .int .i64 (Rc.fo g).b, .int .i64 (Rc.fo g).c, .int .i64 (Rc.fo g).n] 228) none
  go_wp2_with (go_at_call 173; refine (unpack_x g _).mono ?_; rintro e w2 ⟨rfl, hg2⟩; have f0 := (World.grownBy_alloc w2 (Obj.cells #[.int .i64 (Rc.unpk (Rc.fo g)).op, .int .i64 (Rc.unpk (Rc.fo g)).a, .int .i64 (Rc.unpk (Rc.fo g)).b, .int .i64 (Rc.unpk (Rc.fo g)).c, .int .i64 (Rc.unpk (Rc.fo g)).k, .int .i64 (Rc.unpk (Rc.fo g)).sub, .int .i64 (Rc.unpk (Rc.fo g)).scale, .int .i64 (Rc.unpk (Rc.fo g)).imm, .int .i64 (Rc.unpk (Rc.fo g)).label] 87) none).cell (hg2.cell (a := ⟨w1.heap.size, 0, none⟩) (v := .int .i64 (Rc.fo g).code) (by simp) (by simp)) (by simp); have f1 := (World.grownBy_alloc w2 (Obj.cells #[.int .i64 (Rc.unpk (Rc.fo g)).op, .int .i64 (Rc.unpk (Rc.fo g)).a, .int .i64 (Rc.unpk (Rc.fo g)).b, .int .i64 (Rc.unpk (Rc.fo g)).c, .int .i64 (Rc.unpk (Rc.fo g)).k, .int .i64 (Rc.unpk (Rc.fo g)).sub, .int .i64 (Rc.unpk (Rc.fo g)).scale, .int .i64 (Rc.unpk (Rc.fo g)).imm, .int .i64 (Rc.unpk (Rc.fo g)).label] 87) none).cell (hg2.cell (a := ⟨w1.heap.size, 1, none⟩) (v := .int .i64 (Rc.fo g).a) (by simp) (by simp)) (by simp); have f2 := (World.grownBy_alloc w2 (Obj.cells #[.int .i64 (Rc.unpk (Rc.fo g)).op, .int .i64 (Rc.unpk (Rc.fo g)).a, .int .i64 (Rc.unpk (Rc.fo g)).b, .int .i64 (Rc.unpk (Rc.fo g)).c, .int .i64 (Rc.unpk (Rc.fo g)).k, .int .i64 (Rc.unpk (Rc.fo g)).sub, .int .i64 (Rc.unpk (Rc.fo g)).scale, .int .i64 (Rc.unpk (Rc.fo g)).imm, .int .i64 (Rc.unpk (Rc.fo g)).label] 87) none).cell (hg2.cell (a := ⟨w1.heap.size, 2, none⟩) (v := .int .i64 (Rc.fo g).b) (by simp) (by simp)) (by simp); have f3 := (World.grownBy_alloc w2 (Obj.cells #[.int .i64 (Rc.unpk (Rc.fo g)).op, .int .i64 (Rc.unpk (Rc.fo g)).a, .int .i64 (Rc.unpk (Rc.fo g)).b, .int .i64 (Rc.unpk (Rc.fo g)).c, .int .i64 (Rc.unpk (Rc.fo g)).k, .int .i64 (Rc.unpk (Rc.fo g)).sub, .int .i64 (Rc.unpk (Rc.fo g)).scale, .int .i64 (Rc.unpk (Rc.fo g)).imm, .int .i64 (Rc.unpk (Rc.fo g)).label] 87) none).cell (hg2.cell (a := ⟨w1.heap.size, 3, none⟩) (v := .int .i64 (Rc.fo g).c) (by simp) (by simp)) (by simp); have f4 := (World.grownBy_alloc w2 (Obj.cells #[.int .i64 (Rc.unpk (Rc.fo g)).op, .int .i64 (Rc.unpk (Rc.fo g)).a, .int .i64 (Rc.unpk (Rc.fo g)).b, .int .i64 (Rc.unpk (Rc.fo g)).c, .int .i64 (Rc.unpk (Rc.fo g)).k, .int .i64 (Rc.unpk (Rc.fo g)).sub, .int .i64 (Rc.unpk (Rc.fo g)).scale, .int .i64 (Rc.unpk (Rc.fo g)).imm, .int .i64 (Rc.unpk (Rc.fo g)).label] 87) none).cell (hg2.cell (a := ⟨w1.heap.size, 4, none⟩) (v := .int .i64 (Rc.fo g).n) (by simp) (by simp)) (by simp))
  refine (agree_x g hg _).mono ?_
  rw [ho]
  rintro e w3 ⟨rfl, hg3⟩
  have G : W0.grownBy w3 none := grown_trans (grown_trans (grown_trans (grown_trans hg1 hA) hg2) (World.grownBy_alloc _ _ _)) hg3
  have r0 := G.cell c0 (by simp)
  have s0 := (G.frozen_far ⟨w.heap.size, 0, none⟩ hz (by simp)).trans q0
  have r1 := G.cell c1 (by simp)
  have s1 := (G.frozen_far ⟨w.heap.size, 1, none⟩ hz (by simp)).trans q1
  have r2 := G.cell c2 (by simp)
  have s2 := (G.frozen_far ⟨w.heap.size, 2, none⟩ hz (by simp)).trans q2
  have r3 := G.cell c3 (by simp)
  have s3 := (G.frozen_far ⟨w.heap.size, 3, none⟩ hz (by simp)).trans q3
  have r4 := G.cell c4 (by simp)
  have s4 := (G.frozen_far ⟨w.heap.size, 4, none⟩ hz (by simp)).trans q4
  have r5 := G.cell c5 (by simp)
  have s5 := (G.frozen_far ⟨w.heap.size, 5, none⟩ hz (by simp)).trans q5
  have r6 := G.cell c6 (by simp)
  have s6 := (G.frozen_far ⟨w.heap.size, 6, none⟩ hz (by simp)).trans q6
  have r7 := G.cell c7 (by simp)
  have s7 := (G.frozen_far ⟨w.heap.size, 7, none⟩ hz (by simp)).trans q7
  have r8 := G.cell c8 (by simp)
  have s8 := (G.frozen_far ⟨w.heap.size, 8, none⟩ hz (by simp)).trans q8
  have HG : Hid (w.grownBy w3 none) := grown_trans hb0 G
  clear G hg1 hg2 hg3 hA hb0 hz f0 f1 f2 f3 f4 c0 q0 c1 q1 c2 q2 c3 q3 c4 q4 c5 q5 c6 q6 c7 q7 c8 q8
  go_wp2_with fail
  refine bodyPost_ret (by simp [results, Tryz.results166, go_sem, r0, r1, r2, r3, r4, r5, r6, r7, r8]; try rfl) rfl ?_
  refine ⟨rfl, ?_⟩
  repeat (refine gs ?_ _ _ (Nat.le_refl _))
  exact HG.out

set_option maxHeartbeats 8000000 in
theorem decode_ok (b off n cap : Nat) (g : Nat → Int) (w : World) (hn : 8 ≤ n) (hnc : n ≤ cap) (hg : Mm.Fit g) (hc : ∀ i, i < n → w.cell? ⟨b, off + i, none⟩ = some (.int .u8 (g i))) (ho : Rc.okB g = true) :
    Calls Tryz.prog 166 #[.slice (some ⟨b, off, none⟩) n cap] w fun e w' => e = .returned (.tuple #[inst (Rc.rd g), .int .i64 8, .int .i64 0]) ∧ w.grownBy w' none := by
  have HC : Hid (∀ i, i < n → (w.alloc (Obj.cells #[.int .i64 0, .int .i64 0, .int .i64 0, .int .i64 0, .int .i64 0, .int .i64 0, .int .i64 0, .int .i64 0, .int .i64 0] 87)).cell? ⟨b, off + i, none⟩ = some (.int .u8 (g i))) := fun i hi => (World.grownBy_alloc w (Obj.cells #[.int .i64 0, .int .i64 0, .int .i64 0, .int .i64 0, .int .i64 0, .int .i64 0, .int .i64 0, .int .i64 0, .int .i64 0] 87) none).cell (hc i hi) (by simp)
  have c0 : (w.alloc (Obj.cells #[.int .i64 0, .int .i64 0, .int .i64 0, .int .i64 0, .int .i64 0, .int .i64 0, .int .i64 0, .int .i64 0, .int .i64 0] 87)).cell? ⟨w.heap.size, 0, none⟩ = some (.int .i64 0) := by simp
  have c1 : (w.alloc (Obj.cells #[.int .i64 0, .int .i64 0, .int .i64 0, .int .i64 0, .int .i64 0, .int .i64 0, .int .i64 0, .int .i64 0, .int .i64 0] 87)).cell? ⟨w.heap.size, 1, none⟩ = some (.int .i64 0) := by simp
  have c2 : (w.alloc (Obj.cells #[.int .i64 0, .int .i64 0, .int .i64 0, .int .i64 0, .int .i64 0, .int .i64 0, .int .i64 0, .int .i64 0, .int .i64 0] 87)).cell? ⟨w.heap.size, 2, none⟩ = some (.int .i64 0) := by simp
  have c3 : (w.alloc (Obj.cells #[.int .i64 0, .int .i64 0, .int .i64 0, .int .i64 0, .int .i64 0, .int .i64 0, .int .i64 0, .int .i64 0, .int .i64 0] 87)).cell? ⟨w.heap.size, 3, none⟩ = some (.int .i64 0) := by simp
  have c4 : (w.alloc (Obj.cells #[.int .i64 0, .int .i64 0, .int .i64 0, .int .i64 0, .int .i64 0, .int .i64 0, .int .i64 0, .int .i64 0, .int .i64 0] 87)).cell? ⟨w.heap.size, 4, none⟩ = some (.int .i64 0) := by simp
  have c5 : (w.alloc (Obj.cells #[.int .i64 0, .int .i64 0, .int .i64 0, .int .i64 0, .int .i64 0, .int .i64 0, .int .i64 0, .int .i64 0, .int .i64 0] 87)).cell? ⟨w.heap.size, 5, none⟩ = some (.int .i64 0) := by simp
  have c6 : (w.alloc (Obj.cells #[.int .i64 0, .int .i64 0, .int .i64 0, .int .i64 0, .int .i64 0, .int .i64 0, .int .i64 0, .int .i64 0, .int .i64 0] 87)).cell? ⟨w.heap.size, 6, none⟩ = some (.int .i64 0) := by simp
  have c7 : (w.alloc (Obj.cells #[.int .i64 0, .int .i64 0, .int .i64 0, .int .i64 0, .int .i64 0, .int .i64 0, .int .i64 0, .int .i64 0, .int .i64 0] 87)).cell? ⟨w.heap.size, 7, none⟩ = some (.int .i64 0) := by simp
  have c8 : (w.alloc (Obj.cells #[.int .i64 0, .int .i64 0, .int .i64 0, .int .i64 0, .int .i64 0, .int .i64 0, .int .i64 0, .int .i64 0, .int .i64 0] 87)).cell? ⟨w.heap.size, 8, none⟩ = some (.int .i64 0) := by simp
  have q0 : (w.alloc (Obj.cells #[.int .i64 0, .int .i64 0, .int .i64 0, .int .i64 0, .int .i64 0, .int .i64 0, .int .i64 0, .int .i64 0, .int .i64 0] 87)).frozen? ⟨w.heap.size, 0, none⟩ = false := by simp
  have q1 : (w.alloc (Obj.cells #[.int .i64 0, .int .i64 0, .int .i64 0, .int .i64 0, .int .i64 0, .int .i64 0, .int .i64 0, .int .i64 0, .int .i64 0] 87)).frozen? ⟨w.heap.size, 1, none⟩ = false := by simp
  have q2 : (w.alloc (Obj.cells #[.int .i64 0, .int .i64 0, .int .i64 0, .int .i64 0, .int .i64 0, .int .i64 0, .int .i64 0, .int .i64 0, .int .i64 0] 87)).frozen? ⟨w.heap.size, 2, none⟩ = false := by simp
  have q3 : (w.alloc (Obj.cells #[.int .i64 0, .int .i64 0, .int .i64 0, .int .i64 0, .int .i64 0, .int .i64 0, .int .i64 0, .int .i64 0, .int .i64 0] 87)).frozen? ⟨w.heap.size, 3, none⟩ = false := by simp
  have q4 : (w.alloc (Obj.cells #[.int .i64 0, .int .i64 0, .int .i64 0, .int .i64 0, .int .i64 0, .int .i64 0, .int .i64 0, .int .i64 0, .int .i64 0] 87)).frozen? ⟨w.heap.size, 4, none⟩ = false := by simp
  have q5 : (w.alloc (Obj.cells #[.int .i64 0, .int .i64 0, .int .i64 0, .int .i64 0, .int .i64 0, .int .i64 0, .int .i64 0, .int .i64 0, .int .i64 0] 87)).frozen? ⟨w.heap.size, 5, none⟩ = false := by simp
  have q6 : (w.alloc (Obj.cells #[.int .i64 0, .int .i64 0, .int .i64 0, .int .i64 0, .int .i64 0, .int .i64 0, .int .i64 0, .int .i64 0, .int .i64 0] 87)).frozen? ⟨w.heap.size, 6, none⟩ = false := by simp
  have q7 : (w.alloc (Obj.cells #[.int .i64 0, .int .i64 0, .int .i64 0, .int .i64 0, .int .i64 0, .int .i64 0, .int .i64 0, .int .i64 0, .int .i64 0] 87)).frozen? ⟨w.heap.size, 7, none⟩ = false := by simp
  have q8 : (w.alloc (Obj.cells #[.int .i64 0, .int .i64 0, .int .i64 0, .int .i64 0, .int .i64 0, .int .i64 0, .int .i64 0, .int .i64 0, .int .i64 0] 87)).frozen? ⟨w.heap.size, 8, none⟩ = false := by simp
  have hz : w.heap.size < (w.alloc (Obj.cells #[.int .i64 0, .int .i64 0, .int .i64 0, .int .i64 0, .int .i64 0, .int .i64 0, .int .i64 0, .int .i64 0, .int .i64 0] 87)).heap.size := by rw [size_alloc]; omega
  have l8 : ¬ ((n : Int) < 8) := by omega
  have hb0 := World.grownBy_alloc w (Obj.cells #[.int .i64 0, .int .i64 0, .int .i64 0, .int .i64 0, .int .i64 0, .int .i64 0, .int .i64 0, .int .i64 0, .int .i64 0] 87) none
  clear hc
  go_enter Tryz.func166, Tryz.ntmps166
  go_wp2_with fail
  generalize w.alloc (Obj.cells #[.int .i64 0, .int .i64 0, .int .i64 0, .int .i64 0, .int .i64 0, .int .i64 0, .int .i64 0, .int .i64 0, .int .i64 0] 87) = W0 at *
  refine (formOf_x b off n cap g _ hn hnc hg HC.out).mono ?_
  rintro e w1 ⟨rfl, hg1⟩
  clear HC
  have hA := World.grownBy_alloc w1 (Obj.cells #[.int .i64 (Rc.fo g).code, .int .i64 (Rc.fo g).a, .int .i64 (Rc.fo g).b, .int .i64 (Rc.fo g).c, .int .i64 (Rc.fo g).n] 228) none
  go_wp2_with (go_at_call 173; refine (unpack_x g _).mono ?_; rintro e w2 ⟨rfl, hg2⟩; have f0 := (World.grownBy_alloc w2 (Obj.cells #[.int .i64 (Rc.unpk (Rc.fo g)).op, .int .i64 (Rc.unpk (Rc.fo g)).a, .int .i64 (Rc.unpk (Rc.fo g)).b, .int .i64 (Rc.unpk (Rc.fo g)).c, .int .i64 (Rc.unpk (Rc.fo g)).k, .int .i64 (Rc.unpk (Rc.fo g)).sub, .int .i64 (Rc.unpk (Rc.fo g)).scale, .int .i64 (Rc.unpk (Rc.fo g)).imm, .int .i64 (Rc.unpk (Rc.fo g)).label] 87) none).cell (hg2.cell (a := ⟨w1.heap.size, 0, none⟩) (v := .int .i64 (Rc.fo g).code) (by simp) (by simp)) (by simp); have f1 := (World.grownBy_alloc w2 (Obj.cells #[.int .i64 (Rc.unpk (Rc.fo g)).op, .int .i64 (Rc.unpk (Rc.fo g)).a, .int .i64 (Rc.unpk (Rc.fo g)).b, .int .i64 (Rc.unpk (Rc.fo g)).c, .int .i64 (Rc.unpk (Rc.fo g)).k, .int .i64 (Rc.unpk (Rc.fo g)).sub, .int .i64 (Rc.unpk (Rc.fo g)).scale, .int .i64 (Rc.unpk (Rc.fo g)).imm, .int .i64 (Rc.unpk (Rc.fo g)).label] 87) none).cell (hg2.cell (a := ⟨w1.heap.size, 1, none⟩) (v := .int .i64 (Rc.fo g).a) (by simp) (by simp)) (by simp); have f2 := (World.grownBy_alloc w2 (Obj.cells #[.int .i64 (Rc.unpk (Rc.fo g)).op, .int .i64 (Rc.unpk (Rc.fo g)).a, .int .i64 (Rc.unpk (Rc.fo g)).b, .int .i64 (Rc.unpk (Rc.fo g)).c, .int .i64 (Rc.unpk (Rc.fo g)).k, .int .i64 (Rc.unpk (Rc.fo g)).sub, .int .i64 (Rc.unpk (Rc.fo g)).scale, .int .i64 (Rc.unpk (Rc.fo g)).imm, .int .i64 (Rc.unpk (Rc.fo g)).label] 87) none).cell (hg2.cell (a := ⟨w1.heap.size, 2, none⟩) (v := .int .i64 (Rc.fo g).b) (by simp) (by simp)) (by simp); have f3 := (World.grownBy_alloc w2 (Obj.cells #[.int .i64 (Rc.unpk (Rc.fo g)).op, .int .i64 (Rc.unpk (Rc.fo g)).a, .int .i64 (Rc.unpk (Rc.fo g)).b, .int .i64 (Rc.unpk (Rc.fo g)).c, .int .i64 (Rc.unpk (Rc.fo g)).k, .int .i64 (Rc.unpk (Rc.fo g)).sub, .int .i64 (Rc.unpk (Rc.fo g)).scale, .int .i64 (Rc.unpk (Rc.fo g)).imm, .int .i64 (Rc.unpk (Rc.fo g)).label] 87) none).cell (hg2.cell (a := ⟨w1.heap.size, 3, none⟩) (v := .int .i64 (Rc.fo g).c) (by simp) (by simp)) (by simp); have f4 := (World.grownBy_alloc w2 (Obj.cells #[.int .i64 (Rc.unpk (Rc.fo g)).op, .int .i64 (Rc.unpk (Rc.fo g)).a, .int .i64 (Rc.unpk (Rc.fo g)).b, .int .i64 (Rc.unpk (Rc.fo g)).c, .int .i64 (Rc.unpk (Rc.fo g)).k, .int .i64 (Rc.unpk (Rc.fo g)).sub, .int .i64 (Rc.unpk (Rc.fo g)).scale, .int .i64 (Rc.unpk (Rc.fo g)).imm, .int .i64 (Rc.unpk (Rc.fo g)).label] 87) none).cell (hg2.cell (a := ⟨w1.heap.size, 4, none⟩) (v := .int .i64 (Rc.fo g).n) (by simp) (by simp)) (by simp))
  refine (agree_x g hg _).mono ?_
  rw [ho]
  rintro e w3 ⟨rfl, hg3⟩
  have G : W0.grownBy w3 none := grown_trans (grown_trans (grown_trans (grown_trans hg1 hA) hg2) (World.grownBy_alloc _ _ _)) hg3
  have r0 := G.cell c0 (by simp)
  have s0 := (G.frozen_far ⟨w.heap.size, 0, none⟩ hz (by simp)).trans q0
  have r1 := G.cell c1 (by simp)
  have s1 := (G.frozen_far ⟨w.heap.size, 1, none⟩ hz (by simp)).trans q1
  have r2 := G.cell c2 (by simp)
  have s2 := (G.frozen_far ⟨w.heap.size, 2, none⟩ hz (by simp)).trans q2
  have r3 := G.cell c3 (by simp)
  have s3 := (G.frozen_far ⟨w.heap.size, 3, none⟩ hz (by simp)).trans q3
  have r4 := G.cell c4 (by simp)
  have s4 := (G.frozen_far ⟨w.heap.size, 4, none⟩ hz (by simp)).trans q4
  have r5 := G.cell c5 (by simp)
  have s5 := (G.frozen_far ⟨w.heap.size, 5, none⟩ hz (by simp)).trans q5
  have r6 := G.cell c6 (by simp)
  have s6 := (G.frozen_far ⟨w.heap.size, 6, none⟩ hz (by simp)).trans q6
  have r7 := G.cell c7 (by simp)
  have s7 := (G.frozen_far ⟨w.heap.size, 7, none⟩ hz (by simp)).trans q7
  have r8 := G.cell c8 (by simp)
  have s8 := (G.frozen_far ⟨w.heap.size, 8, none⟩ hz (by simp)).trans q8
  have i0 : w3.cell? ⟨w2.heap.size, 0, none⟩ = some (.int .i64 (Rc.unpk (Rc.fo g)).op) := hg3.cell (by simp) (by simp)
  have i1 : w3.cell? ⟨w2.heap.size, 1, none⟩ = some (.int .i64 (Rc.unpk (Rc.fo g)).a) := hg3.cell (by simp) (by simp)
  have i2 : w3.cell? ⟨w2.heap.size, 2, none⟩ = some (.int .i64 (Rc.unpk (Rc.fo g)).b) := hg3.cell (by simp) (by simp)
  have i3 : w3.cell? ⟨w2.heap.size, 3, none⟩ = some (.int .i64 (Rc.unpk (Rc.fo g)).c) := hg3.cell (by simp) (by simp)
  have i4 : w3.cell? ⟨w2.heap.size, 4, none⟩ = some (.int .i64 (Rc.unpk (Rc.fo g)).k) := hg3.cell (by simp) (by simp)
  have i5 : w3.cell? ⟨w2.heap.size, 5, none⟩ = some (.int .i64 (Rc.unpk (Rc.fo g)).sub) := hg3.cell (by simp) (by simp)
  have i6 : w3.cell? ⟨w2.heap.size, 6, none⟩ = some (.int .i64 (Rc.unpk (Rc.fo g)).scale) := hg3.cell (by simp) (by simp)
  have i7 : w3.cell? ⟨w2.heap.size, 7, none⟩ = some (.int .i64 (Rc.unpk (Rc.fo g)).imm) := hg3.cell (by simp) (by simp)
  have i8 : w3.cell? ⟨w2.heap.size, 8, none⟩ = some (.int .i64 (Rc.unpk (Rc.fo g)).label) := hg3.cell (by simp) (by simp)
  have HG : Hid (w.grownBy w3 none) := grown_trans hb0 G
  clear G hg1 hg2 hg3 hA hb0 hz f0 f1 f2 f3 f4 c0 q0 c1 q1 c2 q2 c3 q3 c4 q4 c5 q5 c6 q6 c7 q7 c8 q8
  go_wp2_with fail
  refine bodyPost_ret (by simp [results, Tryz.results166, go_sem, r0, r1, r2, r3, r4, r5, r6, r7, r8]; try rfl) rfl ?_
  refine ⟨(by rw [← Rc.unpk_ok ho]; rfl), ?_⟩
  repeat (refine gs ?_ _ _ (Nat.le_refl _))
  exact HG.out

end Go.Proofs.YtdklaeppcjopoaaGreat
