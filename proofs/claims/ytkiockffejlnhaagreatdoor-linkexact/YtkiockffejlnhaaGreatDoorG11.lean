/- Contracts and plain facts that the walks share. -/
import Derived.Test.YtkiockffejlnhaaGreatDoorRcB
import Derived.Test.YtkiockffejlnhaaGreatDoorRcC
import Derived.Test.YtkiockffejlnhaaGreatDoorG3
import Derived.Test.YtkiockffejlnhaaGreatDoorG2
import Derived.Test.YtkiockffejlnhaaGreatDoorG8
import Derived.Test.YtkiockffejlnhaaGreatDoorG10
import Derived.Test.YtkiockffejlnhaaGreatDoorG1
import Derived.Deep.Onto
import Derived.Laws.AppendOwnNone
namespace Go.Proofs.YtkiockffejlnhaaGreatDoor
set_option maxRecDepth 100000
set_option maxHeartbeats 32000000
open Go.RowKit
set_option linter.unusedVariables false
namespace Rc
def E1 (v : InV) (f : FmV) : Prop := (pk v).code = f.code ∧ (pk v).a = f.a ∧ (pk v).b = f.b ∧ (pk v).c = f.c ∧ (pk v).n = f.n
def E2 (v : InV) (f : FmV) : Prop := (unpk f).op = v.op ∧ (unpk f).a = v.a ∧ (unpk f).b = v.b ∧ (unpk f).c = v.c ∧ (unpk f).k = v.k ∧ (unpk f).sub = v.sub ∧ (unpk f).scale = v.scale ∧ (unpk f).imm = v.imm ∧ (unpk f).label = v.label
def Ag (v : InV) (f : FmV) : Prop := E1 v f ∧ E2 v f ∧ smallB f.n = true ∧ fitB v = true
end Rc
theorem agree_any (v : InV) (f : FmV) (w : World) (h1 : -9223372036854775808 ≤ f.n) (h2 : f.n ≤ 9223372036854775807) (ag : Bool) (hag : ag = true ↔ Rc.Ag v f) :
  Calls Tryz.prog 57 #[inst v, formv f] w fun e w' => e = .returned (.bool ag) ∧ w.grownBy w' none := by
 have HA : Hid (ag = true ↔ Rc.Ag v f) := hag
 clear hag
 unfold inst formv
 go_enter Tryz.func57, Tryz.ntmps57
 go_wp2_with fail
 obtain ⟨W0, hW0⟩ : ∃ W0, W0 = (w.alloc (Obj.cells #[.int .i64 v.op, .int .i64 v.a, .int .i64 v.b, .int .i64 v.c, .int .i64 v.k, .int .i64 v.sub, .int .i64 v.scale, .int .i64 v.imm, .int .i64 v.label] 50)).alloc (Obj.cells #[.int .i64 f.code, .int .i64 f.a, .int .i64 f.b, .int .i64 f.c, .int .i64 f.n] 97) := ⟨_, rfl⟩
 have i0 : ∀ x : Gw W0, x.w.cell? ⟨w.heap.size, 0, none⟩ = some (.int .i64 v.op) := fun x => x.h.cell (by rw [hW0]; simp) (by simp)
 have i1 : ∀ x : Gw W0, x.w.cell? ⟨w.heap.size, 1, none⟩ = some (.int .i64 v.a) := fun x => x.h.cell (by rw [hW0]; simp) (by simp)
 have i2 : ∀ x : Gw W0, x.w.cell? ⟨w.heap.size, 2, none⟩ = some (.int .i64 v.b) := fun x => x.h.cell (by rw [hW0]; simp) (by simp)
 have i3 : ∀ x : Gw W0, x.w.cell? ⟨w.heap.size, 3, none⟩ = some (.int .i64 v.c) := fun x => x.h.cell (by rw [hW0]; simp) (by simp)
 have i4 : ∀ x : Gw W0, x.w.cell? ⟨w.heap.size, 4, none⟩ = some (.int .i64 v.k) := fun x => x.h.cell (by rw [hW0]; simp) (by simp)
 have i5 : ∀ x : Gw W0, x.w.cell? ⟨w.heap.size, 5, none⟩ = some (.int .i64 v.sub) := fun x => x.h.cell (by rw [hW0]; simp) (by simp)
 have i6 : ∀ x : Gw W0, x.w.cell? ⟨w.heap.size, 6, none⟩ = some (.int .i64 v.scale) := fun x => x.h.cell (by rw [hW0]; simp) (by simp)
 have i7 : ∀ x : Gw W0, x.w.cell? ⟨w.heap.size, 7, none⟩ = some (.int .i64 v.imm) := fun x => x.h.cell (by rw [hW0]; simp) (by simp)
 have i8 : ∀ x : Gw W0, x.w.cell? ⟨w.heap.size, 8, none⟩ = some (.int .i64 v.label) := fun x => x.h.cell (by rw [hW0]; simp) (by simp)
 have j0 : ∀ x : Gw W0, x.w.cell? ⟨w.heap.size + 1, 0, none⟩ = some (.int .i64 f.code) := fun x => x.h.cell (by rw [hW0]; simp) (by simp)
 have j1 : ∀ x : Gw W0, x.w.cell? ⟨w.heap.size + 1, 1, none⟩ = some (.int .i64 f.a) := fun x => x.h.cell (by rw [hW0]; simp) (by simp)
 have j2 : ∀ x : Gw W0, x.w.cell? ⟨w.heap.size + 1, 2, none⟩ = some (.int .i64 f.b) := fun x => x.h.cell (by rw [hW0]; simp) (by simp)
 have j3 : ∀ x : Gw W0, x.w.cell? ⟨w.heap.size + 1, 3, none⟩ = some (.int .i64 f.c) := fun x => x.h.cell (by rw [hW0]; simp) (by simp)
 have j4 : ∀ x : Gw W0, x.w.cell? ⟨w.heap.size + 1, 4, none⟩ = some (.int .i64 f.n) := fun x => x.h.cell (by rw [hW0]; simp) (by simp)
 have HG : Hid (w.grownBy W0 none) := by rw [hW0]; exact grown_alloc2 _ _ _
 rw [← hW0]
 clear hW0
 have ne : Nonempty (Gw W0) := ⟨⟨W0, gr0⟩⟩
 have hite : ∀ (p q : Prop) [Decidable p] [Decidable q] (x y : Result Next), (if p then if q then x else y else y) = if p ∧ q then x else y := fun p q _ _ x y => by by_cases hp : p <;> by_cases hq : q <;> simp [hp, hq]
 refine region_grown (by kernel_rfl) (by kernel_rfl) ?_
 by_cases c1 : Rc.E1 v f
 ·have d1 := _root_.eq_true c1
  unfold Rc.E1 at d1
  by_cases c2 : Rc.E2 v f
  ·have d2 := _root_.eq_true c2
   unfold Rc.E2 at d2
   cases c3 : Rc.smallB f.n
   ·have HF : Hid (ag = false) := by
     show _ = _
     cases e : ag
     ·rfl
     ·exact absurd (HA.out.1 e).2.2.1 (by rw [c3]; decide)
    repeat (go_big_quiet_step ((first
     | (go_at_call 77; exact Gw.call (v := .agg #[.int .i64 (Rc.pk v).code, .int .i64 (Rc.pk v).a, .int .i64 (Rc.pk v).b, .int .i64 (Rc.pk v).c, .int .i64 (Rc.pk v).n]) (pack_any v _))
     | (go_at_call 56; exact Gw.call (v := .agg #[.int .i64 (Rc.unpk f).op, .int .i64 (Rc.unpk f).a, .int .i64 (Rc.unpk f).b, .int .i64 (Rc.unpk f).c, .int .i64 (Rc.unpk f).k, .int .i64 (Rc.unpk f).sub, .int .i64 (Rc.unpk f).scale, .int .i64 (Rc.unpk f).imm, .int .i64 (Rc.unpk f).label]) (unpack_any f _ h1 h2))
     | (go_at_call 78; exact Gw.call (v := .bool (Rc.smallB f.n)) (ffits_any _ _ _ _ _ _))
     | (go_at_call 79; exact Gw.call (v := .bool (Rc.fitB v)) (fits_any v _)))))
    refine wpQuiet_nil ?_
    rintro _ ⟨x, rfl⟩
    go_wp2
    go_ret
    exact ⟨ret_bool HF.out.symm, gtr HG.out x.h⟩
   ·cases c4 : Rc.fitB v
    ·have HF : Hid (ag = false) := by
      show _ = _
      cases e : ag
      ·rfl
      ·exact absurd (HA.out.1 e).2.2.2 (by rw [c4]; decide)
     repeat (go_big_quiet_step ((first
      | (go_at_call 77; exact Gw.call (v := .agg #[.int .i64 (Rc.pk v).code, .int .i64 (Rc.pk v).a, .int .i64 (Rc.pk v).b, .int .i64 (Rc.pk v).c, .int .i64 (Rc.pk v).n]) (pack_any v _))
      | (go_at_call 56; exact Gw.call (v := .agg #[.int .i64 (Rc.unpk f).op, .int .i64 (Rc.unpk f).a, .int .i64 (Rc.unpk f).b, .int .i64 (Rc.unpk f).c, .int .i64 (Rc.unpk f).k, .int .i64 (Rc.unpk f).sub, .int .i64 (Rc.unpk f).scale, .int .i64 (Rc.unpk f).imm, .int .i64 (Rc.unpk f).label]) (unpack_any f _ h1 h2))
      | (go_at_call 78; exact Gw.call (v := .bool (Rc.smallB f.n)) (ffits_any _ _ _ _ _ _))
      | (go_at_call 79; exact Gw.call (v := .bool (Rc.fitB v)) (fits_any v _)))))
     refine wpQuiet_nil ?_
     rintro _ ⟨x, rfl⟩
     go_wp2
     go_ret
     exact ⟨ret_bool HF.out.symm, gtr HG.out x.h⟩
    ·have HF : Hid (ag = true) := HA.out.2 ⟨c1, c2, c3, c4⟩
     repeat (go_big_quiet_step ((first
      | (go_at_call 77; exact Gw.call (v := .agg #[.int .i64 (Rc.pk v).code, .int .i64 (Rc.pk v).a, .int .i64 (Rc.pk v).b, .int .i64 (Rc.pk v).c, .int .i64 (Rc.pk v).n]) (pack_any v _))
      | (go_at_call 56; exact Gw.call (v := .agg #[.int .i64 (Rc.unpk f).op, .int .i64 (Rc.unpk f).a, .int .i64 (Rc.unpk f).b, .int .i64 (Rc.unpk f).c, .int .i64 (Rc.unpk f).k, .int .i64 (Rc.unpk f).sub, .int .i64 (Rc.unpk f).scale, .int .i64 (Rc.unpk f).imm, .int .i64 (Rc.unpk f).label]) (unpack_any f _ h1 h2))
      | (go_at_call 78; exact Gw.call (v := .bool (Rc.smallB f.n)) (ffits_any _ _ _ _ _ _))
      | (go_at_call 79; exact Gw.call (v := .bool (Rc.fitB v)) (fits_any v _)))))
     refine wpQuiet_nil ?_
     rintro _ ⟨x, rfl⟩
     go_wp2
     go_ret
     exact ⟨ret_bool HF.out.symm, gtr HG.out x.h⟩
  ·have d2 := _root_.eq_false c2
   unfold Rc.E2 at d2
   have HF : Hid (ag = false) := by
    show _ = _
    cases e : ag
    ·rfl
    ·exact absurd (HA.out.1 e).2.1 c2
   repeat (go_big_quiet_step ((first
    | (go_at_call 77; exact Gw.call (v := .agg #[.int .i64 (Rc.pk v).code, .int .i64 (Rc.pk v).a, .int .i64 (Rc.pk v).b, .int .i64 (Rc.pk v).c, .int .i64 (Rc.pk v).n]) (pack_any v _))
    | (go_at_call 56; exact Gw.call (v := .agg #[.int .i64 (Rc.unpk f).op, .int .i64 (Rc.unpk f).a, .int .i64 (Rc.unpk f).b, .int .i64 (Rc.unpk f).c, .int .i64 (Rc.unpk f).k, .int .i64 (Rc.unpk f).sub, .int .i64 (Rc.unpk f).scale, .int .i64 (Rc.unpk f).imm, .int .i64 (Rc.unpk f).label]) (unpack_any f _ h1 h2))
    | (go_at_call 78; exact Gw.call (v := .bool (Rc.smallB f.n)) (ffits_any _ _ _ _ _ _))
    | (go_at_call 79; exact Gw.call (v := .bool (Rc.fitB v)) (fits_any v _)))))
   refine wpQuiet_nil ?_
   rintro _ ⟨x, rfl⟩
   go_wp2
   go_ret
   exact ⟨ret_bool HF.out.symm, gtr HG.out x.h⟩
 ·have d1 := _root_.eq_false c1
  unfold Rc.E1 at d1
  have HF : Hid (ag = false) := by
   show _ = _
   cases e : ag
   ·rfl
   ·exact absurd (HA.out.1 e).1 c1
  repeat (go_big_quiet_step ((first
   | (go_at_call 77; exact Gw.call (v := .agg #[.int .i64 (Rc.pk v).code, .int .i64 (Rc.pk v).a, .int .i64 (Rc.pk v).b, .int .i64 (Rc.pk v).c, .int .i64 (Rc.pk v).n]) (pack_any v _))
   | (go_at_call 56; exact Gw.call (v := .agg #[.int .i64 (Rc.unpk f).op, .int .i64 (Rc.unpk f).a, .int .i64 (Rc.unpk f).b, .int .i64 (Rc.unpk f).c, .int .i64 (Rc.unpk f).k, .int .i64 (Rc.unpk f).sub, .int .i64 (Rc.unpk f).scale, .int .i64 (Rc.unpk f).imm, .int .i64 (Rc.unpk f).label]) (unpack_any f _ h1 h2))
   | (go_at_call 78; exact Gw.call (v := .bool (Rc.smallB f.n)) (ffits_any _ _ _ _ _ _))
   | (go_at_call 79; exact Gw.call (v := .bool (Rc.fitB v)) (fits_any v _)))))
  refine wpQuiet_nil ?_
  rintro _ ⟨x, rfl⟩
  go_wp2
  go_ret
  exact ⟨ret_bool HF.out.symm, gtr HG.out x.h⟩
end Go.Proofs.YtkiockffejlnhaaGreatDoor
namespace Go.Proofs.YtkiockffejlnhaaGreatDoor
open Go.RowKit
set_option linter.unusedVariables false
namespace Rc
theorem may_of {v : InV} (h0 : (fld v.op).data.isEmpty = false) (r : Rng v) : mayB v = true := by
 unfold mayB regB smallB
 simp only [Bool.and_eq_true, Bool.or_eq_true, beq_iff_eq, decide_eq_true_eq]
 exact ⟨⟨⟨⟨⟨⟨⟨⟨⟨⟨⟨⟨⟨by rw [h0]; rfl, r.sc⟩, r.lb⟩, r.a1, r.a2⟩, r.b1, r.b2⟩, r.c1, r.c2⟩, r.i1, r.i2⟩, r.u0⟩, r.u1⟩, r.u2⟩, r.u3⟩, r.u4⟩, r.u5⟩, r.kd⟩
theorem pk_may {v : InV} (h : mayB v = true) : pk v = ⟨v.op, v.a, v.b, cc v, nn v⟩ := by
 have r := rng h
 have hc := codes v h
 obtain ⟨op, a, b, c, k, sub, sc, imm, lb⟩ := v
 obtain ⟨h1, h2, a1, a2, b1, b2, c1, c2, i1, i2, u0, u1, u2, u3, u4, u5, kd⟩ := r
 dsimp only at *
 rcases hc with rfl | rfl | rfl | rfl | rfl | rfl | rfl | rfl | rfl | rfl | rfl | rfl | rfl | rfl | rfl | rfl | rfl | rfl | rfl | rfl
 all_goals try (replace u0 := u0.resolve_left (by decide); subst u0)
 all_goals try (replace u1 := u1.resolve_left (by decide); subst u1)
 all_goals try (replace u2 := u2.resolve_left (by decide); subst u2)
 all_goals try (replace u5 := u5.resolve_left (by decide); subst u5)
 all_goals try (replace kd := bin_rng (show Wd.hasBinB sub k = true from kd))
 all_goals try (replace kd := un_rng (show Wd.hasUnB sub k = true from kd))
 all_goals try (replace kd := conv_rng (show (Wd.numB sub && Wd.numB k) = true from kd))
 all_goals
  unfold pk cc nn
  simp only [Int.reduceEq, or_self, or_false, or_true, if_true, if_false, FmV.mk.injEq, true_and]
  try (unfold wrap64; omega)
theorem unpk_pk {v : InV} (h : mayB v = true) : unpk (pk v) = v := by
 rw [pk_may h]
 have r := rng h
 have hc := codes v h
 obtain ⟨op, a, b, c, k, sub, sc, imm, lb⟩ := v
 obtain ⟨h1, h2, a1, a2, b1, b2, c1, c2, i1, i2, u0, u1, u2, u3, u4, u5, kd⟩ := r
 dsimp only at *
 subst h1 h2
 rcases hc with rfl | rfl | rfl | rfl | rfl | rfl | rfl | rfl | rfl | rfl | rfl | rfl | rfl | rfl | rfl | rfl | rfl | rfl | rfl | rfl
 all_goals try (replace u0 := u0.resolve_left (by decide))
 all_goals try (replace u1 := u1.resolve_left (by decide))
 all_goals try (replace u2 := u2.resolve_left (by decide))
 all_goals try (replace u3 := u3.resolve_left (by decide))
 all_goals try (replace u4 := u4.resolve_left (by decide))
 all_goals try (replace u5 := u5.resolve_left (by decide))
 all_goals try (replace kd := bin_rng (show Wd.hasBinB sub k = true from kd))
 all_goals try (replace kd := un_rng (show Wd.hasUnB sub k = true from kd))
 all_goals try (replace kd := conv_rng (show (Wd.numB sub && Wd.numB k) = true from kd))
 all_goals
  unfold unpk cc nn
  simp only [Int.reduceEq, or_self, or_false, or_true, if_true, if_false, InV.mk.injEq, true_and, and_true]
  try omega
theorem E2_of {v : InV} {f : FmV} (h : unpk f = v) : E2 v f := by
 subst h; exact ⟨rfl, rfl, rfl, rfl, rfl, rfl, rfl, rfl, rfl⟩
theorem E1_of {v : InV} {f : FmV} (h : pk v = f) : E1 v f := by
 subst h; exact ⟨rfl, rfl, rfl, rfl, rfl⟩
theorem of_E2 {v : InV} {f : FmV} (h : E2 v f) : unpk f = v := by
 unfold E2 at h
 generalize unpk f = p at h
 obtain ⟨_, _, _, _, _, _, _, _, _⟩ := p
 obtain ⟨_, _, _, _, _, _, _, _, _⟩ := v
 obtain ⟨rfl, rfl, rfl, rfl, rfl, rfl, rfl, rfl, rfl⟩ := h
 rfl
theorem ag_of {v : InV} (h : mayB v = true) : Ag v (pk v) := by
 refine ⟨E1_of rfl, E2_of (unpk_pk h), ?_, ?_⟩
 ·rw [pk_may h]
  have r := rng h
  have hc := codes v h
  have hk := r.kd
  unfold smallB nn
  dsimp only
  rw [Bool.and_eq_true, decide_eq_true_eq, decide_eq_true_eq]
  have := r.i1
  have := r.i2
  split
  ·rename_i ho
   rcases ho with ho | ho | ho
   ·unfold kindB at hk; rw [if_pos ho] at hk; have := bin_rng hk; omega
   ·unfold kindB at hk; rw [if_neg (by omega), if_pos ho] at hk; have := un_rng hk; omega
   ·unfold kindB at hk; rw [if_neg (by omega), if_neg (by omega), if_pos ho] at hk; have := conv_rng hk; omega
  ·omega
 ·have r := rng h
  have hc := codes v h
  unfold fitB regB
  simp only [Bool.and_eq_true, Bool.not_eq_true', beq_eq_false_iff_ne, ne_eq, decide_eq_true_eq]
  exact ⟨⟨⟨⟨by omega, r.a1, r.a2⟩, r.b1, r.b2⟩, r.c1, r.c2⟩, r.kd⟩
theorem of_ag {v : InV} (h : Ag v (pk v)) : mayB v = true := by
 obtain ⟨-, h2, h3, h4⟩ := h
 have e := of_E2 h2
 obtain ⟨op, a, b, c, k, sub, sc, imm, lb⟩ := v
 unfold fitB regB at h4
 simp only [Bool.and_eq_true, Bool.not_eq_true', beq_eq_false_iff_ne, ne_eq, decide_eq_true_eq] at h4
 obtain ⟨⟨⟨⟨p0, p1, p2⟩, p3, p4⟩, p5, p6⟩, kd⟩ := h4
 unfold smallB at h3
 rw [Bool.and_eq_true, decide_eq_true_eq, decide_eq_true_eq] at h3
 clear h2
 rcases ops op with rfl | rfl | rfl | rfl | rfl | rfl | rfl | rfl | rfl | rfl | rfl | rfl | rfl | rfl | rfl | rfl | rfl | rfl | rfl | rfl | hn
 case inr.inr.inr.inr.inr.inr.inr.inr.inr.inr.inr.inr.inr.inr.inr.inr.inr.inr.inr.inr =>
  exfalso
  simp only [beq_eq_false_iff_ne, ne_eq] at hn
  have : pk ⟨op, a, b, c, k, sub, sc, imm, lb⟩ = ⟨0, 0, 0, 0, 0⟩ := by
   unfold pk
   simp only [hn, or_self, if_false]
  rw [this] at e
  injection e with e0
  exact p0 e0.symm
 all_goals
  unfold pk at e h3
  simp only [Int.reduceEq, or_self, or_false, or_true, if_true, if_false] at e h3
  unfold unpk at e
  simp only [Int.reduceEq, or_self, or_false, or_true, if_true, if_false, InV.mk.injEq, true_and] at e
  refine may_of (by dsimp only; decide) ⟨?_, ?_, p1, p2, p3, p4, p5, p6, ?_, ?_, ?_, ?_, ?_, ?_, ?_, ?_, kd⟩
  all_goals first | exact .inl (by dsimp only; decide) | (dsimp only; omega) | (right; dsimp only; omega)
theorem ag_may (v : InV) : mayB v = true ↔ Ag v (pk v) := ⟨ag_of, of_ag⟩
theorem pk_rng {v : InV} (h1 : -9223372036854775808 ≤ v.imm) (h2 : v.imm ≤ 9223372036854775807) : -9223372036854775808 ≤ (pk v).n ∧ (pk v).n ≤ 9223372036854775807 := by
 have hw : ∀ x, -9223372036854775808 ≤ wrap64 x ∧ wrap64 x ≤ 9223372036854775807 := fun x => by unfold wrap64; omega
 have := hw (v.k + 256 * v.sub)
 unfold pk
 repeat' split
 all_goals (dsimp only; omega)
theorem fb_enc {v : InV} (h : mayB v = true) (i : Nat) (hi : i < 8) : fb (pk v) i = enc v i := by
 rw [pk_may h]
 unfold fb enc
 dsimp only
 repeat' split
 all_goals first | rfl | (rw [show (4294967296 : Int) = 256 ^ 4 from rfl, Mm.by8_mod _ _ 4 (by omega)])
end Rc
end Go.Proofs.YtkiockffejlnhaaGreatDoor
namespace Go.Proofs.YtkiockffejlnhaaGreatDoor
set_option maxRecDepth 100000
set_option maxHeartbeats 32000000
open Go.RowKit
set_option linter.unusedVariables false
theorem pack_x (v : InV) (w : World) : Calls Tryz.prog 77 #[inst v] w fun e w' => e = .returned (.agg #[.int .i64 (Rc.pk v).code, .int .i64 (Rc.pk v).a, .int .i64 (Rc.pk v).b, .int .i64 (Rc.pk v).c, .int .i64 (Rc.pk v).n]) ∧ w.grownBy w' none := pack_any v w
theorem OwnB.congr {w : World} {base n : Nat} {v : Value} {g g' : Nat → Int} (h : OwnB w base v n g) (e : ∀ i, i < n → g i = g' i) : OwnB w base v n g' := by
 have : bytesL n g = bytesL n g' := by
  unfold bytesL
  exact List.map_congr_left fun i hi => by rw [e i (List.mem_range.1 hi)]
 unfold OwnB at *
 rw [← this]; exact h
theorem encode_no (v : InV) (w : World) (h1 : -9223372036854775808 ≤ v.imm) (h2 : v.imm ≤ 9223372036854775807) (hm : Rc.mayB v = false) :
  Calls Tryz.prog 60 #[inst v] w fun e w' => e = .returned (.tuple #[.slice none 0 0, .int .i64 30]) ∧ w.grownBy w' none := by
 have r := Rc.pk_rng h1 h2
 have HA : Hid (false = true ↔ Rc.Ag v (Rc.pk v)) := by
  show _ ↔ _
  rw [← hm]; exact Rc.ag_may v
 have c0 : (w.alloc (Obj.cells #[.int .i64 v.op, .int .i64 v.a, .int .i64 v.b, .int .i64 v.c, .int .i64 v.k, .int .i64 v.sub, .int .i64 v.scale, .int .i64 v.imm, .int .i64 v.label] 50)).cell? ⟨w.heap.size, 0, none⟩ = some (.int .i64 v.op) := by simp
 have c1 : (w.alloc (Obj.cells #[.int .i64 v.op, .int .i64 v.a, .int .i64 v.b, .int .i64 v.c, .int .i64 v.k, .int .i64 v.sub, .int .i64 v.scale, .int .i64 v.imm, .int .i64 v.label] 50)).cell? ⟨w.heap.size, 1, none⟩ = some (.int .i64 v.a) := by simp
 have c2 : (w.alloc (Obj.cells #[.int .i64 v.op, .int .i64 v.a, .int .i64 v.b, .int .i64 v.c, .int .i64 v.k, .int .i64 v.sub, .int .i64 v.scale, .int .i64 v.imm, .int .i64 v.label] 50)).cell? ⟨w.heap.size, 2, none⟩ = some (.int .i64 v.b) := by simp
 have c3 : (w.alloc (Obj.cells #[.int .i64 v.op, .int .i64 v.a, .int .i64 v.b, .int .i64 v.c, .int .i64 v.k, .int .i64 v.sub, .int .i64 v.scale, .int .i64 v.imm, .int .i64 v.label] 50)).cell? ⟨w.heap.size, 3, none⟩ = some (.int .i64 v.c) := by simp
 have c4 : (w.alloc (Obj.cells #[.int .i64 v.op, .int .i64 v.a, .int .i64 v.b, .int .i64 v.c, .int .i64 v.k, .int .i64 v.sub, .int .i64 v.scale, .int .i64 v.imm, .int .i64 v.label] 50)).cell? ⟨w.heap.size, 4, none⟩ = some (.int .i64 v.k) := by simp
 have c5 : (w.alloc (Obj.cells #[.int .i64 v.op, .int .i64 v.a, .int .i64 v.b, .int .i64 v.c, .int .i64 v.k, .int .i64 v.sub, .int .i64 v.scale, .int .i64 v.imm, .int .i64 v.label] 50)).cell? ⟨w.heap.size, 5, none⟩ = some (.int .i64 v.sub) := by simp
 have c6 : (w.alloc (Obj.cells #[.int .i64 v.op, .int .i64 v.a, .int .i64 v.b, .int .i64 v.c, .int .i64 v.k, .int .i64 v.sub, .int .i64 v.scale, .int .i64 v.imm, .int .i64 v.label] 50)).cell? ⟨w.heap.size, 6, none⟩ = some (.int .i64 v.scale) := by simp
 have c7 : (w.alloc (Obj.cells #[.int .i64 v.op, .int .i64 v.a, .int .i64 v.b, .int .i64 v.c, .int .i64 v.k, .int .i64 v.sub, .int .i64 v.scale, .int .i64 v.imm, .int .i64 v.label] 50)).cell? ⟨w.heap.size, 7, none⟩ = some (.int .i64 v.imm) := by simp
 have c8 : (w.alloc (Obj.cells #[.int .i64 v.op, .int .i64 v.a, .int .i64 v.b, .int .i64 v.c, .int .i64 v.k, .int .i64 v.sub, .int .i64 v.scale, .int .i64 v.imm, .int .i64 v.label] 50)).cell? ⟨w.heap.size, 8, none⟩ = some (.int .i64 v.label) := by simp
 have hb0 := World.grownBy_alloc w (Obj.cells #[.int .i64 v.op, .int .i64 v.a, .int .i64 v.b, .int .i64 v.c, .int .i64 v.k, .int .i64 v.sub, .int .i64 v.scale, .int .i64 v.imm, .int .i64 v.label] 50) none
 unfold inst
 go_enter Tryz.func60, Tryz.ntmps60
 go_wp2_with (first
  | (go_at_call 77; refine (pack_x v _).mono ?_; rintro e w1 ⟨rfl, hg1⟩; have i0 := (World.grownBy_alloc w1 (Obj.cells #[.int .i64 (Rc.pk v).code, .int .i64 (Rc.pk v).a, .int .i64 (Rc.pk v).b, .int .i64 (Rc.pk v).c, .int .i64 (Rc.pk v).n] 97) none).cell (hg1.cell c0 (by simp)) (by simp); have i1 := (World.grownBy_alloc w1 (Obj.cells #[.int .i64 (Rc.pk v).code, .int .i64 (Rc.pk v).a, .int .i64 (Rc.pk v).b, .int .i64 (Rc.pk v).c, .int .i64 (Rc.pk v).n] 97) none).cell (hg1.cell c1 (by simp)) (by simp); have i2 := (World.grownBy_alloc w1 (Obj.cells #[.int .i64 (Rc.pk v).code, .int .i64 (Rc.pk v).a, .int .i64 (Rc.pk v).b, .int .i64 (Rc.pk v).c, .int .i64 (Rc.pk v).n] 97) none).cell (hg1.cell c2 (by simp)) (by simp); have i3 := (World.grownBy_alloc w1 (Obj.cells #[.int .i64 (Rc.pk v).code, .int .i64 (Rc.pk v).a, .int .i64 (Rc.pk v).b, .int .i64 (Rc.pk v).c, .int .i64 (Rc.pk v).n] 97) none).cell (hg1.cell c3 (by simp)) (by simp); have i4 := (World.grownBy_alloc w1 (Obj.cells #[.int .i64 (Rc.pk v).code, .int .i64 (Rc.pk v).a, .int .i64 (Rc.pk v).b, .int .i64 (Rc.pk v).c, .int .i64 (Rc.pk v).n] 97) none).cell (hg1.cell c4 (by simp)) (by simp); have i5 := (World.grownBy_alloc w1 (Obj.cells #[.int .i64 (Rc.pk v).code, .int .i64 (Rc.pk v).a, .int .i64 (Rc.pk v).b, .int .i64 (Rc.pk v).c, .int .i64 (Rc.pk v).n] 97) none).cell (hg1.cell c5 (by simp)) (by simp); have i6 := (World.grownBy_alloc w1 (Obj.cells #[.int .i64 (Rc.pk v).code, .int .i64 (Rc.pk v).a, .int .i64 (Rc.pk v).b, .int .i64 (Rc.pk v).c, .int .i64 (Rc.pk v).n] 97) none).cell (hg1.cell c6 (by simp)) (by simp); have i7 := (World.grownBy_alloc w1 (Obj.cells #[.int .i64 (Rc.pk v).code, .int .i64 (Rc.pk v).a, .int .i64 (Rc.pk v).b, .int .i64 (Rc.pk v).c, .int .i64 (Rc.pk v).n] 97) none).cell (hg1.cell c7 (by simp)) (by simp); have i8 := (World.grownBy_alloc w1 (Obj.cells #[.int .i64 (Rc.pk v).code, .int .i64 (Rc.pk v).a, .int .i64 (Rc.pk v).b, .int .i64 (Rc.pk v).c, .int .i64 (Rc.pk v).n] 97) none).cell (hg1.cell c8 (by simp)) (by simp))
  | (go_at_call 57; refine (agree_any v (Rc.pk v) _ r.1 r.2 false HA.out).mono ?_; rintro e w2 ⟨rfl, hg2⟩))
 go_ret2
 exact ⟨rfl, gtr (gtr (gtr hb0 hg1) gal) hg2⟩
theorem encode_ok (v : InV) (w : World) (h1 : -9223372036854775808 ≤ v.imm) (h2 : v.imm ≤ 9223372036854775807) (hm : Rc.mayB v = true) :
  Calls Tryz.prog 60 #[inst v] w fun e w' => ∃ T, e = .returned (.tuple #[.slice (some ⟨T, 0, none⟩) 8 8, .int .i64 0]) ∧ OwnB w' w.heap.size (.slice (some ⟨T, 0, none⟩) 8 8) 8 (Rc.enc v) ∧ w.grownBy w' none := by
 have r := Rc.pk_rng h1 h2
 have HA : Hid (Rc.Ag v (Rc.pk v)) := (Rc.ag_may v).1 hm
 have HE : Hid (∀ i, i < 8 → Rc.fb (Rc.pk v) i = Rc.enc v i) := Rc.fb_enc hm
 have c0 : (w.alloc (Obj.cells #[.int .i64 v.op, .int .i64 v.a, .int .i64 v.b, .int .i64 v.c, .int .i64 v.k, .int .i64 v.sub, .int .i64 v.scale, .int .i64 v.imm, .int .i64 v.label] 50)).cell? ⟨w.heap.size, 0, none⟩ = some (.int .i64 v.op) := by simp
 have c1 : (w.alloc (Obj.cells #[.int .i64 v.op, .int .i64 v.a, .int .i64 v.b, .int .i64 v.c, .int .i64 v.k, .int .i64 v.sub, .int .i64 v.scale, .int .i64 v.imm, .int .i64 v.label] 50)).cell? ⟨w.heap.size, 1, none⟩ = some (.int .i64 v.a) := by simp
 have c2 : (w.alloc (Obj.cells #[.int .i64 v.op, .int .i64 v.a, .int .i64 v.b, .int .i64 v.c, .int .i64 v.k, .int .i64 v.sub, .int .i64 v.scale, .int .i64 v.imm, .int .i64 v.label] 50)).cell? ⟨w.heap.size, 2, none⟩ = some (.int .i64 v.b) := by simp
 have c3 : (w.alloc (Obj.cells #[.int .i64 v.op, .int .i64 v.a, .int .i64 v.b, .int .i64 v.c, .int .i64 v.k, .int .i64 v.sub, .int .i64 v.scale, .int .i64 v.imm, .int .i64 v.label] 50)).cell? ⟨w.heap.size, 3, none⟩ = some (.int .i64 v.c) := by simp
 have c4 : (w.alloc (Obj.cells #[.int .i64 v.op, .int .i64 v.a, .int .i64 v.b, .int .i64 v.c, .int .i64 v.k, .int .i64 v.sub, .int .i64 v.scale, .int .i64 v.imm, .int .i64 v.label] 50)).cell? ⟨w.heap.size, 4, none⟩ = some (.int .i64 v.k) := by simp
 have c5 : (w.alloc (Obj.cells #[.int .i64 v.op, .int .i64 v.a, .int .i64 v.b, .int .i64 v.c, .int .i64 v.k, .int .i64 v.sub, .int .i64 v.scale, .int .i64 v.imm, .int .i64 v.label] 50)).cell? ⟨w.heap.size, 5, none⟩ = some (.int .i64 v.sub) := by simp
 have c6 : (w.alloc (Obj.cells #[.int .i64 v.op, .int .i64 v.a, .int .i64 v.b, .int .i64 v.c, .int .i64 v.k, .int .i64 v.sub, .int .i64 v.scale, .int .i64 v.imm, .int .i64 v.label] 50)).cell? ⟨w.heap.size, 6, none⟩ = some (.int .i64 v.scale) := by simp
 have c7 : (w.alloc (Obj.cells #[.int .i64 v.op, .int .i64 v.a, .int .i64 v.b, .int .i64 v.c, .int .i64 v.k, .int .i64 v.sub, .int .i64 v.scale, .int .i64 v.imm, .int .i64 v.label] 50)).cell? ⟨w.heap.size, 7, none⟩ = some (.int .i64 v.imm) := by simp
 have c8 : (w.alloc (Obj.cells #[.int .i64 v.op, .int .i64 v.a, .int .i64 v.b, .int .i64 v.c, .int .i64 v.k, .int .i64 v.sub, .int .i64 v.scale, .int .i64 v.imm, .int .i64 v.label] 50)).cell? ⟨w.heap.size, 8, none⟩ = some (.int .i64 v.label) := by simp
 have hb0 := World.grownBy_alloc w (Obj.cells #[.int .i64 v.op, .int .i64 v.a, .int .i64 v.b, .int .i64 v.c, .int .i64 v.k, .int .i64 v.sub, .int .i64 v.scale, .int .i64 v.imm, .int .i64 v.label] 50) none
 unfold inst
 go_enter Tryz.func60, Tryz.ntmps60
 go_wp2_with (first
  | (go_at_call 77; refine (pack_x v _).mono ?_; rintro e w1 ⟨rfl, hg1⟩; have i0 := (World.grownBy_alloc w1 (Obj.cells #[.int .i64 (Rc.pk v).code, .int .i64 (Rc.pk v).a, .int .i64 (Rc.pk v).b, .int .i64 (Rc.pk v).c, .int .i64 (Rc.pk v).n] 97) none).cell (hg1.cell c0 (by simp)) (by simp); have i1 := (World.grownBy_alloc w1 (Obj.cells #[.int .i64 (Rc.pk v).code, .int .i64 (Rc.pk v).a, .int .i64 (Rc.pk v).b, .int .i64 (Rc.pk v).c, .int .i64 (Rc.pk v).n] 97) none).cell (hg1.cell c1 (by simp)) (by simp); have i2 := (World.grownBy_alloc w1 (Obj.cells #[.int .i64 (Rc.pk v).code, .int .i64 (Rc.pk v).a, .int .i64 (Rc.pk v).b, .int .i64 (Rc.pk v).c, .int .i64 (Rc.pk v).n] 97) none).cell (hg1.cell c2 (by simp)) (by simp); have i3 := (World.grownBy_alloc w1 (Obj.cells #[.int .i64 (Rc.pk v).code, .int .i64 (Rc.pk v).a, .int .i64 (Rc.pk v).b, .int .i64 (Rc.pk v).c, .int .i64 (Rc.pk v).n] 97) none).cell (hg1.cell c3 (by simp)) (by simp); have i4 := (World.grownBy_alloc w1 (Obj.cells #[.int .i64 (Rc.pk v).code, .int .i64 (Rc.pk v).a, .int .i64 (Rc.pk v).b, .int .i64 (Rc.pk v).c, .int .i64 (Rc.pk v).n] 97) none).cell (hg1.cell c4 (by simp)) (by simp); have i5 := (World.grownBy_alloc w1 (Obj.cells #[.int .i64 (Rc.pk v).code, .int .i64 (Rc.pk v).a, .int .i64 (Rc.pk v).b, .int .i64 (Rc.pk v).c, .int .i64 (Rc.pk v).n] 97) none).cell (hg1.cell c5 (by simp)) (by simp); have i6 := (World.grownBy_alloc w1 (Obj.cells #[.int .i64 (Rc.pk v).code, .int .i64 (Rc.pk v).a, .int .i64 (Rc.pk v).b, .int .i64 (Rc.pk v).c, .int .i64 (Rc.pk v).n] 97) none).cell (hg1.cell c6 (by simp)) (by simp); have i7 := (World.grownBy_alloc w1 (Obj.cells #[.int .i64 (Rc.pk v).code, .int .i64 (Rc.pk v).a, .int .i64 (Rc.pk v).b, .int .i64 (Rc.pk v).c, .int .i64 (Rc.pk v).n] 97) none).cell (hg1.cell c7 (by simp)) (by simp); have i8 := (World.grownBy_alloc w1 (Obj.cells #[.int .i64 (Rc.pk v).code, .int .i64 (Rc.pk v).a, .int .i64 (Rc.pk v).b, .int .i64 (Rc.pk v).c, .int .i64 (Rc.pk v).n] 97) none).cell (hg1.cell c8 (by simp)) (by simp))
  | (go_at_call 57; refine (agree_any v (Rc.pk v) _ r.1 r.2 true ⟨fun _ => HA.out, fun _ => rfl⟩).mono ?_; rintro e w2 ⟨rfl, hg2⟩; have j0 : w2.cell? ⟨w1.heap.size, 0, none⟩ = some (.int .i64 (Rc.pk v).code) := hg2.cell (by simp) (by simp); have j1 : w2.cell? ⟨w1.heap.size, 1, none⟩ = some (.int .i64 (Rc.pk v).a) := hg2.cell (by simp) (by simp); have j2 : w2.cell? ⟨w1.heap.size, 2, none⟩ = some (.int .i64 (Rc.pk v).b) := hg2.cell (by simp) (by simp); have j3 : w2.cell? ⟨w1.heap.size, 3, none⟩ = some (.int .i64 (Rc.pk v).c) := hg2.cell (by simp) (by simp); have j4 : w2.cell? ⟨w1.heap.size, 4, none⟩ = some (.int .i64 (Rc.pk v).n) := hg2.cell (by simp) (by simp))
  | (go_at_call 91; refine (fbytes_any (Rc.pk v) _).mono ?_; rintro e w3 ⟨T, rfl, ho3, hg3⟩))
 go_ret2
 have g2 := gtr (gtr (gtr hb0 hg1) gal) hg2
 exact ⟨T, rfl, World.ownsRow.mono (ho3.congr HE.out) g2.size, gtr g2 hg3⟩
end Go.Proofs.YtkiockffejlnhaaGreatDoor
namespace Go.Proofs.YtkiockffejlnhaaGreatDoor
open Go.RowKit
set_option linter.unusedVariables false
def cells9 (v : InV) : List Value := [.int .i64 v.op, .int .i64 v.a, .int .i64 v.b, .int .i64 v.c, .int .i64 v.k, .int .i64 v.sub, .int .i64 v.scale, .int .i64 v.imm, .int .i64 v.label]
def OwnI (w : World) (base : Nat) (v : Value) (l : List InV) : Prop := w.ownsRow base 50 9 v l.length (l.flatMap cells9)
theorem info_inst : (Tryz.prog.info? 50).map (fun i => (i.zero, i.size, i.bytes)) = some (some (.agg #[.int .i64 0, .int .i64 0, .int .i64 0, .int .i64 0, .int .i64 0, .int .i64 0, .int .i64 0, .int .i64 0, .int .i64 0]), 9, 72) := by kernel_rfl
theorem OwnI.nil (w : World) (base : Nat) : OwnI w base (.slice none 0 0) [] := World.ownsRow_nil _ _ _ _
theorem OwnI.kept {w w' : World} {base : Nat} {v : Value} {l : List InV} {row : Option Nat} (h : OwnI w base v l) (hg : w.grownBy w' row) (hne : v.ownBlock = none ∨ v.ownBlock ≠ row) : OwnI w' base v l := World.ownsRow.kept h hg hne
theorem OwnI.base {w : World} {base : Nat} {v : Value} {l : List InV} (h : OwnI w base v l) : ∀ k, v.ownBlock = some k → base ≤ k := fun k hk => (World.ownsRow.lt h k hk).1
theorem flat9_len (l : List InV) : (l.flatMap cells9).length = l.length * 9 := by
 induction l with
 | nil => rfl
 | cons v l ih => rw [List.flatMap_cons, List.length_append, ih, List.length_cons]; simp [cells9]; omega
theorem flat9_at : ∀ (l : List InV) (i k : Nat) (hi : i < l.length), k < 9 → (l.flatMap cells9)[i * 9 + k]? = (cells9 l[i])[k]?
 | [], i, k, hi, _ => by simp at hi
 | v :: l, 0, k, _, hk => by
  rw [List.flatMap_cons, List.getElem?_append_left (by simp [cells9]; omega)]
  simp
 | v :: l, i + 1, k, hi, hk => by
  have h9 : (cells9 v).length = 9 := rfl
  rw [List.flatMap_cons, List.getElem?_append_right (by rw [h9]; omega), h9, show (i + 1) * 9 + k - 9 = i * 9 + k by omega]
  exact flat9_at l i k (by simpa using hi) hk
theorem OwnI.inAt {w : World} {base T n c : Nat} {l : List InV} (h : OwnI w base (.slice (some ⟨T, 0, none⟩) n c) l) (hn : n = l.length) {i : Nat} (hi : i < l.length) : InAt w T (0 + i * 9) l[i] := by
 subst hn
 rw [Nat.zero_add]
 have e : ∀ k, k < 9 → w.cell? ⟨T, i * 9 + k, none⟩ = (cells9 l[i])[k]? := fun k hk => (World.ownsRow.cellAt h (i * 9 + k) (by omega)).trans (flat9_at l i k hi hk)
 exact ⟨e 0 (by decide), e 1 (by decide), e 2 (by decide), e 3 (by decide), e 4 (by decide), e 5 (by decide), e 6 (by decide), e 7 (by decide), e 8 (by decide)⟩
theorem OwnI.slice {w : World} {base : Nat} {v : Value} {l : List InV} (h : OwnI w base v l) : ∃ ao c, v = .slice ao l.length c ∧ l.length ≤ c ∧ (0 < l.length → ∃ T, ao = some ⟨T, 0, none⟩ ∧ T < w.heap.size) := by
 rcases h.2 with ⟨rfl, h0⟩ | ⟨T, c, cur, rfl, _, e, hc, _⟩
 ·exact ⟨none, 0, by rw [h0], by omega, fun h => by omega⟩
 ·exact ⟨some ⟨T, 0, none⟩, c, rfl, hc, fun _ => ⟨T, rfl, (World.ownsRow.lt h T rfl).2⟩⟩
namespace Cc
theorem enc_len5 (v : InV) : (enc v).length ≤ 33 := by
 have h : ∀ s : List Int, (s.flatMap (letB v)).length ≤ 8 * s.length := by
  intro s
  induction s with
  | nil => exact Nat.le_refl _
  | cons l s ih =>
   have : (letB v l).length ≤ 8 := by
    have hc := cnt_c (z := size v.imm)
    unfold letB
    repeat' split
    all_goals first | (rw [low_len]; omega) | (simp only [List.length_cons, List.length_nil]; omega)
   rw [List.flatMap_cons, List.length_append, List.length_cons]
   omega
 have h2 := h (row v.op)
 have h3 : (row v.op).length ≤ 4 := by
  rcases ops v.op with h | h | h | h | h | h | h | h | h | h | h | h | h | h | h | h | h | h | h | h | h | h | h | h | h | h
  case inr.inr.inr.inr.inr.inr.inr.inr.inr.inr.inr.inr.inr.inr.inr.inr.inr.inr.inr.inr.inr.inr.inr.inr.inr =>
   rw [(row_none h).1]; decide
  all_goals (rw [h]; decide)
 unfold enc
 rw [List.length_cons]
 omega
end Cc
namespace Ru
def encT (t : Int) (v : InV) : List Int := if t = 1 then (List.range 8).map (Rc.enc v) else Cc.enc v
def mayT (t : Int) (v : InV) : Bool := if t = 1 then Rc.mayB v else Cc.mayB v
theorem cc_len (v : InV) : (Cc.enc v).length ≤ 33 := Cc.enc_len5 v
theorem encT_len (t : Int) (v : InV) : 0 < (encT t v).length ∧ (encT t v).length ≤ 33 := by
 unfold encT
 split
 ·simp
 ·refine ⟨?_, cc_len v⟩
  unfold Cc.enc
  simp
end Ru
end Go.Proofs.YtkiockffejlnhaaGreatDoor
namespace Go.Proofs.YtkiockffejlnhaaGreatDoor
set_option linter.unusedVariables false
namespace Lk
def jmpB (op : Int) : Bool := op == 19 || op == 20 || op == 21 || op == 22
theorem jmpB_iff {op : Int} : jmpB op = true ↔ op = 19 ∨ op = 20 ∨ op = 21 ∨ op = 22 := by unfold jmpB; simp [or_assoc]
structure PcV where
 n : Nat
 I : Nat → InV
 m : Nat
 M : Nat → Int
def bare (v : InV) : InV := { v with label := 0 }
def lead (v : InV) (x : Int) : InV := { v with imm := x, label := 0 }
def labB (m p : Int) (v : InV) : Bool :=
 if jmpB v.op then v.imm == 0 && (decide (0 ≤ v.label) && decide (v.label < m)) else if v.op = 23 then v.imm == 0 && (decide (0 ≤ v.label) && decide (v.label < p)) else v.label == 0
def instB (t : Int) (m p : Int) (v : InV) : Bool := labB m p v && Ru.mayT t (bare v)
structure PcV.Ok (t : Int) (p : Int) (P : PcV) : Prop where
 marks : ∀ i, i < P.m → 0 ≤ P.M i ∧ P.M i ≤ P.n
 insts : ∀ i, i < P.n → instB t P.m p (P.I i) = true
def long (t : Int) : Int := if t = 1 then 8 else 6
def PcV.sh (t : Int) (P : PcV) : Sh where
 n := P.n
 j := fun i => jmpB (P.I i).op
 tg := fun i => (P.M (P.I i).label.toNat).toNat
 s := fun i => ((Ru.encT t (bare (P.I i))).length : Int)
 g := long t
theorem lab_jmp {m p : Int} {v : InV} (h : labB m p v = true) (hj : jmpB v.op = true) : v.imm = 0 ∧ 0 ≤ v.label ∧ v.label < m := by
 unfold labB at h
 rw [if_pos hj] at h
 simpa using h
theorem lab_call {m p : Int} {v : InV} (h : labB m p v = true) (hj : v.op = 23) : v.imm = 0 ∧ 0 ≤ v.label ∧ v.label < p := by
 unfold labB at h
 rw [if_neg (by rw [hj]; decide), if_pos hj] at h
 simpa using h
theorem lab_none {m p : Int} {v : InV} (h : labB m p v = true) (hj : jmpB v.op = false) (hc : v.op ≠ 23) : v.label = 0 := by
 unfold labB at h
 rw [if_neg (by rw [hj]; decide), if_neg hc] at h
 simpa using h
theorem low_len' (n : Int) (c : Nat) : (Cc.low n c).length = c := by unfold Cc.low; simp
theorem may_lead {t : Int} {v : InV} (hj : jmpB v.op = true ∨ v.op = 23) (hm : Ru.mayT t (bare v) = true) {x : Int} (h1 : -2147483648 ≤ x) (h2 : x < 2147483648) : Ru.mayT t (lead v x) = true := by
 rw [jmpB_iff] at hj
 have hs : Rc.smallB x = true := by unfold Rc.smallB; simp; exact ⟨h1, h2⟩
 unfold Ru.mayT at hm ⊢
 split
 ·rename_i ht
  rw [if_pos ht] at hm
  obtain ⟨op, a, b, c, k, sub, sc, imm, lb⟩ := v
  simp only [bare, lead, Rc.mayB, Rc.kindB] at *
  rcases hj with (rfl | rfl | rfl | rfl) | rfl
  ·have e : Rc.hasS (Rc.fld 19) 73 = true := by decide
   simp [e, hs] at hm ⊢
   simp [hm]
  ·have e : Rc.hasS (Rc.fld 20) 73 = true := by decide
   simp [e, hs] at hm ⊢
   simp [hm]
  ·have e : Rc.hasS (Rc.fld 21) 73 = true := by decide
   simp [e, hs] at hm ⊢
   simp [hm]
  ·have e : (Rc.fld 22).data.isEmpty = true := by decide
   simp [e] at hm
  ·have e : Rc.hasS (Rc.fld 23) 73 = true := by decide
   simp [e, hs] at hm ⊢
   simp [hm]
 ·rename_i ht
  rw [if_neg ht] at hm
  obtain ⟨op, a, b, c, k, sub, sc, imm, lb⟩ := v
  simp only [bare, lead, Cc.mayB, Cc.kindB] at *
  rcases hj with (rfl | rfl | rfl | rfl) | rfl
  ·have e : Cc.usesB 19 73 = true := by decide
   simp [e, hs] at hm ⊢
   simp [hm]
  ·have e : Cc.row 20 = [] := by decide
   simp [e] at hm
  ·have e : Cc.row 21 = [] := by decide
   simp [e] at hm
  ·have e : Cc.usesB 22 73 = true := by decide
   simp [e, hs] at hm ⊢
   simp [hm]
  ·have e : Cc.usesB 23 73 = true := by decide
   simp [e, hs] at hm ⊢
   simp [hm]
theorem len_jmp {t : Int} {v : InV} (hj : jmpB v.op = true) (hm : Ru.mayT t (bare v) = true) {x : Int} (h1 : -2147483648 ≤ x) (h2 : x < 2147483648) : ((Ru.encT t (lead v x)).length : Int) = if fitB x then (if t = 1 then 8 else 3) else long t := by
 rw [jmpB_iff] at hj
 unfold Ru.mayT at hm
 unfold Ru.encT long
 by_cases ht : t = 1
 ·simp [ht]
 ·rw [if_neg ht] at hm ⊢
  have hz : Cc.cnt (Cc.size x) = if fitB x then 1 else 4 := by
   unfold Cc.size
   cases hf : fitB x
   ·rw [fitB_no] at hf
    rw [if_neg (by omega), if_pos (by omega)]
    decide
   ·rw [fitB_iff] at hf
    rw [if_pos (by omega)]
    decide
  obtain ⟨op, a, b, c, k, sub, sc, imm, lb⟩ := v
  simp only [bare, lead, Cc.mayB, Cc.enc] at *
  rcases hj with rfl | rfl | rfl | rfl
  ·have e : Cc.row 19 = [106, 105] := by decide
   rw [e]
   simp [Cc.letB, low_len', hz]
   cases fitB x <;> simp [ht]
  ·have e : Cc.row 20 = [] := by decide
   simp [e] at hm
  ·have e : Cc.row 21 = [] := by decide
   simp [e] at hm
  ·have e : Cc.row 22 = [74, 105] := by decide
   rw [e]
   simp [Cc.letB, low_len', hz]
   cases fitB x <;> simp [ht]
theorem bare_lead {v : InV} (h : v.imm = 0) : bare v = lead v 0 := by unfold bare lead; rw [h]
theorem bare_label {v : InV} (h : v.label = 0) : bare v = v := by unfold bare; rw [← h]
theorem len_short {t : Int} {v : InV} (hj : jmpB v.op = true) (hm : Ru.mayT t (bare v) = true) (hi : v.imm = 0) : ((Ru.encT t (bare v)).length : Int) = if t = 1 then 8 else 3 := by
 rw [bare_lead hi, len_jmp hj hm (by decide) (by decide)]
 rw [if_pos (by decide)]
theorem len_call {t : Int} {v : InV} (hc : v.op = 23) (x : Int) : (Ru.encT t (lead v x)).length = (Ru.encT t (bare v)).length := by
 unfold Ru.encT
 split
 ·simp
 ·obtain ⟨op, a, b, c, k, sub, sc, imm, lb⟩ := v
  simp only [bare, lead, Cc.enc] at *
  subst hc
  have e : Cc.row 23 = [52] := by decide
  rw [e]
  simp [Cc.letB, low_len']
theorem PcV.Ok.may {t p : Int} {P : PcV} (h : P.Ok t p) {i : Nat} (hi : i < P.n) : labB P.m p (P.I i) = true ∧ Ru.mayT t (bare (P.I i)) = true := by
 have := h.insts i hi
 unfold instB at this
 simpa using this
theorem PcV.Ok.sh {t p : Int} {P : PcV} (h : P.Ok t p) : (P.sh t).Ok where
 tg := fun i hi hj => by
  have hl := lab_jmp (h.may hi).1 hj
  have := h.marks (P.I i).label.toNat (by omega)
  show (P.M (P.I i).label.toNat).toNat ≤ P.n
  omega
 one := fun i hi => by
  have := (Ru.encT_len t (bare (P.I i))).1
  show (1 : Int) ≤ ((Ru.encT t (bare (P.I i))).length : Int)
  omega
 le := fun i hi hj => by
  have hl := lab_jmp (h.may hi).1 hj
  have := len_short hj (h.may hi).2 hl.1
  show ((Ru.encT t (bare (P.I i))).length : Int) ≤ long t
  rw [this]
  unfold long
  split <;> omega
theorem PcV.Ok.len {t p : Int} {P : PcV} (h : P.Ok t p) {L : Nat → Bool} (hl : (P.sh t).Least L) {i : Nat} (hi : i < P.n) (hj : jmpB (P.I i).op = true) (hs : -2147483648 ≤ (P.sh t).imm L i ∧ (P.sh t).imm L i < 2147483648) :
  ((Ru.encT t (lead (P.I i) ((P.sh t).imm L i))).length : Int) = (P.sh t).size L i := by
 have hv := h.may hi
 have h0 := lab_jmp hv.1 hj
 rw [len_jmp hj hv.2 hs.1 hs.2]
 have hf := hl.far h.sh hi hj
 have e : (P.sh t).j i = true := hj
 have e2 : (P.sh t).s i = if t = 1 then 8 else 3 := len_short hj hv.2 h0.1
 have e3 : (P.sh t).g = long t := rfl
 unfold Sh.size
 rw [e, hf, e2, e3]
 cases fitB ((P.sh t).imm L i) <;> simp
end Lk
end Go.Proofs.YtkiockffejlnhaaGreatDoor
namespace Go.Proofs.YtkiockffejlnhaaGreatDoor
open Go.RowKit
set_option linter.unusedVariables false
section
variable {P : Program} {ops : Array Oper} {md : Region.Mode} {C : World → Prop}
def headQ (P : Program) (md : Region.Mode) (ops : Array Oper) (C : World → Prop) (n : Nat) (L : Array Bool → Act → Prop) : Nat → Array Bool → Act → Prop
 | 0, listed, a => L listed a
 | f + 1, listed, a => Region.ready md ops listed ≠ [] ∧ ∀ i ∈ Region.ready md ops listed, i < n ∧ qOp P ops C i (headQ P md ops C n L f (listed.setIfInBounds i true)) a
theorem any_of_headQ {n g : Nat} {L : Array Bool → Act → Prop} {Q' : Exit → Act → World → Prop} (hL : ∀ listed a w, C w → L listed a → wpAny P md ops Q' g listed a w) (f : Nat) :
  ∀ (listed : Array Bool) (a : Act) (w : World), C w → headQ P md ops C n L f listed a → wpAny P md ops Q' (f + g) listed a w := by
 induction f with
 | zero => intro listed a w hw h; rw [Nat.zero_add]; exact hL _ _ _ hw h
 | succ f ih =>
  intro listed a w hw h
  rw [Nat.add_right_comm]
  exact ⟨fun h0 => absurd h0 h.1, fun i hi => wpOp_of_qOp hw (fun a' w' hw' h' => ih _ a' w' hw' h') (h.2 i hi).2⟩
theorem headQ_take {n i : Nat} {oi : Oper} {v : Value} {L : Array Bool → Act → Prop} (hi : ops[i]? = some oi) (hsel : ∀ (j : Nat) (o : Oper) cs b, ops[j]? = some o → o.op ≠ .select cs b)
  (hs : Region.sinkB md ops n = true) (hc : Region.chainB md ops n = true) (hn : n < ops.size) (hin : i < n) (hdone : ∀ listed a, L listed a → ∀ j ∈ Region.ready md ops listed, n ≤ j) (f : Nat) :
  ∀ (listed : Array Bool) (a : Act), HeadInv md ops n listed →
   (∀ j oj, ops[j]? = some oj → j ≠ i → listed.getD j true = false → (∀ e ∈ oj.after, Region.binds md e = true → e.on ≠ i) → oi.apart ops oj = true) →
   i ∈ Region.ready md ops listed → YieldsIn P ops C oi v a →
   headQ P md ops C n L f (listed.setIfInBounds i true) (a.put oi.dst v) → headQ P md ops C n L (f + 1) listed a := by
 induction f with
 | zero =>
  intro listed a inv hfree hr hy H
  refine ⟨List.ne_nil_of_mem hr, fun j hj => ?_⟩
  have hjn : j < n := Nat.lt_of_not_le fun h => tail_waits hs hc hn inv _ i rfl hin (mem_ready.1 hr).1 j h hj
  by_cases hji : j = i
  ·subst hji; exact ⟨hjn, hy.qOp hi H⟩
  ·exact absurd (hdone _ _ H j (ready_mono hj hji)) (by omega)
 | succ f ih =>
  intro listed a inv hfree hr hy H
  refine ⟨List.ne_nil_of_mem hr, fun j hj => ?_⟩
  have hun := (mem_ready.1 hr).1
  have hjn : j < n := Nat.lt_of_not_le fun h => tail_waits hs hc hn inv _ i rfl hin hun j h hj
  refine ⟨hjn, ?_⟩
  by_cases hji : j = i
  ·subst hji; exact hy.qOp hi H
  ·obtain ⟨hjun, oj, hoj, hall⟩ := mem_ready.1 hj
   have hnot : ∀ e ∈ oj.after, Region.binds md e = true → e.on ≠ i := fun e he hb heq => by
    have h1 := hall e he hb
    rw [heq, getD_both hun] at h1
    cases h1
   have h2 := qOp_put hoj (hfree j oj hoj hji hjun hnot) (fun cs b => hsel i oi cs b hi) (fun cs b => hsel j oj cs b hoj) hy (H.2 j (ready_mono hj hji)).2
   refine qOp_mono (fun a' h3 => ih (listed.setIfInBounds j true) a' (inv.set hj hjn) (fun k ok hk hki hun' hno => ?_) (ready_mono hr (Ne.symm hji)) h3.1 ?_) h2
   ·refine hfree k ok hk hki ?_ hno
    by_cases hjk : j = k
    ·subst hjk; exact hjun
    ·rw [getD_set_ne true hjk] at hun'; exact hun'
   ·rw [Array.setIfInBounds_comm _ _ hji]
    exact h3.2
theorem headQ_lex {n g : Nat} {Lq : Act → Prop} (hsel : Region.noSelect ops = true) (hs : Region.sinkB md ops n = true) (hc : Region.chainB md ops n = true) (hn : n < ops.size) :
  ∀ (l : List Oper) (k : Nat) (listed : Array Bool) (a : Act), (∀ j, j < l.length → l[j]? = ops[k + j]?) → k + l.length = n → HeadInv md ops n listed →
  Region.lexHead md ops g l.length k listed = true → wpQuiet P ops C Lq l a →
  headQ P md ops C n (fun listed' a' => Region.seqB md ops g n listed' = true ∧ Lq a') l.length listed a := by
 intro l
 induction l with
 | nil =>
  intro k listed a _ hk _ hB h
  obtain rfl : k = n := by simpa using hk
  exact ⟨by simpa [Region.lexHead] using hB, h⟩
 | cons o l ih =>
  intro k listed a hl hk inv hB h
  have h0 : ops[k]? = some o := by simpa using (hl 0 (by simp)).symm
  simp only [List.length_cons, Region.lexHead, Bool.and_eq_true] at hB
  obtain ⟨⟨hr, hf⟩, hB'⟩ := hB
  simp only [List.length_cons] at hk
  have hr' : k ∈ Region.ready md ops listed := by simpa using hr
  obtain ⟨v, hy, hK⟩ := yieldsIn_of_qOp (K := wpQuiet P ops C Lq l) (C := C) h0 (by unfold qOp; simp only [h0]; exact h)
  refine headQ_take h0 (Region.noSelect_spec hsel) hs hc hn (by omega) (fun listed' a' hL => seqB_ready hL.1) l.length listed a inv (Region.free_spec h0 hf) hr' hy ?_
  exact ih (k + 1) _ _ (fun j hj => by have := hl (j + 1) (by simp; omega); simpa [Nat.add_assoc, Nat.add_comm 1 j] using this) (by omega) (inv.set hr' (by omega)) hB' hK
theorem tail_class {id : Nat} {Q : Exit → Act → World → Prop} {a : Act} {w : World} {l : List Oper} (C : World → Prop) (n : Nat) (hm : P.follows .mixedOrders = true) (hB : Region.lexTailB .any l.toArray n = true) (hC : C w.drew)
  (h : wpQuiet P l.toArray C (fun a' => ∀ w', C w' → wpList P l.toArray Q (l.drop n) a' w') (l.take n) a) : (Code.region id l.toArray true).wp P Q a w := by
 simp only [Region.lexTailB, Bool.and_eq_true, decide_eq_true_eq] at hB
 obtain ⟨⟨⟨⟨hsel, hn⟩, hs⟩, hc⟩, hlex⟩ := hB
 have hn' : n < l.length := by simpa using hn
 have htl : (l.take n).length = n := by simp; omega
 have hdl : (l.drop n).length = l.toArray.size - n := by simp
 have inv0 : HeadInv .any l.toArray n (Array.replicate l.toArray.size false) :=
  ⟨by simp, fun j oj _ hl => (by rw [getD_replicate_false] at hl; cases hl), fun t _ ht => getD_in (by simpa using ht) (getD_replicate_false _ _)⟩
 have H := headQ_lex (md := .any) (g := l.toArray.size - n) hsel hs hc hn (l.take n) 0 _ a (fun j hj => by
  have hj' : j < n := by rw [htl] at hj; exact hj
  simp [hj']) (by simpa using htl) inv0 (by rw [htl]; exact hlex) h
 refine wp_region_any hm ?_
 have T := any_of_headQ (Q' := Q) (g := l.toArray.size - n) (fun listed a' w' hw' hL => by
  have := wpAny_of_seq (md := .any) (Q' := Q) (l.drop n) n listed a' w' (fun j => by simp [List.getElem?_drop]) (by rw [hdl]; exact hL.1) (hL.2 w' hw')
  rwa [hdl] at this) _ _ _ _ hC H
 rw [htl, show n + (l.toArray.size - n) = l.toArray.size by omega] at T
 exact T
def PanicsIn (P : Program) (ops : Array Oper) (C : World → Prop) (o : Oper) (Z : List PanicEntry → World → Prop) (a : Act) : Prop :=
 Region.wanted o (yielded ops a.tmps) = true ∧ ∀ w, C w → ∃ f args, (execOp a.eval o).run P w = .ok (.enter f args) w ∧ Calls P f args w fun e w' => ∃ ch, e = .panicked ch ∧ Z ch w'
theorem put_defers (a : Act) (d : Option Tmp) (v : Value) : (a.put d v).defers = a.defers := by cases d <;> rfl
theorem PanicsIn.wpOp {p : Nat} {o : Oper} {Z : List PanicEntry → World → Prop} {a : Act} {w : World} {K : Act → World → Prop} {Q : Exit → Act → World → Prop} (ho : ops[p]? = some o) (hw : C w) (h : PanicsIn P ops C o Z a) (hQ : ∀ ch w', Z ch w' → Q (.panic ch) a w') : wpOp P ops Q p K a w := by
 obtain ⟨h1, h2⟩ := h
 obtain ⟨f, args, h3, h4⟩ := h2 w hw
 unfold Go.wpOp
 simp only [ho, h1, if_true]
 refine .inl ?_
 unfold Oper.wp
 rw [h3, Oper.upon_enter]
 refine h4.mono ?_
 rintro e w' ⟨ch, rfl, hz⟩
 exact hQ ch w' hz
end
structure Ch (w w' : World) (l : List Nat) : Prop where
 os : w'.os = w.os
 tape : w'.tape = w.tape
 output : w'.output = w.output
 size : w.heap.size ≤ w'.heap.size
 block : ∀ k, k < w.heap.size → k ∉ l → w'.heap[k]? = w.heap[k]?
theorem Ch.refl (w : World) (l : List Nat) : Ch w w l := ⟨rfl, rfl, rfl, Nat.le_refl _, fun _ _ _ => rfl⟩
theorem Ch.trans {w w1 w2 : World} {l : List Nat} (h1 : Ch w w1 l) (h2 : Ch w1 w2 l) : Ch w w2 l :=
 ⟨h2.os.trans h1.os, h2.tape.trans h1.tape, h2.output.trans h1.output, Nat.le_trans h1.size h2.size, fun k hk hl => (h2.block k (Nat.lt_of_lt_of_le hk h1.size) hl).trans (h1.block k hk hl)⟩
theorem Ch.of {w w' : World} {l : List Nat} (h : w.grownBy w' none) : Ch w w' l := ⟨h.os, h.tape, h.output, h.size, fun k hk _ => h.block k hk (by simp)⟩
theorem Ch.one {w w' : World} {b : Nat} {l : List Nat} (h : w.grownBy w' (some b)) (hb : b ∈ l) : Ch w w' l := ⟨h.os, h.tape, h.output, h.size, fun k hk hl => h.block k hk (by intro e; injection e with e; subst e; exact hl hb)⟩
theorem Ch.mono {w w' : World} {l l' : List Nat} (h : Ch w w' l) (hl : ∀ k, k < w.heap.size → k ∈ l → k ∈ l') : Ch w w' l' := ⟨h.os, h.tape, h.output, h.size, fun k hk hn => h.block k hk (fun hm => hn (hl k hk hm))⟩
theorem Ch.nil {w w' : World} {l : List Nat} (h : Ch w w' l) (hl : ∀ k, k ∈ l → w.heap.size ≤ k) : w.grownBy w' none := ⟨h.os, h.tape, h.output, h.size, fun k hk _ => h.block k hk (fun hm => by have := hl k hm; omega)⟩
theorem Ch.below {w w' : World} {l : List Nat} {N : Nat} (h : Ch w w' l) (hN : N ≤ w.heap.size) (hl : ∀ k, k ∈ l → N ≤ k) : Below N w w' := ⟨h.os, h.tape, h.output, h.size, fun k hk => h.block k (by omega) (fun hm => by have := hl k hm; omega)⟩
theorem Ch.new {w w1 w2 : World} {l : List Nat} (h1 : Ch w w1 l) {b : Nat} (hb : w.heap.size ≤ b) (h2 : w1.grownBy w2 (some b)) : Ch w w2 l :=
 ⟨h2.os.trans h1.os, h2.tape.trans h1.tape, h2.output.trans h1.output, Nat.le_trans h1.size h2.size, fun k hk hl => (h2.block k (Nat.lt_of_lt_of_le hk h1.size) (by intro e; injection e with e; omega)).trans (h1.block k hk hl)⟩
theorem Ch.cell {w w' : World} {l : List Nat} (h : Ch w w' l) {b o : Nat} {v : Value} (hc : w.cell? ⟨b, o, none⟩ = some v) (hb : b ∉ l) : w'.cell? ⟨b, o, none⟩ = some v := by
 have hlt := World.block_lt_of_cell? _ _ hc
 rw [← hc]
 exact World.cell?_of_block (h.block b hlt hb)
structure NumIn (N : Nat) (w : World) (a : Option Addr) (n c : Nat) (M : Nat → Int) : Prop where
 le : n ≤ c
 max : c ≤ maxLen
 lie : n = 0 ∨ ∃ b off, a = some ⟨b, off, none⟩ ∧ b < N ∧ ∀ i, i < n → w.cell? ⟨b, off + i, none⟩ = some (.int .i64 (M i))
theorem NumIn.ch {N : Nat} {w w' : World} {a : Option Addr} {n c : Nat} {M : Nat → Int} {l : List Nat} (h : NumIn N w a n c M) (hg : Ch w w' l) (hl : ∀ k, k ∈ l → N ≤ k) : NumIn N w' a n c M :=
 ⟨h.le, h.max, by
  rcases h.lie with h0 | ⟨b, off, e, hb, hi⟩
  ·exact .inl h0
  ·exact .inr ⟨b, off, e, hb, fun i hi' => hg.cell (hi i hi') (fun hm => by have := hl b hm; omega)⟩⟩
def OwnN (w : World) (base : Nat) (v : Value) (n : Nat) (g : Nat → Int) : Prop := w.ownsRow base 3 1 v n ((List.range n).map fun i => Value.int .i64 (g i))
def OwnZ (w : World) (base : Nat) (v : Value) (l : List Int) : Prop := w.ownsRow base 3 1 v l.length (l.map (Value.int .i64))
theorem OwnZ.n {w : World} {base : Nat} {v : Value} {l : List Int} (h : OwnZ w base v l) : OwnN w base v l.length (fun i => l.getD i 0) := by
 unfold OwnN
 have e : (List.range l.length).map (fun i => Value.int .i64 (l.getD i 0)) = l.map (Value.int .i64) := by
  refine List.ext_getElem (by simp) fun i h1 h2 => ?_
  simp at h1
  simp [List.getD_eq_getElem?_getD, List.getElem?_eq_getElem h1]
 rw [e]
 exact h
theorem OwnN.z {w : World} {base n : Nat} {v : Value} {g : Nat → Int} (h : OwnN w base v n g) : OwnZ w base v ((List.range n).map g) := by
 unfold OwnZ
 rw [List.length_map, List.length_range, List.map_map]
 exact h
theorem OwnN.congr {w : World} {base n : Nat} {v : Value} {g g' : Nat → Int} (h : OwnN w base v n g) (e : ∀ i, i < n → g i = g' i) : OwnN w base v n g' := by
 unfold OwnN at h ⊢
 rw [show (List.range n).map (fun i => Value.int .i64 (g' i)) = (List.range n).map (fun i => Value.int .i64 (g i)) from List.map_congr_left fun i hi => by rw [e i (List.mem_range.1 hi)]]
 exact h
theorem OwnN.low {w : World} {base base' n : Nat} {v : Value} {g : Nat → Int} (h : OwnN w base v n g) (hb : base' ≤ base) : OwnN w base' v n g := World.ownsRow.mono h hb
theorem OwnZ.low {w : World} {base base' : Nat} {v : Value} {l : List Int} (h : OwnZ w base v l) (hb : base' ≤ base) : OwnZ w base' v l := World.ownsRow.mono h hb
theorem ownsRow_ch {w w' : World} {l : List Nat} {base : Nat} {e : TypeId} {size n : Nat} {v : Value} {xs : List Value} (h : w.ownsRow base e size v n xs) (hg : Ch w w' l) (hne : ∀ k, v.ownBlock = some k → k ∉ l) : w'.ownsRow base e size v n xs := by
 refine ⟨h.1, ?_⟩
 rcases h.2 with h0 | ⟨g, cap, cur, e1, e2, e3, e4⟩
 ·exact .inl h0
 ·have hlt : g < w.heap.size := (World.ownsRow.lt h g (by rw [e1]; rfl)).2
  exact .inr ⟨g, cap, cur, e1, e2, (hg.block g hlt (hne g (by rw [e1]; rfl))).trans e3, e4⟩
theorem OwnN.ch {w w' : World} {l : List Nat} {base n : Nat} {v : Value} {g : Nat → Int} (h : OwnN w base v n g) (hg : Ch w w' l) (hne : ∀ k, v.ownBlock = some k → k ∉ l) : OwnN w' base v n g := ownsRow_ch h hg hne
theorem OwnZ.ch {w w' : World} {l : List Nat} {base : Nat} {v : Value} {z : List Int} (h : OwnZ w base v z) (hg : Ch w w' l) (hne : ∀ k, v.ownBlock = some k → k ∉ l) : OwnZ w' base v z := ownsRow_ch h hg hne
theorem OwnN.grow {w w' : World} {base n : Nat} {v : Value} {g : Nat → Int} (h : OwnN w base v n g) (hg : w.grownBy w' none) : OwnN w' base v n g := World.ownsRow.kept h hg (Classical.em _)
theorem OwnZ.grow {w w' : World} {base : Nat} {v : Value} {l : List Int} (h : OwnZ w base v l) (hg : w.grownBy w' none) : OwnZ w' base v l := World.ownsRow.kept h hg (Classical.em _)
theorem OwnN.base {w : World} {base n : Nat} {v : Value} {g : Nat → Int} (h : OwnN w base v n g) : ∀ k, v.ownBlock = some k → base ≤ k := fun k hk => (World.ownsRow.lt h k hk).1
theorem OwnZ.base {w : World} {base : Nat} {v : Value} {l : List Int} (h : OwnZ w base v l) : ∀ k, v.ownBlock = some k → base ≤ k := fun k hk => (World.ownsRow.lt h k hk).1
theorem OwnN.lt {w : World} {base n : Nat} {v : Value} {g : Nat → Int} (h : OwnN w base v n g) : ∀ k, v.ownBlock = some k → k < w.heap.size := fun k hk => (World.ownsRow.lt h k hk).2
theorem OwnZ.lt {w : World} {base : Nat} {v : Value} {l : List Int} (h : OwnZ w base v l) : ∀ k, v.ownBlock = some k → k < w.heap.size := fun k hk => (World.ownsRow.lt h k hk).2
theorem OwnN.slice {w : World} {base n : Nat} {v : Value} {g : Nat → Int} (h : OwnN w base v n g) : ∃ a c, v = .slice a n c ∧ n ≤ c ∧ c ≤ maxLen ∧ (0 < n → ∃ T, a = some ⟨T, 0, none⟩ ∧ base ≤ T ∧ T < w.heap.size) := by
 rcases h.2 with ⟨rfl, h0⟩ | ⟨T, c, cur, rfl, e2, e3, e4, e5, _⟩
 ·exact ⟨none, 0, by rw [h0], by omega, Nat.zero_le _, fun h => by omega⟩
 ·exact ⟨some ⟨T, 0, none⟩, c, rfl, e4, e5, fun _ => ⟨T, rfl, e2, (World.ownsRow.lt h T rfl).2⟩⟩
theorem OwnZ.slice {w : World} {base : Nat} {v : Value} {l : List Int} (h : OwnZ w base v l) : ∃ a c, v = .slice a l.length c ∧ l.length ≤ c ∧ c ≤ maxLen ∧ (0 < l.length → ∃ T, a = some ⟨T, 0, none⟩ ∧ base ≤ T ∧ T < w.heap.size) := h.n.slice
theorem OwnN.cell {w : World} {base n c T : Nat} {g : Nat → Int} (h : OwnN w base (.slice (some ⟨T, 0, none⟩) n c) n g) {i : Nat} (hi : i < n) : w.cell? ⟨T, i, none⟩ = some (.int .i64 (g i)) := by
 rw [World.ownsRow.cellAt h i (by omega), List.getElem?_map, List.getElem?_range hi]
 rfl
theorem OwnN.frozen {w : World} {base n c T : Nat} {g : Nat → Int} (h : OwnN w base (.slice (some ⟨T, 0, none⟩) n c) n g) (i : Nat) : w.frozen? ⟨T, i, none⟩ = false := World.ownsRow.frozenAt h i
def setF (g : Nat → Int) (i : Nat) (x : Int) : Nat → Int := fun k => if k = i then x else g k
theorem grown_set (w : World) (T i : Nat) (u : Value) : w.grownBy (w.setCell ⟨T, i, none⟩ u) (some T) := grown_setCell _ _ _ _
theorem OwnN.set {w : World} {base n c T : Nat} {g : Nat → Int} (h : OwnN w base (.slice (some ⟨T, 0, none⟩) n c) n g) {i : Nat} (hi : i < n) (x : Int) : OwnN (w.setCell ⟨T, i, none⟩ (.int .i64 x)) base (.slice (some ⟨T, 0, none⟩) n c) n (setF g i x) := by
 have := (World.ownsRow.stored h i (.int .i64 x)).1
 unfold OwnN
 rw [show (List.range n).map (fun k => Value.int .i64 (setF g i x k)) = ((List.range n).map fun k => Value.int .i64 (g k)).set i (.int .i64 x) from ?_]
 ·exact this
 ·refine List.ext_getElem (by simp) fun k h1 h2 => ?_
  simp at h1
  simp [setF, List.getElem_set]
  by_cases e : k = i
  ·subst e; simp
  ·simp [e, Ne.symm e]
theorem info_int : (Tryz.prog.info? 3).map (fun i => (i.zero, i.size, i.bytes)) = some (some (.int .i64 0), 1, 8) := by kernel_rfl
theorem run_make_n (w : World) (n : Nat) (hn : (n : Int) ≤ 8796093022208) : ∃ w1, (Instr.makeSlice 30 (.int .i64 n) (.int .i64 n)).run Tryz.prog w = .ok (.slice (some ⟨w.heap.size, 0, none⟩) n n) w1 ∧ OwnN w1 w.heap.size (.slice (some ⟨w.heap.size, 0, none⟩) n n) n (fun _ => 0) ∧ w.grownBy w1 none := by
 obtain ⟨i, hi, hz0, hz1, hz2⟩ := info_parts info_int
 have := run_make (P := Tryz.prog) w 30 3 i (.int .i64 0) Tryz.underlying30 hi hz0 .i64 .i64 n n (by omega) (by omega) (by rw [hz2]; omega) (by omega)
 rw [hz1] at this
 simp only [Int.toNat_natCast, Nat.mul_one] at this
 refine ⟨_, this, ?_, gal⟩
 have e : madeCells (Value.int .i64 0).cells n = ((List.range n).map fun _ => Value.int .i64 0).toArray := by
  apply Array.ext
  ·simp [madeCells]
  ·intro k h1 h2
   simp [madeCells, Value.cells, Nat.mod_one]
 rw [e]
 have := World.ownsRow_lit (base := w.heap.size) (e := 3) (size := 1) w ((List.range n).map fun _ => Value.int .i64 0).toArray n (Nat.le_refl _) (by unfold maxLen; omega) (by simp)
 simpa [OwnN] using this
theorem NumIn.at {N : Nat} {w : World} {a : Option Addr} {n c : Nat} {M : Nat → Int} (h : NumIn N w a n c M) {i : Nat} (hi : i < n) : ∃ b off, a = some ⟨b, off, none⟩ ∧ b < N ∧ w.cell? ⟨b, off + i, none⟩ = some (.int .i64 (M i)) := by
 rcases h.lie with h0 | ⟨b, off, e, hb, hh⟩
 ·omega
 ·exact ⟨b, off, e, hb, hh i hi⟩
theorem wp_appZs {ops : Array Oper} {rest : List Oper} {o : Oper} {a : Act} {Q : Exit → Act → World → Prop} {W : World} (hgd : o.guard = none) (s x : Operand)
  (ho : o.op = .call { callee := .builtin .append, args := #[s, x], argTypes := #[30, 30] }) (base : Nat) (v u : Value) (l m : List Int) (b2 : Nat) (hs : a.eval s = v) (hown : OwnZ W base v l)
  (hx : a.eval x = u) (hsrc : OwnZ W b2 u m) (hl : l.length ≤ 2000000) (hm : m.length ≤ 2000000) (hb : base ≤ W.heap.size)
  (h : ∀ v' w', OwnZ w' base v' (l ++ m) → W.grownBy w' v.ownBlock → wpList Tryz.prog ops Q rest (a.put o.dst v') w') : wpList Tryz.prog ops Q (o :: rest) a W := by
 obtain ⟨i, hi, hz0, hz1, hz2⟩ := info_parts info_int
 rcases hsrc.2 with ⟨rfl, h0⟩ | ⟨T, c, cur, rfl, _⟩
 ·have : m = [] := List.length_eq_zero_iff.1 h0
  subst this
  refine wpList_append_own_none hgd s x 30 ho base 3 i 1 Tryz.underlying30 hi v l.length (l.map (Value.int .i64)) hs hown hx ?_
  exact h v W (by rw [List.append_nil]; exact hown) gr0
 ·refine wpList_append_own _ hgd s x 30 ho base 3 i (.int .i64 0) 1 8 Tryz.underlying30 hi hz0 hz1 hz2 rfl (by decide) v l.length (l.map (Value.int .i64)) hs hown ⟨T, 0, none⟩ m.length c (m.map (Value.int .i64)) hx (by simp)
   (fun j y hj => World.ownsRow.cells hsrc rfl j y hj) (by intro y hy; obtain ⟨z, _, rfl⟩ := List.mem_map.mp hy; rfl) (by unfold maxLen; omega) (by omega) hb ?_
  intro v' w2 ho2 hg2 _
  refine h v' w2 ?_ hg2
  unfold OwnZ
  rw [List.length_append, List.map_append]
  exact ho2
end Go.Proofs.YtkiockffejlnhaaGreatDoor
