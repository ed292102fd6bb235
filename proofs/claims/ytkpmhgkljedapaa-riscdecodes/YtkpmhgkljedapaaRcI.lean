/- risc.agree, Encode, Decode: contracts. -/
import Derived.Test.YtkpmhgkljedapaaRcB
import Derived.Test.YtkpmhgkljedapaaRcC
import Derived.Test.YtkpmhgkljedapaaRcE
import Derived.Test.YtkpmhgkljedapaaRcG
namespace Go.Proofs.Ytkpmhgkljedapaa
open Go.RowKit
set_option linter.unusedVariables false

namespace Rc
def E1 (v : InV) (f : FmV) : Prop := (pk v).code = f.code ∧ (pk v).a = f.a ∧ (pk v).b = f.b ∧ (pk v).c = f.c ∧ (pk v).n = f.n
def E2 (v : InV) (f : FmV) : Prop := (unpk f).op = v.op ∧ (unpk f).a = v.a ∧ (unpk f).b = v.b ∧ (unpk f).c = v.c ∧ (unpk f).k = v.k ∧ (unpk f).sub = v.sub ∧ (unpk f).scale = v.scale ∧ (unpk f).imm = v.imm ∧ (unpk f).label = v.label
def Ag (v : InV) (f : FmV) : Prop := E1 v f ∧ E2 v f ∧ smallB f.n = true ∧ fitB v = true
end Rc

set_option maxHeartbeats 8000000 in
theorem agree_any (v : InV) (f : FmV) (w : World) (h1 : -9223372036854775808 ≤ f.n) (h2 : f.n ≤ 9223372036854775807) (ag : Bool) (hag : ag = true ↔ Rc.Ag v f) :
    Calls Try.prog 17 #[inst v, formv f] w fun e w' => e = .returned (.bool ag) ∧ w.grownBy w' none := by
  have HA : Hid (ag = true ↔ Rc.Ag v f) := hag
  clear hag
  unfold inst formv
  go_enter Try.func17, Try.ntmps17
  go_wp2_with fail
  obtain ⟨W0, hW0⟩ : ∃ W0, W0 = (w.alloc (Obj.cells #[.int .i64 v.op, .int .i64 v.a, .int .i64 v.b, .int .i64 v.c, .int .i64 v.k, .int .i64 v.sub, .int .i64 v.scale, .int .i64 v.imm, .int .i64 v.label] 28)).alloc (Obj.cells #[.int .i64 f.code, .int .i64 f.a, .int .i64 f.b, .int .i64 f.c, .int .i64 f.n] 44) := ⟨_, rfl⟩
  have i0 : ∀ x : Gw W0, x.w.cell? ⟨w.heap.size, 0, none⟩ = some (.int .i64 v.op) := fun x => x.h.cell (by rw [hW0]; simp) (by simp)
  have i1 : ∀ x : Gw W0, x.w.cell? ⟨w.heap.size, 1, none⟩ = some (.int .i64 v.a) := fun x => x.h.cell (by rw [hW0]; simp) (by simp)
  have i2 : ∀ x : Gw W0, x.w.cell? ⟨w.heap.size, 2, none⟩ = some (.int .i64 v.b) := fun x => x.h.cell (by rw [hW0]; simp) (by simp)
  have i3 : ∀ x : Gw W0, x.w.cell? ⟨w.heap.size, 3, none⟩ = some (.int .i64 v.c) := fun x => x.h.cell (by rw [hW0]; simp) (by simp)
  have i4 : ∀ x : Gw W0, x.w.cell? ⟨w.heap.size, 4, none⟩ = some (.int .i64 v.k) := fun x => x.h.cell (by rw [hW0]; simp) (by simp)
  have i5 : ∀ x : Gw W0, x.w.cell? ⟨w.heap.size, 5, none⟩ = some (.int .i64 v.sub) := fun x => x.h.cell (by rw [hW0]; simp) (by simp)
  have i6 : ∀ x : Gw W0, x.w.cell? ⟨w.heap.size, 6, none⟩ = some (.int .i64 v.scale) := fun x => x.h.cell (by rw [hW0]; simp) (by simp)
  have i7 : ∀ x : Gw W0, x.w.cell? ⟨w.heap.size, 7, none⟩ = some (.int .i64 v.imm) := fun x => x.h.cell (by rw [hW0]; simp) (by simp)
  have i8 : ∀ x : Gw W0, x.w.cell? ⟨w.heap.size, 8, none⟩ = some (.int .i64 v.label) := fun x => x.h.cell (by rw [hW0]; simp) (by simp)
  have j0 : ∀ x : Gw W0, x.w.cell? ⟨w.heap.size + 1, 0, none⟩ = some (.int .i64 f.code) := fun x => x.h.cell (by rw [hW0]; simp) (by simp)
  have j1 : ∀ x : Gw W0, x.w.cell? ⟨w.heap.size + 1, 1, none⟩ = some (.int .i64 f.a) := fun x => x.h.cell (by rw [hW0]; simp) (by simp)
  have j2 : ∀ x : Gw W0, x.w.cell? ⟨w.heap.size + 1, 2, none⟩ = some (.int .i64 f.b) := fun x => x.h.cell (by rw [hW0]; simp) (by simp)
  have j3 : ∀ x : Gw W0, x.w.cell? ⟨w.heap.size + 1, 3, none⟩ = some (.int .i64 f.c) := fun x => x.h.cell (by rw [hW0]; simp) (by simp)
  have j4 : ∀ x : Gw W0, x.w.cell? ⟨w.heap.size + 1, 4, none⟩ = some (.int .i64 f.n) := fun x => x.h.cell (by rw [hW0]; simp) (by simp)
  have HG : Hid (w.grownBy W0 none) := by rw [hW0]; exact grown_alloc2 _ _ _
  rw [← hW0]
  clear hW0
  have ne : Nonempty (Gw W0) := ⟨⟨W0, World.grownBy.refl _ _⟩⟩
  have hite : ∀ (p q : Prop) [Decidable p] [Decidable q] (x y : Result Next), (if p then if q then x else y else y) = if p ∧ q then x else y := fun p q _ _ x y => by by_cases hp : p <;> by_cases hq : q <;> simp [hp, hq]
  refine region_grown (by kernel_rfl) (by kernel_rfl) ?_
  by_cases c1 : Rc.E1 v f
  · have d1 := _root_.eq_true c1
    unfold Rc.E1 at d1
    by_cases c2 : Rc.E2 v f
    · have d2 := _root_.eq_true c2
      unfold Rc.E2 at d2
      cases c3 : Rc.smallB f.n
      · have HF : Hid (ag = false) := by
          show _ = _
          cases e : ag
          · rfl
          · exact absurd (HA.out.1 e).2.2.1 (by rw [c3]; decide)
        repeat (go_big_quiet_step ((first
          | (go_at_call 16; exact Gw.call (v := .agg #[.int .i64 (Rc.pk v).code, .int .i64 (Rc.pk v).a, .int .i64 (Rc.pk v).b, .int .i64 (Rc.pk v).c, .int .i64 (Rc.pk v).n]) (pack_any v _))
          | (go_at_call 29; exact Gw.call (v := .agg #[.int .i64 (Rc.unpk f).op, .int .i64 (Rc.unpk f).a, .int .i64 (Rc.unpk f).b, .int .i64 (Rc.unpk f).c, .int .i64 (Rc.unpk f).k, .int .i64 (Rc.unpk f).sub, .int .i64 (Rc.unpk f).scale, .int .i64 (Rc.unpk f).imm, .int .i64 (Rc.unpk f).label]) (unpack_any f _ h1 h2))
          | (go_at_call 31; exact Gw.call (v := .bool (Rc.smallB f.n)) (ffits_any _ _ _ _ _ _))
          | (go_at_call 32; exact Gw.call (v := .bool (Rc.fitB v)) (fits_any v _)))))
        refine wpQuiet_nil ?_
        rintro _ ⟨x, rfl⟩
        go_wp2
        go_ret
        exact ⟨ret_bool HF.out.symm, grown_trans HG.out x.h⟩
      · cases c4 : Rc.fitB v
        · have HF : Hid (ag = false) := by
            show _ = _
            cases e : ag
            · rfl
            · exact absurd (HA.out.1 e).2.2.2 (by rw [c4]; decide)
          repeat (go_big_quiet_step ((first
            | (go_at_call 16; exact Gw.call (v := .agg #[.int .i64 (Rc.pk v).code, .int .i64 (Rc.pk v).a, .int .i64 (Rc.pk v).b, .int .i64 (Rc.pk v).c, .int .i64 (Rc.pk v).n]) (pack_any v _))
            | (go_at_call 29; exact Gw.call (v := .agg #[.int .i64 (Rc.unpk f).op, .int .i64 (Rc.unpk f).a, .int .i64 (Rc.unpk f).b, .int .i64 (Rc.unpk f).c, .int .i64 (Rc.unpk f).k, .int .i64 (Rc.unpk f).sub, .int .i64 (Rc.unpk f).scale, .int .i64 (Rc.unpk f).imm, .int .i64 (Rc.unpk f).label]) (unpack_any f _ h1 h2))
            | (go_at_call 31; exact Gw.call (v := .bool (Rc.smallB f.n)) (ffits_any _ _ _ _ _ _))
            | (go_at_call 32; exact Gw.call (v := .bool (Rc.fitB v)) (fits_any v _)))))
          refine wpQuiet_nil ?_
          rintro _ ⟨x, rfl⟩
          go_wp2
          go_ret
          exact ⟨ret_bool HF.out.symm, grown_trans HG.out x.h⟩
        · have HF : Hid (ag = true) := HA.out.2 ⟨c1, c2, c3, c4⟩
          repeat (go_big_quiet_step ((first
            | (go_at_call 16; exact Gw.call (v := .agg #[.int .i64 (Rc.pk v).code, .int .i64 (Rc.pk v).a, .int .i64 (Rc.pk v).b, .int .i64 (Rc.pk v).c, .int .i64 (Rc.pk v).n]) (pack_any v _))
            | (go_at_call 29; exact Gw.call (v := .agg #[.int .i64 (Rc.unpk f).op, .int .i64 (Rc.unpk f).a, .int .i64 (Rc.unpk f).b, .int .i64 (Rc.unpk f).c, .int .i64 (Rc.unpk f).k, .int .i64 (Rc.unpk f).sub, .int .i64 (Rc.unpk f).scale, .int .i64 (Rc.unpk f).imm, .int .i64 (Rc.unpk f).label]) (unpack_any f _ h1 h2))
            | (go_at_call 31; exact Gw.call (v := .bool (Rc.smallB f.n)) (ffits_any _ _ _ _ _ _))
            | (go_at_call 32; exact Gw.call (v := .bool (Rc.fitB v)) (fits_any v _)))))
          refine wpQuiet_nil ?_
          rintro _ ⟨x, rfl⟩
          go_wp2
          go_ret
          exact ⟨ret_bool HF.out.symm, grown_trans HG.out x.h⟩
    · have d2 := _root_.eq_false c2
      unfold Rc.E2 at d2
      have HF : Hid (ag = false) := by
        show _ = _
        cases e : ag
        · rfl
        · exact absurd (HA.out.1 e).2.1 c2
      repeat (go_big_quiet_step ((first
        | (go_at_call 16; exact Gw.call (v := .agg #[.int .i64 (Rc.pk v).code, .int .i64 (Rc.pk v).a, .int .i64 (Rc.pk v).b, .int .i64 (Rc.pk v).c, .int .i64 (Rc.pk v).n]) (pack_any v _))
        | (go_at_call 29; exact Gw.call (v := .agg #[.int .i64 (Rc.unpk f).op, .int .i64 (Rc.unpk f).a, .int .i64 (Rc.unpk f).b, .int .i64 (Rc.unpk f).c, .int .i64 (Rc.unpk f).k, .int .i64 (Rc.unpk f).sub, .int .i64 (Rc.unpk f).scale, .int .i64 (Rc.unpk f).imm, .int .i64 (Rc.unpk f).label]) (unpack_any f _ h1 h2))
        | (go_at_call 31; exact Gw.call (v := .bool (Rc.smallB f.n)) (ffits_any _ _ _ _ _ _))
        | (go_at_call 32; exact Gw.call (v := .bool (Rc.fitB v)) (fits_any v _)))))
      refine wpQuiet_nil ?_
      rintro _ ⟨x, rfl⟩
      go_wp2
      go_ret
      exact ⟨ret_bool HF.out.symm, grown_trans HG.out x.h⟩
  · have d1 := _root_.eq_false c1
    unfold Rc.E1 at d1
    have HF : Hid (ag = false) := by
      show _ = _
      cases e : ag
      · rfl
      · exact absurd (HA.out.1 e).1 c1
    repeat (go_big_quiet_step ((first
      | (go_at_call 16; exact Gw.call (v := .agg #[.int .i64 (Rc.pk v).code, .int .i64 (Rc.pk v).a, .int .i64 (Rc.pk v).b, .int .i64 (Rc.pk v).c, .int .i64 (Rc.pk v).n]) (pack_any v _))
      | (go_at_call 29; exact Gw.call (v := .agg #[.int .i64 (Rc.unpk f).op, .int .i64 (Rc.unpk f).a, .int .i64 (Rc.unpk f).b, .int .i64 (Rc.unpk f).c, .int .i64 (Rc.unpk f).k, .int .i64 (Rc.unpk f).sub, .int .i64 (Rc.unpk f).scale, .int .i64 (Rc.unpk f).imm, .int .i64 (Rc.unpk f).label]) (unpack_any f _ h1 h2))
      | (go_at_call 31; exact Gw.call (v := .bool (Rc.smallB f.n)) (ffits_any _ _ _ _ _ _))
      | (go_at_call 32; exact Gw.call (v := .bool (Rc.fitB v)) (fits_any v _)))))
    refine wpQuiet_nil ?_
    rintro _ ⟨x, rfl⟩
    go_wp2
    go_ret
    exact ⟨ret_bool HF.out.symm, grown_trans HG.out x.h⟩

end Go.Proofs.Ytkpmhgkljedapaa
