/- cisc.Decode: its contract. -/
import Derived.Test.YtbghjlamedlchaaDoorCdRead
import Derived.Test.YtbghjlamedlchaaDoorCdFits
namespace Go.Proofs.YtbghjlamedlchaaDoor
open Go.RowKit
set_option linter.unusedVariables false

namespace Cc
theorem cdec_err {N : Nat} {g : Nat → Int} (h : (rtell N g).2.2 ≠ 0) : cdec N g = rtell N g := by
  unfold cdec
  unfold rtell at h ⊢
  by_cases h0 : N = 0
  · simp only [if_pos h0]
  simp only [if_neg h0] at h ⊢
  cases hr : (row (g 0)).isEmpty
  case true => rfl
  simp only [hr, Bool.false_eq_true, if_false] at h ⊢
  by_cases h1 : (cread N g).2 = 0
  · simp only [if_pos h1]
  simp only [if_neg h1] at h ⊢
  by_cases h2 : (cread N g).2 < 0
  · rw [if_pos (.inl h2), if_pos h2]
  · rw [if_neg h2] at h
    exact absurd rfl h
theorem cdec_ok {N : Nat} {g : Nat → Int} (h : (rtell N g).2.2 = 0) (hf : fitsB (rtell N g).1 = true) : cdec N g = rtell N g := by
  unfold cdec
  unfold rtell at h hf ⊢
  by_cases h0 : N = 0
  · simp only [if_pos h0]
  simp only [if_neg h0] at h hf ⊢
  cases hr : (row (g 0)).isEmpty
  case true => rfl
  simp only [hr, Bool.false_eq_true, if_false] at h hf ⊢
  by_cases h1 : (cread N g).2 = 0
  · simp only [if_pos h1]
  simp only [if_neg h1] at h hf ⊢
  by_cases h2 : (cread N g).2 < 0
  · rw [if_pos h2] at h; cases h
  rw [if_neg h2] at hf ⊢
  rw [if_neg]
  rintro (e | e)
  · exact h2 e
  · rw [show fitsB (cread N g).1 = true from hf] at e; cases e
theorem cdec_no {N : Nat} {g : Nat → Int} (h : (rtell N g).2.2 = 0) (hf : fitsB (rtell N g).1 = false) : cdec N g = (zero, 0, 40) := by
  unfold cdec
  unfold rtell at h hf
  by_cases h0 : N = 0
  · rw [if_pos h0] at h; cases h
  rw [if_neg h0] at h hf
  rw [if_neg h0]
  cases hr : (row (g 0)).isEmpty
  case true => rfl
  rw [hr, if_neg (by decide)] at h hf
  rw [if_neg (by decide)]
  by_cases h1 : (cread N g).2 = 0
  · rw [if_pos h1] at h; cases h
  rw [if_neg h1] at h hf
  rw [if_neg h1]
  by_cases h2 : (cread N g).2 < 0
  · rw [if_pos h2] at h; cases h
  rw [if_neg h2] at hf
  rw [if_pos (.inr hf)]
end Cc

/-- cisc.Decode, where what read and fits tell is known -/
def ReadIs (w : World) (ao : Option Addr) (n cap : Nat) (X : InV) (T E : Int) : Prop :=
  ∀ W, w.grownBy W none → Calls Tryd.prog 36 #[.slice ao n cap] W fun e w' => e = .returned (.tuple #[.agg #[.int .i64 X.op, .int .i64 X.a, .int .i64 X.b, .int .i64 X.c, .int .i64 X.k, .int .i64 X.sub, .int .i64 X.scale, .int .i64 X.imm, .int .i64 X.label], .int .i64 T, .int .i64 E]) ∧ W.grownBy w' none
def FitsIs (X : InV) (b : Bool) : Prop :=
  ∀ W, Calls Tryd.prog 37 #[.agg #[.int .i64 X.op, .int .i64 X.a, .int .i64 X.b, .int .i64 X.c, .int .i64 X.k, .int .i64 X.sub, .int .i64 X.scale, .int .i64 X.imm, .int .i64 X.label]] W fun e w' => e = .returned (.bool b) ∧ W.grownBy w' none

set_option maxRecDepth 100000 in
set_option maxHeartbeats 8000000 in
theorem cdecode_no {w : World} {ao : Option Addr} {n cap : Nat} {X : InV} {T : Int} (hR : ReadIs w ao n cap X T 0) (hF : FitsIs X false) :
    Calls Tryd.prog 15 #[.slice ao n cap] w fun e w' => e = .returned (.tuple #[.agg #[.int .i64 0, .int .i64 0, .int .i64 0, .int .i64 0, .int .i64 0, .int .i64 0, .int .i64 0, .int .i64 0, .int .i64 0], .int .i64 0, .int .i64 40]) ∧ w.grownBy w' none := by
  go_enter Tryd.func15, Tryd.ntmps15
  go_wp2_with (first
    | (go_at_call 36; refine (hR _ (World.grownBy_alloc _ _ _)).mono ?_; rintro e w1 ⟨rfl, g1⟩)
    | (go_at_call 37; refine (hF _).mono ?_; rintro e w2 ⟨rfl, g2⟩; have RS := (((InstAt.new w Cc.zero).kept g1 (by simp)).kept (World.grownBy_alloc w1 (Obj.cells #[.int .i64 X.op, .int .i64 X.a, .int .i64 X.b, .int .i64 X.c, .int .i64 X.k, .int .i64 X.sub, .int .i64 X.scale, .int .i64 X.imm, .int .i64 X.label] 28) none) (by simp)); have RS := RS.kept g2 (by simp); have RK := RS; have IX := (InstAt.new w1 X).kept g2 (by simp); have GG := grown_trans (ga (grown_trans (World.grownBy_alloc _ _ _) g1) _) g2; obtain ⟨x0, x1, x2, x3, x4, x5, x6, x7, x8, xz⟩ := RS; obtain ⟨y0, y1, y2, y3, y4, y5, y6, y7, y8, yz⟩ := IX; have z0 := xz 0; have z1 := xz 1; have z2 := xz 2; have z3 := xz 3; have z4 := xz 4; have z5 := xz 5; have z6 := xz 6; have z7 := xz 7; have z8 := xz 8; clear xz yz))
  have P9 := RK.put9 Cc.zero
  have G9 := grown_put9 w2 w.heap.size Cc.zero
  change bodyPost _ _ _ _ _ (put9 w2 w.heap.size Cc.zero)
  generalize put9 w2 w.heap.size Cc.zero = W9 at *
  obtain ⟨r0, r1, r2, r3, r4, r5, r6, r7, r8, rz⟩ := P9
  simp only [Cc.zero] at r0 r1 r2 r3 r4 r5 r6 r7 r8
  refine bodyPost_ret (by simp [results, Tryd.results15, go_sem, r0, r1, r2, r3, r4, r5, r6, r7, r8]; try rfl) rfl ?_
  exact ⟨rfl, grown_newR GG G9 (Nat.le_refl _)⟩
set_option maxRecDepth 100000 in
set_option maxHeartbeats 8000000 in
theorem cdecode_ok {w : World} {ao : Option Addr} {n cap : Nat} {X : InV} {T : Int} (hR : ReadIs w ao n cap X T 0) (hF : FitsIs X true) :
    Calls Tryd.prog 15 #[.slice ao n cap] w fun e w' => e = .returned (.tuple #[.agg #[.int .i64 X.op, .int .i64 X.a, .int .i64 X.b, .int .i64 X.c, .int .i64 X.k, .int .i64 X.sub, .int .i64 X.scale, .int .i64 X.imm, .int .i64 X.label], .int .i64 T, .int .i64 0]) ∧ w.grownBy w' none := by
  go_enter Tryd.func15, Tryd.ntmps15
  go_wp2_with (first
    | (go_at_call 36; refine (hR _ (World.grownBy_alloc _ _ _)).mono ?_; rintro e w1 ⟨rfl, g1⟩)
    | (go_at_call 37; refine (hF _).mono ?_; rintro e w2 ⟨rfl, g2⟩; have RS := (((InstAt.new w Cc.zero).kept g1 (by simp)).kept (World.grownBy_alloc w1 (Obj.cells #[.int .i64 X.op, .int .i64 X.a, .int .i64 X.b, .int .i64 X.c, .int .i64 X.k, .int .i64 X.sub, .int .i64 X.scale, .int .i64 X.imm, .int .i64 X.label] 28) none) (by simp)); have RS := RS.kept g2 (by simp); have RK := RS; have IX := (InstAt.new w1 X).kept g2 (by simp); have GG := grown_trans (ga (grown_trans (World.grownBy_alloc _ _ _) g1) _) g2; obtain ⟨x0, x1, x2, x3, x4, x5, x6, x7, x8, xz⟩ := RS; obtain ⟨y0, y1, y2, y3, y4, y5, y6, y7, y8, yz⟩ := IX; have z0 := xz 0; have z1 := xz 1; have z2 := xz 2; have z3 := xz 3; have z4 := xz 4; have z5 := xz 5; have z6 := xz 6; have z7 := xz 7; have z8 := xz 8; clear xz yz))
  have P9 := RK.put9 X
  have G9 := grown_put9 w2 w.heap.size X
  change bodyPost _ _ _ _ _ (put9 w2 w.heap.size X)
  generalize put9 w2 w.heap.size X = W9 at *
  obtain ⟨r0, r1, r2, r3, r4, r5, r6, r7, r8, rz⟩ := P9
  refine bodyPost_ret (by simp [results, Tryd.results15, go_sem, r0, r1, r2, r3, r4, r5, r6, r7, r8]; try rfl) rfl ?_
  exact ⟨rfl, grown_newR GG G9 (Nat.le_refl _)⟩
set_option maxRecDepth 100000 in
set_option maxHeartbeats 8000000 in
theorem cdecode_err {w : World} {ao : Option Addr} {n cap : Nat} {X : InV} {T E : Int} (hR : ReadIs w ao n cap X T E) (hE : (E == 0) = false) :
    Calls Tryd.prog 15 #[.slice ao n cap] w fun e w' => e = .returned (.tuple #[.agg #[.int .i64 X.op, .int .i64 X.a, .int .i64 X.b, .int .i64 X.c, .int .i64 X.k, .int .i64 X.sub, .int .i64 X.scale, .int .i64 X.imm, .int .i64 X.label], .int .i64 T, .int .i64 E]) ∧ w.grownBy w' none := by
  go_enter Tryd.func15, Tryd.ntmps15
  go_wp2_with (first
    | (go_at_call 36; refine (hR _ (World.grownBy_alloc _ _ _)).mono ?_; rintro e w1 ⟨rfl, g1⟩; have RS := (((InstAt.new w Cc.zero).kept g1 (by simp)).kept (World.grownBy_alloc w1 (Obj.cells #[.int .i64 X.op, .int .i64 X.a, .int .i64 X.b, .int .i64 X.c, .int .i64 X.k, .int .i64 X.sub, .int .i64 X.scale, .int .i64 X.imm, .int .i64 X.label] 28) none) (by simp)); have RK := RS; have IX := InstAt.new w1 X; have GG := ga (grown_trans (World.grownBy_alloc _ _ _) g1) (Obj.cells #[.int .i64 X.op, .int .i64 X.a, .int .i64 X.b, .int .i64 X.c, .int .i64 X.k, .int .i64 X.sub, .int .i64 X.scale, .int .i64 X.imm, .int .i64 X.label] 28); generalize hW : w1.alloc (Obj.cells #[.int .i64 X.op, .int .i64 X.a, .int .i64 X.b, .int .i64 X.c, .int .i64 X.k, .int .i64 X.sub, .int .i64 X.scale, .int .i64 X.imm, .int .i64 X.label] 28) = w2 at *; obtain ⟨x0, x1, x2, x3, x4, x5, x6, x7, x8, xz⟩ := RS; obtain ⟨y0, y1, y2, y3, y4, y5, y6, y7, y8, yz⟩ := IX; have z0 := xz 0; have z1 := xz 1; have z2 := xz 2; have z3 := xz 3; have z4 := xz 4; have z5 := xz 5; have z6 := xz 6; have z7 := xz 7; have z8 := xz 8; clear xz yz))
  have P9 := RK.put9 X
  have G9 := grown_put9 w2 w.heap.size X
  change bodyPost _ _ _ _ _ (put9 w2 w.heap.size X)
  generalize put9 w2 w.heap.size X = W9 at *
  obtain ⟨r0, r1, r2, r3, r4, r5, r6, r7, r8, rz⟩ := P9
  refine bodyPost_ret (by simp [results, Tryd.results15, go_sem, r0, r1, r2, r3, r4, r5, r6, r7, r8]; try rfl) rfl ?_
  exact ⟨rfl, grown_newR GG G9 (Nat.le_refl _)⟩

theorem cdecode_any {w : World} {ao : Option Addr} {n cap : Nat} {g : Nat → Int} (h : BsIn w ao n cap g) :
    Calls Tryd.prog 15 #[.slice ao n cap] w fun e w' => e = .returned (.tuple #[.agg #[.int .i64 (Cc.dec n g).1.op, .int .i64 (Cc.dec n g).1.a, .int .i64 (Cc.dec n g).1.b, .int .i64 (Cc.dec n g).1.c, .int .i64 (Cc.dec n g).1.k, .int .i64 (Cc.dec n g).1.sub, .int .i64 (Cc.dec n g).1.scale, .int .i64 (Cc.dec n g).1.imm, .int .i64 (Cc.dec n g).1.label], .int .i64 (Cc.dec n g).2.1, .int .i64 (Cc.dec n g).2.2]) ∧ w.grownBy w' none := by
  rw [← Cc.cdec_eq h.fit]
  have HR : ReadIs w ao n cap (Cc.rtell n g).1 (Cc.rtell n g).2.1 (Cc.rtell n g).2.2 := fun W hW => read_any (h.kept hW)
  by_cases h1 : (Cc.rtell n g).2.2 = 0
  · rw [h1] at HR
    cases h2 : Cc.fitsB (Cc.rtell n g).1
    · rw [Cc.cdec_no h1 h2]
      exact cdecode_no HR (fun W => by rw [← h2]; exact cfits_any _ W)
    · rw [Cc.cdec_ok h1 h2, h1]
      exact cdecode_ok HR (fun W => by rw [← h2]; exact cfits_any _ W)
  · rw [Cc.cdec_err h1]
    exact cdecode_err HR (by rw [beq_eq_false_iff_ne]; exact h1)
end Go.Proofs.YtbghjlamedlchaaDoor
