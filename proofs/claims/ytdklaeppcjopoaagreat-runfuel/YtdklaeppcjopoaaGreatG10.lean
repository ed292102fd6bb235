/- Contracts and plain facts that the walks share, text by text: CdDec, RuG, RuH, RuN, CdApp, RuOw, RuWs, RuOpen, RuRow5, RuLw, RuLe, RuHv, RuV, RuVa, RuVb, RuVc, RuVd. -/
import Derived.Test.YtdklaeppcjopoaaGreatG9
import Derived.Test.YtdklaeppcjopoaaGreatCdFits
import Derived.Test.YtdklaeppcjopoaaGreatG5
import Derived.Test.YtdklaeppcjopoaaGreatG7
import Derived.Test.YtdklaeppcjopoaaGreatRuFr
import Derived.Test.YtdklaeppcjopoaaGreatRuFc
import Derived.Test.YtdklaeppcjopoaaGreatG8
import Derived.Test.YtdklaeppcjopoaaGreatG2
import Derived.Test.YtdklaeppcjopoaaGreatCdInst
import Derived.Test.YtdklaeppcjopoaaGreatG1
import Derived.Defers
import Derived.Recover
import Derived.SizedLaws
import Derived.BigGuardPart
import Derived.Deep.RegionLaw
/- cisc.Decode: its contract. -/
namespace Go.Proofs.YtdklaeppcjopoaaGreat
open Go.RowKit
set_option linter.unusedVariables false

namespace Cc
theorem cdec_err {N : Nat} {g : Nat → Int} (h : (rtell N g).2.2 ≠ 0) : cdec N g = rtell N g := by
  unfold cdec
  unfold rtell at h ⊢
  by_cases h0 : N = 0
  · simp only [if_pos h0]
  simp only [if_neg h0] at h ⊢
  cases hr : (row (g 0)).isEmpty
  case true => rfl
  simp only [hr, Bool.false_eq_true, if_false] at h ⊢
  by_cases h1 : (cread N g).2 = 0
  · simp only [if_pos h1]
  simp only [if_neg h1] at h ⊢
  by_cases h2 : (cread N g).2 < 0
  · rw [if_pos (.inl h2), if_pos h2]
  · rw [if_neg h2] at h
    exact absurd rfl h
theorem cdec_ok {N : Nat} {g : Nat → Int} (h : (rtell N g).2.2 = 0) (hf : fitsB (rtell N g).1 = true) : cdec N g = rtell N g := by
  unfold cdec
  unfold rtell at h hf ⊢
  by_cases h0 : N = 0
  · simp only [if_pos h0]
  simp only [if_neg h0] at h hf ⊢
  cases hr : (row (g 0)).isEmpty
  case true => rfl
  simp only [hr, Bool.false_eq_true, if_false] at h hf ⊢
  by_cases h1 : (cread N g).2 = 0
  · simp only [if_pos h1]
  simp only [if_neg h1] at h hf ⊢
  by_cases h2 : (cread N g).2 < 0
  · rw [if_pos h2] at h; cases h
  rw [if_neg h2] at hf ⊢
  rw [if_neg]
  rintro (e | e)
  · exact h2 e
  · rw [show fitsB (cread N g).1 = true from hf] at e; cases e
theorem cdec_no {N : Nat} {g : Nat → Int} (h : (rtell N g).2.2 = 0) (hf : fitsB (rtell N g).1 = false) : cdec N g = (zero, 0, 40) := by
  unfold cdec
  unfold rtell at h hf
  by_cases h0 : N = 0
  · rw [if_pos h0] at h; cases h
  rw [if_neg h0] at h hf
  rw [if_neg h0]
  cases hr : (row (g 0)).isEmpty
  case true => rfl
  rw [hr, if_neg (by decide)] at h hf
  rw [if_neg (by decide)]
  by_cases h1 : (cread N g).2 = 0
  · rw [if_pos h1] at h; cases h
  rw [if_neg h1] at h hf
  rw [if_neg h1]
  by_cases h2 : (cread N g).2 < 0
  · rw [if_pos h2] at h; cases h
  rw [if_neg h2] at hf
  rw [if_pos (.inr hf)]
end Cc

/-- cisc.Decode, where what read and fits tell is known -/
def ReadIs (w : World) (ao : Option Addr) (n cap : Nat) (X : InV) (T E : Int) : Prop :=
  ∀ W, w.grownBy W none → Calls Tryz.prog 217 #[.slice ao n cap] W fun e w' => e = .returned (.tuple #[.agg #[.int .i64 X.op, .int .i64 X.a, .int .i64 X.b, .int .i64 X.c, .int .i64 X.k, .int .i64 X.sub, .int .i64 X.scale, .int .i64 X.imm, .int .i64 X.label], .int .i64 T, .int .i64 E]) ∧ W.grownBy w' none
def FitsIs (X : InV) (b : Bool) : Prop :=
  ∀ W, Calls Tryz.prog 218 #[.agg #[.int .i64 X.op, .int .i64 X.a, .int .i64 X.b, .int .i64 X.c, .int .i64 X.k, .int .i64 X.sub, .int .i64 X.scale, .int .i64 X.imm, .int .i64 X.label]] W fun e w' => e = .returned (.bool b) ∧ W.grownBy w' none

set_option maxRecDepth 100000 in
set_option maxHeartbeats 8000000 in
theorem cdecode_no {w : World} {ao : Option Addr} {n cap : Nat} {X : InV} {T : Int} (hR : ReadIs w ao n cap X T 0) (hF : FitsIs X false) :
    Calls Tryz.prog 212 #[.slice ao n cap] w fun e w' => e = .returned (.tuple #[.agg #[.int .i64 0, .int .i64 0, .int .i64 0, .int .i64 0, .int .i64 0, .int .i64 0, .int .i64 0, .int .i64 0, .int .i64 0], .int .i64 0, .int .i64 40]) ∧ w.grownBy w' none := by
  go_enter Tryz.func212, Tryz.ntmps212
  go_wp2_with (first
    | (go_at_call 217; refine (hR _ (World.grownBy_alloc _ _ _)).mono ?_; rintro e w1 ⟨rfl, g1⟩)
    | (go_at_call 218; refine (hF _).mono ?_; rintro e w2 ⟨rfl, g2⟩; have RS := (((InstAt.new w Cc.zero).kept g1 (by simp)).kept (World.grownBy_alloc w1 (Obj.cells #[.int .i64 X.op, .int .i64 X.a, .int .i64 X.b, .int .i64 X.c, .int .i64 X.k, .int .i64 X.sub, .int .i64 X.scale, .int .i64 X.imm, .int .i64 X.label] 87) none) (by simp)); have RS := RS.kept g2 (by simp); have RK := RS; have IX := (InstAt.new w1 X).kept g2 (by simp); have GG := grown_trans (ga (grown_trans (World.grownBy_alloc _ _ _) g1) _) g2; obtain ⟨x0, x1, x2, x3, x4, x5, x6, x7, x8, xz⟩ := RS; obtain ⟨y0, y1, y2, y3, y4, y5, y6, y7, y8, yz⟩ := IX; have z0 := xz 0; have z1 := xz 1; have z2 := xz 2; have z3 := xz 3; have z4 := xz 4; have z5 := xz 5; have z6 := xz 6; have z7 := xz 7; have z8 := xz 8; clear xz yz))
  have P9 := RK.put9 Cc.zero
  have G9 := grown_put9 w2 w.heap.size Cc.zero
  change bodyPost _ _ _ _ _ (put9 w2 w.heap.size Cc.zero)
  generalize put9 w2 w.heap.size Cc.zero = W9 at *
  obtain ⟨r0, r1, r2, r3, r4, r5, r6, r7, r8, rz⟩ := P9
  simp only [Cc.zero] at r0 r1 r2 r3 r4 r5 r6 r7 r8
  refine bodyPost_ret (by simp [results, Tryz.results212, go_sem, r0, r1, r2, r3, r4, r5, r6, r7, r8]; try rfl) rfl ?_
  exact ⟨rfl, grown_newR GG G9 (Nat.le_refl _)⟩
set_option maxRecDepth 100000 in
set_option maxHeartbeats 8000000 in
theorem cdecode_ok {w : World} {ao : Option Addr} {n cap : Nat} {X : InV} {T : Int} (hR : ReadIs w ao n cap X T 0) (hF : FitsIs X true) :
    Calls Tryz.prog 212 #[.slice ao n cap] w fun e w' => e = .returned (.tuple #[.agg #[.int .i64 X.op, .int .i64 X.a, .int .i64 X.b, .int .i64 X.c, .int .i64 X.k, .int .i64 X.sub, .int .i64 X.scale, .int .i64 X.imm, .int .i64 X.label], .int .i64 T, .int .i64 0]) ∧ w.grownBy w' none := by
  go_enter Tryz.func212, Tryz.ntmps212
  go_wp2_with (first
    | (go_at_call 217; refine (hR _ (World.grownBy_alloc _ _ _)).mono ?_; rintro e w1 ⟨rfl, g1⟩)
    | (go_at_call 218; refine (hF _).mono ?_; rintro e w2 ⟨rfl, g2⟩; have RS := (((InstAt.new w Cc.zero).kept g1 (by simp)).kept (World.grownBy_alloc w1 (Obj.cells #[.int .i64 X.op, .int .i64 X.a, .int .i64 X.b, .int .i64 X.c, .int .i64 X.k, .int .i64 X.sub, .int .i64 X.scale, .int .i64 X.imm, .int .i64 X.label] 87) none) (by simp)); have RS := RS.kept g2 (by simp); have RK := RS; have IX := (InstAt.new w1 X).kept g2 (by simp); have GG := grown_trans (ga (grown_trans (World.grownBy_alloc _ _ _) g1) _) g2; obtain ⟨x0, x1, x2, x3, x4, x5, x6, x7, x8, xz⟩ := RS; obtain ⟨y0, y1, y2, y3, y4, y5, y6, y7, y8, yz⟩ := IX; have z0 := xz 0; have z1 := xz 1; have z2 := xz 2; have z3 := xz 3; have z4 := xz 4; have z5 := xz 5; have z6 := xz 6; have z7 := xz 7; have z8 := xz 8; clear xz yz))
  have P9 := RK.put9 X
  have G9 := grown_put9 w2 w.heap.size X
  change bodyPost _ _ _ _ _ (put9 w2 w.heap.size X)
  generalize put9 w2 w.heap.size X = W9 at *
  obtain ⟨r0, r1, r2, r3, r4, r5, r6, r7, r8, rz⟩ := P9
  refine bodyPost_ret (by simp [results, Tryz.results212, go_sem, r0, r1, r2, r3, r4, r5, r6, r7, r8]; try rfl) rfl ?_
  exact ⟨rfl, grown_newR GG G9 (Nat.le_refl _)⟩
set_option maxRecDepth 100000 in
set_option maxHeartbeats 8000000 in
theorem cdecode_err {w : World} {ao : Option Addr} {n cap : Nat} {X : InV} {T E : Int} (hR : ReadIs w ao n cap X T E) (hE : (E == 0) = false) :
    Calls Tryz.prog 212 #[.slice ao n cap] w fun e w' => e = .returned (.tuple #[.agg #[.int .i64 X.op, .int .i64 X.a, .int .i64 X.b, .int .i64 X.c, .int .i64 X.k, .int .i64 X.sub, .int .i64 X.scale, .int .i64 X.imm, .int .i64 X.label], .int .i64 T, .int .i64 E]) ∧ w.grownBy w' none := by
  go_enter Tryz.func212, Tryz.ntmps212
  go_wp2_with (first
    | (go_at_call 217; refine (hR _ (World.grownBy_alloc _ _ _)).mono ?_; rintro e w1 ⟨rfl, g1⟩; have RS := (((InstAt.new w Cc.zero).kept g1 (by simp)).kept (World.grownBy_alloc w1 (Obj.cells #[.int .i64 X.op, .int .i64 X.a, .int .i64 X.b, .int .i64 X.c, .int .i64 X.k, .int .i64 X.sub, .int .i64 X.scale, .int .i64 X.imm, .int .i64 X.label] 87) none) (by simp)); have RK := RS; have IX := InstAt.new w1 X; have GG := ga (grown_trans (World.grownBy_alloc _ _ _) g1) (Obj.cells #[.int .i64 X.op, .int .i64 X.a, .int .i64 X.b, .int .i64 X.c, .int .i64 X.k, .int .i64 X.sub, .int .i64 X.scale, .int .i64 X.imm, .int .i64 X.label] 87); generalize hW : w1.alloc (Obj.cells #[.int .i64 X.op, .int .i64 X.a, .int .i64 X.b, .int .i64 X.c, .int .i64 X.k, .int .i64 X.sub, .int .i64 X.scale, .int .i64 X.imm, .int .i64 X.label] 87) = w2 at *; obtain ⟨x0, x1, x2, x3, x4, x5, x6, x7, x8, xz⟩ := RS; obtain ⟨y0, y1, y2, y3, y4, y5, y6, y7, y8, yz⟩ := IX; have z0 := xz 0; have z1 := xz 1; have z2 := xz 2; have z3 := xz 3; have z4 := xz 4; have z5 := xz 5; have z6 := xz 6; have z7 := xz 7; have z8 := xz 8; clear xz yz))
  have P9 := RK.put9 X
  have G9 := grown_put9 w2 w.heap.size X
  change bodyPost _ _ _ _ _ (put9 w2 w.heap.size X)
  generalize put9 w2 w.heap.size X = W9 at *
  obtain ⟨r0, r1, r2, r3, r4, r5, r6, r7, r8, rz⟩ := P9
  refine bodyPost_ret (by simp [results, Tryz.results212, go_sem, r0, r1, r2, r3, r4, r5, r6, r7, r8]; try rfl) rfl ?_
  exact ⟨rfl, grown_newR GG G9 (Nat.le_refl _)⟩

theorem cdecode_any {w : World} {ao : Option Addr} {n cap : Nat} {g : Nat → Int} (h : BsIn w ao n cap g) :
    Calls Tryz.prog 212 #[.slice ao n cap] w fun e w' => e = .returned (.tuple #[.agg #[.int .i64 (Cc.dec n g).1.op, .int .i64 (Cc.dec n g).1.a, .int .i64 (Cc.dec n g).1.b, .int .i64 (Cc.dec n g).1.c, .int .i64 (Cc.dec n g).1.k, .int .i64 (Cc.dec n g).1.sub, .int .i64 (Cc.dec n g).1.scale, .int .i64 (Cc.dec n g).1.imm, .int .i64 (Cc.dec n g).1.label], .int .i64 (Cc.dec n g).2.1, .int .i64 (Cc.dec n g).2.2]) ∧ w.grownBy w' none := by
  rw [← Cc.cdec_eq h.fit]
  have HR : ReadIs w ao n cap (Cc.rtell n g).1 (Cc.rtell n g).2.1 (Cc.rtell n g).2.2 := fun W hW => read_any (h.kept hW)
  by_cases h1 : (Cc.rtell n g).2.2 = 0
  · rw [h1] at HR
    cases h2 : Cc.fitsB (Cc.rtell n g).1
    · rw [Cc.cdec_no h1 h2]
      exact cdecode_no HR (fun W => by rw [← h2]; exact cfits_any _ W)
    · rw [Cc.cdec_ok h1 h2, h1]
      exact cdecode_ok HR (fun W => by rw [← h2]; exact cfits_any _ W)
  · rw [Cc.cdec_err h1]
    exact cdecode_err HR (by rw [beq_eq_false_iff_ne]; exact h1)
end Go.Proofs.YtdklaeppcjopoaaGreat

/- The program's machines: a whole step, by the plain machine. -/
namespace Go.Proofs.YtdklaeppcjopoaaGreat
open Go.RowKit
set_option linter.unusedVariables false

set_option maxRecDepth 100000 in
set_option maxHeartbeats 4000000 in
theorem prF {w : World} {h : Pd} {s : Ru.St} (x : IsC w h s)
    (HF : Hid (∀ W, IsC W h s → Calls Tryz.prog 165 #[.pointer (some ⟨h.B, 0, none⟩), .func (.func 166) #[] #[]] W fun r w' => r = .panicked stk ∧ (∃ s', IsC w' h s') ∧ Mc h W w')) :
    Calls Tryz.prog 164 #[.pointer (some ⟨h.B, 0, none⟩)] w fun r w' => r = .panicked stk ∧ (∃ s', IsC w' h s') ∧ Mc h w w' := by
  have G := World.grownBy_alloc w (Obj.cells #[.int .i64 0, .int .i64 0, .int .i64 0, .int .i64 0, .int .i64 0, .int .i64 0, .int .i64 0, .int .i64 0, .int .i64 0] 87) none
  have HX0 : Hid (IsC (w.alloc (Obj.cells #[.int .i64 0, .int .i64 0, .int .i64 0, .int .i64 0, .int .i64 0, .int .i64 0, .int .i64 0, .int .i64 0, .int .i64 0] 87)) h s) := x.kept G
  have HV0 : Hid (Mc h w (w.alloc (Obj.cells #[.int .i64 0, .int .i64 0, .int .i64 0, .int .i64 0, .int .i64 0, .int .i64 0, .int .i64 0, .int .i64 0, .int .i64 0] 87))) := Mc.refl.grown G
  clear x G
  go_enter Tryz.func164, Tryz.ntmps164
  go_wp2_with fail
  refine (HF.out _ HX0.out).mono ?_
  rintro r w1 ⟨rfl, x1, v1⟩
  exact ⟨rfl, rfl, x1, HV0.out.trans v1⟩
set_option maxRecDepth 100000 in
set_option maxHeartbeats 4000000 in
theorem pcF {w : World} {h : Pd} {s : Ru.St} (x : IsC w h s)
    (HF : Hid (∀ W, IsC W h s → Calls Tryz.prog 165 #[.pointer (some ⟨h.B, 0, none⟩), .func (.func 212) #[] #[]] W fun r w' => r = .panicked stk ∧ (∃ s', IsC w' h s') ∧ Mc h W w')) :
    Calls Tryz.prog 211 #[.pointer (some ⟨h.B, 0, none⟩)] w fun r w' => r = .panicked stk ∧ (∃ s', IsC w' h s') ∧ Mc h w w' := by
  have G := World.grownBy_alloc w (Obj.cells #[.int .i64 0, .int .i64 0, .int .i64 0, .int .i64 0, .int .i64 0, .int .i64 0, .int .i64 0, .int .i64 0, .int .i64 0] 87) none
  have HX0 : Hid (IsC (w.alloc (Obj.cells #[.int .i64 0, .int .i64 0, .int .i64 0, .int .i64 0, .int .i64 0, .int .i64 0, .int .i64 0, .int .i64 0, .int .i64 0] 87)) h s) := x.kept G
  have HV0 : Hid (Mc h w (w.alloc (Obj.cells #[.int .i64 0, .int .i64 0, .int .i64 0, .int .i64 0, .int .i64 0, .int .i64 0, .int .i64 0, .int .i64 0, .int .i64 0] 87))) := Mc.refl.grown G
  clear x G
  go_enter Tryz.func211, Tryz.ntmps211
  go_wp2_with fail
  refine (HF.out _ HX0.out).mono ?_
  rintro r w1 ⟨rfl, x1, v1⟩
  exact ⟨rfl, rfl, x1, HV0.out.trans v1⟩
/-- bytes from a place on -/
theorem BsIn.sub {w : World} {b off n cap p : Nat} {g : Nat → Int} {aq : Option Addr} (h : BsIn w (some ⟨b, off, none⟩) n cap g) (hp : p ≤ n) (hq : (if cap = p then some (⟨b, off, none⟩ : Addr) else some ⟨b, off + p, none⟩) = aq) : BsIn w aq (n - p) (cap - p) (Ru.sh g p) := by
  by_cases hc : cap = p
  · have h1 := h.le
    rw [if_pos hc] at hq
    subst hq
    exact ⟨fun e => (by cases e), (by omega), Nat.le_trans (Nat.sub_le _ _) h.max, fun i => h.fit _, .inl (by omega), fun b off h0 => (by omega)⟩
  · rw [if_neg hc] at hq
    subst hq
    refine ⟨fun e => (by cases e), (by have := h.le; omega), Nat.le_trans (Nat.sub_le _ _) h.max, fun i => h.fit _, ?_, fun b' off' h0 e => ?_⟩
    · rcases Nat.eq_zero_or_pos (n - p) with h0 | h0
      · exact .inl h0
      · obtain ⟨b2, off2, e, hcell⟩ := h.bs.at (by omega)
        injection e with e
        injection e with e1 e2
        subst e1 e2
        refine .inr ⟨b, off + p, rfl, fun i hi => ?_⟩
        have := hcell (p + i) (by omega)
        rw [Nat.add_assoc]
        exact this
    · injection e with e
      injection e with e1 e2
      subst e1
      exact h.lt b off (by omega) rfl
theorem wr_place {p : Int} (h1 : 0 ≤ p) (h2 : p ≤ 9223372036854775807) : Ru.wr p = p := by unfold Ru.wr; omega
/-- where the code may lie -/
def Pd.At (h : Pd) : Prop := h.ao = none ∨ ∃ b off, h.ao = some ⟨b, off, none⟩
def inst' (v : InV) : Value := .agg #[.int .i64 v.op, .int .i64 v.a, .int .i64 v.b, .int .i64 v.c, .int .i64 v.k, .int .i64 v.sub, .int .i64 v.scale, .int .i64 v.imm, .int .i64 v.label]
theorem code_len {w : World} {h : Pd} {s : Ru.St} (x : IsC w h s) : (h.N : Int) ≤ 9223372036854775807 := by
  have h1 := x.cd.le
  have h2 := x.cd.max
  have h3 : maxLen ≤ 9223372036854775807 := by decide
  omega
theorem r64_step {w : World} {h : Pd} {s : Ru.St} (x : IsC w h s) (he : s.e = 0) (t1 : h.t = 1) (hA : h.At) :
    Calls Tryz.prog 164 #[.pointer (some ⟨h.B, 0, none⟩)] w (BoP h w (inst' (Ru.next h.im s.pl).1) (Ru.step h.im s)) := by
  have hst : Ru.step h.im s = if (Ru.next h.im s.pl).2.2 then Ru.exec h.im (Ru.next h.im s.pl).1 (s.goto (s.pl + (Ru.next h.im s.pl).2.1)) else s.stop 5 0 := by
    unfold Ru.step; rw [if_pos he]
  have hN := code_len x
  have hpl := x.ok.pl
  have stuck : ∀ {n : InV × Int × Bool}, Ru.next h.im s.pl = n → n.2.2 = false → (Hid (∀ W, IsC W h s → Calls Tryz.prog 165 #[.pointer (some ⟨h.B, 0, none⟩), .func (.func 166) #[] #[]] W fun r w' => r = .panicked stk ∧ (∃ s', IsC w' h s') ∧ Mc h W w')) →
      Calls Tryz.prog 164 #[.pointer (some ⟨h.B, 0, none⟩)] w (BoP h w (inst' (Ru.next h.im s.pl).1) (Ru.step h.im s)) := fun hn h0 HF => by
    refine BoP.no ?_ (prF x HF)
    rw [hst, hn, h0, if_neg (by decide)]
    exact Ru.stop5 he 0
  by_cases ho : s.pl < 0 ∨ (h.N : Int) < s.pl
  · have hn : Ru.next h.im s.pl = (Cc.zero, 0, false) := by unfold Ru.next; rw [if_pos (show s.pl < 0 ∨ (h.im.N : Int) < s.pl from ho)]
    refine stuck hn rfl (fun W hW => pfetch_rout hW ?_)
    unfold Ru.wr
    omega
  · obtain ⟨p, hp⟩ : ∃ p : Nat, s.pl = p := ⟨s.pl.toNat, by omega⟩
    have hpN : p ≤ h.N := by omega
    have hwp : Ru.wr s.pl = p := by rw [wr_place (by omega) (by omega)]; exact hp
    have hn : Ru.next h.im s.pl = if (h.N : Int) - p < 8 then (Cc.zero, 8, false) else (Rc.dv (Ru.sh h.g p), 8, Rc.de (Ru.sh h.g p) == 0) := by
      unfold Ru.next
      rw [if_neg (show ¬ (s.pl < 0 ∨ (h.im.N : Int) < s.pl) from ho), if_pos (show h.im.t = 1 from t1), hp]
      rfl
    rcases hA with ha | ⟨b, off, ha⟩
    · obtain ⟨n0, c0⟩ := x.cd.nil ha
      have hp0 : p = 0 := by omega
      rw [if_pos (by omega)] at hn
      refine stuck hn rfl (fun W hW => pfetch_r0n hW ha n0 c0 p hp0 hwp zeroI 0 31 rfl (fun W' hW' => ?_))
      exact decode_short none 0 0 W' (by decide)
    · obtain ⟨aq, hq⟩ : ∃ aq, (if h.cap = p then some (⟨b, off, none⟩ : Addr) else some ⟨b, off + p, none⟩) = aq := ⟨_, rfl⟩
      by_cases h8 : (h.N : Int) - p < 8
      · rw [if_pos h8] at hn
        refine stuck hn rfl (fun W hW => pfetch_rn hW b off ha p hpN hwp aq hq zeroI 0 31 rfl (fun W' hW' => ?_))
        exact decode_short aq (h.N - p) (h.cap - p) W' (by omega)
      · rw [if_neg h8] at hn
        have hc0 : h.cap ≠ p := by have := x.cd.le; omega
        rw [if_neg hc0] at hq
        subst hq
        have hcells : ∀ W, IsC W h s → ∀ i, i < h.N - p → W.cell? ⟨b, off + p + i, none⟩ = some (.int .u8 (Ru.sh h.g p i)) := fun W hW i hi => by
          have hcd := hW.cd
          rw [ha] at hcd
          have hB := BsIn.sub (aq := some ⟨b, off + p, none⟩) hcd hpN (by rw [if_neg hc0])
          obtain ⟨b2, off2, e, hcell⟩ := hB.bs.at (by omega)
          injection e with e
          injection e with e1 e2
          subst e1 e2
          exact hcell i hi
        have hfit : Mm.Fit (Ru.sh h.g p) := fun i => x.cd.fit _
        have hcl := x.cd.le
        cases hok : Rc.okB (Ru.sh h.g p)
        · rw [Rc.de_no hok] at hn
          refine stuck hn rfl (fun W hW => pfetch_rn hW b off ha p hpN hwp _ (by rw [if_neg hc0]) zeroI 0 30 rfl (fun W' hW' => ?_))
          exact decode_no b (off + p) (h.N - p) (h.cap - p) (Ru.sh h.g p) W' (by omega) (by omega) hfit (hcells W' hW') hok
        · rw [Rc.de_ok hok, Rc.dv_ok hok] at hn
          have hm : Rc.mayB (Rc.rd (Ru.sh h.g p)) = true := by unfold Rc.okB at hok; exact (Bool.and_eq_true _ _ ▸ hok).2
          have hn1 : (Ru.next h.im s.pl).1 = Rc.rd (Ru.sh h.g p) := by rw [hn]
          have hst2 : Ru.step h.im s = Ru.exec h.im (Rc.rd (Ru.sh h.g p)) (s.goto (s.pl + 8)) := by rw [hst, hn]; rfl
          rw [hn1, hst2]
          refine r64_any x he x.ok.r t1 hm (fun W hW => ?_)
          exact pfetch_r hW b off ha p hpN hwp _ (by rw [if_neg hc0]) (Rc.rd (Ru.sh h.g p)) 8 (fun W' hW' => decode_ok b (off + p) (h.N - p) (h.cap - p) (Ru.sh h.g p) W' (by omega) (by omega) hfit (hcells W' hW') hok)
theorem c64_step {w : World} {h : Pd} {s : Ru.St} (x : IsC w h s) (he : s.e = 0) (fc : s.Fc) (t2 : h.t = 2) (hA : h.At) :
    Calls Tryz.prog 211 #[.pointer (some ⟨h.B, 0, none⟩)] w (BoP h w (inst' (Ru.next h.im s.pl).1) (Ru.step h.im s)) := by
  have hst : Ru.step h.im s = if (Ru.next h.im s.pl).2.2 then Ru.exec h.im (Ru.next h.im s.pl).1 (s.goto (s.pl + (Ru.next h.im s.pl).2.1)) else s.stop 5 0 := by
    unfold Ru.step; rw [if_pos he]
  have hN := code_len x
  have hpl := x.ok.pl
  have stuck : ∀ {n : InV × Int × Bool}, Ru.next h.im s.pl = n → n.2.2 = false → (Hid (∀ W, IsC W h s → Calls Tryz.prog 165 #[.pointer (some ⟨h.B, 0, none⟩), .func (.func 212) #[] #[]] W fun r w' => r = .panicked stk ∧ (∃ s', IsC w' h s') ∧ Mc h W w')) →
      Calls Tryz.prog 211 #[.pointer (some ⟨h.B, 0, none⟩)] w (BoP h w (inst' (Ru.next h.im s.pl).1) (Ru.step h.im s)) := fun hn h0 HF => by
    refine BoP.no ?_ (pcF x HF)
    rw [hst, hn, h0, if_neg (by decide)]
    exact Ru.stop5 he 0
  by_cases ho : s.pl < 0 ∨ (h.N : Int) < s.pl
  · have hn : Ru.next h.im s.pl = (Cc.zero, 0, false) := by unfold Ru.next; rw [if_pos (show s.pl < 0 ∨ (h.im.N : Int) < s.pl from ho)]
    refine stuck hn rfl (fun W hW => pfetch_cout hW ?_)
    unfold Ru.wr
    omega
  · obtain ⟨p, hp⟩ : ∃ p : Nat, s.pl = p := ⟨s.pl.toNat, by omega⟩
    have hpN : p ≤ h.N := by omega
    have hwp : Ru.wr s.pl = p := by rw [wr_place (by omega) (by omega)]; exact hp
    obtain ⟨D, hD⟩ : ∃ D, Cc.dec (h.N - p) (Ru.sh h.g p) = D := ⟨_, rfl⟩
    have hn : Ru.next h.im s.pl = (D.1, D.2.1, D.2.2 == 0) := by
      unfold Ru.next
      rw [if_neg (show ¬ (s.pl < 0 ∨ (h.im.N : Int) < s.pl) from ho), if_neg (show ¬ h.im.t = 1 by show ¬ h.t = 1; omega), hp, ← hD]
      rfl
    obtain ⟨v, T, E⟩ := D
    rcases hA with ha | ⟨b, off, ha⟩
    · obtain ⟨n0, c0⟩ := x.cd.nil ha
      have hp0 : p = 0 := by omega
      have hd0 : Cc.dec (h.N - p) (Ru.sh h.g p) = (Cc.zero, 0, 41) := by unfold Cc.dec; rw [if_pos (by omega)]
      rw [hd0] at hD
      injection hD with e1 e2
      injection e2 with e2 e3
      subst e1 e2 e3
      refine stuck hn rfl (fun W hW => pfetch_c0n hW ha n0 c0 p hp0 hwp Cc.zero 0 41 rfl (fun W' hW' => ?_))
      have hB : BsIn W' none 0 0 (Ru.sh h.g p) := ⟨fun _ => ⟨rfl, rfl⟩, Nat.le_refl _, Nat.zero_le _, fun i => x.cd.fit _, .inl rfl, fun _ _ h0 => by omega⟩
      have := cdecode_any hB
      have hd1 : Cc.dec 0 (Ru.sh h.g p) = (Cc.zero, 0, 41) := by unfold Cc.dec; rw [if_pos rfl]
      rw [hd1] at this
      exact this
    · obtain ⟨aq, hq⟩ : ∃ aq, (if h.cap = p then some (⟨b, off, none⟩ : Addr) else some ⟨b, off + p, none⟩) = aq := ⟨_, rfl⟩
      have HD : ∀ W, IsC W h s → Calls Tryz.prog 212 #[.slice aq (h.N - p) (h.cap - p)] W fun r w' => r = .returned (.tuple #[.agg #[.int .i64 v.op, .int .i64 v.a, .int .i64 v.b, .int .i64 v.c, .int .i64 v.k, .int .i64 v.sub, .int .i64 v.scale, .int .i64 v.imm, .int .i64 v.label], .int .i64 T, .int .i64 E]) ∧ W.grownBy w' none := fun W hW => by
        have hcd := hW.cd
        rw [ha] at hcd
        have := cdecode_any (BsIn.sub hcd hpN hq)
        rw [hD] at this
        exact this
      by_cases h0 : E = 0
      · subst h0
        have hm := (Cc.dec_ok hD).1
        have hn1 : (Ru.next h.im s.pl).1 = v := by rw [hn]
        have hst2 : Ru.step h.im s = Ru.exec h.im v (s.goto (s.pl + T)) := by rw [hst, hn]; rfl
        rw [hn1, hst2]
        exact c64_any x he x.ok.r fc t2 hm (fun W hW => pfetch_c hW b off ha p hpN hwp aq hq v T HD)
      · exact stuck hn (by simpa using h0) (fun W hW => pfetch_cn hW b off ha p hpN hwp aq hq v T E (bne0 h0) HD)
end Go.Proofs.YtdklaeppcjopoaaGreat

/- The program's machine behind its interface: coreOf, goOn. -/
namespace Go.Proofs.YtdklaeppcjopoaaGreat
open Go.RowKit
set_option linter.unusedVariables false

theorem assert_r (a : Option Addr) (w : World) : (Instr.typeAssert (.iface 113 (.pointer a)) 75 113 true).run Tryz.prog w = .ok (.tuple #[.pointer a, .bool true]) w := by kernel_rfl
theorem assert_rc (a : Option Addr) (w : World) : (Instr.typeAssert (.iface 116 (.pointer a)) 75 113 true).run Tryz.prog w = .ok (.tuple #[.pointer none, .bool false]) w := by kernel_rfl
theorem assert_c (a : Option Addr) (w : World) : (Instr.typeAssert (.iface 116 (.pointer a)) 75 116 true).run Tryz.prog w = .ok (.tuple #[.pointer a, .bool true]) w := by kernel_rfl
theorem core_r (B : Nat) (w : World) : Calls Tryz.prog 33 #[.iface 113 (.pointer (some ⟨B, 0, none⟩))] w fun r w' => r = .returned (.pointer (some ⟨B, 0, none⟩)) ∧ w' = w := by
  have ar := assert_r
  go_enter Tryz.func33, Tryz.ntmps33
  go_wp2
  go_ret
  exact ⟨rfl, rfl⟩
theorem core_c (B : Nat) (w : World) : Calls Tryz.prog 33 #[.iface 116 (.pointer (some ⟨B, 0, none⟩))] w fun r w' => r = .returned (.pointer (some ⟨B, 0, none⟩)) ∧ w' = w := by
  have ar := assert_rc
  have ac := assert_c
  go_enter Tryz.func33, Tryz.ntmps33
  go_wp2
  go_ret
  exact ⟨rfl, rfl⟩
/-- a machine as its interface holds it -/
def Pd.mi (h : Pd) : Value := .iface (if h.t = 2 then 116 else 113) (.pointer (some ⟨h.B, 0, none⟩))
theorem core_any (h : Pd) (w : World) : Calls Tryz.prog 33 #[h.mi] w fun r w' => r = .returned (.pointer (some ⟨h.B, 0, none⟩)) ∧ w' = w := by
  unfold Pd.mi
  split
  · exact core_c h.B w
  · exact core_r h.B w
set_option maxRecDepth 100000 in
set_option maxHeartbeats 4000000 in
theorem on_idle (p : Addr) (w : World) :
    CallsD Tryz.prog 64 #[.pointer (some p)] .returning w fun e u' w' => e = .returned (.tuple #[]) ∧ u' = .returning ∧ w' = w := by
  refine callsD_of_wpS Tryz.func64 rfl fun c₀ cs hu => ?_
  apply wpS_seq
  apply wpS_region
  simp [wpOpsS, go_sem, recoverD, hu, Tryz.ntmps64, Exit.thenS]
  refine wpS_of_wp ?_
  have ht : #[Value.pointer (some p)] ++ ((Array.replicate 5 undef).setIfInBounds 0 Value.nilIface).setIfInBounds 1 (Value.bool false) = #[.pointer (some p), .nilIface, .bool false, undef, undef, undef] := by kernel_rfl
  rw [ht]
  clear ht
  go_wp2
  cases c₀
  simp_all [bodyPostS, results, Tryz.results64]
set_option maxRecDepth 100000 in
set_option maxHeartbeats 4000000 in
theorem on_panic {h : Pd} {s : Ru.St} {w : World} (x : IsC w h s) (N : Nat) (older : List PanicEntry) (hN : w.cell? ⟨N, 0, none⟩ = some h.mi) :
    CallsD Tryz.prog 64 #[.pointer (some ⟨N, 0, none⟩)] (.panicking ({ v := .iface 224 (.agg #[]), recovered := false } :: older)) w fun e u' w' => e = .returned (.tuple #[]) ∧ u' = .panicking ({ v := .iface 224 (.agg #[]), recovered := true } :: older) ∧ IsC w' h { s with e := 5, n := 0 } ∧ Mc h w w' := by
  have HX : Hid (IsC w h s) := x
  have HC : Hid (∀ W, Calls Tryz.prog 33 #[h.mi] W fun r w' => r = .returned (.pointer (some ⟨h.B, 0, none⟩)) ∧ w' = W) := core_any h
  generalize h.mi = mi at *
  clear x
  refine callsD_of_wpS Tryz.func64 rfl fun c₀ cs hu => ?_
  apply wpS_seq
  apply wpS_region
  simp [wpOpsS, go_sem, recoverD, hu, Tryz.ntmps64, Exit.thenS]
  refine wpS_of_wp ?_
  have ht : #[Value.pointer (some ⟨N, 0, none⟩)] ++ ((Array.replicate 5 undef).setIfInBounds 0 (Value.iface 224 (.agg #[]))).setIfInBounds 1 (Value.bool true) = #[.pointer (some ⟨N, 0, none⟩), .iface 224 (.agg #[]), .bool true, undef, undef, undef] := by kernel_rfl
  rw [ht]
  clear ht
  go_wp2_with (first
    | (go_at_call 33; refine (HC.out _).mono ?_; rintro r w1 ⟨rfl, rfl⟩)
    | (go_at_call 65; refine (pfinish HX.out 5 0).mono ?_; rintro r w2 ⟨rfl, x2, v2⟩))
  simp [bodyPostS, results, Tryz.results64]
  exact ⟨x2, v2⟩
namespace Ru
/-- a machine that is stuck ends with 0 -/
def St.N5 (s : St) : Prop := s.e = 5 → s.n = 0
theorem n5_0 {s : St} (he : s.e = 0) : s.N5 := fun h => by rw [he] at h; exact absurd h (by decide)
theorem n5_stop5 {s : St} (h : s.N5) : (s.stop 5 0).N5 := by
  unfold St.stop
  split
  · exact fun _ => rfl
  · exact h
theorem n5_stop {s : St} (he : s.e = 0) {e n : Int} (h : e ≠ 5) : (s.stop e n).N5 := by rw [stop_e he]; exact fun h' => absurd h' h
theorem n5_set {s : St} (h : s.N5) (a x e : Int) : (s.set a x e).N5 := by
  unfold St.set
  split
  · exact h
  · exact n5_stop5 h
theorem n5_ask {s : St} (h : s.N5) (sub : Int) : (s.ask sub).N5 := by
  unfold St.ask
  split
  · exact h
  · exact n5_stop5 h
theorem n5_bin {s : St} (h : s.N5) (t a sub k x y : Int) : (s.bin t a sub k x y).N5 := by
  unfold St.bin
  split
  · exact n5_set (n5_set h _ _ _) _ _ _
  · exact n5_set h _ _ _
theorem n5_lay {s : St} (h : s.N5) (S : Nat) (a k x : Int) : (s.lay S a k x).N5 := by
  unfold St.lay
  split
  · exact h
  · exact n5_stop5 h
theorem n5_exec {s : St} (he : s.e = 0) (I : Im) (v : InV) : (exec I v s).N5 := by
  have h0 := n5_0 he
  unfold exec
  by_cases c0 : v.op = 1
  · rw [if_pos c0]
    exact h0
  rw [if_neg c0]
  by_cases c1 : v.op = 2
  · rw [if_pos c1]
    exact h0
  rw [if_neg c1]
  by_cases c2 : v.op = 3
  · rw [if_pos c2]
    exact h0
  rw [if_neg c2]
  by_cases c3 : v.op = 4
  · rw [if_pos c3]
    split <;> exact n5_bin h0 _ _ _ _ _ _
  rw [if_neg c3]
  by_cases c4 : v.op = 5
  · rw [if_pos c4]
    exact n5_bin h0 _ _ _ _ _ _
  rw [if_neg c4]
  by_cases c5 : v.op = 6
  · rw [if_pos c5]
    split
    · exact n5_bin h0 _ _ _ _ _ _
    · exact n5_stop5 h0
  rw [if_neg c5]
  by_cases c6 : v.op = 7
  · rw [if_pos c6]
    exact n5_set h0 _ _ _
  rw [if_neg c6]
  by_cases c7 : v.op = 8
  · rw [if_pos c7]
    exact n5_set h0 _ _ _
  rw [if_neg c7]
  by_cases c8 : v.op = 9 ∨ v.op = 10
  · rw [if_pos c8]
    exact h0
  rw [if_neg c8]
  by_cases c9 : v.op = 11 ∨ v.op = 12
  · rw [if_pos c9]
    exact n5_set h0 _ _ _
  rw [if_neg c9]
  by_cases c10 : v.op = 13 ∨ v.op = 14
  · rw [if_pos c10]
    exact n5_lay h0 _ _ _ _
  rw [if_neg c10]
  by_cases c11 : v.op = 15
  · rw [if_pos c11]
    split
    · split
      · exact h0
      · exact n5_ask h0 _
    · exact h0
  rw [if_neg c11]
  by_cases c12 : v.op = 16
  · rw [if_pos c12]
    exact h0
  rw [if_neg c12]
  by_cases c13 : v.op = 17
  · rw [if_pos c13]
    exact h0
  rw [if_neg c13]
  by_cases c14 : v.op = 18
  · rw [if_pos c14]
    split
    · exact h0
    · exact n5_stop5 h0
  rw [if_neg c14]
  by_cases c15 : v.op = 19
  · rw [if_pos c15]
    exact h0
  rw [if_neg c15]
  by_cases c16 : v.op = 20
  · rw [if_pos c16]
    split <;> exact h0
  rw [if_neg c16]
  by_cases c17 : v.op = 21
  · rw [if_pos c17]
    split <;> exact h0
  rw [if_neg c17]
  by_cases c18 : v.op = 22
  · rw [if_pos c18]
    split
    · exact h0
    · exact n5_ask h0 _
  rw [if_neg c18]
  by_cases c19 : v.op = 23
  · rw [if_pos c19]
    unfold St.call
    split
    · exact n5_stop (s := s.put 15 _) he (by decide)
    · exact n5_lay (s := s.put 15 _) h0 _ _ _ _
  rw [if_neg c19]
  by_cases c20 : v.op = 24
  · rw [if_pos c20]
    unfold St.ret
    split
    · exact h0
    · exact n5_stop5 h0
  rw [if_neg c20]
  by_cases c21 : v.op = 25
  · rw [if_pos c21]
    split
    · exact n5_stop he (by decide)
    · exact h0
  rw [if_neg c21]
  by_cases c22 : v.op = 26
  · rw [if_pos c22]
    unfold St.alloc
    repeat' split
    all_goals first | exact h0 | exact n5_stop he (by decide)
  rw [if_neg c22]
  by_cases c23 : v.op = 27
  · rw [if_pos c23]
    exact h0
  rw [if_neg c23]
  by_cases c24 : v.op = 28
  · rw [if_pos c24]
    exact n5_stop he (by decide)
  rw [if_neg c24]
  by_cases c25 : v.op = 29
  · rw [if_pos c25]
    exact n5_stop he (by decide)
  rw [if_neg c25]
  exact h0
theorem n5_step {s : St} (he : s.e = 0) (I : Im) : (step I s).N5 := by
  unfold step
  rw [if_pos he]
  split
  · exact n5_exec (s := s.goto _) he _ _
  · exact n5_stop5 (n5_0 he)
end Ru
/-- behind goOn -/
def GoP (h : Pd) (w : World) (v : InV) (t : Ru.St) (r : Ending) (w' : World) : Prop :=
  (∃ s', IsC w' h s' ∧ s'.e = t.e ∧ s'.n = t.n ∧ (t.e ≠ 5 → s' = t ∧ r = .returned (inst' v))) ∧ (∃ u, r = .returned (inst' u)) ∧ Mc h w w'
/-- a variable of one cell, apart from a machine -/
theorem Mc.cell {h : Pd} {w W w' : World} {s : Ru.St} {K : Nat} {u : Value} (m : Mc h W w') (x : IsC w h s) (hK : w.heap.size ≤ K) (c : W.cell? ⟨K, 0, none⟩ = some u) : w'.cell? ⟨K, 0, none⟩ = some u := by
  have e : w'.heap[K]? = W.heap[K]? := m.block K (World.block_lt_of_cell? _ _ c) (by have := x.hd.lt; omega) (by have := x.mm.row.lt; omega)
  exact (World.cell?_of_block (w := W) e).trans c
set_option maxRecDepth 100000 in
set_option maxHeartbeats 4000000 in
theorem goOn_r {h : Pd} {s t : Ru.St} {w : World} {v : InV} (x : IsC w h s) (hmi : h.mi = (.iface 113 (.pointer (some ⟨h.B, 0, none⟩)))) (ht : t.N5) (HS : Hid (∀ W, IsC W h s → Calls Tryz.prog 164 #[.pointer (some ⟨h.B, 0, none⟩)] W (BoP h W (inst' v) t))) :
    Calls Tryz.prog 34 #[.iface 113 (.pointer (some ⟨h.B, 0, none⟩))] w (GoP h w v t) := by
  have hmf : ∀ (fn : Fn) (first cap : Array Value) (w : World), (Instr.makeFunc fn first cap).run Tryz.prog w = .ok (.func fn first cap) w := fun _ _ _ _ => rfl
  have G : w.grownBy ((w.alloc (Obj.cells #[.iface 113 (.pointer (some ⟨h.B, 0, none⟩))] 75)).alloc (Obj.cells #[.int .i64 0, .int .i64 0, .int .i64 0, .int .i64 0, .int .i64 0, .int .i64 0, .int .i64 0, .int .i64 0, .int .i64 0] 87)) none := ga (World.grownBy_alloc _ _ _) _
  have HX0 : Hid (IsC ((w.alloc (Obj.cells #[.iface 113 (.pointer (some ⟨h.B, 0, none⟩))] 75)).alloc (Obj.cells #[.int .i64 0, .int .i64 0, .int .i64 0, .int .i64 0, .int .i64 0, .int .i64 0, .int .i64 0, .int .i64 0, .int .i64 0] 87)) h s) := x.kept G
  have HV0 : Hid (Mc h w ((w.alloc (Obj.cells #[.iface 113 (.pointer (some ⟨h.B, 0, none⟩))] 75)).alloc (Obj.cells #[.int .i64 0, .int .i64 0, .int .i64 0, .int .i64 0, .int .i64 0, .int .i64 0, .int .i64 0, .int .i64 0, .int .i64 0] 87))) := Mc.refl.grown G
  have HI0 : Hid (InstAt ((w.alloc (Obj.cells #[.iface 113 (.pointer (some ⟨h.B, 0, none⟩))] 75)).alloc (Obj.cells #[.int .i64 0, .int .i64 0, .int .i64 0, .int .i64 0, .int .i64 0, .int .i64 0, .int .i64 0, .int .i64 0, .int .i64 0] 87)) (w.heap.size + 1) Cc.zero) := by
    have := InstAt.new (w.alloc (Obj.cells #[.iface 113 (.pointer (some ⟨h.B, 0, none⟩))] 75)) Cc.zero
    rw [size_alloc] at this
    exact this
  have HM0 : Hid (((w.alloc (Obj.cells #[.iface 113 (.pointer (some ⟨h.B, 0, none⟩))] 75)).alloc (Obj.cells #[.int .i64 0, .int .i64 0, .int .i64 0, .int .i64 0, .int .i64 0, .int .i64 0, .int .i64 0, .int .i64 0, .int .i64 0] 87)).cell? ⟨w.heap.size, 0, none⟩ = some (.iface 113 (.pointer (some ⟨h.B, 0, none⟩)))) := (World.grownBy_alloc _ _ none).cell (by simp) (by simp)
  have HX : Hid (IsC w h s) := x
  clear x G
  go_enter_defers Tryz.func34, Tryz.ntmps34
  go_wp2_with fail
  refine (HS.out _ HX0.out).mono ?_
  rintro r w1 ⟨hr, v1⟩
  have HI1 : Hid (InstAt w1 (w.heap.size + 1) Cc.zero) := v1.inst HI0.out HX.out (by omega)
  have HM1 : Hid (w1.cell? ⟨w.heap.size, 0, none⟩ = some (.iface 113 (.pointer (some ⟨h.B, 0, none⟩)))) := v1.cell HX.out (Nat.le_refl _) HM0.out
  have HV1 : Hid (Mc h w w1) := HV0.out.trans v1
  clear HX0 HV0 HI0 HM0 v1 HS
  rcases hr with ⟨he, rfl, x1⟩ | ⟨he, rfl, s', x1⟩
  · have HX1 : Hid (IsC w1 h t) := x1
    have HE : Hid (t.e ≠ 5) := he
    clear x1 he
    obtain ⟨f0, f1, f2, f3, f4, f5, f6, f7, f8, fz⟩ := HI1.out
    have z0 := fz 0
    have z1 := fz 1
    have z2 := fz 2
    have z3 := fz 3
    have z4 := fz 4
    have z5 := fz 5
    have z6 := fz 6
    have z7 := fz 7
    have z8 := fz 8
    clear fz
    unfold inst'
    go_wp2_with fail
    have P9 := HI1.out.put9 v
    have G9 := grown_put9 w1 (w.heap.size + 1) v
    change bodyPostD _ _ _ _ _ (put9 w1 (w.heap.size + 1) v)
    have HX9 : Hid (IsC (put9 w1 (w.heap.size + 1) v) h t) := HX1.out.far HX.out G9 (by omega)
    have HV9 : Hid (Mc h w (put9 w1 (w.heap.size + 1) v)) := HV1.out.far G9 (by omega)
    generalize put9 w1 (w.heap.size + 1) v = W9 at *
    refine leaves_cons (f := 64) (args := #[.pointer (some ⟨w.heap.size, 0, none⟩)]) (by simp) (by simp [go_sem]) ?_
    refine (on_idle _ _).mono ?_
    rintro e u' w2 ⟨rfl, rfl, rfl⟩
    obtain ⟨q0, q1, q2, q3, q4, q5, q6, q7, q8, qz⟩ := P9
    have HG : GoP h w v t (.returned (inst' v)) w2 := ⟨⟨t, HX9.out, rfl, rfl, fun _ => ⟨rfl, rfl⟩⟩, ⟨v, rfl⟩, HV9.out⟩
    simp [Leaves, settle, results, Tryz.results34, go_sem, q0, q1, q2, q3, q4, q5, q6, q7, q8]
    exact HG
  · have HX1 : Hid (IsC w1 h s') := x1
    have HE : Hid (t.e = 5) := he
    have HT : Hid (t.N5) := ht
    clear x1 he ht
    go_wp2
    refine leaves_cons (f := 64) (args := #[.pointer (some ⟨w.heap.size, 0, none⟩)]) (by simp) (by simp [go_sem]) ?_
    refine (on_panic HX1.out w.heap.size [] (by rw [hmi]; exact HM1.out)).mono ?_
    rintro e u' w2 ⟨rfl, rfl, x2, v2⟩
    obtain ⟨q0, q1, q2, q3, q4, q5, q6, q7, q8, qz⟩ := v2.inst HI1.out HX.out (by omega)
    have HG : GoP h w v t (.returned (inst' Cc.zero)) w2 := ⟨⟨_, x2, HE.out.symm, (HT.out HE.out).symm, fun h5 => absurd HE.out h5⟩, ⟨_, rfl⟩, HV1.out.trans v2⟩
    simp [Leaves, settle, results, Tryz.results34, go_sem, q0, q1, q2, q3, q4, q5, q6, q7, q8]
    exact HG
set_option maxRecDepth 100000 in
set_option maxHeartbeats 4000000 in
theorem goOn_c {h : Pd} {s t : Ru.St} {w : World} {v : InV} (x : IsC w h s) (hmi : h.mi = (.iface 116 (.pointer (some ⟨h.B, 0, none⟩)))) (ht : t.N5) (HS : Hid (∀ W, IsC W h s → Calls Tryz.prog 211 #[.pointer (some ⟨h.B, 0, none⟩)] W (BoP h W (inst' v) t))) :
    Calls Tryz.prog 34 #[.iface 116 (.pointer (some ⟨h.B, 0, none⟩))] w (GoP h w v t) := by
  have hmf : ∀ (fn : Fn) (first cap : Array Value) (w : World), (Instr.makeFunc fn first cap).run Tryz.prog w = .ok (.func fn first cap) w := fun _ _ _ _ => rfl
  have G : w.grownBy ((w.alloc (Obj.cells #[.iface 116 (.pointer (some ⟨h.B, 0, none⟩))] 75)).alloc (Obj.cells #[.int .i64 0, .int .i64 0, .int .i64 0, .int .i64 0, .int .i64 0, .int .i64 0, .int .i64 0, .int .i64 0, .int .i64 0] 87)) none := ga (World.grownBy_alloc _ _ _) _
  have HX0 : Hid (IsC ((w.alloc (Obj.cells #[.iface 116 (.pointer (some ⟨h.B, 0, none⟩))] 75)).alloc (Obj.cells #[.int .i64 0, .int .i64 0, .int .i64 0, .int .i64 0, .int .i64 0, .int .i64 0, .int .i64 0, .int .i64 0, .int .i64 0] 87)) h s) := x.kept G
  have HV0 : Hid (Mc h w ((w.alloc (Obj.cells #[.iface 116 (.pointer (some ⟨h.B, 0, none⟩))] 75)).alloc (Obj.cells #[.int .i64 0, .int .i64 0, .int .i64 0, .int .i64 0, .int .i64 0, .int .i64 0, .int .i64 0, .int .i64 0, .int .i64 0] 87))) := Mc.refl.grown G
  have HI0 : Hid (InstAt ((w.alloc (Obj.cells #[.iface 116 (.pointer (some ⟨h.B, 0, none⟩))] 75)).alloc (Obj.cells #[.int .i64 0, .int .i64 0, .int .i64 0, .int .i64 0, .int .i64 0, .int .i64 0, .int .i64 0, .int .i64 0, .int .i64 0] 87)) (w.heap.size + 1) Cc.zero) := by
    have := InstAt.new (w.alloc (Obj.cells #[.iface 116 (.pointer (some ⟨h.B, 0, none⟩))] 75)) Cc.zero
    rw [size_alloc] at this
    exact this
  have HM0 : Hid (((w.alloc (Obj.cells #[.iface 116 (.pointer (some ⟨h.B, 0, none⟩))] 75)).alloc (Obj.cells #[.int .i64 0, .int .i64 0, .int .i64 0, .int .i64 0, .int .i64 0, .int .i64 0, .int .i64 0, .int .i64 0, .int .i64 0] 87)).cell? ⟨w.heap.size, 0, none⟩ = some (.iface 116 (.pointer (some ⟨h.B, 0, none⟩)))) := (World.grownBy_alloc _ _ none).cell (by simp) (by simp)
  have HX : Hid (IsC w h s) := x
  clear x G
  go_enter_defers Tryz.func34, Tryz.ntmps34
  go_wp2_with fail
  refine (HS.out _ HX0.out).mono ?_
  rintro r w1 ⟨hr, v1⟩
  have HI1 : Hid (InstAt w1 (w.heap.size + 1) Cc.zero) := v1.inst HI0.out HX.out (by omega)
  have HM1 : Hid (w1.cell? ⟨w.heap.size, 0, none⟩ = some (.iface 116 (.pointer (some ⟨h.B, 0, none⟩)))) := v1.cell HX.out (Nat.le_refl _) HM0.out
  have HV1 : Hid (Mc h w w1) := HV0.out.trans v1
  clear HX0 HV0 HI0 HM0 v1 HS
  rcases hr with ⟨he, rfl, x1⟩ | ⟨he, rfl, s', x1⟩
  · have HX1 : Hid (IsC w1 h t) := x1
    have HE : Hid (t.e ≠ 5) := he
    clear x1 he
    obtain ⟨f0, f1, f2, f3, f4, f5, f6, f7, f8, fz⟩ := HI1.out
    have z0 := fz 0
    have z1 := fz 1
    have z2 := fz 2
    have z3 := fz 3
    have z4 := fz 4
    have z5 := fz 5
    have z6 := fz 6
    have z7 := fz 7
    have z8 := fz 8
    clear fz
    unfold inst'
    go_wp2_with fail
    have P9 := HI1.out.put9 v
    have G9 := grown_put9 w1 (w.heap.size + 1) v
    change bodyPostD _ _ _ _ _ (put9 w1 (w.heap.size + 1) v)
    have HX9 : Hid (IsC (put9 w1 (w.heap.size + 1) v) h t) := HX1.out.far HX.out G9 (by omega)
    have HV9 : Hid (Mc h w (put9 w1 (w.heap.size + 1) v)) := HV1.out.far G9 (by omega)
    generalize put9 w1 (w.heap.size + 1) v = W9 at *
    refine leaves_cons (f := 64) (args := #[.pointer (some ⟨w.heap.size, 0, none⟩)]) (by simp) (by simp [go_sem]) ?_
    refine (on_idle _ _).mono ?_
    rintro e u' w2 ⟨rfl, rfl, rfl⟩
    obtain ⟨q0, q1, q2, q3, q4, q5, q6, q7, q8, qz⟩ := P9
    have HG : GoP h w v t (.returned (inst' v)) w2 := ⟨⟨t, HX9.out, rfl, rfl, fun _ => ⟨rfl, rfl⟩⟩, ⟨v, rfl⟩, HV9.out⟩
    simp [Leaves, settle, results, Tryz.results34, go_sem, q0, q1, q2, q3, q4, q5, q6, q7, q8]
    exact HG
  · have HX1 : Hid (IsC w1 h s') := x1
    have HE : Hid (t.e = 5) := he
    have HT : Hid (t.N5) := ht
    clear x1 he ht
    go_wp2
    refine leaves_cons (f := 64) (args := #[.pointer (some ⟨w.heap.size, 0, none⟩)]) (by simp) (by simp [go_sem]) ?_
    refine (on_panic HX1.out w.heap.size [] (by rw [hmi]; exact HM1.out)).mono ?_
    rintro e u' w2 ⟨rfl, rfl, x2, v2⟩
    obtain ⟨q0, q1, q2, q3, q4, q5, q6, q7, q8, qz⟩ := v2.inst HI1.out HX.out (by omega)
    have HG : GoP h w v t (.returned (inst' Cc.zero)) w2 := ⟨⟨_, x2, HE.out.symm, (HT.out HE.out).symm, fun h5 => absurd HE.out h5⟩, ⟨_, rfl⟩, HV1.out.trans v2⟩
    simp [Leaves, settle, results, Tryz.results34, go_sem, q0, q1, q2, q3, q4, q5, q6, q7, q8]
    exact HG
/-- a step of a machine behind its interface -/
theorem goOn_any {h : Pd} {s : Ru.St} {w : World} (x : IsC w h s) (he : s.e = 0) (fc : s.Fc) (ht : h.t = 1 ∨ h.t = 2) (hA : h.At) :
    Calls Tryz.prog 34 #[h.mi] w (GoP h w (Ru.next h.im s.pl).1 (Ru.step h.im s)) := by
  rcases ht with t1 | t2
  · have hmi : h.mi = .iface 113 (.pointer (some ⟨h.B, 0, none⟩)) := by unfold Pd.mi; rw [if_neg (by omega)]
    have := goOn_r x hmi (Ru.n5_step he h.im) (fun W hW => r64_step hW he t1 hA)
    rw [← hmi] at this
    exact this
  · have hmi : h.mi = .iface 116 (.pointer (some ⟨h.B, 0, none⟩)) := by unfold Pd.mi; rw [if_pos t2]
    have := goOn_c x hmi (Ru.n5_step he h.im) (fun W hW => c64_step hW he fc t2 hA)
    rw [← hmi] at this
    exact this
end Go.Proofs.YtdklaeppcjopoaaGreat

/- run.New's parts: bytes.Clone, what an image may be. -/
namespace Go.Proofs.YtdklaeppcjopoaaGreat
open Go.RowKit
set_option linter.unusedVariables false

/-- whole numbers that lie somewhere -/
structure RwIn (k : IntKind) (W : World) (ao : Option Addr) (len cap : Nat) (f : Nat → Int) : Prop where
  nil : ao = none → len = 0 ∧ cap = 0
  le : len ≤ cap
  max : cap ≤ maxLen
  bs : len = 0 ∨ ∃ b off, ao = some ⟨b, off, none⟩ ∧ ∀ i, i < len → W.cell? ⟨b, off + i, none⟩ = some (.int k (f i))
  lt : ∀ b off, 0 < len → ao = some ⟨b, off, none⟩ → b < W.heap.size
theorem RwIn.grow {k : IntKind} {w w' : World} {ao : Option Addr} {n cap : Nat} {f : Nat → Int} {row : Option Nat} (h : RwIn k w ao n cap f) (hg : w.grownBy w' row) (hne : ∀ b off, 0 < n → ao = some ⟨b, off, none⟩ → some b ≠ row) : RwIn k w' ao n cap f where
  nil := h.nil
  le := h.le
  max := h.max
  bs := by
    rcases Nat.eq_zero_or_pos n with h0 | h0
    · exact .inl h0
    · rcases h.bs with e | ⟨b, off, e, hc⟩
      · omega
      · exact .inr ⟨b, off, e, fun i hi => hg.cell (hc i hi) (hne b off h0 e)⟩
  lt := fun b off h0 e => Nat.lt_of_lt_of_le (h.lt b off h0 e) hg.size
/-- an image -/
structure Ig where
  t : Int
  ca : Option Addr
  cn : Nat
  cc : Nat
  cg : Nat → Int
  da : Option Addr
  dn : Nat
  dc : Nat
  dg : Nat → Int
  en : Int
  fa : Option Addr
  fn : Nat
  fc : Nat
  fg : Nat → Int
def Ig.val (I : Ig) : Value := .agg #[.int .i64 I.t, .slice I.ca I.cn I.cc, .slice I.da I.dn I.dc, .int .i64 I.en, .slice I.fa I.fn I.fc]
structure Ig.In (I : Ig) (w : World) : Prop where
  c : BsIn w I.ca I.cn I.cc I.cg
  d : BsIn w I.da I.dn I.dc I.dg
  f : RwIn .i64 w I.fa I.fn I.fc I.fg
theorem Ig.In.kept {I : Ig} {w w' : World} (h : I.In w) (g : w.grownBy w' none) : I.In w' := ⟨h.c.grow g (fun _ _ _ _ => by simp), h.d.grow g (fun _ _ _ _ => by simp), h.f.grow g (fun _ _ _ _ => by simp)⟩
def inB (I : Ig) (p : Int) : Bool := decide (0 ≤ p) && decide (p ≤ I.cn)
/-- may an image be? -/
def Ig.mayB (I : Ig) : Bool := (I.t == 1 || I.t == 2) && decide (I.cn ≤ 1048576) && decide (I.dn ≤ 1048576) && inB I I.en && decide (∀ i, i < I.fn → inB I (I.fg i) = true)
theorem len_i64 {n : Nat} (h : n ≤ maxLen) : (n : Int) ≤ 9223372036854775807 := by
  have h3 : maxLen ≤ 9223372036854775807 := by decide
  omega
set_option maxHeartbeats 4000000 in
theorem inCode_any (I : Ig) (p : Int) (w : World) (hc : (I.cn : Int) ≤ 9223372036854775807) : Calls Tryz.prog 76 #[I.val, .int .i64 p] w fun r w' => r = .returned (.bool (inB I p)) ∧ w.grownBy w' none := by
  obtain ⟨t, ca, cn, cc, cg, da, dn, dc, dg, en, fa, fn, fc, fg⟩ := I
  unfold Ig.val inB
  dsimp only at hc ⊢
  by_cases h0 : 0 ≤ p
  · by_cases h1 : p ≤ cn
    · rw [decide_eq_true h0, decide_eq_true h1]
      have e0 : decide (0 ≤ p) = true := decide_eq_true h0
      have e1 : decide (p ≤ (cn : Int)) = true := decide_eq_true h1
      go_enter Tryz.func76, Tryz.ntmps76
      go_wp2
      go_ret
      exact ⟨rfl, World.grownBy_alloc _ _ _⟩
    · rw [decide_eq_true h0, decide_eq_false h1]
      have e0 : decide (0 ≤ p) = true := decide_eq_true h0
      have e1 : decide (p ≤ (cn : Int)) = false := decide_eq_false h1
      go_enter Tryz.func76, Tryz.ntmps76
      go_wp2
      go_ret
      exact ⟨rfl, World.grownBy_alloc _ _ _⟩
  · rw [decide_eq_false h0]
    have e0 : decide (0 ≤ p) = false := decide_eq_false h0
    go_enter Tryz.func76, Tryz.ntmps76
    go_wp2
    go_ret
    exact ⟨rfl, World.grownBy_alloc _ _ _⟩
theorem nil_eq (w : World) : (binOp .eql 24 (.slice none 0 0) (.slice none 0 0)).run Tryz.prog w = .ok (.bool true) w := by kernel_rfl
theorem nil_ne (ad : Addr) (n cap : Nat) (w : World) : (binOp .eql 24 (.slice (some ad) n cap) (.slice none 0 0)).run Tryz.prog w = .ok (.bool false) w := by kernel_rfl
set_option maxRecDepth 100000 in
set_option maxHeartbeats 4000000 in
theorem clone_any (n cap : Nat) (ao : Option Addr) (g : Nat → Int) (w : World) (hn : (n : Int) ≤ 1048576) (h0 : ao = none → n = 0 ∧ cap = 0) (ha : Bs w ao n g) :
    Calls Tryz.prog 49 #[.slice ao n cap] w fun e w' => ∃ v, e = .returned v ∧ OwnB w' w.heap.size v n g ∧ w.grownBy w' none := by
  obtain ⟨i, hi, hz0, hz1, hz2⟩ := info_parts info_u8
  have e1 := nil_eq
  have e2 := nil_ne
  cases ao with
  | none =>
    obtain ⟨rfl, rfl⟩ := h0 rfl
    go_enter Tryz.func49, Tryz.ntmps49
    go_wp2
    go_ret
    exact ⟨_, rfl, World.ownsRow_nil _ _ _ _, World.grownBy.refl _ _⟩
  | some ad =>
    have HC : Hid (∀ j u, (bytesL n g)[j]? = some u → (w.alloc (.cells #[] 5)).cell? (ad.add j) = some u) := by
      intro j u hu
      obtain ⟨hj, rfl⟩ := bytesL_get hu
      obtain ⟨b, o, e, hc⟩ := ha.at (by omega)
      injection e with e
      subst e
      rw [add_none]
      exact (World.grownBy_alloc _ _ none).cell (hc j hj) (by simp)
    have HL : Hid ((w.alloc (.cells #[] 5)).ownsRow w.heap.size 5 1 (.slice (some ⟨w.heap.size, 0, none⟩) 0 0) 0 []) := OwnL.lit w w.heap.size [] (Nat.le_refl _) (Nat.zero_le _)
    clear ha h0
    go_enter Tryz.func49, Tryz.ntmps49
    go_wp2_with (at_builtin; refine wpList_append_own _ rfl _ _ 24 rfl w.heap.size 5 i (.int .u8 0) 1 1 Tryz.underlying24 hi hz0 hz1 hz2 rfl (by decide) _ 0 [] rfl HL.out ad n cap (bytesL n g) rfl (by rw [bytesL_len]; omega) HC.out (bytesL_one _ _) (by unfold maxLen; omega) (by omega) (by simp) ?_; intro v' w2 ho2 hg2 hv2; simp only [Nat.zero_add, List.nil_append] at ho2)
    go_ret
    exact ⟨_, rfl, ho2, grown_two (b := w.heap.size) (World.grownBy_alloc _ _ _) hg2 (Nat.le_refl _)⟩
theorem inB_all {I : Ig} {k : Nat} (h : ∀ j, j < k → inB I (I.fg j) = true) (hk : inB I (I.fg k) = true) : ∀ j, j < k + 1 → inB I (I.fg j) = true := fun j hj => by
  by_cases e : j = k
  · rw [e]; exact hk
  · exact h j (by omega)
set_option maxRecDepth 100000 in
set_option maxHeartbeats 4000000 in
theorem image_any {I : Ig} {w : World} (hI : I.In w) : Calls Tryz.prog 46 #[I.val] w fun r w' => r = .returned (.bool I.mayB) ∧ w.grownBy w' none := by
  have hcl := len_i64 (Nat.le_trans hI.c.le hI.c.max)
  have hdl := len_i64 (Nat.le_trans hI.d.le hI.d.max)
  have hfl := len_i64 (Nat.le_trans hI.f.le hI.f.max)
  have HIn : Hid (∀ (p : Int) (W : World), Calls Tryz.prog 76 #[I.val, .int .i64 p] W fun r w' => r = .returned (.bool (inB I p)) ∧ W.grownBy w' none) := fun p W => inCode_any I p W hcl
  have HI : Hid (I.In w) := hI
  have hm : I.mayB = ((I.t == 1 || I.t == 2) && decide (I.cn ≤ 1048576) && decide (I.dn ≤ 1048576) && inB I I.en && decide (∀ i, i < I.fn → inB I (I.fg i) = true)) := rfl
  obtain ⟨t, ca, cn, cc, cg, da, dn, dc, dg, en, fa, fn, fc, fg⟩ := I
  unfold Ig.val at HIn ⊢
  dsimp only at hcl hdl hfl HIn hm ⊢
  generalize Ig.mayB _ = M at *
  have G := World.grownBy_alloc w (Obj.cells #[.int .i64 t, .slice ca cn cc, .slice da dn dc, .int .i64 en, .slice fa fn fc] 27) none
  clear hI
  by_cases ht : t = 1 ∨ t = 2
  · have HT : Hid ((t == 1 || t == 2) = true) := by
      show (t == 1 || t == 2) = true
      rcases ht with rfl | rfl <;> rfl
    have tt : (t != 1) = false ∨ ((t != 1) = true ∧ (t != 2) = false) := by rcases ht with rfl | rfl <;> simp
    clear ht
    by_cases hc1 : cn ≤ 1048576
    · have c1 : decide ((1048576 : Int) < cn) = false := decide_eq_false (by omega)
      by_cases hd1 : dn ≤ 1048576
      · have d1 : decide ((1048576 : Int) < dn) = false := decide_eq_false (by omega)
        cases he : inB ⟨t, ca, cn, cc, cg, da, dn, dc, dg, en, fa, fn, fc, fg⟩ en
        · have hM : M = false := by rw [hm, he]; simp
          have HE : Hid (∀ W', Calls Tryz.prog 76 #[.agg #[.int .i64 t, .slice ca cn cc, .slice da dn dc, .int .i64 en, .slice fa fn fc], .int .i64 en] W' fun r w' => r = .returned (.bool false) ∧ W'.grownBy w' none) := fun W' => by have := HIn.out en W'; rw [he] at this; exact this
          subst hM
          clear HIn he hm
          rcases tt with t1 | ⟨t1, t2⟩
          all_goals
            go_enter Tryz.func46, Tryz.ntmps46
            go_wp2_with (go_at_call 76; refine (HE.out _).mono ?_; rintro r w3 ⟨rfl, g3⟩)
            go_ret
            exact ⟨rfl, grown_trans G g3⟩
        · have HE : Hid (∀ W', Calls Tryz.prog 76 #[.agg #[.int .i64 t, .slice ca cn cc, .slice da dn dc, .int .i64 en, .slice fa fn fc], .int .i64 en] W' fun r w' => r = .returned (.bool true) ∧ W'.grownBy w' none) := fun W' => by have := HIn.out en W'; rw [he] at this; exact this
          have HPre : Hid (((t == 1 || t == 2) && decide (cn ≤ 1048576) && decide (dn ≤ 1048576) && inB ⟨t, ca, cn, cc, cg, da, dn, dc, dg, en, fa, fn, fc, fg⟩ en) = true) := by
            show _ = true
            rw [HT.out, he, decide_eq_true hc1, decide_eq_true hd1]
            rfl
          have hm : Hid (M = _) := hm
          have B0 : (w.alloc (Obj.cells #[.int .i64 t, .slice ca cn cc, .slice da dn dc, .int .i64 en, .slice fa fn fc] 27)).cell? ⟨w.heap.size, 0, none⟩ = some (.int .i64 t) := by simp
          have B1 : (w.alloc (Obj.cells #[.int .i64 t, .slice ca cn cc, .slice da dn dc, .int .i64 en, .slice fa fn fc] 27)).cell? ⟨w.heap.size, 1, none⟩ = some (.slice ca cn cc) := by simp
          have B2 : (w.alloc (Obj.cells #[.int .i64 t, .slice ca cn cc, .slice da dn dc, .int .i64 en, .slice fa fn fc] 27)).cell? ⟨w.heap.size, 2, none⟩ = some (.slice da dn dc) := by simp
          have B3 : (w.alloc (Obj.cells #[.int .i64 t, .slice ca cn cc, .slice da dn dc, .int .i64 en, .slice fa fn fc] 27)).cell? ⟨w.heap.size, 3, none⟩ = some (.int .i64 en) := by simp
          have B4 : (w.alloc (Obj.cells #[.int .i64 t, .slice ca cn cc, .slice da dn dc, .int .i64 en, .slice fa fn fc] 27)).cell? ⟨w.heap.size, 4, none⟩ = some (.slice fa fn fc) := by simp
          clear he HT
          rcases HI.out.f.bs with h0 | ⟨b, off, hfa, hfc⟩
          · dsimp only at h0
            subst h0
            have HM : Hid (M = true) := by
              rw [hm.out, Bool.and_eq_true]
              exact And.intro HPre.out (decide_eq_true (fun i h => absurd h (Nat.not_lt_zero i)))
            rw [HM.out]
            clear HIn hm HM HPre HI
            rcases tt with t1 | ⟨t1, t2⟩
            all_goals
              go_enter Tryz.func46, Tryz.ntmps46
              go_wp2_with (go_at_call 76; refine (HE.out _).mono ?_; rintro r w3 ⟨rfl, g3⟩; have b4 := g3.cell B4 (by simp); have G3 := grown_trans G g3)
              clear G B0 B1 B2 B3 B4 b4 g3
              have G := G3
              clear G3
              generalize w3 = W at *
              go_loopw [33] (fun s wr => s = .int .i64 0 ∧ W.grownBy wr none) (fun s _ => 0)
              case atStart => exact ⟨rfl, World.grownBy.refl _ _⟩
              case round =>
                obtain ⟨rfl, gr⟩ := hrel
                have GR := grown_trans G gr
                clear gr
                go_wp2
                go_ret
                exact ⟨rfl, GR⟩
          · dsimp only at hfa hfc
            subst hfa
            have HFc : Hid (∀ i, i < fn → (w.alloc (Obj.cells #[.int .i64 t, .slice ca cn cc, .slice da dn dc, .int .i64 en, .slice (some ⟨b, off, none⟩) fn fc] 27)).cell? ⟨b, off + i, none⟩ = some (.int .i64 (fg i))) := fun i hi => G.cell (hfc i hi) (by simp)
            clear hfc HI
            rcases tt with t1 | ⟨t1, t2⟩
            all_goals
              go_enter Tryz.func46, Tryz.ntmps46
              go_wp2_with (go_at_call 76; refine (HE.out _).mono ?_; rintro r w3 ⟨rfl, g3⟩; have b4 := g3.cell B4 (by simp); have G3 := grown_trans G g3)
              have B0 := g3.cell B0 (by simp)
              have B1 := g3.cell B1 (by simp)
              have B2 := g3.cell B2 (by simp)
              have B3 := g3.cell B3 (by simp)
              have B4 := g3.cell B4 (by simp)
              have HFc : Hid (∀ i, i < fn → w3.cell? ⟨b, off + i, none⟩ = some (.int .i64 (fg i))) := fun i hi => g3.cell (HFc.out i hi) (by simp)
              clear G b4 g3
              have G := G3
              clear G3
              generalize w3 = W at *
              go_loopw [33] (fun s wr => ∃ k : Nat, k ≤ fn ∧ s = .int .i64 k ∧ (∀ j, j < k → inB ⟨t, ca, cn, cc, cg, da, dn, dc, dg, en, some ⟨b, off, none⟩, fn, fc, fg⟩ (fg j) = true) ∧ W.grownBy wr none) (fun s _ => fn - (intOf s).toNat)
              case atStart => exact ⟨0, Nat.zero_le _, rfl, fun j h => by omega, World.grownBy.refl _ _⟩
              case round =>
                obtain ⟨k, hk, rfl, hsame, gr⟩ := hrel
                have HSM : Hid (∀ j, j < k → inB ⟨t, ca, cn, cc, cg, da, dn, dc, dg, en, some ⟨b, off, none⟩, fn, fc, fg⟩ (fg j) = true) := hsame
                have HGR : Hid (W.grownBy wr none) := gr
                clear hsame
                by_cases hlt : k < fn
                · have c1 : wr.cell? ⟨b, off + k, none⟩ = some (.int .i64 (fg k)) := gr.cell (HFc.out k hlt) (by simp)
                  have b0 := gr.cell B0 (by simp)
                  have b1 := gr.cell B1 (by simp)
                  have b2 := gr.cell B2 (by simp)
                  have b3 := gr.cell B3 (by simp)
                  have b4 := gr.cell B4 (by simp)
                  have hlt' : (k : Int) < (fn : Int) := by omega
                  have HN : Hid (∀ W', Calls Tryz.prog 76 #[.agg #[.int .i64 t, .slice ca cn cc, .slice da dn dc, .int .i64 en, .slice (some ⟨b, off, none⟩) fn fc], .int .i64 (fg k)] W' fun r w' => r = .returned (.bool (inB ⟨t, ca, cn, cc, cg, da, dn, dc, dg, en, some ⟨b, off, none⟩, fn, fc, fg⟩ (fg k))) ∧ W'.grownBy w' none) := fun W' => HIn.out (fg k) W'
                  clear gr B0 B1 B2 B3 B4 HIn
                  cases hin : inB ⟨t, ca, cn, cc, cg, da, dn, dc, dg, en, some ⟨b, off, none⟩, fn, fc, fg⟩ (fg k)
                  · have HF : Hid (M = false) := by
                      rw [hm.out]
                      rw [Bool.and_eq_false_iff]
                      exact .inr (decide_eq_false fun h => by have := h k hlt; rw [hin] at this; cases this)
                    rw [hin] at HN
                    clear hin
                    generalize fg k = y at *
                    go_wp2_with (go_at_call 76; refine (HN.out _).mono ?_; rintro r w3 ⟨rfl, g3⟩)
                    go_ret
                    exact ⟨ret_bool HF.out.symm, grown_trans G (grown_trans HGR.out g3)⟩
                  · have HST := inB_all HSM.out hin
                    have HST' : Hid (∀ j, j < k + 1 → inB ⟨t, ca, cn, cc, cg, da, dn, dc, dg, en, some ⟨b, off, none⟩, fn, fc, fg⟩ (fg j) = true) := HST
                    rw [hin] at HN
                    clear hin HST
                    generalize fg k = y at *
                    go_wp2_with (go_at_call 76; refine (HN.out _).mono ?_; rintro r w3 ⟨rfl, g3⟩)
                    go_roundw
                    case rel => exact ⟨k + 1, by omega, by go_num, HST'.out, grown_trans HGR.out g3⟩
                    case measure => simp [intOf]; omega
                · obtain rfl : k = fn := by omega
                  have HT : Hid (M = true) := by
                    rw [hm.out]
                    have : decide (∀ i, i < k → inB ⟨t, ca, cn, cc, cg, da, dn, dc, dg, en, some ⟨b, off, none⟩, k, fc, fg⟩ (fg i) = true) = true := decide_eq_true HSM.out
                    simp only [this, Bool.and_true]
                    exact HPre.out
                  go_wp2
                  go_ret
                  exact ⟨ret_bool HT.out.symm, grown_trans G HGR.out⟩
      · have d1 : decide ((1048576 : Int) < dn) = true := decide_eq_true (by omega)
        have hM : M = false := by rw [hm, decide_eq_false hd1]; simp
        subst hM
        clear HIn hm
        rcases tt with t1 | ⟨t1, t2⟩
        all_goals
          go_enter Tryz.func46, Tryz.ntmps46
          go_wp2
          go_ret
          exact ⟨rfl, G⟩
    · have c1 : decide ((1048576 : Int) < cn) = true := decide_eq_true (by omega)
      have hM : M = false := by rw [hm, decide_eq_false hc1]; simp
      subst hM
      clear HIn hm
      rcases tt with t1 | ⟨t1, t2⟩
      all_goals
        go_enter Tryz.func46, Tryz.ntmps46
        go_wp2
        go_ret
        exact ⟨rfl, G⟩
  · have t1 : (t != 1) = true := by simp; omega
    have t2 : (t != 2) = true := by simp; omega
    have hM : M = false := by
      rw [hm]
      have e1 : (t == 1) = false := by simp; omega
      have e2 : (t == 2) = false := by simp; omega
      rw [e1, e2]; rfl
    subst hM
    go_enter Tryz.func46, Tryz.ntmps46
    go_wp2
    go_ret
    exact ⟨rfl, G⟩
end Go.Proofs.YtdklaeppcjopoaaGreat

/- Bytes appended one by one: cisc.appendNumber, gantryref4.low. -/
namespace Go.Proofs.YtdklaeppcjopoaaGreat
open Go.RowKit
set_option linter.unusedVariables false

theorem OwnL.base {w : World} {base : Nat} {v : Value} {l : List Int} (h : OwnL w base v l) : ∀ k, v.ownBlock = some k → base ≤ k := fun k hk => (World.ownsRow.lt h k hk).1
end Go.Proofs.YtdklaeppcjopoaaGreat

/- Words of the call's own: one more at the end. -/
namespace Go.Proofs.YtdklaeppcjopoaaGreat
open Go.RowKit
set_option linter.unusedVariables false

/-- words of the call's own -/
def OwnW (w : World) (base : Nat) (v : Value) (l : List Int) : Prop := w.ownsRow base 57 1 v l.length (l.map (Value.int .u64))
theorem OwnW.one {w : World} {base : Nat} {v : Value} {l : List Int} {x : Int} (h : w.ownsRow base 57 1 v (l.length + 1) (l.map (Value.int .u64) ++ [.int .u64 x])) : OwnW w base v (l ++ [x]) := by
  unfold OwnW
  simpa using h
theorem info_w64 : (Tryz.prog.info? 57).map (fun i => (i.zero, i.size, i.bytes)) = some (some (.int .u64 0), 1, 8) := by kernel_rfl
theorem stepw_app1 {ops : Array Oper} {o : Oper} {a : Act} {Q : Exit → Act → World → Prop} {K : Act → World → Prop} {E : Prop} {W : World} (hgd : o.guard = none) (s x : Operand)
    (ho : o.op = .call { callee := .builtin .append, args := #[s, x], argTypes := #[28, 28] }) (base : Nat) (v : Value) (l : List Int) (X : Int) (hs : a.eval s = v) (hown : OwnW W base v l)
    (hx : a.eval x = .slice (some ⟨W.heap.size, 0, none⟩) 1 1) (hl : l.length ≤ 2000000) (hb : base ≤ W.heap.size)
    (h : ∀ v' w', OwnW w' base v' (l ++ [X]) → W.grownBy w' v.ownBlock → K (a.put o.dst v') w') :
    if Region.wanted o (yielded ops a.tmps) = true then Oper.wp Tryz.prog o a (W.alloc (Obj.cells #[.int .u64 X] 57)) K Q else E := by
  have hw : Region.wanted o (yielded ops a.tmps) = true := by simp [Region.wanted, hgd]
  rw [if_pos hw]
  obtain ⟨i, hi, hz0, hz1, hz2⟩ := info_parts info_w64
  refine wp_append_own _ s x 28 ho base 57 i (.int .u64 0) 1 8 Tryz.underlying28 hi hz0 hz1 hz2 rfl (by decide) v l.length (l.map (Value.int .u64)) hs (World.ownsRow.alloc hown _) ⟨W.heap.size, 0, none⟩ 1 1 [.int .u64 X] hx rfl
    (by intro j u hj; match j, hj with | 0, hj => simp at hj; subst hj; simp [Addr.add]) (by simp; rfl) (by unfold maxLen; omega) (by omega) (by simp; omega) ?_
  intro v' w2 ho2 hg2 _
  exact h v' w2 (OwnW.one ho2) (grown_trans (grown_noneR _ (World.grownBy_alloc _ _ _)) hg2)
end Go.Proofs.YtdklaeppcjopoaaGreat

/- Rows of words and of numbers: held against each other, copied. -/
namespace Go.Proofs.YtdklaeppcjopoaaGreat
open Go.RowKit
set_option linter.unusedVariables false

/-- a row as values -/
def rowL (k : IntKind) (n : Nat) (g : Nat → Int) : List Value := (List.range n).map fun i => .int k (g i)
theorem rowL_len (k : IntKind) (n : Nat) (g : Nat → Int) : (rowL k n g).length = n := by simp [rowL]
theorem rowL_get {k : IntKind} {n : Nat} {g : Nat → Int} {j : Nat} {v : Value} (h : (rowL k n g)[j]? = some v) : j < n ∧ v = .int k (g j) := by
  have hj : j < n := by
    rw [← rowL_len k n g]
    exact (List.getElem?_eq_some_iff.1 h).1
  refine ⟨hj, ?_⟩
  simp [rowL, hj] at h
  exact h.symm
theorem rowL_at {n : Nat} (k : IntKind) (g : Nat → Int) {j : Nat} (h : j < n) : (rowL k n g)[j]? = some (.int k (g j)) := by simp [rowL, h]
theorem rowL_one (k : IntKind) (n : Nat) (g : Nat → Int) : ∀ v ∈ rowL k n g, v.oneCell' = true := by
  intro v hv
  obtain ⟨i, _, rfl⟩ := List.mem_map.1 hv
  rfl
theorem RwIn.at {k : IntKind} {W : World} {ao : Option Addr} {n cap : Nat} {f : Nat → Int} (h : RwIn k W ao n cap f) (hn : 0 < n) : ∃ b off, ao = some ⟨b, off, none⟩ ∧ ∀ i, i < n → W.cell? ⟨b, off + i, none⟩ = some (.int k (f i)) := by
  rcases h.bs with h | h
  · omega
  · exact h
theorem rowL_list (k : IntKind) (l : List Int) : rowL k l.length (fun i => l.getD i 0) = l.map (Value.int k) := by
  refine List.ext_getElem? fun i => ?_
  by_cases hi : i < l.length
  · rw [rowL_at _ _ hi, List.getElem?_map, List.getElem?_eq_getElem hi]
    simp [List.getD_eq_getElem?_getD, List.getElem?_eq_getElem hi]
  · rw [List.getElem?_eq_none (by rw [rowL_len]; omega), List.getElem?_eq_none (by rw [List.length_map]; omega)]
/-- a row of the call's own, as any row -/
theorem own_rwIn {w : World} {base : Nat} {T : TypeId} {k : IntKind} {v : Value} {n : Nat} {g : Nat → Int} (h : w.ownsRow base T 1 v n (rowL k n g)) : ∃ ao cap, v = .slice ao n cap ∧ RwIn k w ao n cap g := by
  have hl := h.lt
  obtain ⟨h1, h⟩ := h
  rcases h with ⟨rfl, rfl⟩ | ⟨b, cap, cur, rfl, hb, hh, hn, hc, hs, ht⟩
  · exact ⟨none, 0, rfl, fun _ => ⟨rfl, rfl⟩, Nat.le_refl _, by unfold maxLen; omega, .inl rfl, fun _ _ h => absurd h (by decide)⟩
  · refine ⟨some ⟨b, 0, none⟩, cap, rfl, (fun h => by cases h), hn, hc, .inr ⟨b, 0, rfl, fun i hi => ?_⟩, fun b' off _ e => by injection e with e; injection e with e1 _ _; subst e1; exact (hl b rfl).2⟩
    have h1 : (rowL k n g)[i]? = some (.int k (g i)) := rowL_at k g hi
    rw [← ht, List.getElem?_take, if_pos (by omega)] at h1
    simp only [World.cell?, hh]
    simpa using h1

theorem info_eqW : (Tryz.prog.info? 57).map (fun i => (i.zero, i.size, i.bytes)) = some (some (.int .u64 0), 1, 8) := by kernel_rfl
set_option maxHeartbeats 800000 in
theorem eqW_gen (n ca cb b o b' o' : Nat) (g g' : Nat → Int) (w : World) (hn : (n : Int) ≤ 140737488351232)
    (ha : ∀ i, i < n → w.cell? ⟨b, o + i, none⟩ = some (.int .u64 (g i))) (hb : ∀ i, i < n → w.cell? ⟨b', o' + i, none⟩ = some (.int .u64 (g' i))) :
    Calls Tryz.prog 10 #[.slice (some ⟨b, o, none⟩) n ca, .slice (some ⟨b', o', none⟩) n cb] w fun e w' => e = .returned (.bool (eqF n g g')) ∧ ∃ d, w' = w.drewN d := by
  have HA : Hid (∀ i, i < n → w.cell? ⟨b, o + i, none⟩ = some (.int .u64 (g i))) := ha
  have HB : Hid (∀ i, i < n → w.cell? ⟨b', o' + i, none⟩ = some (.int .u64 (g' i))) := hb
  clear ha hb
  go_enter Tryz.func10, Tryz.ntmps10
  go_wp2
  go_loopw [5] (fun s wr => ∃ k : Nat, k ≤ n ∧ s = .int .i64 k ∧ (∀ j, j < k → g j = g' j) ∧ ∃ d, wr = w.drewN d) (fun s _ => n - (intOf s).toNat)
  case atStart => exact ⟨0, Nat.zero_le _, rfl, fun j h => by omega, 0, rfl⟩
  case round =>
    obtain ⟨k, hk, rfl, hsame, d, rfl⟩ := hrel
    have HSM : Hid (∀ j, j < k → g j = g' j) := hsame
    clear hsame
    by_cases hlt : k < n
    · have c1 : (w.drewN d).cell? ⟨b, o + k, none⟩ = some (.int .u64 (g k)) := HA.out k hlt
      have c2 : (w.drewN d).cell? ⟨b', o' + k, none⟩ = some (.int .u64 (g' k)) := HB.out k hlt
      have HW : Hid (∃ d', w.drewN d = w.drewN d') := ⟨d, rfl⟩
      have hlt' : (k : Int) < (n : Int) := by omega
      by_cases he : g k = g' k
      · have HST : Hid (∀ j, j < k + 1 → g j = g' j) := fun j hj => by
          by_cases h : j = k
          · rw [h]; exact he
          · exact HSM.out j (by omega)
        rw [← he] at c2
        clear he
        generalize w.drewN d = W at *
        generalize g k = y at *
        go_wp2_with fail
        go_quiet (fail)
        go_wp2
        go_roundw
        case rel => obtain ⟨d', rfl⟩ := HW.out; exact ⟨k + 1, by omega, by go_num, HST.out, _, World.drewN_drewN _ _ _⟩
        case measure => simp [intOf]; omega
      · have HF : Hid (eqF n g g' = false) := eqF_false hlt he
        have he' : (g k != g' k) = true := by simpa using he
        clear he
        generalize w.drewN d = W at *
        generalize g k = y at *
        generalize g' k = y' at *
        go_wp2_with fail
        go_quiet (fail)
        go_wp2
        go_ret
        obtain ⟨d', rfl⟩ := HW.out
        exact ⟨ret_bool HF.out.symm, _, World.drewN_drewN _ _ _⟩
    · obtain rfl : k = n := by omega
      have HT : Hid (eqF k g g' = true) := eqF_true HSM.out
      go_wp2
      go_ret
      exact ⟨ret_bool HT.out.symm, d, rfl⟩
set_option maxHeartbeats 800000 in
theorem eqW_none (ca cb : Nat) (ao bo : Option Addr) (w : World) :
    Calls Tryz.prog 10 #[.slice ao 0 ca, .slice bo 0 cb] w fun e w' => e = .returned (.bool true) ∧ ∃ d, w' = w.drewN d := by
  go_enter Tryz.func10, Tryz.ntmps10
  go_wp2
  go_loopw [5] (fun s wr => s = .int .i64 0 ∧ wr = w) (fun s _ => 0)
  case atStart => exact ⟨rfl, rfl⟩
  case round =>
    obtain ⟨rfl, rfl⟩ := hrel
    go_wp2
    go_ret
    exact ⟨rfl, 0, rfl⟩
set_option maxHeartbeats 800000 in
theorem eqW_len (n m ca cb : Nat) (ao bo : Option Addr) (w : World) (h : n ≠ m) :
    Calls Tryz.prog 10 #[.slice ao n ca, .slice bo m cb] w fun e w' => e = .returned (.bool false) ∧ ∃ d, w' = w.drewN d := by
  have h' : ((n : Int) != (m : Int)) = true := by simp; omega
  go_enter Tryz.func10, Tryz.ntmps10
  go_wp2
  go_ret
  exact ⟨rfl, 0, rfl⟩
theorem eqW (n m ca cb : Nat) (ao bo : Option Addr) (g g' : Nat → Int) (w : World) (hn : (n : Int) ≤ 140737488351232) (ha : RwIn .u64 w ao n ca g) (hb : RwIn .u64 w bo m cb g') :
    Calls Tryz.prog 10 #[.slice ao n ca, .slice bo m cb] w fun e w' => e = .returned (.bool (decide (n = m) && eqF n g g')) ∧ ∃ d, w' = w.drewN d := by
  by_cases hnm : n = m
  · subst hnm
    rw [decide_eq_true rfl, Bool.true_and]
    by_cases h0 : n = 0
    · subst h0
      rw [eqF_true (fun i hi => absurd hi (Nat.not_lt_zero i))]
      exact eqW_none ca cb ao bo w
    · obtain ⟨b, o, rfl, ha1⟩ := ha.at (by omega)
      obtain ⟨b', o', rfl, hb1⟩ := hb.at (by omega)
      exact eqW_gen n ca cb b o b' o' g g' w hn ha1 hb1
  · rw [decide_eq_false hnm, Bool.false_and]
    exact eqW_len n m ca cb ao bo w hnm
set_option maxRecDepth 100000 in
set_option maxHeartbeats 800000 in
theorem copyW (n cap : Nat) (ao : Option Addr) (g : Nat → Int) (w : World) (hn : (n : Int) ≤ 1048576) (ha : RwIn .u64 w ao n cap g) :
    Calls Tryz.prog 28 #[.slice ao n cap] w fun e w' => ∃ ao' cap', e = .returned (.slice ao' n cap') ∧ RwIn .u64 w' ao' n cap' g ∧ w.grownBy w' none ∧ ∀ b off, 0 < n → ao' = some ⟨b, off, none⟩ → w.heap.size ≤ b := by
  obtain ⟨i, hi, hz0, hz1, hz2⟩ := info_parts info_eqW
  cases ao with
  | none =>
    obtain ⟨rfl, rfl⟩ := ha.nil rfl
    go_enter Tryz.func28, Tryz.ntmps28
    go_wp2_with (at_builtin; refine wpList_append_own_none rfl _ _ 28 rfl w.heap.size 57 i 1 Tryz.underlying28 hi _ 0 [] rfl (World.ownsRow_nil _ _ _ _) rfl ?_)
    go_ret
    exact ⟨_, _, rfl, ha, World.grownBy.refl _ _, fun _ _ h => absurd h (by decide)⟩
  | some ad =>
    have HC : Hid (∀ j u, (rowL .u64 n g)[j]? = some u → w.cell? (ad.add j) = some u) := by
      intro j u hu
      obtain ⟨hj, rfl⟩ := rowL_get hu
      obtain ⟨b, o, e, hc⟩ := ha.at (by omega)
      injection e with e
      subst e
      rw [add_none]
      exact hc j hj
    clear ha
    go_enter Tryz.func28, Tryz.ntmps28
    go_wp2_with (at_builtin; refine wpList_append_own _ rfl _ _ 28 rfl w.heap.size 57 i (.int .u64 0) 1 8 Tryz.underlying28 hi hz0 hz1 hz2 rfl (by decide) _ 0 [] rfl (World.ownsRow_nil _ _ _ _) ad n cap (rowL .u64 n g) rfl (by rw [rowL_len]; omega) HC.out (rowL_one _ _ _) (by unfold maxLen; omega) (by omega) (Nat.le_refl _) ?_; intro v' w2 ho2 hg2 hv2; simp only [Nat.zero_add, List.nil_append] at ho2; obtain ⟨ao', cap', rfl, hr⟩ := own_rwIn ho2)
    go_ret
    exact ⟨_, _, rfl, hr, hg2, fun b off _ e => by subst e; exact (World.ownsRow.lt ho2 b rfl).1⟩

theorem info_eqN : (Tryz.prog.info? 3).map (fun i => (i.zero, i.size, i.bytes)) = some (some (.int .i64 0), 1, 8) := by kernel_rfl
set_option maxRecDepth 100000 in
set_option maxHeartbeats 800000 in
theorem copyN (n cap : Nat) (ao : Option Addr) (g : Nat → Int) (w : World) (hn : (n : Int) ≤ 1048576) (ha : RwIn .i64 w ao n cap g) :
    Calls Tryz.prog 59 #[.slice ao n cap] w fun e w' => ∃ ao' cap', e = .returned (.slice ao' n cap') ∧ RwIn .i64 w' ao' n cap' g ∧ w.grownBy w' none ∧ ∀ b off, 0 < n → ao' = some ⟨b, off, none⟩ → w.heap.size ≤ b := by
  obtain ⟨i, hi, hz0, hz1, hz2⟩ := info_parts info_eqN
  cases ao with
  | none =>
    obtain ⟨rfl, rfl⟩ := ha.nil rfl
    go_enter Tryz.func59, Tryz.ntmps59
    go_wp2_with (at_builtin; refine wpList_append_own_none rfl _ _ 25 rfl w.heap.size 3 i 1 Tryz.underlying25 hi _ 0 [] rfl (World.ownsRow_nil _ _ _ _) rfl ?_)
    go_ret
    exact ⟨_, _, rfl, ha, World.grownBy.refl _ _, fun _ _ h => absurd h (by decide)⟩
  | some ad =>
    have HC : Hid (∀ j u, (rowL .i64 n g)[j]? = some u → w.cell? (ad.add j) = some u) := by
      intro j u hu
      obtain ⟨hj, rfl⟩ := rowL_get hu
      obtain ⟨b, o, e, hc⟩ := ha.at (by omega)
      injection e with e
      subst e
      rw [add_none]
      exact hc j hj
    clear ha
    go_enter Tryz.func59, Tryz.ntmps59
    go_wp2_with (at_builtin; refine wpList_append_own _ rfl _ _ 25 rfl w.heap.size 3 i (.int .i64 0) 1 8 Tryz.underlying25 hi hz0 hz1 hz2 rfl (by decide) _ 0 [] rfl (World.ownsRow_nil _ _ _ _) ad n cap (rowL .i64 n g) rfl (by rw [rowL_len]; omega) HC.out (rowL_one _ _ _) (by unfold maxLen; omega) (by omega) (Nat.le_refl _) ?_; intro v' w2 ho2 hg2 hv2; simp only [Nat.zero_add, List.nil_append] at ho2; obtain ⟨ao', cap', rfl, hr⟩ := own_rwIn ho2)
    go_ret
    exact ⟨_, _, rfl, hr, hg2, fun b off _ e => by subst e; exact (World.ownsRow.lt ho2 b rfl).1⟩
end Go.Proofs.YtdklaeppcjopoaaGreat

/- Arguments that came in, opened: rows of anything; what a run is asked with. -/
namespace Go.Proofs.YtdklaeppcjopoaaGreat
open Go.RowKit
set_option linter.unusedVariables false

/-- all that is told of a reading is within reach -/
def Fits {H : Type} (t : TypeId) (d : DataW H) : Prop := ∀ n ∈ d.weights Tryz.prog t, n ≤ reachBytes
theorem weights_all {H : Type} {e : TypeId} : ∀ {l : List (DataW H)} {d : DataW H}, d ∈ l → ∀ n ∈ d.weights Tryz.prog e, n ∈ DataW.weightsAll Tryz.prog e l
  | d0 :: l, d, hd, n, hn => by
    simp only [DataW.weightsAll, List.mem_append]
    rcases List.mem_cons.1 hd with rfl | h
    · exact .inl hn
    · exact .inr (weights_all h n hn)
theorem Fits.len {H : Type} {t e : TypeId} {l r : List (DataW H)} (ht : Tryz.prog.underlying t = some (.slice e)) (h : Fits t (.slice l r)) (hb : 0 < Tryz.prog.bytesOf e) : l.length ≤ reachBytes := by
  have := h ((l.length + r.length) * Tryz.prog.bytesOf e) (by simp [DataW.weights, ht])
  refine Nat.le_trans ?_ this
  exact Nat.le_trans (Nat.le_add_right _ _) (Nat.le_mul_of_pos_right _ hb)
theorem Fits.elem {H : Type} {t e : TypeId} {l r : List (DataW H)} {d : DataW H} (ht : Tryz.prog.underlying t = some (.slice e)) (h : Fits t (.slice l r)) (hd : d ∈ l) : Fits e d := fun n hn =>
  h n (by simp only [DataW.weights, ht, List.mem_cons, List.mem_append]; exact .inr (.inl (weights_all hd n hn)))
theorem Fits.field {H : Type} {t : TypeId} {fs : Array Field} {xs : List (DataW H × List MemPlace)} {q : List MemPlace} {x y : DataW H × List MemPlace} {i : Nat} {f : Field} (ht : Tryz.prog.underlying t = some (.struct fs)) (h : Fits t x.1) (hx : x = (.agg (xs.map (·.1)), q)) (hf : fs[i]? = some f) (hy : xs[i]? = some y) : Fits f.type y.1 := fun n hn =>
  h n (by
    subst hx
    simp only [DataW.weights, ht]
    exact DataW.weights_mem_each (j := i) (t := f.type) (d := y.1) (by simp [hf]) (by simp [hy]) n hn)
/-- how long a slice is -/
theorem slice_fits {t e : TypeId} {H : Type} {enc : TypeId × Value → H} {W : World} {spare : Nat → Bool} {held : Bool} {fuel : Nat} {cs : List Value} {x : DataW H × List MemPlace}
    (ht : Tryz.prog.underlying t = some (.slice e)) (hb : 0 < Tryz.prog.bytesOf e) (hs : Fits t x.1) (h : DataW.trod enc Tryz.prog W 0 spare held fuel t cs = some x) {a : Option Addr} {len cap : Nat} (hc : cs = [.slice a len cap]) : len ≤ reachBytes := by
  rcases Go.Deep.open_slice ht h with ⟨hcs, _⟩ | ⟨a', len', cap', m, n, D, Pl, hcs, _, hl, hm, hmm, hx, _⟩
  · rw [hc] at hcs
    simp at hcs
    obtain ⟨_, rfl, _⟩ := hcs
    exact Nat.zero_le _
  · rw [hc] at hcs
    simp at hcs
    obtain ⟨_, rfl, _⟩ := hcs
    rw [hx] at hs
    have := Fits.len ht hs hb
    simpa using this
/-- a row of things of c cells each -/
structure RowsIn {α : Type} (c : Nat) (Q : World → Nat → Nat → α → Prop) (W : World) (a : Option Addr) (len cap : Nat) (V : Nat → α) : Prop where
  nil : a = none → len = 0 ∧ cap = 0
  le : len ≤ cap
  max : cap ≤ maxLen
  fits : len ≤ reachBytes
  bs : len = 0 ∨ ∃ b off, a = some ⟨b, off, none⟩ ∧ b < W.heap.size ∧ ∀ i, i < len → Q W b (off + i * c) (V i)
theorem open_gen {α : Type} {t e : TypeId} {c : Nat} {H : Type} {enc : TypeId × Value → H} {W : World} {spare : Nat → Bool} {held : Bool} {fuel : Nat} {cs : List Value} {x : DataW H × List MemPlace} (dflt : α) (Q : World → Nat → Nat → α → Prop)
    (ht : Tryz.prog.underlying t = some (.slice e)) (hc : Tryz.prog.cellsOf e = c) (c0 : 0 < c) (hby : 0 < Tryz.prog.bytesOf e) (hs : Fits t x.1)
    (each : ∀ (n : Nat) (cs : List Value) (b o : Nat) (y : DataW H × List MemPlace), cs.length = c → b < W.heap.size → (∀ j v, cs[j]? = some v → W.cell? ⟨b, o + j, none⟩ = some v) → DataW.trod enc Tryz.prog W 0 spare held n e cs = some y → Fits e y.1 → ∃ z : α, Q W b o z)
    (h : DataW.trod enc Tryz.prog W 0 spare held fuel t cs = some x) : ∃ a len cap V, cs = [.slice a len cap] ∧ RowsIn c Q W a len cap V := by
  rcases Go.Deep.open_slice ht h with ⟨hcs, _⟩ | ⟨a', len, cap, m, n, D, Pl, hcs, hb, hl, hm, hmm, hxx, hx⟩
  · exact ⟨none, 0, 0, fun _ => dflt, hcs, fun _ => ⟨rfl, rfl⟩, Nat.le_refl _, Nat.zero_le _, Nat.zero_le _, .inl rfl⟩
  · have hlm : len ≤ m := by rw [hmm]; split <;> omega
    rw [hxx] at hs
    have hfl : len ≤ reachBytes := by have := Fits.len ht hs hby; simpa using this
    by_cases h0 : len = 0
    · exact ⟨_, _, _, fun _ => dflt, hcs, (fun h => by cases h), hl, hm, hfl, .inl h0⟩
    obtain ⟨b, off, spot⟩ := a'
    have h00 : spot = none ∧ b < W.heap.size := by
      obtain ⟨cs', h1, h2⟩ := hx 0 (by omega)
      rw [hc] at h1
      obtain ⟨_, hlen, hcell⟩ := World.cells?_some h1
      have k0 := hcell 0 (by omega)
      obtain ⟨v, hv⟩ : ∃ v, W.cell? ⟨b, off, spot⟩ = some v := by
        have : W.cell? ⟨b, off, spot⟩ = cs'[0]? := by simpa [Addr.add] using k0
        rw [List.getElem?_eq_getElem (by omega)] at this
        exact ⟨_, this⟩
      exact ⟨World.cell?_spot hv, World.block_lt_of_cell? _ _ hv⟩
    obtain ⟨rfl, hlt⟩ := h00
    have each' : ∀ i, i < len → ∃ z : α, Q W b (off + i * c) z := by
      intro i hi
      obtain ⟨cs', h1, h2⟩ := hx i (by omega)
      rw [hc] at h1
      obtain ⟨_, hlen, hcell⟩ := World.cells?_some h1
      refine each n cs' b (off + i * c) _ hlen hlt (fun j v hv => ?_) h2 (Fits.elem ht hs (List.mem_map.2 ⟨i, List.mem_range.2 hi, rfl⟩))
      have hj : j < c := by rw [← hlen]; exact (List.getElem?_eq_some_iff.1 hv).1
      have k := hcell j hj
      rw [add_none, add_none] at k
      exact k.trans hv
    have : ∃ V : Nat → α, ∀ i, i < len → Q W b (off + i * c) (V i) :=
      ⟨fun i => if hi : i < len then Classical.choose (each' i hi) else dflt, fun i hi => by simp only [dif_pos hi]; exact Classical.choose_spec (each' i hi)⟩
    obtain ⟨V, hV⟩ := this
    exact ⟨_, _, _, V, hcs, (fun h => by cases h), hl, hm, hfl, .inr ⟨b, off, rfl, hlt, hV⟩⟩
/-- a row of numbers -/
def CellI (k : IntKind) (W : World) (b o : Nat) (z : Int) : Prop := W.cell? ⟨b, o, none⟩ = some (.int k z) ∧ (Lit.int k z).wf = true
theorem RowsIn.rw {k : IntKind} {W : World} {a : Option Addr} {len cap : Nat} {V : Nat → Int} (h : RowsIn 1 (CellI k) W a len cap V) : RwIn k W a len cap V where
  nil := h.nil
  le := h.le
  max := h.max
  bs := by
    rcases h.bs with h0 | ⟨b, off, e, hl, hq⟩
    · exact .inl h0
    · exact .inr ⟨b, off, e, fun i hi => by have := (hq i hi).1; rw [Nat.mul_one] at this; exact this⟩
  lt := fun b off h0 e => by
    rcases h.bs with h1 | ⟨b', off', e', hl, _⟩
    · omega
    · rw [e] at e'; injection e' with e'; injection e' with e'; subst e'; exact hl
theorem RowsIn.wf {k : IntKind} {W : World} {a : Option Addr} {len cap : Nat} {V : Nat → Int} (h : RowsIn 1 (CellI k) W a len cap V) : ∀ i, i < len → (Lit.int k (V i)).wf = true := fun i hi => by
  rcases h.bs with h0 | ⟨b, off, e, hl, hq⟩
  · omega
  · exact (hq i hi).2
theorem open_words {H : Type} {enc : TypeId × Value → H} {W : World} {spare : Nat → Bool} {held : Bool} {fuel : Nat} {cs : List Value} {x : DataW H × List MemPlace}
    (h : DataW.trod enc Tryz.prog W 0 spare held fuel 28 cs = some x) (hs : Fits 28 x.1) : ∃ a len cap V, cs = [.slice a len cap] ∧ RowsIn 1 (CellI .u64) W a len cap V := by
  refine open_gen 0 (CellI .u64) Tryz.underlying28 (c := 1) (by kernel_rfl) (by decide) (of_decide_eq_true (by kernel_rfl)) hs (fun n cs b o y hl hb hc hy hz => ?_) h
  obtain ⟨z, e, _, f⟩ := DataW.trod_int Tryz.underlying57 hy
  subst e
  exact ⟨z, hc 0 _ rfl, f⟩
theorem open_numbers {H : Type} {enc : TypeId × Value → H} {W : World} {spare : Nat → Bool} {held : Bool} {fuel : Nat} {cs : List Value} {x : DataW H × List MemPlace}
    (h : DataW.trod enc Tryz.prog W 0 spare held fuel 25 cs = some x) (hs : Fits 25 x.1) : ∃ a len cap V, cs = [.slice a len cap] ∧ RowsIn 1 (CellI .i64) W a len cap V := by
  refine open_gen 0 (CellI .i64) Tryz.underlying25 (c := 1) (by kernel_rfl) (by decide) (of_decide_eq_true (by kernel_rfl)) hs (fun n cs b o y hl hb hc hy hz => ?_) h
  obtain ⟨z, e, _, f⟩ := DataW.trod_int Tryz.underlying3 hy
  subst e
  exact ⟨z, hc 0 _ rfl, f⟩
/-- a place: on the stack? its number -/
structure PlV where
  s : Bool
  n : Int
def PlAt (W : World) (b o : Nat) (p : PlV) : Prop := W.cell? ⟨b, o, none⟩ = some (.bool p.s) ∧ W.cell? ⟨b, o + 1, none⟩ = some (.int .i64 p.n) ∧ (Lit.int .i64 p.n).wf = true
set_option maxRecDepth 100000 in
theorem open_places {H : Type} {enc : TypeId × Value → H} {W : World} {spare : Nat → Bool} {held : Bool} {fuel : Nat} {cs : List Value} {x : DataW H × List MemPlace}
    (h : DataW.trod enc Tryz.prog W 0 spare held fuel 65 cs = some x) (hs : Fits 65 x.1) : ∃ a len cap V, cs = [.slice a len cap] ∧ RowsIn 2 PlAt W a len cap V := by
  have c3 : Tryz.prog.cellsOf 3 = 1 := by kernel_rfl
  have c4 : Tryz.prog.cellsOf 4 = 1 := by kernel_rfl
  refine open_gen ⟨false, 0⟩ PlAt Tryz.underlying65 (c := 2) (by kernel_rfl) (by decide) (of_decide_eq_true (by kernel_rfl)) hs (fun n cs b o y hl hb hc hy hz => ?_) h
  obtain ⟨xs, kk, hk, hxy, _, hxl, hf⟩ := DataW.trod_struct Tryz.underlying148 hy
  match xs, hxl, cs, hl with
  | [z0, z1], _, [v0, v1], _ =>
    have g0 := hf 0 _ rfl
    have g1 := hf 1 _ rfl
    simp [c3, c4] at g0 g1
    obtain ⟨n0, e0, _⟩ := DataW.trod_bool Tryz.underlying4 g0
    obtain ⟨n1, e1, _, f1⟩ := DataW.trod_int Tryz.underlying3 g1
    simp at e0 e1
    subst e0 e1
    exact ⟨⟨n0, n1⟩, hc 0 _ rfl, hc 1 _ rfl, f1⟩
/-- where a function's words are handed over -/
structure AsV where
  aa : Option Addr
  an : Nat
  ac : Nat
  ag : Nat → PlV
  ra : Option Addr
  rn : Nat
  rc : Nat
  rg : Nat → PlV
  sl : Int
structure AsAt (W : World) (b o : Nat) (v : AsV) : Prop where
  c0 : W.cell? ⟨b, o, none⟩ = some (.slice v.aa v.an v.ac)
  c1 : W.cell? ⟨b, o + 1, none⟩ = some (.slice v.ra v.rn v.rc)
  c2 : W.cell? ⟨b, o + 2, none⟩ = some (.int .i64 v.sl)
  a : RowsIn 2 PlAt W v.aa v.an v.ac v.ag
  r : RowsIn 2 PlAt W v.ra v.rn v.rc v.rg
set_option maxRecDepth 100000 in
theorem open_assigns {H : Type} {enc : TypeId × Value → H} {W : World} {spare : Nat → Bool} {held : Bool} {fuel : Nat} {cs : List Value} {x : DataW H × List MemPlace}
    (h : DataW.trod enc Tryz.prog W 0 spare held fuel 29 cs = some x) (hs : Fits 29 x.1) : ∃ a len cap V, cs = [.slice a len cap] ∧ RowsIn 3 AsAt W a len cap V := by
  have c3 : Tryz.prog.cellsOf 3 = 1 := by kernel_rfl
  have c4 : Tryz.prog.cellsOf 65 = 1 := by kernel_rfl
  refine open_gen ⟨none, 0, 0, fun _ => ⟨false, 0⟩, none, 0, 0, fun _ => ⟨false, 0⟩, 0⟩ AsAt Tryz.underlying29 (c := 3) (by kernel_rfl) (by decide) (of_decide_eq_true (by kernel_rfl)) hs (fun n cs b o y hl hb hc hy hz => ?_) h
  obtain ⟨xs, kk, hk, hxy, _, hxl, hf⟩ := DataW.trod_struct Tryz.underlying67 hy
  match xs, hxl, cs, hl with
  | [z0, z1, z2], _, [v0, v1, v2], _ =>
    have g0 := hf 0 _ rfl
    have g1 := hf 1 _ rfl
    have g2 := hf 2 _ rfl
    simp [c3, c4] at g0 g1 g2
    obtain ⟨a0, l0, p0, V0, e0, f0⟩ := open_places g0 (hz.field Tryz.underlying67 hxy (i := 0) rfl rfl)
    obtain ⟨a1, l1, p1, V1, e1, f1⟩ := open_places g1 (hz.field Tryz.underlying67 hxy (i := 1) rfl rfl)
    obtain ⟨n2, e2, _, f2⟩ := DataW.trod_int Tryz.underlying3 g2
    simp at e0 e1 e2
    subst e0 e1 e2
    exact ⟨⟨a0, l0, p0, V0, a1, l1, p1, V1, n2⟩, hc 0 _ rfl, hc 1 _ rfl, hc 2 _ rfl, f0, f1⟩
/-- what a run is asked with -/
structure AskV where
  I : Ig
  S : Int
  aa : Option Addr
  an : Nat
  ac : Nat
  ag : Nat → Int
  ka : Option Addr
  kn : Nat
  kc : Nat
  kg : Nat → AsV
  F : Int
def AskV.val (v : AskV) : Value := .agg #[.int .i64 v.I.t, .slice v.I.ca v.I.cn v.I.cc, .slice v.I.da v.I.dn v.I.dc, .int .i64 v.I.en, .slice v.I.fa v.I.fn v.I.fc, .int .i64 v.S, .slice v.aa v.an v.ac, .slice v.ka v.kn v.kc, .int .i64 v.F]
structure AskV.In (v : AskV) (W : World) : Prop where
  I : v.I.In W
  a : RwIn .u64 W v.aa v.an v.ac v.ag
  aw : ∀ i, i < v.an → Ru.W64 (v.ag i)
  k : RowsIn 3 AsAt W v.ka v.kn v.kc v.kg
  lc : v.I.cn ≤ reachBytes
  ld : v.I.dn ≤ reachBytes
  lf : v.I.fn ≤ reachBytes
  la : v.an ≤ reachBytes
  s1 : -9223372036854775808 ≤ v.S
  s2 : v.S ≤ 9223372036854775807
  f1 : -9223372036854775808 ≤ v.F
  f2 : v.F ≤ 9223372036854775807
structure AskAt (W : World) (b o : Nat) (v : AskV) : Prop where
  c0 : W.cell? ⟨b, o, none⟩ = some (.int .i64 v.I.t)
  c1 : W.cell? ⟨b, o + 1, none⟩ = some (.slice v.I.ca v.I.cn v.I.cc)
  c2 : W.cell? ⟨b, o + 2, none⟩ = some (.slice v.I.da v.I.dn v.I.dc)
  c3 : W.cell? ⟨b, o + 3, none⟩ = some (.int .i64 v.I.en)
  c4 : W.cell? ⟨b, o + 4, none⟩ = some (.slice v.I.fa v.I.fn v.I.fc)
  c5 : W.cell? ⟨b, o + 5, none⟩ = some (.int .i64 v.S)
  c6 : W.cell? ⟨b, o + 6, none⟩ = some (.slice v.aa v.an v.ac)
  c7 : W.cell? ⟨b, o + 7, none⟩ = some (.slice v.ka v.kn v.kc)
  c8 : W.cell? ⟨b, o + 8, none⟩ = some (.int .i64 v.F)
  x : v.In W
theorem bounds_w64 {z : Int} (f : (Lit.int .u64 z).wf = true) : Ru.W64 z := by
  have := bounds_u64 f
  unfold Ru.W64
  omega
set_option maxRecDepth 100000 in
/-- an ask out of its nine cells -/
theorem open_ask {H : Type} {enc : TypeId × Value → H} {W : World} {spare : Nat → Bool} {held : Bool} {fuel : Nat} {cs : List Value} {x : DataW H × List MemPlace}
    (h : DataW.trod enc Tryz.prog W 0 spare held fuel 31 cs = some x) (hs : Fits 31 x.1) (hl : cs.length = 9) :
    ∃ v : AskV, cs = [.int .i64 v.I.t, .slice v.I.ca v.I.cn v.I.cc, .slice v.I.da v.I.dn v.I.dc, .int .i64 v.I.en, .slice v.I.fa v.I.fn v.I.fc, .int .i64 v.S, .slice v.aa v.an v.ac, .slice v.ka v.kn v.kc, .int .i64 v.F] ∧ v.In W := by
  have c3 : Tryz.prog.cellsOf 3 = 1 := by kernel_rfl
  have c4 : Tryz.prog.cellsOf 29 = 1 := by kernel_rfl
  have c5 : Tryz.prog.cellsOf 28 = 1 := by kernel_rfl
  have c6 : Tryz.prog.cellsOf 24 = 1 := by kernel_rfl
  have c7 : Tryz.prog.cellsOf 25 = 1 := by kernel_rfl
  have c8 : Tryz.prog.cellsOf 27 = 5 := by kernel_rfl
  obtain ⟨xs, kk, hk, hxy, _, hxl, hf⟩ := DataW.trod_struct Tryz.underlying31 h
  match xs, hxl, cs, hl with
  | [z0, z1, z2, z3, z4], _, [v0, v1, v2, v3, v4, v5, v6, v7, v8], _ =>
    have g0 := hf 0 _ rfl
    have g1 := hf 1 _ rfl
    have g2 := hf 2 _ rfl
    have g3 := hf 3 _ rfl
    have g4 := hf 4 _ rfl
    simp [c3, c4, c5, c8] at g0 g1 g2 g3 g4
    obtain ⟨n5, e5, _, f5⟩ := DataW.trod_int Tryz.underlying3 g1
    obtain ⟨a6, l6, p6, V6, e6, f6⟩ := open_words g2 (hs.field Tryz.underlying31 hxy (i := 2) rfl rfl)
    obtain ⟨a7, l7, p7, V7, e7, f7⟩ := open_assigns g3 (hs.field Tryz.underlying31 hxy (i := 3) rfl rfl)
    have hI := hs.field Tryz.underlying31 hxy (i := 0) rfl rfl
    obtain ⟨n8, e8, _, f8⟩ := DataW.trod_int Tryz.underlying3 g4
    obtain ⟨ys, kk2, hk2, hxy2, _, hyl, hg⟩ := DataW.trod_struct Tryz.underlying27 g0
    match ys, hyl with
    | [y0, y1, y2, y3, y4], _ =>
      have i0 := hg 0 _ rfl
      have i1 := hg 1 _ rfl
      have i2 := hg 2 _ rfl
      have i3 := hg 3 _ rfl
      have i4 := hg 4 _ rfl
      simp [c3, c6, c7] at i0 i1 i2 i3 i4
      obtain ⟨n0, e0, _, f0⟩ := DataW.trod_int Tryz.underlying3 i0
      obtain ⟨a1, l1, p1, V1, e1, f1⟩ := open_bytes i1
      obtain ⟨a2, l2, p2, V2, e2, f2⟩ := open_bytes i2
      obtain ⟨n3, e3, _, f3⟩ := DataW.trod_int Tryz.underlying3 i3
      obtain ⟨a4, l4, p4, V4, e4, f4⟩ := open_numbers i4 (hI.field Tryz.underlying27 hxy2 (i := 4) rfl rfl)
      have s1 := slice_fits Tryz.underlying24 (of_decide_eq_true (by kernel_rfl)) (hI.field Tryz.underlying27 hxy2 (i := 1) rfl rfl) i1 (by simpa using e1)
      have s2 := slice_fits Tryz.underlying24 (of_decide_eq_true (by kernel_rfl)) (hI.field Tryz.underlying27 hxy2 (i := 2) rfl rfl) i2 (by simpa using e2)
      simp at e0 e1 e2 e3 e4 e5 e6 e7 e8
      subst e0 e1 e2 e3 e4 e5 e6 e7 e8
      have f5 := bounds_i64 f5
      have f8 := bounds_i64 f8
      exact ⟨⟨⟨n0, a1, l1, p1, V1, a2, l2, p2, V2, n3, a4, l4, p4, V4⟩, n5, a6, l6, p6, V6, a7, l7, p7, V7, n8⟩, rfl, ⟨⟨f1, f2, f4.rw⟩, f6.rw, fun i hi => bounds_w64 (f6.wf i hi), f7, s1, s2, f4.fits, f6.fits, by dsimp only; omega, by dsimp only; omega, by dsimp only; omega, by dsimp only; omega⟩⟩
set_option maxRecDepth 100000 in
theorem open_asks {H : Type} {enc : TypeId × Value → H} {W : World} {spare : Nat → Bool} {held : Bool} {fuel : Nat} {cs : List Value} {x : DataW H × List MemPlace}
    (h : DataW.trod enc Tryz.prog W 0 spare held fuel 22 cs = some x) (hs : Fits 22 x.1) : ∃ a len cap V, cs = [.slice a len cap] ∧ RowsIn 9 AskAt W a len cap V := by
  refine open_gen ⟨⟨0, none, 0, 0, fun _ => 0, none, 0, 0, fun _ => 0, 0, none, 0, 0, fun _ => 0⟩, 0, none, 0, 0, fun _ => 0, none, 0, 0, fun _ => ⟨none, 0, 0, fun _ => ⟨false, 0⟩, none, 0, 0, fun _ => ⟨false, 0⟩, 0⟩, 0⟩ AskAt Tryz.underlying22 (c := 9) (by kernel_rfl) (by decide) (of_decide_eq_true (by kernel_rfl)) hs (fun n cs b o y hl hb hc hy hz => ?_) h
  obtain ⟨v, rfl, hv⟩ := open_ask hy hz hl
  exact ⟨v, hc 0 _ rfl, hc 1 _ rfl, hc 2 _ rfl, hc 3 _ rfl, hc 4 _ rfl, hc 5 _ rfl, hc 6 _ rfl, hc 7 _ rfl, hc 8 _ rfl, hv⟩
end Go.Proofs.YtdklaeppcjopoaaGreat

/- Five cells in a row. -/
namespace Go.Proofs.YtdklaeppcjopoaaGreat
open Go.RowKit
set_option linter.unusedVariables false

/-- five cells in a row -/
def row5 (a b c d e : Value) : Nat → Value
  | 0 => a
  | 1 => b
  | 2 => c
  | 3 => d
  | _ => e
theorem row5_new (w : World) (a b c d e : Value) (T : TypeId) : (w.alloc (Obj.cells #[a, b, c, d, e] T)).rowIs w.heap.size T 5 (row5 a b c d e) := by
  refine ⟨_, heap_alloc_new _ _, rfl, fun i hi => ?_⟩
  have hc : i = 0 ∨ i = 1 ∨ i = 2 ∨ i = 3 ∨ i = 4 := by omega
  rcases hc with rfl | rfl | rfl | rfl | rfl <;> rfl
theorem rowIs_grown {w w' : World} {b n : Nat} {T : TypeId} {f : Nat → Value} (h : w.rowIs b T n f) (g : w.grownBy w' none) : w'.rowIs b T n f := h.of_block (g.block _ h.lt (by simp))
theorem rowIs_five {w : World} {b : Nat} {T : TypeId} {a0 a1 a2 a3 a4 : Value} (h : w.rowIs b T 5 (row5 a0 a1 a2 a3 a4)) : w.cell? ⟨b, 0, none⟩ = some a0 ∧ w.cell? ⟨b, 1, none⟩ = some a1 ∧ w.cell? ⟨b, 2, none⟩ = some a2 ∧ w.cell? ⟨b, 3, none⟩ = some a3 ∧ w.cell? ⟨b, 4, none⟩ = some a4 ∧ ∀ k, w.frozen? ⟨b, k, none⟩ = false :=
  ⟨h.cell (i := 0) (by decide), h.cell (i := 1) (by decide), h.cell (i := 2) (by decide), h.cell (i := 3) (by decide), h.cell (i := 4) (by decide), h.frozen⟩
theorem row5_set1 {w : World} {b : Nat} {T : TypeId} {a0 a1 a2 a3 a4 : Value} (h : w.rowIs b T 5 (row5 a0 a1 a2 a3 a4)) (v : Value) : (w.setCell ⟨b, 1, none⟩ v).rowIs b T 5 (row5 a0 v a2 a3 a4) :=
  (h.set 1 v).congr fun i hi => by
    have hc : i = 0 ∨ i = 1 ∨ i = 2 ∨ i = 3 ∨ i = 4 := by omega
    rcases hc with rfl | rfl | rfl | rfl | rfl <;> rfl
theorem row5_set2 {w : World} {b : Nat} {T : TypeId} {a0 a1 a2 a3 a4 : Value} (h : w.rowIs b T 5 (row5 a0 a1 a2 a3 a4)) (v : Value) : (w.setCell ⟨b, 2, none⟩ v).rowIs b T 5 (row5 a0 a1 v a3 a4) :=
  (h.set 2 v).congr fun i hi => by
    have hc : i = 0 ∨ i = 1 ∨ i = 2 ∨ i = 3 ∨ i = 4 := by omega
    rcases hc with rfl | rfl | rfl | rfl | rfl <;> rfl
/-- five cells stored one behind the other -/
def put5 (W : World) (R : Nat) (a b c d e : Value) : World := ((((W.setCell ⟨R, 0, none⟩ a).setCell ⟨R, 1, none⟩ b).setCell ⟨R, 2, none⟩ c).setCell ⟨R, 3, none⟩ d).setCell ⟨R, 4, none⟩ e
theorem grown_put5 (W : World) (R : Nat) (a b c d e : Value) : W.grownBy (put5 W R a b c d e) (some R) :=
  grown_trans (grown_trans (grown_trans (grown_trans (grown_setCell _ _ _ _) (grown_setCell _ _ _ _)) (grown_setCell _ _ _ _)) (grown_setCell _ _ _ _)) (grown_setCell _ _ _ _)
theorem row5_put {W : World} {R : Nat} {T : TypeId} {f : Nat → Value} (h : W.rowIs R T 5 f) (a b c d e : Value) : (put5 W R a b c d e).rowIs R T 5 (row5 a b c d e) :=
  (((((h.set 0 a).set 1 b).set 2 c).set 3 d).set 4 e).congr fun i hi => by
    have hc : i = 0 ∨ i = 1 ∨ i = 2 ∨ i = 3 ∨ i = 4 := by omega
    rcases hc with rfl | rfl | rfl | rfl | rfl <;> rfl
end Go.Proofs.YtdklaeppcjopoaaGreat

/- What the statements of layer 5 share: an image copied, runs held against each other, too great an ask. -/
namespace Go.Proofs.YtdklaeppcjopoaaGreat
open Go.RowKit
set_option linter.unusedVariables false

theorem OwnB.toIn {w : World} {base n : Nat} {v : Value} {g : Nat → Int} (h : OwnB w base v n g) (hf : Mm.Fit g) : ∃ ao cap, v = .slice ao n cap ∧ BsIn w ao n cap g := by
  obtain ⟨ao, cap, rfl, h1, h2, h3, h4⟩ := h.shape
  refine ⟨ao, cap, rfl, h1, h2, h3, hf, h4, fun b off h0 e => ?_⟩
  subst e
  exact (h.lt b rfl).2
theorem copyBin {w : World} {ao : Option Addr} {n cap : Nat} {g : Nat → Int} (h : BsIn w ao n cap g) (hn : (n : Int) ≤ 140737488351232) :
    Calls Tryz.prog 58 #[.slice ao n cap] w fun e w' => ∃ ao' cap', e = .returned (.slice ao' n cap') ∧ BsIn w' ao' n cap' g ∧ w.grownBy w' none :=
  (copyB n cap ao g w hn h.nil h.bs).mono fun e w' ⟨v, he, ho, hg⟩ => by
    obtain ⟨ao', cap', rfl, hb⟩ := ho.toIn h.fit
    exact ⟨ao', cap', he, hb, hg⟩
/-- bytes lie apart from a row that holds none -/
theorem bs_apart {w : World} {ao : Option Addr} {n cap : Nat} {g : Nat → Int} {X k : Nat} {T : TypeId} {f : Nat → Value} (h : BsIn w ao n cap g) (r : w.rowIs X T k f) (hT : ∀ i z, f i ≠ .int .u8 z) {b off : Nat} (h0 : 0 < n) (e : ao = some ⟨b, off, none⟩) (hb : b = X) : False := by
  obtain ⟨b', off', e', hc⟩ := h.bs.at h0
  rw [e] at e'
  injection e' with e'
  injection e' with e1 e2
  subst e1 e2
  have c0 := hc 0 h0
  rw [Nat.add_zero, hb] at c0
  by_cases hk : off < k
  · rw [r.cell hk] at c0
    exact hT _ _ (Option.some.inj c0)
  · obtain ⟨c, h1, h2, h3⟩ := r
    simp only [World.cell?, h1] at c0
    rw [Array.getElem?_eq_none (by omega)] at c0
    cases c0
theorem row5_no8 {t en z : Int} {a b c : Option Addr} {n m k p q r : Nat} (i : Nat) : row5 (.int .i64 t) (.slice a n p) (.slice b m q) (.int .i64 en) (.slice c k r) i ≠ .int .u8 z := by
  unfold row5
  split <;> intro h <;> cases h
/-- the same image elsewhere -/
def Ig.at (I : Ig) (ca : Option Addr) (cc : Nat) (da : Option Addr) (dc : Nat) (fa : Option Addr) (fc : Nat) : Ig := { I with ca := ca, cc := cc, da := da, dc := dc, fa := fa, fc := fc }
set_option maxRecDepth 100000 in
set_option maxHeartbeats 2000000 in
theorem copyImg {I : Ig} {w : World} (hI : I.In w) (h1 : (I.cn : Int) ≤ 1048576) (h2 : (I.dn : Int) ≤ 1048576) (h3 : (I.fn : Int) ≤ 1048576) :
    Calls Tryz.prog 23 #[I.val] w fun r w' => ∃ ca cc da dc fa fc, r = .returned (I.at ca cc da dc fa fc).val ∧ (I.at ca cc da dc fa fc).In w' ∧ w.grownBy w' none := by
  obtain ⟨t, ca, cn, cc, cg, da, dn, dc, dg, en, fa, fn, fc, fg⟩ := I
  obtain ⟨hc, hd, hf⟩ := hI
  unfold Ig.val Ig.at
  dsimp only at hc hd hf h1 h2 h3 ⊢
  have HC : Hid (∀ W, w.grownBy W none → Calls Tryz.prog 58 #[.slice ca cn cc] W fun e w' => ∃ ao' cap', e = .returned (.slice ao' cn cap') ∧ BsIn w' ao' cn cap' cg ∧ W.grownBy w' none) := fun W g => copyBin (hc.kept g) (by omega)
  have HD : Hid (∀ W, w.grownBy W none → Calls Tryz.prog 58 #[.slice da dn dc] W fun e w' => ∃ ao' cap', e = .returned (.slice ao' dn cap') ∧ BsIn w' ao' dn cap' dg ∧ W.grownBy w' none) := fun W g => copyBin (hd.kept g) (by omega)
  have HF : Hid (∀ W, w.grownBy W none → Calls Tryz.prog 59 #[.slice fa fn fc] W fun e w' => ∃ ao' cap', e = .returned (.slice ao' fn cap') ∧ RwIn .i64 w' ao' fn cap' fg ∧ W.grownBy w' none ∧ ∀ b off, 0 < fn → ao' = some ⟨b, off, none⟩ → W.heap.size ≤ b) := fun W g => copyN fn fc fa fg W h3 (hf.grow g (fun _ _ _ _ => by simp))
  clear hc hd hf
  have G0 : Hid (w.grownBy (((w.alloc (Obj.cells #[.int .i64 t, .slice ca cn cc, .slice da dn dc, .int .i64 en, .slice fa fn fc] 27)).alloc (Obj.cells #[.int .i64 0, .slice none 0 0, .slice none 0 0, .int .i64 0, .slice none 0 0] 27)).alloc (Obj.cells #[.int .i64 t, .slice ca cn cc, .slice da dn dc, .int .i64 en, .slice fa fn fc] 27)) none) := ga (ga (World.grownBy_alloc _ _ _) _) _
  have R0 : Hid ((((w.alloc (Obj.cells #[.int .i64 t, .slice ca cn cc, .slice da dn dc, .int .i64 en, .slice fa fn fc] 27)).alloc (Obj.cells #[.int .i64 0, .slice none 0 0, .slice none 0 0, .int .i64 0, .slice none 0 0] 27)).alloc (Obj.cells #[.int .i64 t, .slice ca cn cc, .slice da dn dc, .int .i64 en, .slice fa fn fc] 27)).rowIs w.heap.size 27 5 (row5 (.int .i64 t) (.slice ca cn cc) (.slice da dn dc) (.int .i64 en) (.slice fa fn fc))) := rowIs_grown (rowIs_grown (row5_new _ _ _ _ _ _ _) (World.grownBy_alloc _ _ _)) (World.grownBy_alloc _ _ _)
  have R1 : Hid ((((w.alloc (Obj.cells #[.int .i64 t, .slice ca cn cc, .slice da dn dc, .int .i64 en, .slice fa fn fc] 27)).alloc (Obj.cells #[.int .i64 0, .slice none 0 0, .slice none 0 0, .int .i64 0, .slice none 0 0] 27)).alloc (Obj.cells #[.int .i64 t, .slice ca cn cc, .slice da dn dc, .int .i64 en, .slice fa fn fc] 27)).rowIs (w.heap.size + 1) 27 5 (row5 (.int .i64 0) (.slice none 0 0) (.slice none 0 0) (.int .i64 0) (.slice none 0 0))) := by
    have := rowIs_grown (row5_new (w.alloc (Obj.cells #[.int .i64 t, .slice ca cn cc, .slice da dn dc, .int .i64 en, .slice fa fn fc] 27)) (.int .i64 0) (.slice none 0 0) (.slice none 0 0) (.int .i64 0) (.slice none 0 0) 27) (World.grownBy_alloc _ (Obj.cells #[.int .i64 t, .slice ca cn cc, .slice da dn dc, .int .i64 en, .slice fa fn fc] 27) none)
    rw [size_alloc] at this
    exact this
  have R2 : Hid ((((w.alloc (Obj.cells #[.int .i64 t, .slice ca cn cc, .slice da dn dc, .int .i64 en, .slice fa fn fc] 27)).alloc (Obj.cells #[.int .i64 0, .slice none 0 0, .slice none 0 0, .int .i64 0, .slice none 0 0] 27)).alloc (Obj.cells #[.int .i64 t, .slice ca cn cc, .slice da dn dc, .int .i64 en, .slice fa fn fc] 27)).rowIs (w.heap.size + 1 + 1) 27 5 (row5 (.int .i64 t) (.slice ca cn cc) (.slice da dn dc) (.int .i64 en) (.slice fa fn fc))) := by
    have := row5_new ((w.alloc (Obj.cells #[.int .i64 t, .slice ca cn cc, .slice da dn dc, .int .i64 en, .slice fa fn fc] 27)).alloc (Obj.cells #[.int .i64 0, .slice none 0 0, .slice none 0 0, .int .i64 0, .slice none 0 0] 27)) (.int .i64 t) (.slice ca cn cc) (.slice da dn dc) (.int .i64 en) (.slice fa fn fc) 27
    rw [size_alloc, size_alloc] at this
    exact this
  go_enter Tryz.func23, Tryz.ntmps23
  go_wp2_with fail
  generalize ((w.alloc (Obj.cells #[.int .i64 t, .slice ca cn cc, .slice da dn dc, .int .i64 en, .slice fa fn fc] 27)).alloc (Obj.cells #[.int .i64 0, .slice none 0 0, .slice none 0 0, .int .i64 0, .slice none 0 0] 27)).alloc (Obj.cells #[.int .i64 t, .slice ca cn cc, .slice da dn dc, .int .i64 en, .slice fa fn fc] 27) = W0 at *
  obtain ⟨b0, hb0⟩ : ∃ n, n = w.heap.size := ⟨_, rfl⟩
  rw [← hb0] at R0 R1 R2 ⊢
  have hb0' : Hid (b0 = w.heap.size) := hb0
  clear hb0
  refine (HC.out _ G0.out).mono ?_
  rintro r w1 ⟨c1, k1, rfl, B1, g1⟩
  have S0 : Hid _ := rowIs_grown R0.out g1
  have S1 : Hid _ := rowIs_grown R1.out g1
  have S2 : Hid _ := rowIs_grown R2.out g1
  have G1 : Hid (w.grownBy w1 none) := grown_trans G0.out g1
  have HB1 : Hid (BsIn w1 c1 cn k1 cg) := B1
  clear R0 R1 R2 G0 g1 B1
  obtain ⟨a0, a1, a2, a3, a4, az⟩ := rowIs_five S0.out
  obtain ⟨y0, y1, y2, y3, y4, yz⟩ := rowIs_five S2.out
  go_wp2_with fail
  have P2 : Hid _ := row5_set1 S2.out (.slice c1 cn k1)
  have P0 : Hid _ := World.rowIs.of_block S0.out ((grown_setCell w1 (b0 + 1 + 1) 1 (.slice c1 cn k1)).block _ (World.rowIs.lt S0.out) (by simp; omega))
  have P1 : Hid _ := World.rowIs.of_block S1.out ((grown_setCell w1 (b0 + 1 + 1) 1 (.slice c1 cn k1)).block _ (World.rowIs.lt S1.out) (by simp))
  have GP : Hid (w.grownBy (w1.setCell ⟨b0 + 1 + 1, 1, none⟩ (.slice c1 cn k1)) none) := grown_two G1.out (grown_setCell _ _ _ _) (by have := hb0'.out; omega)
  have HB1' : Hid (BsIn (w1.setCell ⟨b0 + 1 + 1, 1, none⟩ (.slice c1 cn k1)) c1 cn k1 cg) := HB1.out.grow (grown_setCell _ _ _ _) (fun b off h0 e hh => by injection hh with hh; exact bs_apart HB1.out S2.out (fun i z => row5_no8 i) h0 e hh)
  clear S0 S1 S2 G1 a0 a1 a2 a3 a4 az y0 y1 y2 y3 y4 yz HB1
  refine (HD.out _ GP.out).mono ?_
  rintro r w2 ⟨c2, k2, rfl, B2, g2⟩
  have S0 : Hid _ := rowIs_grown P0.out g2
  have S1 : Hid _ := rowIs_grown P1.out g2
  have S2 : Hid _ := rowIs_grown P2.out g2
  have G1 : Hid (w.grownBy w2 none) := grown_trans GP.out g2
  have HB1 : Hid (BsIn w2 c1 cn k1 cg) := HB1'.out.kept g2
  have HB2 : Hid (BsIn w2 c2 dn k2 dg) := B2
  clear P0 P1 P2 GP g2 B2 HB1'
  obtain ⟨a0, a1, a2, a3, a4, az⟩ := rowIs_five S0.out
  obtain ⟨y0, y1, y2, y3, y4, yz⟩ := rowIs_five S2.out
  go_wp2_with fail
  have P2 : Hid _ := row5_set2 S2.out (.slice c2 dn k2)
  have P0 : Hid _ := World.rowIs.of_block S0.out ((grown_setCell w2 (b0 + 1 + 1) 2 (.slice c2 dn k2)).block _ (World.rowIs.lt S0.out) (by simp; omega))
  have P1 : Hid _ := World.rowIs.of_block S1.out ((grown_setCell w2 (b0 + 1 + 1) 2 (.slice c2 dn k2)).block _ (World.rowIs.lt S1.out) (by simp))
  have GP : Hid (w.grownBy (w2.setCell ⟨b0 + 1 + 1, 2, none⟩ (.slice c2 dn k2)) none) := grown_two G1.out (grown_setCell _ _ _ _) (by have := hb0'.out; omega)
  have HB1' : Hid (BsIn (w2.setCell ⟨b0 + 1 + 1, 2, none⟩ (.slice c2 dn k2)) c1 cn k1 cg) := HB1.out.grow (grown_setCell _ _ _ _) (fun b off h0 e hh => by injection hh with hh; exact bs_apart HB1.out S2.out (fun i z => row5_no8 i) h0 e hh)
  have HB2' : Hid (BsIn (w2.setCell ⟨b0 + 1 + 1, 2, none⟩ (.slice c2 dn k2)) c2 dn k2 dg) := HB2.out.grow (grown_setCell _ _ _ _) (fun b off h0 e hh => by injection hh with hh; exact bs_apart HB2.out S2.out (fun i z => row5_no8 i) h0 e hh)
  clear S0 S1 S2 G1 a0 a1 a2 a3 a4 az y0 y1 y2 y3 y4 yz HB1 HB2
  refine (HF.out _ GP.out).mono ?_
  rintro r w3 ⟨c3, k3, rfl, B3, g3, f3⟩
  have hN3 : Hid (∀ b off, 0 < fn → c3 = some ⟨b, off, none⟩ → ¬ b < b0 + 3) := fun b off h0 e h => by
    have h1 := f3 b off h0 e
    have h2 := World.rowIs.lt P2.out
    omega
  have S1 : Hid _ := rowIs_grown P1.out g3
  have S2 : Hid _ := rowIs_grown P2.out g3
  have G1 : Hid (w.grownBy w3 none) := grown_trans GP.out g3
  have HB1 : Hid (BsIn w3 c1 cn k1 cg) := HB1'.out.kept g3
  have HB2 : Hid (BsIn w3 c2 dn k2 dg) := HB2'.out.kept g3
  have HB3 : Hid (RwIn .i64 w3 c3 fn k3 fg) := B3
  clear P0 P1 P2 GP g3 B3 HB1' HB2'
  obtain ⟨a0, a1, a2, a3, a4, az⟩ := rowIs_five S1.out
  obtain ⟨y0, y1, y2, y3, y4, yz⟩ := rowIs_five S2.out
  go_wp2
  change bodyPost _ _ _ _ _ (put5 (w3.setCell ⟨b0 + 1 + 1, 4, none⟩ (.slice c3 fn k3)) (b0 + 1) (.int .i64 t) (.slice c1 cn k1) (.slice c2 dn k2) (.int .i64 en) (.slice c3 fn k3))
  have gS : Hid (w3.grownBy (w3.setCell ⟨b0 + 1 + 1, 4, none⟩ (.slice c3 fn k3)) (some (b0 + 1 + 1))) := grown_setCell _ _ _ _
  have gP : Hid ((w3.setCell ⟨b0 + 1 + 1, 4, none⟩ (.slice c3 fn k3)).grownBy (put5 (w3.setCell ⟨b0 + 1 + 1, 4, none⟩ (.slice c3 fn k3)) (b0 + 1) (.int .i64 t) (.slice c1 cn k1) (.slice c2 dn k2) (.int .i64 en) (.slice c3 fn k3)) (some (b0 + 1))) := grown_put5 _ _ _ _ _ _ _
  have S1' : Hid ((w3.setCell ⟨b0 + 1 + 1, 4, none⟩ (.slice c3 fn k3)).rowIs (b0 + 1) 27 5 (row5 (.int .i64 0) (.slice none 0 0) (.slice none 0 0) (.int .i64 0) (.slice none 0 0))) := World.rowIs.of_block S1.out (gS.out.block _ (World.rowIs.lt S1.out) (by simp))
  have HB1' : Hid (BsIn (w3.setCell ⟨b0 + 1 + 1, 4, none⟩ (.slice c3 fn k3)) c1 cn k1 cg) := HB1.out.grow gS.out (fun b off h0 e hh => by injection hh with hh; exact bs_apart HB1.out S2.out (fun i z => row5_no8 i) h0 e hh)
  have HB2' : Hid (BsIn (w3.setCell ⟨b0 + 1 + 1, 4, none⟩ (.slice c3 fn k3)) c2 dn k2 dg) := HB2.out.grow gS.out (fun b off h0 e hh => by injection hh with hh; exact bs_apart HB2.out S2.out (fun i z => row5_no8 i) h0 e hh)
  have HB3' : Hid (RwIn .i64 (w3.setCell ⟨b0 + 1 + 1, 4, none⟩ (.slice c3 fn k3)) c3 fn k3 fg) := HB3.out.grow gS.out (fun b off h0 e hh => by injection hh with hh; exact hN3.out b off h0 e (by omega))
  have hR := rowIs_five (row5_put S1'.out (.int .i64 t) (.slice c1 cn k1) (.slice c2 dn k2) (.int .i64 en) (.slice c3 fn k3))
  have G2 : Hid (w.grownBy (w3.setCell ⟨b0 + 1 + 1, 4, none⟩ (.slice c3 fn k3)) none) := grown_two G1.out gS.out (by have := hb0'.out; omega)
  clear a0 a1 a2 a3 a4 az y0 y1 y2 y3 y4 yz
  generalize put5 (w3.setCell ⟨b0 + 1 + 1, 4, none⟩ (.slice c3 fn k3)) (b0 + 1) (.int .i64 t) (.slice c1 cn k1) (.slice c2 dn k2) (.int .i64 en) (.slice c3 fn k3) = w4 at *
  obtain ⟨q0, q1, q2, q3, q4, qz⟩ := hR
  refine bodyPost_ret (by simp [results, Tryz.results23, go_sem, q0, q1, q2, q3, q4]; try rfl) rfl ?_
  refine ⟨c1, k1, c2, k2, c3, k3, rfl, ⟨HB1'.out.grow gP.out (fun b off h0 e hh => by injection hh with hh; exact bs_apart HB1'.out S1'.out (fun i z => row5_no8 i) h0 e hh), HB2'.out.grow gP.out (fun b off h0 e hh => by injection hh with hh; exact bs_apart HB2'.out S1'.out (fun i z => row5_no8 i) h0 e hh), HB3'.out.grow gP.out (fun b off h0 e hh => by injection hh with hh; exact hN3.out b off h0 e (by omega))⟩, grown_two G2.out gP.out (by have := hb0'.out; omega)⟩
end Go.Proofs.YtdklaeppcjopoaaGreat

/- Runs of no calls, held against each other; a trace as another's beginning. -/
namespace Go.Proofs.YtdklaeppcjopoaaGreat
open Go.RowKit
set_option linter.unusedVariables false

theorem eqCalls_nil (w : World) : Calls Tryz.prog 40 #[.slice none 0 0, .slice none 0 0] w fun e w' => e = .returned (.bool true) ∧ w' = w := by
  go_enter Tryz.func40, Tryz.ntmps40
  go_wp2
  refine wp_loop_once ?_
  go_wp2
  go_ret
  exact ⟨rfl, rfl⟩
set_option maxRecDepth 100000 in
set_option maxHeartbeats 2000000 in
theorem eqRun_true {w : World} {ta tb : Option Addr} {n ca cb : Nat} {g : Nat → Int} (ha : RwIn .u64 w ta n ca g) (hb : RwIn .u64 w tb n cb g) (hn : (n : Int) ≤ 140737488351232) (e z st : Int) :
    Calls Tryz.prog 14 #[.agg #[.slice ta n ca, .slice none 0 0, .int .i64 e, .int .i64 z, .int .i64 st], .agg #[.slice tb n cb, .slice none 0 0, .int .i64 e, .int .i64 z, .int .i64 st]] w fun r w' => r = .returned (.bool true) ∧ w.grownBy w' none := by
  have HE : Hid (∀ W, w.grownBy W none → Calls Tryz.prog 10 #[.slice ta n ca, .slice tb n cb] W fun e w' => e = .returned (.bool true) ∧ W.grownBy w' none) := fun W gw => by
    have := eqW n n ca cb ta tb g g W hn (ha.grow gw (fun _ _ _ _ => by simp)) (hb.grow gw (fun _ _ _ _ => by simp))
    rw [decide_eq_true rfl, eqF_true (fun _ _ => rfl), Bool.true_and] at this
    exact this.mono fun e w' ⟨h1, d, h2⟩ => ⟨h1, by rw [h2]; exact grown_drewN (World.grownBy.refl _ _) d⟩
  clear ha hb
  have G0 : Hid (w.grownBy ((w.alloc (Obj.cells #[.slice ta n ca, .slice none 0 0, .int .i64 e, .int .i64 z, .int .i64 st] 35)).alloc (Obj.cells #[.slice tb n cb, .slice none 0 0, .int .i64 e, .int .i64 z, .int .i64 st] 35)) none) := ga (World.grownBy_alloc _ _ _) _
  have RA : Hid (((w.alloc (Obj.cells #[.slice ta n ca, .slice none 0 0, .int .i64 e, .int .i64 z, .int .i64 st] 35)).alloc (Obj.cells #[.slice tb n cb, .slice none 0 0, .int .i64 e, .int .i64 z, .int .i64 st] 35)).rowIs w.heap.size 35 5 (row5 (.slice ta n ca) (.slice none 0 0) (.int .i64 e) (.int .i64 z) (.int .i64 st))) := rowIs_grown (row5_new _ _ _ _ _ _ _) (World.grownBy_alloc _ _ _)
  have RB : Hid (((w.alloc (Obj.cells #[.slice ta n ca, .slice none 0 0, .int .i64 e, .int .i64 z, .int .i64 st] 35)).alloc (Obj.cells #[.slice tb n cb, .slice none 0 0, .int .i64 e, .int .i64 z, .int .i64 st] 35)).rowIs (w.heap.size + 1) 35 5 (row5 (.slice tb n cb) (.slice none 0 0) (.int .i64 e) (.int .i64 z) (.int .i64 st))) := by
    have := row5_new (w.alloc (Obj.cells #[.slice ta n ca, .slice none 0 0, .int .i64 e, .int .i64 z, .int .i64 st] 35)) (.slice tb n cb) (.slice none 0 0) (.int .i64 e) (.int .i64 z) (.int .i64 st) 35
    rw [size_alloc] at this
    exact this
  go_enter Tryz.func14, Tryz.ntmps14
  go_wp2_with fail
  generalize ((w.alloc (Obj.cells #[.slice ta n ca, .slice none 0 0, .int .i64 e, .int .i64 z, .int .i64 st] 35)).alloc (Obj.cells #[.slice tb n cb, .slice none 0 0, .int .i64 e, .int .i64 z, .int .i64 st] 35)) = W0 at *
  refine (HE.out _ G0.out).mono ?_
  rintro r w1 ⟨rfl, g1⟩
  obtain ⟨a0, a1, a2, a3, a4, az⟩ := rowIs_five (rowIs_grown RA.out g1)
  obtain ⟨b0, b1, b2, b3, b4, bz⟩ := rowIs_five (rowIs_grown RB.out g1)
  have G1 : Hid (w.grownBy w1 none) := grown_trans G0.out g1
  clear az bz
  go_wp2_with (go_at_call 40; refine (eqCalls_nil _).mono ?_; rintro r w2 ⟨rfl, rfl⟩)
  go_ret
  exact ⟨rfl, G1.out⟩
/-- a trace that another one begins with -/
theorem RwIn.take {k : IntKind} {w : World} {ao : Option Addr} {n m cap : Nat} {g : Nat → Int} (h : RwIn k w ao n cap g) (hm : m ≤ n) : RwIn k w ao m cap g where
  nil := fun e => by obtain ⟨h1, h2⟩ := h.nil e; exact ⟨by omega, h2⟩
  le := Nat.le_trans hm h.le
  max := h.max
  bs := by
    rcases Nat.eq_zero_or_pos m with h0 | h0
    · exact .inl h0
    · obtain ⟨b, off, e, hc⟩ := h.at (by omega)
      exact .inr ⟨b, off, e, fun i hi => hc i (by omega)⟩
  lt := fun b off h0 e => h.lt b off (by omega) e
set_option maxRecDepth 100000 in
set_option maxHeartbeats 2000000 in
theorem begins_true {w : World} {ta tb : Option Addr} {n m ca cb : Nat} {g g' : Nat → Int} (ha : RwIn .u64 w ta n ca g) (hb : RwIn .u64 w tb m cb g') (hn : (m : Int) ≤ 140737488351232) (hnm : n ≤ m) (he : ∀ i, i < n → g i = g' i) :
    Calls Tryz.prog 29 #[.slice ta n ca, .slice tb m cb] w fun r w' => r = .returned (.bool true) ∧ w.grownBy w' none := by
  have HE : Hid (∀ W, w.grownBy W none → Calls Tryz.prog 10 #[.slice ta n ca, .slice tb n cb] W fun e w' => e = .returned (.bool true) ∧ W.grownBy w' none) := fun W gw => by
    have := eqW n n ca cb ta tb g g' W (by omega) (ha.grow gw (fun _ _ _ _ => by simp)) ((hb.take hnm).grow gw (fun _ _ _ _ => by simp))
    rw [decide_eq_true rfl, eqF_true he, Bool.true_and] at this
    exact this.mono fun e w' ⟨h1, d, h2⟩ => ⟨h1, by rw [h2]; exact grown_drewN (World.grownBy.refl _ _) d⟩
  have h1 : (n : Int) ≤ m := by omega
  have h2 : decide ((n : Int) ≤ m) = true := decide_eq_true h1
  have h3 : m ≤ cb := hb.le
  have hnl := hb.nil
  clear ha hb
  go_enter Tryz.func29, Tryz.ntmps29
  go_wp2_with fail
  refine (HE.out _ (World.grownBy.refl _ _)).mono ?_
  rintro r w1 ⟨rfl, g1⟩
  go_wp2
  go_ret
  exact ⟨rfl, g1⟩
end Go.Proofs.YtdklaeppcjopoaaGreat

/- Too great an ask. -/
namespace Go.Proofs.YtdklaeppcjopoaaGreat
open Go.RowKit
set_option linter.unusedVariables false

theorem RowsIn.kept3 {W W' : World} {a : Option Addr} {len cap : Nat} {V : Nat → AsV} (h : RowsIn 3 AsAt W a len cap V) (g : W.grownBy W' none) : ∀ i, i < len → ∃ b off, a = some ⟨b, off, none⟩ ∧ W'.cell? ⟨b, off + i * 3, none⟩ = some (.slice (V i).aa (V i).an (V i).ac) ∧ W'.cell? ⟨b, off + i * 3 + 1, none⟩ = some (.slice (V i).ra (V i).rn (V i).rc) ∧ (V i).an ≤ reachBytes ∧ (V i).rn ≤ reachBytes := by
  intro i hi
  rcases h.bs with h0 | ⟨b, off, e, hl, hq⟩
  · omega
  · have q := hq i hi
    exact ⟨b, off, e, g.cell q.c0 (by simp), g.cell q.c1 (by simp), q.a.fits, q.r.fits⟩
/-- what an ask that is played keeps to -/
def AskV.light (v : AskV) : Prop := v.I.cn + v.I.dn + v.I.fn + v.an + v.kn ≤ 8000 ∧ (v.F ≤ 3000 ∨ 1048576 < v.F)
/-- behind Heavy -/
def HvP (v : AskV) (w : World) (r : Ending) (w' : World) : Prop := ∃ b, r = .returned (.bool b) ∧ (b = false → v.light) ∧ w.grownBy w' none
set_option maxRecDepth 100000 in
set_option maxHeartbeats 4000000 in
theorem heavy_any {v : AskV} {w : World} (hv : v.In w) : Calls Tryz.prog 6 #[v.val] w (HvP v w) := by
  obtain ⟨Q, hQ⟩ : ∃ Q, HvP v w = Q := ⟨_, rfl⟩
  have HQ : Hid (∀ (b : Bool) (w' : World), (b = false → v.I.cn + v.I.dn + v.I.fn + v.an + v.kn ≤ 8000 ∧ (v.F ≤ 3000 ∨ 1048576 < v.F)) → w.grownBy w' none → Q (.returned (.bool b)) w') := fun b w' h1 h2 => by rw [← hQ]; exact ⟨b, rfl, h1, h2⟩
  rw [hQ]
  clear hQ
  have m0 : reachBytes = 140737488351232 := by decide
  have n1 := hv.lc
  have n2 := hv.ld
  have n3 := hv.lf
  have n4 := hv.la
  have n5 := hv.k.fits
  have HK : Hid (∀ W, w.grownBy W none → ∀ i, i < v.kn → ∃ b off, v.ka = some ⟨b, off, none⟩ ∧ W.cell? ⟨b, off + i * 3, none⟩ = some (.slice (v.kg i).aa (v.kg i).an (v.kg i).ac) ∧ W.cell? ⟨b, off + i * 3 + 1, none⟩ = some (.slice (v.kg i).ra (v.kg i).rn (v.kg i).rc) ∧ (v.kg i).an ≤ reachBytes ∧ (v.kg i).rn ≤ reachBytes) := fun W g => hv.k.kept3 g
  have f1 := hv.f1
  have f2 := hv.f2
  obtain ⟨⟨t, ca, cn, cc, cg, da, dn, dc, dg, en, fa, fn, fc, fg⟩, S, aa, an, ac, ag, ka, kn, kc, kg, F⟩ := v
  unfold AskV.val
  dsimp only at n1 n2 n3 n4 n5 HK HQ f1 f2 ⊢
  rw [m0] at n1 n2 n3 n4 n5
  clear hv
  have G0 : Hid (w.grownBy (w.alloc (Obj.cells #[.int .i64 t, .slice ca cn cc, .slice da dn dc, .int .i64 en, .slice fa fn fc, .int .i64 S, .slice aa an ac, .slice ka kn kc, .int .i64 F] 31)) none) := World.grownBy_alloc _ _ _
  have c7 : (w.alloc (Obj.cells #[.int .i64 t, .slice ca cn cc, .slice da dn dc, .int .i64 en, .slice fa fn fc, .int .i64 S, .slice aa an ac, .slice ka kn kc, .int .i64 F] 31)).cell? ⟨w.heap.size, 7, none⟩ = some (.slice ka kn kc) := by simp
  have c8 : (w.alloc (Obj.cells #[.int .i64 t, .slice ca cn cc, .slice da dn dc, .int .i64 en, .slice fa fn fc, .int .i64 S, .slice aa an ac, .slice ka kn kc, .int .i64 F] 31)).cell? ⟨w.heap.size, 8, none⟩ = some (.int .i64 F) := by simp
  go_enter Tryz.func6, Tryz.ntmps6
  go_wp2_with fail
  generalize (w.alloc (Obj.cells #[.int .i64 t, .slice ca cn cc, .slice da dn dc, .int .i64 en, .slice fa fn fc, .int .i64 S, .slice aa an ac, .slice ka kn kc, .int .i64 F] 31)) = W0 at *
  obtain ⟨b0, hb0⟩ : ∃ b0, b0 = w.heap.size := ⟨_, rfl⟩
  rw [← hb0] at c7 c8 ⊢
  clear hb0
  go_loopw [3, 4] (fun n i wr => ∃ k s : Nat, i = .int .i64 k ∧ k ≤ kn ∧ n = .int .i64 s ∧ cn + dn + fn + an + kn ≤ s ∧ s ≤ 10000000000000000 ∧ W0.grownBy wr none) (fun _ i _ => kn - (intOf i).toNat)
  case atStart => exact ⟨0, cn + dn + fn + an + kn, rfl, Nat.zero_le _, by go_num, Nat.le_refl _, by omega, World.grownBy.refl _ _⟩
  case round =>
    obtain ⟨k, s, rfl, hk, rfl, hs1, hs2, gr⟩ := hrel
    have HG : Hid (w.grownBy wr none) := grown_trans G0.out gr
    have HG0 : Hid (W0.grownBy wr none) := gr
    have d7 := gr.cell c7 (by simp)
    have d8 := gr.cell c8 (by simp)
    clear gr c7 c8
    by_cases hlt : k < kn
    · have hlt' : (k : Int) < kn := by omega
      by_cases hs : s < 8000
      · have hs' : (s : Int) < 8000 := by omega
        obtain ⟨b, off, rfl, q0, q1, x0, x1⟩ := HK.out _ HG.out k hlt
        rw [m0] at x0 x1
        generalize (kg k).aa = aa1 at q0
        generalize (kg k).ac = ac1 at q0
        generalize (kg k).ra = ra1 at q1
        generalize (kg k).rc = rc1 at q1
        generalize (kg k).an = an1 at q0 x0
        generalize (kg k).rn = rn1 at q1 x1
        go_wp2_with fail
        go_quiet (fail)
        go_wp2
        go_roundw
        case rel => exact ⟨k + 1, s + an1 + rn1, by go_num, by omega, by go_num, by omega, by omega, grown_drewN HG0.out _⟩
        case measure => simp [intOf]; omega
      · have hs'' : decide ((s : Int) < 8000) = false := decide_eq_false (by omega)
        by_cases g8 : (8000 : Int) < s
        · have g8' : decide ((8000 : Int) < s) = true := decide_eq_true g8
          go_wp2
          exact HQ.out true wr (fun h => by cases h) HG.out
        · have g8' : decide ((8000 : Int) < s) = false := decide_eq_false g8
          by_cases hF1 : (3000 : Int) < F
          · have hF1' : decide ((3000 : Int) < F) = true := decide_eq_true hF1
            by_cases hF2 : F ≤ 1048576
            · have hF2' : decide (F ≤ 1048576) = true := decide_eq_true hF2
              go_wp2
              exact HQ.out true wr (fun h => by cases h) HG.out
            · have hF2' : decide (F ≤ 1048576) = false := decide_eq_false hF2
              go_wp2
              exact HQ.out false wr (fun h => ⟨by omega, by omega⟩) HG.out
          · have hF1' : decide ((3000 : Int) < F) = false := decide_eq_false hF1
            go_wp2
            exact HQ.out false wr (fun h => ⟨by omega, by omega⟩) HG.out
    · have hlt'' : decide ((k : Int) < kn) = false := decide_eq_false (by omega)
      by_cases g8 : (8000 : Int) < s
      · have g8' : decide ((8000 : Int) < s) = true := decide_eq_true g8
        go_wp2
        exact HQ.out true wr (fun h => by cases h) HG.out
      · have g8' : decide ((8000 : Int) < s) = false := decide_eq_false g8
        by_cases hF1 : (3000 : Int) < F
        · have hF1' : decide ((3000 : Int) < F) = true := decide_eq_true hF1
          by_cases hF2 : F ≤ 1048576
          · have hF2' : decide (F ≤ 1048576) = true := decide_eq_true hF2
            go_wp2
            exact HQ.out true wr (fun h => by cases h) HG.out
          · have hF2' : decide (F ≤ 1048576) = false := decide_eq_false hF2
            go_wp2
            exact HQ.out false wr (fun h => ⟨by omega, by omega⟩) HG.out
        · have hF1' : decide ((3000 : Int) < F) = false := decide_eq_false hF1
          go_wp2
          exact HQ.out false wr (fun h => ⟨by omega, by omega⟩) HG.out
end Go.Proofs.YtdklaeppcjopoaaGreat

/- A watch of no calls. -/
namespace Go.Proofs.YtdklaeppcjopoaaGreat
open Go.RowKit
set_option linter.unusedVariables false

theorem calls_nil (n : Int) (cp : Nat) (ao : Option Addr) (w : World) : Calls Tryz.prog 31 #[.slice ao 0 cp, .int .i64 n] w fun r w' => r = .returned (.bool true) ∧ w' = w := by
  go_enter Tryz.func31, Tryz.ntmps31
  go_wp2
  go_ret
  exact ⟨rfl, rfl⟩
set_option maxHeartbeats 800000 in
theorem watch_nil (v : Value) (cp : Nat) (ao : Option Addr) (w : World) : Calls Tryz.prog 32 #[.slice ao 0 cp, v] w fun r w' => r = .returned (.pointer (some ⟨w.heap.size + 1, 0, none⟩)) ∧ w' = ((w.alloc (.map #[] 0)).alloc (Obj.cells #[.slice ao 0 cp, .map (some w.heap.size), .slice none 0 0, .slice none 0 0, .slice none 0 0, .int .i64 0, .int .i64 0, .int .i64 0] 85)) := by
  have hmm := @run_makeMap Tryz.prog
  go_enter Tryz.func32, Tryz.ntmps32
  go_wp2
  refine wp_loop_once ?_
  go_wp2
  go_ret
  exact ⟨rfl, rfl⟩
end Go.Proofs.YtdklaeppcjopoaaGreat

/- A watch of no calls: what it sees. -/
namespace Go.Proofs.YtdklaeppcjopoaaGreat
open Go.RowKit
set_option linter.unusedVariables false

set_option maxRecDepth 100000 in
theorem run_lookup_nil {w : World} (K : Nat) (x : Int) (hK : w.heap[K]? = some (.map #[] 0)) : (Instr.lookup 82 (.map (some K)) (.int .u64 x) true).run Tryz.prog w = .ok (.tuple #[.int .i64 0, .bool false]) w := by
  have hg : (getObj K).run Tryz.prog w = .ok (.map #[] 0) w := by simp [getObj, Sem.run, go_sem, hK]
  simp [Instr.lookup, go_sem, hg]
  rfl
theorem wret_nil {w : World} (V B : Nat) (h2 : w.cell? ⟨V, 2, none⟩ = some (.slice none 0 0)) : Calls Tryz.prog 67 #[.pointer (some ⟨V, 0, none⟩), .pointer (some ⟨B, 0, none⟩)] w fun r w' => r = .returned (.tuple #[]) ∧ w' = w := by
  go_enter Tryz.func67, Tryz.ntmps67
  go_wp2
  first | go_end0 | go_returns
  exact ⟨rfl, rfl⟩
set_option maxHeartbeats 800000 in
theorem wcall_nil {w : World} (V B K : Nat) (p back : Int) (h1 : w.cell? ⟨V, 1, none⟩ = some (.map (some K))) (hK : w.heap[K]? = some (.map #[] 0)) (c1 : w.cell? ⟨B, 1, none⟩ = some (.int .u64 p)) : Calls Tryz.prog 66 #[.pointer (some ⟨V, 0, none⟩), .pointer (some ⟨B, 0, none⟩), .int .u64 back] w fun r w' => r = .returned (.tuple #[]) ∧ w.grownBy w' none := by
  have hl : ∀ n, (Instr.lookup 82 (.map (some K)) (.int .u64 p) true).run Tryz.prog (w.drewN n) = .ok (.tuple #[.int .i64 0, .bool false]) (w.drewN n) := fun n => run_lookup_nil K p (by rw [show (w.drewN n).heap = w.heap from by simp [World.drewN]]; exact hK)
  go_enter Tryz.func66, Tryz.ntmps66
  go_wp2
  go_quiet (fail)
  go_wp2
  first | go_end0 | go_returns
  exact ⟨rfl, grown_drewN (World.grownBy.refl _ _) _⟩
end Go.Proofs.YtdklaeppcjopoaaGreat

/- A watch of no calls: what it sees of a step. -/
namespace Go.Proofs.YtdklaeppcjopoaaGreat
open Go.RowKit
set_option linter.unusedVariables false

/-- a watch of no calls, as it lies: its row, and that no place is known to it -/
structure IsWn (w : World) (V K : Nat) (tr : Value) (st : Int) : Prop where
  hd : ∃ c0, w.rowIs V 85 8 (fun i => if i = 0 then c0 else if i = 1 then .map (some K) else if i = 2 then .slice none 0 0 else if i = 3 then tr else if i = 4 then .slice none 0 0 else if i = 7 then .int .i64 st else .int .i64 0)
  mp : w.heap[K]? = some (.map #[] 0)
theorem IsWn.c1 {w : World} {V K : Nat} {tr : Value} {st : Int} (x : IsWn w V K tr st) : w.cell? ⟨V, 1, none⟩ = some (.map (some K)) := by obtain ⟨c0, h⟩ := x.hd; exact h.cell (i := 1) (by decide)
theorem IsWn.c2 {w : World} {V K : Nat} {tr : Value} {st : Int} (x : IsWn w V K tr st) : w.cell? ⟨V, 2, none⟩ = some (.slice none 0 0) := by obtain ⟨c0, h⟩ := x.hd; exact h.cell (i := 2) (by decide)
theorem IsWn.c3 {w : World} {V K : Nat} {tr : Value} {st : Int} (x : IsWn w V K tr st) : w.cell? ⟨V, 3, none⟩ = some tr := by obtain ⟨c0, h⟩ := x.hd; exact h.cell (i := 3) (by decide)
theorem IsWn.c7 {w : World} {V K : Nat} {tr : Value} {st : Int} (x : IsWn w V K tr st) : w.cell? ⟨V, 7, none⟩ = some (.int .i64 st) := by obtain ⟨c0, h⟩ := x.hd; exact h.cell (i := 7) (by decide)
theorem IsWn.fz {w : World} {V K : Nat} {tr : Value} {st : Int} (x : IsWn w V K tr st) (k : Nat) : w.frozen? ⟨V, k, none⟩ = false := by obtain ⟨c0, h⟩ := x.hd; exact h.frozen k
theorem IsWn.kept {w w' : World} {V K : Nat} {tr : Value} {st : Int} (x : IsWn w V K tr st) (hV : w'.heap[V]? = w.heap[V]?) (hK : w'.heap[K]? = w.heap[K]?) : IsWn w' V K tr st := ⟨by obtain ⟨c0, h⟩ := x.hd; exact ⟨c0, h.of_block hV⟩, hK.trans x.mp⟩
set_option maxHeartbeats 800000 in
theorem see_none {w : World} (V B : Nat) (op a b c k sub sc im lb : Int) (h27 : (op == 27) = false) (h23 : (op == 23) = false) (h24 : (op == 24) = false) :
    Calls Tryz.prog 35 #[.pointer (some ⟨V, 0, none⟩), .agg #[.int .i64 op, .int .i64 a, .int .i64 b, .int .i64 c, .int .i64 k, .int .i64 sub, .int .i64 sc, .int .i64 im, .int .i64 lb], .pointer (some ⟨B, 0, none⟩)] w fun r w' => r = .returned (.tuple #[]) ∧ w.grownBy w' none := by
  go_enter Tryz.func35, Tryz.ntmps35
  go_wp2
  first | go_end0 | go_returns
  exact ⟨rfl, World.grownBy_alloc _ _ _⟩
set_option maxHeartbeats 800000 in
theorem see_ret {w : World} (V B : Nat) (op a b c k sub sc im lb : Int) (h : op = 24) (h2 : w.cell? ⟨V, 2, none⟩ = some (.slice none 0 0)) :
    Calls Tryz.prog 35 #[.pointer (some ⟨V, 0, none⟩), .agg #[.int .i64 op, .int .i64 a, .int .i64 b, .int .i64 c, .int .i64 k, .int .i64 sub, .int .i64 sc, .int .i64 im, .int .i64 lb], .pointer (some ⟨B, 0, none⟩)] w fun r w' => r = .returned (.tuple #[]) ∧ w.grownBy w' none := by
  subst h
  have HR : Hid (∀ W, w.grownBy W none → Calls Tryz.prog 67 #[.pointer (some ⟨V, 0, none⟩), .pointer (some ⟨B, 0, none⟩)] W fun r w' => r = .returned (.tuple #[]) ∧ w' = W) := fun W g => wret_nil V B (g.cell h2 (by simp))
  go_enter Tryz.func35, Tryz.ntmps35
  go_wp2_with (go_at_call 67; refine (HR.out _ (World.grownBy_alloc _ _ _)).mono ?_; rintro r w1 ⟨rfl, rfl⟩)
  first | go_end0 | go_returns
  exact ⟨rfl, World.grownBy_alloc _ _ _⟩
end Go.Proofs.YtdklaeppcjopoaaGreat

/- A watch of no calls: what it sees of a call. -/
namespace Go.Proofs.YtdklaeppcjopoaaGreat
open Go.RowKit
set_option linter.unusedVariables false

set_option maxRecDepth 100000 in
set_option maxHeartbeats 4000000 in
theorem see_call {w : World} (V B K : Nat) (op a b c k sub sc im lb p : Int) (h : op = 23) (h1 : w.cell? ⟨V, 1, none⟩ = some (.map (some K))) (hK : w.heap[K]? = some (.map #[] 0)) (c1 : w.cell? ⟨B, 1, none⟩ = some (.int .u64 p)) :
    Calls Tryz.prog 35 #[.pointer (some ⟨V, 0, none⟩), .agg #[.int .i64 op, .int .i64 a, .int .i64 b, .int .i64 c, .int .i64 k, .int .i64 sub, .int .i64 sc, .int .i64 im, .int .i64 lb], .pointer (some ⟨B, 0, none⟩)] w fun r w' => r = .returned (.tuple #[]) ∧ w.grownBy w' none := by
  subst h
  have hKl : K < w.heap.size := by
    rcases Nat.lt_or_ge K w.heap.size with h | h
    · exact h
    · rw [Array.getElem?_eq_none h] at hK; cases hK
  have HR : Hid (∀ W back, w.grownBy W none → Calls Tryz.prog 66 #[.pointer (some ⟨V, 0, none⟩), .pointer (some ⟨B, 0, none⟩), .int .u64 back] W fun r w' => r = .returned (.tuple #[]) ∧ W.grownBy w' none) := fun W back g => wcall_nil V B K p back (g.cell h1 (by simp)) ((g.block K hKl (by simp)).trans hK) (g.cell c1 (by simp))
  have G1 := World.grownBy_alloc w (Obj.cells #[.int .i64 23, .int .i64 a, .int .i64 b, .int .i64 c, .int .i64 k, .int .i64 sub, .int .i64 sc, .int .i64 im, .int .i64 lb] 87) none
  have c7 : (w.alloc (Obj.cells #[.int .i64 23, .int .i64 a, .int .i64 b, .int .i64 c, .int .i64 k, .int .i64 sub, .int .i64 sc, .int .i64 im, .int .i64 lb] 87)).cell? ⟨w.heap.size, 7, none⟩ = some (.int .i64 im) := by simp
  have d1 := G1.cell c1 (by simp)
  have HG1 : Hid _ := G1
  clear h1 hK c1 hKl G1
  go_enter Tryz.func35, Tryz.ntmps35
  go_wp2_with fail
  obtain ⟨b0, hb0⟩ : ∃ n, n = w.heap.size := ⟨_, rfl⟩
  rw [← hb0] at c7
  rw [← hb0]
  clear hb0
  generalize w.alloc (Obj.cells #[.int .i64 23, .int .i64 a, .int .i64 b, .int .i64 c, .int .i64 k, .int .i64 sub, .int .i64 sc, .int .i64 im, .int .i64 lb] 87) = W2 at *
  refine tail_quiet 10 (by kernel_rfl) (by kernel_rfl) ?_
  have HG3 : Hid (w.grownBy W2.drew none) := grown_trans HG1.out (grown_drew (World.grownBy.refl _ none))
  have e1 : W2.drew.cell? ⟨B, 1, none⟩ = some (.int .u64 p) := d1
  have e7 : W2.drew.cell? ⟨b0, 7, none⟩ = some (.int .i64 im) := c7
  clear d1 c7 HG1
  generalize W2.drew = W3 at *
  simp only [List.take_succ_cons, List.take_zero, List.drop_succ_cons, List.drop_zero]
  repeat (go_big_quiet_step (exact rfl))
  refine wpQuiet_nil ?_
  go_wp2_with (go_at_call 66; refine (HR.out _ _ HG3.out).mono ?_; rintro r w1 ⟨rfl, g1⟩)
  first | go_end0 | go_returns
  exact ⟨rfl, grown_trans HG3.out g1⟩
end Go.Proofs.YtdklaeppcjopoaaGreat

/- A watch of no calls: what it sees of a word told. -/
namespace Go.Proofs.YtdklaeppcjopoaaGreat
open Go.RowKit
set_option linter.unusedVariables false

theorem OwnW.slice {w : World} {base : Nat} {v : Value} {l : List Int} (h : OwnW w base v l) : ∃ ao cp, v = .slice ao l.length cp := by
  obtain ⟨_, ⟨rfl, h0⟩ | ⟨k, c, cur, rfl, _⟩⟩ := h
  · exact ⟨none, 0, by rw [h0]⟩
  · exact ⟨_, _, rfl⟩
theorem stepw_app1d {ops : Array Oper} {o : Oper} {a : Act} {Q : Exit → Act → World → Prop} {K : Act → World → Prop} {E : Prop} {W : World} (hgd : o.guard = none) (s x : Operand)
    (ho : o.op = .call { callee := .builtin .append, args := #[s, x], argTypes := #[28, 28] }) (base : Nat) (v : Value) (l : List Int) (X : Int) (hs : a.eval s = v) (hown : OwnW W base v l)
    (hx : a.eval x = .slice (some ⟨W.heap.size, 0, none⟩) 1 1) (hl : l.length ≤ 2000000) (hb : base ≤ W.heap.size)
    (h : ∀ v' w', OwnW w' base v' (l ++ [X]) → W.drew.grownBy w' v.ownBlock → K (a.put o.dst v') w') :
    if Region.wanted o (yielded ops a.tmps) = true then Oper.wp Tryz.prog o a (W.alloc (Obj.cells #[.int .u64 X] 57)).drew K Q else E :=
  stepw_app1 (W := W.drew) hgd s x ho base v l X hs hown hx hl hb h
set_option maxRecDepth 100000 in
set_option maxHeartbeats 4000000 in
theorem see_emit {w : World} (V B base : Nat) (op b c k sub sc im lb X : Int) (a : Nat) (ha : a < 16) (l : List Int) (ao : Option Addr) (cp : Nat) (h : op = 27) (hO : OwnW w base (.slice ao l.length cp) l) (hb : base ≤ w.heap.size) (hl : l.length ≤ 2000000) (hVb : V < base)
    (c3 : w.cell? ⟨V, 3, none⟩ = some (.slice ao l.length cp)) (f3 : w.frozen? ⟨V, 3, none⟩ = false) (cr : w.cell? ⟨B, 2 + a, none⟩ = some (.int .u64 X)) :
    Calls Tryz.prog 35 #[.pointer (some ⟨V, 0, none⟩), .agg #[.int .i64 op, .int .i64 a, .int .i64 b, .int .i64 c, .int .i64 k, .int .i64 sub, .int .i64 sc, .int .i64 im, .int .i64 lb], .pointer (some ⟨B, 0, none⟩)] w fun r w' => r = .returned (.tuple #[]) ∧ ∃ v' w1, w' = w1.setCell ⟨V, 3, none⟩ v' ∧ OwnW w1 base v' (l ++ [X]) ∧ w.grownBy w1 (Value.slice ao l.length cp).ownBlock := by
  subst h
  have G1 := World.grownBy_alloc w (Obj.cells #[.int .i64 27, .int .i64 a, .int .i64 b, .int .i64 c, .int .i64 k, .int .i64 sub, .int .i64 sc, .int .i64 im, .int .i64 lb] 87) none
  have c1 : (w.alloc (Obj.cells #[.int .i64 27, .int .i64 a, .int .i64 b, .int .i64 c, .int .i64 k, .int .i64 sub, .int .i64 sc, .int .i64 im, .int .i64 lb] 87)).cell? ⟨w.heap.size, 1, none⟩ = some (.int .i64 a) := by simp
  have d3 := G1.cell c3 (by simp)
  have dr := G1.cell cr (by simp)
  have dO : Hid (OwnW _ base (.slice ao l.length cp) l) := World.ownsRow.alloc hO (Obj.cells #[.int .i64 27, .int .i64 a, .int .i64 b, .int .i64 c, .int .i64 k, .int .i64 sub, .int .i64 sc, .int .i64 im, .int .i64 lb] 87)
  have HG1 : Hid _ := G1
  have hf3 : (w.alloc (Obj.cells #[.int .i64 27, .int .i64 a, .int .i64 b, .int .i64 c, .int .i64 k, .int .i64 sub, .int .i64 sc, .int .i64 im, .int .i64 lb] 87)).frozen? ⟨V, 3, none⟩ = false := (World.frozen?_of_block (w := w) (G1.block V (by omega) (by simp))).trans f3
  have hs2 : base ≤ (w.alloc (Obj.cells #[.int .i64 27, .int .i64 a, .int .i64 b, .int .i64 c, .int .i64 k, .int .i64 sub, .int .i64 sc, .int .i64 im, .int .i64 lb] 87)).heap.size := by rw [size_alloc]; omega
  have hV2 : V < (w.alloc (Obj.cells #[.int .i64 27, .int .i64 a, .int .i64 b, .int .i64 c, .int .i64 k, .int .i64 sub, .int .i64 sc, .int .i64 im, .int .i64 lb] 87)).heap.size := by rw [size_alloc]; omega
  have hb2 : base ≤ w.heap.size + 1 := by omega
  clear c3 cr hO G1
  go_enter Tryz.func35, Tryz.ntmps35
  go_wp2_with fail
  obtain ⟨b0, hb0⟩ : ∃ n, n = w.heap.size := ⟨_, rfl⟩
  rw [← hb0] at c1
  rw [← hb0]
  clear hb0
  clear f3 hb hb2
  generalize w.alloc (Obj.cells #[.int .i64 27, .int .i64 a, .int .i64 b, .int .i64 c, .int .i64 k, .int .i64 sub, .int .i64 sc, .int .i64 im, .int .i64 lb] 87) = W2 at *
  have HNE : Hid (some V ≠ (Value.slice ao l.length cp).ownBlock) := fun e => by
    have := (World.ownsRow.lt dO.out V e.symm).1
    omega
  have HF : Hid (W2.drew.frozen? ⟨V, 3, none⟩ = false) := hf3
  have HVl : Hid (V < W2.drew.heap.size) := hV2
  have a16 : (a : Int) < 16 := by omega
  have d3' : W2.drew.cell? ⟨V, 3, none⟩ = some (.slice ao l.length cp) := d3
  have dr' : W2.drew.cell? ⟨B, 2 + a, none⟩ = some (.int .u64 X) := dr
  have c1' : W2.drew.cell? ⟨b0, 1, none⟩ = some (.int .i64 a) := c1
  go_region_law (first
    | (refine stepw_app1d rfl _ _ rfl base (.slice ao l.length cp) l X rfl (by exact dO.out) rfl hl hs2 ?_; intro v' w4 ho4 hg4; obtain ⟨ao', cp', rfl⟩ := ho4.slice; have q3 := hg4.cell d3' HNE.out; have qf := (World.frozen?_of_block (w := W2.drew) (a := ⟨V, 3, none⟩) (hg4.block V HVl.out HNE.out)).trans HF.out))
  all_goals
    go_wp2
    first | go_end0 | go_returns
    exact ⟨rfl, _, w4, rfl, (by have e : l.length + 1 = (l ++ [X]).length := by simp
                                rw [e]; exact ho4), grown_trans (grown_noneR _ (grown_trans HG1.out (grown_drew (World.grownBy.refl _ none)))) hg4⟩
end Go.Proofs.YtdklaeppcjopoaaGreat
