/- A struct's field: what check asks. -/
import Derived.Test.YtpcgkggpmipiaaaGreatG13
namespace Go.Proofs.YtpcgkggpmipiaaaGreat
set_option maxRecDepth 100000
set_option maxHeartbeats 32000000
open Go.RowKit
set_option linter.unusedVariables false
theorem ckFieldOf_any {N : Nat} {w : World} {SB : Nat} {c : Ck.En} {A : ScA} {loops nodes deep : Int} (h : Sc N w SB c A loops nodes deep) {i : Nat} (hi : i < c.n) (n : Int) :
  Calls Tryz.prog 167 #[.pointer (some ⟨SB, 0, none⟩), .int .i64 (i : Int), .int .i64 n] w fun e w' => e = ckE (Value.int .i64) (Ck.fld c i n) ∧ w.grownBy w' none := by
 have HK : Hid (Calls Tryz.prog 93 #[.agg #[.slice A.ea c.n A.ec, .slice A.va c.n A.vc], .int .i64 (i : Int)] w fun r w' => r = .returned (.int .i64 (c.T i).kind) ∧ w.grownBy w' none) := ckKind_any h.tb hi
 have HM1 : Hid (∀ e W, Calls Tryz.prog 42 #[.bool true, .int .i64 e] W fun r w' => r = .returned (.tuple #[]) ∧ w' = W) := ckMust_ok
 have HM0 : Hid (∀ e W, Calls Tryz.prog 42 #[.bool false, .int .i64 e] W fun r w' => r = ckF e ∧ w' = W) := ckMust_no
 have k0 : w.cell? ⟨SB, 0, none⟩ = some (.slice A.ea c.n A.ec) := h.k.cell (i := 0) rfl
 have k1 : w.cell? ⟨SB, 1, none⟩ = some (.slice A.va c.n A.vc) := h.k.cell (i := 1) rfl
 have HS : Hid (∀ W, w.grownBy W none → W.cell? ⟨SB, 0, none⟩ = some (.slice A.ea c.n A.ec)) := fun W g => (h.grow g).k.cell (i := 0) rfl
 have hle := h.tb.t.le
 have hi' : (i : Int) < c.n := by omega
 have HT : Hid (∀ W, w.grownBy W none → ∃ b off fa fc, A.ea = some ⟨b, off, none⟩ ∧ W.cell? ⟨b, off + i * 4 + 3, none⟩ = some (.slice fa (c.T i).nf fc) ∧ NumIn N W fa (c.T i).nf fc (c.T i).F) := fun W g => by
  obtain ⟨b, off, fa, fc, e, _, hty⟩ := (h.tb.t.grow9 g).at hi
  exact ⟨b, off, fa, fc, e, hty.c3, hty.f⟩
 have HR : Hid (Ck.fld c i n = (do Ck.must ((c.T i).kind == 13) 93; Ck.must (Ty.nmB (c.T i).nf n) 96; .ok ((c.T i).F n.toNat))) := rfl
 obtain ⟨R, hR⟩ : ∃ R, R = Ck.fld c i n := ⟨_, rfl⟩
 rw [← hR] at HR ⊢
 clear hR h
 obtain ⟨b, off, fa0, fc0, hea, _, hnn⟩ := HT.out w (World.grownBy.refl _ _)
 obtain ⟨ea, hea2⟩ : ∃ ea, ea = A.ea := ⟨_, rfl⟩
 rw [← hea2] at hea HT HS k0 HK
 clear hea2
 subst hea
 have hnl := hnn.le
 have hnx := hnn.max
 unfold maxLen at hnx
 clear hnn
 generalize c.T i = x at *
 have HN : Hid (∀ W, Calls Tryz.prog 160 #[.int .i64 (x.nf : Int), .int .i64 n] W fun r w' => r = .returned (.bool (Ty.nmB x.nf n)) ∧ w' = W) := fun W => ckNum64_any _ _ W (by omega)
 by_cases hk : x.kind = 13
 ·have hkb : (x.kind == 13) = true := by simp [hk]
  by_cases hn : 0 ≤ n ∧ n < x.nf
  ·obtain ⟨j, rfl⟩ : ∃ j : Nat, n = j := ⟨n.toNat, by omega⟩
   have hb : Ty.nmB x.nf (j : Int) = true := Ty.nmB_iff.2 hn
   have hj' : (j : Int) < x.nf := hn.2
   rw [hb] at HN HR
   rw [Int.toNat_natCast] at HR
   have hr2 : R = .ok (x.F j) := by rw [HR.out]; simp [Ck.must, hk, bind, Except.bind]
   have HR2 : Hid (R = .ok (x.F j)) := hr2
   clear hr2
   clear HR hb hn
   go_enter Tryz.func167, Tryz.ntmps167
   go_wp2_with (first
    | (go_at_call 93; refine HK.out.mono ?_; rintro e w3 ⟨rfl, hg3⟩; have HG3 : Hid (w.grownBy w3 none) := hg3; have s0 := HS.out _ hg3; obtain ⟨b', off', fa, fc, hb', c3, hnum⟩ := HT.out _ hg3; injection hb' with hb'; injection hb' with hb' ho'; subst hb' ho'; obtain ⟨fb, fo, rfl, _, cj⟩ := hnum.at (show j < x.nf by omega); have hfl := hnum.le; clear hnum hg3)
    | (go_at_call 42; refine (HM1.out _ _).mono ?_; rintro e w4 ⟨rfl, hw4⟩; rw [hw4]; clear hw4 w4)
    | (go_at_call 160; refine (HN.out _).mono ?_; rintro e w5 ⟨rfl, hw5⟩; rw [hw5]; clear hw5 w5))
   go_ret
   exact ⟨by rw [HR2.out]; rfl, HG3.out⟩
  ·have hb : Ty.nmB x.nf n = false := by rw [← Bool.not_eq_true, Ty.nmB_iff]; exact hn
   rw [hb] at HN HR
   have hr2 : R = .error 96 := by rw [HR.out]; simp [Ck.must, hk, bind, Except.bind]
   have HR2 : Hid (R = .error 96) := hr2
   clear hr2
   clear HR hb hn
   go_enter Tryz.func167, Tryz.ntmps167
   go_wp2_with (first
    | (go_at_call 93; refine HK.out.mono ?_; rintro e w3 ⟨rfl, hg3⟩; have HG3 : Hid (w.grownBy w3 none) := hg3; have s0 := HS.out _ hg3; obtain ⟨b', off', fa, fc, hb', c3, hnum⟩ := HT.out _ hg3; injection hb' with hb'; injection hb' with hb' ho'; subst hb' ho'; clear hnum hg3)
    | (go_at_call 42; refine (HM1.out 93 _).mono ?_; rintro e w4 ⟨rfl, hw4⟩; rw [hw4]; clear hw4 w4)
    | (go_at_call 160; refine (HN.out _).mono ?_; rintro e w5 ⟨rfl, hw5⟩; rw [hw5]; clear hw5 w5)
    | (go_at_call 42; refine (HM0.out 96 _).mono ?_; rintro e w6 ⟨rfl, hw6⟩; rw [hw6]; clear hw6 w6))
   exact ⟨rfl, by rw [HR2.out]; rfl, HG3.out⟩
 ·have hkb : (x.kind == 13) = false := by simp [hk]
  have hr2 : R = .error 93 := by rw [HR.out]; simp [Ck.must, hk, bind, Except.bind]
  have HR2 : Hid (R = .error 93) := hr2
  clear hr2
  clear HR
  go_enter Tryz.func167, Tryz.ntmps167
  go_wp2_with (first
   | (go_at_call 93; refine HK.out.mono ?_; rintro e w3 ⟨rfl, hg3⟩; have HG3 : Hid (w.grownBy w3 none) := hg3; clear hg3)
   | (go_at_call 42; refine (HM0.out 93 _).mono ?_; rintro e w6 ⟨rfl, hw6⟩; rw [hw6]; clear hw6 w6))
  exact ⟨rfl, by rw [HR2.out]; rfl, HG3.out⟩
end Go.Proofs.YtpcgkggpmipiaaaGreat
