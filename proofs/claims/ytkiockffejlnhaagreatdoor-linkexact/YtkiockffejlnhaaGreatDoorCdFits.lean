/- cisc.fits: its contract. -/
import Derived.Test.YtkiockffejlnhaaGreatDoorG5
import Derived.Test.YtkiockffejlnhaaGreatDoorCdRow
import Derived.Test.YtkiockffejlnhaaGreatDoorG2
namespace Go.Proofs.YtkiockffejlnhaaGreatDoor
set_option maxRecDepth 100000
set_option maxHeartbeats 32000000
open Go.RowKit
set_option linter.unusedVariables false
theorem cfn_any (s k n : Int) (w : World) :
  Calls Tryz.prog 85 #[.int .i64 s, .int .i64 k, .int .i64 n] w fun e w' => e = .returned (.bool (Cc.fnB s k n)) ∧ w' = w := by
 have h1 : 0 ≤ n % 18446744073709551616 := by omega
 have h2 : n % 18446744073709551616 < 18446744073709551616 := by omega
 have HW : Hid (∀ x : Int, wrap64 (wrap32 x) = Rc.s32 x) := wrap_s32
 cases hk : Wd.intB k
 ·go_enter Tryz.func85, Tryz.ntmps85
  go_wp2_with (go_at_call 122; refine (cint_any _ _).mono ?_; rw [hk]; rintro e w' ⟨rfl, rfl⟩)
  go_ret
  exact ⟨ret_bool (by unfold Cc.fnB; rw [hk]; rfl), rfl⟩
 ·cases hs : Wd.shB s
  all_goals
   go_enter Tryz.func85, Tryz.ntmps85
   go_wp2_with (first
    | (go_at_call 122; refine (cint_any _ _).mono ?_; rw [hk]; rintro e w' ⟨rfl, rfl⟩)
    | (go_at_call 86; refine (cshift_any _ _).mono ?_; rw [hs]; rintro e w' ⟨rfl, rfl⟩)
    | (go_at_call 123; refine (canon_any _ _ _ h1 h2).mono ?_; rintro e w' ⟨rfl, rfl⟩))
   go_ret
   refine ⟨ret_bool ?_, rfl⟩
   unfold Cc.fnB
   rw [hk, hs, ← HW.out]
   rfl
theorem cties_any (v : InV) (w : World) :
  Calls Tryz.prog 83 #[inst v] w fun e w' => e = .returned (.bool (Cc.tiesB v)) ∧ w.grownBy w' none := by
 unfold inst
 cases hd : Cc.divB v.sub v.k
 case true =>
  go_enter Tryz.func83, Tryz.ntmps83
  go_wp2_with (first
   | (go_at_call 84; refine (cdiv_any _ _ _).mono ?_; rw [hd]; rintro e w' ⟨rfl, rfl⟩))
  all_goals
   go_ret
   refine ⟨ret_bool ?_, gal⟩
   unfold Cc.tiesB
   rw [hd]
   simp_all
 case false =>
  cases hs : Wd.shB v.sub
  all_goals
   go_enter Tryz.func83, Tryz.ntmps83
   go_wp2_with (first
    | (go_at_call 84; refine (cdiv_any _ _ _).mono ?_; rw [hd]; rintro e w' ⟨rfl, rfl⟩)
    | (go_at_call 86; refine (cshift_any _ _).mono ?_; rw [hs]; rintro e w' ⟨rfl, rfl⟩))
   all_goals
    go_ret
    refine ⟨ret_bool ?_, gal⟩
    unfold Cc.tiesB
    rw [hd, hs]
    simp_all
theorem cfits_any (v : InV) (w : World) :
  Calls Tryz.prog 59 #[inst v] w fun e w' => e = .returned (.bool (Cc.fitsB v)) ∧ w.grownBy w' none := by
 obtain ⟨op, a, b, c, k, sub, sc, imm, lb⟩ := v
 have HT : Hid (∀ (W : World), Calls Tryz.prog 83 #[.agg #[.int .i64 op, .int .i64 a, .int .i64 b, .int .i64 c, .int .i64 k, .int .i64 sub, .int .i64 sc, .int .i64 imm, .int .i64 lb]] W fun e w' => e = .returned (.bool (Cc.tiesB ⟨op, a, b, c, k, sub, sc, imm, lb⟩)) ∧ W.grownBy w' none) := fun W => cties_any ⟨op, a, b, c, k, sub, sc, imm, lb⟩ W
 unfold inst
 dsimp only
 rcases Cc.ops op with rfl | rfl | rfl | rfl | rfl | rfl | rfl | rfl | rfl | rfl | rfl | rfl | rfl | rfl | rfl | rfl | rfl | rfl | rfl | rfl | rfl | rfl | rfl | rfl | rfl | h
 case inr.inr.inr.inr.inr.inr.inr.inr.inr.inr.inr.inr.inr.inr.inr.inr.inr.inr.inr.inr.inr.inr.inr.inr.inr =>
  have HF : Cc.fitsB ⟨op, a, b, c, k, sub, sc, imm, lb⟩ = true := by
   simp only [beq_eq_false_iff_ne, ne_eq] at h
   unfold Cc.fitsB
   simp [h]
  rw [HF]
  clear HF HT
  obtain ⟨a1, a3, a4, a5, a6, a7, a8, a10, a11, a12, a13, a14, a15, a16, a17, a18, a19, a22, a23, a24, a25, a26, a27, a28, a29⟩ := h
  go_enter Tryz.func59, Tryz.ntmps59
  go_wp2
  go_ret
  exact ⟨rfl, gal⟩
 all_goals
  go_enter Tryz.func59, Tryz.ntmps59
  go_wp2_with (first
   | (go_at_call 82; refine (chasBin_any _ _ _).mono ?_; rintro e w1 ⟨rfl, d1, rfl⟩)
   | (go_at_call 83; refine (HT.out _).mono ?_; rintro e w2 ⟨rfl, g2⟩)
   | (go_at_call 84; refine (cdiv_any _ _ _).mono ?_; rintro e w' ⟨rfl, rfl⟩)
   | (go_at_call 86; refine (cshift_any _ _).mono ?_; rintro e w' ⟨rfl, rfl⟩)
   | (go_at_call 85; refine (cfn_any _ _ _ _).mono ?_; rintro e w' ⟨rfl, rfl⟩)
   | (go_at_call 87; refine (chasUn_any _ _ _).mono ?_; rintro e w' ⟨rfl, rfl⟩)
   | (go_at_call 88; refine (chasConv_any _ _ _).mono ?_; rintro e w' ⟨rfl, rfl⟩)
   | (go_at_call 89; refine (cword_any _ _).mono ?_; rintro e w' ⟨rfl, rfl⟩)
   | (go_at_call 90; refine (ccond_any _ _).mono ?_; rintro e w' ⟨rfl, rfl⟩))
  all_goals
   go_ret
   refine ⟨ret_bool ?_, by first | exact gal | exact grown_drewN gal _ | exact gtr (grown_drewN gal _) g2⟩
   clear HT
   unfold Cc.fitsB
   first | rfl | (simp_all; done) | (simp_all; omega)
end Go.Proofs.YtkiockffejlnhaaGreatDoor
