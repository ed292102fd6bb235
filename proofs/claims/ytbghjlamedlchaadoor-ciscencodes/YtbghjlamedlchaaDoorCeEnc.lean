/- CiscEncodes: the walk. -/
import Derived.Test.YtbghjlamedlchaaDoorCeBack
import Derived.Test.YtbghjlamedlchaaDoorCfM
import Derived.Test.YtbghjlamedlchaaDoorCfEnc
namespace Go.Proofs.YtbghjlamedlchaaDoor
open Go.RowKit
set_option linter.unusedVariables false

set_option maxRecDepth 100000 in
set_option maxHeartbeats 8000000 in
theorem ciscEncodes_walk (a0 : Option Addr) (len cap : Nat) (V : Nat → InV) (w : World) (hT : TabAt w) (hop : IsInsts4 w a0 len cap V) :
    Calls Tryd.prog 3 #[.slice a0 len cap] w fun e w' => e = .returned (.bool true) ∧ Below w.heap.size w w' := by
  obtain ⟨hlc, hcm, hop⟩ := hop
  have hcap : (len : Int) ≤ 9223372036854775807 := by unfold maxLen at hcm; omega
  have HO : Hid (len = 0 ∨ ∃ b off, a0 = some ⟨b, off, none⟩ ∧ b < w.heap.size ∧ ∀ i, i < len → InAt w b (off + i * 9) (V i) ∧ InRng (V i)) := hop
  have HT : Hid (TabAt w) := hT
  clear hop hcm hlc hT
  go_enter Tryd.func3, Tryd.ntmps3
  go_wp2
  go_loopw [3] (fun s wr => ∃ i : Nat, s = .int .i64 i ∧ i ≤ 100 ∧ Below w.heap.size w wr) (fun s _ => 100 - (intOf s).toNat)
  case atStart => exact ⟨0, rfl, by omega, Below.refl _ _⟩
  case round =>
    obtain ⟨i, rfl, hi, hbel⟩ := hrel
    obtain ⟨wo, rfl⟩ : ∃ wo, wo = wr := ⟨wr, rfl⟩
    have HT2 : Hid (TabAt wo) := HT.out.below hbel rfl
    by_cases hlt : i < len
    · by_cases h100 : (i : Int) < 100
      · rcases HO.out with h0 | ⟨b, off, rfl, hbb, HV⟩
        · omega
        obtain ⟨o1, f1⟩ := HV i hlt
        have O2 : Hid (InAt wo b (off + i * 9) (V i)) := o1.below hbel hbb
        have HF : Hid (InRng (V i)) := f1
        clear o1 f1 HV HO
        generalize hv : V i = v at *
        clear hv
        obtain ⟨c0, c1, c2, c3, c4, c5, c6, c7, c8⟩ := O2.out
        have HM : Hid (∀ W, Calls Tryd.prog 8 #[.agg #[.int .i64 v.op, .int .i64 v.a, .int .i64 v.b, .int .i64 v.c, .int .i64 v.k, .int .i64 v.sub, .int .i64 v.scale, .int .i64 v.imm, .int .i64 v.label]] W fun e w' => e = .returned (.bool (Cc.mayB v)) ∧ W.grownBy w' none) := fun W => rmay4_any v W HF.out.i1 HF.out.i2
        cases hm : Cc.mayB v
        · rw [hm] at HM
          go_wp2_with (first
            | (go_at_call 7; refine (cencode_no v _ HT2.out HF.out hm).mono ?_; rintro e w1 ⟨rfl, hg1⟩; obtain ⟨d0, d1, d2, d3, d4, d5, d6, d7, d8⟩ := O2.out.kept hg1 (by simp))
            | (go_at_call 8; refine (HM.out _).mono ?_; rintro e w2 ⟨rfl, hg2⟩)
            | (go_at_call 9; refine (cnum_any _ _).mono ?_; rintro e w3 ⟨rfl, rfl⟩))
          go_roundw
          case rel => exact ⟨i + 1, by go_num, by omega, (hbel.grown hg1 hbel.size (by simp)).grown hg2 (Nat.le_trans hbel.size hg1.size) (by simp)⟩
          case measure => simp [intOf]; omega
        · rw [hm] at HM
          have HL := Cc.enc_len v
          have HP := Cc.enc_pos v
          have HE : Hid (∀ W, TabAt W → Calls Tryd.prog 7 #[.agg #[.int .i64 v.op, .int .i64 v.a, .int .i64 v.b, .int .i64 v.c, .int .i64 v.k, .int .i64 v.sub, .int .i64 v.scale, .int .i64 v.imm, .int .i64 v.label]] W fun e w' => ∃ x, e = .returned (.tuple #[x, .int .i64 0]) ∧ OwnL w' W.heap.size x (Cc.enc v) ∧ W.grownBy w' none) := fun W hW => cencode_ok v W hW HF.out hm
          have HR : Hid (∀ W, Calls Tryd.prog 11 #[.agg #[.int .i64 v.op, .int .i64 v.a, .int .i64 v.b, .int .i64 v.c, .int .i64 v.k, .int .i64 v.sub, .int .i64 v.scale, .int .i64 v.imm, .int .i64 v.label]] W fun e w' => ∃ x, e = .returned x ∧ OwnL w' W.heap.size x (Cc.enc v) ∧ W.grownBy w' none) := fun W => rencode4_any v W
          clear hm
          generalize Cc.enc v = S at *
          go_wp2_with (first
            | (go_at_call 7; refine (HE.out _ HT2.out).mono ?_; rintro e w1 ⟨x, rfl, ho1, hg1⟩; obtain ⟨T, cp, rfl, hc1, hT1⟩ := own_slice ho1.toB HP; obtain ⟨d0, d1, d2, d3, d4, d5, d6, d7, d8⟩ := O2.out.kept hg1 (by simp))
            | (go_at_call 8; refine (HM.out _).mono ?_; rintro e w2 ⟨rfl, hg2⟩; have P2 := O2.out.kept (grown_trans hg1 hg2) (by simp); obtain ⟨f0, f1, f2, f3, f4, f5, f6, f7, f8⟩ := P2)
            | (go_at_call 9; refine (cnum_any _ _).mono ?_; rintro e w3 ⟨rfl, rfl⟩)
            | (go_at_call 11; refine (HR.out _).mono ?_; rintro e w4 ⟨x4, rfl, ho4, hg4⟩)
            | (go_at_call 10; refine (eq_ownL (by omega) ((OwnL.grow ho1 hg2).grow hg4) ho4).mono ?_; rintro e w5 ⟨rfl, d, rfl⟩))
          have GX : wo.grownBy (w4.drewN d) none := grown_trans (grown_trans hg1 hg2) (grown_drewN hg4 d)
          have oX : OwnL (w4.drewN d) wo.heap.size (.slice (some ⟨T, 0, none⟩) S.length cp) S := OwnL.grow (OwnL.grow ho1 hg2) (grown_drewN hg4 d)
          have hbX := hbel.grown GX hbel.size (by simp)
          refine (spoilB wo.heap.size S.length _ _ _ (by omega) GX.size oX.toB).mono ?_
          rintro e w6 ⟨rfl, hg6⟩
          go_wp2
          go_roundw
          case rel => exact ⟨i + 1, by go_num, by omega, hbX.grown hg6 hbX.size (fun k hk => by have := oX.base k hk; have := hbel.size; omega)⟩
          case measure => simp [intOf]; omega
      · clear HO
        go_wp2_with (go_at_call 13; refine (cwakes_any _ HT2.out).mono ?_; rintro e w7 ⟨rfl, hg7⟩)
        go_ret
        exact ⟨rfl, hbel.grown hg7 hbel.size (by simp)⟩
    · clear HO
      go_wp2_with (go_at_call 13; refine (cwakes_any _ HT2.out).mono ?_; rintro e w7 ⟨rfl, hg7⟩)
      go_ret
      exact ⟨rfl, hbel.grown hg7 hbel.size (by simp)⟩
end Go.Proofs.YtbghjlamedlchaaDoor
