/- RiscEncodes: the walk. -/
import Derived.Test.YtkpmhgkljedapaaRcArgs
namespace Go.Proofs.Ytkpmhgkljedapaa
open Go.RowKit
set_option linter.unusedVariables false

set_option maxRecDepth 100000 in
set_option maxHeartbeats 8000000 in
theorem riscEncodes_walk (a0 : Option Addr) (len cap : Nat) (V : Nat → InV) (w : World) (hop : IsInsts w a0 len cap V) :
    Calls Try.prog 3 #[.slice a0 len cap] w fun e w' => e = .returned (.bool true) ∧ Below w.heap.size w w' := by
  obtain ⟨hlc, hcm, hop⟩ := hop
  have hcap : (len : Int) ≤ 9223372036854775807 := by unfold maxLen at hcm; omega
  have HO : Hid (len = 0 ∨ ∃ b off, a0 = some ⟨b, off, none⟩ ∧ b < w.heap.size ∧ ∀ i, i < len → InAt w b (off + i * 9) (V i) ∧ InFit (V i)) := hop
  clear hop hcm hlc
  go_enter Try.func3, Try.ntmps3
  go_wp2
  go_loopw [3] (fun s wr => ∃ i : Nat, s = .int .i64 i ∧ i ≤ 100 ∧ Below w.heap.size w wr) (fun s _ => 100 - (intOf s).toNat)
  case atStart => exact ⟨0, rfl, by omega, Below.refl _ _⟩
  case round =>
    obtain ⟨i, rfl, hi, hbel⟩ := hrel
    by_cases hlt : i < len
    · by_cases h100 : (i : Int) < 100
      · rcases HO.out with h0 | ⟨b, off, rfl, hbb, HV⟩
        · omega
        obtain ⟨o1, f1⟩ := HV i hlt
        have O2 : Hid (InAt wr b (off + i * 9) (V i)) := o1.below hbel hbb
        have HF : Hid (InFit (V i)) := f1
        clear o1 f1 HV HO
        generalize V i = v at *
        obtain ⟨c0, c1, c2, c3, c4, c5, c6, c7, c8⟩ := O2.out
        cases hm : Rc.mayB v
        · go_wp2_with (first
            | (go_at_call 6; refine (encode_no v _ HF.out.i1 HF.out.i2 hm).mono ?_; rintro e w1 ⟨rfl, hg1⟩; obtain ⟨d0, d1, d2, d3, d4, d5, d6, d7, d8⟩ := O2.out.kept hg1 (by simp))
            | (go_at_call 7; refine (rmay_any v _).mono ?_; rw [hm]; rintro e w2 ⟨rfl, hg2⟩)
            | (go_at_call 8; refine (num_any _ _).mono ?_; rintro e w3 ⟨rfl, rfl⟩))
          go_roundw
          case rel => exact ⟨i + 1, by go_num, by omega, hbel.grown (grown_trans hg1 hg2) hbel.size (by simp)⟩
          case measure => simp [intOf]; omega
        · go_wp2_with (first
            | (go_at_call 6; refine (encode_ok v _ HF.out.i1 HF.out.i2 hm).mono ?_; rintro e w1 ⟨T, rfl, ho1, hg1⟩; obtain ⟨d0, d1, d2, d3, d4, d5, d6, d7, d8⟩ := O2.out.kept hg1 (by simp))
            | (go_at_call 7; refine (rmay_any v _).mono ?_; rw [hm]; rintro e w2 ⟨rfl, hg2⟩; obtain ⟨e0, e1, e2, e3, e4, e5, e6, e7, e8⟩ := O2.out.kept (grown_trans hg1 hg2) (by simp))
            | (go_at_call 10; refine (rencode_any v _).mono ?_; rintro e w4 ⟨T4, rfl, ho4, hg4⟩)
            | (go_at_call 8; refine (num_any _ _).mono ?_; rintro e w3 ⟨rfl, rfl⟩))
          have g4 := grown_trans hg1 (grown_trans hg2 hg4)
          have o5 := ho1.kept (grown_trans hg2 hg4) (.inr (by simp [Value.ownBlock]))
          have hT := (ho1.lt T rfl).1
          refine (eq_own_true (by decide) o5 ho4 (fun _ _ => rfl)).mono ?_
          rintro e w5 ⟨rfl, d, rfl⟩
          have o6 := o5.kept (grown_drewN (World.grownBy.refl _ none) d) (.inr (by simp [Value.ownBlock]))
          have hbel5 := hbel.grown (grown_drewN g4 d) hbel.size (by simp)
          have hs5 : wr.heap.size ≤ (w4.drewN d).heap.size := g4.size
          go_wp2_with (go_at_call 11; refine (spoilB wr.heap.size 8 (.slice (some ⟨T, 0, none⟩) 8 8) (Rc.enc v) _ (by decide) hs5 o6).mono ?_; rintro e w6 ⟨rfl, hg6⟩)
          go_roundw
          case rel => exact ⟨i + 1, by go_num, by omega, hbel5.grown hg6 hbel5.size (fun k hk => by simp [Value.ownBlock] at hk; have := hbel.size; omega)⟩
          case measure => simp [intOf]; omega
      · clear HO
        go_wp2_with (go_at_call 12; refine (wakes_any _).mono ?_; rintro e w7 ⟨rfl, hg7⟩)
        go_ret
        exact ⟨rfl, hbel.grown hg7 hbel.size (by simp)⟩
    · clear HO
      go_wp2_with (go_at_call 12; refine (wakes_any _).mono ?_; rintro e w7 ⟨rfl, hg7⟩)
      go_ret
      exact ⟨rfl, hbel.grown hg7 hbel.size (by simp)⟩

end Go.Proofs.Ytkpmhgkljedapaa
