/- The law WordFloats, walked. -/
import Derived.Test.YtjhcamcdmebpnaaFLaws
import Derived.Test.YtjhcamcdmebpnaaOps
namespace Go.Proofs.Ytjhcamcdmebpnaa
open Go.RowKit
set_option linter.unusedVariables false

theorem bne_off' {a b : Int} (h : a = b) : (a != b) = false := by simp [h]

set_option maxHeartbeats 1000000 in
set_option maxRecDepth 100000 in
theorem floats_some (b off len cap : Nat) (V : Nat → OpV) (w : World) (hl : len ≤ cap) (hm : cap ≤ maxLen) (hbb : b < w.heap.size) (hV : ∀ i, i < len → OpAt w b (off + i * 5) (V i) ∧ OpFit (V i)) :
    Calls Try.prog 7 #[.slice (some ⟨b, off, none⟩) len cap] w fun e w' => e = .returned (.bool true) ∧ Below w.heap.size w w' := by
  unfold maxLen at hm
  have HV : Hid (∀ i, i < len → OpAt w b (off + i * 5) (V i) ∧ OpFit (V i)) := hV
  clear hV
  go_enter Try.func7, Try.ntmps7
  go_wp2
  go_loopw [3] (fun s wr => ∃ i : Nat, i ≤ len ∧ s = .int .i64 i ∧ Below w.heap.size w wr) (fun s _ => len - (intOf s).toNat)
  case atStart => exact ⟨0, Nat.zero_le _, rfl, Below.refl _ _⟩
  case round =>
    obtain ⟨i, hi, rfl, hbel⟩ := hrel
    by_cases hlt : i < len
    · by_cases h200 : (i : Int) < 200
      · obtain ⟨⟨c0, c1, c2, c3, c4⟩, fit⟩ := HV.out i hlt
        have d3 := (hbel.cell (p := ⟨b, off + i * 5 + 3, none⟩) hbb).trans c3
        have d4 := (hbel.cell (p := ⟨b, off + i * 5 + 4, none⟩) hbb).trans c4
        obtain ⟨_, _, _, _, _, _, x1, x2, y1, y2⟩ := fit
        generalize (V i).x = x at *
        generalize (V i).y = y at *
        clear c0 c1 c2 c3 c4 HV
        have e1 : (Fl.bv 1 x y != Fl.bv 1 y x) = false := bne_off' (Fl.add_comm x y)
        have e2 : (Fl.bv 3 x y != Fl.bv 3 y x) = false := bne_off' (Fl.mul_comm x y)
        have e3 : (Fl.bv 2 x y != Fl.bv 1 x (Wd.flip y)) = false := bne_off' (Fl.sub_flip x y y1 y2)
        have e4 := bits_flip y1 y2
        have u1 := Fl.un_flip y1 y2
        obtain ⟨r1, r2⟩ := Fl.flip_rng y1 y2
        have e6 := Fl.nan_eq x
        have e7 := Fl.nan_ne x
        have e8 := Fl.noughts
        have e9 : (Fl.bv 13 x y != Fl.bv 15 y x) = false := bne_off' (Fl.lt_gt x y)
        have e10 := Fl.one_of x y
        obtain ⟨l1, l2⟩ := Fl.b01 13 x y (by omega)
        obtain ⟨l3, l4⟩ := Fl.b01 11 x y (by omega)
        obtain ⟨l5, l6⟩ := Fl.b01 15 x y (by omega)
        have e5 : (Fl.bv 12 (Fl.bv 1 x y) (Fl.bv 1 x y) == 1) = false ∨ (Fl.bv 12 (Fl.bv 1 x y) (Fl.bv 1 x y) == 1) = true ∧ (Fl.bv 1 x y != 9221120237041090560) = false := by
          rcases Fl.sum_nan x y with h | h
          · left; rw [h]; rfl
          · cases hh : (Fl.bv 12 (Fl.bv 1 x y) (Fl.bv 1 x y) == 1)
            · left; rfl
            · right; exact ⟨rfl, bne_off' h⟩
        rcases e5 with e5 | ⟨e5, e5'⟩
        all_goals
          go_wp2_with (first | (go_at_call 24; refine (binL_any _ _ _ _ (by first | assumption | decide | exact Fl.bv_rng.1) (by first | assumption | decide | exact Fl.bv_rng.2) (by first | assumption | decide | exact Fl.bv_rng.1) (by first | assumption | decide | exact Fl.bv_rng.2)).mono ?_; rintro e w' ⟨rfl, nn, rfl⟩) | (go_at_call 8; refine (un_any _ _ _ _ (by assumption) (by assumption)).mono ?_; rintro e w' ⟨rfl, rfl⟩) | (go_at_call 14; refine (num_any _ _).mono ?_; rintro e w' ⟨rfl, rfl⟩))
          go_roundw
          case rel => exact ⟨i + 1, by omega, by go_num, below_drewN hbel _⟩
          case measure => simp [intOf]; omega
      · go_wp2_with (go_at_call 23; refine (wakes_any _).mono ?_; rintro e w' ⟨rfl, rfl⟩)
        go_ret
        exact ⟨rfl, hbel⟩
    · go_wp2_with (go_at_call 23; refine (wakes_any _).mono ?_; rintro e w' ⟨rfl, rfl⟩)
      go_ret
      exact ⟨rfl, hbel⟩

set_option maxHeartbeats 1000000 in
set_option maxRecDepth 100000 in
theorem floats_walk (a0 : Option Addr) (len0 cap0 : Nat) (V : Nat → OpV) (w : World) (w0 : IsOps w a0 len0 cap0 V) :
    Calls Try.prog 7 #[.slice a0 len0 cap0] w fun e w' => e = .returned (.bool true) ∧ Below w.heap.size w w' := by
  rcases w0 with rfl | ⟨b, off, rfl, hl, hm, hbb, hV⟩
  · go_enter Try.func7, Try.ntmps7
    go_wp2
    refine wp_loop_rounds 1 ?_
    rw [rounds_succ]
    go_wp2_with (go_at_call 23; refine (wakes_any _).mono ?_; rintro e w' ⟨rfl, rfl⟩)
    go_ret
    exact ⟨rfl, Below.refl _ _⟩
  · exact floats_some b off len0 cap0 V w hl hm hbb hV

end Go.Proofs.Ytjhcamcdmebpnaa
