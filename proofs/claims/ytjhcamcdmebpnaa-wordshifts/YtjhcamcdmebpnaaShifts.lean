/- The law WordShifts, walked. -/
import Derived.Test.YtjhcamcdmebpnaaOps
namespace Go.Proofs.Ytjhcamcdmebpnaa
open Go.RowKit
set_option linter.unusedVariables false

set_option maxHeartbeats 1000000 in
set_option maxRecDepth 100000 in
theorem shifts_some (b off len cap : Nat) (V : Nat → OpV) (w : World) (hl : len ≤ cap) (hm : cap ≤ maxLen) (hbb : b < w.heap.size) (hV : ∀ i, i < len → OpAt w b (off + i * 5) (V i) ∧ OpFit (V i)) :
    Calls Try.prog 5 #[.slice (some ⟨b, off, none⟩) len cap] w fun e w' => e = .returned (.bool true) ∧ Below w.heap.size w w' := by
  unfold maxLen at hm
  have HV : Hid (∀ i, i < len → OpAt w b (off + i * 5) (V i) ∧ OpFit (V i)) := hV
  clear hV
  go_enter Try.func5, Try.ntmps5
  go_wp2
  go_loopw [3] (fun s wr => ∃ i : Nat, i ≤ len ∧ s = .int .i64 i ∧ Below w.heap.size w wr) (fun s _ => len - (intOf s).toNat)
  case atStart => exact ⟨0, Nat.zero_le _, rfl, Below.refl _ _⟩
  case round =>
    obtain ⟨i, hi, rfl, hbel⟩ := hrel
    by_cases hlt : i < len
    · by_cases h200 : (i : Int) < 200
      · obtain ⟨⟨c0, c1, c2, c3, c4⟩, fit⟩ := HV.out i hlt
        have d0 := (hbel.cell (p := ⟨b, off + i * 5, none⟩) hbb).trans c0
        have d1 := (hbel.cell (p := ⟨b, off + i * 5 + 1, none⟩) hbb).trans c1
        have d2 := (hbel.cell (p := ⟨b, off + i * 5 + 2, none⟩) hbb).trans c2
        have d3 := (hbel.cell (p := ⟨b, off + i * 5 + 3, none⟩) hbb).trans c3
        have d4 := (hbel.cell (p := ⟨b, off + i * 5 + 4, none⟩) hbb).trans c4
        obtain ⟨_, _, _, _, _, _, x1, x2, y1, y2⟩ := fit
        have hkr := kind_rng (V i).k
        generalize (V i).op = op at *
        generalize (V i).to = to at *
        generalize (V i).x = x0 at *
        generalize (V i).y = y at *
        clear c0 c1 c2 c3 c4 HV
        go_wp2_with fail
        generalize wrap64 (2 + wrap64 ((IntKind.u64.wrap (V i).k).tmod 8)) = k at *
        refine (canon_any _ _ _ (by assumption) (by assumption)).mono ?_
        rintro e w' ⟨rfl, rfl⟩
        obtain ⟨k1, k2⟩ := hkr
        have hw := Wd.canon_canon k x0
        have xr := Wd.canon_rng k x0
        generalize Wd.canon k x0 = x at *
        obtain ⟨xr1, xr2⟩ := xr
        have Hw : Hid (Wd.canon k x = x) := hw
        clear hw
        have e9 : Hid (Wd.bv 9 k x 0 = x) := Wd.shl_none k1 k2 Hw.out
        have e10 : Hid (Wd.bv 10 k x 0 = x) := Wd.shr_none k1 k2 xr1 xr2 Hw.out
        have hk10 : Hid (k ≠ 10) := by show k ≠ 10; omega
        clear d0 d1 d2 d3 d4 x1 x2
        go_wp2_with fail
        go_loop [8, 9, 10] (fun a c j => ∃ n : Int, 0 ≤ n ∧ n ≤ y % 70 ∧ j = .int .u64 n ∧ a = .int .u64 (Wd.bv 9 k x n) ∧ c = .int .u64 (Wd.bv 10 k x n)) (fun _ _ j => (y % 70 - intOf j).toNat)
        case atStart => exact ⟨0, by omega, by omega, rfl, by rw [e9.out], by rw [e10.out]⟩
        case round =>
          obtain ⟨n, n1, n2, rfl, rfl, rfl⟩ := hrel
          have r9 := Wd.bv_rng (op := 9) (k := k) (x := x) (y := n)
          have r10 := Wd.bv_rng (op := 10) (k := k) (x := x) (y := n)
          obtain ⟨r91, r92⟩ := r9
          obtain ⟨r101, r102⟩ := r10
          by_cases hn : n < y % 70
          · have s9 : Hid (_ = _) := Wd.shl_step k1 k2 Hw.out n1 (by omega)
            have s10 : Hid (_ = _) := Wd.shr_step k1 k2 Hw.out n1 (by omega)
            go_wp2_with (go_at_call 24; refine (bin_any _ _ _ _ _ (by assumption) (by assumption) (by decide) (by decide) hk10.out).mono ?_; rintro e w' ⟨rfl, rfl⟩)
            go_round
            case rel => exact ⟨n + 1, by omega, by omega, by go_num, by rw [s9.out], by rw [s10.out]⟩
            case measure => simp [intOf]; omega
          · obtain rfl : n = y % 70 := by omega
            have i9 : Wd.isB k (Wd.bv 9 k x (y % 70)) = true := Wd.is_word (by omega) (by omega) (by rw [Wd.bv_shl k1 k2 Hw.out (by omega) (by omega), Wd.canon_canon])
            have i10 : Wd.isB k (Wd.bv 10 k x (y % 70)) = true := Wd.is_word (by omega) (by omega) (Wd.shr_word k1 k2 Hw.out (by omega) (by omega))
            clear hn
            by_cases h64 : 64 ≤ y
            · have f9 : Wd.bv 9 k x y = 0 := Wd.shl_over k1 k2 Hw.out h64 y2
              have f10 : Wd.bv 10 k x y = Wd.bv 10 k x 64 := Wd.shr_far k1 k2 Hw.out h64 y2
              go_wp2_with (first | (go_at_call 24; refine (bin_any _ _ _ _ _ (by assumption) (by assumption) (by first | assumption | decide | omega) (by first | assumption | decide | omega) hk10.out).mono ?_; rintro e w' ⟨rfl, rfl⟩) | (go_at_call 21; refine (is_any _ _ _ (by assumption) (by assumption)).mono ?_; rintro e w' ⟨rfl, rfl⟩))
              go_roundw
              case rel => exact ⟨i + 1, by omega, by go_num, hbel.alloc hbel.size _⟩
              case measure => simp [intOf]; omega
            · go_wp2_with (first | (go_at_call 24; refine (bin_any _ _ _ _ _ (by assumption) (by assumption) (by first | assumption | decide | omega) (by first | assumption | decide | omega) hk10.out).mono ?_; rintro e w' ⟨rfl, rfl⟩) | (go_at_call 21; refine (is_any _ _ _ (by assumption) (by assumption)).mono ?_; rintro e w' ⟨rfl, rfl⟩))
              go_roundw
              case rel => exact ⟨i + 1, by omega, by go_num, hbel.alloc hbel.size _⟩
              case measure => simp [intOf]; omega
      · go_wp2_with (go_at_call 23; refine (wakes_any _).mono ?_; rintro e w' ⟨rfl, rfl⟩)
        go_ret
        exact ⟨rfl, hbel⟩
    · go_wp2_with (go_at_call 23; refine (wakes_any _).mono ?_; rintro e w' ⟨rfl, rfl⟩)
      go_ret
      exact ⟨rfl, hbel⟩

set_option maxHeartbeats 1000000 in
set_option maxRecDepth 100000 in
theorem shifts_walk (a0 : Option Addr) (len0 cap0 : Nat) (V : Nat → OpV) (w : World) (w0 : IsOps w a0 len0 cap0 V) :
    Calls Try.prog 5 #[.slice a0 len0 cap0] w fun e w' => e = .returned (.bool true) ∧ Below w.heap.size w w' := by
  rcases w0 with rfl | ⟨b, off, rfl, hl, hm, hbb, hV⟩
  · go_enter Try.func5, Try.ntmps5
    go_wp2
    refine wp_loop_rounds 1 ?_
    rw [rounds_succ]
    go_wp2_with (go_at_call 23; refine (wakes_any _).mono ?_; rintro e w' ⟨rfl, rfl⟩)
    go_ret
    exact ⟨rfl, Below.refl _ _⟩
  · exact shifts_some b off len0 cap0 V w hl hm hbb hV

end Go.Proofs.Ytjhcamcdmebpnaa
