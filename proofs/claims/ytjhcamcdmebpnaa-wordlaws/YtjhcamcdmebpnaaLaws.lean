/- The law WordLaws, walked. -/
import Derived.Test.YtjhcamcdmebpnaaOps
namespace Go.Proofs.Ytjhcamcdmebpnaa
open Go.RowKit
set_option linter.unusedVariables false

theorem un_neg {k y : Int} (k1 : 2 ≤ k) (k2 : k ≤ 9) (hy : Wd.canon k y = y) : Wd.unI 1 k y = (Wd.canon k (-y), 0) := by
  have hh : Wd.hasUnB 1 k = true := by simp [Wd.hasUnB, Wd.numB]; omega
  rw [unI_ok hh (Wd.is_word (by omega) (by omega) hy), if_neg (by decide), if_neg (by decide), if_neg (by omega)]
theorem un_com {k y : Int} (k1 : 2 ≤ k) (k2 : k ≤ 9) (hy : Wd.canon k y = y) : Wd.unI 3 k y = (Wd.canon k (18446744073709551615 - y), 0) := by
  have hh : Wd.hasUnB 3 k = true := by simp [Wd.hasUnB, Wd.intB]; omega
  rw [unI_ok hh (Wd.is_word (by omega) (by omega) hy), if_neg (by decide), if_pos rfl]

theorem cmp_01 {op k x y : Int} (h1 : 2 ≤ k) (h2 : k ≤ 9) (o1 : 11 ≤ op) (o2 : op ≤ 16) (hx : Wd.canon k x = x) (hy : Wd.canon k y = y) : 0 ≤ Wd.bv op k x y ∧ Wd.bv op k x y ≤ 1 := by
  rw [Wd.cmp_is h1 h2 o1 o2 hx hy]
  rcases cmpI_tr (op := op) (a := Wd.nm k x) (b := Wd.nm k y) with h | h <;> rw [h] <;> omega

theorem bne_off {a b : Int} (h : a = b) : (a != b) = false := by simp [h]

set_option maxHeartbeats 1000000 in
set_option maxRecDepth 100000 in
theorem laws_some (b off len cap : Nat) (V : Nat → OpV) (w : World) (hl : len ≤ cap) (hm : cap ≤ maxLen) (hbb : b < w.heap.size) (hV : ∀ i, i < len → OpAt w b (off + i * 5) (V i) ∧ OpFit (V i)) :
    Calls Try.prog 4 #[.slice (some ⟨b, off, none⟩) len cap] w fun e w' => e = .returned (.bool true) ∧ Below w.heap.size w w' := by
  unfold maxLen at hm
  have HV : Hid (∀ i, i < len → OpAt w b (off + i * 5) (V i) ∧ OpFit (V i)) := hV
  clear hV
  go_enter Try.func4, Try.ntmps4
  go_wp2
  go_loopw [3] (fun s wr => ∃ i : Nat, i ≤ len ∧ s = .int .i64 i ∧ Below w.heap.size w wr) (fun s _ => len - (intOf s).toNat)
  case atStart => exact ⟨0, Nat.zero_le _, rfl, Below.refl _ _⟩
  case round =>
    obtain ⟨i, hi, rfl, hbel⟩ := hrel
    by_cases hlt : i < len
    · by_cases h200 : (i : Int) < 200
      · obtain ⟨⟨c0, c1, c2, c3, c4⟩, fit⟩ := HV.out i hlt
        have d0 := (hbel.cell (p := ⟨b, off + i * 5, none⟩) hbb).trans c0
        have d1 := (hbel.cell (p := ⟨b, off + i * 5 + 1, none⟩) hbb).trans c1
        have d2 := (hbel.cell (p := ⟨b, off + i * 5 + 2, none⟩) hbb).trans c2
        have d3 := (hbel.cell (p := ⟨b, off + i * 5 + 3, none⟩) hbb).trans c3
        have d4 := (hbel.cell (p := ⟨b, off + i * 5 + 4, none⟩) hbb).trans c4
        obtain ⟨_, _, _, _, _, _, x1, x2, y1, y2⟩ := fit
        have hkr := kind_rng (V i).k
        generalize (V i).op = op at *
        generalize (V i).to = to at *
        generalize (V i).x = x0 at *
        generalize (V i).y = y0 at *
        clear c0 c1 c2 c3 c4 HV
        go_wp2_with fail
        generalize wrap64 (2 + wrap64 ((IntKind.u64.wrap (V i).k).tmod 8)) = k at *
        refine (canon_any _ _ _ (by assumption) (by assumption)).mono ?_
        rintro e w' ⟨rfl, rfl⟩
        go_wp2_with fail
        refine (canon_any _ _ _ (by assumption) (by assumption)).mono ?_
        rintro e w' ⟨rfl, rfl⟩
        go_wp2_with fail
        refine (canon_any _ _ _ (wrap_rng _).1 (wrap_rng _).2).mono ?_
        rintro e w' ⟨rfl, rfl⟩
        obtain ⟨k1, k2⟩ := hkr
        have hk10 : Hid (k ≠ 10) := by show k ≠ 10; omega
        have hx := Wd.canon_canon k x0
        have hy := Wd.canon_canon k y0
        have hw := Wd.canon_canon k (IntKind.u64.wrap (IntKind.u64.wrap (IntKind.u64.wrap op * x0) + y0))
        have xr := Wd.canon_rng k x0
        have yr := Wd.canon_rng k y0
        have zr := Wd.canon_rng k (IntKind.u64.wrap (IntKind.u64.wrap (IntKind.u64.wrap op * x0) + y0))
        generalize Wd.canon k x0 = x at *
        generalize Wd.canon k y0 = y at *
        generalize Wd.canon k (IntKind.u64.wrap (IntKind.u64.wrap (IntKind.u64.wrap op * x0) + y0)) = z at *
        obtain ⟨xr1, xr2⟩ := xr
        obtain ⟨yr1, yr2⟩ := yr
        obtain ⟨zr1, zr2⟩ := zr
        have Hx : Hid (Wd.canon k x = x) := hx
        have Hy : Hid (Wd.canon k y = y) := hy
        have e1 : (Wd.bv 1 k x y != Wd.bv 1 k y x) = false := bne_off (Wd.add_comm' k1 k2 hx hy)
        have e2 : (Wd.bv 3 k x y != Wd.bv 3 k y x) = false := bne_off (Wd.mul_comm' k1 k2 hx hy)
        have e3 : (Wd.bv 3 k x (Wd.bv 1 k y z) != Wd.bv 1 k (Wd.bv 3 k x y) (Wd.bv 3 k x z)) = false := bne_off (Wd.mul_add' k1 k2 hx hy hw)
        have e4 : (Wd.bv 1 k (Wd.bv 1 k x y) z != Wd.bv 1 k x (Wd.bv 1 k y z)) = false := bne_off (Wd.add_assoc' k1 k2 hx hy hw)
        clear hx hy hw d0 d1 d2 d3 d4
        go_wp2_with (go_at_call 24; refine (bin_any _ _ _ _ _ (by first | assumption | exact Wd.bv_rng.1) (by first | assumption | exact Wd.bv_rng.2) (by first | assumption | exact Wd.bv_rng.1) (by first | assumption | exact Wd.bv_rng.2) hk10.out).mono ?_; rintro e w' ⟨rfl, rfl⟩)
        obtain ⟨n, hn⟩ : ∃ n, n = Wd.canon k (-y) := ⟨_, rfl⟩
        obtain ⟨c, hc⟩ : ∃ c, c = Wd.canon k (18446744073709551615 - x) := ⟨_, rfl⟩
        have u1 : Wd.unI 1 k y = (n, 0) := by rw [hn]; exact un_neg k1 k2 Hy.out
        have u3 : Wd.unI 3 k x = (c, 0) := by rw [hc]; exact un_com k1 k2 Hx.out
        have nr1 : 0 ≤ n := by rw [hn]; exact (Wd.canon_rng _ _).1
        have nr2 : n < 18446744073709551616 := by rw [hn]; exact (Wd.canon_rng _ _).2
        have cr1 : 0 ≤ c := by rw [hc]; exact (Wd.canon_rng _ _).1
        have cr2 : c < 18446744073709551616 := by rw [hc]; exact (Wd.canon_rng _ _).2
        have e5 : (Wd.bv 2 k x y != Wd.bv 1 k x n) = false := bne_off (by rw [hn]; exact Wd.sub_neg' k1 k2 Hx.out Hy.out)
        have e6 : (Wd.bv 8 k x c != Wd.canon k 18446744073709551615) = false := bne_off (by rw [hc]; exact Wd.xor_com k1 k2 Hx.out)
        have e7 : (Wd.bv 6 k x c != 0) = false := bne_off (by rw [hc]; exact Wd.and_com k1 k2 Hx.out)
        have e8 : (Wd.bv 7 k (Wd.bv 6 k x y) (Wd.bv 8 k x y) != Wd.bv 7 k x y) = false := bne_off (Wd.or_and_xor k1 k2 Hx.out Hy.out)
        have e9 : (Wd.bv 13 k x y != Wd.bv 15 k y x) = false := bne_off (Wd.lt_gt k1 k2 Hx.out Hy.out)
        have e10 : (Wd.bv 13 k x y + Wd.bv 16 k x y != 1) = false := bne_off (Wd.lt_ge k1 k2 Hx.out Hy.out)
        have e11 : (Wd.bv 11 k x y + Wd.bv 12 k x y != 1) = false := bne_off (Wd.eq_ne k1 k2 Hx.out Hy.out)
        have e12 : (Wd.bv 13 k x y + Wd.bv 11 k x y != Wd.bv 14 k x y) = false := bne_off (Wd.lt_eq_le k1 k2 Hx.out Hy.out)
        obtain ⟨l1, l2⟩ := cmp_01 (op := 13) k1 k2 (by omega) (by omega) Hx.out Hy.out
        obtain ⟨l3, l4⟩ := cmp_01 (op := 16) k1 k2 (by omega) (by omega) Hx.out Hy.out
        obtain ⟨l5, l6⟩ := cmp_01 (op := 11) k1 k2 (by omega) (by omega) Hx.out Hy.out
        obtain ⟨l7, l8⟩ := cmp_01 (op := 12) k1 k2 (by omega) (by omega) Hx.out Hy.out
        clear hn hc e1 e2 e3 e4
        by_cases hy0 : y = 0
        · have y00 : (y != 0) = false := bne_off hy0
          clear hy0
          go_wp2_with (first | (go_at_call 24; refine (bin_any _ _ _ _ _ (by first | assumption | exact Wd.bv_rng.1) (by first | assumption | exact Wd.bv_rng.2) (by first | assumption | exact Wd.bv_rng.1) (by first | assumption | exact Wd.bv_rng.2) hk10.out).mono ?_; rintro e w' ⟨rfl, rfl⟩) | (go_at_call 8; refine (un_any _ _ _ _ (by assumption) (by assumption)).mono ?_; rintro e w' ⟨rfl, rfl⟩) | (go_at_call 19; refine (canon_any _ _ _ (by decide) (by decide)).mono ?_; rintro e w' ⟨rfl, rfl⟩))
          go_roundw
          case rel => exact ⟨i + 1, by omega, by go_num, hbel.alloc hbel.size _⟩
          case measure => simp [intOf]; omega
        · have y00 : (y != 0) = true := by simpa using hy0
          have e13 : (Wd.bv 1 k (Wd.bv 3 k (Wd.bv 4 k x y) y) (Wd.bv 5 k x y) != x) = false := bne_off (Wd.quo_rem k1 k2 Hx.out Hy.out hy0)
          clear hy0
          go_wp2_with (first | (go_at_call 24; refine (bin_any _ _ _ _ _ (by first | assumption | exact Wd.bv_rng.1) (by first | assumption | exact Wd.bv_rng.2) (by first | assumption | exact Wd.bv_rng.1) (by first | assumption | exact Wd.bv_rng.2) hk10.out).mono ?_; rintro e w' ⟨rfl, rfl⟩) | (go_at_call 8; refine (un_any _ _ _ _ (by assumption) (by assumption)).mono ?_; rintro e w' ⟨rfl, rfl⟩) | (go_at_call 19; refine (canon_any _ _ _ (by decide) (by decide)).mono ?_; rintro e w' ⟨rfl, rfl⟩))
          go_roundw
          case rel => exact ⟨i + 1, by omega, by go_num, hbel.alloc hbel.size _⟩
          case measure => simp [intOf]; omega
      · go_wp2_with (go_at_call 23; refine (wakes_any _).mono ?_; rintro e w' ⟨rfl, rfl⟩)
        go_ret
        exact ⟨rfl, hbel⟩
    · go_wp2_with (go_at_call 23; refine (wakes_any _).mono ?_; rintro e w' ⟨rfl, rfl⟩)
      go_ret
      exact ⟨rfl, hbel⟩

set_option maxHeartbeats 1000000 in
set_option maxRecDepth 100000 in
theorem laws_walk (a0 : Option Addr) (len0 cap0 : Nat) (V : Nat → OpV) (w : World) (w0 : IsOps w a0 len0 cap0 V) :
    Calls Try.prog 4 #[.slice a0 len0 cap0] w fun e w' => e = .returned (.bool true) ∧ Below w.heap.size w w' := by
  rcases w0 with rfl | ⟨b, off, rfl, hl, hm, hbb, hV⟩
  · go_enter Try.func4, Try.ntmps4
    go_wp2
    refine wp_loop_rounds 1 ?_
    rw [rounds_succ]
    go_wp2_with (go_at_call 23; refine (wakes_any _).mono ?_; rintro e w' ⟨rfl, rfl⟩)
    go_ret
    exact ⟨rfl, Below.refl _ _⟩
  · exact laws_some b off len0 cap0 V w hl hm hbb hV

end Go.Proofs.Ytjhcamcdmebpnaa
