/- The law WordConvs, walked. -/
import Derived.Test.YtjhcamcdmebpnaaConv
import Derived.Test.YtjhcamcdmebpnaaOps
namespace Go.Proofs.Ytjhcamcdmebpnaa
open Go.RowKit
set_option linter.unusedVariables false

namespace Wd
theorem pw_le {k t : Int} (h1 : 2 ≤ k) (h2 : k ≤ 9) (t1 : 2 ≤ t) (t2 : t ≤ 9) (h : wid k ≤ wid t) : ∃ c, pw t = pw k * c := by
  refine ⟨pw t / pw k, ?_⟩
  rcases ints h1 h2 with e | e | e | e | e | e | e | e <;> rcases ints t1 t2 with g | g | g | g | g | g | g | g <;> subst e <;> subst g <;> first | decide | (exact absurd h (by decide))
theorem there_back {k t x : Int} (h1 : 2 ≤ k) (h2 : k ≤ 9) (t1 : 2 ≤ t) (t2 : t ≤ 9) (h : wid k ≤ wid t) (hx : canon k x = x) : canon k (canon t x) = x := by
  obtain ⟨c, hc⟩ := pw_le h1 h2 t1 t2 h
  obtain ⟨u, hu⟩ := canon_is t x t1 t2
  refine Cg.word h1 h2 hx ⟨c * u, ?_⟩
  rw [hu, hc, Int.mul_assoc]
end Wd

namespace Fl
theorem conv_ints {k t x : Int} (h1 : 2 ≤ k) (h2 : k ≤ 9) (t1 : 2 ≤ t) (t2 : t ≤ 9) (hx : Wd.canon k x = x) : convA k t x = (Wd.canon t x, 0) := by
  have n1 : Wd.numB k = true := by simp [Wd.numB]; omega
  have n2 : Wd.numB t = true := by simp [Wd.numB]; omega
  unfold convA
  rw [if_neg (by simp [n1, n2]), if_neg (by simp [Wd.is_word (k := k) (x := x) (by omega) (by omega) hx]), if_neg (by omega), if_neg (by omega), if_neg (by omega)]
theorem conv_to {s : Int} (h0 : 0 ≤ s) (h : s < 9007199254740992) : convA 5 10 s = (((floatOfInt .f64 s : Nat) : Int), 0) := by
  unfold convA
  rw [if_neg (by decide), if_neg (by simp [Wd.is_word (k := 5) (x := s) (by omega) (by omega) (by rw [Wd.canon5]; omega)]), if_neg (by decide), if_neg (by decide), if_pos rfl]
  unfold nr
  rw [if_pos (by decide), show Wd.sg s = s by unfold Wd.sg; omega]
theorem float_rng (s : Int) : (0 : Int) ≤ (floatOfInt .f64 s : Nat) ∧ ((floatOfInt .f64 s : Nat) : Int) < 18446744073709551616 := by
  have h := Ieee.Format.nearest_lt Ieee.double (decide (s < 0)) s.natAbs 0
  have e : 2 ^ Ieee.double.width = 18446744073709551616 := by decide +kernel
  rw [e] at h
  have h' : floatOfInt .f64 s < 18446744073709551616 := h
  omega
theorem conv_from {s : Int} (h0 : 0 ≤ s) (h : s < 9007199254740992) : convA 10 5 (floatOfInt .f64 s : Nat) = (s, 0) := by
  obtain ⟨a, b, c⟩ := small_back h0 h
  have r := float_rng s
  unfold convA
  rw [if_neg (by decide), if_neg (by simp [is10 r.1 r.2]), if_neg (by decide), if_pos rfl]
  unfold trunc
  rw [a, b, c, if_pos (by decide), Wd.canon5, show s % 18446744073709551616 % 18446744073709551616 = s by omega]
end Fl

theorem bne_off'' {a b : Int} (h : a = b) : (a != b) = false := by simp [h]

set_option maxHeartbeats 1000000 in
set_option maxRecDepth 100000 in
theorem convs_some (b off len cap : Nat) (V : Nat → OpV) (w : World) (hl : len ≤ cap) (hm : cap ≤ maxLen) (hbb : b < w.heap.size) (hV : ∀ i, i < len → OpAt w b (off + i * 5) (V i) ∧ OpFit (V i)) :
    Calls Try.prog 6 #[.slice (some ⟨b, off, none⟩) len cap] w fun e w' => e = .returned (.bool true) ∧ Below w.heap.size w w' := by
  unfold maxLen at hm
  have HV : Hid (∀ i, i < len → OpAt w b (off + i * 5) (V i) ∧ OpFit (V i)) := hV
  clear hV
  go_enter Try.func6, Try.ntmps6
  go_wp2
  go_loopw [3] (fun s wr => ∃ i : Nat, i ≤ len ∧ s = .int .i64 i ∧ Below w.heap.size w wr) (fun s _ => len - (intOf s).toNat)
  case atStart => exact ⟨0, Nat.zero_le _, rfl, Below.refl _ _⟩
  case round =>
    obtain ⟨i, hi, rfl, hbel⟩ := hrel
    by_cases hlt : i < len
    · by_cases h200 : (i : Int) < 200
      · obtain ⟨⟨c0, c1, c2, c3, c4⟩, fit⟩ := HV.out i hlt
        have d0 := (hbel.cell (p := ⟨b, off + i * 5, none⟩) hbb).trans c0
        have d1 := (hbel.cell (p := ⟨b, off + i * 5 + 1, none⟩) hbb).trans c1
        have d2 := (hbel.cell (p := ⟨b, off + i * 5 + 2, none⟩) hbb).trans c2
        have d3 := (hbel.cell (p := ⟨b, off + i * 5 + 3, none⟩) hbb).trans c3
        have d4 := (hbel.cell (p := ⟨b, off + i * 5 + 4, none⟩) hbb).trans c4
        obtain ⟨_, _, _, _, _, _, x1, x2, y1, y2⟩ := fit
        have hkr := kind_rng (V i).k
        have htr := kind_rng (V i).to
        generalize (V i).op = op at *
        generalize (V i).x = x0 at *
        generalize (V i).y = y0 at *
        clear c0 c1 c2 c3 c4 HV
        go_wp2_with fail
        generalize wrap64 (2 + wrap64 ((IntKind.u64.wrap (V i).k).tmod 8)) = k at *
        generalize wrap64 (2 + wrap64 ((IntKind.u64.wrap (V i).to).tmod 8)) = t at *
        refine (canon_any _ _ _ (by assumption) (by assumption)).mono ?_
        rintro e w' ⟨rfl, rfl⟩
        obtain ⟨k1, k2⟩ := hkr
        obtain ⟨t1, t2⟩ := htr
        have hx := Wd.canon_canon k x0
        have xr := Wd.canon_rng k x0
        generalize Wd.canon k x0 = x at *
        obtain ⟨xr1, xr2⟩ := xr
        have Hx : Hid (Wd.canon k x = x) := hx
        obtain ⟨s, hs⟩ : ∃ s, s = x0 / 2048 := ⟨_, rfl⟩
        have s1 : 0 ≤ s := by omega
        have s2 : s < 9007199254740992 := by omega
        have hs5 : Wd.canon 5 (x0 / 2048) = s := by rw [Wd.canon5]; omega
        have v1 := Fl.conv_ints k1 k2 t1 t2 hx
        have v2 := Fl.conv_ints t1 t2 k1 k2 (Wd.canon_canon t x)
        have v4 := Fl.conv_to s1 s2
        have v5 := Fl.conv_from s1 s2
        have H3 : Hid (Wd.wid k ≤ Wd.wid t → Wd.canon k (Wd.canon t x) = x) := fun h => Wd.there_back k1 k2 t1 t2 h hx
        obtain ⟨g1, g2⟩ := Fl.float_rng s
        obtain ⟨ar1, ar2⟩ := Wd.canon_rng t x
        obtain ⟨br1, br2⟩ := Wd.canon_rng k (Wd.canon t x)
        generalize ((floatOfInt .f64 s : Nat) : Int) = g at *
        obtain ⟨a, ha⟩ : ∃ a, Wd.canon t x = a := ⟨_, rfl⟩
        rw [ha] at v1 v2 H3 ar1 ar2 br1 br2
        generalize Wd.canon k a = c at *
        have q1 : 0 ≤ x0 / 2048 := by omega
        have q2 : x0 / 2048 < 18446744073709551616 := by omega
        have s3 : s < 18446744073709551616 := by omega
        clear hx hs
        by_cases hw : Wd.wid k ≤ Wd.wid t
        · have v3 : (c != x) = false := bne_off'' (H3.out hw)
          go_wp2_with (first | (go_at_call 10; refine (conv_any _ _ _ _ (by assumption) (by assumption)).mono ?_; rintro e w' ⟨rfl, rfl⟩) | (go_at_call 14; refine (num_any _ _).mono ?_; rintro e w' ⟨rfl, rfl⟩) | (go_at_call 15; refine (width_any _ _).mono ?_; rintro e w' ⟨rfl, rfl⟩) | (go_at_call 19; refine (canon_any _ _ _ (by assumption) (by assumption)).mono ?_; rintro e w' ⟨rfl, rfl⟩))
          go_roundw
          case rel => exact ⟨i + 1, by omega, by go_num, hbel.alloc hbel.size _⟩
          case measure => simp [intOf]; omega
        · go_wp2_with (first | (go_at_call 10; refine (conv_any _ _ _ _ (by assumption) (by assumption)).mono ?_; rintro e w' ⟨rfl, rfl⟩) | (go_at_call 14; refine (num_any _ _).mono ?_; rintro e w' ⟨rfl, rfl⟩) | (go_at_call 15; refine (width_any _ _).mono ?_; rintro e w' ⟨rfl, rfl⟩) | (go_at_call 19; refine (canon_any _ _ _ (by assumption) (by assumption)).mono ?_; rintro e w' ⟨rfl, rfl⟩))
          go_roundw
          case rel => exact ⟨i + 1, by omega, by go_num, hbel.alloc hbel.size _⟩
          case measure => simp [intOf]; omega
      · go_wp2_with (go_at_call 23; refine (wakes_any _).mono ?_; rintro e w' ⟨rfl, rfl⟩)
        go_ret
        exact ⟨rfl, hbel⟩
    · go_wp2_with (go_at_call 23; refine (wakes_any _).mono ?_; rintro e w' ⟨rfl, rfl⟩)
      go_ret
      exact ⟨rfl, hbel⟩

set_option maxHeartbeats 1000000 in
set_option maxRecDepth 100000 in
theorem convs_walk (a0 : Option Addr) (len0 cap0 : Nat) (V : Nat → OpV) (w : World) (w0 : IsOps w a0 len0 cap0 V) :
    Calls Try.prog 6 #[.slice a0 len0 cap0] w fun e w' => e = .returned (.bool true) ∧ Below w.heap.size w w' := by
  rcases w0 with rfl | ⟨b, off, rfl, hl, hm, hbb, hV⟩
  · go_enter Try.func6, Try.ntmps6
    go_wp2
    refine wp_loop_rounds 1 ?_
    rw [rounds_succ]
    go_wp2_with (go_at_call 23; refine (wakes_any _).mono ?_; rintro e w' ⟨rfl, rfl⟩)
    go_ret
    exact ⟨rfl, Below.refl _ _⟩
  · exact convs_some b off len0 cap0 V w hl hm hbb hV

end Go.Proofs.Ytjhcamcdmebpnaa
