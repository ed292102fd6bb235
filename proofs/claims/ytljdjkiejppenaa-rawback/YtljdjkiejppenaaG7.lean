/- Contracts and plain facts that the walks share. -/
import Derived.Test.YtljdjkiejppenaaG6
import Derived.Laws.IdiomStrings
namespace Go.Proofs.Ytljdjkiejppenaa
open Go.RowKit
set_option linter.unusedVariables false
/-- a panic with a fault -/
abbrev faults (n : Int) : Ending := .panicked [{ v := .iface 102 (.agg #[.int .i64 n]), recovered := false }]
set_option maxRecDepth 100000 in
set_option maxHeartbeats 4000000 in
theorem next_no {lim : Nat} {w : World} {B : Nat} {n d : Nat} (h : Rd lim w B [] n d) :
    Calls Try.prog 108 #[.pointer (some ⟨B, 0, none⟩)] w fun e w' => e = faults 80 ∧ w.grownBy w' (some B) := by
  obtain ⟨a, c, h1, h2, h3⟩ := h
  have c0 : w.cell? ⟨B, 0, none⟩ = some (.slice a 0 c) := rcell h1 0
  clear h1 h2 h3
  go_enter Try.func108, Try.ntmps108
  go_wp2
  exact ⟨rfl, rfl, World.grownBy.refl _ _⟩
theorem or_shift {a z k : Nat} (ha : a < 128 ^ k) (hz : z < 128) (hs : a + z * 128 ^ k < 18446744073709551616) : bits .or .u64 (a : Int) (IntKind.u64.wrap ((z : Int) * 2 ^ (7 * k))) = ((a + z * 128 ^ k : Nat) : Int) := by
  have e1 : (2 : Nat) ^ (7 * k) = 128 ^ k := by rw [Nat.pow_mul]
  have e2 : ((z : Int) * 2 ^ (7 * k)) = ((z * 128 ^ k : Nat) : Int) := by rw [← e1]; simp
  have e3 : IntKind.u64.wrap ((z * 128 ^ k : Nat) : Int) = ((z * 128 ^ k : Nat) : Int) := by rw [IntKind.wrap_u64]; omega
  rw [e2, e3, u64_or_nat _ _ (by omega) (by omega)]
  have := Nat.shiftLeft_add_eq_or_of_lt (i := 7 * k) (b := a) (by rw [e1]; exact ha) z
  rw [Nat.shiftLeft_eq, e1] at this
  rw [Nat.or_comm, ← this]
  congr 1
  omega
set_option maxRecDepth 100000 in
set_option maxHeartbeats 8000000 in
theorem groups_ok {lim : Nat} {w : World} {B : Nat} {x : Nat} {R : List Int} {n d : Nat} (h : Rd lim w B (Pg.grp x ++ R) n d) {most last : Nat} (hm : 2 ≤ most ∧ most ≤ 10) (hl : last < 128) (hx : x < 128 ^ (most - 1) * (last + 1)) (hx2 : x < 18446744073709551616) :
    Calls Try.prog 100 #[.pointer (some ⟨B, 0, none⟩), .int .i64 (most : Int), .int .u8 (last : Int)] w fun e w' => e = .returned (.int .u64 x) ∧ Rd lim w' B R n d ∧ w.grownBy w' (some B) := by
  have HR : Hid (Rd lim w B (Pg.grp x ++ R) n d) := h
  clear h
  go_enter Try.func100, Try.ntmps100
  go_wp2_with fail
  go_loopw [6, 7] (fun xv nv wr => ∃ (k a y : Nat), nv = .int .i64 k ∧ xv = .int .u64 a ∧ k < most ∧ x = a + y * 128 ^ k ∧ a < 128 ^ k ∧ (0 < k → 0 < y) ∧ Rd lim wr B (Pg.grp y ++ R) n d ∧ w.grownBy wr (some B)) (fun _ nv _ => most - (intOf nv).toNat)
  case atStart => exact ⟨0, 0, x, rfl, rfl, by omega, by simp, by simp, by omega, HR.out, World.grownBy.refl _ _⟩
  case round =>
    obtain ⟨k, a, y, rfl, rfl, hk, he, ha, hy0, hr, hg⟩ := hrel
    have HG : Hid (w.grownBy wr (some B)) := hg
    by_cases hy : y < 128
    · rw [Pg.grp_small hy] at hr
      have HC : Hid (Calls Try.prog 108 #[.pointer (some ⟨B, 0, none⟩)] wr fun e w' => e = .returned (.int .u8 (y : Int)) ∧ Rd lim w' B R n d ∧ wr.grownBy w' (some B)) := next_ok hr
      clear hr hg
      have z1 : decide ((y : Int) < 128) = true := decide_eq_true (by omega)
      have hy' : (y : Int) < 128 := by omega
      by_cases hkm : k = most - 1
      · have q1 : ((k : Int) == (most : Int) - 1) = true := by simp; omega
        have hyl : y ≤ last := by
          rw [he, hkm] at hx
          have h1 : y * 128 ^ (most - 1) < 128 ^ (most - 1) * (last + 1) := by omega
          rw [Nat.mul_comm] at h1
          have := Nat.lt_of_mul_lt_mul_left h1
          omega
        have q6 : decide ((last : Int) < (y : Int)) = false := decide_eq_false (by omega)
        have q7 : ¬ ((last : Int) < (y : Int)) := by omega
        have hk0 : 0 < k := by omega
        have q3 : decide (0 < (k : Int)) = true := decide_eq_true (by omega)
        have q4 : ((y : Int) == 0) = false := by simp; have := hy0 hk0; omega
        have q5 : ¬ ((y : Int) = 0) := by have := hy0 hk0; omega
        clear hkm
        go_wp2_with (go_at_call 108; refine HC.out.mono ?_; rintro e w4 ⟨rfl, h4, g4⟩; have H4 : Hid (Rd lim w4 B R n d) := h4; have G4 : Hid (wr.grownBy w4 (some B)) := g4; clear h4 g4 HC)
        go_ret
        refine ⟨?_, H4.out, grown_trans HG.out G4.out⟩
        show Ending.returned (Value.int .u64 (bits .or .u64 (a : Int) (IntKind.u64.wrap ((y : Int) % 128 * 2 ^ (7 * k))))) = _
        rw [show ((y : Int) % 128) = ((y : Nat) : Int) from by omega, or_shift ha hy (by omega), ← he]
      · have q1 : ((k : Int) == (most : Int) - 1) = false := by simp; omega
        have q2 : ¬ ((k : Int) = (most : Int) - 1) := by omega
        by_cases hk0 : 0 < k
        · have q3 : decide (0 < (k : Int)) = true := decide_eq_true (by omega)
          have q4 : ((y : Int) == 0) = false := by simp; have := hy0 hk0; omega
          have q5 : ¬ ((y : Int) = 0) := by have := hy0 hk0; omega
          go_wp2_with (go_at_call 108; refine HC.out.mono ?_; rintro e w4 ⟨rfl, h4, g4⟩; have H4 : Hid (Rd lim w4 B R n d) := h4; have G4 : Hid (wr.grownBy w4 (some B)) := g4; clear h4 g4 HC)
          go_ret
          refine ⟨?_, H4.out, grown_trans HG.out G4.out⟩
          show Ending.returned (Value.int .u64 (bits .or .u64 (a : Int) (IntKind.u64.wrap ((y : Int) % 128 * 2 ^ (7 * k))))) = _
          rw [show ((y : Int) % 128) = ((y : Nat) : Int) from by omega, or_shift ha hy (by omega), ← he]
        · have q3 : decide (0 < (k : Int)) = false := decide_eq_false (by omega)
          have q9 : ¬ (0 < (k : Int)) := by omega
          go_wp2_with (go_at_call 108; refine HC.out.mono ?_; rintro e w4 ⟨rfl, h4, g4⟩; have H4 : Hid (Rd lim w4 B R n d) := h4; have G4 : Hid (wr.grownBy w4 (some B)) := g4; clear h4 g4 HC)
          go_ret
          refine ⟨?_, H4.out, grown_trans HG.out G4.out⟩
          show Ending.returned (Value.int .u64 (bits .or .u64 (a : Int) (IntKind.u64.wrap ((y : Int) % 128 * 2 ^ (7 * k))))) = _
          rw [show ((y : Int) % 128) = ((y : Nat) : Int) from by omega, or_shift ha hy (by omega), ← he]
    · rw [Pg.grp_big hy, List.cons_append] at hr
      have HC : Hid (Calls Try.prog 108 #[.pointer (some ⟨B, 0, none⟩)] wr fun e w' => e = .returned (.int .u8 ((y % 128 + 128 : Nat) : Int)) ∧ Rd lim w' B (Pg.grp (y / 128) ++ R) n d ∧ wr.grownBy w' (some B)) := next_ok hr
      have hkm : k ≠ most - 1 := by
        intro hkm
        rw [he, hkm] at hx
        have h1 : y * 128 ^ (most - 1) < 128 ^ (most - 1) * (last + 1) := by omega
        rw [Nat.mul_comm] at h1
        have := Nat.lt_of_mul_lt_mul_left h1
        omega
      have q1 : ((k : Int) == (most : Int) - 1) = false := by simp; omega
      have q2 : ¬ ((k : Int) = (most : Int) - 1) := by omega
      have hsplit : x = a + y % 128 * 128 ^ k + y / 128 * 128 ^ (k + 1) := by
        rw [Nat.pow_succ, ← Nat.mul_assoc, Nat.mul_right_comm, Nat.add_assoc, ← Nat.add_mul, Nat.mul_comm (y / 128) 128, Nat.mod_add_div]
        exact he
      have hacc : a + y % 128 * 128 ^ k < 128 ^ (k + 1) := by
        rw [Nat.pow_succ, Nat.mul_comm (128 ^ k) 128]
        have : y % 128 * 128 ^ k ≤ 127 * 128 ^ k := Nat.mul_le_mul_right _ (by omega)
        omega
      have hlt : a + y % 128 * 128 ^ k < 18446744073709551616 := by
        have : 0 ≤ y / 128 * 128 ^ (k + 1) := Nat.zero_le _
        omega
      have z1 : decide ((((y % 128 + 128 : Nat) : Int)) < 128) = false := decide_eq_false (by omega)
      have z2 : ¬ ((((y % 128 + 128 : Nat) : Int)) < 128) := by omega
      have z3 : ((((y % 128 + 128 : Nat) : Int)) == 0) = false := by simp; omega
      have z4 : ¬ ((((y % 128 + 128 : Nat) : Int)) = 0) := by omega
      have hzr : (((y % 128 + 128 : Nat) : Int)) < 256 := by omega
      clear hr hg
      by_cases hk0 : 0 < k
      · have q3 : decide (0 < (k : Int)) = true := decide_eq_true (by omega)
        generalize hZ : ((y % 128 + 128 : Nat) : Int) = Z at *
        have hZ2 : Hid (Z = ((y % 128 + 128 : Nat) : Int)) := hZ.symm
        clear hZ
        go_wp2_with (go_at_call 108; refine HC.out.mono ?_; rintro e w4 ⟨rfl, h4, g4⟩; have H4 : Hid (Rd lim w4 B (Pg.grp (y / 128) ++ R) n d) := h4; have G4 : Hid (wr.grownBy w4 (some B)) := g4; clear h4 g4 HC)
        go_roundw
        case rel =>
          refine ⟨k + 1, a + y % 128 * 128 ^ k, y / 128, by go_num, ?_, by omega, ?_, ?_, fun _ => by omega, H4.out, grown_trans HG.out G4.out⟩
          · rw [show (Z % 128) = ((y % 128 : Nat) : Int) from by rw [hZ2.out]; omega, or_shift ha (Nat.mod_lt _ (by decide)) hlt]
          · exact hsplit
          · exact hacc
        case measure => simp [intOf]; omega
      · have q3 : decide (0 < (k : Int)) = false := decide_eq_false (by omega)
        have q9 : ¬ (0 < (k : Int)) := by omega
        generalize hZ : ((y % 128 + 128 : Nat) : Int) = Z at *
        have hZ2 : Hid (Z = ((y % 128 + 128 : Nat) : Int)) := hZ.symm
        clear hZ
        go_wp2_with (go_at_call 108; refine HC.out.mono ?_; rintro e w4 ⟨rfl, h4, g4⟩; have H4 : Hid (Rd lim w4 B (Pg.grp (y / 128) ++ R) n d) := h4; have G4 : Hid (wr.grownBy w4 (some B)) := g4; clear h4 g4 HC)
        go_roundw
        case rel =>
          refine ⟨k + 1, a + y % 128 * 128 ^ k, y / 128, by go_num, ?_, by omega, ?_, ?_, fun _ => by omega, H4.out, grown_trans HG.out G4.out⟩
          · rw [show (Z % 128) = ((y % 128 : Nat) : Int) from by rw [hZ2.out]; omega, or_shift ha (Nat.mod_lt _ (by decide)) hlt]
          · exact hsplit
          · exact hacc
        case measure => simp [intOf]; omega
/-- a beginning of it, not all of it -/
def Cut (L E : List Int) : Prop := L <+: E ∧ L.length < E.length
theorem Cut.cons {z : Int} {L E : List Int} (h : Cut (z :: L) (z :: E)) : Cut L E := by
  obtain ⟨⟨t, ht⟩, hl⟩ := h
  exact ⟨⟨t, by simpa using ht⟩, by simpa using hl⟩
theorem cut_cases {L A B : List Int} (h : Cut L (A ++ B)) : Cut L A ∨ ∃ R, L = A ++ R ∧ Cut R B := by
  obtain ⟨hp, hl⟩ := h
  by_cases hlt : L.length < A.length
  · exact .inl ⟨List.prefix_of_prefix_length_le hp (List.prefix_append A B) (by omega), hlt⟩
  · obtain ⟨R, hR⟩ := List.prefix_of_prefix_length_le (List.prefix_append A B) hp (by omega)
    refine .inr ⟨R, hR.symm, ?_, ?_⟩
    · rw [← hR] at hp
      exact (List.prefix_append_right_inj A).1 hp
    · rw [← hR, List.length_append, List.length_append] at hl
      omega
theorem cut_nil {L : List Int} (h : Cut L []) : False := by have := h.2; simp at this
theorem cut_grp {L : List Int} {x : Nat} (h : Cut L (Pg.grp x)) : L = [] ∨ (¬ x < 128 ∧ ∃ R, L = ((x % 128 + 128 : Nat) : Int) :: R ∧ Cut R (Pg.grp (x / 128))) := by
  cases L with
  | nil => exact .inl rfl
  | cons z R =>
    refine .inr ?_
    by_cases hx : x < 128
    · rw [Pg.grp_small hx] at h
      have := h.2
      simp at this
    · refine ⟨hx, R, ?_⟩
      rw [Pg.grp_big hx] at h
      obtain ⟨t, ht⟩ := h.1
      have e : z = ((x % 128 + 128 : Nat) : Int) := by simpa using (List.cons.inj ht).1
      subst e
      exact ⟨rfl, h.cons⟩
set_option maxRecDepth 100000 in
set_option maxHeartbeats 8000000 in
theorem groups_cut {lim : Nat} {w : World} {B : Nat} {x : Nat} {L : List Int} {n d : Nat} (h : Rd lim w B L n d) (hc : Cut L (Pg.grp x)) {most last : Nat} (hm : 2 ≤ most ∧ most ≤ 10) (hl : last < 128) (hx : x < 128 ^ (most - 1) * (last + 1)) (hx2 : x < 18446744073709551616) :
    Calls Try.prog 100 #[.pointer (some ⟨B, 0, none⟩), .int .i64 (most : Int), .int .u8 (last : Int)] w fun e w' => e = faults 80 ∧ w.grownBy w' (some B) := by
  have HR : Hid (Rd lim w B L n d) := h
  have HC0 : Hid (Cut L (Pg.grp x)) := hc
  clear h hc
  go_enter Try.func100, Try.ntmps100
  go_wp2_with fail
  go_loopw [6, 7] (fun xv nv wr => ∃ (k : Nat) (a : Int) (y : Nat) (M : List Int), nv = .int .i64 k ∧ xv = .int .u64 a ∧ k < most ∧ y * 128 ^ k ≤ x ∧ (0 < k → 0 < y) ∧ Cut M (Pg.grp y) ∧ Rd lim wr B M n d ∧ w.grownBy wr (some B)) (fun _ nv _ => most - (intOf nv).toNat)
  case atStart => exact ⟨0, 0, x, L, rfl, rfl, by omega, by simp, by omega, HC0.out, HR.out, World.grownBy.refl _ _⟩
  case round =>
    obtain ⟨k, a, y, M, rfl, rfl, hk, he, hy0, hc, hr, hg⟩ := hrel
    have HG : Hid (w.grownBy wr (some B)) := hg
    rcases cut_grp hc with rfl | ⟨hy, R, rfl, hcR⟩
    · have HC : Hid (Calls Try.prog 108 #[.pointer (some ⟨B, 0, none⟩)] wr fun e w' => e = faults 80 ∧ wr.grownBy w' (some B)) := next_no hr
      clear hr hg hc
      go_wp2_with (go_at_call 108; refine HC.out.mono ?_; rintro e w4 ⟨rfl, g4⟩; have G4 : Hid (wr.grownBy w4 (some B)) := g4; clear g4 HC)
      exact ⟨rfl, rfl, grown_trans HG.out G4.out⟩
    · have HC : Hid (Calls Try.prog 108 #[.pointer (some ⟨B, 0, none⟩)] wr fun e w' => e = .returned (.int .u8 ((y % 128 + 128 : Nat) : Int)) ∧ Rd lim w' B R n d ∧ wr.grownBy w' (some B)) := next_ok hr
      have HcR : Hid (Cut R (Pg.grp (y / 128))) := hcR
      have hkm : k ≠ most - 1 := by
        intro hkm
        rw [hkm] at he
        have h1 : y * 128 ^ (most - 1) < 128 ^ (most - 1) * (last + 1) := by omega
        rw [Nat.mul_comm] at h1
        have := Nat.lt_of_mul_lt_mul_left h1
        omega
      have q1 : ((k : Int) == (most : Int) - 1) = false := by simp; omega
      have q2 : ¬ ((k : Int) = (most : Int) - 1) := by omega
      have hnext : y / 128 * 128 ^ (k + 1) ≤ x := by
        rw [Nat.pow_succ, ← Nat.mul_assoc, Nat.mul_right_comm]
        have : y / 128 * 128 ≤ y := Nat.div_mul_le_self _ _
        exact Nat.le_trans (Nat.mul_le_mul_right _ this) he
      have z1 : decide ((((y % 128 + 128 : Nat) : Int)) < 128) = false := decide_eq_false (by omega)
      have z2 : ¬ ((((y % 128 + 128 : Nat) : Int)) < 128) := by omega
      have z3 : ((((y % 128 + 128 : Nat) : Int)) == 0) = false := by simp; omega
      have z4 : ¬ ((((y % 128 + 128 : Nat) : Int)) = 0) := by omega
      have hzr : (((y % 128 + 128 : Nat) : Int)) < 256 := by omega
      clear hr hg hc hcR
      generalize hZ : ((y % 128 + 128 : Nat) : Int) = Z at *
      clear hZ
      by_cases hk0 : 0 < k
      · have q3 : decide (0 < (k : Int)) = true := decide_eq_true (by omega)
        go_wp2_with (go_at_call 108; refine HC.out.mono ?_; rintro e w4 ⟨rfl, h4, g4⟩; have H4 : Hid (Rd lim w4 B R n d) := h4; have G4 : Hid (wr.grownBy w4 (some B)) := g4; clear h4 g4 HC)
        go_roundw
        case rel =>
          exact ⟨k + 1, _, y / 128, R, by go_num, rfl, by omega, hnext, fun _ => by omega, HcR.out, H4.out, grown_trans HG.out G4.out⟩
        case measure => simp [intOf]; omega
      · have q3 : decide (0 < (k : Int)) = false := decide_eq_false (by omega)
        have q9 : ¬ (0 < (k : Int)) := by omega
        go_wp2_with (go_at_call 108; refine HC.out.mono ?_; rintro e w4 ⟨rfl, h4, g4⟩; have H4 : Hid (Rd lim w4 B R n d) := h4; have G4 : Hid (wr.grownBy w4 (some B)) := g4; clear h4 g4 HC)
        go_roundw
        case rel =>
          exact ⟨k + 1, _, y / 128, R, by go_num, rfl, by omega, hnext, fun _ => by omega, HcR.out, H4.out, grown_trans HG.out G4.out⟩
        case measure => simp [intOf]; omega
set_option maxRecDepth 100000 in
theorem unfold_any (n : Int) (h : R64 n) (w : World) : Calls Try.prog 109 #[.int .u64 (Pg.zig n : Nat)] w fun e w' => e = .returned (.int .i64 n) ∧ w' = w := by
  obtain ⟨h0, h1⟩ := h
  have hz : Pg.zig n < 18446744073709551616 := Pg.zig_lt ⟨h0, h1⟩
  by_cases hn : n < 0
  · have e : ((Pg.zig n : Nat) : Int) = 2 * (-(n + 1)) + 1 := by unfold Pg.zig; rw [if_pos hn]; omega
    rw [e]
    have q1 : (2 * (-(n + 1)) + 1) % 2 = 1 := by omega
    have q2 : (2 * (-(n + 1)) + 1) / 2 = -(n + 1) := by omega
    go_enter Try.func109, Try.ntmps109
    go_wp2
    go_ret
    exact ⟨rfl, rfl⟩
  · have e : ((Pg.zig n : Nat) : Int) = 2 * n := by unfold Pg.zig; rw [if_neg hn]; omega
    rw [e]
    have q1 : (2 * n) % 2 = 0 := by omega
    have q2 : (2 * n) / 2 = n := by omega
    go_enter Try.func109, Try.ntmps109
    go_wp2
    go_ret
    exact ⟨rfl, rfl⟩
theorem cnt_en {n : Int} (h : Pg.okB n = true) : (Pg.dCnt n).en = Pg.grp n.toNat ∧ 0 ≤ n ∧ n < 2147483648 := by
  have : 0 ≤ n ∧ n < 2147483648 := by simpa [Pg.okB] using h
  exact ⟨by simp [Pg.dCnt, h], this⟩
set_option maxRecDepth 100000 in
theorem rcount_ok {lim : Nat} {w : World} {B : Nat} {z : Int} {R : List Int} {n d : Nat} (hz : Pg.okB z = true) (h : Rd lim w B ((Pg.dCnt z).en ++ R) n d) :
    Calls Try.prog 92 #[.pointer (some ⟨B, 0, none⟩)] w fun e w' => e = .returned (.int .i64 z) ∧ Rd lim w' B R n d ∧ w.grownBy w' (some B) := by
  obtain ⟨e1, h0, h1⟩ := cnt_en hz
  rw [e1] at h
  have HC : Hid (Calls Try.prog 100 #[.pointer (some ⟨B, 0, none⟩), .int .i64 5, .int .u8 7] w fun e w' => e = .returned (.int .u64 (z.toNat : Nat)) ∧ Rd lim w' B R n d ∧ w.grownBy w' (some B)) := groups_ok h (most := 5) (last := 7) (by decide) (by decide) (by show z.toNat < 268435456 * 8; omega) (by omega)
  rw [show ((z.toNat : Nat) : Int) = z from by omega] at HC
  clear h e1 hz
  go_enter Try.func92, Try.ntmps92
  go_wp2_with (go_at_call 100; refine HC.out.mono ?_; rintro e w4 ⟨rfl, h4⟩; have H4 : Hid (Rd lim w4 B R n d ∧ w.grownBy w4 (some B)) := h4; clear h4 HC)
  go_ret
  exact ⟨rfl, H4.out⟩
set_option maxRecDepth 100000 in
theorem rcount_cut {lim : Nat} {w : World} {B : Nat} {z : Int} {L : List Int} {n d : Nat} (hz : Pg.okB z = true) (hc : Cut L (Pg.dCnt z).en) (h : Rd lim w B L n d) :
    Calls Try.prog 92 #[.pointer (some ⟨B, 0, none⟩)] w fun e w' => e = faults 80 ∧ w.grownBy w' (some B) := by
  obtain ⟨e1, h0, h1⟩ := cnt_en hz
  rw [e1] at hc
  have HC : Hid (Calls Try.prog 100 #[.pointer (some ⟨B, 0, none⟩), .int .i64 5, .int .u8 7] w fun e w' => e = faults 80 ∧ w.grownBy w' (some B)) := groups_cut h hc (most := 5) (last := 7) (by decide) (by decide) (by show z.toNat < 268435456 * 8; omega) (by omega)
  clear h e1 hz hc
  go_enter Try.func92, Try.ntmps92
  go_wp2_with (go_at_call 100; refine HC.out.mono ?_; rintro e w4 ⟨rfl, h4⟩; have H4 : Hid (w.grownBy w4 (some B)) := h4; clear h4 HC)
  exact ⟨rfl, rfl, H4.out⟩
set_option maxRecDepth 100000 in
theorem rnumber_ok {lim : Nat} {w : World} {B : Nat} {z : Int} {R : List Int} {n d : Nat} (hz : R64 z) (h : Rd lim w B ((Pg.dNum z).en ++ R) n d) :
    Calls Try.prog 102 #[.pointer (some ⟨B, 0, none⟩)] w fun e w' => e = .returned (.int .i64 z) ∧ Rd lim w' B R n d ∧ w.grownBy w' (some B) := by
  have hl := Pg.zig_lt hz
  have HC : Hid (Calls Try.prog 100 #[.pointer (some ⟨B, 0, none⟩), .int .i64 10, .int .u8 1] w fun e w' => e = .returned (.int .u64 (Pg.zig z : Nat)) ∧ Rd lim w' B R n d ∧ w.grownBy w' (some B)) := groups_ok h (most := 10) (last := 1) (by decide) (by decide) (by show Pg.zig z < 9223372036854775808 * 2; omega) hl
  have HZ : Hid (R64 z) := hz
  clear h hl hz
  go_enter Try.func102, Try.ntmps102
  go_wp2_with (first
    | (go_at_call 100; refine HC.out.mono ?_; rintro e w4 ⟨rfl, h4⟩; have H4 : Hid (Rd lim w4 B R n d ∧ w.grownBy w4 (some B)) := h4; clear h4 HC)
    | (go_at_call 109; refine (unfold_any z HZ.out _).mono ?_; rintro e w5 ⟨rfl, hw⟩; rw [hw]; clear hw w5))
  go_ret
  exact ⟨rfl, H4.out⟩
set_option maxRecDepth 100000 in
theorem rnumber_cut {lim : Nat} {w : World} {B : Nat} {z : Int} {L : List Int} {n d : Nat} (hz : R64 z) (hc : Cut L (Pg.dNum z).en) (h : Rd lim w B L n d) :
    Calls Try.prog 102 #[.pointer (some ⟨B, 0, none⟩)] w fun e w' => e = faults 80 ∧ w.grownBy w' (some B) := by
  have hl := Pg.zig_lt hz
  have HC : Hid (Calls Try.prog 100 #[.pointer (some ⟨B, 0, none⟩), .int .i64 10, .int .u8 1] w fun e w' => e = faults 80 ∧ w.grownBy w' (some B)) := groups_cut h hc (most := 10) (last := 1) (by decide) (by decide) (by show Pg.zig z < 9223372036854775808 * 2; omega) hl
  clear h hl hz hc
  go_enter Try.func102, Try.ntmps102
  go_wp2_with (go_at_call 100; refine HC.out.mono ?_; rintro e w4 ⟨rfl, h4⟩; have H4 : Hid (w.grownBy w4 (some B)) := h4; clear h4 HC)
  exact ⟨rfl, rfl, H4.out⟩
set_option maxRecDepth 100000 in
set_option maxHeartbeats 4000000 in
theorem rlength_ok {lim : Nat} {w : World} {B : Nat} {k : Nat} {R : List Int} {n d : Nat} (hz : Pg.okB (k : Int) = true) (hk : k ≤ R.length) (h : Rd lim w B ((Pg.dCnt (k : Int)).en ++ R) n d) :
    Calls Try.prog 91 #[.pointer (some ⟨B, 0, none⟩)] w fun e w' => e = .returned (.int .i64 (k : Int)) ∧ Rd lim w' B R n d ∧ w.grownBy w' (some B) := by
  have HC : Hid (Calls Try.prog 92 #[.pointer (some ⟨B, 0, none⟩)] w fun e w' => e = .returned (.int .i64 (k : Int)) ∧ Rd lim w' B R n d ∧ w.grownBy w' (some B)) := rcount_ok hz h
  have q1 : ¬ ((R.length : Int) < (k : Int)) := by omega
  have q2 : decide ((R.length : Int) < (k : Int)) = false := decide_eq_false q1
  have q3 : ¬ (R.length < k) := by omega
  clear h hz
  go_enter Try.func91, Try.ntmps91
  go_wp2_with (go_at_call 92; refine HC.out.mono ?_; rintro e w4 ⟨rfl, h4⟩; have H4 : Hid (Rd lim w4 B R n d ∧ w.grownBy w4 (some B)) := h4; obtain ⟨a, c, h1, h2, h3⟩ := h4.1; have c0 : w4.cell? ⟨B, 0, none⟩ = some (.slice a R.length c) := rcell h1 0; clear h4 HC h1 h2 h3)
  go_ret
  exact ⟨rfl, H4.out⟩
set_option maxRecDepth 100000 in
set_option maxHeartbeats 4000000 in
theorem rlength_more {lim : Nat} {w : World} {B : Nat} {k : Nat} {R : List Int} {n d : Nat} (hz : Pg.okB (k : Int) = true) (hk : R.length < k) (h : Rd lim w B ((Pg.dCnt (k : Int)).en ++ R) n d) :
    Calls Try.prog 91 #[.pointer (some ⟨B, 0, none⟩)] w fun e w' => e = faults 80 ∧ w.grownBy w' (some B) := by
  have HC : Hid (Calls Try.prog 92 #[.pointer (some ⟨B, 0, none⟩)] w fun e w' => e = .returned (.int .i64 (k : Int)) ∧ Rd lim w' B R n d ∧ w.grownBy w' (some B)) := rcount_ok hz h
  have q1 : (R.length : Int) < (k : Int) := by omega
  have q2 : decide ((R.length : Int) < (k : Int)) = true := decide_eq_true q1
  clear h hz
  go_enter Try.func91, Try.ntmps91
  go_wp2_with (go_at_call 92; refine HC.out.mono ?_; rintro e w4 ⟨rfl, h4⟩; have H4 : Hid (Rd lim w4 B R n d ∧ w.grownBy w4 (some B)) := h4; obtain ⟨a, c, h1, h2, h3⟩ := h4.1; have c0 : w4.cell? ⟨B, 0, none⟩ = some (.slice a R.length c) := rcell h1 0; clear h4 HC h1 h2 h3)
  exact ⟨rfl, rfl, H4.out.2⟩
set_option maxRecDepth 100000 in
set_option maxHeartbeats 4000000 in
theorem rlength_cut {lim : Nat} {w : World} {B : Nat} {k : Nat} {L : List Int} {n d : Nat} (hz : Pg.okB (k : Int) = true) (hc : Cut L (Pg.dCnt (k : Int)).en) (h : Rd lim w B L n d) :
    Calls Try.prog 91 #[.pointer (some ⟨B, 0, none⟩)] w fun e w' => e = faults 80 ∧ w.grownBy w' (some B) := by
  have HC : Hid (Calls Try.prog 92 #[.pointer (some ⟨B, 0, none⟩)] w fun e w' => e = faults 80 ∧ w.grownBy w' (some B)) := rcount_cut hz hc h
  clear h hz hc
  go_enter Try.func91, Try.ntmps91
  go_wp2_with (go_at_call 92; refine HC.out.mono ?_; rintro e w4 ⟨rfl, h4⟩; have H4 : Hid (w.grownBy w4 (some B)) := h4; clear h4 HC)
  exact ⟨rfl, rfl, H4.out⟩
theorem Rd.set {lim : Nat} {w : World} {B : Nat} {L : List Int} {n d : Nat} (h : Rd lim w B L n d) (n' d' : Nat) : Rd lim ((w.setCell ⟨B, 1, none⟩ (.int .i64 n')).setCell ⟨B, 2, none⟩ (.int .i64 d')) B L n' d' := by
  obtain ⟨a, c, h1, h2, h3⟩ := h
  have g := grown_trans (grown_setCell w B 1 (.int .i64 n')) (grown_setCell _ B 2 (.int .i64 d'))
  exact ⟨a, c, rset (rset h1 1 _) 2 _, h2.kept g (fun g' off s e => by have := (h3 g' off s e).1; simpa using this), h3⟩
set_option maxRecDepth 100000 in
set_option maxHeartbeats 4000000 in
theorem rbegin_ok {lim : Nat} {w : World} {B : Nat} {L : List Int} {n d : Nat} (h : Rd lim w B L n d) (hn : n < 2048) (hd : d < 32) :
    Calls Try.prog 101 #[.pointer (some ⟨B, 0, none⟩)] w fun e w' => e = .returned (.tuple #[]) ∧ Rd lim w' B L (n + 1) (d + 1) ∧ w.grownBy w' (some B) := by
  have HR := h.set (n + 1) (d + 1)
  have HG := grown_trans (grown_setCell w B 1 (.int .i64 ((n + 1 : Nat) : Int))) (grown_setCell _ B 2 (.int .i64 ((d + 1 : Nat) : Int)))
  have HH : Hid (Rd lim ((w.setCell ⟨B, 1, none⟩ (.int .i64 ((n : Int) + 1))).setCell ⟨B, 2, none⟩ (.int .i64 ((d : Int) + 1))) B L (n + 1) (d + 1) ∧ w.grownBy ((w.setCell ⟨B, 1, none⟩ (.int .i64 ((n : Int) + 1))).setCell ⟨B, 2, none⟩ (.int .i64 ((d : Int) + 1))) (some B)) := ⟨HR, HG⟩
  obtain ⟨a, c, h1, h2, h3⟩ := h
  have c1 : w.cell? ⟨B, 1, none⟩ = some (.int .i64 n) := rcell h1 1
  have c2 : w.cell? ⟨B, 2, none⟩ = some (.int .i64 d) := rcell h1 2
  have f1 : w.frozen? ⟨B, 1, none⟩ = false := rfrozen h1 1
  have f2 : w.frozen? ⟨B, 2, none⟩ = false := rfrozen h1 2
  have q1 : ((n : Int) == 2048) = false := by simp; omega
  have q2 : ((d : Int) == 32) = false := by simp; omega
  have q3 : ¬ ((n : Int) = 2048) := by omega
  have q4 : ¬ ((d : Int) = 32) := by omega
  clear h1 h2 h3 HR HG
  go_enter Try.func101, Try.ntmps101
  go_wp2
  first | go_end0 | go_returns
  exact ⟨rfl, HH.out⟩
set_option maxRecDepth 100000 in
set_option maxHeartbeats 4000000 in
theorem rend_ok {lim : Nat} {w : World} {B : Nat} {L : List Int} {n d : Nat} (h : Rd lim w B L n (d + 1)) (hd : d < 100000) :
    Calls Try.prog 105 #[.pointer (some ⟨B, 0, none⟩)] w fun e w' => e = .returned (.tuple #[]) ∧ Rd lim w' B L n d ∧ w.grownBy w' (some B) := by
  obtain ⟨a, c, h1, h2, h3⟩ := h
  have HH : Hid (Rd lim (w.setCell ⟨B, 2, none⟩ (.int .i64 (d : Int))) B L n d ∧ w.grownBy (w.setCell ⟨B, 2, none⟩ (.int .i64 (d : Int))) (some B)) := ⟨⟨a, c, rset h1 2 _, h2.kept (grown_setCell w B 2 _) (fun g' off s e => by have := (h3 g' off s e).1; simpa using this), h3⟩, grown_setCell _ _ _ _⟩
  have c2 : w.cell? ⟨B, 2, none⟩ = some (.int .i64 ((d : Int) + 1)) := rcell h1 2
  have f2 : w.frozen? ⟨B, 2, none⟩ = false := rfrozen h1 2
  clear h1 h2 h3
  go_enter Try.func105, Try.ntmps105
  go_wp2
  first | go_end0 | go_returns
  exact ⟨rfl, HH.out⟩
theorem conv_none (w : World) : (convert 29 9 (.slice none 0 0)).run Try.prog w = .ok (.string ByteArray.empty) w := by kernel_rfl
theorem rd_drop {lim : Nat} {w : World} {B : Nat} {a a' : Option Addr} {c : Nat} {P R : List Int} {n d : Nat} {v : Value} (h1 : w.heap[B]? = some (.cells #[v, .int .i64 n, .int .i64 d] 106)) (h2 : Lf w a c (P ++ R)) (h3 : ∀ g off s, a = some ⟨g, off, s⟩ → g ≠ B ∧ g < lim) (ha : (c = P.length ∧ a' = a) ∨ a' = a.map (fun x => x.add P.length)) :
    Rd lim (w.setCell ⟨B, 0, none⟩ (.slice a' R.length (c - P.length))) B R n d := by
  have hg := grown_setCell w B 0 (.slice a' R.length (c - P.length))
  have hle := h2.le
  rw [List.length_append] at hle
  have hsub : ∀ g off s, a' = some ⟨g, off, s⟩ → ∃ off0, a = some ⟨g, off0, s⟩ := by
    intro g off s e
    rcases ha with ⟨_, rfl⟩ | rfl
    · exact ⟨off, e⟩
    · cases a with
      | none => cases e
      | some x =>
        obtain ⟨g0, o0, s0⟩ := x
        obtain ⟨rfl, _, _⟩ := h2.lie g0 o0 s0 rfl
        simp only [Option.map_some, Addr.add] at e
        split at e
        · injection e with e; injection e with e1 e2 e3
          exact ⟨o0, by rw [← e1, ← e3]⟩
        · injection e with e; injection e with e1 e2 e3
          exact ⟨o0, by rw [← e1, ← e3]⟩
  have hsub3 : ∀ g off s, a' = some ⟨g, off, s⟩ → g ≠ B ∧ g < lim := fun g off s e => by obtain ⟨o0, e0⟩ := hsub g off s e; exact h3 g o0 s e0
  refine ⟨a', c - P.length, rset h1 0 _, Lf.kept (w := w) ⟨by omega, by have := h2.max; omega, fun e => ?_, fun g off s e => ?_⟩ hg (fun g off s e => by have := (hsub3 g off s e).1; simpa using this), hsub3⟩
  · rcases ha with ⟨hc, rfl⟩ | rfl
    · omega
    · cases a with
      | none => have := h2.nil rfl; omega
      | some x => cases e
  · obtain ⟨o0, e0⟩ := hsub g off s e
    obtain ⟨hs, hgl, hcell⟩ := h2.lie g o0 s e0
    refine ⟨hs, hgl, fun j z hj => ?_⟩
    rcases ha with ⟨hc, rfl⟩ | rfl
    · have hR : R = [] := List.length_eq_zero_iff.1 (by omega)
      rw [hR] at hj; simp at hj
    · rw [e0] at e
      subst hs
      have ho : off = o0 + P.length := by
        simp only [Option.map_some, Addr.add] at e
        split at e
        · rename_i hz
          injection e with e; injection e with e1 e2 e3
          omega
        · injection e with e; injection e with e1 e2 e3
          omega
      rw [ho, Nat.add_assoc]
      exact hcell (P.length + j) z (by rw [List.getElem?_append_right (by omega)]; simpa using hj)
theorem txt_cell {w : World} {a : Option Addr} {c : Nat} {s : ByteArray} {R : List Int} (h : Lf w a c (Pg.txt s ++ R)) : (convert 29 9 (.slice a s.size c)).run Try.prog w = .ok (.string s) w := by
  cases a with
  | none =>
    have hc := h.nil rfl
    have hl := h.le
    rw [List.length_append, Pg.txt_len] at hl
    have hs : s.size = 0 := by omega
    subst hc
    have e : s = ByteArray.empty := by
      apply ByteArray.ext
      have : s.data.size = 0 := hs
      rw [Array.eq_empty_of_size_eq_zero this]
      rfl
    rw [hs, e]
    exact conv_none w
  | some x =>
    obtain ⟨g, off, sp⟩ := x
    obtain ⟨rfl, _, hcell⟩ := h.lie g off sp rfl
    have := run_convert_bytes_back (P := Try.prog) w 29 9 5 ⟨g, off, none⟩ c s.data.toList (by kernel_rfl) (by kernel_rfl) (by kernel_rfl) (fun j hj => by
      rw [show ((⟨g, off, none⟩ : Addr).add j) = ⟨g, off + j, none⟩ from by simp [Addr.add]]
      refine hcell j _ ?_
      have hj' : j < (Pg.txt s).length := by rw [Pg.txt_len]; simpa using hj
      rw [List.getElem?_append_left hj', List.getElem?_eq_getElem hj']
      simp [Pg.txt])
    have e2 : s.data.toList.length = s.size := by simp
    rw [e2] at this
    simpa using this
set_option maxRecDepth 100000 in
set_option maxHeartbeats 4000000 in
theorem rtext_ok {lim : Nat} {w : World} {B : Nat} {s : ByteArray} {R : List Int} {n d : Nat} (hs : s.size ≤ 256) (h : Rd lim w B ((Pg.dCnt (s.size : Int)).en ++ (Pg.txt s ++ R)) n d) :
    Calls Try.prog 110 #[.pointer (some ⟨B, 0, none⟩)] w fun e w' => e = .returned (.string s) ∧ Rd lim w' B R n d ∧ w.grownBy w' (some B) := by
  have hok : Pg.okB (s.size : Int) = true := by simp [Pg.okB]; omega
  have HC : Hid (Calls Try.prog 91 #[.pointer (some ⟨B, 0, none⟩)] w fun e w' => e = .returned (.int .i64 (s.size : Int)) ∧ Rd lim w' B (Pg.txt s ++ R) n d ∧ w.grownBy w' (some B)) := rlength_ok hok (by rw [List.length_append, Pg.txt_len]; omega) h
  have q1 : ¬ (256 < (s.size : Int)) := by omega
  have q2 : decide (256 < (s.size : Int)) = false := decide_eq_false q1
  clear h hok
  go_enter Try.func110, Try.ntmps110
  go_wp2_with (go_at_call 91; refine HC.out.mono ?_; rintro e w4 ⟨rfl, h4, g4⟩; have G4 : Hid (w.grownBy w4 (some B)) := g4; obtain ⟨a, c, h1, h2, h3⟩ := h4; have hcv := txt_cell h2; have c0 : w4.cell? ⟨B, 0, none⟩ = some (.slice a (s.size + R.length) c) := (by have := rcell h1 0; rw [List.length_append, Pg.txt_len] at this; exact this); have f0 : w4.frozen? ⟨B, 0, none⟩ = false := rfrozen h1 0; have hle : s.size + R.length ≤ c := (by have := h2.le; rw [List.length_append, Pg.txt_len] at this; exact this); have hmx : c ≤ 9223372036854775807 := h2.max; have H1 : Hid (w4.heap[B]? = some (.cells #[.slice a (Pg.txt s ++ R).length c, .int .i64 n, .int .i64 d] 106)) := h1; have H2 : Hid (Lf w4 a c (Pg.txt s ++ R)) := h2; have H3 : Hid (∀ g off s, a = some ⟨g, off, s⟩ → g ≠ B ∧ g < lim) := h3; clear h1 h2 h3 g4 HC)
  all_goals go_ret
  · refine ⟨rfl, ?_, grown_trans G4.out (grown_setCell _ _ _ _)⟩
    have := rd_drop (lim := lim) (a' := a) H1.out H2.out H3.out (.inl ⟨by rw [Pg.txt_len]; omega, rfl⟩)
    have hcs : c - s.size = 0 := by omega
    rw [Pg.txt_len, hcs] at this
    exact this
  · refine ⟨rfl, ?_, grown_trans G4.out (grown_setCell _ _ _ _)⟩
    have := rd_drop (lim := lim) (a' := a.map (fun x => x.add s.size)) H1.out H2.out H3.out (.inr (by rw [Pg.txt_len]))
    rw [Pg.txt_len] at this
    exact this
set_option maxRecDepth 100000 in
set_option maxHeartbeats 4000000 in
theorem rtext_cut {lim : Nat} {w : World} {B : Nat} {s : ByteArray} {L : List Int} {n d : Nat} (hs : s.size ≤ 256) (hc : Cut L ((Pg.dCnt (s.size : Int)).en ++ Pg.txt s)) (h : Rd lim w B L n d) :
    Calls Try.prog 110 #[.pointer (some ⟨B, 0, none⟩)] w fun e w' => e = faults 80 ∧ w.grownBy w' (some B) := by
  have hok : Pg.okB (s.size : Int) = true := by simp [Pg.okB]; omega
  have HC : Hid (Calls Try.prog 91 #[.pointer (some ⟨B, 0, none⟩)] w fun e w' => e = faults 80 ∧ w.grownBy w' (some B)) := by
    rcases cut_cases hc with h1 | ⟨R, hL, h2⟩
    · exact rlength_cut (k := s.size) hok h1 h
    · rw [hL] at h
      have h3 := h2.2
      rw [Pg.txt_len] at h3
      exact rlength_more (k := s.size) hok h3 h
  clear h hok hc
  go_enter Try.func110, Try.ntmps110
  go_wp2_with (go_at_call 91; refine HC.out.mono ?_; rintro e w4 ⟨rfl, h4⟩; have H4 : Hid (w.grownBy w4 (some B)) := h4; clear h4 HC)
  exact ⟨rfl, rfl, H4.out⟩
end Go.Proofs.Ytljdjkiejppenaa
