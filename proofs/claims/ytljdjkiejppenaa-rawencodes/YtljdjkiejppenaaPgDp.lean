/- gantryref8: how deep nodes stand; the error that Encode tells. -/
import Derived.Test.YtljdjkiejppenaaPgNd
namespace Go.Proofs.Ytljdjkiejppenaa
open Go.RowKit
set_option linter.unusedVariables false

def DpE (x : Pg.Ex) : Prop := ∀ (B : Nat → Prop) (w : World) (a : Option Addr) (c : Nat) (m : Nat) (v : Bool), ExL B w a c x.args → m ≤ 1000000 → decide (m < x.dl.dp) = v →
  Calls Try.prog 53 #[.agg #[.int .i64 x.op, .int .i64 x.t, .int .i64 x.n, .string x.s, .slice a x.args.length c], .int .i64 (m : Int)] w fun e w' => e = .returned (.bool v) ∧ w.grownBy w' none
set_option maxRecDepth 100000 in
set_option maxHeartbeats 8000000 in
theorem deepExpr_one (x : Pg.Ex) (ih : ∀ y, y ∈ x.args → DpE y) : DpE x := by
  intro B w a c m v h hm hv
  have hle := h.le
  have hmx := h.max
  unfold maxLen at hmx
  obtain ⟨W1, hW1⟩ : ∃ W1, W1 = w.alloc (.cells #[.int .i64 x.op, .int .i64 x.t, .int .i64 x.n, .string x.s, .slice a x.args.length c] 94) := ⟨_, rfl⟩
  have HW1 : Hid (W1 = w.alloc (.cells #[.int .i64 x.op, .int .i64 x.t, .int .i64 x.n, .string x.s, .slice a x.args.length c] 94)) := hW1
  have g1 : w.grownBy W1 none := by rw [hW1]; exact World.grownBy_alloc _ _ _
  have HG1 : Hid (w.grownBy W1 none) := g1
  have HK : Hid (∀ W, W1.grownBy W none → W.cell? ⟨w.heap.size, 4, none⟩ = some (.slice a x.args.length c)) := fun W g => g.cell (by rw [hW1]; exact cells_new _ _ rfl _) (by simp)
  have HL : Hid (∀ W, W1.grownBy W none → ExL B W a c x.args) := fun W g => ExL.grow h (grown_trans g1 g)
  have HI : Hid (∀ y, y ∈ x.args → DpE y) := ih
  have HV : Hid (decide (m < (Pg.dCat Pg.Ex.dl x.args).dp + 1) = v) := by rw [(Pg.Ex.nd_eq x).2] at hv; exact hv
  clear h ih g1 hW1 hv
  go_enter Try.func53, Try.ntmps53
  go_wp2_with fail
  go_loopw [5] (fun ix wr => ∃ k : Nat, ix = .int .i64 k ∧ k ≤ x.args.length ∧ (Pg.dCat Pg.Ex.dl (x.args.take k)).dp + 1 ≤ m + 1 ∧ (0 < k → (Pg.dCat Pg.Ex.dl (x.args.take k)).dp + 1 ≤ m) ∧ W1.grownBy wr none) (fun ix _ => x.args.length - (intOf ix).toNat)
  case atStart => exact ⟨0, rfl, Nat.zero_le _, by simp [Pg.dCat, Pg.Dl.nil], fun h => absurd h (by omega), by rw [HW1.out]; exact World.grownBy.refl _ _⟩
  case round =>
    obtain ⟨k, rfl, hk, hd0, hd1, hg⟩ := hrel
    have HG : Hid (W1.grownBy wr none) := hg
    have H1 : Hid (0 < k → (Pg.dCat Pg.Ex.dl (x.args.take k)).dp + 1 ≤ m) := hd1
    clear hd1 hd0
    have e4 := HK.out wr hg
    by_cases hkn : k < x.args.length
    case neg =>
      obtain rfl : k = x.args.length := by omega
      clear hg
      by_cases hm0 : 0 < m
      · have q1 : ¬ ((m : Int) ≤ 0) := by omega
        have q2 : decide ((m : Int) ≤ 0) = false := decide_eq_false q1
        go_wp2
        go_ret
        refine ⟨?_, grown_trans HG1.out HG.out⟩
        have : v = false := by
          rw [← HV.out]
          refine decide_eq_false (fun h => ?_)
          have := H1.out
          rw [List.take_length] at this
          by_cases hz : x.args.length = 0
          · have hz' : x.args = [] := List.length_eq_zero_iff.1 hz
            rw [hz'] at h
            simp [Pg.dCat, Pg.Dl.nil] at h
            omega
          · have := this (by omega)
            omega
        have hz0 : decide (m = 0) = false := decide_eq_false (by omega)
        rw [this]
        show Ending.returned (Value.bool (decide (m = 0))) = _
        rw [hz0]
      · obtain rfl : m = 0 := by omega
        go_wp2
        go_ret
        refine ⟨?_, grown_trans HG1.out HG.out⟩
        have : v = true := by rw [← HV.out]; exact decide_eq_true (by omega)
        rw [this]
        rfl
    have hkn' : (k : Int) < x.args.length := by omega
    by_cases hm0 : 0 < m
    case neg =>
      obtain rfl : m = 0 := by omega
      clear hg
      go_wp2
      go_ret
      refine ⟨?_, grown_trans HG1.out HG.out⟩
      have : v = true := by rw [← HV.out]; exact decide_eq_true (by omega)
      rw [this]
      rfl
    have hm1 : 0 < (m : Int) := by omega
    have d1 : decide (0 < (m : Int)) = true := decide_eq_true hm1
    obtain ⟨b, o, rfl, _, hx⟩ := (HL.out wr hg).at hkn
    obtain ⟨a1, k1, he⟩ := hx.row
    have HS : Hid ((Pg.dCat Pg.Ex.dl (x.args.take (k + 1))).dp = max (Pg.dCat Pg.Ex.dl (x.args.take k)).dp x.args[k].dl.dp) := (Pg.nd_succ _ hkn).2
    have HT : Hid ((Pg.dCat Pg.Ex.dl (x.args.take (k + 1))).dp ≤ (Pg.dCat Pg.Ex.dl x.args).dp) := (Pg.dCat_le Pg.Ex.dl x.args (k + 1)).2.1
    have HC := fun v => HI.out x.args[k] (List.getElem_mem hkn) B wr a1 k1 (m - 1) v he.args (by omega)
    rw [show ((m - 1 : Nat) : Int) = (m : Int) - 1 from by omega] at HC
    have c0 := he.c0
    have c1 := he.c1
    have c2 := he.c2
    have c3 := he.c3
    have c4 := he.c4
    clear hx he hg
    generalize x.args[k] = y at *
    have HZ : Hid ((Pg.dCat Pg.Ex.dl (x.args.take k)).dp + 1 ≤ m) := by
      by_cases hk0 : 0 < k
      · exact H1.out hk0
      · obtain rfl : k = 0 := by omega
        simp [Pg.dCat, Pg.Dl.nil]
        exact hm0
    cases hd : decide (m - 1 < y.dl.dp)
    · have HD : Hid (decide (m - 1 < y.dl.dp) = false) := hd
      have HC : Hid (Calls Try.prog 53 #[.agg #[.int .i64 y.op, .int .i64 y.t, .int .i64 y.n, .string y.s, .slice a1 y.args.length k1], .int .i64 ((m : Int) - 1)] wr fun e w' => e = .returned (.bool false) ∧ wr.grownBy w' none) := HC false hd
      clear hd
      go_wp2_with (go_at_call 53; refine HC.out.mono ?_; rintro e w4 ⟨rfl, hg4⟩; have G4 : Hid (wr.grownBy w4 none) := hg4; clear hg4)
      go_roundw
      case rel =>
        have h1 := of_decide_eq_false HD.out
        have h2 := HS.out
        have h3 := HZ.out
        exact ⟨k + 1, by go_num, by omega, by omega, fun _ => by omega, grown_trans HG.out G4.out⟩
      case measure => simp [intOf]; omega
    · have HD : Hid (decide (m - 1 < y.dl.dp) = true) := hd
      have HC : Hid (Calls Try.prog 53 #[.agg #[.int .i64 y.op, .int .i64 y.t, .int .i64 y.n, .string y.s, .slice a1 y.args.length k1], .int .i64 ((m : Int) - 1)] wr fun e w' => e = .returned (.bool true) ∧ wr.grownBy w' none) := HC true hd
      clear hd
      go_wp2_with (go_at_call 53; refine HC.out.mono ?_; rintro e w4 ⟨rfl, hg4⟩; have G4 : Hid (wr.grownBy w4 none) := hg4; clear hg4)
      go_ret
      refine ⟨?_, grown_trans HG1.out (grown_trans HG.out G4.out)⟩
      have : v = true := by
        rw [← HV.out]
        have h1 := of_decide_eq_true HD.out
        have h2 := HS.out
        have h3 := HT.out
        exact decide_eq_true (by omega)
      rw [this]
      rfl
theorem deepExpr_any (x : Pg.Ex) : DpE x := Pg.Ex.ind (P := DpE) (fun op t n s args ih => deepExpr_one (.mk op t n s args) ih) x
def DpS (l : List Pg.St) : Prop := ∀ (B : Nat → Prop) (w : World) (a : Option Addr) (c : Nat) (m : Nat) (v : Bool), StL B w a c l → m ≤ 1000000 → decide (m < (Pg.dCat Pg.St.dl l).dp) = v →
  Calls Try.prog 27 #[.slice a l.length c, .int .i64 (m : Int)] w fun e w' => e = .returned (.bool v) ∧ w.grownBy w' none
set_option maxRecDepth 100000 in
set_option maxHeartbeats 16000000 in
theorem deepStmts_list (l : List Pg.St) (ih : ∀ x, x ∈ l → DpS x.a ∧ DpS x.b) : DpS l := by
  intro B w a c m v h hm hv
  have hle := h.le
  have hmx := h.max
  unfold maxLen at hmx
  have HL : Hid (StL B w a c l) := h
  have HI : Hid (∀ x, x ∈ l → DpS x.a ∧ DpS x.b) := ih
  have HV : Hid (decide (m < (Pg.dCat Pg.St.dl l).dp) = v) := hv
  clear h ih hv
  go_enter Try.func27, Try.ntmps27
  go_wp2_with fail
  go_loopw [5] (fun ix wr => ∃ k : Nat, ix = .int .i64 k ∧ k ≤ l.length ∧ (Pg.dCat Pg.St.dl (l.take k)).dp ≤ m ∧ w.grownBy wr none) (fun ix _ => l.length - (intOf ix).toNat)
  case atStart => exact ⟨0, rfl, Nat.zero_le _, by simp [Pg.dCat, Pg.Dl.nil], World.grownBy.refl _ _⟩
  case round =>
    obtain ⟨k, rfl, hk, hd0, hg⟩ := hrel
    have HG : Hid (w.grownBy wr none) := hg
    have H1 : Hid ((Pg.dCat Pg.St.dl (l.take k)).dp ≤ m) := hd0
    clear hd0
    by_cases hkn : k < l.length
    case neg =>
      obtain rfl : k = l.length := by omega
      clear hg
      go_wp2
      go_ret
      refine ⟨?_, HG.out⟩
      have : v = false := by
        rw [← HV.out]
        have := H1.out
        rw [List.take_length] at this
        exact decide_eq_false (by omega)
      rw [this]
      rfl
    have hkn' : (k : Int) < l.length := by omega
    obtain ⟨b, o, rfl, _, hx⟩ := (StL.grow HL.out hg).at hkn
    obtain ⟨a1, a2, a3, a4, k1, k2, k3, k4, he⟩ := hx.row
    have HS : Hid ((Pg.dCat Pg.St.dl (l.take (k + 1))).dp = max (Pg.dCat Pg.St.dl (l.take k)).dp (max (Pg.dCat Pg.Ex.dl l[k].args).dp (max (Pg.dCat Pg.St.dl l[k].a).dp (Pg.dCat Pg.St.dl l[k].b).dp) + 1)) := by rw [← (Pg.St.nd_eq _).2]; exact (Pg.nd_succ _ hkn).2
    have HT : Hid ((Pg.dCat Pg.St.dl (l.take (k + 1))).dp ≤ (Pg.dCat Pg.St.dl l).dp) := (Pg.dCat_le Pg.St.dl l (k + 1)).2.1
    have hle1 := he.args.le
    have hmx1 := he.args.max
    unfold maxLen at hmx1
    by_cases hm0 : 0 < m
    case neg =>
      obtain rfl : m = 0 := by omega
      clear hg hx he
      generalize l[k] = x at *
      go_wp2
      go_ret
      refine ⟨?_, HG.out⟩
      have : v = true := by
        rw [← HV.out]
        have := HS.out
        have := HT.out
        exact decide_eq_true (by omega)
      rw [this]
      rfl
    have q1 : ¬ ((m : Int) ≤ 0) := by omega
    have q2 : decide ((m : Int) ≤ 0) = false := decide_eq_false q1
    have q3 : decide (m = 0) = false := decide_eq_false (by omega)
    have q4 : ¬ (m = 0) := by omega
    have HSC : Hid (∀ W, wr.grownBy W none → StC B W b (o + k * 6) l[k] a1 a2 a3 a4 k1 k2 k3 k4) := fun W g => ⟨g.cell he.c0 (by simp), g.cell he.c1 (by simp), g.cell he.c2 (by simp), g.cell he.c3 (by simp), g.cell he.c4 (by simp), g.cell he.c5 (by simp), he.rg, ExL.grow he.args g, NumL.grow he.dst g, StL.grow he.a g, StL.grow he.b g⟩
    have HIa := (HI.out _ (List.getElem_mem hkn)).1
    have HIb := (HI.out _ (List.getElem_mem hkn)).2
    have c4 := he.c4
    clear hx he hg
    generalize l[k] = x at *
    have HA : Hid (∀ W v, wr.grownBy W none → decide (m - 1 < (Pg.dCat Pg.St.dl x.a).dp) = v → Calls Try.prog 27 #[.slice a3 x.a.length k3, .int .i64 ((m : Int) - 1)] W fun e w' => e = .returned (.bool v) ∧ W.grownBy w' none) := by
      intro W v g hv
      have := HIa B W a3 k3 (m - 1) v (HSC.out W g).a (by omega) hv
      rwa [show ((m - 1 : Nat) : Int) = (m : Int) - 1 from by omega] at this
    have HB : Hid (∀ W v, wr.grownBy W none → decide (m - 1 < (Pg.dCat Pg.St.dl x.b).dp) = v → Calls Try.prog 27 #[.slice a4 x.b.length k4, .int .i64 ((m : Int) - 1)] W fun e w' => e = .returned (.bool v) ∧ W.grownBy w' none) := by
      intro W v g hv
      have := HIb B W a4 k4 (m - 1) v (HSC.out W g).b (by omega) hv
      rwa [show ((m - 1 : Nat) : Int) = (m : Int) - 1 from by omega] at this
    clear HIa HIb
    cases hda : decide (m - 1 < (Pg.dCat Pg.St.dl x.a).dp)
    case true =>
      have HDA : Hid (m - 1 < (Pg.dCat Pg.St.dl x.a).dp) := (by show _ < _; exact of_decide_eq_true hda)
      have HC : Hid (Calls Try.prog 27 #[.slice a3 x.a.length k3, .int .i64 ((m : Int) - 1)] wr fun e w' => e = .returned (.bool true) ∧ wr.grownBy w' none) := HA.out wr true (World.grownBy.refl _ _) hda
      clear hda
      go_wp2_with (go_at_call 27; refine HC.out.mono ?_; rintro e w4 ⟨rfl, hg4⟩; have G4 : Hid (wr.grownBy w4 none) := hg4; clear hg4 HC)
      go_ret
      refine ⟨?_, grown_trans HG.out G4.out⟩
      have : v = true := by
        rw [← HV.out]
        have := HS.out
        have := HT.out
        have := HDA.out
        exact decide_eq_true (by omega)
      rw [this]
      rfl
    have HDA : Hid (¬ (m - 1 < (Pg.dCat Pg.St.dl x.a).dp)) := of_decide_eq_false hda
    have HC : Hid (Calls Try.prog 27 #[.slice a3 x.a.length k3, .int .i64 ((m : Int) - 1)] wr fun e w' => e = .returned (.bool false) ∧ wr.grownBy w' none) := HA.out wr false (World.grownBy.refl _ _) hda
    clear hda
    cases hdb : decide (m - 1 < (Pg.dCat Pg.St.dl x.b).dp)
    case true =>
      have HDB : Hid (m - 1 < (Pg.dCat Pg.St.dl x.b).dp) := (by show _ < _; exact of_decide_eq_true hdb)
      have HC2 : Hid (∀ W, wr.grownBy W none → Calls Try.prog 27 #[.slice a4 x.b.length k4, .int .i64 ((m : Int) - 1)] W fun e w' => e = .returned (.bool true) ∧ W.grownBy w' none) := fun W g => HB.out W true g hdb
      clear hdb
      go_wp2_with (first
        | (go_at_call 27; refine HC.out.mono ?_; rintro e w4 ⟨rfl, hg4⟩; have G4 : Hid (wr.grownBy w4 none) := hg4; have c5 := (HSC.out w4 hg4).c5; clear hg4 HC)
        | (go_at_call 27; refine (HC2.out _ G4.out).mono ?_; rintro e w5 ⟨rfl, hg5⟩; have G5 : Hid (wr.grownBy w5 none) := grown_trans G4.out hg5; clear hg5 HC2))
      go_ret
      refine ⟨?_, grown_trans HG.out G5.out⟩
      have : v = true := by
        rw [← HV.out]
        have := HS.out
        have := HT.out
        have := HDB.out
        exact decide_eq_true (by omega)
      rw [this]
      rfl
    have HDB : Hid (¬ (m - 1 < (Pg.dCat Pg.St.dl x.b).dp)) := of_decide_eq_false hdb
    have HC2 : Hid (∀ W, wr.grownBy W none → Calls Try.prog 27 #[.slice a4 x.b.length k4, .int .i64 ((m : Int) - 1)] W fun e w' => e = .returned (.bool false) ∧ W.grownBy w' none) := fun W g => HB.out W false g hdb
    clear hdb
    obtain ⟨w1, hw1⟩ : ∃ z, z = wr := ⟨_, rfl⟩
    subst hw1
    go_wp2_with (first
      | (go_at_call 27; refine HC.out.mono ?_; rintro e w4 ⟨rfl, hg4⟩; have G4 : Hid (w1.grownBy w4 none) := hg4; have c5 := (HSC.out w4 hg4).c5; clear hg4 HC)
      | (go_at_call 27; refine (HC2.out _ G4.out).mono ?_; rintro e w5 ⟨rfl, hg5⟩; have G5 : Hid (w1.grownBy w5 none) := grown_trans G4.out hg5; clear hg5 HC2))
    go_loopw [6] (fun jx wq => ∃ j : Nat, jx = .int .i64 j ∧ j ≤ x.args.length ∧ (Pg.dCat Pg.Ex.dl (x.args.take j)).dp ≤ m - 1 ∧ w1.grownBy wq none) (fun jx _ => x.args.length - (intOf jx).toNat)
    case atStart => exact ⟨0, rfl, Nat.zero_le _, by simp [Pg.dCat, Pg.Dl.nil], G5.out⟩
    case round =>
      obtain ⟨j, rfl, hj, hd, hq⟩ := hrel
      have HQ : Hid (w1.grownBy wr none) := hq
      have HJ : Hid ((Pg.dCat Pg.Ex.dl (x.args.take j)).dp ≤ m - 1) := hd
      have hs := HSC.out wr hq
      have c2 := hs.c2
      clear hd
      by_cases hjn : j < x.args.length
      case neg =>
        obtain rfl : j = x.args.length := by omega
        clear hs hq
        go_wp2_with fail
        go_roundw
        case rel =>
          have h1 := HJ.out
          rw [List.take_length] at h1
          have h2 := HS.out
          have h3 := H1.out
          have h4 := HDA.out
          have h5 := HDB.out
          exact ⟨k + 1, by go_num, by omega, by omega, grown_trans HG.out HQ.out⟩
        case measure => simp [intOf]; omega
      have hjn' : (j : Int) < x.args.length := by omega
      obtain ⟨b1, o1, rfl, _, hy⟩ := hs.args.at hjn
      obtain ⟨a5, k5, hf⟩ := hy.row
      have HS2 : Hid ((Pg.dCat Pg.Ex.dl (x.args.take (j + 1))).dp = max (Pg.dCat Pg.Ex.dl (x.args.take j)).dp x.args[j].dl.dp) := (Pg.nd_succ _ hjn).2
      have HT2 : Hid ((Pg.dCat Pg.Ex.dl (x.args.take (j + 1))).dp ≤ (Pg.dCat Pg.Ex.dl x.args).dp) := (Pg.dCat_le Pg.Ex.dl x.args (j + 1)).2.1
      have HC := fun v => deepExpr_any x.args[j] B wr a5 k5 (m - 1) v hf.args (by omega)
      rw [show ((m - 1 : Nat) : Int) = (m : Int) - 1 from by omega] at HC
      have m0 := hf.c0
      have m1 := hf.c1
      have m2 := hf.c2
      have m3 := hf.c3
      have m4 := hf.c4
      clear hs hy hf hq
      generalize x.args[j] = y at *
      cases hd : decide (m - 1 < y.dl.dp)
      · have HD : Hid (¬ (m - 1 < y.dl.dp)) := of_decide_eq_false hd
        have HC : Hid (Calls Try.prog 53 #[.agg #[.int .i64 y.op, .int .i64 y.t, .int .i64 y.n, .string y.s, .slice a5 y.args.length k5], .int .i64 ((m : Int) - 1)] wr fun e w' => e = .returned (.bool false) ∧ wr.grownBy w' none) := HC false hd
        clear hd
        go_wp2_with (go_at_call 53; refine HC.out.mono ?_; rintro e w6 ⟨rfl, hg6⟩; have G6 : Hid (wr.grownBy w6 none) := hg6; clear hg6 HC)
        go_roundw
        case rel =>
          have h1 := HD.out
          have h2 := HS2.out
          have h3 := HJ.out
          exact ⟨j + 1, by go_num, by omega, by omega, grown_trans HQ.out G6.out⟩
        case measure => simp [intOf]; omega
      · have HD : Hid (m - 1 < y.dl.dp) := (by show _ < _; exact of_decide_eq_true hd)
        have HC : Hid (Calls Try.prog 53 #[.agg #[.int .i64 y.op, .int .i64 y.t, .int .i64 y.n, .string y.s, .slice a5 y.args.length k5], .int .i64 ((m : Int) - 1)] wr fun e w' => e = .returned (.bool true) ∧ wr.grownBy w' none) := HC true hd
        clear hd
        go_wp2_with (go_at_call 53; refine HC.out.mono ?_; rintro e w6 ⟨rfl, hg6⟩; have G6 : Hid (wr.grownBy w6 none) := hg6; clear hg6 HC)
        go_ret
        refine ⟨?_, grown_trans HG.out (grown_trans HQ.out G6.out)⟩
        have : v = true := by
          rw [← HV.out]
          have h1 := HD.out
          have h2 := HS2.out
          have h3 := HT2.out
          have h4 := HS.out
          have h5 := HT.out
          exact decide_eq_true (by omega)
        rw [this]
        rfl
theorem deepStmts_any (l : List Pg.St) : DpS l := deepStmts_list l fun x _ => Pg.St.ind (P := fun x => DpS x.a ∧ DpS x.b) (fun _ _ _ _ a b ia ib => ⟨deepStmts_list a ia, deepStmts_list b ib⟩) x
end Go.Proofs.Ytljdjkiejppenaa
