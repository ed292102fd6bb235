/- gantrylaw12.Weight: it tells a number. -/
import Derived.Test.YtbpdggdpgohilaaG15
namespace Go.Proofs.Ytbpdggdpgohilaa
open Go.RowKit
set_option linter.unusedVariables false
set_option maxRecDepth 100000
set_option maxHeartbeats 8000000

theorem lwWeight_any {N : Nat} {w : World} {u : Sa.Un} {a1 a2 : Option Addr} {k1 k2 : Nat} (h : UnC (· < N) w u a1 a2 k1 k2) (hN : N ≤ w.heap.size) (most : Int) : Calls Try.prog 5 #[.agg #[.slice a1 u.codes.length k1, .slice a2 u.data.length k2], .int .i64 most] w fun r w' => (∃ z, r = .returned (.int .i64 z)) ∧ w.grownBy w' none := by
  have HU : Hid (∀ W, w.grownBy W none → UnC (· < N) W u a1 a2 k1 k2) := fun W g => h.ch (l := []) (Ch.of g) (by simp) (fun _ h => h)
  have hule := h.c.le
  have humx := h.c.max
  unfold maxLen at humx
  obtain ⟨L, hL⟩ : ∃ L, L = u.codes.length := ⟨_, rfl⟩
  have HL : Hid (L = u.codes.length) := hL
  obtain ⟨D, hD⟩ : ∃ D, D = u.data.length := ⟨_, rfl⟩
  rw [← hL] at hule ⊢
  rw [← hD]
  obtain ⟨w1, hw1⟩ : ∃ w1, w1 = w.alloc (Obj.cells #[.slice a1 L k1, .slice a2 D k2] 31) := ⟨_, rfl⟩
  obtain ⟨UB, hUB⟩ : ∃ UB, UB = w.heap.size := ⟨_, rfl⟩
  have HG1 : Hid (w.grownBy w1 none) := by rw [hw1]; exact World.grownBy_alloc _ _ _
  have HK1 : Hid (Bk w1 UB 31 [.slice a1 L k1, .slice a2 D k2]) := by rw [hw1, hUB]; exact Bk.new _ _ _
  have x0 := HK1.out.cell (i := 0) rfl
  have x1 := HK1.out.cell (i := 1) rfl
  rw [hw1, hUB] at x0 x1
  have HW1 : Hid (w1 = w.alloc (Obj.cells #[.slice a1 L k1, .slice a2 D k2] 31) ∧ UB = w.heap.size ∧ N ≤ w.heap.size) := ⟨hw1, hUB, hN⟩
  clear h hL hD hw1 hUB hN
  go_enter Try.func5, Try.ntmps5
  go_wp2_with fail
  rw [← HW1.out.1, ← HW1.out.2.1]
  clear x0 x1
  go_loopw [5, 6] (fun nv iv wr => ∃ (i : Nat) (z : Int), nv = .int .i64 z ∧ iv = .int .i64 i ∧ i ≤ L ∧ w1.grownBy wr none) (fun _ iv _ => L - (intOf iv).toNat)
  case atStart => exact ⟨0, _, rfl, rfl, Nat.zero_le _, World.grownBy.refl _ _⟩
  case round =>
    obtain ⟨i, z, rfl, rfl, hi, hg⟩ := hrel
    have HG : Hid (w1.grownBy wr none) := hg
    have HGw : Hid (w.grownBy wr none) := grown_trans HG1.out hg
    have HKr : Hid (Bk wr UB 31 [.slice a1 L k1, .slice a2 D k2]) := HK1.out.grow hg
    have x0 := HKr.out.cell (i := 0) rfl
    clear hg
    by_cases hil : i < L
    case neg =>
      have c1 : ¬ (i : Int) < (L : Int) := by omega
      have c2 : decide ((i : Int) < (L : Int)) = false := decide_eq_false c1
      go_wp2_with fail
      refine bodyPost_ret (by simp [results, Try.results5, go_sem]; try rfl) rfl ?_
      exact ⟨⟨z, rfl⟩, HGw.out⟩
    have c1 : (i : Int) < (L : Int) := by omega
    by_cases hzm : z ≤ most
    case neg =>
      have c3 : decide (z ≤ most) = false := decide_eq_false hzm
      go_wp2_with fail
      refine bodyPost_ret (by simp [results, Try.results5, go_sem]; try rfl) rfl ?_
      exact ⟨⟨z, rfl⟩, HGw.out⟩
    obtain ⟨cb, co, p1, p2, p3, p4, q1, q2, q3, q4, hca, hcb, hC⟩ := (HU.out wr HGw.out).c.num (n := i) (by rw [← HL.out]; exact hil)
    subst hca
    generalize u.codes.getD i Sa.cd0 = c at *
    have y0 := hC.c0
    have y1 := hC.c1
    have y2 := hC.c2
    have y3 := hC.c3
    have HC : Hid (CdR (· < N) wr c p1 p2 p3 p4 q1 q2 q3 q4) := hC.r
    have hUl := HKr.out.lt
    have hcw : cb < wr.heap.size := by have := HGw.out.size; have := HW1.out.2.2; omega
    clear hC
    go_wp2_with fail
    obtain ⟨w4, hw4⟩ : ∃ w4, w4 = wr.alloc (Obj.cells #[.slice p1 c.params.length q1, .slice p2 c.results.length q2, .slice p3 c.values.length q3, .slice p4 c.blocks.length q4] 28) := ⟨_, rfl⟩
    obtain ⟨DB, hDB⟩ : ∃ DB, DB = wr.heap.size := ⟨_, rfl⟩
    have HG4 : Hid (wr.grownBy w4 none) := by rw [hw4]; exact World.grownBy_alloc _ _ _
    have HD4 : Hid (Bk w4 DB 28 [.slice p1 c.params.length q1, .slice p2 c.results.length q2, .slice p3 c.values.length q3, .slice p4 c.blocks.length q4]) := by rw [hw4, hDB]; exact Bk.new _ _ _
    rw [← hw4, ← hDB]
    have hvle := HC.out.values.le
    have hvmx := HC.out.values.max
    have hble := HC.out.blocks.le
    have hbmx := HC.out.blocks.max
    unfold maxLen at hvmx hbmx
    have HVs : Hid (∀ W, wr.grownBy W none → VlL (· < N) W p3 q3 c.values ∧ BlL (· < N) W p4 q4 c.blocks) := fun W g => ⟨HC.out.values.grow g, HC.out.blocks.grow g⟩
    obtain ⟨wo, hwo⟩ : ∃ wo, wo = wr := ⟨_, rfl⟩
    rw [← hwo] at HG4 HVs HG HGw
    have HNo : Hid (N ≤ wo.heap.size) := Nat.le_trans HW1.out.2.2 HGw.out.size
    clear hw4 hDB y0 y1 y2 y3 x0 hUl hcw HKr hwo HC
    go_loopw [5, 8] (fun nv iv wq => ∃ (j : Nat) (z : Int), nv = .int .i64 z ∧ iv = .int .i64 j ∧ j ≤ c.values.length ∧ w4.grownBy wq none) (fun _ iv _ => c.values.length - (intOf iv).toNat)
    case atStart => exact ⟨0, _, rfl, rfl, Nat.zero_le _, World.grownBy.refl _ _⟩
    case round =>
      obtain ⟨j, z5, rfl, rfl, hj, hg⟩ := hrel
      have HG5 : Hid (w4.grownBy wr none) := hg
      have HD5 : Hid (Bk wr DB 28 [.slice p1 c.params.length q1, .slice p2 c.results.length q2, .slice p3 c.values.length q3, .slice p4 c.blocks.length q4]) := HD4.out.grow hg
      have x2 := HD5.out.cell (i := 2) rfl
      have x3 := HD5.out.cell (i := 3) rfl
      clear hg
      by_cases hjl : j < c.values.length ∧ z5 ≤ most
      case pos =>
        obtain ⟨hj2, hz2⟩ := hjl
        have d1 : (j : Int) < (c.values.length : Int) := by omega
        obtain ⟨vb, vo, vq, vc, hva, hvb, hv⟩ := ((HVs.out wr (grown_trans HG4.out HG5.out)).1).num hj2
        subst hva
        have v2 := hv.c2
        clear hv
        go_wp2_with fail
        go_roundw
        case rel => exact ⟨j + 1, _, rfl, by go_num, by omega, HG5.out⟩
        case measure => simp [intOf]; omega
      have hstop : (decide ((j : Int) < (c.values.length : Int)) && decide (z5 ≤ most)) = false := by
        rw [Bool.and_eq_false_iff, decide_eq_false_iff_not, decide_eq_false_iff_not]
        by_cases h9 : (j : Int) < (c.values.length : Int)
        · exact .inr fun h8 => hjl ⟨by omega, h8⟩
        · exact .inl h9
      by_cases hjc : (j : Int) < (c.values.length : Int)
      case neg =>
        have d2 : decide ((j : Int) < (c.values.length : Int)) = false := decide_eq_false hjc
        clear hstop hjl
        go_wp2_with fail
        clear x2 x3
        go_loopw [5, 9] (fun nv iv wq => ∃ (m : Nat) (z : Int), nv = .int .i64 z ∧ iv = .int .i64 m ∧ m ≤ c.blocks.length ∧ w4.grownBy wq none) (fun _ iv _ => c.blocks.length - (intOf iv).toNat)
        case atStart => exact ⟨0, _, rfl, rfl, Nat.zero_le _, HG5.out⟩
        case round =>
          obtain ⟨m, z7, rfl, rfl, hm, hg⟩ := hrel
          have HG7 : Hid (w4.grownBy wr none) := hg
          have HD7 : Hid (Bk wr DB 28 [.slice p1 c.params.length q1, .slice p2 c.results.length q2, .slice p3 c.values.length q3, .slice p4 c.blocks.length q4]) := HD4.out.grow hg
          have x3 := HD7.out.cell (i := 3) rfl
          have hDl := HD7.out.lt
          clear hg
          by_cases hml : m < c.blocks.length
          case neg =>
            have d5 : ¬ (m : Int) < (c.blocks.length : Int) := by omega
            have d6 : decide ((m : Int) < (c.blocks.length : Int)) = false := decide_eq_false d5
            go_wp2_with fail
            go_roundw
            case rel => exact ⟨i + 1, _, rfl, by go_num, by omega, grown_trans HG.out (grown_trans HG4.out HG7.out)⟩
            case measure => simp [intOf]; omega
          have d5 : (m : Int) < (c.blocks.length : Int) := by omega
          by_cases hz7 : z7 ≤ most
          case neg =>
            have d7 : decide (z7 ≤ most) = false := decide_eq_false hz7
            go_wp2_with fail
            go_roundw
            case rel => exact ⟨i + 1, _, rfl, by go_num, by omega, grown_trans HG.out (grown_trans HG4.out HG7.out)⟩
            case measure => simp [intOf]; omega
          obtain ⟨bb, bo, b1, b2, b3, b4, m1, m2, m3, m4, hba, hbN, hbl⟩ := ((HVs.out wr (grown_trans HG4.out HG7.out)).2).num hml
          subst hba
          have y0 := hbl.c0
          have y1 := hbl.c1
          have y2 := hbl.c2
          have y3 := hbl.c3
          have y4 := hbl.c4
          have y5 := hbl.c5
          have hbw : bb < wr.heap.size := by have := (grown_trans HG4.out HG7.out).size; have := HNo.out; omega
          clear hbl
          generalize (c.blocks.getD m Sa.bl0) = bl at *
          go_wp2_with fail
          go_roundw
          case rel => exact ⟨m + 1, _, rfl, by go_num, by omega, grown_trans HG7.out (World.grownBy_alloc _ _ _)⟩
          case measure => simp [intOf]; omega
      have hzc : ¬ z5 ≤ most := fun h8 => hjl ⟨by omega, h8⟩
      have d3 : decide (z5 ≤ most) = false := decide_eq_false hzc
      clear hstop hjl
      go_wp2_with fail
      clear x2 x3
      go_loopw [5, 9] (fun nv iv wq => ∃ (m : Nat) (z : Int), nv = .int .i64 z ∧ iv = .int .i64 m ∧ m ≤ c.blocks.length ∧ w4.grownBy wq none) (fun _ iv _ => c.blocks.length - (intOf iv).toNat)
      case atStart => exact ⟨0, _, rfl, rfl, Nat.zero_le _, HG5.out⟩
      case round =>
        obtain ⟨m, z7, rfl, rfl, hm, hg⟩ := hrel
        have HG7 : Hid (w4.grownBy wr none) := hg
        have HD7 : Hid (Bk wr DB 28 [.slice p1 c.params.length q1, .slice p2 c.results.length q2, .slice p3 c.values.length q3, .slice p4 c.blocks.length q4]) := HD4.out.grow hg
        have x3 := HD7.out.cell (i := 3) rfl
        have hDl := HD7.out.lt
        clear hg
        by_cases hml : m < c.blocks.length
        case neg =>
          have d5 : ¬ (m : Int) < (c.blocks.length : Int) := by omega
          have d6 : decide ((m : Int) < (c.blocks.length : Int)) = false := decide_eq_false d5
          go_wp2_with fail
          go_roundw
          case rel => exact ⟨i + 1, _, rfl, by go_num, by omega, grown_trans HG.out (grown_trans HG4.out HG7.out)⟩
          case measure => simp [intOf]; omega
        have d5 : (m : Int) < (c.blocks.length : Int) := by omega
        by_cases hz7 : z7 ≤ most
        case neg =>
          have d7 : decide (z7 ≤ most) = false := decide_eq_false hz7
          go_wp2_with fail
          go_roundw
          case rel => exact ⟨i + 1, _, rfl, by go_num, by omega, grown_trans HG.out (grown_trans HG4.out HG7.out)⟩
          case measure => simp [intOf]; omega
        obtain ⟨bb, bo, b1, b2, b3, b4, m1, m2, m3, m4, hba, hbN, hbl⟩ := ((HVs.out wr (grown_trans HG4.out HG7.out)).2).num hml
        subst hba
        have y0 := hbl.c0
        have y1 := hbl.c1
        have y2 := hbl.c2
        have y3 := hbl.c3
        have y4 := hbl.c4
        have y5 := hbl.c5
        have hbw : bb < wr.heap.size := by have := (grown_trans HG4.out HG7.out).size; have := HNo.out; omega
        clear hbl
        generalize (c.blocks.getD m Sa.bl0) = bl at *
        go_wp2_with fail
        go_roundw
        case rel => exact ⟨m + 1, _, rfl, by go_num, by omega, grown_trans HG7.out (World.grownBy_alloc _ _ _)⟩
        case measure => simp [intOf]; omega
end Go.Proofs.Ytbpdggdpgohilaa
