/- gantryref13's Flow, where the form is right: it tells something. -/
import Derived.Test.YtbpdggdpgohilaaG14
import Derived.Test.YtbpdggdpgohilaaG15
namespace Go.Proofs.Ytbpdggdpgohilaa
open Go.RowKit
set_option linter.unusedVariables false
set_option maxRecDepth 100000
set_option maxHeartbeats 8000000

theorem flSuccsX {kd : Int} (h : 1 ≤ kd ∧ kd ≤ 4) (w : World) : Calls Try.prog 22 #[.int .i64 kd] w fun r w' => r = .returned (.int .i64 (Sa.exits kd)) ∧ w.grownBy w' none := by
  have h4 : kd = 1 ∨ kd = 2 ∨ kd = 3 ∨ kd = 4 := by omega
  clear h
  rcases h4 with rfl | rfl | rfl | rfl
  · go_enter Try.func22, Try.ntmps22
    go_wp2
    refine bodyPost_ret (by simp [results, Try.results22, go_sem]; try rfl) rfl ?_
    exact ⟨rfl, World.grownBy.refl _ _⟩
  · go_enter Try.func22, Try.ntmps22
    go_wp2
    refine bodyPost_ret (by simp [results, Try.results22, go_sem]; try rfl) rfl ?_
    exact ⟨rfl, World.grownBy.refl _ _⟩
  · go_enter Try.func22, Try.ntmps22
    go_wp2
    refine bodyPost_ret (by simp [results, Try.results22, go_sem]; try rfl) rfl ?_
    exact ⟨rfl, World.grownBy.refl _ _⟩
  · go_enter Try.func22, Try.ntmps22
    go_wp2
    refine bodyPost_ret (by simp [results, Try.results22, go_sem]; try rfl) rfl ?_
    exact ⟨rfl, World.grownBy.refl _ _⟩
theorem BlL.at0 {B : Nat → Prop} {w : World} {bb bo k : Nat} {l : List Sa.Bl} (h : BlL B w (some ⟨bb, bo, none⟩) k l) {n : Nat} (hn : n < l.length) : ∃ a1 a2 a3 a4 k1 k2 k3 k4, B bb ∧ BlC B w bb (bo + n * 6) (l.getD n Sa.bl0) a1 a2 a3 a4 k1 k2 k3 k4 := by
  obtain ⟨b, o, a1, a2, a3, a4, k1, k2, k3, k4, e, hb, hc⟩ := h.num hn
  injection e with e
  injection e with e1 e2
  subst e1 e2
  exact ⟨a1, a2, a3, a4, k1, k2, k3, k4, hb, hc⟩
theorem flFlow_any {N : Nat} {w : World} {bs : List Sa.Bl} {v1 v2 v3 : Value} {a : Option Addr} {k : Nat} (h : BlL (· < N) w a k bs) (hN : N ≤ w.heap.size) (hw : Sa.waysB bs = true) : Calls Try.prog 9 #[.agg #[v1, v2, v3, .slice a bs.length k]] w fun r w' => (∃ z, r = .returned (.int .i64 z)) ∧ w.grownBy w' none := by
  obtain ⟨h0, h4, hwa⟩ := Sa.waysB_iff hw
  obtain ⟨bb, bo, b1, b2, b3, b4, m1, m2, m3, m4, hba, hbN, hbl⟩ := h.num h0
  subst hba
  have HWa : Hid (∀ i : Nat, i < bs.length → Sa.wayB bs (bs.getD i Sa.bl0) = true) := hwa
  have HLd : Hid (Sa.Leads bs) := Sa.leads hw
  have HB : Hid (∀ W, w.grownBy W none → BlL (· < N) W (some ⟨bb, bo, none⟩) k bs) := fun W g => h.grow g
  have HN : Hid (N ≤ w.heap.size) := hN
  obtain ⟨w1, hw1⟩ : ∃ w1, w1 = w.alloc (Obj.cells #[v1, v2, v3, .slice (some ⟨bb, bo, none⟩) bs.length k] 28) := ⟨_, rfl⟩
  obtain ⟨CB, hCB⟩ : ∃ CB, CB = w.heap.size := ⟨_, rfl⟩
  have HG1 : Hid (w.grownBy w1 none) := by rw [hw1]; exact World.grownBy_alloc _ _ _
  have HK1 : Hid (Bk w1 CB 28 [v1, v2, v3, .slice (some ⟨bb, bo, none⟩) bs.length k]) := by rw [hw1, hCB]; exact Bk.new _ _ _
  have HFo : Hid (Calls Try.prog 21 #[.agg #[v1, v2, v3, .slice (some ⟨bb, bo, none⟩) bs.length k]] w1 fun r w' => r = .returned (.bool true) ∧ w1.grownBy w' none) := flForm_any (HB.out w1 HG1.out) (by have := HG1.out.size; have := HN.out; omega) hw
  have x0 := HK1.out.cell (i := 0) rfl
  have x1 := HK1.out.cell (i := 1) rfl
  have x2 := HK1.out.cell (i := 2) rfl
  have x3 := HK1.out.cell (i := 3) rfl
  rw [hw1] at HFo
  rw [hw1, hCB] at x0 x1 x2 x3
  have HW1 : Hid (w1 = w.alloc (Obj.cells #[v1, v2, v3, .slice (some ⟨bb, bo, none⟩) bs.length k] 28) ∧ CB = w.heap.size) := ⟨hw1, hCB⟩
  obtain ⟨x, hx⟩ : ∃ x, x = bs.getD 0 Sa.bl0 := ⟨_, rfl⟩
  rw [← hx, Nat.zero_mul, Nat.add_zero] at hbl
  have HC : Hid (∀ W, w1.grownBy W none → (W.cell? ⟨w.heap.size, 0, none⟩ = some v1 ∧ W.cell? ⟨w.heap.size, 1, none⟩ = some v2 ∧ W.cell? ⟨w.heap.size, 2, none⟩ = some v3 ∧ W.cell? ⟨w.heap.size, 3, none⟩ = some (.slice (some ⟨bb, bo, none⟩) bs.length k)) ∧ (W.cell? ⟨bb, bo, none⟩ = some (.int .i64 x.kind) ∧ W.cell? ⟨bb, bo + 1, none⟩ = some (.int .i64 x.n) ∧ W.cell? ⟨bb, bo + 2, none⟩ = some (.slice b1 x.args.length m1) ∧ W.cell? ⟨bb, bo + 3, none⟩ = some (.slice b2 x.preds.length m2) ∧ W.cell? ⟨bb, bo + 4, none⟩ = some (.slice b3 x.succs.length m3) ∧ W.cell? ⟨bb, bo + 5, none⟩ = some (.slice b4 x.list.length m4))) := fun W g => by
    have h1 := HK1.out.grow g
    have g2 := grown_trans HG1.out g
    rw [hCB] at h1
    exact ⟨⟨h1.cell (i := 0) rfl, h1.cell (i := 1) rfl, h1.cell (i := 2) rfl, h1.cell (i := 3) rfl⟩, g2.cell hbl.c0 (by simp), g2.cell hbl.c1 (by simp), g2.cell hbl.c2 (by simp), g2.cell hbl.c3 (by simp), g2.cell hbl.c4 (by simp), g2.cell hbl.c5 (by simp)⟩
  have hpmx := hbl.preds.max
  have hple := hbl.preds.le
  unfold maxLen at hpmx
  have hbw : bb < w.heap.size := by omega
  have hbw1 : ∀ W, w1.grownBy W none → bb < W.heap.size ∧ w.heap.size < W.heap.size := fun W g => by
    have h1 := g.size
    have h2 := HK1.out.lt
    rw [hCB] at h2
    omega
  have HBw : Hid (∀ W, w1.grownBy W none → bb < W.heap.size ∧ w.heap.size < W.heap.size) := hbw1
  have HHo : Hid (∀ W, Calls Try.prog 11 #[.agg #[.int .i64 x.kind, .int .i64 x.n, .slice b1 x.args.length m1, .slice b2 x.preds.length m2, .slice b3 x.succs.length m3, .slice b4 x.list.length m4]] W fun r w' => r = .returned (.bool (x.kind == 0)) ∧ W.grownBy w' none) := fun W => flHole_any _ _ _ _ _ _ W
  have h0I : (0 : Int) < (bs.length : Int) := by omega
  have h0n : ¬ bs.length = 0 := by omega
  have h0e : ¬ bs = [] := by intro e; rw [e] at h0; simp at h0
  clear h hN hw hwa hbl hw1 hCB hbN hx hbw1
  by_cases hk0 : x.kind = 0
  · have hk0b : (x.kind == 0) = true := by simpa using hk0
    rw [hk0b] at HHo
    clear hk0 hk0b
    go_enter Try.func9, Try.ntmps9
    go_wp2_with fail
    refine HFo.out.mono ?_
    rintro e w2 ⟨rfl, g2⟩
    have HG2 : Hid (w1.grownBy w2 none) := by rw [HW1.out.1]; exact g2
    obtain ⟨⟨q0, q1, q2, q3⟩, y0, y1, y2, y3, y4, y5⟩ := HC.out w2 HG2.out
    obtain ⟨l1, l2⟩ := HBw.out w2 HG2.out
    clear g2 x0 x1 x2 x3
    go_wp2_with fail
    refine (HHo.out _).mono ?_
    rintro e w3 ⟨rfl, g3⟩
    have HG3 : Hid (w1.grownBy w3 none) := grown_trans HG2.out g3
    clear g3 q0 q1 q2 q3 y0 y1 y2 y3 y4 y5
    go_wp2_with fail
    refine bodyPost_ret (by simp [results, Try.results9, go_sem]; try rfl) rfl ?_
    exact ⟨⟨_, rfl⟩, grown_trans HG1.out HG3.out⟩
  have hk0b : (x.kind == 0) = false := by simpa using hk0
  rw [hk0b] at HHo
  by_cases hp0 : 0 < x.preds.length
  · have hpI : (0 : Int) < (x.preds.length : Int) := by omega
    have hpe : ¬ x.preds = [] := by intro e; rw [e] at hp0; simp at hp0
    go_enter Try.func9, Try.ntmps9
    go_wp2_with fail
    refine HFo.out.mono ?_
    rintro e w2 ⟨rfl, g2⟩
    have HG2 : Hid (w1.grownBy w2 none) := by rw [HW1.out.1]; exact g2
    obtain ⟨⟨q0, q1, q2, q3⟩, y0, y1, y2, y3, y4, y5⟩ := HC.out w2 HG2.out
    obtain ⟨l1, l2⟩ := HBw.out w2 HG2.out
    clear g2 x0 x1 x2 x3
    go_wp2_with fail
    refine (HHo.out _).mono ?_
    rintro e w3 ⟨rfl, g3⟩
    have HG3 : Hid (w1.grownBy w3 none) := grown_trans HG2.out g3
    clear g3 q0 q1 q2 q3 y0 y1 y2 y3 y4 y5
    obtain ⟨⟨q0, q1, q2, q3⟩, y0, y1, y2, y3, y4, y5⟩ := HC.out w3 HG3.out
    go_wp2_with fail
    refine bodyPost_ret (by simp [results, Try.results9, go_sem]; try rfl) rfl ?_
    exact ⟨⟨_, rfl⟩, grown_trans HG1.out HG3.out⟩
  have HP0 : Hid (x.preds.length = 0) := show x.preds.length = 0 by omega
  clear hp0 hk0 hk0b
  go_enter Try.func9, Try.ntmps9
  go_wp2_with fail
  refine HFo.out.mono ?_
  rintro e w2 ⟨rfl, g2⟩
  have HG2 : Hid (w1.grownBy w2 none) := by rw [HW1.out.1]; exact g2
  obtain ⟨⟨q0, q1, q2, q3⟩, y0, y1, y2, y3, y4, y5⟩ := HC.out w2 HG2.out
  obtain ⟨l1, l2⟩ := HBw.out w2 HG2.out
  clear g2 x0 x1 x2 x3
  go_wp2_with fail
  refine (HHo.out _).mono ?_
  rintro e w3 ⟨rfl, g3⟩
  have HG3 : Hid (w1.grownBy w3 none) := grown_trans HG2.out g3
  clear g3 q0 q1 q2 q3 y0 y1 y2 y3 y4 y5
  obtain ⟨⟨q0, q1, q2, q3⟩, y0, y1, y2, y3, y4, y5⟩ := HC.out w3 HG3.out
  rw [HP0.out] at y3
  go_wp2_with fail
  rw [← HW1.out.2]
  clear q0 q1 q2 q3 y0 y1 y2 y3 y4 y5 HC HHo HFo HP0 hpmx hple l1 l2 HG2 HBw
  go_loopw [3] (fun iv wr => ∃ (i : Nat), iv = .int .i64 i ∧ i ≤ bs.length ∧ w1.grownBy wr none) (fun iv _ => bs.length - (intOf iv).toNat)
  case atStart => exact ⟨0, rfl, Nat.zero_le _, HG3.out⟩
  case round =>
    obtain ⟨i, rfl, hi, hg⟩ := hrel
    have HG : Hid (w1.grownBy wr none) := hg
    have HGw : Hid (w.grownBy wr none) := grown_trans HG1.out hg
    have HKr : Hid (Bk wr CB 28 [v1, v2, v3, .slice (some ⟨bb, bo, none⟩) bs.length k]) := HK1.out.grow hg
    have q0 := HKr.out.cell (i := 0) rfl
    have q1 := HKr.out.cell (i := 1) rfl
    have q2 := HKr.out.cell (i := 2) rfl
    have q3 := HKr.out.cell (i := 3) rfl
    have hCl := HKr.out.lt
    have hNr : N ≤ wr.heap.size := by have := HGw.out.size; have := HN.out; omega
    clear hg
    by_cases hil : i < bs.length
    case neg =>
      have c1 : ¬ (i : Int) < (bs.length : Int) := by omega
      have c2 : decide ((i : Int) < (bs.length : Int)) = false := decide_eq_false c1
      have HRe : Hid (Calls Try.prog 12 #[.agg #[v1, v2, v3, .slice (some ⟨bb, bo, none⟩) bs.length k], .int .i64 (-1)] wr fun r w' => ∃ T L, r = .returned (.slice (some ⟨T, 0, none⟩) bs.length bs.length) ∧ OwnF w' wr.heap.size (.slice (some ⟨T, 0, none⟩) bs.length bs.length) bs.length L ∧ wr.grownBy w' none) := flReached_any hNr (HB.out wr HGw.out) HLd.out h4 h0
      go_wp2_with fail
      refine HRe.out.mono ?_
      rintro e w5 ⟨T, L, rfl, ho, g5⟩
      have HO : Hid (OwnF w5 wr.heap.size (.slice (some ⟨T, 0, none⟩) bs.length bs.length) bs.length L) := ho
      have HG5 : Hid (w1.grownBy w5 none) := grown_trans HG.out g5
      clear g5 ho q0 q1 q2 q3 HRe c1 c2 hCl HKr
      go_wp2_with fail
      go_loopw [8] (fun iv wq => ∃ (j : Nat), iv = .int .i64 j ∧ j ≤ bs.length ∧ w5.grownBy wq none) (fun iv _ => bs.length - (intOf iv).toNat)
      case atStart => exact ⟨0, rfl, Nat.zero_le _, World.grownBy.refl _ _⟩
      case round =>
        obtain ⟨j, rfl, hj, hg⟩ := hrel
        have HG7 : Hid (w5.grownBy wr none) := hg
        have HGx : Hid (w1.grownBy wr none) := grown_trans HG5.out hg
        have q3 := (HK1.out.grow HGx.out).cell (i := 3) rfl
        have hCl := (HK1.out.grow HGx.out).lt
        clear hg
        by_cases hjl : j < bs.length
        case neg =>
          have c1 : ¬ (j : Int) < (bs.length : Int) := by omega
          have c2 : decide ((j : Int) < (bs.length : Int)) = false := decide_eq_false c1
          go_wp2_with fail
          refine bodyPost_ret (by simp [results, Try.results9, go_sem]; try rfl) rfl ?_
          exact ⟨⟨_, rfl⟩, grown_trans HG1.out HGx.out⟩
        have c1 : (j : Int) < (bs.length : Int) := by omega
        obtain ⟨b1, b2, b3, b4, m1, m2, m3, m4, hbN, hbl⟩ := (HB.out wr (grown_trans HG1.out HGx.out)).at0 hjl
        generalize bs.getD j Sa.bl0 = x at *
        have y0 := hbl.c0
        have y1 := hbl.c1
        have y2 := hbl.c2
        have y3 := hbl.c3
        have y4 := hbl.c4
        have y5 := hbl.c5
        have hbw : bb < wr.heap.size := by have := HN.out; have := (grown_trans HG1.out HGx.out).size; omega
        have HHo : Hid (∀ W, Calls Try.prog 11 #[.agg #[.int .i64 x.kind, .int .i64 x.n, .slice b1 x.args.length m1, .slice b2 x.preds.length m2, .slice b3 x.succs.length m3, .slice b4 x.list.length m4]] W fun r w' => r = .returned (.bool (x.kind == 0)) ∧ W.grownBy w' none) := fun W => flHole_any _ _ _ _ _ _ W
        clear hbl
        cases hk0 : (x.kind == 0) with
        | true =>
          rw [hk0] at HHo
          clear hk0
          go_wp2_with fail
          refine (HHo.out _).mono ?_
          rintro e w8 ⟨rfl, g8⟩
          have HG8 : Hid (w5.grownBy w8 none) := grown_trans HG7.out g8
          clear g8 q3 y0 y1 y2 y3 y4 y5
          go_wp2_with fail
          go_roundw
          case rel => exact ⟨j + 1, by go_num, by omega, HG8.out⟩
          case measure => simp [intOf]; omega
        | false =>
          rw [hk0] at HHo
          clear hk0
          go_wp2_with fail
          refine (HHo.out _).mono ?_
          rintro e w8 ⟨rfl, g8⟩
          have HG8 : Hid (w5.grownBy w8 none) := grown_trans HG7.out g8
          have f8 := (HO.out.grow HG8.out).cell hjl
          clear g8 q3 y0 y1 y2 y3 y4 y5
          cases hL : L j with
          | true =>
            rw [hL] at f8
            go_wp2_with fail
            go_roundw
            case rel => exact ⟨j + 1, by go_num, by omega, HG8.out⟩
            case measure => simp [intOf]; omega
          | false =>
            rw [hL] at f8
            go_wp2_with fail
            refine bodyPost_ret (by simp [results, Try.results9, go_sem]; try rfl) rfl ?_
            exact ⟨⟨_, rfl⟩, grown_trans HG1.out (grown_trans HG5.out HG8.out)⟩
    have c1 : (i : Int) < (bs.length : Int) := by omega
    obtain ⟨b1, b2, b3, b4, m1, m2, m3, m4, hbN, hbl⟩ := (HB.out wr HGw.out).at0 hil
    have hway := HWa.out i hil
    generalize bs.getD i Sa.bl0 = x at *
    have y0 := hbl.c0
    have y1 := hbl.c1
    have y2 := hbl.c2
    have y3 := hbl.c3
    have y4 := hbl.c4
    have y5 := hbl.c5
    have hbw : bb < wr.heap.size := by omega
    obtain ⟨k0, k4, hpr, hsu⟩ := Sa.wayB_iff hway
    have HPS : Hid ((∀ z, z ∈ x.preds → 0 ≤ z ∧ z < (bs.length : Int)) ∧ (∀ z, z ∈ x.succs → 0 ≤ z ∧ z < (bs.length : Int))) := ⟨fun z hz => ⟨(hpr z hz).1, (hpr z hz).2.1⟩, hsu⟩
    have HHo : Hid (∀ W, Calls Try.prog 11 #[.agg #[.int .i64 x.kind, .int .i64 x.n, .slice b1 x.args.length m1, .slice b2 x.preds.length m2, .slice b3 x.succs.length m3, .slice b4 x.list.length m4]] W fun r w' => r = .returned (.bool (x.kind == 0)) ∧ W.grownBy w' none) := fun W => flHole_any _ _ _ _ _ _ W
    have HNm : Hid (∀ W, wr.grownBy W none → NumL (· < N) W b2 m2 x.preds ∧ NumL (· < N) W b3 m3 x.succs) := fun W g => ⟨hbl.preds.grow1 g, hbl.succs.grow1 g⟩
    have hsle := hbl.succs.le
    have hsmx := hbl.succs.max
    have hple := hbl.preds.le
    have hpmx := hbl.preds.max
    unfold maxLen at hsmx hpmx
    obtain ⟨w4, hw4⟩ : ∃ w4, w4 = wr.alloc (Obj.cells #[.int .i64 x.kind, .int .i64 x.n, .slice b1 x.args.length m1, .slice b2 x.preds.length m2, .slice b3 x.succs.length m3, .slice b4 x.list.length m4] 41) := ⟨_, rfl⟩
    obtain ⟨DB, hDB⟩ : ∃ DB, DB = wr.heap.size := ⟨_, rfl⟩
    have HG4 : Hid (wr.grownBy w4 none) := by rw [hw4]; exact World.grownBy_alloc _ _ _
    have HD4 : Hid (Bk w4 DB 41 [.int .i64 x.kind, .int .i64 x.n, .slice b1 x.args.length m1, .slice b2 x.preds.length m2, .slice b3 x.succs.length m3, .slice b4 x.list.length m4]) := by rw [hw4, hDB]; exact Bk.new _ _ _
    have HW4 : Hid (w4 = wr.alloc (Obj.cells #[.int .i64 x.kind, .int .i64 x.n, .slice b1 x.args.length m1, .slice b2 x.preds.length m2, .slice b3 x.succs.length m3, .slice b4 x.list.length m4] 41) ∧ DB = wr.heap.size) := ⟨hw4, hDB⟩
    clear hbl hway hpr hsu hw4 hDB
    by_cases hk0 : x.kind = 0
    · have hk0b : (x.kind == 0) = true := by simpa using hk0
      rw [hk0b] at HHo
      clear hk0 hk0b
      go_wp2_with fail
      refine (HHo.out _).mono ?_
      rintro e w5 ⟨rfl, g5⟩
      have HG5 : Hid (wr.grownBy w5 none) := grown_trans HG4.out (by rw [HW4.out.1]; exact g5)
      clear g5 q0 q1 q2 q3 y0 y1 y2 y3 y4 y5
      go_wp2_with fail
      go_roundw
      case rel => exact ⟨i + 1, by go_num, by omega, grown_trans HG.out HG5.out⟩
      case measure => simp [intOf]; omega
    have hk0b : (x.kind == 0) = false := by simpa using hk0
    rw [hk0b] at HHo
    have HSc : ∀ W, Calls Try.prog 22 #[.int .i64 x.kind] W fun r w' => r = .returned (.int .i64 (Sa.exits x.kind)) ∧ W.grownBy w' none := fun W => flSuccsX ⟨by omega, k4⟩ W
    have HScH : Hid (∀ W, Calls Try.prog 22 #[.int .i64 x.kind] W fun r w' => r = .returned (.int .i64 (Sa.exits x.kind)) ∧ W.grownBy w' none) := HSc
    clear hk0 hk0b k0 k4 HSc
    go_wp2_with fail
    refine (HHo.out _).mono ?_
    rintro e w5 ⟨rfl, g5⟩
    have HG5 : Hid (w4.grownBy w5 none) := by rw [HW4.out.1]; exact g5
    rw [← HW4.out.2]
    clear g5 q0 q1 q2 q3 y0 y1 y2 y3 y4 y5
    have HBk : Hid (∀ W, w5.grownBy W none → W.cell? ⟨DB, 0, none⟩ = some (.int .i64 x.kind) ∧ W.cell? ⟨DB, 4, none⟩ = some (.slice b3 x.succs.length m3)) := fun W g => by
      have h1 := HD4.out.grow (grown_trans HG5.out g)
      exact ⟨h1.cell (i := 0) rfl, h1.cell (i := 4) rfl⟩
    obtain ⟨ex, hex⟩ : ∃ ex, ex = Sa.exits x.kind := ⟨_, rfl⟩
    rw [← hex] at HScH
    have HSc : ∀ W, w5.grownBy W none → Calls Try.prog 22 #[.int .i64 x.kind] W fun r w' => r = .returned (.int .i64 (ex : Int)) ∧ W.grownBy w' none := fun W _ => HScH.out W
    clear hex
    go_wp2_with fail
    refine region_lga 7 (World.grownBy.refl _ _) (by kernel_rfl) (by kernel_rfl) (by kernel_rfl) (by kernel_rfl) ?_
    repeat (first
      | (refine lx_end fun W0 G0 => ?_)
      | (refine lx_no ?_ ?_ ?_; (· simp [Region.wanted]; done); (· kernel_rfl); simp only [Act.put, List.setIfInBounds_toArray, List.set_cons_succ, List.set_cons_zero])
      | (refine lx_val (v := ?_) ?_ ?_ ?_ ?_; rotate_left; (· kernel_rfl); (· exact ⟨by kernel_rfl, rfl⟩); (· intro W g; simp [go_sem, (HBk.out W g).1, (HBk.out W g).2]; rfl); simp only [Act.put, List.setIfInBounds_toArray, List.set_cons_succ, List.set_cons_zero])
      | (refine lx_callg HSc ?_ ?_ ?_ ?_; (· kernel_rfl); (· exact ⟨by kernel_rfl, rfl⟩); (· intro W g; simp [go_sem]; done); simp only [Act.put, List.setIfInBounds_toArray, List.set_cons_succ, List.set_cons_zero]))
    clear HBk HSc HScH
    have HG6 : Hid (w4.grownBy W0 none) := grown_trans HG5.out G0
    clear G0 HG5 HHo
    by_cases hse : (x.succs.length : Int) = (ex : Int)
    case neg =>
      have he1 : ((x.succs.length : Int) == (ex : Int)) = false := by simpa using hse
      have he2 : ¬ x.succs.length = ex := by omega
      have he3 : ((x.succs.length : Int) != (ex : Int)) = true := by simpa using hse
      go_wp2_with fail
      refine bodyPost_ret (by simp [results, Try.results9, go_sem]; try rfl) rfl ?_
      exact ⟨⟨_, rfl⟩, grown_trans HGw.out (grown_trans HG4.out HG6.out)⟩
    obtain rfl : x.succs.length = ex := by omega
    clear hse
    have HCx : Hid (∀ W, w4.grownBy W none → (W.cell? ⟨DB, 4, none⟩ = some (.slice b3 x.succs.length m3) ∧ W.cell? ⟨DB, 3, none⟩ = some (.slice b2 x.preds.length m2) ∧ W.cell? ⟨CB, 3, none⟩ = some (.slice (some ⟨bb, bo, none⟩) bs.length k)) ∧ DB < W.heap.size ∧ CB < W.heap.size ∧ bb < W.heap.size) := fun W g => by
      have h1 := HD4.out.grow g
      have h2 := HK1.out.grow (grown_trans HG.out (grown_trans HG4.out g))
      have h3 := (grown_trans HG4.out g).size
      exact ⟨⟨h1.cell (i := 4) rfl, h1.cell (i := 3) rfl, h2.cell (i := 3) rfl⟩, h1.lt, h2.lt, by omega⟩
    have HBx : Hid (∀ W, w4.grownBy W none → BlL (· < N) W (some ⟨bb, bo, none⟩) k bs) := fun W g => HB.out W (grown_trans HGw.out (grown_trans HG4.out g))
    have HNx : Hid (∀ W, w4.grownBy W none → NumL (· < N) W b2 m2 x.preds ∧ NumL (· < N) W b3 m3 x.succs) := fun W g => HNm.out W (grown_trans HG4.out g)
    have HGo : Hid (∀ W, w4.grownBy W none → w1.grownBy W none) := fun W g => grown_trans HG.out (grown_trans HG4.out g)
    clear HNm HD4 HKr HGw HG HG4 HW4 hCl hNr hbw
    go_wp2_with fail
    go_loopw [5] (fun kv wq => ∃ (j : Nat), kv = .int .i64 j ∧ j ≤ x.succs.length ∧ w4.grownBy wq none) (fun kv _ => x.succs.length - (intOf kv).toNat)
    case atStart => exact ⟨0, rfl, Nat.zero_le _, HG6.out⟩
    case round =>
      obtain ⟨j, rfl, hj, hg⟩ := hrel
      have HG7 : Hid (w4.grownBy wr none) := hg
      obtain ⟨⟨z4, z3, q3⟩, l1, l2, l3⟩ := HCx.out wr hg
      clear hg HG6
      by_cases hjl : j < x.succs.length
      case neg =>
        have d1 : ¬ (j : Int) < (x.succs.length : Int) := by omega
        have d2 : decide ((j : Int) < (x.succs.length : Int)) = false := decide_eq_false d1
        go_wp2_with fail
        clear d1 d2 z4 z3 q3 l1 l2 l3
        go_loopw [6] (fun kv wq => ∃ (e : Nat), kv = .int .i64 e ∧ e ≤ x.preds.length ∧ w4.grownBy wq none) (fun kv _ => x.preds.length - (intOf kv).toNat)
        case atStart => exact ⟨0, rfl, Nat.zero_le _, HG7.out⟩
        case round =>
          obtain ⟨e, rfl, he, hg⟩ := hrel
          have HG8 : Hid (w4.grownBy wr none) := hg
          obtain ⟨⟨z4, z3, q3⟩, l1, l2, l3⟩ := HCx.out wr hg
          clear hg
          by_cases hel : e < x.preds.length
          case neg =>
            have d1 : ¬ (e : Int) < (x.preds.length : Int) := by omega
            have d2 : decide ((e : Int) < (x.preds.length : Int)) = false := decide_eq_false d1
            go_wp2_with fail
            go_roundw
            case rel => exact ⟨i + 1, by go_num, by omega, HGo.out wr HG8.out⟩
            case measure => simp [intOf]; omega
          have d1 : (e : Int) < (x.preds.length : Int) := by omega
          obtain ⟨sb, so, hsb, _, hz⟩ := ((HNx.out wr HG8.out).1).at hel
          unfold NumQ at hz
          rw [Nat.mul_one] at hz
          obtain ⟨y, hy⟩ : ∃ y : Nat, x.preds[e] = (y : Int) := ⟨(x.preds[e]).toNat, by have := HPS.out.1 _ (List.getElem_mem hel); omega⟩
          have hyb : y < bs.length := by have := HPS.out.1 _ (List.getElem_mem hel); omega
          have hyI : (y : Int) < (bs.length : Int) := by omega
          have n4 : ¬ (bs.length : Int) ≤ (y : Int) := by omega
          have n6 : ¬ bs.length ≤ y := by omega
          have d3 : ¬ (x.preds.length : Int) ≤ (e : Int) := by omega
          have d4 : ¬ x.preds.length ≤ e := by omega
          rw [hy] at hz
          obtain ⟨t1, t2, t3, t4, n1, n2, n3, n5, htN, htl⟩ := (HBx.out wr HG8.out).at0 hyb
          generalize bs.getD y Sa.bl0 = t at *
          have HBk : Hid (∀ W, wr.grownBy W none → W.cell? ⟨CB, 3, none⟩ = some (.slice (some ⟨bb, bo, none⟩) bs.length k) ∧ W.cell? ⟨DB, 3, none⟩ = some (.slice (some ⟨sb, so, none⟩) x.preds.length m2) ∧ W.cell? ⟨sb, so + e, none⟩ = some (.int .i64 (y : Int)) ∧ W.cell? ⟨bb, bo + y * 6 + 4, none⟩ = some (.slice t3 t.succs.length n3)) := fun W g => ⟨g.cell q3 (by simp), by rw [← hsb]; exact g.cell z3 (by simp), g.cell hz (by simp), g.cell htl.c4 (by simp)⟩
          have HCt : ∀ W, wr.grownBy W none → Calls Try.prog 23 #[.slice t3 t.succs.length n3, .int .i64 (i : Int)] W fun r w' => r = .returned (.int .i64 (cntZ t.succs i t.succs.length)) ∧ W.grownBy w' none := fun W g => flCountX (htl.succs.grow1 g) _
          generalize cntZ t.succs (i : Int) t.succs.length = z7 at *
          clear hy hz htl z4 hsb
          go_wp2_with fail
          refine region_lga 13 (World.grownBy.refl _ _) (by kernel_rfl) (by kernel_rfl) (by kernel_rfl) (by kernel_rfl) ?_
          repeat (first
            | (refine lx_end fun W0 G0 => ?_)
            | (refine lx_no ?_ ?_ ?_; (· simp [Region.wanted]; done); (· kernel_rfl); simp only [Act.put, List.setIfInBounds_toArray, List.set_cons_succ, List.set_cons_zero])
            | (refine lx_val (v := ?_) ?_ ?_ ?_ ?_; rotate_left; (· kernel_rfl); (· exact ⟨by kernel_rfl, rfl⟩); (· intro W g; simp [go_sem, (HBk.out W g).1, (HBk.out W g).2.1, (HBk.out W g).2.2.1, (HBk.out W g).2.2.2, d1, hyI]; rfl); simp only [Act.put, List.setIfInBounds_toArray, List.set_cons_succ, List.set_cons_zero])
            | (refine lx_callg HCt ?_ ?_ ?_ ?_; (· kernel_rfl); (· exact ⟨by kernel_rfl, rfl⟩); (· intro W g; simp [go_sem]; done); simp only [Act.put, List.setIfInBounds_toArray, List.set_cons_succ, List.set_cons_zero]))
          clear HBk HCt
          have HG9 : Hid (w4.grownBy W0 none) := grown_trans HG8.out G0
          clear G0
          by_cases hz7 : z7 = 0
          · subst hz7
            go_wp2_with fail
            refine bodyPost_ret (by simp [results, Try.results9, go_sem]; try rfl) rfl ?_
            exact ⟨⟨_, rfl⟩, grown_trans HG1.out (HGo.out _ HG9.out)⟩
          · have u1 : ((z7 : Int) == 0) = false := by simpa using hz7
            have u2 : ¬ (z7 : Int) = 0 := by omega
            go_wp2_with fail
            go_roundw
            case rel => exact ⟨e + 1, by go_num, by omega, HG9.out⟩
            case measure => simp [intOf]; omega
      have d1 : (j : Int) < (x.succs.length : Int) := by omega
      obtain ⟨sb, so, hsb, _, hz⟩ := ((HNx.out wr HG7.out).2).at hjl
      unfold NumQ at hz
      rw [Nat.mul_one] at hz
      obtain ⟨y, hy⟩ : ∃ y : Nat, x.succs[j] = (y : Int) := ⟨(x.succs[j]).toNat, by have := HPS.out.2 _ (List.getElem_mem hjl); omega⟩
      have hyb : y < bs.length := by have := HPS.out.2 _ (List.getElem_mem hjl); omega
      have hyI : (y : Int) < (bs.length : Int) := by omega
      have n4 : ¬ (bs.length : Int) ≤ (y : Int) := by omega
      have n6 : ¬ bs.length ≤ y := by omega
      have d3 : ¬ (x.succs.length : Int) ≤ (j : Int) := by omega
      have d4 : ¬ x.succs.length ≤ j := by omega
      rw [hy] at hz
      obtain ⟨t1, t2, t3, t4, n1, n2, n3, n5, htN, htl⟩ := (HBx.out wr HG7.out).at0 hyb
      generalize bs.getD y Sa.bl0 = t at *
      have HBk : Hid (∀ W, wr.grownBy W none → W.cell? ⟨CB, 3, none⟩ = some (.slice (some ⟨bb, bo, none⟩) bs.length k) ∧ W.cell? ⟨DB, 4, none⟩ = some (.slice (some ⟨sb, so, none⟩) x.succs.length m3) ∧ W.cell? ⟨sb, so + j, none⟩ = some (.int .i64 (y : Int)) ∧ W.cell? ⟨bb, bo + y * 6 + 3, none⟩ = some (.slice t2 t.preds.length n2)) := fun W g => ⟨g.cell q3 (by simp), by rw [← hsb]; exact g.cell z4 (by simp), g.cell hz (by simp), g.cell htl.c3 (by simp)⟩
      have HCt : ∀ W, wr.grownBy W none → Calls Try.prog 23 #[.slice t2 t.preds.length n2, .int .i64 (i : Int)] W fun r w' => r = .returned (.int .i64 (cntZ t.preds i t.preds.length)) ∧ W.grownBy w' none := fun W g => flCountX (htl.preds.grow1 g) _
      have HCs : ∀ W, wr.grownBy W none → Calls Try.prog 23 #[.slice (some ⟨sb, so, none⟩) x.succs.length m3, .int .i64 (y : Int)] W fun r w' => r = .returned (.int .i64 (cntZ x.succs y x.succs.length)) ∧ W.grownBy w' none := fun W g => flCountX (by rw [← hsb]; exact ((HNx.out W (grown_trans HG7.out g)).2)) _
      generalize cntZ t.preds (i : Int) t.preds.length = z7 at *
      generalize cntZ x.succs (y : Int) x.succs.length = z8 at *
      clear hy hz htl z3 hsb
      go_wp2_with fail
      refine region_lga 21 (World.grownBy.refl _ _) (by kernel_rfl) (by kernel_rfl) (by kernel_rfl) (by kernel_rfl) ?_
      repeat (first
        | (refine lx_end fun W0 G0 => ?_)
        | (refine lx_no ?_ ?_ ?_; (· simp [Region.wanted]; done); (· kernel_rfl); simp only [Act.put, List.setIfInBounds_toArray, List.set_cons_succ, List.set_cons_zero])
        | (refine lx_val (v := ?_) ?_ ?_ ?_ ?_; rotate_left; (· kernel_rfl); (· exact ⟨by kernel_rfl, rfl⟩); (· intro W g; simp [go_sem, (HBk.out W g).1, (HBk.out W g).2.1, (HBk.out W g).2.2.1, (HBk.out W g).2.2.2, d1, hyI]; rfl); simp only [Act.put, List.setIfInBounds_toArray, List.set_cons_succ, List.set_cons_zero])
        | (refine lx_callg HCt ?_ ?_ ?_ ?_; (· kernel_rfl); (· exact ⟨by kernel_rfl, rfl⟩); (· intro W g; simp [go_sem]; done); simp only [Act.put, List.setIfInBounds_toArray, List.set_cons_succ, List.set_cons_zero])
        | (refine lx_callg HCs ?_ ?_ ?_ ?_; (· kernel_rfl); (· exact ⟨by kernel_rfl, rfl⟩); (· intro W g; simp [go_sem]; done); simp only [Act.put, List.setIfInBounds_toArray, List.set_cons_succ, List.set_cons_zero]))
      clear HBk HCt HCs
      have HG9 : Hid (w4.grownBy W0 none) := grown_trans HG7.out G0
      clear G0
      by_cases hz7 : z7 = z8
      · subst hz7
        go_wp2_with fail
        go_roundw
        case rel => exact ⟨j + 1, by go_num, by omega, HG9.out⟩
        case measure => simp [intOf]; omega
      · have u1 : ((z7 : Int) == (z8 : Int)) = false := by simp; omega
        have u2 : ¬ (z7 : Int) = (z8 : Int) := by omega
        have u3 : ((z7 : Int) != (z8 : Int)) = true := by simp; omega
        go_wp2_with fail
        refine bodyPost_ret (by simp [results, Try.results9, go_sem]; try rfl) rfl ?_
        exact ⟨⟨_, rfl⟩, grown_trans HG1.out (HGo.out _ HG9.out)⟩
end Go.Proofs.Ytbpdggdpgohilaa
