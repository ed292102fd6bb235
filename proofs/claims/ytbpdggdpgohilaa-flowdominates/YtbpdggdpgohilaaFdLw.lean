/- gantrylaw13.FlowDominates. -/
import Derived.Test.YtbpdggdpgohilaaFpLw
import Derived.Test.YtbpdggdpgohilaaG23
namespace Go.Proofs.Ytbpdggdpgohilaa
open Go.RowKit
set_option linter.unusedVariables false
set_option maxRecDepth 100000
set_option maxHeartbeats 16000000

theorem flUps_any {w : World} {base D n : Nat} {g : Nat → Int} (h : OwnN w base (.slice (some ⟨D, 0, none⟩) n n) n g) (hn : n ≤ 4096) (hg : ∀ i, i < n → -1 ≤ g i ∧ g i < (n : Int)) : Calls Try.prog 10 #[.slice (some ⟨D, 0, none⟩) n n] w fun r w' => r = .returned (.bool true) ∧ w.grownBy w' none := by
  have H : Hid (∀ W, w.grownBy W none → OwnN W base (.slice (some ⟨D, 0, none⟩) n n) n g) := fun W gr => h.grow gr
  have HG : Hid (∀ i, i < n → -1 ≤ g i ∧ g i < (n : Int)) := hg
  clear h hg
  go_enter Try.func10, Try.ntmps10
  go_wp2_with fail
  go_loopw [3] (fun ix wr => ∃ k : Nat, ix = .int .i64 k ∧ k ≤ n ∧ w.grownBy wr none) (fun ix _ => n - (intOf ix).toNat)
  case atStart => exact ⟨0, rfl, Nat.zero_le _, World.grownBy.refl _ _⟩
  case round =>
    obtain ⟨k, rfl, hk, hgr⟩ := hrel
    have HGr : Hid (w.grownBy wr none) := hgr
    by_cases hkn : k < n
    case neg =>
      have c1 : ¬ (k : Int) < (n : Int) := by omega
      have c2 : decide ((k : Int) < (n : Int)) = false := decide_eq_false c1
      clear hgr
      go_wp2_with fail
      refine bodyPost_ret (by simp [results, Try.results10, go_sem]; try rfl) rfl ?_
      exact ⟨rfl, HGr.out⟩
    have hkI : (k : Int) < (n : Int) := by omega
    have c1 := (H.out wr hgr).cell hkn
    obtain ⟨y0, y1⟩ := HG.out k hkn
    obtain ⟨y, hy⟩ : ∃ y, y = g k := ⟨_, rfl⟩
    rw [← hy] at c1 y0 y1
    have d1 : ¬ y < -1 := by omega
    have d2 : decide (y < -1) = false := decide_eq_false d1
    have d3 : ¬ (n : Int) ≤ y := by omega
    have d4 : decide ((n : Int) ≤ y) = false := decide_eq_false d3
    clear hgr hy
    go_wp2_with fail
    go_roundw
    case rel => exact ⟨k + 1, by go_num, by omega, HGr.out⟩
    case measure => simp [intOf]; omega
theorem flowDominates_walk (a : Option Addr) (k : Nat) (l : List Sa.Cd) (w : World) (h : CdL (· < w.heap.size) w a k l) : Calls Try.prog 3 #[.slice a l.length k] w fun r w' => r = .returned (.bool true) ∧ w.grownBy w' none := by
  have HL : Hid (∀ W, w.grownBy W none → CdL (· < w.heap.size) W a k l) := fun W g => h.grow g
  have hle := h.le
  have hmx := h.max
  unfold maxLen at hmx
  have HWk : Hid (∀ W, Calls Try.prog 13 #[] W fun r w' => r = .returned (.bool true) ∧ W.grownBy w' none) := fun W => fwWakes W
  have HNm : Hid (∀ (e : Int) W, Calls Try.prog 8 #[.int .i64 e] W fun r w' => r = .returned (.int .i64 e) ∧ W.grownBy w' none) := fun e W => flNum e W
  clear h
  go_enter Try.func3, Try.ntmps3
  go_wp2_with fail
  go_loopw [3] (fun iv wr => ∃ i : Nat, iv = .int .i64 i ∧ i ≤ l.length ∧ w.grownBy wr none) (fun iv _ => l.length - (intOf iv).toNat)
  case atStart => exact ⟨0, rfl, Nat.zero_le _, World.grownBy.refl _ _⟩
  case round =>
    obtain ⟨i, rfl, hi, hg⟩ := hrel
    have HG : Hid (w.grownBy wr none) := hg
    by_cases hil : i < l.length
    case neg =>
      have c1 : ¬ (i : Int) < (l.length : Int) := by omega
      have c2 : decide ((i : Int) < (l.length : Int)) = false := decide_eq_false c1
      clear hg
      go_wp2_with fail
      refine (HWk.out _).mono ?_
      rintro e w3 ⟨rfl, g3⟩
      have HG3 : Hid (w.grownBy w3 none) := grown_trans HG.out g3
      clear g3
      go_wp2_with fail
      refine bodyPost_ret (by simp [results, Try.results3, go_sem]; try rfl) rfl ?_
      exact ⟨rfl, HG3.out⟩
    have c1 : (i : Int) < (l.length : Int) := by omega
    by_cases hit : i < 10
    case neg =>
      have c3 : ¬ (i : Int) < 10 := by omega
      have c4 : decide ((i : Int) < 10) = false := decide_eq_false c3
      clear hg
      go_wp2_with fail
      refine (HWk.out _).mono ?_
      rintro e w3 ⟨rfl, g3⟩
      have HG3 : Hid (w.grownBy w3 none) := grown_trans HG.out g3
      clear g3
      go_wp2_with fail
      refine bodyPost_ret (by simp [results, Try.results3, go_sem]; try rfl) rfl ?_
      exact ⟨rfl, HG3.out⟩
    have c3 : (i : Int) < 10 := by omega
    obtain ⟨cb, co, p1, p2, p3, p4, q1, q2, q3, q4, hca, hcb, hC⟩ := (HL.out wr hg).num hil
    subst hca
    obtain ⟨c, hc⟩ : ∃ c, c = l.getD i Sa.cd0 := ⟨_, rfl⟩
    rw [← hc] at hC
    have HCl : Hid (∀ W, wr.grownBy W none → W.cell? ⟨cb, co + i * 4, none⟩ = some (.slice p1 c.params.length q1) ∧ W.cell? ⟨cb, co + i * 4 + 1, none⟩ = some (.slice p2 c.results.length q2) ∧ W.cell? ⟨cb, co + i * 4 + 2, none⟩ = some (.slice p3 c.values.length q3) ∧ W.cell? ⟨cb, co + i * 4 + 3, none⟩ = some (.slice p4 c.blocks.length q4) ∧ cb < W.heap.size) := fun W g => ⟨g.cell hC.c0 (by simp), g.cell hC.c1 (by simp), g.cell hC.c2 (by simp), g.cell hC.c3 (by simp), by have := HG.out.size; have := g.size; omega⟩
    have HCr : Hid (∀ W, wr.grownBy W none → CdR (· < w.heap.size) W c p1 p2 p3 p4 q1 q2 q3 q4) := fun W g => hC.r.grow g
    obtain ⟨W1, hW1⟩ : ∃ W1, W1 = wr.alloc (Obj.cells #[.slice p1 c.params.length q1, .slice p2 c.results.length q2, .slice p3 c.values.length q3, .slice p4 c.blocks.length q4] 28) := ⟨_, rfl⟩
    have hg1 : wr.grownBy W1 none := by rw [hW1]; exact World.grownBy_alloc _ _ _
    have hk1 : Bk W1 wr.heap.size 28 [.slice p1 c.params.length q1, .slice p2 c.results.length q2, .slice p3 c.values.length q3, .slice p4 c.blocks.length q4] := by rw [hW1]; exact Bk.new _ _ _
    have HWt : Hid (Calls Try.prog 5 #[.agg #[.slice (some ⟨wr.heap.size, 0, none⟩) 1 1, .slice none 0 0], .int .i64 2000] W1 fun r w' => (∃ z, r = .returned (.int .i64 z)) ∧ W1.grownBy w' none) := lwWeight_any (u := ⟨[c], []⟩) (N := W1.heap.size) ⟨cdL_one hk1.lt hk1 ((HCr.out W1 hg1).wide (fun q hq => by have := HG.out.size; have := hg1.size; omega)), bytL_nil⟩ (Nat.le_refl _) 2000
    have HG1 : Hid (wr.grownBy W1 none) := hg1
    have HW1 : Hid (W1 = wr.alloc (Obj.cells #[.slice p1 c.params.length q1, .slice p2 c.results.length q2, .slice p3 c.values.length q3, .slice p4 c.blocks.length q4] 28)) := hW1
    rw [hW1] at HWt
    obtain ⟨x0, x1, x2, x3, xl⟩ := HCl.out wr (World.grownBy.refl _ _)
    clear hg hC hc hW1 hg1 hk1
    go_wp2_with fail
    refine HWt.out.mono ?_
    rintro e w5 ⟨⟨z, rfl⟩, g5⟩
    have HG5 : Hid (wr.grownBy w5 none) := grown_trans HG1.out (by rw [HW1.out]; exact g5)
    clear g5 HWt x0 x1 x2 x3 xl
    obtain ⟨x0, x1, x2, x3, xl⟩ := HCl.out w5 HG5.out
    by_cases hz : 2000 < z
    · have d1 : decide (2000 < z) = true := decide_eq_true hz
      go_wp2_with fail
      refine bodyPost_ret (by simp [results, Try.results3, go_sem]; try rfl) rfl ?_
      exact ⟨rfl, grown_trans HG.out HG5.out⟩
    have d1 : decide (2000 < z) = false := decide_eq_false hz
    have HCp : Hid (Calls Try.prog 7 #[.agg #[.slice p1 c.params.length q1, .slice p2 c.results.length q2, .slice p3 c.values.length q3, .slice p4 c.blocks.length q4]] w5 fun e w' => ∃ a1' k1' a2' k2' a3' k3' a4' k4', e = .returned (.agg #[.slice a1' c.params.length k1', .slice a2' c.results.length k2', .slice a3' c.values.length k3', .slice a4' c.blocks.length k4']) ∧ BlL (· < w'.heap.size) w' a4' k4' c.blocks ∧ w5.grownBy w' none) := by
      have h9 := HCr.out w5 HG5.out
      refine (copyCode_any (B := (· < w.heap.size)) (fun q hq => by have := HG.out.size; have := HG5.out.size; omega) h9.params h9.results h9.values h9.blocks).mono ?_
      rintro e w' ⟨a1, k1, a2, k2, a3, k3, a4, k4, rfl, ⟨_, _, _, h4⟩, g⟩
      exact ⟨a1, k1, a2, k2, a3, k3, a4, k4, rfl, BlL.ch (l := []) h4 (Ch.of (World.grownBy.refl _ _)) (by simp) (fun q hq => hq.2), g⟩
    go_wp2_with fail
    refine HCp.out.mono ?_
    rintro e w6 ⟨a1', k1', a2', k2', a3', k3', a4', k4', rfl, hb6, g6⟩
    have HG6 : Hid (wr.grownBy w6 none) := grown_trans HG5.out g6
    have hPo := flDoms_any (v1 := .slice a1' c.params.length k1') (v2 := .slice a2' c.results.length k2') (v3 := .slice a3' c.values.length k3') hb6 (Nat.le_refl _)
    clear g6 hb6 x0 x1 x2 x3 xl HCp d1 hz
    by_cases hR : Sa.num (Sa.flowP c.blocks) = 0
    case neg =>
      have HPo : Hid (Calls Try.prog 6 #[.agg #[.slice a1' c.params.length k1', .slice a2' c.results.length k2', .slice a3' c.values.length k3', .slice a4' c.blocks.length k4']] w6 fun r w' => ∃ v, r = .returned (.tuple #[v, .int .i64 (Sa.num (Sa.flowP c.blocks))]) ∧ w6.grownBy w' none) := hPo.mono (by rintro r w' ⟨v, rfl, _, _, g⟩; exact ⟨v, rfl, g⟩)
      obtain ⟨R, hRe⟩ : ∃ R, R = Sa.num (Sa.flowP c.blocks) := ⟨_, rfl⟩
      rw [← hRe] at hR HPo
      clear hPo hRe
      have d2 : (R == 0) = false := by simpa using hR
      have d3 : (R != 0) = true := by simpa using hR
      go_wp2_with fail
      refine HPo.out.mono ?_
      rintro e w7 ⟨v, rfl, g7⟩
      have HG7 : Hid (wr.grownBy w7 none) := grown_trans HG6.out g7
      clear g7
      go_wp2_with fail
      refine (HNm.out _ _).mono ?_
      rintro e w8 ⟨rfl, g8⟩
      have HG8 : Hid (wr.grownBy w8 none) := grown_trans HG7.out g8
      clear g8
      go_wp2_with fail
      go_roundw
      case rel => exact ⟨i + 1, by go_num, by omega, grown_trans HG.out HG8.out⟩
      case measure => simp [intOf]; omega
    have HPo : Hid (Calls Try.prog 6 #[.agg #[.slice a1' c.params.length k1', .slice a2' c.results.length k2', .slice a3' c.values.length k3', .slice a4' c.blocks.length k4']] w6 fun r w' => ∃ v, r = .returned (.tuple #[v, .int .i64 0]) ∧ (Sa.waysB c.blocks = true ∧ Sa.flowB c.blocks = true ∧ DmV w' w6.heap.size v c.blocks) ∧ w6.grownBy w' none) := hPo.mono (by rintro r w' ⟨v, rfl, h8, _, g⟩; exact ⟨v, by rw [hR], h8 hR, g⟩)
    clear hPo hR
    go_wp2_with fail
    refine HPo.out.mono ?_
    rintro e w7 ⟨v, rfl, ⟨hw, hf, D, rfl, hd7⟩, g7⟩
    have HG7 : Hid (wr.grownBy w7 none) := grown_trans HG6.out g7
    have HWy : Hid (Sa.waysB c.blocks = true ∧ Sa.flowB c.blocks = true) := ⟨hw, hf⟩
    have HD7 : Hid (OwnN w7 w6.heap.size (.slice (some ⟨D, 0, none⟩) c.blocks.length c.blocks.length) c.blocks.length (Sa.dmB c.blocks)) := hd7
    obtain ⟨h0, h4, _⟩ := Sa.waysB_iff hw
    have HFl : Hid (∀ W, wr.grownBy W none → Calls Try.prog 9 #[.agg #[.slice p1 c.params.length q1, .slice p2 c.results.length q2, .slice p3 c.values.length q3, .slice p4 c.blocks.length q4]] W fun r w' => (∃ z, r = .returned (.int .i64 z)) ∧ W.grownBy w' none) := fun W g => flFlow_any (HCr.out W g).blocks (by have := HG.out.size; have := g.size; omega) HWy.out.1
    clear g7 hw hf hd7 HPo
    go_wp2_with fail
    refine (HNm.out _ _).mono ?_
    rintro e w8 ⟨rfl, g8⟩
    have HG8 : Hid (w7.grownBy w8 none) := g8
    obtain ⟨x0, x1, x2, x3, xl⟩ := HCl.out w8 (grown_trans HG7.out g8)
    clear g8
    go_wp2_with fail
    refine (HFl.out _ (grown_trans HG7.out HG8.out)).mono ?_
    rintro e w9 ⟨⟨z9, rfl⟩, g9⟩
    have HG9 : Hid (w7.grownBy w9 none) := grown_trans HG8.out g9
    have HGw9 : Hid (wr.grownBy w9 none) := grown_trans HG7.out HG9.out
    clear g9 x0 x1 x2 x3 xl HFl
    obtain ⟨x0, x1, x2, x3, xl⟩ := HCl.out w9 HGw9.out
    by_cases hz9 : z9 = 0
    case neg =>
      have d2 : (z9 == 0) = false := by simpa using hz9
      have d3 : (z9 != 0) = true := by simpa using hz9
      go_wp2_with fail
      go_roundw
      case rel => exact ⟨i + 1, by go_num, by omega, grown_trans HG.out HGw9.out⟩
      case measure => simp [intOf]; omega
    subst hz9
    have HD9 : Hid (∀ W, w9.grownBy W none → OwnN W w6.heap.size (.slice (some ⟨D, 0, none⟩) c.blocks.length c.blocks.length) c.blocks.length (Sa.dmB c.blocks)) := fun W g => (HD7.out.grow HG9.out).grow g
    have HUps : Hid (∀ W, w9.grownBy W none → Calls Try.prog 10 #[.slice (some ⟨D, 0, none⟩) c.blocks.length c.blocks.length] W fun r w' => r = .returned (.bool true) ∧ W.grownBy w' none) := fun W g => flUps_any (HD9.out W g) h4 (fun b hb => Sa.dmB_rg HWy.out.1 HWy.out.2 hb)
    go_wp2_with fail
    refine (HUps.out _ (World.grownBy.refl _ _)).mono ?_
    rintro e w10 ⟨rfl, g10⟩
    have HG10 : Hid (w9.grownBy w10 none) := g10
    clear g10 x0 x1 x2 x3 xl HUps HD7
    go_wp2_with fail
    go_loopw [6] (fun iv wq => ∃ b : Nat, iv = .int .i64 b ∧ b ≤ c.blocks.length ∧ w9.grownBy wq none) (fun iv _ => c.blocks.length - (intOf iv).toNat)
    case atStart => exact ⟨0, rfl, Nat.zero_le _, HG10.out⟩
    case round =>
      obtain ⟨b, rfl, hb, hgb⟩ := hrel
      have HGb : Hid (w9.grownBy wr none) := hgb
      clear HG10
      by_cases hbl2 : b < c.blocks.length
      case neg =>
        have e1 : ¬ (b : Int) < (c.blocks.length : Int) := by omega
        have e2 : decide ((b : Int) < (c.blocks.length : Int)) = false := decide_eq_false e1
        clear hgb
        go_wp2_with fail
        go_roundw
        case rel => exact ⟨i + 1, by go_num, by omega, grown_trans HG.out (grown_trans HGw9.out HGb.out)⟩
        case measure => simp [intOf]; omega
      have ebI : (b : Int) < (c.blocks.length : Int) := by omega
      have hGwr := grown_trans HGw9.out hgb
      obtain ⟨bb, bo, b1, b2, b3, b4, m1, m2, m3, m4, hba, hbN, hbl⟩ := ((HCr.out wr hGwr).blocks).num hbl2
      subst hba
      obtain ⟨x, hx⟩ : ∃ x, x = c.blocks.getD b Sa.bl0 := ⟨_, rfl⟩
      rw [← hx] at hbl
      have HX : Hid (x = c.blocks.getD b Sa.bl0) := hx
      have y0 := hbl.c0
      have y1 := hbl.c1
      have y2 := hbl.c2
      have y3 := hbl.c3
      have y4 := hbl.c4
      have y5 := hbl.c5
      obtain ⟨x0, x1, x2, x3, xl⟩ := HCl.out wr hGwr
      have hbw : bb < wr.heap.size := by have := HG.out.size; have := hGwr.size; omega
      have HHo : Hid (∀ W, Calls Try.prog 11 #[.agg #[.int .i64 x.kind, .int .i64 x.n, .slice b1 x.args.length m1, .slice b2 x.preds.length m2, .slice b3 x.succs.length m3, .slice b4 x.list.length m4]] W fun r w' => r = .returned (.bool (x.kind == 0)) ∧ W.grownBy w' none) := fun W => flHole_any _ _ _ _ _ _ W
      clear hbl hx hGwr hgb
      by_cases hk0 : x.kind = 0
      · have hk0b : (x.kind == 0) = true := by simpa using hk0
        have HDz : Hid (Sa.dmB c.blocks b = -1) := Sa.dmB_hole HWy.out.1 HWy.out.2 hbl2 (by rw [← HX.out]; exact hk0)
        rw [hk0b] at HHo
        clear hk0 hk0b
        go_wp2_with fail
        refine (HHo.out _).mono ?_
        rintro e w12 ⟨rfl, g12⟩
        have HG12 : Hid (w9.grownBy w12 none) := grown_trans HGb.out g12
        have cd := (HD9.out w12 HG12.out).cell hbl2
        rw [HDz.out] at cd
        clear g12 x0 x1 x2 x3 xl y0 y1 y2 y3 y4 y5
        go_wp2_with fail
        go_roundw
        case rel => exact ⟨b + 1, by go_num, by omega, HG12.out⟩
        case measure => simp [intOf]; omega
      have hk0b : (x.kind == 0) = false := by simpa using hk0
      have HKb : Hid (¬ (c.blocks.getD b Sa.bl0).kind = 0) := by show ¬ _ = _; rw [← HX.out]; exact hk0
      rw [hk0b] at HHo
      clear hk0 hk0b
      go_wp2_with fail
      refine (HHo.out _).mono ?_
      rintro e w12 ⟨rfl, g12⟩
      have HG12 : Hid (w9.grownBy w12 none) := grown_trans HGb.out g12
      clear g12 x0 x1 x2 x3 xl y0 y1 y2 y3 y4 y5
      obtain ⟨x0, x1, x2, x3, xl⟩ := HCl.out w12 (grown_trans HGw9.out HG12.out)
      have HRe : Hid (Calls Try.prog 12 #[.agg #[.slice p1 c.params.length q1, .slice p2 c.results.length q2, .slice p3 c.values.length q3, .slice (some ⟨bb, bo, none⟩) c.blocks.length q4], .int .i64 (b : Int)] w12 fun r w' => ∃ T L, r = .returned (.slice (some ⟨T, 0, none⟩) c.blocks.length c.blocks.length) ∧ OwnF w' w12.heap.size (.slice (some ⟨T, 0, none⟩) c.blocks.length c.blocks.length) c.blocks.length L ∧ (∀ k, k < c.blocks.length → (L k = true ↔ Dm.Wy (Sa.EB c.blocks) (fun y => y ≠ b) 0 k)) ∧ w12.grownBy w' none) := by
        by_cases hb0 : b = 0
        · rw [hb0]
          refine (flReached0 h4).mono ?_
          rintro r w' ⟨T, rfl, h1, h2⟩
          refine ⟨T, _, rfl, h1, fun k _ => ⟨fun h => (by cases h), fun h => ?_⟩, h2⟩
          exact absurd rfl h.fst
        · have hGx := grown_trans HGw9.out HG12.out
          exact flReachedX (NN := w.heap.size) (by have := HG.out.size; have := hGx.size; omega) (HCr.out w12 hGx).blocks (Sa.leads HWy.out.1) h4 h0 (by omega)
      go_wp2_with fail
      refine HRe.out.mono ?_
      rintro e w13 ⟨T, L, rfl, ho13, hL13, g13⟩
      have HO13 : Hid (OwnF w13 w12.heap.size (.slice (some ⟨T, 0, none⟩) c.blocks.length c.blocks.length) c.blocks.length L) := ho13
      have HL13 : Hid (∀ k, k < c.blocks.length → (L k = true ↔ Dm.Wy (Sa.EB c.blocks) (fun y => y ≠ b) 0 k)) := hL13
      have HG13 : Hid (w9.grownBy w13 none) := grown_trans HG12.out g13
      clear ho13 hL13 g13 HRe x0 x1 x2 x3 xl HHo hbw
      go_wp2_with fail
      go_loopw [8] (fun iv wq => ∃ k : Nat, iv = .int .i64 k ∧ k ≤ c.blocks.length ∧ w13.grownBy wq none) (fun iv _ => c.blocks.length - (intOf iv).toNat)
      case atStart => exact ⟨0, rfl, Nat.zero_le _, World.grownBy.refl _ _⟩
      case round =>
        obtain ⟨kk, rfl, hkk, hgk⟩ := hrel
        have HGk : Hid (w13.grownBy wr none) := hgk
        clear HG12
        by_cases hkl : kk < c.blocks.length
        case neg =>
          have e1 : ¬ (kk : Int) < (c.blocks.length : Int) := by omega
          have e2 : decide ((kk : Int) < (c.blocks.length : Int)) = false := decide_eq_false e1
          clear hgk
          go_wp2_with fail
          go_roundw
          case rel => exact ⟨b + 1, by go_num, by omega, grown_trans HG13.out HGk.out⟩
          case measure => simp [intOf]; omega
        have ekI : (kk : Int) < (c.blocks.length : Int) := by omega
        have HCh0 : Hid (Sa.ChI c.blocks b kk kk false 0) := Sa.ChI.start HWy.out.1 HWy.out.2 hkl
        clear hgk
        go_wp2_with fail
        go_loopw [9, 10, 11] (fun av nv xv wq => ∃ (ab : Bool) (cnt : Nat) (xx : Int), av = .bool ab ∧ nv = .int .i64 cnt ∧ xv = .int .i64 xx ∧ Sa.ChI c.blocks b kk xx ab cnt ∧ w13.grownBy wq none) (fun _ nv _ _ => c.blocks.length + 5 - (intOf nv).toNat)
        case atStart => exact ⟨false, 0, _, rfl, rfl, rfl, HCh0.out, HGk.out⟩
        case round =>
          obtain ⟨ab, cnt, xx, rfl, rfl, rfl, hch, hgx⟩ := hrel
          have HCh : Hid (Sa.ChI c.blocks b kk xx ab cnt) := hch
          have HGx : Hid (w13.grownBy wr none) := hgx
          clear HCh0 HGk
          by_cases hx0 : 0 ≤ xx
          · obtain ⟨y, rfl, hyb, hcb, hnx⟩ := hch.step HWy.out.1 HWy.out.2 hkl hx0
            have HNx : Hid (Sa.ChI c.blocks b kk (Sa.dmB c.blocks y) (ab || decide (y = b)) (cnt + 1)) := hnx
            have hyI : (y : Int) < (c.blocks.length : Int) := by omega
            have hcI : (cnt : Int) ≤ (c.blocks.length : Int) := by omega
            have hcn : (cnt : Int) ≤ 100000 := by omega
            have cd := (HD9.out wr (grown_trans HG13.out hgx)).cell hyb
            obtain ⟨dy, hdy⟩ : ∃ dy, dy = Sa.dmB c.blocks y := ⟨_, rfl⟩
            rw [← hdy] at cd HNx
            clear hch hnx hgx hdy hx0
            cases ab with
            | true =>
              go_wp2_with fail
              go_roundw
              case rel => exact ⟨true, cnt + 1, dy, rfl, by go_num, rfl, by have := HNx.out; simpa using this, HGx.out⟩
              case measure => simp [intOf]; omega
            | false =>
              by_cases hyq : y = b
              · have hnx2 := HNx.out
                rw [hyq] at hnx2
                simp only [Bool.false_or, decide_true] at hnx2
                have HN2 : Hid (Sa.ChI c.blocks b kk dy true (cnt + 1)) := hnx2
                subst hyq
                clear hnx2 HNx
                go_wp2_with fail
                go_roundw
                case rel => exact ⟨true, cnt + 1, dy, rfl, by go_num, rfl, HN2.out, HGx.out⟩
                case measure => simp [intOf]; omega
              · have hnx2 := HNx.out
                rw [decide_eq_false hyq] at hnx2
                have HN2 : Hid (Sa.ChI c.blocks b kk dy false (cnt + 1)) := hnx2
                have hyc : ¬ (y : Int) = (b : Int) := by omega
                have hyd : ((y : Int) == (b : Int)) = false := by simpa using hyc
                clear hnx2 HNx
                go_wp2_with fail
                go_roundw
                case rel => exact ⟨false, cnt + 1, dy, rfl, by go_num, rfl, HN2.out, HGx.out⟩
                case measure => simp [intOf]; omega
          · obtain ⟨hcn, hab⟩ := hch.done HWy.out.1 HWy.out.2 hbl2 HKb.out hkl hx0
            have HAb : Hid ((c.blocks.getD kk Sa.bl0).kind ≠ 0 → (ab = true ↔ ¬ Dm.Wy (Sa.EB c.blocks) (fun y => y ≠ b) 0 kk)) := hab
            have hx1 : decide (0 ≤ xx) = false := decide_eq_false hx0
            have hcI : ¬ (c.blocks.length : Int) < (cnt : Int) := by omega
            have hcJ : decide ((c.blocks.length : Int) < (cnt : Int)) = false := decide_eq_false hcI
            have hGwr := grown_trans HGw9.out (grown_trans HG13.out hgx)
            obtain ⟨t1, t2, t3, t4, n1, n2, n3, n4, htN, htl⟩ := ((HCr.out wr hGwr).blocks).at0 hkl
            obtain ⟨tt, htt⟩ : ∃ tt, tt = c.blocks.getD kk Sa.bl0 := ⟨_, rfl⟩
            rw [← htt] at htl HAb
            have y0 := htl.c0
            have y1 := htl.c1
            have y2 := htl.c2
            have y3 := htl.c3
            have y4 := htl.c4
            have y5 := htl.c5
            obtain ⟨x0, x1, x2, x3, xl⟩ := HCl.out wr hGwr
            have htw : bb < wr.heap.size := by have := HG.out.size; have := hGwr.size; omega
            have HHt : Hid (∀ W, Calls Try.prog 11 #[.agg #[.int .i64 tt.kind, .int .i64 tt.n, .slice t1 tt.args.length n1, .slice t2 tt.preds.length n2, .slice t3 tt.succs.length n3, .slice t4 tt.list.length n4]] W fun r w' => r = .returned (.bool (tt.kind == 0)) ∧ W.grownBy w' none) := fun W => flHole_any _ _ _ _ _ _ W
            clear htl htt hGwr hch hgx hab hcn
            by_cases hk0 : tt.kind = 0
            · have hk0b : (tt.kind == 0) = true := by simpa using hk0
              rw [hk0b] at HHt
              clear hk0 hk0b
              go_wp2_with fail
              refine (HHt.out _).mono ?_
              rintro e w15 ⟨rfl, g15⟩
              have HG15 : Hid (w13.grownBy w15 none) := grown_trans HGx.out g15
              clear g15 x0 x1 x2 x3 xl y0 y1 y2 y3 y4 y5
              go_wp2_with fail
              go_roundw
              case rel => exact ⟨kk + 1, by go_num, by omega, HG15.out⟩
              case measure => simp [intOf]; omega
            · have hk0b : (tt.kind == 0) = false := by simpa using hk0
              have hne := HAb.out hk0
              rw [← HL13.out kk hkl] at hne
              have HNe : Hid (ab = !L kk) := by
                show ab = !L kk
                cases hab : ab with
                | true =>
                  rw [hab] at hne
                  have := hne.1 rfl
                  cases hLk : L kk with
                  | true => exact absurd hLk this
                  | false => rfl
                | false =>
                  rw [hab] at hne
                  cases hLk : L kk with
                  | true => rfl
                  | false => exact absurd (hne.2 (by rw [hLk]; simp)) (by simp)
              rw [hk0b] at HHt
              clear hk0 hk0b hne HAb
              go_wp2_with fail
              refine (HHt.out _).mono ?_
              rintro e w15 ⟨rfl, g15⟩
              have HG15 : Hid (w13.grownBy w15 none) := grown_trans HGx.out g15
              have cL := (HO13.out.grow HG15.out).cell hkl
              have hab2 := HNe.out
              clear g15 x0 x1 x2 x3 xl y0 y1 y2 y3 y4 y5
              cases hLk : L kk with
              | true =>
                rw [hLk] at cL hab2
                simp only [Bool.not_true] at hab2
                subst hab2
                go_wp2_with fail
                go_roundw
                case rel => exact ⟨kk + 1, by go_num, by omega, HG15.out⟩
                case measure => simp [intOf]; omega
              | false =>
                rw [hLk] at cL hab2
                simp only [Bool.not_false] at hab2
                subst hab2
                go_wp2_with fail
                go_roundw
                case rel => exact ⟨kk + 1, by go_num, by omega, HG15.out⟩
                case measure => simp [intOf]; omega
end Go.Proofs.Ytbpdggdpgohilaa
