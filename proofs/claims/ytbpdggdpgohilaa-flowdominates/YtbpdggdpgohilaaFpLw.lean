/- gantrylaw13.FlowPost. -/
import Derived.Test.YtbpdggdpgohilaaG13
import Derived.Test.YtbpdggdpgohilaaFlGf
import Derived.Test.YtbpdggdpgohilaaG14
import Derived.Test.YtbpdggdpgohilaaG16
import Derived.Test.YtbpdggdpgohilaaLwWt
import Derived.Test.YtbpdggdpgohilaaSaCp
import Derived.Test.YtbpdggdpgohilaaG19
namespace Go.Proofs.Ytbpdggdpgohilaa
open Go.RowKit
set_option linter.unusedVariables false
set_option maxRecDepth 100000
set_option maxHeartbeats 16000000

theorem cdL_one {W : World} {b : Nat} {c : Sa.Cd} {B : Nat → Prop} {p1 p2 p3 p4 : Option Addr} {q1 q2 q3 q4 : Nat} (hB : B b) (h : Bk W b 28 [.slice p1 c.params.length q1, .slice p2 c.results.length q2, .slice p3 c.values.length q3, .slice p4 c.blocks.length q4]) (hr : CdR B W c p1 p2 p3 p4 q1 q2 q3 q4) : CdL B W (some ⟨b, 0, none⟩) 1 [c] :=
  ⟨fun e => (by cases e), Nat.le_refl _, by unfold maxLen; omega, by unfold reachBytes; simp, .inr ⟨b, 0, rfl, hB, fun i z hz => by
    match i, hz with
    | 0, hz =>
      injection hz with hz
      subst hz
      exact ⟨p1, p2, p3, p4, q1, q2, q3, q4, h.cell (i := 0) rfl, h.cell (i := 1) rfl, h.cell (i := 2) rfl, h.cell (i := 3) rfl, hr⟩
    | n + 1, hz => simp at hz⟩⟩
theorem bytL_nil {W : World} {B : Nat → Prop} : BytL B W none 0 [] := ⟨fun _ => ⟨rfl, rfl⟩, Nat.le_refl _, by unfold maxLen; omega, by simp, .inl rfl⟩
theorem CdR.wide {B B' : Nat → Prop} {W : World} {c : Sa.Cd} {p1 p2 p3 p4 : Option Addr} {q1 q2 q3 q4 : Nat} (h : CdR B W c p1 p2 p3 p4 q1 q2 q3 q4) (hB : ∀ k, B k → B' k) : CdR B' W c p1 p2 p3 p4 q1 q2 q3 q4 := h.ch (l := []) (Ch.of (World.grownBy.refl _ _)) (by simp) hB
theorem flowPost_walk (a : Option Addr) (k : Nat) (l : List Sa.Cd) (w : World) (h : CdL (· < w.heap.size) w a k l) : Calls Try.prog 4 #[.slice a l.length k] w fun r w' => r = .returned (.bool true) ∧ w.grownBy w' none := by
  have HL : Hid (∀ W, w.grownBy W none → CdL (· < w.heap.size) W a k l) := fun W g => h.grow g
  have hle := h.le
  have hmx := h.max
  unfold maxLen at hmx
  have HWk : Hid (∀ W, Calls Try.prog 13 #[] W fun r w' => r = .returned (.bool true) ∧ W.grownBy w' none) := fun W => fwWakes W
  have HNm : Hid (∀ (e : Int) W, Calls Try.prog 8 #[.int .i64 e] W fun r w' => r = .returned (.int .i64 e) ∧ W.grownBy w' none) := fun e W => flNum e W
  clear h
  go_enter Try.func4, Try.ntmps4
  go_wp2_with fail
  go_loopw [3] (fun iv wr => ∃ i : Nat, iv = .int .i64 i ∧ i ≤ l.length ∧ w.grownBy wr none) (fun iv _ => l.length - (intOf iv).toNat)
  case atStart => exact ⟨0, rfl, Nat.zero_le _, World.grownBy.refl _ _⟩
  case round =>
    obtain ⟨i, rfl, hi, hg⟩ := hrel
    have HG : Hid (w.grownBy wr none) := hg
    by_cases hil : i < l.length
    case neg =>
      have c1 : ¬ (i : Int) < (l.length : Int) := by omega
      have c2 : decide ((i : Int) < (l.length : Int)) = false := decide_eq_false c1
      clear hg
      go_wp2_with fail
      refine (HWk.out _).mono ?_
      rintro e w3 ⟨rfl, g3⟩
      have HG3 : Hid (w.grownBy w3 none) := grown_trans HG.out g3
      clear g3
      go_wp2_with fail
      refine bodyPost_ret (by simp [results, Try.results4, go_sem]; try rfl) rfl ?_
      exact ⟨rfl, HG3.out⟩
    have c1 : (i : Int) < (l.length : Int) := by omega
    by_cases hit : i < 10
    case neg =>
      have c3 : ¬ (i : Int) < 10 := by omega
      have c4 : decide ((i : Int) < 10) = false := decide_eq_false c3
      clear hg
      go_wp2_with fail
      refine (HWk.out _).mono ?_
      rintro e w3 ⟨rfl, g3⟩
      have HG3 : Hid (w.grownBy w3 none) := grown_trans HG.out g3
      clear g3
      go_wp2_with fail
      refine bodyPost_ret (by simp [results, Try.results4, go_sem]; try rfl) rfl ?_
      exact ⟨rfl, HG3.out⟩
    have c3 : (i : Int) < 10 := by omega
    obtain ⟨cb, co, p1, p2, p3, p4, q1, q2, q3, q4, hca, hcb, hC⟩ := (HL.out wr hg).num hil
    subst hca
    obtain ⟨c, hc⟩ : ∃ c, c = l.getD i Sa.cd0 := ⟨_, rfl⟩
    rw [← hc] at hC
    have HCl : Hid (∀ W, wr.grownBy W none → W.cell? ⟨cb, co + i * 4, none⟩ = some (.slice p1 c.params.length q1) ∧ W.cell? ⟨cb, co + i * 4 + 1, none⟩ = some (.slice p2 c.results.length q2) ∧ W.cell? ⟨cb, co + i * 4 + 2, none⟩ = some (.slice p3 c.values.length q3) ∧ W.cell? ⟨cb, co + i * 4 + 3, none⟩ = some (.slice p4 c.blocks.length q4) ∧ cb < W.heap.size) := fun W g => ⟨g.cell hC.c0 (by simp), g.cell hC.c1 (by simp), g.cell hC.c2 (by simp), g.cell hC.c3 (by simp), by have := HG.out.size; have := g.size; omega⟩
    have HCr : Hid (∀ W, wr.grownBy W none → CdR (· < w.heap.size) W c p1 p2 p3 p4 q1 q2 q3 q4) := fun W g => hC.r.grow g
    obtain ⟨W1, hW1⟩ : ∃ W1, W1 = wr.alloc (Obj.cells #[.slice p1 c.params.length q1, .slice p2 c.results.length q2, .slice p3 c.values.length q3, .slice p4 c.blocks.length q4] 28) := ⟨_, rfl⟩
    have hg1 : wr.grownBy W1 none := by rw [hW1]; exact World.grownBy_alloc _ _ _
    have hk1 : Bk W1 wr.heap.size 28 [.slice p1 c.params.length q1, .slice p2 c.results.length q2, .slice p3 c.values.length q3, .slice p4 c.blocks.length q4] := by rw [hW1]; exact Bk.new _ _ _
    have HWt : Hid (Calls Try.prog 5 #[.agg #[.slice (some ⟨wr.heap.size, 0, none⟩) 1 1, .slice none 0 0], .int .i64 2000] W1 fun r w' => (∃ z, r = .returned (.int .i64 z)) ∧ W1.grownBy w' none) := lwWeight_any (u := ⟨[c], []⟩) (N := W1.heap.size) ⟨cdL_one hk1.lt hk1 ((HCr.out W1 hg1).wide (fun q hq => by have := HG.out.size; have := hg1.size; omega)), bytL_nil⟩ (Nat.le_refl _) 2000
    have HG1 : Hid (wr.grownBy W1 none) := hg1
    have HW1 : Hid (W1 = wr.alloc (Obj.cells #[.slice p1 c.params.length q1, .slice p2 c.results.length q2, .slice p3 c.values.length q3, .slice p4 c.blocks.length q4] 28)) := hW1
    rw [hW1] at HWt
    obtain ⟨x0, x1, x2, x3, xl⟩ := HCl.out wr (World.grownBy.refl _ _)
    clear hg hC hc hW1 hg1 hk1
    go_wp2_with fail
    refine HWt.out.mono ?_
    rintro e w5 ⟨⟨z, rfl⟩, g5⟩
    have HG5 : Hid (wr.grownBy w5 none) := grown_trans HG1.out (by rw [HW1.out]; exact g5)
    clear g5 HWt x0 x1 x2 x3 xl
    obtain ⟨x0, x1, x2, x3, xl⟩ := HCl.out w5 HG5.out
    by_cases hz : 2000 < z
    · have d1 : decide (2000 < z) = true := decide_eq_true hz
      go_wp2_with fail
      refine bodyPost_ret (by simp [results, Try.results4, go_sem]; try rfl) rfl ?_
      exact ⟨rfl, grown_trans HG.out HG5.out⟩
    have d1 : decide (2000 < z) = false := decide_eq_false hz
    have HCp : Hid (Calls Try.prog 7 #[.agg #[.slice p1 c.params.length q1, .slice p2 c.results.length q2, .slice p3 c.values.length q3, .slice p4 c.blocks.length q4]] w5 fun e w' => ∃ a1' k1' a2' k2' a3' k3' a4' k4', e = .returned (.agg #[.slice a1' c.params.length k1', .slice a2' c.results.length k2', .slice a3' c.values.length k3', .slice a4' c.blocks.length k4']) ∧ BlL (· < w'.heap.size) w' a4' k4' c.blocks ∧ w5.grownBy w' none) := by
      have h9 := HCr.out w5 HG5.out
      refine (copyCode_any (B := (· < w.heap.size)) (fun q hq => by have := HG.out.size; have := HG5.out.size; omega) h9.params h9.results h9.values h9.blocks).mono ?_
      rintro e w' ⟨a1, k1, a2, k2, a3, k3, a4, k4, rfl, ⟨_, _, _, h4⟩, g⟩
      exact ⟨a1, k1, a2, k2, a3, k3, a4, k4, rfl, BlL.ch (l := []) h4 (Ch.of (World.grownBy.refl _ _)) (by simp) (fun q hq => hq.2), g⟩
    go_wp2_with fail
    refine HCp.out.mono ?_
    rintro e w6 ⟨a1', k1', a2', k2', a3', k3', a4', k4', rfl, hb6, g6⟩
    have HG6 : Hid (wr.grownBy w6 none) := grown_trans HG5.out g6
    have hPo := flPost_any (v1 := .slice a1' c.params.length k1') (v2 := .slice a2' c.results.length k2') (v3 := .slice a3' c.values.length k3') hb6 (Nat.le_refl _)
    clear g6 hb6 x0 x1 x2 x3 xl HCp d1 hz
    by_cases hR : Sa.num (Sa.flowP c.blocks) = 0
    case neg =>
      have HPo : Hid (Calls Try.prog 14 #[.agg #[.slice a1' c.params.length k1', .slice a2' c.results.length k2', .slice a3' c.values.length k3', .slice a4' c.blocks.length k4']] w6 fun r w' => ∃ v, r = .returned (.tuple #[v, .int .i64 (Sa.num (Sa.flowP c.blocks))]) ∧ w6.grownBy w' none) := hPo.mono (by rintro r w' ⟨v, rfl, _, _, g⟩; exact ⟨v, rfl, g⟩)
      obtain ⟨R, hRe⟩ : ∃ R, R = Sa.num (Sa.flowP c.blocks) := ⟨_, rfl⟩
      rw [← hRe] at hR HPo
      clear hPo hRe
      have d2 : (R == 0) = false := by simpa using hR
      have d3 : (R != 0) = true := by simpa using hR
      go_wp2_with fail
      refine HPo.out.mono ?_
      rintro e w7 ⟨v, rfl, g7⟩
      have HG7 : Hid (wr.grownBy w7 none) := grown_trans HG6.out g7
      clear g7
      go_wp2_with fail
      refine (HNm.out _ _).mono ?_
      rintro e w8 ⟨rfl, g8⟩
      have HG8 : Hid (wr.grownBy w8 none) := grown_trans HG7.out g8
      clear g8
      go_wp2_with fail
      go_roundw
      case rel => exact ⟨i + 1, by go_num, by omega, grown_trans HG.out HG8.out⟩
      case measure => simp [intOf]; omega
    have HPo : Hid (Calls Try.prog 14 #[.agg #[.slice a1' c.params.length k1', .slice a2' c.results.length k2', .slice a3' c.values.length k3', .slice a4' c.blocks.length k4']] w6 fun r w' => ∃ v, r = .returned (.tuple #[v, .int .i64 0]) ∧ (Sa.waysB c.blocks = true ∧ Sa.flowB c.blocks = true ∧ OwnZ w' w6.heap.size v (Sa.fwalk c.blocks).2) ∧ w6.grownBy w' none) := hPo.mono (by rintro r w' ⟨v, rfl, h8, _, g⟩; exact ⟨v, by rw [hR], h8 hR, g⟩)
    clear hPo hR
    go_wp2_with fail
    refine HPo.out.mono ?_
    rintro e w7 ⟨v, rfl, ⟨hw, hf, hz⟩, g7⟩
    have HG7 : Hid (wr.grownBy w7 none) := grown_trans HG6.out g7
    have HWy : Hid (Sa.waysB c.blocks = true) := hw
    have HPp0 := Sa.postP hw hf
    obtain ⟨p, hp⟩ : ∃ p, p = (Sa.fwalk c.blocks).2 := ⟨_, rfl⟩
    rw [← hp] at hz HPp0
    have HPp : Hid (Sa.PostP c.blocks p) := HPp0
    obtain ⟨hn0, hn1⟩ := HPp0.ne
    obtain ⟨q, hq⟩ : ∃ q, p.length = q + 1 := ⟨p.length - 1, by omega⟩
    have HQ : Hid (p.length = q + 1) := hq
    obtain ⟨pa, pc, hv, hpl, hpm, hpa⟩ := hz.slice
    obtain ⟨PB, hpb, _, _⟩ := hpa hn0
    rw [hpb, hq] at hv
    subst hv
    have HZ7 : Hid (OwnN w7 w6.heap.size (.slice (some ⟨PB, 0, none⟩) (q + 1) pc) (q + 1) (fun i => p.getD i 0)) := by have h9 := hz.n; rw [hq] at h9; exact h9
    have hqn : q + 1 ≤ c.blocks.length := by have := HPp0.holes; omega
    obtain ⟨h0, h4, _⟩ := Sa.waysB_iff hw
    have HFl : Hid (∀ W, wr.grownBy W none → Calls Try.prog 9 #[.agg #[.slice p1 c.params.length q1, .slice p2 c.results.length q2, .slice p3 c.values.length q3, .slice p4 c.blocks.length q4]] W fun r w' => (∃ z, r = .returned (.int .i64 z)) ∧ W.grownBy w' none) := fun W g => flFlow_any (HCr.out W g).blocks (by have := HG.out.size; have := g.size; omega) HWy.out
    unfold maxLen at hpm
    rw [hq] at hpl
    clear g7 hw hf hz hp HPp0 hn0 hn1 hq hpa hpb HPo
    go_wp2_with fail
    refine (HNm.out _ _).mono ?_
    rintro e w8 ⟨rfl, g8⟩
    have HG8 : Hid (w7.grownBy w8 none) := g8
    obtain ⟨x0, x1, x2, x3, xl⟩ := HCl.out w8 (grown_trans HG7.out g8)
    clear g8
    go_wp2_with fail
    refine (HFl.out _ (grown_trans HG7.out HG8.out)).mono ?_
    rintro e w9 ⟨⟨z9, rfl⟩, g9⟩
    have HG9 : Hid (w7.grownBy w9 none) := grown_trans HG8.out g9
    have HGw9 : Hid (wr.grownBy w9 none) := grown_trans HG7.out HG9.out
    clear g9 x0 x1 x2 x3 xl HFl
    obtain ⟨x0, x1, x2, x3, xl⟩ := HCl.out w9 HGw9.out
    by_cases hz9 : z9 = 0
    case neg =>
      have d2 : (z9 == 0) = false := by simpa using hz9
      have d3 : (z9 != 0) = true := by simpa using hz9
      go_wp2_with fail
      go_roundw
      case rel => exact ⟨i + 1, by go_num, by omega, grown_trans HG.out HGw9.out⟩
      case measure => simp [intOf]; omega
    subst hz9
    obtain ⟨TB, hTB⟩ : ∃ TB, TB = w9.heap.size := ⟨_, rfl⟩
    obtain ⟨w10, hmk, ho, hg10⟩ := run_make_n w9 c.blocks.length (by omega)
    rw [← hTB] at hmk ho
    have HO10 : Hid (OwnN w10 TB (.slice (some ⟨TB, 0, none⟩) c.blocks.length c.blocks.length) c.blocks.length (fun _ => 0)) := ho
    have HB10 : Hid (Below TB w9 w10) := by rw [hTB]; exact (Ch.of (l := []) hg10).below (Nat.le_refl _) (by simp)
    have HBn : Hid (∀ W, Below TB w9 W → w9.grownBy W none) := fun W g => belowNone (by rw [← hTB]; exact g)
    have HTB : Hid (TB = w9.heap.size) := hTB
    have HZ9 : Hid (OwnN w9 w6.heap.size (.slice (some ⟨PB, 0, none⟩) (q + 1) pc) (q + 1) (fun i => p.getD i 0)) := HZ7.out.grow HG9.out
    clear ho hg10 hTB
    go_wp2_with fail
    clear hmk x0 x1 x2 x3 xl HZ7 HG7 HG8 HG6 HG5 HW1 HG1
    go_loopw [7] (fun iv wq => ∃ j : Nat, iv = .int .i64 j ∧ j ≤ c.blocks.length ∧ OwnN wq TB (.slice (some ⟨TB, 0, none⟩) c.blocks.length c.blocks.length) c.blocks.length (fun b => if b < j then -1 else 0) ∧ Below TB w9 wq) (fun iv _ => c.blocks.length - (intOf iv).toNat)
    case atStart => exact ⟨0, rfl, Nat.zero_le _, HO10.out.congr (fun b _ => by simp), HB10.out⟩
    case round =>
      obtain ⟨j, rfl, hj, ho, hb⟩ := hrel
      have HO : Hid (OwnN wr TB (.slice (some ⟨TB, 0, none⟩) c.blocks.length c.blocks.length) c.blocks.length (fun b => if b < j then -1 else 0)) := ho
      have HB : Hid (Below TB w9 wr) := hb
      clear ho hb HO10 HB10
      by_cases hjl : j < c.blocks.length
      case pos =>
        have e1 : (j : Int) < (c.blocks.length : Int) := by omega
        have f1 := HO.out.frozen j
        have f2 := HO.out.cell hjl
        rw [if_neg (Nat.lt_irrefl j)] at f2
        go_wp2_with fail
        go_roundw
        case rel => exact ⟨j + 1, by go_num, by omega, (HO.out.set hjl (-1)).congr (fun b _ => by
          unfold setF
          by_cases e : b = j
          · subst e; simp
          · rw [if_neg e]
            show (if b < j then (-1 : Int) else 0) = if b < j + 1 then -1 else 0
            by_cases e2 : b < j
            · rw [if_pos e2, if_pos (by omega)]
            · rw [if_neg e2, if_neg (by omega)]), HB.out.setCell (Nat.le_refl _) _⟩
        case measure => simp [intOf]; omega
      obtain rfl : j = c.blocks.length := by omega
      have e1 : ¬ (c.blocks.length : Int) < (c.blocks.length : Int) := by omega
      have e2 : decide ((c.blocks.length : Int) < (c.blocks.length : Int)) = false := decide_eq_false e1
      have HO11 : Hid (OwnN wr TB (.slice (some ⟨TB, 0, none⟩) c.blocks.length c.blocks.length) c.blocks.length (Sa.rkP p 0)) := HO.out.congr (fun b hb => by rw [if_pos hb]; rfl)
      clear HO
      go_wp2_with fail
      clear e1 e2
      go_loopw [8] (fun iv wq => ∃ j : Nat, iv = .int .i64 j ∧ j ≤ q + 1 ∧ OwnN wq TB (.slice (some ⟨TB, 0, none⟩) c.blocks.length c.blocks.length) c.blocks.length (Sa.rkP p j) ∧ Below TB w9 wq) (fun iv _ => q + 1 - (intOf iv).toNat)
      case atStart => exact ⟨0, rfl, Nat.zero_le _, HO11.out, HB.out⟩
      case round =>
        obtain ⟨j, rfl, hj, ho, hb⟩ := hrel
        clear HO11 HB hjl
        have HO : Hid (OwnN wr TB (.slice (some ⟨TB, 0, none⟩) c.blocks.length c.blocks.length) c.blocks.length (Sa.rkP p j)) := ho
        have HB : Hid (Below TB w9 wr) := hb
        have HG11 : Hid (w9.grownBy wr none) := HBn.out wr hb
        clear ho hb
        by_cases hjl : j < q + 1
        case pos =>
          have e1 : (j : Int) < ((q + 1 : Nat) : Int) := by omega
          have e1' : (j : Int) < (q : Int) + 1 := by omega
          obtain ⟨y, hyb, hye, hyk⟩ := HPp.out.rg _ (Sa.getD_mem (i := j) (by rw [HQ.out]; exact hjl))
          have hyI : (y : Int) < (c.blocks.length : Int) := by omega
          have hpc := (HZ9.out.grow HG11.out).cell hjl
          have hnew := HPp.out.new (k := j) (by rw [HQ.out]; exact hjl)
          rw [hye] at hpc
          rw [hye, Int.toNat_natCast] at hnew
          have hrc := HO.out.cell hyb
          rw [hnew] at hrc
          have hGwr := grown_trans HGw9.out HG11.out
          obtain ⟨bb, bo, b1, b2, b3, b4, m1, m2, m3, m4, hba, hbN, hbl⟩ := ((HCr.out wr hGwr).blocks).num hyb
          subst hba
          obtain ⟨x, hx⟩ : ∃ x, x = c.blocks.getD y Sa.bl0 := ⟨_, rfl⟩
          rw [← hx] at hbl hyk
          have hkd : (x.kind == 0) = false := by simpa using hyk
          have n4 : ¬ (c.blocks.length : Int) ≤ (y : Int) := by omega
          have n6 : ¬ c.blocks.length ≤ y := by omega
          have n7 : ¬ (q : Int) + 1 ≤ (j : Int) := by omega
          have n8 : ¬ q + 1 ≤ j := by omega
          have HBk : Hid (∀ W, wr.grownBy W none → W.cell? ⟨PB, j, none⟩ = some (.int .i64 (y : Int)) ∧ W.cell? ⟨TB, y, none⟩ = some (.int .i64 (-1)) ∧ W.cell? ⟨cb, co + i * 4 + 3, none⟩ = some (.slice (some ⟨bb, bo, none⟩) c.blocks.length q4) ∧ W.cell? ⟨bb, bo + y * 6, none⟩ = some (.int .i64 x.kind) ∧ W.cell? ⟨bb, bo + y * 6 + 1, none⟩ = some (.int .i64 x.n) ∧ W.cell? ⟨bb, bo + y * 6 + 2, none⟩ = some (.slice b1 x.args.length m1) ∧ W.cell? ⟨bb, bo + y * 6 + 3, none⟩ = some (.slice b2 x.preds.length m2) ∧ W.cell? ⟨bb, bo + y * 6 + 4, none⟩ = some (.slice b3 x.succs.length m3) ∧ W.cell? ⟨bb, bo + y * 6 + 5, none⟩ = some (.slice b4 x.list.length m4)) := fun W g => ⟨g.cell hpc (by simp), g.cell hrc (by simp), (HCl.out W (grown_trans hGwr g)).2.2.2.1, g.cell hbl.c0 (by simp), g.cell hbl.c1 (by simp), g.cell hbl.c2 (by simp), g.cell hbl.c3 (by simp), g.cell hbl.c4 (by simp), g.cell hbl.c5 (by simp)⟩
          have HHo : ∀ W, wr.grownBy W none → Calls Try.prog 11 #[.agg #[.int .i64 x.kind, .int .i64 x.n, .slice b1 x.args.length m1, .slice b2 x.preds.length m2, .slice b3 x.succs.length m3, .slice b4 x.list.length m4]] W fun r w' => r = .returned (.bool false) ∧ W.grownBy w' none := fun W _ => by
            have h9 := flHole_any x.kind (.int .i64 x.n) (.slice b1 x.args.length m1) (.slice b2 x.preds.length m2) (.slice b3 x.succs.length m3) (.slice b4 x.list.length m4) W
            rw [hkd] at h9
            exact h9
          have HYe : Hid (p.getD j 0 = (y : Int)) := hye
          clear hx hyk hye hnew hbl hkd hrc hpc hbN
          go_wp2_with fail
          refine region_lga 38 (World.grownBy.refl _ _) (by kernel_rfl) (by kernel_rfl) (by kernel_rfl) (by kernel_rfl) ?_
          repeat (first
            | (refine lx_end fun W0 G0 => ?_)
            | (refine lx_no ?_ ?_ ?_; (· simp [Region.wanted, yielded]; done); (· kernel_rfl); simp only [Act.put, List.setIfInBounds_toArray, List.set_cons_succ, List.set_cons_zero])
            | (refine lx_val (v := ?_) ?_ ?_ ?_ ?_; rotate_left; (· kernel_rfl); (· exact ⟨by kernel_rfl, rfl⟩); (· intro W g; simp [go_sem, (HBk.out W g).1, (HBk.out W g).2.1, (HBk.out W g).2.2.1, (HBk.out W g).2.2.2.1, (HBk.out W g).2.2.2.2.1, (HBk.out W g).2.2.2.2.2.1, (HBk.out W g).2.2.2.2.2.2.1, (HBk.out W g).2.2.2.2.2.2.2.1, (HBk.out W g).2.2.2.2.2.2.2.2, c1, e1', hyI, n6]; rfl); simp only [Act.put, List.setIfInBounds_toArray, List.set_cons_succ, List.set_cons_zero])
            | (refine lx_callg HHo ?_ ?_ ?_ ?_; (· kernel_rfl); (· exact ⟨by kernel_rfl, rfl⟩); (· intro W g; simp [go_sem]; done); simp only [Act.put, List.setIfInBounds_toArray, List.set_cons_succ, List.set_cons_zero]))
          have HO12 : Hid (OwnN W0 TB (.slice (some ⟨TB, 0, none⟩) c.blocks.length c.blocks.length) c.blocks.length (Sa.rkP p j)) := HO.out.grow G0
          have HB12 : Hid (Below TB w9 W0) := HB.out.grown G0 (by have := HTB.out; have := HG11.out.size; omega) (by intro k hk; cases hk)
          have x1 := (HBk.out W0 G0).1
          have x2 := (HBk.out W0 G0).2.1
          have f1 := HO12.out.frozen y
          clear HBk HHo G0 hGwr
          go_wp2_with fail
          go_roundw
          case rel => exact ⟨j + 1, by go_num, by omega, (HO12.out.set hyb (j : Int)).congr (fun b _ => by
            show setF (Sa.rkP p j) y (j : Int) b = setF (Sa.rkP p j) (p.getD j 0).toNat (j : Int) b
            rw [HYe.out, Int.toNat_natCast]), HB12.out.setCell (Nat.le_refl _) _⟩
          case measure => simp [intOf]; omega
        obtain rfl : j = q + 1 := by omega
        have e1 : ¬ ((q + 1 : Nat) : Int) < ((q + 1 : Nat) : Int) := by omega
        have e1' : ¬ (q : Int) + 1 < (q : Int) + 1 := by omega
        clear hj hjl
        go_wp2_with fail
        clear e1 e1'
        rw [← HQ.out] at HO
        go_loopw [9, 10] (fun hv kv wq => ∃ j : Nat, hv = .int .i64 (Sa.holesN c.blocks j) ∧ kv = .int .i64 j ∧ j ≤ c.blocks.length ∧ OwnN wq TB (.slice (some ⟨TB, 0, none⟩) c.blocks.length c.blocks.length) c.blocks.length (Sa.rkP p p.length) ∧ Below TB w9 wq) (fun _ kv _ => c.blocks.length - (intOf kv).toNat)
        case atStart => exact ⟨0, rfl, rfl, Nat.zero_le _, HO.out, HB.out⟩
        case round =>
          obtain ⟨j, rfl, rfl, hj, ho, hb⟩ := hrel
          clear HO HB HG11
          have HO : Hid (OwnN wr TB (.slice (some ⟨TB, 0, none⟩) c.blocks.length c.blocks.length) c.blocks.length (Sa.rkP p p.length)) := ho
          have HB : Hid (Below TB w9 wr) := hb
          have HG11 : Hid (w9.grownBy wr none) := HBn.out wr hb
          obtain ⟨x0, x1, x2, x3, xl⟩ := HCl.out wr (grown_trans HGw9.out HG11.out)
          clear ho hb
          by_cases hjl : j < c.blocks.length
          case neg =>
            obtain rfl : j = c.blocks.length := by omega
            have e1 : ¬ (c.blocks.length : Int) < (c.blocks.length : Int) := by omega
            have hsum : (q : Int) + 1 + (Sa.holesN c.blocks c.blocks.length : Int) = (c.blocks.length : Int) := by have := HPp.out.holes; rw [HQ.out] at this; omega
            have hq0 := HPp.out.ne.2
            rw [HQ.out] at hq0
            have hpc := (HZ9.out.grow HG11.out).cell (i := q) (by omega)
            have hq0' : p.getD q 0 = 0 := hq0
            rw [hq0'] at hpc
            clear hq0 hq0' hj hjl
            generalize Sa.holesN c.blocks c.blocks.length = hh at *
            have n9 : ¬ (q : Int) + 1 = 0 := by omega
            have n10 : (q : Int) < (q : Int) + 1 := by omega
            have n11 : (q : Int) + 1 - 1 = (q : Int) := by omega
            go_wp2_with fail
            go_roundw
            case rel => exact ⟨i + 1, by go_num, by omega, grown_trans HG.out (grown_trans HGw9.out HG11.out)⟩
            case measure => simp [intOf]; omega
          have e1 : (j : Int) < (c.blocks.length : Int) := by omega
          have hGwr := grown_trans HGw9.out HG11.out
          obtain ⟨bb, bo, b1, b2, b3, b4, m1, m2, m3, m4, hba, hbN, hbl⟩ := ((HCr.out wr hGwr).blocks).num hjl
          subst hba
          obtain ⟨x, hx⟩ : ∃ x, x = c.blocks.getD j Sa.bl0 := ⟨_, rfl⟩
          rw [← hx] at hbl
          have HX : Hid (x = c.blocks.getD j Sa.bl0) := hx
          have y0 := hbl.c0
          have y1 := hbl.c1
          have y2 := hbl.c2
          have y3 := hbl.c3
          have y4 := hbl.c4
          have y5 := hbl.c5
          have hbw : bb < wr.heap.size := by have := HG.out.size; have := hGwr.size; omega
          have HHo : Hid (∀ W, Calls Try.prog 11 #[.agg #[.int .i64 x.kind, .int .i64 x.n, .slice b1 x.args.length m1, .slice b2 x.preds.length m2, .slice b3 x.succs.length m3, .slice b4 x.list.length m4]] W fun r w' => r = .returned (.bool (x.kind == 0)) ∧ W.grownBy w' none) := fun W => flHole_any _ _ _ _ _ _ W
          have HSu : Hid (∀ W, wr.grownBy W none → NumL (· < w.heap.size) W b3 m3 x.succs) := fun W g => hbl.succs.grow1 g
          have hsle := hbl.succs.le
          have hsmx := hbl.succs.max
          unfold maxLen at hsmx
          have HBy : Hid (∀ W, wr.grownBy W none → W.cell? ⟨bb, bo + j * 6 + 4, none⟩ = some (.slice b3 x.succs.length m3) ∧ bb < W.heap.size) := fun W g => ⟨g.cell hbl.c4 (by simp), by have := g.size; omega⟩
          have hhN : Sa.holesN c.blocks (j + 1) = Sa.holesN c.blocks j + (if x.kind = 0 then 1 else 0) := by rw [hx]; rfl
          have HhN : Hid (Sa.holesN c.blocks (j + 1) = Sa.holesN c.blocks j + (if x.kind = 0 then 1 else 0)) := hhN
          have hhl : ∀ n, Sa.holesN c.blocks n ≤ n := fun n => by
            induction n with
            | zero => exact Nat.le_refl _
            | succ n ih => unfold Sa.holesN; split <;> omega
          have hhj := hhl j
          have HGr : Hid (wr.grownBy wr none) := World.grownBy.refl _ _
          clear hbl hx hhN hhl hGwr
          by_cases hk0 : x.kind = 0
          · have hk0b : (x.kind == 0) = true := by simpa using hk0
            have h2 := HhN.out
            rw [if_pos hk0] at h2
            have H2 : Hid (Sa.holesN c.blocks (j + 1) = Sa.holesN c.blocks j + 1) := h2
            rw [hk0b] at HHo
            clear hk0 hk0b h2
            generalize Sa.holesN c.blocks j = hh at *
            go_wp2_with fail
            refine (HHo.out _).mono ?_
            rintro e w12 ⟨rfl, g12⟩
            have HO12 : Hid (OwnN w12 TB (.slice (some ⟨TB, 0, none⟩) c.blocks.length c.blocks.length) c.blocks.length (Sa.rkP p p.length)) := HO.out.grow g12
            have HB12 : Hid (Below TB w9 w12) := HB.out.grown g12 (by have := HTB.out; have := HG11.out.size; omega) (by intro k hk; cases hk)
            clear g12 x0 x1 x2 x3 xl y0 y1 y2 y3 y4 y5
            go_wp2_with fail
            go_roundw
            case rel => exact ⟨j + 1, by rw [H2.out]; go_num, by go_num, by omega, HO12.out, HB12.out⟩
            case measure => simp [intOf]; omega
          have hk0b : (x.kind == 0) = false := by simpa using hk0
          have HK0 : Hid (¬ x.kind = 0) := hk0
          have h2 := HhN.out
          rw [if_neg hk0] at h2
          have H2 : Hid (Sa.holesN c.blocks (j + 1) = Sa.holesN c.blocks j) := h2
          rw [hk0b] at HHo
          clear hk0 hk0b h2
          generalize Sa.holesN c.blocks j = hh at *
          go_wp2_with fail
          refine (HHo.out _).mono ?_
          rintro e w12 ⟨rfl, g12⟩
          have HO12 : Hid (OwnN w12 TB (.slice (some ⟨TB, 0, none⟩) c.blocks.length c.blocks.length) c.blocks.length (Sa.rkP p p.length)) := HO.out.grow g12
          have HB12 : Hid (Below TB w9 w12) := HB.out.grown g12 (by have := HTB.out; have := HG11.out.size; omega) (by intro k hk; cases hk)
          have HSt : Hid (∀ W, Below TB w9 W → W.heap.size ≥ TB) := fun W g => by have := HTB.out; have := g.size; omega
          have HS9 : Hid (∀ W, Below TB w9 W → NumL (· < w.heap.size) W b3 m3 x.succs) := fun W g => by
            have h9 := ((HCr.out W (grown_trans HGw9.out (HBn.out W g))).blocks).at0 hjl
            obtain ⟨b1', b2', b3', b4', m1', m2', m3', m4', _, hbl'⟩ := h9
            rw [← HX.out] at hbl'
            have e9 := hbl'.c4
            have e8 : W.cell? ⟨bb, bo + j * 6 + 4, none⟩ = wr.cell? ⟨bb, bo + j * 6 + 4, none⟩ := by
              have t1 := g.cell (p := ⟨bb, bo + j * 6 + 4, none⟩) (by show bb < TB; have := HTB.out; have := HG.out.size; have := HGw9.out.size; omega)
              have t2 := HB.out.cell (p := ⟨bb, bo + j * 6 + 4, none⟩) (by show bb < TB; have := HTB.out; have := HG.out.size; have := HGw9.out.size; omega)
              exact t1.trans t2.symm
            rw [e8, (HBy.out wr HGr.out).1] at e9
            injection e9 with e9
            injection e9 with e9 _ e7
            subst e9 e7
            exact hbl'.succs
          obtain ⟨yy4, ybb⟩ := HBy.out w12 g12
          obtain ⟨z0, z1, z2, z3, zl⟩ := HCl.out w12 (grown_trans HGw9.out (HBn.out w12 HB12.out))
          clear g12 x0 x1 x2 x3 xl y0 y1 y2 y3 y4 y5 HSu HBy HhN HGr
          go_wp2_with fail
          clear yy4 ybb z0 z1 z2 z3 zl hbw
          go_loopw [12] (fun kv wq => ∃ e : Nat, kv = .int .i64 e ∧ e ≤ x.succs.length ∧ OwnN wq TB (.slice (some ⟨TB, 0, none⟩) c.blocks.length c.blocks.length) c.blocks.length (Sa.rkP p p.length) ∧ Below TB w9 wq) (fun kv _ => x.succs.length - (intOf kv).toNat)
          case atStart => exact ⟨0, rfl, Nat.zero_le _, HO12.out, HB12.out⟩
          case round =>
            obtain ⟨e, rfl, he, ho, hb⟩ := hrel
            clear HO12 HB12 HO HB HG11
            have HO : Hid (OwnN wr TB (.slice (some ⟨TB, 0, none⟩) c.blocks.length c.blocks.length) c.blocks.length (Sa.rkP p p.length)) := ho
            have HB : Hid (Below TB w9 wr) := hb
            have HG11 : Hid (w9.grownBy wr none) := HBn.out wr hb
            clear ho hb
            by_cases hel : e < x.succs.length
            case neg =>
              have d1 : ¬ (e : Int) < (x.succs.length : Int) := by omega
              have d2 : decide ((e : Int) < (x.succs.length : Int)) = false := decide_eq_false d1
              go_wp2_with fail
              go_roundw
              case rel => exact ⟨j + 1, by rw [H2.out], by go_num, by omega, HO.out, HB.out⟩
              case measure => simp [intOf]; omega
            have d1 : (e : Int) < (x.succs.length : Int) := by omega
            obtain ⟨sb, so, hsb, _, hz⟩ := (HS9.out wr HB.out).at hel
            unfold NumQ at hz
            rw [Nat.mul_one] at hz
            subst hsb
            have hse : x.succs[e] ∈ (c.blocks.getD j Sa.bl0).succs := by rw [← HX.out]; exact List.getElem_mem hel
            have hsr := Sa.leads HWy.out j hjl _ hse
            obtain ⟨y, hy⟩ : ∃ y : Nat, x.succs[e] = (y : Int) := ⟨(x.succs[e]).toNat, by omega⟩
            rw [hy] at hz hse hsr
            have hyb : y < c.blocks.length := by omega
            have hyI : (y : Int) < (c.blocks.length : Int) := by omega
            have HWay : Hid (Sa.rkP p p.length j < Sa.rkP p p.length y → Sa.Reach c.blocks y j) := fun hr => HPp.out.way (Sa.leads HWy.out) hjl (by rw [← HX.out]; exact HK0.out) hse hr
            have hry := HO.out.cell hyb
            have hrj := HO.out.cell hjl
            have hGwr := grown_trans HGw9.out HG11.out
            have n4 : ¬ (c.blocks.length : Int) ≤ (y : Int) := by omega
            have n6 : ¬ c.blocks.length ≤ y := by omega
            have n7 : ¬ (x.succs.length : Int) ≤ (e : Int) := by omega
            have n8 : ¬ x.succs.length ≤ e := by omega
            have n9 : ¬ (c.blocks.length : Int) ≤ (j : Int) := by omega
            have n10 : ¬ c.blocks.length ≤ j := by omega
            obtain ⟨ry, hrye⟩ : ∃ ry, ry = Sa.rkP p p.length y := ⟨_, rfl⟩
            obtain ⟨rj, hrje⟩ : ∃ rj, rj = Sa.rkP p p.length j := ⟨_, rfl⟩
            rw [← hrye] at hry HWay
            rw [← hrje] at hrj HWay
            have HBk : Hid (∀ W, wr.grownBy W none → W.cell? ⟨sb, so + e, none⟩ = some (.int .i64 (y : Int)) ∧ W.cell? ⟨TB, y, none⟩ = some (.int .i64 ry) ∧ W.cell? ⟨TB, j, none⟩ = some (.int .i64 rj) ∧ W.cell? ⟨cb, co + i * 4, none⟩ = some (.slice p1 c.params.length q1) ∧ W.cell? ⟨cb, co + i * 4 + 1, none⟩ = some (.slice p2 c.results.length q2) ∧ W.cell? ⟨cb, co + i * 4 + 2, none⟩ = some (.slice p3 c.values.length q3) ∧ W.cell? ⟨cb, co + i * 4 + 3, none⟩ = some (.slice (some ⟨bb, bo, none⟩) c.blocks.length q4)) := fun W g => by
              have h9 := HCl.out W (grown_trans hGwr g)
              exact ⟨g.cell hz (by simp), g.cell hry (by simp), g.cell hrj (by simp), h9.1, h9.2.1, h9.2.2.1, h9.2.2.2.1⟩
            have HRe : rj < ry → ∀ W, wr.grownBy W none → Calls Try.prog 15 #[.agg #[.slice p1 c.params.length q1, .slice p2 c.results.length q2, .slice p3 c.values.length q3, .slice (some ⟨bb, bo, none⟩) c.blocks.length q4], .int .i64 (y : Int), .int .i64 (j : Int)] W fun r w' => r = .returned (.bool true) ∧ W.grownBy w' none := fun hr W g => by
              refine (flReaches_any (NN := w.heap.size) (by have := HG.out.size; have := (grown_trans hGwr g).size; omega) (HCr.out W (grown_trans hGwr g)).blocks (Sa.leads HWy.out) h4 hyb hjl).mono ?_
              rintro r w' ⟨R, rfl, hR, g'⟩
              rw [hR (HWay.out hr)]
              exact ⟨rfl, g'⟩
            clear hrye hrje hry hrj hz hse hsr hy
            by_cases hgt : rj < ry
            · have HRx := HRe hgt
              have u1 : decide (rj < ry) = true := decide_eq_true hgt
              clear HRe
              go_wp2_with fail
              refine region_lga 25 (World.grownBy.refl _ _) (by kernel_rfl) (by kernel_rfl) (by kernel_rfl) (by kernel_rfl) ?_
              repeat (first
                | (refine lx_end fun W0 G0 => ?_)
                | (refine lx_no ?_ ?_ ?_; (· simp [Region.wanted, yielded]; done); (· kernel_rfl); simp only [Act.put, List.setIfInBounds_toArray, List.set_cons_succ, List.set_cons_zero])
                | (refine lx_val (v := ?_) ?_ ?_ ?_ ?_; rotate_left; (· kernel_rfl); (· exact ⟨by kernel_rfl, rfl⟩); (· intro W g; simp [go_sem, (HBk.out W g).1, (HBk.out W g).2.1, (HBk.out W g).2.2.1, (HBk.out W g).2.2.2.1, (HBk.out W g).2.2.2.2.1, (HBk.out W g).2.2.2.2.2.1, (HBk.out W g).2.2.2.2.2.2, c1, d1, hyI, n9, hgt]; rfl); simp only [Act.put, List.setIfInBounds_toArray, List.set_cons_succ, List.set_cons_zero])
                | (refine lx_callg HRx ?_ ?_ ?_ ?_; (· kernel_rfl); (· exact ⟨by kernel_rfl, rfl⟩); (· intro W g; simp [go_sem]; done); simp only [Act.put, List.setIfInBounds_toArray, List.set_cons_succ, List.set_cons_zero]))
              have HO13 : Hid (OwnN W0 TB (.slice (some ⟨TB, 0, none⟩) c.blocks.length c.blocks.length) c.blocks.length (Sa.rkP p p.length)) := HO.out.grow G0
              have HB13 : Hid (Below TB w9 W0) := HB.out.grown G0 (by have := HTB.out; have := HG11.out.size; omega) (by intro k hk; cases hk)
              clear HBk HRx G0 hGwr
              go_wp2_with fail
              go_roundw
              case rel => exact ⟨e + 1, by go_num, by omega, HO13.out, HB13.out⟩
              case measure => simp [intOf]; omega
            · have u1 : decide (rj < ry) = false := decide_eq_false hgt
              clear HRe
              go_wp2_with fail
              refine region_lga 25 (World.grownBy.refl _ _) (by kernel_rfl) (by kernel_rfl) (by kernel_rfl) (by kernel_rfl) ?_
              repeat (first
                | (refine lx_end fun W0 G0 => ?_)
                | (refine lx_no ?_ ?_ ?_; (· simp [Region.wanted, yielded]; done); (· kernel_rfl); simp only [Act.put, List.setIfInBounds_toArray, List.set_cons_succ, List.set_cons_zero])
                | (refine lx_val (v := ?_) ?_ ?_ ?_ ?_; rotate_left; (· kernel_rfl); (· exact ⟨by kernel_rfl, rfl⟩); (· intro W g; simp [go_sem, (HBk.out W g).1, (HBk.out W g).2.1, (HBk.out W g).2.2.1, d1, hyI, n9, Int.not_lt.2 hgt]; rfl); simp only [Act.put, List.setIfInBounds_toArray, List.set_cons_succ, List.set_cons_zero]))
              have HO13 : Hid (OwnN W0 TB (.slice (some ⟨TB, 0, none⟩) c.blocks.length c.blocks.length) c.blocks.length (Sa.rkP p p.length)) := HO.out.grow G0
              have HB13 : Hid (Below TB w9 W0) := HB.out.grown G0 (by have := HTB.out; have := HG11.out.size; omega) (by intro k hk; cases hk)
              clear HBk G0 hGwr
              go_wp2_with fail
              go_roundw
              case rel => exact ⟨e + 1, by go_num, by omega, HO13.out, HB13.out⟩
              case measure => simp [intOf]; omega
end Go.Proofs.Ytbpdggdpgohilaa
