/- ssa: what Kinds, Preds and Succs of blocks say. -/
import Derived.Test.YtbpdggdpgohilaaG6
namespace Go.Proofs.Ytbpdggdpgohilaa
open Go.RowKit
set_option linter.unusedVariables false
set_option maxRecDepth 100000
set_option maxHeartbeats 8000000

theorem saBlk1_any {B : Nat → Prop} {w : World} {a : Option Addr} {k nb : Nat} {bs : List Sa.Bl} (h : BlL B w a k bs) (hb : w.cell? ⟨nb, 0, none⟩ = some (.slice a bs.length k)) (n : Int) : Calls Try.prog 55 #[.int .i64 n, .pointer (some ⟨nb, 0, none⟩)] w fun r w' => r = .returned (.bool (!Sa.isBlk bs n)) ∧ w.grownBy w' none := by
  have HN : Hid (∀ many x W, Calls Try.prog 56 #[.int .i64 (many : Nat), .int .i64 x] W fun r w' => r = .returned (.bool (Sa.isNum many x)) ∧ w' = W) := saNum_any
  unfold Sa.isBlk
  cases hn : Sa.isNum bs.length n with
  | false =>
    have HE : Hid (Sa.isNum bs.length n = false) := hn
    clear hn h
    go_enter Try.func55, Try.ntmps55
    go_wp2_with (go_at_call 56; refine (HN.out _ _ _).mono ?_; rw [HE.out]; rintro e w3 ⟨rfl, hw3⟩; rw [hw3]; clear hw3 w3)
    go_ret
    exact ⟨by simp, World.grownBy.refl _ _⟩
  | true =>
    obtain ⟨h0, h1⟩ := Sa.isNum_iff.1 hn
    have HE : Hid (Sa.isNum bs.length n = true) := hn
    obtain ⟨i, rfl⟩ : ∃ i : Nat, n = (i : Int) := ⟨n.toNat, by omega⟩
    obtain ⟨b, o, a1, a2, a3, a4, k1, k2, k3, k4, ha, _, hv⟩ := h.num (n := i) (by omega)
    have c0 := hv.c0
    rw [ha] at hb
    rw [Int.toNat_natCast]
    clear hn h hv h0
    generalize (bs.getD i Sa.bl0).kind = op at *
    go_enter Try.func55, Try.ntmps55
    go_wp2_with (go_at_call 56; refine (HN.out _ _ _).mono ?_; rw [HE.out]; rintro e w3 ⟨rfl, hw3⟩; rw [hw3]; clear hw3 w3)
    go_ret
    exact ⟨by simp [bne], World.grownBy.refl _ _⟩
theorem saBlks_any {B : Nat → Prop} {w : World} {a : Option Addr} {k : Nat} {bs : List Sa.Bl} (h : BlL B w a k bs) {B2 : Nat → Prop} {a2 : Option Addr} {k2 : Nat} {l : List Int} (hl : NumL B2 w a2 k2 l) : Calls Try.prog 47 #[.slice a bs.length k, .slice a2 l.length k2] w fun r w' => r = .returned (.bool (Sa.areBlks bs l)) ∧ w.grownBy w' none := by
  have g1 := World.grownBy_alloc w (Obj.cells #[.slice a bs.length k] 26) none
  have hk : Bk (w.alloc (Obj.cells #[.slice a bs.length k] 26)) w.heap.size 26 [.slice a bs.length k] := Bk.new _ _ _
  have HC : Hid (Calls Try.prog 54 #[.slice a2 l.length k2, .func (.func 55) #[] #[.pointer (some ⟨w.heap.size, 0, none⟩)]] (w.alloc (Obj.cells #[.slice a bs.length k] 26)) fun r w' => r = .returned (.bool (l.any fun n => !Sa.isBlk bs n)) ∧ (w.alloc (Obj.cells #[.slice a bs.length k] 26)).grownBy w' none) := saBlk_con (NumL.grow1 hl g1) (fun x _ W g => saBlk1_any (h.grow (grown_trans g1 g)) ((hk.grow g).cell (i := 0) rfl) x)
  have HA : Hid ((!l.any fun n => !Sa.isBlk bs n) = l.all (Sa.isBlk bs)) := all_not_any _ _
  have HG : Hid (w.grownBy (w.alloc (Obj.cells #[.slice a bs.length k] 26)) none) := g1
  have hmf : ∀ (fn : Fn) (first cap : Array Value) (w : World), (Instr.makeFunc fn first cap).run Try.prog w = .ok (.func fn first cap) w := fun _ _ _ _ => rfl
  unfold Sa.areBlks
  clear h hl g1 hk
  generalize (l.any fun n => !Sa.isBlk bs n) = z at *
  generalize l.all (Sa.isBlk bs) = y at *
  go_enter Try.func47, Try.ntmps47
  go_wp2_with (go_at_call 54; refine HC.out.mono ?_; rintro e w3 ⟨rfl, hg3⟩; have HG3 : Hid (w.grownBy w3 none) := grown_trans HG.out hg3; clear hg3)
  go_ret
  exact ⟨by rw [← HA.out]; rfl, HG3.out⟩
/-- what a list of questions ends with -/
abbrev saE (b : Bool) (e : Int) : Ending := bif b then .returned (.tuple #[]) else saF e
theorem saWays_any {B : Nat → Prop} {w : World} {a : Option Addr} {k : Nat} {bs : List Sa.Bl} (h : BlL B w a k bs) : Calls Try.prog 37 #[.slice a bs.length k] w fun r w' => r = saE (Sa.waysB bs) 130 ∧ w.grownBy w' none := by
  have hle := h.le
  have hmx := h.max
  unfold maxLen at hmx
  have HL : Hid (∀ W, w.grownBy W none → BlL B W a k bs) := fun W g => h.grow g
  have HM : Hid (∀ (b : Bool) (e : Int) W, Calls Try.prog 46 #[.bool b, .int .i64 e] W fun r w' => r = (bif b then .returned (.tuple #[]) else saF e) ∧ w' = W) := saMust_any
  have HW : Hid (Sa.waysB bs = ((decide (0 < bs.length) && decide (bs.length ≤ 4096)) && bs.all (Sa.wayB bs))) := rfl
  clear h
  by_cases h0 : 0 < bs.length
  case neg =>
    have p0 : ¬ ((0 : Int) < (bs.length : Int)) := by omega
    have HR : Hid (Sa.waysB bs = false) := (by rw [HW.out, decide_eq_false h0]; rfl : Sa.waysB bs = false)
    clear h0
    go_enter Try.func37, Try.ntmps37
    go_wp2_with (go_at_call 46; refine (HM.out _ _ _).mono ?_; rintro e w3 ⟨rfl, hw3⟩; rw [hw3]; clear hw3 w3; (try simp only [d1]); (try simp only [e0]); (try simp only [e1]); (try simp only [e2]); (try simp only [e3]); (try simp only [e4]); simp only [cond_false])
    exact ⟨rfl, by rw [HR.out]; rfl, World.grownBy.refl _ _⟩
  have p0 : (0 : Int) < (bs.length : Int) := by omega
  by_cases h1 : bs.length ≤ 4096
  case neg =>
    have d1 : decide ((bs.length : Int) ≤ 4096) = false := decide_eq_false (by omega)
    have HR : Hid (Sa.waysB bs = false) := (by rw [HW.out, decide_eq_false h1]; simp : Sa.waysB bs = false)
    clear h0 h1
    go_enter Try.func37, Try.ntmps37
    go_wp2_with (go_at_call 46; refine (HM.out _ _ _).mono ?_; rintro e w3 ⟨rfl, hw3⟩; rw [hw3]; clear hw3 w3; (try simp only [d1]); (try simp only [e0]); (try simp only [e1]); (try simp only [e2]); (try simp only [e3]); (try simp only [e4]); simp only [cond_false])
    exact ⟨rfl, by rw [HR.out]; rfl, World.grownBy.refl _ _⟩
  have d1 : decide ((bs.length : Int) ≤ 4096) = true := decide_eq_true (by omega)
  have HW2 : Hid (Sa.waysB bs = bs.all (Sa.wayB bs)) := (by rw [HW.out, decide_eq_true h0, decide_eq_true h1]; simp : Sa.waysB bs = bs.all (Sa.wayB bs))
  clear h0 h1 HW
  go_enter Try.func37, Try.ntmps37
  go_wp2_with (go_at_call 46; refine (HM.out _ _ _).mono ?_; rintro e w3 ⟨rfl, hw3⟩; rw [hw3]; clear hw3 w3; (try simp only [d1]); (try simp only [e0]); (try simp only [e1]); (try simp only [e2]); (try simp only [e3]); (try simp only [e4]); simp only [cond_true])
  clear p0 d1
  go_loopw [15] (fun ix wr => ∃ i : Nat, ix = .int .i64 i ∧ i ≤ bs.length ∧ (bs.take i).all (Sa.wayB bs) = true ∧ w.grownBy wr none) (fun ix _ => bs.length - (intOf ix).toNat)
  case atStart => exact ⟨0, rfl, Nat.zero_le _, rfl, World.grownBy.refl _ _⟩
  case round =>
    obtain ⟨i, rfl, hi, ha, hg⟩ := hrel
    by_cases hin : i < bs.length
    case neg =>
      obtain rfl : i = bs.length := by omega
      have HR : Hid (Sa.waysB bs = true) := by rw [HW2.out]; rw [List.take_length] at ha; exact ha
      have HG : Hid (w.grownBy wr none) := hg
      clear ha hg
      go_wp2
      go_end0
      exact ⟨by rw [HR.out]; rfl, HG.out⟩
    have hin' : (i : Int) < bs.length := by omega
    obtain ⟨b, o, rfl, hb, a1, a2, a3, a4, k1, k2, k3, k4, he⟩ := (HL.out wr hg).at hin
    have hwx : bs.all (Sa.wayB bs) = true → Sa.wayB bs bs[i] = true := fun h => List.all_eq_true.1 h _ (List.getElem_mem hin)
    have hwn : Sa.wayB bs bs[i] = true → (bs.take (i + 1)).all (Sa.wayB bs) = true := fun h => by rw [List.take_succ_eq_append_getElem hin, List.all_append, ha]; simp [h]
    obtain ⟨x, hx⟩ : ∃ x, x = bs[i] := ⟨_, rfl⟩
    rw [← hx] at he hwx hwn
    have c0 := he.c0
    have c1 := he.c1
    have c2 := he.c2
    have c3 := he.c3
    have c4 := he.c4
    have c5 := he.c5
    have HG : Hid (w.grownBy wr none) := hg
    have HWx : Hid (bs.all (Sa.wayB bs) = true → Sa.wayB bs x = true) := hwx
    have HWn : Hid (Sa.wayB bs x = true → (bs.take (i + 1)).all (Sa.wayB bs) = true) := hwn
    have hpl := he.preds.le
    have hpm := he.preds.max
    have hsl := he.succs.le
    have hsm := he.succs.max
    have hpf : x.preds.length * 8 ≤ 140737488351232 := he.preds.fits
    have hsf : x.succs.length * 8 ≤ 140737488351232 := he.succs.fits
    obtain ⟨FB, hFB⟩ : ∃ FB, FB = wr.heap.size := ⟨_, rfl⟩
    obtain ⟨W1, hW1⟩ : ∃ W1, W1 = wr.alloc (Obj.cells #[.int .i64 x.kind, .int .i64 x.n, .slice a1 x.args.length k1, .slice a2 x.preds.length k2, .slice a3 x.succs.length k3, .slice a4 x.list.length k4] 41) := ⟨_, rfl⟩
    have HK : Hid (Bk W1 FB 41 [.int .i64 x.kind, .int .i64 x.n, .slice a1 x.args.length k1, .slice a2 x.preds.length k2, .slice a3 x.succs.length k3, .slice a4 x.list.length k4]) := by rw [hW1, hFB]; exact Bk.new _ _ _
    have G1 : Hid (wr.grownBy W1 none) := by rw [hW1]; exact World.grownBy_alloc _ _ _
    have HP : Hid (∀ W, W1.grownBy W none → Calls Try.prog 47 #[.slice (some ⟨b, o, none⟩) bs.length k, .slice a2 x.preds.length k2] W fun r w' => r = .returned (.bool (Sa.areBlks bs x.preds)) ∧ W.grownBy w' none) := fun W g => saBlks_any (HL.out W (grown_trans HG.out (grown_trans G1.out g))) (NumL.grow1 he.preds (grown_trans G1.out g))
    have HS : Hid (∀ W, W1.grownBy W none → Calls Try.prog 47 #[.slice (some ⟨b, o, none⟩) bs.length k, .slice a3 x.succs.length k3] W fun r w' => r = .returned (.bool (Sa.areBlks bs x.succs)) ∧ W.grownBy w' none) := fun W g => saBlks_any (HL.out W (grown_trans HG.out (grown_trans G1.out g))) (NumL.grow1 he.succs (grown_trans G1.out g))
    have HX : Hid (Sa.wayB bs x = ((decide (0 ≤ x.kind) && decide (x.kind ≤ 4)) && (x.kind != 0 || x.preds.length + x.succs.length == 0) && (Sa.areBlks bs x.preds && Sa.areBlks bs x.succs))) := rfl
    have HNo : Hid (Sa.wayB bs x = false → Sa.waysB bs = false) := fun h => by
      rw [HW2.out]
      cases hz : bs.all (Sa.wayB bs) with
      | false => rfl
      | true => rw [HWx.out hz] at h; cases h
    clear hx he hwx hwn ha hg
    generalize x.kind = kd at *
    generalize Sa.areBlks bs x.preds = zp at *
    generalize Sa.areBlks bs x.succs = zs at *
    by_cases q0 : 0 ≤ kd
    case neg =>
      have e0 : decide ((0 : Int) ≤ kd) = false := decide_eq_false q0
      clear HP HS
      go_wp2_with (first
      | (go_at_call 46; refine (HM.out _ _ _).mono ?_; rintro e w3 ⟨rfl, hw3⟩; rw [hw3]; clear hw3 w3; (try simp only [d1]); (try simp only [e0]); (try simp only [e1]); (try simp only [e2]); (try simp only [e3]); (try simp only [e4]); simp only [cond_false])
      | (go_at_call 47; rw [← hW1]; refine (HP.out _ (World.grownBy.refl _ _)).mono ?_; clear HP; rintro e w4 ⟨rfl, hg4⟩; have G4 : Hid (W1.grownBy w4 none) := hg4; have y4 := (HK.out.grow hg4).cell (i := 4) rfl; rw [hFB] at y4; clear hg4)
      | (go_at_call 47; refine (HS.out _ G4.out).mono ?_; clear HS; rintro e w5 ⟨rfl, hg5⟩; have G5 : Hid (W1.grownBy w5 none) := grown_trans G4.out hg5; clear hg5))
      exact ⟨rfl, by rw [HNo.out (by rw [HX.out, show decide (0 ≤ kd) = false from decide_eq_false (by omega)]; simp)]; rfl, by rw [← hW1]; exact grown_trans HG.out G1.out⟩
    have e0 : decide ((0 : Int) ≤ kd) = true := decide_eq_true q0
    by_cases q1 : kd ≤ 4
    case neg =>
      have e1 : decide (kd ≤ 4) = false := decide_eq_false q1
      clear HP HS
      go_wp2_with (first
      | (go_at_call 46; refine (HM.out _ _ _).mono ?_; rintro e w3 ⟨rfl, hw3⟩; rw [hw3]; clear hw3 w3; (try simp only [d1]); (try simp only [e0]); (try simp only [e1]); (try simp only [e2]); (try simp only [e3]); (try simp only [e4]); simp only [cond_false])
      | (go_at_call 47; rw [← hW1]; refine (HP.out _ (World.grownBy.refl _ _)).mono ?_; clear HP; rintro e w4 ⟨rfl, hg4⟩; have G4 : Hid (W1.grownBy w4 none) := hg4; have y4 := (HK.out.grow hg4).cell (i := 4) rfl; rw [hFB] at y4; clear hg4)
      | (go_at_call 47; refine (HS.out _ G4.out).mono ?_; clear HS; rintro e w5 ⟨rfl, hg5⟩; have G5 : Hid (W1.grownBy w5 none) := grown_trans G4.out hg5; clear hg5))
      exact ⟨rfl, by rw [HNo.out (by rw [HX.out, show decide (kd ≤ 4) = false from decide_eq_false (by omega)]; simp)]; rfl, by rw [← hW1]; exact grown_trans HG.out G1.out⟩
    have e1 : decide (kd ≤ 4) = true := decide_eq_true q1
    have HD : Hid (decide (0 ≤ kd) = true ∧ decide (kd ≤ 4) = true) := ⟨e0, e1⟩
    by_cases q2 : kd = 0 ∧ ¬ (x.preds.length + x.succs.length = 0)
    case pos =>
      obtain ⟨q3, q4⟩ := q2
      subst q3
      have hz : ((0 : Int) != 0 || x.preds.length + x.succs.length == 0) = false := by rw [beq_eq_false_iff_ne.2 q4]; rfl
      have HZ : Hid (((0 : Int) != 0 || x.preds.length + x.succs.length == 0) = false) := hz
      have e3 : ((x.preds.length : Int) + (x.succs.length : Int) == 0) = false := beq_eq_false_iff_ne.2 (by omega)
      clear HP HS hz q4
      go_wp2_with (first
      | (go_at_call 46; refine (HM.out _ _ _).mono ?_; rintro e w3 ⟨rfl, hw3⟩; rw [hw3]; clear hw3 w3; (try simp only [d1]); (try simp only [e0]); (try simp only [e1]); (try simp only [e2]); (try simp only [e3]); (try simp only [e4]); simp only [cond_true, cond_false])
      | (go_at_call 47; rw [← hW1]; refine (HP.out _ (World.grownBy.refl _ _)).mono ?_; clear HP; rintro e w4 ⟨rfl, hg4⟩; have G4 : Hid (W1.grownBy w4 none) := hg4; have y4 := (HK.out.grow hg4).cell (i := 4) rfl; rw [hFB] at y4; clear hg4)
      | (go_at_call 47; refine (HS.out _ G4.out).mono ?_; clear HS; rintro e w5 ⟨rfl, hg5⟩; have G5 : Hid (W1.grownBy w5 none) := grown_trans G4.out hg5; clear hg5))
      exact ⟨rfl, by rw [HNo.out (by rw [HX.out, HZ.out]; simp)]; rfl, by rw [← hW1]; exact grown_trans HG.out G1.out⟩
    have hq2 : (kd != 0 || x.preds.length + x.succs.length == 0) = true := by
      by_cases q3 : kd = 0
      · have : x.preds.length + x.succs.length = 0 := by omega
        simp [this]
      · simp [q3]
    have HQ2 : Hid ((kd != 0 || x.preds.length + x.succs.length == 0) = true) := hq2
    have hsp : ((kd == 0) = false ∧ (kd != 0) = true) ∨ (kd = 0 ∧ ((x.preds.length : Int) + (x.succs.length : Int) == 0) = true) := by
      by_cases q3 : kd = 0
      · exact .inr ⟨q3, beq_iff_eq.2 (by omega)⟩
      · exact .inl ⟨by simpa using q3, by simpa using q3⟩
    clear q2 hq2
    cases zp with
    | false =>
      rcases hsp with ⟨e2, e4⟩ | ⟨rfl, e3⟩
      all_goals
        clear HS
        go_wp2_with (first
      | (go_at_call 46; refine (HM.out _ _ _).mono ?_; rintro e w3 ⟨rfl, hw3⟩; rw [hw3]; clear hw3 w3; (try simp only [d1]); (try simp only [e0]); (try simp only [e1]); (try simp only [e2]); (try simp only [e3]); (try simp only [e4]); simp only [cond_true, cond_false])
      | (go_at_call 47; rw [← hW1]; refine (HP.out _ (World.grownBy.refl _ _)).mono ?_; clear HP; rintro e w4 ⟨rfl, hg4⟩; have G4 : Hid (W1.grownBy w4 none) := hg4; have y4 := (HK.out.grow hg4).cell (i := 4) rfl; rw [hFB] at y4; clear hg4)
      | (go_at_call 47; refine (HS.out _ G4.out).mono ?_; clear HS; rintro e w5 ⟨rfl, hg5⟩; have G5 : Hid (W1.grownBy w5 none) := grown_trans G4.out hg5; clear hg5))
        exact ⟨rfl, by rw [HNo.out (by rw [HX.out]; simp)]; rfl, grown_trans HG.out (grown_trans G1.out G4.out)⟩
    | true =>
      cases zs with
      | false =>
        rcases hsp with ⟨e2, e4⟩ | ⟨rfl, e3⟩
        all_goals
          clear HQ2
          go_wp2_with (first
      | (go_at_call 46; refine (HM.out _ _ _).mono ?_; rintro e w3 ⟨rfl, hw3⟩; rw [hw3]; clear hw3 w3; (try simp only [d1]); (try simp only [e0]); (try simp only [e1]); (try simp only [e2]); (try simp only [e3]); (try simp only [e4]); simp only [cond_true, cond_false])
      | (go_at_call 47; rw [← hW1]; refine (HP.out _ (World.grownBy.refl _ _)).mono ?_; clear HP; rintro e w4 ⟨rfl, hg4⟩; have G4 : Hid (W1.grownBy w4 none) := hg4; have y4 := (HK.out.grow hg4).cell (i := 4) rfl; rw [hFB] at y4; clear hg4)
      | (go_at_call 47; refine (HS.out _ G4.out).mono ?_; clear HS; rintro e w5 ⟨rfl, hg5⟩; have G5 : Hid (W1.grownBy w5 none) := grown_trans G4.out hg5; clear hg5))
          exact ⟨rfl, by rw [HNo.out (by rw [HX.out]; simp)]; rfl, grown_trans HG.out (grown_trans G1.out G5.out)⟩
      | true =>
        have HY : Hid (Sa.wayB bs x = true) := (by rw [HX.out, HQ2.out, HD.out.1, HD.out.2]; rfl : Sa.wayB bs x = true)
        rcases hsp with ⟨e2, e4⟩ | ⟨rfl, e3⟩
        all_goals
          clear HQ2 HX HNo
          go_wp2_with (first
      | (go_at_call 46; refine (HM.out _ _ _).mono ?_; rintro e w3 ⟨rfl, hw3⟩; rw [hw3]; clear hw3 w3; (try simp only [d1]); (try simp only [e0]); (try simp only [e1]); (try simp only [e2]); (try simp only [e3]); (try simp only [e4]); simp only [cond_true])
      | (go_at_call 47; rw [← hW1]; refine (HP.out _ (World.grownBy.refl _ _)).mono ?_; clear HP; rintro e w4 ⟨rfl, hg4⟩; have G4 : Hid (W1.grownBy w4 none) := hg4; have y4 := (HK.out.grow hg4).cell (i := 4) rfl; rw [hFB] at y4; clear hg4)
      | (go_at_call 47; refine (HS.out _ G4.out).mono ?_; clear HS; rintro e w5 ⟨rfl, hg5⟩; have G5 : Hid (W1.grownBy w5 none) := grown_trans G4.out hg5; clear hg5))
          go_roundw
          case rel => exact ⟨i + 1, by go_num, by omega, HWn.out HY.out, grown_trans HG.out (grown_trans G1.out G5.out)⟩
          case measure => simp [intOf]; omega
end Go.Proofs.Ytbpdggdpgohilaa
