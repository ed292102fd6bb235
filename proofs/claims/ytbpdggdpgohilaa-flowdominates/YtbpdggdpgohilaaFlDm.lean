/- flow: immediate dominators. -/
import Derived.Test.YtbpdggdpgohilaaFlSm
import Derived.Test.YtbpdggdpgohilaaG13
import Derived.Test.YtbpdggdpgohilaaG21
import Derived.Test.YtbpdggdpgohilaaG8
import Derived.Test.YtbpdggdpgohilaaG22
namespace Go.Proofs.Ytbpdggdpgohilaa
open Go.RowKit
set_option linter.unusedVariables false
set_option maxRecDepth 100000
set_option maxHeartbeats 16000000

/-- of each block its immediate dominator -/
def Sa.dmB (bs : List Sa.Bl) : Nat → Int := Sa.tops (Sa.walk bs) (Sa.abv bs) ((Sa.walk bs).order.length - 1) 1 (fun _ => -1)
theorem flDominators_any {NN : Nat} {bs : List Sa.Bl} {w : World} {a : Option Addr} {k : Nat} (hN : NN ≤ w.heap.size) (h : BlL (· < NN) w a k bs) (hw : Sa.waysB bs = true) (hf : Sa.flowB bs = true) : Calls Try.prog 17 #[.slice a bs.length k] w fun r w' => ∃ D, r = .returned (.slice (some ⟨D, 0, none⟩) bs.length bs.length) ∧ OwnN w' w.heap.size (.slice (some ⟨D, 0, none⟩) bs.length bs.length) bs.length (Sa.dmB bs) ∧ w.grownBy w' none := by
  obtain ⟨h0, h4, _⟩ := Sa.waysB_iff hw
  have hO := Sa.flow_wkO hw hf
  obtain ⟨wk, hwk⟩ : ∃ wk, wk = Sa.walk bs := ⟨_, rfl⟩
  have HWk : Hid (wk = Sa.walk bs) := hwk
  rw [← hwk] at hO
  have HNw : Hid (Calls Try.prog 28 #[.slice a bs.length k] w fun r w' => ∃ PB BX FB WB SB RB, r = .returned (.pointer (some ⟨WB, 0, none⟩)) ∧ FwAt w.heap.size w' PB BX FB WB SB RB bs.length a k wk (Sa.fwalk bs).2 ∧ w.grownBy w' none) := by
    have h9 := flNewWalk_any hN h (Sa.leads hw) h0 h4
    rw [Sa.fwalk_fst, ← hwk] at h9
    exact h9
  have HB : Hid (∀ W, w.grownBy W none → BlL (· < NN) W a k bs) := fun W g => h.grow g
  have HO : Hid (Sa.WkO bs wk) := hO
  obtain ⟨n, hn⟩ : ∃ n, n = bs.length := ⟨_, rfl⟩
  have HNn : Hid (n = bs.length) := hn
  obtain ⟨DR, hDR⟩ : ∃ DR, DR = Sa.dmB bs := ⟨_, rfl⟩
  have HDR : Hid (DR = Sa.dmB bs) := hDR
  rw [← hn] at HNw h0 h4
  rw [← hDR, ← hn]
  clear h hw hf hO hwk hn hDR hN
  go_enter Try.func17, Try.ntmps17
  go_wp2_with fail
  refine HNw.out.mono ?_
  rintro e w1 ⟨PB0, BX, FB0, WB, SB, RB, rfl, hA, g1⟩
  have HG1 : Hid (w.grownBy w1 none) := g1
  rw [HNn.out] at hA
  obtain ⟨MB, PB, bb, bo, mc, pc, g, ha, hmc, hpc, hmm, hpm, hgr, hF⟩ := fwC HO.out (HB.out w1 g1) hA
  have HF : Hid (∀ W, w1.grownBy W none → FwC bs wk g W w.heap.size NN WB SB MB RB PB bb bo mc pc k) := hF
  have HSe : Hid (Calls Try.prog 29 #[.pointer (some ⟨WB, 0, none⟩), .slice a n k] w1 fun r w' => ∃ M, r = .returned (.slice (some ⟨M, 0, none⟩) wk.order.length wk.order.length) ∧ OwnN w' w1.heap.size (.slice (some ⟨M, 0, none⟩) wk.order.length wk.order.length) wk.order.length (Sa.semis bs wk) ∧ w1.grownBy w' none) := by
    rw [HNn.out]
    exact flSemis_any HO.out (by rw [← HNn.out]; exact h4) (HB.out w1 g1) hA
  obtain ⟨m, hm⟩ : ∃ m, m = wk.order.length := ⟨_, rfl⟩
  have HM : Hid (m = wk.order.length) := hm
  have hm0 : 0 < m := by rw [hm]; exact HO.out.o0.1
  have hmn : m ≤ n := by rw [hm, HNn.out]; exact HO.out.i.le
  obtain ⟨sm, hsm⟩ : ∃ sm, sm = Sa.semis bs wk := ⟨_, rfl⟩
  have HSm0 : Hid (sm = Sa.semis bs wk) := hsm
  have HSp : Hid (∀ j, 0 ≤ sm j) := fun j => by rw [hsm]; exact (Sa.semis_pos HO.out j).1
  rw [← hm, ← hsm] at HSe
  rw [← hm] at hmc hpc
  unfold maxLen at hmm hpm
  clear hA g1 hgr hF hm hsm ha HNw
  go_wp2_with fail
  refine HSe.out.mono ?_
  rintro e w2 ⟨SM, rfl, ho2, g2⟩
  have HS2 : Hid (OwnN w2 w1.heap.size (.slice (some ⟨SM, 0, none⟩) m m) m sm) := ho2
  have HG2 : Hid (w1.grownBy w2 none) := g2
  have c1 := (HF.out w2 g2).c1
  have pz := (HF.out w2 g2).pz
  rw [← HM.out] at c1 pz
  have HCl : Hid (Calls Try.prog 30 #[.slice (some ⟨PB, 0, none⟩) m pc] w2 fun e w' => ∃ u, e = .returned u ∧ OwnZ w' w2.heap.size u wk.parent ∧ w2.grownBy w' none) := saClone_any pz (by rw [← HO.out.i.len, ← HM.out]; omega)
  clear ho2 g2 pz HSe
  go_wp2_with fail
  refine HCl.out.mono ?_
  rintro e w3 ⟨u, rfl, hu, g3⟩
  have hpl : wk.parent.length = m := by rw [HM.out]; exact HO.out.i.len.symm
  obtain ⟨ua, uc, hue, hu1, hu2, hu3⟩ := hu.slice
  rw [hpl] at hue hu1 hu3
  obtain ⟨UB, hua, hUS, hUl⟩ := hu3 hm0
  subst hua hue
  have HU3 : Hid (OwnN w3 w2.heap.size (.slice (some ⟨UB, 0, none⟩) m uc) m (fun i => wk.parent.getD i 0)) := by have h9 := hu.n; rw [hpl] at h9; exact h9
  have HG3 : Hid (w2.grownBy w3 none) := g3
  have HRp : Hid (Calls Try.prog 31 #[.slice (some ⟨w3.heap.size, 0, none⟩) 1 1, .int .i64 (n : Int)] (w3.alloc (Obj.cells #[.int .i64 (-1)] 3)) fun r w' => ∃ T, r = .returned (.slice (some ⟨T, 0, none⟩) n n) ∧ OwnN w' (w3.alloc (Obj.cells #[.int .i64 (-1)] 3)).heap.size (.slice (some ⟨T, 0, none⟩) n n) n (fun _ => -1) ∧ (w3.alloc (Obj.cells #[.int .i64 (-1)] 3)).grownBy w' none) := saRep_any n (by omega) ((Bk.new w3 3 [.int .i64 (-1)]).cell (i := 0) rfl) (Nat.le_refl _) (by unfold maxLen; omega)
  have HGa : Hid (w3.grownBy (w3.alloc (Obj.cells #[.int .i64 (-1)] 3)) none) := World.grownBy_alloc _ _ _
  clear c1 hu g3 hu2 hu3 HCl
  go_wp2_with fail
  refine HRp.out.mono ?_
  rintro e w5 ⟨DB, rfl, hd5, g5⟩
  have HG35 : Hid (w3.grownBy w5 none) := grown_trans HGa.out g5
  have HD5 : Hid (OwnN w5 w3.heap.size (.slice (some ⟨DB, 0, none⟩) n n) n (fun _ => -1)) := hd5.low HGa.out.size
  have hUD : UB ≠ DB := by have := HD5.out.base DB rfl; omega
  have hSU : SM ≠ UB := by have := HS2.out.lt SM rfl; have := HU3.out.base UB rfl; omega
  have hSD : SM ≠ DB := by have := HS2.out.lt SM rfl; have := HD5.out.base DB rfl; have := HG3.out.size; omega
  have HNew : Hid (w1.heap.size ≤ UB ∧ w1.heap.size ≤ DB) := by
    have h1 := HU3.out.base UB rfl
    have h2 := HD5.out.base DB rfl
    have := HG2.out.size
    have := HG3.out.size
    exact ⟨by omega, by omega⟩
  have HU5 : Hid (OwnN w5 w2.heap.size (.slice (some ⟨UB, 0, none⟩) m uc) m (fun i => wk.parent.getD i 0)) := HU3.out.grow HG35.out
  have HS5 : Hid (OwnN w5 w1.heap.size (.slice (some ⟨SM, 0, none⟩) m m) m sm) := (HS2.out.grow HG3.out).grow HG35.out
  have HG15 : Hid (w1.grownBy w5 none) := grown_trans HG2.out (grown_trans HG3.out HG35.out)
  have HLy : Hid (Sa.WkI bs.length wk) := HO.out.i
  have HAb0 : Hid (Sa.AbI m (fun i => wk.parent.getD i 0)) := fun j j1 j2 => by
    have := HO.out.i.par j (by rw [← HM.out]; exact j2)
    have h9 := this.2.2 (by omega)
    exact ⟨h9, this.2.1⟩
  obtain ⟨FA, hFA⟩ : ∃ FA, FA = Sa.aboveAll sm (m - 1) 1 (fun i => wk.parent.getD i 0) := ⟨_, rfl⟩
  have HFA : Hid (FA = Sa.aboveAll sm (m - 1) 1 (fun i => wk.parent.getD i 0)) := hFA
  have HFT : Hid (DR = Sa.tops wk FA (m - 1) 1 (fun _ => -1)) := by
    show DR = _
    rw [HDR.out]
    unfold Sa.dmB Sa.abv
    rw [← HWk.out, ← HM.out, hFA, HSm0.out]
  have HGw3 : Hid (w.heap.size ≤ w3.heap.size) := by show w.heap.size ≤ w3.heap.size; have := HG1.out.size; have := HG2.out.size; have := HG3.out.size; omega
  clear hd5 g5 hUS hUl hu1 HRp HGa HG3 HG35 HU3 hFA HDR HS2 HSm0
  go_wp2_with fail
  go_loopw [7] (fun ix wr => ∃ (i : Nat) (ac tc : Nat → Int), ix = .int .i64 i ∧ 1 ≤ i ∧ i ≤ m ∧ OwnN wr w2.heap.size (.slice (some ⟨UB, 0, none⟩) m uc) m ac ∧ OwnN wr w3.heap.size (.slice (some ⟨DB, 0, none⟩) n n) n tc ∧ Sa.AbI m ac ∧ FA = Sa.aboveAll sm (m - i) i ac ∧ DR = Sa.tops wk FA (m - i) i tc ∧ Ch w5 wr [UB, DB]) (fun ix _ => m - (intOf ix).toNat)
  case atStart => exact ⟨1, _, _, rfl, Nat.le_refl _, hm0, HU5.out, HD5.out, HAb0.out, HFA.out, HFT.out, Ch.refl _ _⟩
  case round =>
    obtain ⟨i, ac, tc, rfl, hi1, him, hUo, hDo, hab, hfa, hft, hch⟩ := hrel
    have HUr : Hid (OwnN wr w2.heap.size (.slice (some ⟨UB, 0, none⟩) m uc) m ac) := hUo
    have HDr : Hid (OwnN wr w3.heap.size (.slice (some ⟨DB, 0, none⟩) n n) n tc) := hDo
    have HAb : Hid (Sa.AbI m ac) := hab
    have HFa : Hid (FA = Sa.aboveAll sm (m - i) i ac) := hfa
    have HFt : Hid (DR = Sa.tops wk FA (m - i) i tc) := hft
    have HCr : Hid (Ch w5 wr [UB, DB]) := hch
    have HSr : Hid (OwnN wr w1.heap.size (.slice (some ⟨SM, 0, none⟩) m m) m sm) := HS5.out.ch hch (by intro q hq; injection hq with hq; subst hq; simp; exact ⟨hSU, hSD⟩)
    have HGr : Hid (w1.grownBy wr none) := Ch.fresh2 HG15.out hch (by intro q hq; simp at hq; rcases hq with rfl | rfl; exact HNew.out.1; exact HNew.out.2)
    clear hUo hDo hab hfa hft hch HU5 HD5 HAb0 HFA HFT
    by_cases hil : i < m
    case neg =>
      obtain rfl : m = i := by omega
      have hFTc : DR = tc := by have h9 := HFt.out; rw [Nat.sub_self] at h9; exact h9
      have HFc : Hid (DR = tc) := hFTc
      have e1 : ¬ (m : Int) < (m : Int) := by omega
      clear hFTc HFt
      go_wp2_with fail
      refine bodyPost_ret (by simp [results, Try.results17, go_sem]; try rfl) rfl ?_
      exact ⟨DB, rfl, by rw [HFc.out]; exact HDr.out.low HGw3.out, grown_trans HG1.out HGr.out⟩
    have hilI : (i : Int) < (m : Int) := by omega
    go_wp2_with fail
    obtain ⟨wr0, rfl⟩ : ∃ wr0, wr0 = wr := ⟨_, rfl⟩
    obtain ⟨y0, y1⟩ := HAb.out i hi1 hil
    obtain ⟨si, hsi⟩ : ∃ si, si = sm i := ⟨_, rfl⟩
    have HSi : Hid (si = sm i) := hsi
    have hsi0 : 0 ≤ si := by rw [hsi]; exact HSp.out i
    have hsame : ∀ q, ac q = setF ac i (ac i) q := fun q => by
      unfold setF
      by_cases e : q = i
      · rw [if_pos e, e]
      · rw [if_neg e]
    have HU0 : Hid (OwnN wr0 w2.heap.size (.slice (some ⟨UB, 0, none⟩) m uc) m (setF ac i (ac i))) := HUr.out.congr (fun q _ => hsame q)
    have HY0 : Hid (0 ≤ ac i ∧ ac i < (i : Int)) := ⟨y0, y1⟩
    clear hsi HUr y0 y1 hsame
    go_loopw [28] (fun _ wr => ∃ (x : Int) (f : Nat), OwnN wr w2.heap.size (.slice (some ⟨UB, 0, none⟩) m uc) m (setF ac i x) ∧ Sa.climb ac si (i + 1) (ac i) = Sa.climb ac si f x ∧ 0 ≤ x ∧ x < (i : Int) ∧ x < (f : Int) ∧ Ch wr0 wr [UB]) (fun _ wr => match wr.cell? ⟨UB, i, none⟩ with | some (.int _ x) => x.toNat | _ => 0)
    case atStart => exact ⟨ac i, i + 1, HU0.out, rfl, HY0.out.1, HY0.out.2, by have := HY0.out.2; omega, Ch.refl _ _⟩
    case round =>
      obtain ⟨x, f, hUo, hcl, hx0, hxi, hxf, hch⟩ := hrel
      have HUr : Hid (OwnN wr w2.heap.size (.slice (some ⟨UB, 0, none⟩) m uc) m (setF ac i x)) := hUo
      have HCl : Hid (Sa.climb ac si (i + 1) (ac i) = Sa.climb ac si f x) := hcl
      have HCr2 : Hid (Ch wr0 wr [UB]) := hch
      obtain ⟨xn, rfl⟩ : ∃ xn : Nat, x = (xn : Int) := ⟨x.toNat, by omega⟩
      have hxn : xn < i := by omega
      have hxm : (xn : Int) < (m : Int) := by omega
      have HX : Hid (∀ W, wr.grownBy W none → W.cell? ⟨UB, i, none⟩ = some (.int .i64 (xn : Int)) ∧ W.cell? ⟨SM, i, none⟩ = some (.int .i64 si)) := fun W g => by
        have z1 := (HUr.out.grow g).cell hil
        rw [show setF ac i (xn : Int) i = (xn : Int) by unfold setF; simp] at z1
        have z2 := ((HSr.out.ch HCr2.out (by intro q hq; injection hq with hq; subst hq; simp; exact hSU)).grow g).cell hil
        rw [← HSi.out] at z2
        exact ⟨z1, z2⟩
      clear hUo hcl hx0 hxi hch HU0 HY0
      by_cases hgt : si < (xn : Int)
      case pos =>
        obtain ⟨f, rfl⟩ : ∃ g, f = g + 1 := ⟨f - 1, by omega⟩
        have hd := HAb.out xn (by omega) (by omega)
        have HCl2 : Hid (Sa.climb ac si (i + 1) (ac i) = Sa.climb ac si f (ac xn)) := by show _ = _; rw [HCl.out, Sa.climb_yes hgt, Int.toNat_natCast]
        obtain ⟨ax, hax⟩ : ∃ ax, ax = ac xn := ⟨_, rfl⟩
        have HAx : Hid (ax = ac xn) := hax
        rw [← hax] at hd HCl2
        have HD : Hid (0 ≤ ax ∧ ax < (xn : Int) ∧ (xn : Int) < (i : Int) ∧ (xn : Int) < (f : Int) + 1) := ⟨hd.1, hd.2, by omega, by omega⟩
        clear HCl hax hd hxf
        go_wp2_with fail
        refine region_lg 8 (World.grownBy.refl _ _) (by kernel_rfl) (by kernel_rfl) (by kernel_rfl) (by kernel_rfl) ?_
        simp only [List.take_succ_cons, List.take_zero]
        repeat (first
          | (refine lx_end fun W0 G0 => ?_)
          | (refine lx_val (v := ?_) ?_ ?_ ?_ ?_; rotate_left; (· kernel_rfl); (· exact ⟨by kernel_rfl, rfl⟩); (· intro W g; simp [go_sem, (HX.out W g).1, (HX.out W g).2, hilI]; rfl); simp only [Act.put, List.setIfInBounds_toArray, List.set_cons_succ, List.set_cons_zero]))
        simp only [List.drop_succ_cons, List.drop_zero]
        have hU0' := HUr.out.grow G0
        have z1 := (HX.out W0 G0).1
        have z3 := hU0'.cell (i := xn) (by omega)
        rw [show setF ac i (xn : Int) xn = ax by unfold setF; rw [if_neg (by omega)]; exact HAx.out.symm] at z3
        have fU := hU0'.frozen i
        obtain ⟨w6, hw6⟩ : ∃ w6, w6 = W0.setCell ⟨UB, i, none⟩ (.int .i64 ax) := ⟨_, rfl⟩
        have hC6 : Ch W0 w6 [UB] := by rw [hw6]; exact Ch.one (grown_set _ _ _ _) (by simp)
        have HU6 : Hid (OwnN w6 w2.heap.size (.slice (some ⟨UB, 0, none⟩) m uc) m (setF ac i ax)) := by rw [hw6]; exact (hU0'.set hil ax).congr (fun q _ => by unfold setF; split <;> rfl)
        have HC6 : Hid (Ch wr0 w6 [UB]) := (HCr2.out.trans (Ch.of G0)).trans hC6
        have m1 := HU6.out.cell hil
        rw [show setF ac i ax i = ax by unfold setF; simp] at m1
        have m2 := (HX.out wr (World.grownBy.refl _ _)).1
        have HMe : Hid ((match w6.cell? ⟨UB, i, none⟩ with | some (.int _ x) => x.toNat | _ => 0) < (match wr.cell? ⟨UB, i, none⟩ with | some (.int _ x) => x.toNat | _ => 0)) := by
          show _ < _
          rw [m1, m2]
          simp only
          have := HD.out
          omega
        clear hU0' hC6 m1 m2
        go_wp2_with fail
        rw [← hw6]
        clear hw6 z1 z3 fU
        go_roundw
        case rel => exact ⟨ax, f, HU6.out, HCl2.out, HD.out.1, by have := HD.out; omega, by have := HD.out; omega, HC6.out⟩
        case measure => exact HMe.out
      have hle : (xn : Int) ≤ si := by omega
      have HCl2 : Hid (Sa.climb ac si (i + 1) (ac i) = (xn : Int)) := by show _ = _; rw [HCl.out, Sa.climb_no hgt]
      have hgf : decide (si < (xn : Int)) = false := decide_eq_false hgt
      clear HCl hxf
      go_wp2_with fail
      refine region_lg 8 (World.grownBy.refl _ _) (by kernel_rfl) (by kernel_rfl) (by kernel_rfl) (by kernel_rfl) ?_
      simp only [List.take_succ_cons, List.take_zero]
      repeat (first
        | (refine lx_end fun W0 G0 => ?_)
        | (refine lx_val (v := ?_) ?_ ?_ ?_ ?_; rotate_left; (· kernel_rfl); (· exact ⟨by kernel_rfl, rfl⟩); (· intro W g; simp [go_sem, (HX.out W g).1, (HX.out W g).2, hilI]; rfl); simp only [Act.put, List.setIfInBounds_toArray, List.set_cons_succ, List.set_cons_zero]))
      simp only [List.drop_succ_cons, List.drop_zero]
      have him' : i < wk.order.length := by have := HM.out; omega
      obtain ⟨b1, b2⟩ := Sa.oN_lt HLy.out him'
      obtain ⟨b3, b4⟩ := Sa.oN_lt HLy.out (show xn < wk.order.length by omega)
      obtain ⟨oi, hoi⟩ : ∃ oi, oi = Sa.oN wk i := ⟨_, rfl⟩
      obtain ⟨ox, hox⟩ : ∃ ox, ox = Sa.oN wk xn := ⟨_, rfl⟩
      rw [← hoi] at b1 b2
      rw [← hox] at b3 b4
      rw [← HNn.out] at b1 b3
      have hoiI : (oi : Int) < (n : Int) := by omega
      have hG0 : w1.grownBy W0 none := grown_trans (Ch.fresh2 HGr.out HCr2.out (by intro q hq; simp at hq; rw [hq]; exact HNew.out.1)) G0
      have hU0 := HUr.out.grow G0
      have hD0 := (HDr.out.ch HCr2.out (by intro q hq; injection hq with hq; subst hq; simp; exact fun e => hUD e.symm)).grow G0
      have HX9 : Hid (∀ W, W0.grownBy W none → W.cell? ⟨WB, 0, none⟩ = some (.pointer (some ⟨SB, 0, none⟩)) ∧ W.cell? ⟨SB, 0, none⟩ = some (.slice (some ⟨MB, 0, none⟩) m mc) ∧ W.cell? ⟨MB, i, none⟩ = some (.int .i64 (oi : Int)) ∧ W.cell? ⟨UB, i, none⟩ = some (.int .i64 (xn : Int)) ∧ W.cell? ⟨MB, xn, none⟩ = some (.int .i64 (ox : Int))) := fun W g => by
        have hX := HF.out W (grown_trans hG0 g)
        have z1 := hX.s0
        rw [← HM.out] at z1
        have z2 := hX.o i him'
        rw [b2] at z2
        have z3 := hX.o xn (by omega)
        rw [b4] at z3
        have z4 := (hU0.grow g).cell hil
        rw [show setF ac i (xn : Int) i = (xn : Int) by unfold setF; simp] at z4
        exact ⟨hX.c0, z1, z2, z4, z3⟩
      have HU9 : Hid (OwnN W0 w2.heap.size (.slice (some ⟨UB, 0, none⟩) m uc) m (setF ac i (xn : Int))) := hU0
      have HD9 : Hid (OwnN W0 w3.heap.size (.slice (some ⟨DB, 0, none⟩) n n) n tc) := hD0
      have HC9 : Hid (Ch w5 W0 [UB, DB]) := (HCr.out.trans (HCr2.out.mono (by intro q _ hq; simp at hq; simp [hq]))).trans (Ch.of G0)
      have hmi : m - i = (m - (i + 1)) + 1 := by omega
      have HFa2 : Hid (FA = Sa.aboveAll sm (m - (i + 1)) (i + 1) (setF ac i (xn : Int))) := by show FA = _; rw [HFa.out, hmi, Sa.aboveAll_succ, ← HSi.out, HCl2.out]
      have hFAi : FA i = (xn : Int) := by rw [HFa2.out, Sa.aboveAll_keep (by omega)]; unfold setF; simp
      have HFt2 : Hid (DR = Sa.tops wk FA (m - (i + 1)) (i + 1) (setF tc oi (ox : Int))) := by
        show DR = _
        rw [HFt.out, hmi, Sa.tops_succ, hFAi, Int.toNat_natCast, b2, b4, Int.toNat_natCast]
      have HAb2 : Hid (Sa.AbI m (setF ac i (xn : Int))) := HAb.out.set (by omega) (by omega)
      have hilI2 : (i : Int) < (m : Int) := hilI
      clear him' b2 b4 hoi hox hG0 hU0 hD0 hmi hFAi HFa HFt HCl2 HX HUr HDr HCr HCr2 HAb HSr HSi hsi0 hle
      go_wp2_with fail
      clear hgf hgt
      refine region_lg 24 (World.grownBy.refl _ _) (by kernel_rfl) (by kernel_rfl) (by kernel_rfl) (by kernel_rfl) ?_
      simp only [List.take_succ_cons, List.take_zero]
      repeat (first
        | (refine lx_end fun W1b G1 => ?_)
        | (refine lx_val (v := ?_) ?_ ?_ ?_ ?_; rotate_left; (· kernel_rfl); (· exact ⟨by kernel_rfl, rfl⟩); (· intro W g; simp [go_sem, (HX9.out W g).1, (HX9.out W g).2.1, (HX9.out W g).2.2.1, (HX9.out W g).2.2.2.1, (HX9.out W g).2.2.2.2, hilI2, hxm]; rfl); simp only [Act.put, List.setIfInBounds_toArray, List.set_cons_succ, List.set_cons_zero]))
      simp only [List.drop_succ_cons, List.drop_zero]
      have hD1 := HD9.out.grow G1
      have cD := hD1.cell b1
      have fD := hD1.frozen oi
      obtain ⟨w7, hw7⟩ : ∃ w7, w7 = W1b.setCell ⟨DB, oi, none⟩ (.int .i64 (ox : Int)) := ⟨_, rfl⟩
      have hC7 : Ch W1b w7 [DB] := by rw [hw7]; exact Ch.one (grown_set _ _ _ _) (by simp)
      have HD7 : Hid (OwnN w7 w3.heap.size (.slice (some ⟨DB, 0, none⟩) n n) n (setF tc oi (ox : Int))) := by rw [hw7]; exact hD1.set b1 _
      have HU7 : Hid (OwnN w7 w2.heap.size (.slice (some ⟨UB, 0, none⟩) m uc) m (setF ac i (xn : Int))) := (HU9.out.grow G1).ch hC7 (by intro q hq; injection hq with hq; subst hq; simp; exact hUD)
      have HC7 : Hid (Ch w5 w7 [UB, DB]) := (HC9.out.trans (Ch.of G1)).trans (hC7.mono (by intro q _ hq; simp at hq; simp [hq]))
      clear hD1 hC7
      go_wp2_with fail
      rw [← hw7]
      clear hw7 cD fD
      go_roundw
      case rel => exact ⟨i + 1, _, _, by go_num, by omega, by omega, HU7.out, HD7.out, HAb2.out, HFa2.out, HFt2.out, HC7.out⟩
      case measure => simp [intOf]; omega
def DmV (w : World) (base : Nat) (v : Value) (bs : List Sa.Bl) : Prop := ∃ D, v = .slice (some ⟨D, 0, none⟩) bs.length bs.length ∧ OwnN w base (.slice (some ⟨D, 0, none⟩) bs.length bs.length) bs.length (Sa.dmB bs)
theorem DmV.low {w : World} {base base' : Nat} {v : Value} {bs : List Sa.Bl} (h : DmV w base v bs) (hb : base' ≤ base) : DmV w base' v bs := by
  obtain ⟨D, h1, h2⟩ := h
  exact ⟨D, h1, h2.low hb⟩
theorem flToldD_any {N : Nat} {w : World} {bs : List Sa.Bl} {v1 v2 v3 : Value} {a4 : Option Addr} {k4 : Nat} (h : BlL (· < N) w a4 k4 bs) (hN : N ≤ w.heap.size) : Calls Try.prog 16 #[.agg #[v1, v2, v3, .slice a4 bs.length k4], .func (.func 17) #[] #[]] w fun r w' => ∃ v, r = .returned (.tuple #[v, .int .i64 (Sa.num (Sa.flowP bs))]) ∧ (Sa.num (Sa.flowP bs) = 0 → Sa.waysB bs = true ∧ Sa.flowB bs = true ∧ DmV w' w.heap.size v bs) ∧ (Sa.num (Sa.flowP bs) ≠ 0 → v = .slice none 0 0) ∧ w.grownBy w' none := by
  have hg1 : w.grownBy (w.alloc (Obj.cells #[v1, v2, v3, .slice a4 bs.length k4] 28)) none := World.grownBy_alloc _ _ _
  have HG1 : Hid (w.grownBy (w.alloc (Obj.cells #[v1, v2, v3, .slice a4 bs.length k4] 28)) none) := hg1
  have HK1 : Hid (∀ W, (w.alloc (Obj.cells #[v1, v2, v3, .slice a4 bs.length k4] 28)).grownBy W none → W.cell? ⟨w.heap.size, 3, none⟩ = some (.slice a4 bs.length k4)) := fun W g => ((Bk.new w 28 [v1, v2, v3, .slice a4 bs.length k4]).grow g).cell (i := 3) rfl
  have HF : Hid (Calls Try.prog 27 #[.agg #[v1, v2, v3, .slice a4 bs.length k4]] (w.alloc (Obj.cells #[v1, v2, v3, .slice a4 bs.length k4] 28)) fun r w' => r = .returned (.int .i64 (Sa.num (Sa.flowP bs))) ∧ (w.alloc (Obj.cells #[v1, v2, v3, .slice a4 bs.length k4] 28)).grownBy w' none) := saFlow_any (h.grow hg1) (by have := hg1.size; omega)
  have HB : Hid (∀ W, w.grownBy W none → BlL (· < N) W a4 k4 bs) := fun W g => h.grow g
  have HN : Hid (N ≤ w.heap.size) := hN
  by_cases hz : Sa.num (Sa.flowP bs) = 0
  · have hb : Sa.waysB bs = true ∧ Sa.flowB bs = true := by
      cases h1 : Sa.waysB bs with
      | false => rw [Sa.flowP_1 h1] at hz; simp [Sa.num] at hz
      | true =>
        cases h2 : Sa.flowB bs with
        | false => rw [Sa.flowP_2 h1 h2] at hz; simp [Sa.num] at hz
        | true => exact ⟨rfl, rfl⟩
    have HBb : Hid (Sa.waysB bs = true ∧ Sa.flowB bs = true) := hb
    rw [hz] at HF ⊢
    clear hb hz h hg1 hN
    go_enter Try.func16, Try.ntmps16
    go_wp2_with (first
      | (go_at_call 27; refine HF.out.mono ?_; rintro e w3 ⟨rfl, g3⟩; have y3 := HK1.out w3 g3; have HG3 : Hid (w.grownBy w3 none) := grown_trans HG1.out g3; clear g3)
      | (go_at_call 17; refine (flDominators_any (NN := N) (by have := HN.out; have := HG3.out.size; omega) (HB.out w3 HG3.out) HBb.out.1 HBb.out.2).mono ?_; rintro e w4 ⟨v0, rfl, hv0, g4⟩; obtain ⟨v, hve, hv⟩ : ∃ v, v = .slice (some ⟨v0, 0, none⟩) bs.length bs.length ∧ DmV w4 w3.heap.size v bs := ⟨_, rfl, v0, rfl, hv0⟩; rw [← hve]; have HV : Hid (DmV w4 w3.heap.size v bs) := hv; have HG4 : Hid (w.grownBy w4 none) := grown_trans HG3.out g4; clear hv hv0 hve g4))
    refine bodyPost_ret (by simp [results, Try.results16, go_sem]; try rfl) rfl ?_
    exact ⟨v, rfl, fun _ => ⟨HBb.out.1, HBb.out.2, DmV.low HV.out HG3.out.size⟩, fun h9 => absurd rfl h9, HG4.out⟩
  · have hzb : (Sa.num (Sa.flowP bs) != 0) = true := by simp [hz]
    have HZ : Hid (¬ Sa.num (Sa.flowP bs) = 0) := hz
    generalize Sa.num (Sa.flowP bs) = R at *
    clear hz h hg1 hN
    go_enter Try.func16, Try.ntmps16
    go_wp2_with (go_at_call 27; refine HF.out.mono ?_; rintro e w3 ⟨rfl, g3⟩; have HG3 : Hid (w.grownBy w3 none) := grown_trans HG1.out g3; clear g3)
    refine bodyPost_ret (by simp [results, Try.results16, go_sem]; try rfl) rfl ?_
    exact ⟨_, rfl, fun h9 => absurd h9 HZ.out, fun _ => rfl, HG3.out⟩
/-- **flow.Doms, whole.** -/
theorem flDoms_any {N : Nat} {w : World} {bs : List Sa.Bl} {v1 v2 v3 : Value} {a4 : Option Addr} {k4 : Nat} (h : BlL (· < N) w a4 k4 bs) (hN : N ≤ w.heap.size) : Calls Try.prog 6 #[.agg #[v1, v2, v3, .slice a4 bs.length k4]] w fun r w' => ∃ v, r = .returned (.tuple #[v, .int .i64 (Sa.num (Sa.flowP bs))]) ∧ (Sa.num (Sa.flowP bs) = 0 → Sa.waysB bs = true ∧ Sa.flowB bs = true ∧ DmV w' w.heap.size v bs) ∧ (Sa.num (Sa.flowP bs) ≠ 0 → v = .slice none 0 0) ∧ w.grownBy w' none := by
  have hg1 : w.grownBy (w.alloc (Obj.cells #[v1, v2, v3, .slice a4 bs.length k4] 28)) none := World.grownBy_alloc _ _ _
  have HG1 : Hid (w.grownBy (w.alloc (Obj.cells #[v1, v2, v3, .slice a4 bs.length k4] 28)) none) := hg1
  have HT : Hid (Calls Try.prog 16 #[.agg #[v1, v2, v3, .slice a4 bs.length k4], .func (.func 17) #[] #[]] (w.alloc (Obj.cells #[v1, v2, v3, .slice a4 bs.length k4] 28)) fun r w' => ∃ v, r = .returned (.tuple #[v, .int .i64 (Sa.num (Sa.flowP bs))]) ∧ (Sa.num (Sa.flowP bs) = 0 → Sa.waysB bs = true ∧ Sa.flowB bs = true ∧ DmV w' (w.alloc (Obj.cells #[v1, v2, v3, .slice a4 bs.length k4] 28)).heap.size v bs) ∧ (Sa.num (Sa.flowP bs) ≠ 0 → v = .slice none 0 0) ∧ (w.alloc (Obj.cells #[v1, v2, v3, .slice a4 bs.length k4] 28)).grownBy w' none) := flToldD_any (h.grow hg1) (by have := hg1.size; omega)
  generalize Sa.num (Sa.flowP bs) = R at *
  clear hg1 h hN
  go_enter Try.func6, Try.ntmps6
  go_wp2_with (go_at_call 16; refine HT.out.mono ?_; rintro e w3 ⟨v, rfl, h1, h2, g3⟩; have H1 : Hid (R = 0 → Sa.waysB bs = true ∧ Sa.flowB bs = true ∧ DmV w3 (w.alloc (Obj.cells #[v1, v2, v3, .slice a4 bs.length k4] 28)).heap.size v bs) := h1; have H2 : Hid (R ≠ 0 → v = .slice none 0 0) := h2; have HG3 : Hid (w.grownBy w3 none) := grown_trans HG1.out g3; clear h1 h2 g3)
  refine bodyPost_ret (by simp [results, Try.results6, go_sem]; try rfl) rfl ?_
  exact ⟨v, rfl, fun h9 => ⟨(H1.out h9).1, (H1.out h9).2.1, DmV.low (H1.out h9).2.2 HG1.out.size⟩, H2.out, HG3.out⟩
end Go.Proofs.Ytbpdggdpgohilaa
