/- The walk of CheckLocals. -/
import Derived.Test.YtpcgkggpmipiaaaGreatG25
import Derived.Test.YtpcgkggpmipiaaaGreatG16
namespace Go.Proofs.YtpcgkggpmipiaaaGreat
open Go.RowKit
set_option linter.unusedVariables false
set_option maxRecDepth 100000
set_option maxHeartbeats 8000000
theorem checkLocals_walk (a0 : Option Addr) (cap : Nat) (l : List Tn) (w : World) (h : RowL 4 64 (· < w.heap.size) (TnAt (· < w.heap.size) w) a0 cap l) :
  Calls Tryz.prog 7 #[.slice a0 l.length cap] w fun e w' => e = .returned (.bool true) ∧ w.grownBy w' none := by
 have hle := h.le
 have hmx := h.max
 unfold maxLen at hmx
 have HL : Hid (RowL 4 64 (· < w.heap.size) (TnAt (· < w.heap.size) w) a0 cap l) := h
 have HNm : Hid (∀ e W, Calls Tryz.prog 10 #[.int .i64 e] W fun r w' => r = .returned (.int .i64 e) ∧ w' = W) := num9
 clear h
 go_enter Tryz.func7, Tryz.ntmps7
 go_wp2_with fail
 go_loopw [3] (fun ix wr => ∃ k : Nat, ix = .int .i64 k ∧ k ≤ l.length ∧ k ≤ 8 ∧ w.grownBy wr none) (fun ix _ => l.length - (intOf ix).toNat)
 case atStart => exact ⟨0, rfl, Nat.zero_le _, by omega, World.grownBy.refl _ _⟩
 case round =>
  obtain ⟨k, rfl, hk, hk8, hg⟩ := hrel
  have HG : Hid (w.grownBy wr none) := hg
  by_cases hgo : k < l.length ∧ k < 8
  case neg =>
   have HW := wakes9 wr
   clear hg
   have hcond : ((decide ((k : Int) < l.length)) = false) ∨ (decide ((k : Int) < l.length) = true ∧ decide ((k : Int) < 8) = false) := by
    by_cases hkn : k < l.length
    ·exact .inr ⟨decide_eq_true (by omega), decide_eq_false (by omega)⟩
    ·exact .inl (decide_eq_false (by omega))
   rcases hcond with d2 | ⟨d2, d3⟩
   ·have d4 : ¬ ((k : Int) < l.length) := by simpa using d2
    clear hgo
    go_wp2_with (go_at_call 14; refine HW.mono ?_; rintro e w4 ⟨rfl, hg4⟩; have G4 : Hid (wr.grownBy w4 none) := hg4; clear hg4)
    go_ret
    exact ⟨rfl, grown_trans HG.out G4.out⟩
   ·have d4 : (k : Int) < l.length := by simpa using d2
    have d5 : ¬ ((k : Int) < 8) := by simpa using d3
    clear hgo
    go_wp2_with (go_at_call 14; refine HW.mono ?_; rintro e w4 ⟨rfl, hg4⟩; have G4 : Hid (wr.grownBy w4 none) := hg4; clear hg4)
    go_ret
    exact ⟨rfl, grown_trans HG.out G4.out⟩
  obtain ⟨hkn, hk8'⟩ := hgo
  have hkn' : (k : Int) < l.length := by omega
  have hk9 : (k : Int) < 8 := by omega
  obtain ⟨b, o, rfl, hb, hx⟩ := HL.out.at hkn
  obtain ⟨a1, a2, k1, k2, c0', c1', c2', c3', hp, hrp⟩ := hx
  have HPr : Hid (∀ W, wr.grownBy W none → PrC (· < w.heap.size) W l[k].p a1 a2 k1 k2) := fun W g => ⟨TpL.grow hp.t (grown_trans HG.out g), FnL.grow hp.f (grown_trans HG.out g)⟩
  have HFN : Hid (∀ W, wr.grownBy W none → W.cell? ⟨b, o + k * 4 + 2, none⟩ = some (.int .i64 l[k].f) ∧ W.cell? ⟨b, o + k * 4 + 3, none⟩ = some (.int .i64 l[k].n)) := fun W g => ⟨(grown_trans HG.out g).cell c2' (by simp), (grown_trans HG.out g).cell c3' (by simp)⟩
  have HRP : Hid (∀ f, f ∈ l[k].p.funcs → R64 f.params) := hrp
  have c0 := HG.out.cell c0' (by simp)
  have c1 := HG.out.cell c1' (by simp)
  clear c0' c1' c2' c3' hp hrp
  generalize l[k].f = lf at *
  generalize l[k].n = ln at *
  generalize l[k].p = p at *
  obtain ⟨m, hm⟩ : ∃ m, m = p.funcs.length := ⟨_, rfl⟩
  obtain ⟨n, hn⟩ : ∃ n, n = p.types.length := ⟨_, rfl⟩
  rw [← hn] at c0
  rw [← hm] at c1
  have HW : Hid (∀ W, wr.grownBy W none → Calls Tryz.prog 8 #[.agg #[.slice a1 n k1, .slice a2 m k2], .int .i64 2500] W fun e w' => ∃ r, e = .returned (.int .i64 r) ∧ (r ≤ 2500 → r = p.w) ∧ W.grownBy w' none) := fun W g => by rw [hn, hm]; exact weight_any (by decide) (HPr.out W g)
  have HAB : Hid (∀ W, (wr.alloc (Obj.cells #[.slice a1 n k1, .slice a2 m k2] 27)).grownBy W none → W.cell? ⟨wr.heap.size, 0, none⟩ = some (.slice a1 n k1) ∧ W.cell? ⟨wr.heap.size, 1, none⟩ = some (.slice a2 m k2)) := fun W g => by
   have hk9 : Bk (wr.alloc (Obj.cells #[.slice a1 n k1, .slice a2 m k2] 27)) wr.heap.size 27 [.slice a1 n k1, .slice a2 m k2] := Bk.new _ _ _
   exact ⟨(hk9.grow g).cell (i := 0) rfl, (hk9.grow g).cell (i := 1) rfl⟩
  have HMN : Hid (p.funcs.length = m ∧ p.types.length = n) := ⟨hm.symm, hn.symm⟩
  have hmm : m ≤ k2 ∧ k2 ≤ 9223372036854775807 := by
   have h1 := (HPr.out wr (World.grownBy.refl _ _)).f.le
   have h2 := (HPr.out wr (World.grownBy.refl _ _)).f.max
   unfold maxLen at h2
   rw [HMN.out.1] at h1
   exact ⟨h1, h2⟩
  have HMM : Hid (m ≤ k2 ∧ k2 ≤ 9223372036854775807) := hmm
  have hm63 : (m : Int) ≤ 9223372036854775807 := by omega
  clear hm hn hg hmm
  by_cases hm0 : m = 0
  ·have d0 : ((m : Int) == 0) = true := by simpa using hm0
   clear hm0
   go_wp2_with (go_at_call 8; refine (HW.out _ (World.grownBy_alloc _ _ _)).mono ?_; rintro e w1 ⟨r, rfl, hr, hg1⟩; have G1 : Hid (wr.grownBy w1 none) := grown_trans (World.grownBy_alloc _ _ _) hg1; have y1 := (HAB.out w1 hg1).2; clear hg1 hr HW)
   all_goals
    go_ret
    exact ⟨rfl, grown_trans HG.out G1.out⟩
  have d0 : ((m : Int) == 0) = false := by simpa using hm0
  obtain ⟨f0, hf0a, hf0b, HWi⟩ := within_any lf (n := (m : Int)) (by omega) hm63
  obtain ⟨n0, rfl⟩ : ∃ n0 : Nat, f0 = (n0 : Int) := ⟨f0.toNat, by omega⟩
  have hn0 : n0 < m := by omega
  have HWi : Hid (∀ W, Calls Tryz.prog 22 #[.int .i64 lf, .int .i64 (m : Int)] W fun r w' => r = .returned (.int .i64 (n0 : Int)) ∧ w' = W) := HWi
  clear hf0a hf0b hm0
  obtain ⟨fb, fo, ha2, hfb, la, ra, ba, lc, rc, bc, he⟩ := (HPr.out wr (World.grownBy.refl _ _)).f.at (i := n0) (by rw [HMN.out.1]; exact hn0)
  obtain ⟨f, hf⟩ : ∃ f, f = p.funcs[n0]'(by rw [HMN.out.1]; exact hn0) := ⟨_, rfl⟩
  rw [← hf] at he
  have HFf : Hid (f ∈ p.funcs ∧ p.funcs.getD n0 Pg.fn0 = f) := by
   have hl9 : n0 < p.funcs.length := by rw [HMN.out.1]; exact hn0
   exact ⟨by rw [hf]; exact List.getElem_mem hl9, by rw [hf, List.getD_eq_getElem?_getD, List.getElem?_eq_getElem hl9]; rfl⟩
  have HFC : Hid (∀ W, wr.grownBy W none → FnC (· < w.heap.size) W fb (fo + n0 * 4) f la ra ba lc rc bc) := fun W g => ⟨g.cell he.c0 (by simp), g.cell he.c1 (by simp), g.cell he.c2 (by simp), g.cell he.c3 (by simp), NumL.ch (l := []) he.l (Ch.of g) (by simp) (fun _ h => h), NumL.ch (l := []) he.r (Ch.of g) (by simp) (fun _ h => h), StL.ch (l := []) he.b (Ch.of g) (by simp) (fun _ h => h)⟩
  have HA2 : Hid (a2 = some ⟨fb, fo, none⟩) := ha2
  clear hf he hfb ha2
  go_wp2_with (go_at_call 8; refine (HW.out _ (World.grownBy_alloc _ _ _)).mono ?_; rintro e w1 ⟨r, rfl, hr, hg1⟩; have GA : Hid ((wr.alloc (Obj.cells #[.slice a1 n k1, .slice a2 m k2] 27)).grownBy w1 none) := hg1; have G1 : Hid (wr.grownBy w1 none) := grown_trans (World.grownBy_alloc _ _ _) hg1; have R1 : Hid (r ≤ 2500 → r = p.w) := hr; have y0 := (HAB.out w1 hg1).1; have y1 := (HAB.out w1 hg1).2; clear hg1 hr HW)
  ·go_ret
   exact ⟨rfl, grown_trans HG.out G1.out⟩
  have hr4 : r ≤ 2500 := by assumption
  have hF : CmF p := CmF.of (HPr.out w1 G1.out) (by have := R1.out hr4; omega)
  have HF : Hid (CmF p) := hF
  have HCp1 : Hid (∀ W, wr.grownBy W none → Calls Tryz.prog 9 #[.agg #[.slice a1 n k1, .slice a2 m k2]] W fun e w' => ∃ a3 k3 a4 k4, e = .returned (.agg #[.slice a3 n k3, .slice a4 m k4]) ∧ PrC (fun q => q < w'.heap.size) w' p a3 a4 k3 k4 ∧ W.grownBy w' none) := fun W g => by
   rw [← HMN.out.1, ← HMN.out.2]
   refine (copyProgram_any (fun q hq => Nat.lt_of_lt_of_le hq (Nat.le_trans HG.out.size g.size)) (HPr.out W g).t (HPr.out W g).f).mono fun e w' h9 => ?_
   obtain ⟨a3, k3, a4, k4, e1, ⟨e2, e3⟩, e4⟩ := h9
   exact ⟨a3, k3, a4, k4, e1, ⟨TpL.ch e2 (l := []) (Ch.refl _ _) (by simp) (fun _ h => h.2), FnL.ch e3 (l := []) (Ch.refl _ _) (by simp) (fun _ h => h.2)⟩, e4⟩
  have HCo : Hid (∀ W, wr.grownBy W none → Calls Tryz.prog 9 #[.agg #[.slice a1 n k1, .slice a2 m k2]] W fun e w' => ∃ a5 k5 a6 k6 L s mm, e = .returned (.agg #[.slice a5 n k5, .slice a6 m k6]) ∧ LoC W.heap.size mm w' p a5 a6 k5 m k6 L s ∧ W.grownBy w' none) := fun W g => by
   rw [← HMN.out.1, ← HMN.out.2]
   refine (copyProgram_int (fun q hq => Nat.lt_of_lt_of_le hq (Nat.le_trans HG.out.size g.size)) (HPr.out W g).t (HPr.out W g).f).mono fun e w' h9 => ?_
   obtain ⟨a5, k5, a6, k6, L, s, mm, e1, ⟨e2, e3, e4, e5, e6⟩, e7⟩ := h9
   exact ⟨a5, k5, a6, k6, L, s, mm, e1, ⟨e2, e3, e4, e5, e6, by rw [← e2, List.length_map]⟩, e7⟩
  have HCk : Hid (∀ W a3 a4 k3 k4, PrC (fun q => q < W.heap.size) W p a3 a4 k3 k4 → Calls Tryz.prog 11 #[.agg #[.slice a3 n k3, .slice a4 m k4]] W fun e w' => e = .returned (.int .i64 (Ck.num (Ck.takeP p))) ∧ W.grownBy w' none) := fun W a3 a4 k3 k4 h => by
   have h9 := ckCheck h HF.out.rm HF.out.nt
   rw [HMN.out.1, HMN.out.2] at h9
   exact h9
  obtain ⟨E, hE⟩ : ∃ E, E = Ck.num (Ck.takeP p) := ⟨_, rfl⟩
  rw [← hE] at HCk
  have HE : Hid (E = Ck.num (Ck.takeP p)) := hE
  have HWt : Hid (p.w ≤ 2500) := by have := R1.out hr4; exact (by omega : p.w ≤ 2500)
  clear hF hr4 R1 hE
  go_wp2_with (first | (go_at_call 10; refine (HNm.out _ _).mono ?_; rintro e wN ⟨rfl, hwN⟩; rw [hwN]; clear hwN wN) | (go_at_call 9; refine (HCp1.out _ G1.out).mono ?_; rintro e w2 ⟨a3, k3, a4, k4, rfl, hp2, hg2⟩; have G2 : Hid (wr.grownBy w2 none) := grown_trans G1.out hg2; have G12 : Hid (w1.grownBy w2 none) := hg2; have HP2 : Hid (PrC (fun q => q < w2.heap.size) w2 p a3 a4 k3 k4) := hp2; clear hp2 hg2 HCp1) | (go_at_call 11; refine (HCk.out _ _ _ _ _ HP2.out).mono ?_; rintro e w3 ⟨rfl, hg3⟩; have G3 : Hid (wr.grownBy w3 none) := grown_trans G2.out hg3; have GB : Hid ((wr.alloc (Obj.cells #[.slice a1 n k1, .slice a2 m k2] 27)).grownBy w3 none) := grown_trans GA.out (grown_trans G12.out hg3); have y0 := (HAB.out _ GB.out).1; have y1 := (HAB.out _ GB.out).2; clear hg3 HCk))
  have HX3 : Hid (∀ W, w3.grownBy W none → (W.cell? ⟨b, o + k * 4 + 2, none⟩ = some (.int .i64 lf) ∧ W.cell? ⟨b, o + k * 4 + 3, none⟩ = some (.int .i64 ln)) ∧ W.cell? ⟨wr.heap.size, 0, none⟩ = some (.slice a1 n k1) ∧ W.cell? ⟨wr.heap.size, 1, none⟩ = some (.slice a2 m k2)) := fun W g => ⟨HFN.out W (grown_trans G3.out g), HAB.out W (grown_trans GB.out g)⟩
  have HWi2 : Hid (∀ W, w3.grownBy W none → Calls Tryz.prog 22 #[.int .i64 lf, .int .i64 (m : Int)] W fun r w' => r = .returned (.int .i64 (n0 : Int)) ∧ W.grownBy w' none) := fun W _ => (HWi.out W).mono fun e w' h => ⟨h.1, by rw [h.2]; exact World.grownBy.refl _ _⟩
  obtain ⟨PB, hPB⟩ : ∃ PB, PB = wr.heap.size := ⟨_, rfl⟩
  rw [← hPB] at HX3 ⊢
  clear y0 y1 HAB hPB
  refine region_lg 9 (World.grownBy.refl _ _) (by kernel_rfl) (by kernel_rfl) (by kernel_rfl) (by kernel_rfl) ?_
  simp only [List.take_succ_cons, List.take_zero]
  repeat (first
   | (refine lx_end fun W8 G8 => ?_)
   | (refine lx_no ?_ ?_ ?_; (· simp [Region.wanted]; done); (· kernel_rfl); simp only [Act.put, List.setIfInBounds_toArray, List.set_cons_succ, List.set_cons_zero])
   | (refine lx_val (v := ?_) ?_ ?_ ?_ ?_; rotate_left; (· kernel_rfl); (· exact ⟨by kernel_rfl, rfl⟩); (· intro W g; simp [go_sem, (HX3.out W g).1.1, (HX3.out W g).2.2, hkn']; rfl); simp only [Act.put, List.setIfInBounds_toArray, List.set_cons_succ, List.set_cons_zero])
   | (refine lx_callg HWi2.out ?_ ?_ ?_ ?_; (· kernel_rfl); (· exact ⟨by kernel_rfl, rfl⟩); (· intro W g; simp [go_sem]; done); simp only [Act.put, List.setIfInBounds_toArray, List.set_cons_succ, List.set_cons_zero]))
  simp only [List.drop_succ_cons, List.drop_zero]
  have G8' : Hid (wr.grownBy W8 none) := grown_trans G3.out G8
  have hHX8 := HX3.out W8 G8
  have y1 := hHX8.2.2
  rw [HA2.out] at y1
  have q0 := (HFC.out W8 G8'.out).c0
  have q1 := (HFC.out W8 G8'.out).c1
  have q2 := (HFC.out W8 G8'.out).c2
  have q3 := (HFC.out W8 G8'.out).c3
  have hnm : (n0 : Int) < (m : Int) := by omega
  have hR := HRP.out f HFf.out.1
  clear hHX8
  by_cases hp0 : f.params < 0
  ·have dP : decide (f.params < 0) = true := decide_eq_true hp0
   clear hp0
   go_wp2_with fail
   all_goals go_roundw
   all_goals first | exact ⟨k + 1, by go_num, by omega, by omega, grown_trans HG.out (grown_trans G8'.out (World.grownBy_alloc _ _ _))⟩ | (simp [intOf]; omega)
  obtain ⟨P, hP⟩ : ∃ P : Nat, f.params = (P : Int) := ⟨f.params.toNat, by omega⟩
  rw [hP] at q0 hR
  obtain ⟨Lq, hLq⟩ : ∃ Lq, Lq = f.locals.length := ⟨_, rfl⟩
  rw [← hLq] at q1
  have hLm : Lq ≤ 140737488351232 := by
   have h1 := (HFC.out W8 G8'.out).l.fits
   have h2 : f.locals.length * 8 ≤ 140737488351232 := h1
   omega
  have hP63 : (P : Int) ≤ 9223372036854775807 := hR.2
  have hwr : IntKind.i64.wrap ((Lq : Int) - (P : Int)) = (Lq : Int) - (P : Int) := by unfold IntKind.wrap; simp [IntKind.bits, IntKind.signed]; omega
  have HPq : Hid (f.params = (P : Int) ∧ Lq = f.locals.length) := ⟨hP, hLq⟩
  clear hp0 hR hP hLq
  by_cases h2 : (Lq : Int) - (P : Int) < 2
  ·have dQ : decide ((Lq : Int) - (P : Int) < 2) = true := decide_eq_true h2
   clear h2
   go_wp2_with fail
   all_goals go_roundw
   all_goals first | exact ⟨k + 1, by go_num, by omega, by omega, grown_trans HG.out (grown_trans G8'.out (World.grownBy_alloc _ _ _))⟩ | (simp [intOf]; omega)
  have dQ : decide ((Lq : Int) - (P : Int) < 2) = false := decide_eq_false h2
  obtain ⟨j0, hj0a, hj0b, HWj⟩ := within_any ln (n := (Lq : Int) - (P : Int)) (by omega) (by omega)
  obtain ⟨j, rfl⟩ : ∃ j : Nat, j0 = (j : Int) := ⟨j0.toNat, by omega⟩
  obtain ⟨a9, ha9⟩ : ∃ a9 : Nat, a9 = P + j := ⟨_, rfl⟩
  obtain ⟨b9, hb9⟩ : ∃ b9 : Nat, b9 + 1 = Lq := ⟨Lq - 1, by omega⟩
  have hwa : IntKind.i64.wrap ((P : Int) + (j : Int)) = (a9 : Int) := by unfold IntKind.wrap; simp [IntKind.bits, IntKind.signed]; omega
  have hwb : IntKind.i64.wrap ((Lq : Int) - 1) = (b9 : Int) := by unfold IntKind.wrap; simp [IntKind.bits, IntKind.signed]; omega
  have hab : a9 < Lq ∧ b9 < Lq ∧ P ≤ a9 ∧ P ≤ b9 := by omega
  have HAb : Hid (a9 < Lq ∧ b9 < Lq ∧ P ≤ a9 ∧ P ≤ b9) := hab
  have haq : (a9 : Int) < (Lq : Int) := by omega
  have hbq : (b9 : Int) < (Lq : Int) := by omega
  obtain ⟨FB, hFB⟩ : ∃ FB, FB = W8.heap.size := ⟨_, rfl⟩
  obtain ⟨W9, hW9⟩ : ∃ W9, W9 = W8.alloc (Obj.cells #[.int .i64 (P : Int), .slice la Lq lc, .slice ra f.results.length rc, .slice ba f.body.length bc] 53) := ⟨_, rfl⟩
  have HK9 : Hid (Bk W9 FB 53 [.int .i64 (P : Int), .slice la Lq lc, .slice ra f.results.length rc, .slice ba f.body.length bc]) := by rw [hFB, hW9]; exact Bk.new _ _ _
  have G89 : Hid (W8.grownBy W9 none) := by rw [hW9]; exact World.grownBy_alloc _ _ _
  have HX9 : Hid (∀ W, W9.grownBy W none → W.cell? ⟨FB, 0, none⟩ = some (.int .i64 (P : Int)) ∧ W.cell? ⟨FB, 1, none⟩ = some (.slice la Lq lc) ∧ W.cell? ⟨FB, 3, none⟩ = some (.slice ba f.body.length bc) ∧ W.cell? ⟨b, o + k * 4 + 3, none⟩ = some (.int .i64 ln) ∧ W.cell? ⟨PB, 0, none⟩ = some (.slice a1 n k1) ∧ W.cell? ⟨PB, 1, none⟩ = some (.slice a2 m k2)) := fun W g => by
   have h1 := HX3.out W (grown_trans G8 (grown_trans G89.out g))
   exact ⟨(HK9.out.grow g).cell (i := 0) rfl, (HK9.out.grow g).cell (i := 1) rfl, (HK9.out.grow g).cell (i := 3) rfl, h1.1.2, h1.2.1, h1.2.2⟩
  have HWj2 : Hid (∀ W, W9.grownBy W none → Calls Tryz.prog 22 #[.int .i64 ln, .int .i64 ((Lq : Int) - (P : Int))] W fun r w' => r = .returned (.int .i64 (j : Int)) ∧ W.grownBy w' none) := fun W _ => (HWj W).mono fun e w' h => ⟨h.1, by rw [h.2]; exact World.grownBy.refl _ _⟩
  clear h2 hj0a hj0b HWj ha9 hb9 hab
  go_wp2_with fail
  rw [← hW9, ← hFB]
  clear hW9 hFB
  refine region_lg 15 (World.grownBy.refl _ _) (by kernel_rfl) (by kernel_rfl) (by kernel_rfl) (by kernel_rfl) ?_
  simp only [List.take_succ_cons, List.take_zero]
  repeat (first
   | (refine lx_end fun W11 G11 => ?_)
   | (refine lx_no ?_ ?_ ?_; (· simp [Region.wanted]; done); (· kernel_rfl); simp only [Act.put, List.setIfInBounds_toArray, List.set_cons_succ, List.set_cons_zero])
   | (refine lx_val (v := ?_) ?_ ?_ ?_ ?_; rotate_left; (· kernel_rfl); (· exact ⟨by kernel_rfl, rfl⟩); (· intro W g; simp [go_sem, (HX9.out W g).1, (HX9.out W g).2.1, (HX9.out W g).2.2.2.1, hkn', hwr, hwa]; rfl); simp only [Act.put, List.setIfInBounds_toArray, List.set_cons_succ, List.set_cons_zero])
   | (refine lx_callg HWj2.out ?_ ?_ ?_ ?_; (· kernel_rfl); (· exact ⟨by kernel_rfl, rfl⟩); (· intro W g; simp [go_sem]; done); simp only [Act.put, List.setIfInBounds_toArray, List.set_cons_succ, List.set_cons_zero]))
  simp only [List.drop_succ_cons, List.drop_zero]
  have x0 := (HX9.out W11 G11).2.1
  have x1 := (HX9.out W11 G11).2.2.2.2.1
  have x2 := (HX9.out W11 G11).2.2.2.2.2
  have G11' : Hid (wr.grownBy W11 none) := grown_trans G8'.out (grown_trans G89.out G11)
  go_wp2_with (go_at_call 9; refine (HCo.out _ G11'.out).mono ?_; clear HCo; rintro e w13 ⟨a5, k5, a6, k6, L2, s2, mm, rfl, hC13, hg13⟩; have HC13 : Hid (LoC W11.heap.size mm w13 p a5 a6 k5 m k6 L2 s2) := hC13; have G13 : Hid (W11.grownBy w13 none) := hg13; clear hC13 hg13)
  have hlne : f.locals ≠ [] := by
   intro e
   have h1 := HPq.out.2
   rw [e] at h1
   simp at h1
   omega
  obtain ⟨T6, LB, of, e6, ha6, hE6⟩ := HC13.out.fn hn0 HFf.out.2 hlne
  have HE6 : Hid (LoE mm w13 f T6 k6 m n0 LB of L2 s2 e6) := hE6
  subst ha6
  obtain ⟨ob, oo, hla, hob, hol⟩ : ∃ ob oo, la = some ⟨ob, oo, none⟩ ∧ ob < w.heap.size ∧ ∀ W, wr.grownBy W none → ∀ i, i < f.locals.length → W.cell? ⟨ob, oo + i, none⟩ = some (.int .i64 (f.locals.getD i 0)) := by
   have h1 := (HFC.out wr (World.grownBy.refl _ _)).l
   rcases h1.lie with h0 | ⟨b, o, e9, hb9, hn9⟩
   ·exact absurd h0 hlne
   ·refine ⟨b, o, e9, hb9, fun W g i hi => ?_⟩
    have h8 := hn9 i (f.locals.getD i 0) (by rw [List.getD_eq_getElem?_getD, List.getElem?_eq_getElem hi]; rfl)
    unfold NumQ at h8
    rw [Nat.mul_one] at h8
    exact g.cell h8 (by simp)
  obtain ⟨QB, hQB⟩ : ∃ QB, QB = w13.heap.size := ⟨_, rfl⟩
  obtain ⟨W13, hW13⟩ : ∃ W13, W13 = w13.alloc (Obj.cells #[.slice a5 n k5, .slice (some ⟨T6, 0, none⟩) m k6] 27) := ⟨_, rfl⟩
  have HKQ : Hid (Bk W13 QB 27 [.slice a5 n k5, .slice (some ⟨T6, 0, none⟩) m k6]) := by rw [hQB, hW13]; exact Bk.new _ _ _
  have G1313 : Hid (w13.grownBy W13 none) := by rw [hW13]; exact World.grownBy_alloc _ _ _
  have hT6 := World.ownsRow.lt HC13.out.o.own T6 rfl
  have hsz : W13.heap.size = w13.heap.size + 1 := by rw [hW13]; simp
  have hFBl : FB < mm := by
   have h1 := (HK9.out.grow G11).lt
   have := HC13.out.l1
   omega
  have hwl : w.heap.size ≤ mm := by
   have h1 := (grown_trans HG.out G11'.out).size
   have := HC13.out.l1
   omega
  have HNe : Hid (QB ≠ LB ∧ QB ≠ T6 ∧ FB ≠ LB ∧ FB ≠ T6 ∧ ob ≠ LB ∧ ob ≠ T6 ∧ T6 ≠ LB ∧ w.heap.size ≤ LB ∧ w.heap.size ≤ T6 ∧ LB < W13.heap.size ∧ T6 < W13.heap.size ∧ mm ≤ LB ∧ mm ≤ T6 ∧ wr.heap.size ≤ LB ∧ wr.heap.size ≤ T6) := by
   have h1 := HE6.out.lo
   have h2 := HE6.out.hi
   have h3 := HE6.out.ne
   have h4 := G11'.out.size
   have h5 := HC13.out.l1
   have h6 := hT6.1
   have h7 := hT6.2
   exact ⟨by omega, by omega, by omega, by omega, by omega, by omega, h3, by omega, by omega, by omega, by omega, by omega, by omega, by omega, by omega⟩
  have HXc : Hid (∀ W l, Ch W13 W l → (∀ q, q ∈ l → q = LB ∨ q = T6) → W.cell? ⟨QB, 0, none⟩ = some (.slice a5 n k5) ∧ W.cell? ⟨QB, 1, none⟩ = some (.slice (some ⟨T6, 0, none⟩) m k6) ∧ W.cell? ⟨FB, 1, none⟩ = some (.slice la Lq lc) ∧ W.cell? ⟨FB, 3, none⟩ = some (.slice ba f.body.length bc) ∧ W.cell? ⟨ob, oo + a9, none⟩ = some (.int .i64 (f.locals.getD a9 0)) ∧ W.cell? ⟨ob, oo + b9, none⟩ = some (.int .i64 (f.locals.getD b9 0))) := fun W l g hl => by
   have h9 := HX9.out W13 (grown_trans G11 (grown_trans G13.out G1313.out))
   have h8 := hol W13 (grown_trans G11'.out (grown_trans G13.out G1313.out))
   have h7 := HNe.out
   have hQ : QB ∉ l := fun h => by rcases hl _ h with e | e <;> omega
   have hF : FB ∉ l := fun h => by rcases hl _ h with e | e <;> omega
   have hO : ob ∉ l := fun h => by rcases hl _ h with e | e <;> omega
   exact ⟨g.cell (HKQ.out.cell (i := 0) rfl) hQ, g.cell (HKQ.out.cell (i := 1) rfl) hQ, g.cell h9.2.1 hF, g.cell h9.2.2.1 hF, g.cell (h8 a9 (by rw [← HPq.out.2]; exact HAb.out.1)) hO, g.cell (h8 b9 (by rw [← HPq.out.2]; exact HAb.out.2.1)) hO⟩
  have HT6 : Hid (∀ W, Ch W13 W [LB] → W.cell? ⟨T6, n0 * 4 + 1, none⟩ = some (.slice (some ⟨LB, of, none⟩) Lq e6.k1) ∧ W.cell? ⟨T6, n0 * 4 + 3, none⟩ = some (.slice e6.a3 f.body.length e6.k3) ∧ W.ownsRow mm 53 4 (.slice (some ⟨T6, 0, none⟩) m k6) m (L2.flatMap cellsFE)) := fun W g => by
   have h1 := HC13.out.o.own
   rw [HC13.out.len] at h1
   have h2 := ownsRow_chg (h1.kept G1313.out (.inr (by simp [Value.ownBlock]))) g (fun q hq => by have hq9 : some T6 = some q := hq; injection hq9 with hq9; have h8 := HNe.out; simp only [List.mem_singleton]; omega)
   have h3 : W.cell? ⟨T6, n0 * 4 + 1, none⟩ = some (.slice e6.a1 e6.x.locals.length e6.k1) := own_cell lenF9 h2 HE6.out.at' rfl
   have h4 : W.cell? ⟨T6, n0 * 4 + 3, none⟩ = some (.slice e6.a3 e6.x.body.length e6.k3) := own_cell lenF9 h2 HE6.out.at' rfl
   rw [HE6.out.a1, HE6.out.x, ← HPq.out.2] at h3
   rw [HE6.out.x] at h4
   exact ⟨h3, h4, h2⟩
  have HLB : Hid (∀ W, W13.grownBy W none → (∀ i, i < f.locals.length → W.cell? ⟨LB, of + i, none⟩ = some (.int .i64 (f.locals.getD i 0))) ∧ IntB W LB) := fun W g => by
   have g2 := grown_trans G1313.out g
   exact ⟨fun i hi => g2.cell (HE6.out.nums i _ (by rw [List.getD_eq_getElem?_getD, List.getElem?_eq_getElem hi]; rfl)) (by simp), HE6.out.int.ch (l := []) (Ch.of g2) (by simp)⟩
  have HLa : Hid (la = some ⟨ob, oo, none⟩) := hla
  obtain ⟨va, hva⟩ : ∃ va, va = f.locals.getD a9 0 := ⟨_, rfl⟩
  obtain ⟨vb, hvb⟩ : ∃ vb, vb = f.locals.getD b9 0 := ⟨_, rfl⟩
  rw [← hva, ← hvb, hla] at HXc
  have HVa : Hid (va = f.locals.getD a9 0) := hva
  have HVb : Hid (vb = f.locals.getD b9 0) := hvb
  have hHo : Hid (∀ W, wr.grownBy W none → ∀ i, i < f.locals.length → W.cell? ⟨ob, oo + i, none⟩ = some (.int .i64 (f.locals.getD i 0))) := hol
  rw [← hW13, ← hQB]
  clear hlne hE6 hla hob hol hQB hW13 hT6 hsz hFBl hwl hva hvb x0 x1 x2
  have HX14 : Hid (∀ W, W13.grownBy W none → W.cell? ⟨QB, 1, none⟩ = some (.slice (some ⟨T6, 0, none⟩) m k6) ∧ W.cell? ⟨FB, 1, none⟩ = some (.slice (some ⟨ob, oo, none⟩) Lq lc) ∧ W.cell? ⟨ob, oo + b9, none⟩ = some (.int .i64 vb) ∧ W.cell? ⟨T6, n0 * 4 + 1, none⟩ = some (.slice (some ⟨LB, of, none⟩) Lq e6.k1)) := fun W g => by
   have h1 := HXc.out W [] (Ch.of g) (by simp)
   exact ⟨h1.2.1, h1.2.2.1, h1.2.2.2.2.2, (HT6.out W (Ch.of g)).1⟩
  refine region_lg 13 (World.grownBy.refl _ _) (by kernel_rfl) (by kernel_rfl) (by kernel_rfl) (by kernel_rfl) ?_
  simp only [List.take_succ_cons, List.take_zero]
  repeat (first
   | (refine lx_end fun W14 G14 => ?_)
   | (refine lx_no ?_ ?_ ?_; (· simp [Region.wanted]; done); (· kernel_rfl); simp only [Act.put, List.setIfInBounds_toArray, List.set_cons_succ, List.set_cons_zero])
   | (refine lx_val (v := ?_) ?_ ?_ ?_ ?_; rotate_left; (· kernel_rfl); (· exact ⟨by kernel_rfl, rfl⟩); (· intro W g; simp [go_sem, (HX14.out W g).1, (HX14.out W g).2.1, (HX14.out W g).2.2.1, (HX14.out W g).2.2.2, hnm, haq, hbq]; rfl); simp only [Act.put, List.setIfInBounds_toArray, List.set_cons_succ, List.set_cons_zero]))
  simp only [List.drop_succ_cons, List.drop_zero]
  have r14 := (HLB.out W14 G14).1 a9 (by rw [← HPq.out.2]; exact HAb.out.1)
  have s14 := (HLB.out W14 G14).2.fz (of + a9)
  obtain ⟨W15, hW15⟩ : ∃ W15, W15 = W14.setCell ⟨LB, of + a9, none⟩ (.int .i64 vb) := ⟨_, rfl⟩
  have C15 : Hid (Ch W13 W15 [LB]) := by rw [hW15]; exact (Ch.of G14).trans (Ch.one (grown_set _ _ _ _) (by simp))
  have HL15 : Hid ((∀ i, i < f.locals.length → W15.cell? ⟨LB, of + i, none⟩ = some (.int .i64 (if i = a9 then vb else f.locals.getD i 0))) ∧ IntB W15 LB) := by
   obtain ⟨h1, h2⟩ := HLB.out W14 G14
   rw [hW15]
   refine ⟨fun i hi => ?_, h2.set _ _⟩
   by_cases hia : i = a9
   ·subst hia
    rw [if_pos rfl]
    exact World.cell?_setCell_same _ _ _ (h1 _ hi)
   ·rw [if_neg hia, World.cell?_setCell_other _ _ _ _ (by first | (simp; done) | (simp; omega))]
    exact h1 i hi
  go_wp2_with fail
  rw [← hW15]
  clear hW15 r14 s14
  have HX15 : Hid (∀ W, W15.grownBy W none → W.cell? ⟨QB, 1, none⟩ = some (.slice (some ⟨T6, 0, none⟩) m k6) ∧ W.cell? ⟨FB, 1, none⟩ = some (.slice (some ⟨ob, oo, none⟩) Lq lc) ∧ W.cell? ⟨ob, oo + a9, none⟩ = some (.int .i64 va) ∧ W.cell? ⟨T6, n0 * 4 + 1, none⟩ = some (.slice (some ⟨LB, of, none⟩) Lq e6.k1)) := fun W g => by
   have h1 := HXc.out W [LB] (C15.out.trans (Ch.of g)) (by simp)
   exact ⟨h1.2.1, h1.2.2.1, h1.2.2.2.2.1, (HT6.out W (C15.out.trans (Ch.of g))).1⟩
  refine region_lg 13 (World.grownBy.refl _ _) (by kernel_rfl) (by kernel_rfl) (by kernel_rfl) (by kernel_rfl) ?_
  simp only [List.take_succ_cons, List.take_zero]
  repeat (first
   | (refine lx_end fun W16 G16 => ?_)
   | (refine lx_no ?_ ?_ ?_; (· simp [Region.wanted]; done); (· kernel_rfl); simp only [Act.put, List.setIfInBounds_toArray, List.set_cons_succ, List.set_cons_zero])
   | (refine lx_val (v := ?_) ?_ ?_ ?_ ?_; rotate_left; (· kernel_rfl); (· exact ⟨by kernel_rfl, rfl⟩); (· intro W g; simp [go_sem, (HX15.out W g).1, (HX15.out W g).2.1, (HX15.out W g).2.2.1, (HX15.out W g).2.2.2, hnm, haq, hbq]; rfl); simp only [Act.put, List.setIfInBounds_toArray, List.set_cons_succ, List.set_cons_zero]))
  simp only [List.drop_succ_cons, List.drop_zero]
  have hw16 : (∀ i, i < f.locals.length → W16.cell? ⟨LB, of + i, none⟩ = some (.int .i64 (if i = a9 then vb else f.locals.getD i 0))) ∧ IntB W16 LB := ⟨fun i hi => G16.cell (HL15.out.1 i hi) (by simp), HL15.out.2.ch (l := []) (Ch.of G16) (by simp)⟩
  have r16 := hw16.1 b9 (by rw [← HPq.out.2]; exact HAb.out.2.1)
  have s16 := hw16.2.fz (of + b9)
  obtain ⟨W17, hW17⟩ : ∃ W17, W17 = W16.setCell ⟨LB, of + b9, none⟩ (.int .i64 va) := ⟨_, rfl⟩
  have C17 : Hid (Ch W13 W17 [LB]) := by rw [hW17]; exact (C15.out.trans (Ch.of G16)).trans (Ch.one (grown_set _ _ _ _) (by simp))
  have HL17 : Hid (∀ i, i < f.locals.length → W17.cell? ⟨LB, of + i, none⟩ = some (.int .i64 (if i = b9 then va else if i = a9 then vb else f.locals.getD i 0))) := by
   rw [hW17]
   intro i hi
   by_cases hib : i = b9
   ·subst hib
    rw [if_pos rfl]
    exact World.cell?_setCell_same _ _ _ (hw16.1 _ hi)
   ·rw [if_neg hib, World.cell?_setCell_other _ _ _ _ (by first | (simp; done) | (simp; omega))]
    exact hw16.1 i hi
  generalize (if b9 = a9 then vb else f.locals.getD b9 0) = zb at r16
  clear hw16
  go_wp2_with fail
  rw [← hW17]
  clear hW17 r16 s16
  have HX17 : Hid (∀ W, W17.grownBy W none → W.cell? ⟨QB, 1, none⟩ = some (.slice (some ⟨T6, 0, none⟩) m k6) ∧ W.cell? ⟨FB, 3, none⟩ = some (.slice ba f.body.length bc)) := fun W g => by
   have h1 := HXc.out W [LB] (C17.out.trans (Ch.of g)) (by simp)
   exact ⟨h1.2.1, h1.2.2.2.1⟩
  have HSw : Hid (∀ W, W17.grownBy W none → Calls Tryz.prog 23 #[.slice ba f.body.length bc, .int .i64 (a9 : Int), .int .i64 (b9 : Int)] W fun e w' => ∃ v, e = .returned v ∧ W.grownBy w' none ∧ ∃ a' c', v = .slice a' f.body.length c' ∧ StL (fun q => W17.heap.size ≤ q ∧ q < w'.heap.size) w' a' c' (Pg.swSs (Pg.oth a9 b9) f.body)) := fun W g => by
   have h9 := HNe.out
   have hab := HAb.out
   have hch : Ch wr W [LB] := ((Ch.of (grown_trans G11'.out (grown_trans G13.out G1313.out))).trans C17.out).trans (Ch.of g)
   have hbd := (HFC.out wr (World.grownBy.refl _ _)).b
   have hsz9 := (grown_trans HG.out (World.grownBy.refl wr none)).size
   refine (swapped_any (x := (a9 : Int)) (y := (b9 : Int)) ⟨by omega, by omega⟩ ⟨by omega, by omega⟩ f.body (· < w.heap.size) W ba bc (fun q hq => Nat.lt_of_lt_of_le hq (Nat.le_trans hsz9 hch.size)) (StL.ch hbd hch (fun q hq hm => by simp at hm; omega) (fun _ h => h))).mono fun e w' h => ?_
   obtain ⟨a', c', h1, h2, h3⟩ := h
   have hs := g.size
   exact ⟨_, h1, h3, a', c', rfl, StL.ch (l := []) h2 (Ch.refl _ _) (by simp) (fun q hq => ⟨by have := hq.1; omega, hq.2⟩)⟩
  refine region_ly (fun w w' => w.grownBy w' none) (fun h1 h2 => grown_trans h1 h2) (fun w => World.grownBy.refl _ _) 10 [.val (.pointer (some ⟨QB, 1, none⟩)), .val (.slice (some ⟨T6, 0, none⟩) m k6), .val (.int .i64 (n0 : Int)), .val (.pointer (some ⟨FB, 3, none⟩)), .val (.slice ba f.body.length bc), .val (.int .i64 (a9 : Int)), .val (.int .i64 (b9 : Int)), .prop (fun v w9 => ∃ a' c', v = .slice a' f.body.length c' ∧ StL (fun q => W17.heap.size ≤ q ∧ q < w9.heap.size) w9 a' c' (Pg.swSs (Pg.oth a9 b9) f.body)), .val (.pointer (some ⟨T6, n0 * 4, none⟩)), .val (.pointer (some ⟨T6, n0 * 4 + 3, none⟩))] rfl (by kernel_rfl) (by kernel_rfl) (by kernel_rfl) (by kernel_rfl) ?_
  simp only [List.take_succ_cons, List.take_zero]
  repeat (refine ly_val (x := _) rfl ?_ ?_ (fun w => World.grownBy.refl _ _) ?_ ?_; (· kernel_rfl); (· exact ⟨by kernel_rfl, rfl⟩); (· intro W gg; have g9 : W17.grownBy W none := grown_trans (grown_drew (World.grownBy.refl _ none)) gg; simp [go_sem, (HX17.out W g9).1, (HX17.out W g9).2]; done); simp only [Act.put, List.setIfInBounds_toArray, List.set_cons_succ, List.set_cons_zero])
  refine ly_prop (f := 23) (args := #[.slice ba f.body.length bc, .int .i64 (a9 : Int), .int .i64 (b9 : Int)]) rfl (by kernel_rfl) ⟨by kernel_rfl, rfl⟩ ?_ (fun W g => by simp [go_sem]) ?_ ?_
  ·intro v W W9 h9 hg9
   obtain ⟨a', c', h1, h2⟩ := h9
   exact ⟨a', c', h1, StL.ch (l := []) h2 (Ch.of hg9) (by simp) (fun q hq => ⟨hq.1, Nat.lt_of_lt_of_le hq.2 hg9.size⟩)⟩
  ·intro W gg _
   have g9 : W17.grownBy W none := grown_trans (grown_drew (World.grownBy.refl _ none)) gg
   exact HSw.out W g9
  intro v
  simp only [Act.put, List.setIfInBounds_toArray, List.set_cons_succ, List.set_cons_zero]
  repeat (refine ly_val (x := _) rfl ?_ ?_ (fun w => World.grownBy.refl _ _) ?_ ?_; (· kernel_rfl); (· exact ⟨by kernel_rfl, rfl⟩); (· intro W gg; have g9 : W17.grownBy W none := grown_trans (grown_drew (World.grownBy.refl _ none)) gg; simp [go_sem, hnm]; done); simp only [Act.put, List.setIfInBounds_toArray, List.set_cons_succ, List.set_cons_zero])
  refine ly_end fun W18 g18 hh => ?_
  obtain ⟨ab, cb, hv, hbs⟩ := hh (7, fun w9 => ∃ a' c', v = .slice a' f.body.length c' ∧ StL (fun q => W17.heap.size ≤ q ∧ q < w9.heap.size) w9 a' c' (Pg.swSs (Pg.oth a9 b9) f.body)) (by simp)
  subst hv
  have G18 : Hid (W17.grownBy W18 none) := grown_trans (grown_drew (World.grownBy.refl _ none)) g18
  clear g18 hh
  have C18 : Hid (Ch W13 W18 [LB]) := C17.out.trans (Ch.of G18.out)
  have hT18 := HT6.out W18 C18.out
  have r18 := hT18.2.1
  have s18 : W18.frozen? ⟨T6, n0 * 4 + 3, none⟩ = false := World.ownsRow.frozenAt hT18.2.2 _
  obtain ⟨W19, hW19⟩ : ∃ W19, W19 = W18.setCell ⟨T6, n0 * 4 + 3, none⟩ (.slice ab f.body.length cb) := ⟨_, rfl⟩
  have C1819 : Ch W18 W19 [T6] := by rw [hW19]; exact Ch.one (grown_set _ _ _ _) (by simp)
  have C19 : Hid (Ch W13 W19 [LB, T6]) := (C18.out.mono (fun q _ h => by simp at h; simp [h])).trans (C1819.mono (fun q _ h => by simp at h; simp [h]))
  have hX19 := HXc.out W19 [LB, T6] C19.out (by simp)
  have x0 := hX19.1
  have x1 := hX19.2.1
  rw [hW19] at x0 x1
  have hX18 := HXc.out W18 [LB] C18.out (by simp)
  have z0 := hX18.1
  have z1 := hX18.2.1
  have hQT : (QB = T6) = False := eq_false HNe.out.2.1
  have HPq9 : Hid (PrC (fun q => q < W19.heap.size) W19 (Pg.Pr.sw p n0 a9 b9) a5 (some ⟨T6, 0, none⟩) k5 k6) := by
   have hn9 := HNe.out
   have hc9 : Ch w13 W19 [T6, LB] := (Ch.of G1313.out).trans (C19.out.mono (fun q _ h => by simp at h; simp; omega))
   have hfx := HE6.out.x
   have hrow := own_set (j := 3) (u := .slice ab f.body.length cb) (e' := (⟨f.sw a9 b9, e6.a1, e6.k1, e6.a2, e6.k2, ab, cb⟩ : FE)) lenF9 hT18.2.2 HE6.out.at' (by omega) (by
    unfold cellsFE
    rw [hfx]
    simp [Pg.Fn.sw, Pg.swSs_len])
   rw [← hW19] at hrow
   have hlen : f.locals.length ≠ 0 := by have := HPq.out.2; have := HAb.out.1; omega
   have hz := C1819.size
   have hz18 := G18.out.size
   have hz17 := C17.out.size
   have hz13 := G1313.out.size
   refine ⟨TpL.ch HC13.out.t hc9 (fun q hq hm => by simp at hm; have := hq.2; omega) (fun q hq => Nat.lt_of_lt_of_le (Nat.lt_of_lt_of_le hq.2 HC13.out.l2) hc9.size), ?_⟩
   have h9 := lo_row (f' := f.sw a9 b9) HC13.out.o HC13.out.len HE6.out.at' hc9 HE6.out.a1 (by rw [hfx]; intro e; rw [e] at hlen; simp at hlen) hrow (by rw [hfx]; simp [Pg.Fn.sw]) (by rw [hfx]; rfl) (fun i z hz9 => ?_) (StL.ch hbs C1819 (fun q hq hm => by simp at hm; have := hq.1; omega) (fun q hq => ⟨by have := hq.1; omega, by have := hq.2; omega⟩)) (by
    have := (HPr.out wr (World.grownBy.refl _ _)).f.fits
    rw [HMN.out.1] at this
    exact this)
   ·rw [List.map_set, HC13.out.e] at h9
    have e9 : (Pg.Pr.sw p n0 a9 b9).funcs = p.funcs.set n0 (f.sw a9 b9) := by unfold Pg.Pr.sw; rw [HFf.out.2]
    rw [e9]
    exact h9
   ·have hi : i < f.locals.length := by
     have := (List.getElem?_eq_some_iff.1 hz9).1
     simpa [Pg.Fn.sw] using this
    have h8 := C1819.cell ((Ch.of (l := []) G18.out).cell (HL17.out i hi) (by simp)) (by simp; omega)
    rw [h8]
    have ez : z = (if i = b9 then va else if i = a9 then vb else f.locals.getD i 0) := by
     rw [HVa.out, HVb.out]
     unfold Pg.Fn.sw at hz9
     dsimp only at hz9
     rw [List.getElem?_set, List.length_set] at hz9
     by_cases e1 : b9 = i
     ·rw [if_pos e1, if_pos (by omega)] at hz9
      injection hz9 with hz9
      rw [if_pos e1.symm, hz9]
     ·rw [if_neg e1, List.getElem?_set] at hz9
      rw [if_neg (fun h => e1 h.symm)]
      by_cases e2 : a9 = i
      ·rw [if_pos e2, if_pos (by omega)] at hz9
       injection hz9 with hz9
       rw [if_pos e2.symm, hz9]
      ·rw [if_neg e2] at hz9
       rw [if_neg (fun h => e2 h.symm), List.getD_eq_getElem?_getD, hz9]
       rfl
    rw [ez]
  have HCq : Hid (Calls Tryz.prog 11 #[.agg #[.slice a5 n k5, .slice (some ⟨T6, 0, none⟩) m k6]] W19 fun e w' => e = .returned (.int .i64 (Ck.num (Ck.takeP (Pg.Pr.sw p n0 a9 b9)))) ∧ W19.grownBy w' none) := by
   have hF9 := CmF.of HPq9.out (by rw [Pg.Pr.sw_w]; exact HWt.out)
   have h9 := ckCheck HPq9.out hF9.rm hF9.nt
   rw [show (Pg.Pr.sw p n0 a9 b9).types.length = n from HMN.out.2, show (Pg.Pr.sw p n0 a9 b9).funcs.length = m by unfold Pg.Pr.sw; rw [List.length_set]; exact HMN.out.1] at h9
   exact h9
  have HGe : Hid (∀ W, W19.grownBy W none → w.grownBy W none) := fun W g => by
   have hn9 := HNe.out
   have h9 : Ch wr W [LB, T6] := ((Ch.of (grown_trans G11'.out (grown_trans G13.out G1313.out))).trans C19.out).trans (Ch.of g)
   exact grown_trans HG.out (h9.nil (fun q hq => by simp at hq; omega))
  by_cases hE0 : E = 0
  ·have dE : (E == 0) = true := by simpa using hE0
   have hok : Ck.takeP p = .ok () := by
    cases h : Ck.takeP p with
    | ok u => rfl
    | error x =>
     have h1 := Ck.take_nz p x h
     have h2 := HE.out
     rw [h, hE0] at h2
     exact absurd h2.symm h1
   have hq9 : Ck.takeP (Pg.Pr.sw p n0 a9 b9) = .ok () := by
    have hn9 : n0 < p.funcs.length := by rw [HMN.out.1]; exact hn0
    have hab := HAb.out
    have hpq := HPq.out
    refine Ck.take_sw hn9 ?_ ?_ ?_ ?_ ?_ hok
    all_goals rw [HFf.out.2]
    ·omega
    ·omega
    ·rw [hpq.1]; omega
    ·rw [hpq.1]; omega
    ·rw [hpq.1]; omega
   have hCq := HCq.out
   rw [hq9] at hCq
   have HCq9 : Hid (Calls Tryz.prog 11 #[.agg #[.slice a5 n k5, .slice (some ⟨T6, 0, none⟩) m k6]] W19 fun e w' => e = .returned (.int .i64 0) ∧ W19.grownBy w' none) := hCq
   clear hE0 hok hq9 hCq HCq hT18 hX19 C1819 hbs hX18
   go_wp2_with (first | (go_at_call 10; refine (HNm.out _ _).mono ?_; rintro e wN ⟨rfl, hwN⟩; rw [hwN]; clear hwN wN) | (go_at_call 11; rw [← hW19]; refine HCq9.out.mono ?_; clear HCq9; rintro e w20 ⟨rfl, hg20⟩; have G20 : Hid (W19.grownBy w20 none) := hg20; clear hg20))
   all_goals go_roundw
   all_goals first | exact ⟨k + 1, by go_num, by omega, by omega, HGe.out _ G20.out⟩ | (simp [intOf]; omega)
  ·have dE : (E == 0) = false := by simpa using hE0
   clear hE0 HCq hT18 hX19 C1819 hbs hX18
   go_wp2_with fail
   all_goals go_roundw
   all_goals first | exact ⟨k + 1, by go_num, by omega, by omega, by rw [← hW19]; exact HGe.out _ (World.grownBy.refl _ _)⟩ | (simp [intOf]; omega)
end Go.Proofs.YtpcgkggpmipiaaaGreat
