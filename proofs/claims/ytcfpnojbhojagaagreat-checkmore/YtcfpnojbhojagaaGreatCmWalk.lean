/- The walk of CheckMore. -/
import Derived.Test.YtcfpnojbhojagaaGreatCmQ
import Derived.Test.YtcfpnojbhojagaaGreatG2
namespace Go.Proofs.YtcfpnojbhojagaaGreat
open Go.RowKit
set_option linter.unusedVariables false
set_option maxRecDepth 100000
set_option maxHeartbeats 8000000
theorem checkMore_walk (a0 : Option Addr) (cap : Nat) (l : List Pg.Pr) (w : World) (h : RowL 2 48 (· < w.heap.size) (PrAt (· < w.heap.size) w) a0 cap l) :
  Calls Tryz.prog 6 #[.slice a0 l.length cap] w fun e w' => e = .returned (.bool true) ∧ w.grownBy w' none := by
 have hle := h.le
 have hmx := h.max
 unfold maxLen at hmx
 have HL : Hid (RowL 2 48 (· < w.heap.size) (PrAt (· < w.heap.size) w) a0 cap l) := h
 have HNm : Hid (∀ e W, Calls Tryz.prog 10 #[.int .i64 e] W fun r w' => r = .returned (.int .i64 e) ∧ w' = W) := num9
 clear h
 go_enter Tryz.func6, Tryz.ntmps6
 go_wp2_with fail
 go_loopw [3] (fun ix wr => ∃ k : Nat, ix = .int .i64 k ∧ k ≤ l.length ∧ k ≤ 8 ∧ w.grownBy wr none) (fun ix _ => l.length - (intOf ix).toNat)
 case atStart => exact ⟨0, rfl, Nat.zero_le _, by omega, World.grownBy.refl _ _⟩
 case round =>
  obtain ⟨k, rfl, hk, hk8, hg⟩ := hrel
  have HG : Hid (w.grownBy wr none) := hg
  by_cases hgo : k < l.length ∧ k < 8
  case neg =>
   have HW := wakes9 wr
   clear hg
   have hcond : ((decide ((k : Int) < l.length)) = false) ∨ (decide ((k : Int) < l.length) = true ∧ decide ((k : Int) < 8) = false) := by
    by_cases hkn : k < l.length
    ·exact .inr ⟨decide_eq_true (by omega), decide_eq_false (by omega)⟩
    ·exact .inl (decide_eq_false (by omega))
   rcases hcond with d2 | ⟨d2, d3⟩
   ·have d4 : ¬ ((k : Int) < l.length) := by simpa using d2
    clear hgo
    go_wp2_with (go_at_call 14; refine HW.mono ?_; rintro e w4 ⟨rfl, hg4⟩; have G4 : Hid (wr.grownBy w4 none) := hg4; clear hg4)
    go_ret
    exact ⟨rfl, grown_trans HG.out G4.out⟩
   ·have d4 : (k : Int) < l.length := by simpa using d2
    have d5 : ¬ ((k : Int) < 8) := by simpa using d3
    clear hgo
    go_wp2_with (go_at_call 14; refine HW.mono ?_; rintro e w4 ⟨rfl, hg4⟩; have G4 : Hid (wr.grownBy w4 none) := hg4; clear hg4)
    go_ret
    exact ⟨rfl, grown_trans HG.out G4.out⟩
  obtain ⟨hkn, hk8'⟩ := hgo
  have hkn' : (k : Int) < l.length := by omega
  have hk9 : (k : Int) < 8 := by omega
  obtain ⟨b, o, rfl, hb, hx⟩ := HL.out.at hkn
  obtain ⟨a1, a2, k1, k2, c0', c1', hp⟩ := hx
  have HPr : Hid (∀ W, wr.grownBy W none → PrC (· < w.heap.size) W l[k] a1 a2 k1 k2) := fun W g => ⟨TpL.grow hp.t (grown_trans HG.out g), FnL.grow hp.f (grown_trans HG.out g)⟩
  have c0 := HG.out.cell c0' (by simp)
  have c1 := HG.out.cell c1' (by simp)
  clear c0' c1' hp
  generalize l[k] = p at *
  obtain ⟨m, hm⟩ : ∃ m, m = p.funcs.length := ⟨_, rfl⟩
  obtain ⟨n, hn⟩ : ∃ n, n = p.types.length := ⟨_, rfl⟩
  rw [← hn] at c0
  rw [← hm] at c1
  have HW : Hid (∀ W, wr.grownBy W none → Calls Tryz.prog 8 #[.agg #[.slice a1 n k1, .slice a2 m k2], .int .i64 2500] W fun e w' => ∃ r, e = .returned (.int .i64 r) ∧ (r ≤ 2500 → r = p.w) ∧ W.grownBy w' none) := fun W g => by rw [hn, hm]; exact weight_any (by decide) (HPr.out W g)
  have HAB : Hid (∀ W, (wr.alloc (Obj.cells #[.slice a1 n k1, .slice a2 m k2] 27)).grownBy W none → W.cell? ⟨wr.heap.size, 0, none⟩ = some (.slice a1 n k1) ∧ W.cell? ⟨wr.heap.size, 1, none⟩ = some (.slice a2 m k2)) := fun W g => by
   have hk9 : Bk (wr.alloc (Obj.cells #[.slice a1 n k1, .slice a2 m k2] 27)) wr.heap.size 27 [.slice a1 n k1, .slice a2 m k2] := Bk.new _ _ _
   exact ⟨(hk9.grow g).cell (i := 0) rfl, (hk9.grow g).cell (i := 1) rfl⟩
  have HMN : Hid (p.funcs.length = m ∧ p.types.length = n) := ⟨hm.symm, hn.symm⟩
  clear hm hn hg
  go_wp2_with (go_at_call 8; refine (HW.out _ (World.grownBy_alloc _ _ _)).mono ?_; rintro e w1 ⟨r, rfl, hr, hg1⟩; have GA : Hid ((wr.alloc (Obj.cells #[.slice a1 n k1, .slice a2 m k2] 27)).grownBy w1 none) := hg1; have G1 : Hid (wr.grownBy w1 none) := grown_trans (World.grownBy_alloc _ _ _) hg1; have R1 : Hid (r ≤ 2500 → r = p.w) := hr; have y0 := (HAB.out w1 hg1).1; have y1 := (HAB.out w1 hg1).2; clear hg1 hr HW)
  ·go_ret
   exact ⟨rfl, grown_trans HG.out G1.out⟩
  have hr4 : r ≤ 2500 := by assumption
  have hF : CmF p := CmF.of (HPr.out w1 G1.out) (by have := R1.out hr4; omega)
  have HF : Hid (CmF p) := hF
  have HCp1 : Hid (∀ W, wr.grownBy W none → Calls Tryz.prog 9 #[.agg #[.slice a1 n k1, .slice a2 m k2]] W fun e w' => ∃ a3 k3 a4 k4, e = .returned (.agg #[.slice a3 n k3, .slice a4 m k4]) ∧ PrC (fun q => q < w'.heap.size) w' p a3 a4 k3 k4 ∧ W.grownBy w' none) := fun W g => by
   rw [← HMN.out.1, ← HMN.out.2]
   refine (copyProgram_any (fun q hq => Nat.lt_of_lt_of_le hq (Nat.le_trans HG.out.size g.size)) (HPr.out W g).t (HPr.out W g).f).mono fun e w' h9 => ?_
   obtain ⟨a3, k3, a4, k4, e1, ⟨e2, e3⟩, e4⟩ := h9
   exact ⟨a3, k3, a4, k4, e1, ⟨TpL.ch e2 (l := []) (Ch.refl _ _) (by simp) (fun _ h => h.2), FnL.ch e3 (l := []) (Ch.refl _ _) (by simp) (fun _ h => h.2)⟩, e4⟩
  clear hF hr4 R1
  cases htk : Ck.takeP p with
  | error x =>
   have hx0 := Ck.take_nz p x htk
   have HCk : Hid (∀ W a3 a4 k3 k4, PrC (fun q => q < W.heap.size) W p a3 a4 k3 k4 → Calls Tryz.prog 11 #[.agg #[.slice a3 n k3, .slice a4 m k4]] W fun e w' => e = .returned (.int .i64 x) ∧ W.grownBy w' none) := fun W a3 a4 k3 k4 h => by
    have h9 := ckCheck h HF.out.rm HF.out.nt
    rw [htk, HMN.out.1, HMN.out.2] at h9
    exact h9
   have hxb : (x == 0) = false := by simpa using hx0
   clear htk hx0 HF HMN HPr
   go_wp2_with (first | (go_at_call 10; refine (HNm.out _ _).mono ?_; rintro e wN ⟨rfl, hwN⟩; rw [hwN]; clear hwN wN) | (go_at_call 9; refine (HCp1.out _ G1.out).mono ?_; rintro e w2 ⟨a3, k3, a4, k4, rfl, hp2, hg2⟩; have G2 : Hid (wr.grownBy w2 none) := grown_trans G1.out hg2; have G12 : Hid (w1.grownBy w2 none) := hg2; have HP2 : Hid (PrC (fun q => q < w2.heap.size) w2 p a3 a4 k3 k4) := hp2; clear hp2 hg2 HCp1) | (go_at_call 11; refine (HCk.out _ _ _ _ _ HP2.out).mono ?_; rintro e w3 ⟨rfl, hg3⟩; have G3 : Hid (wr.grownBy w3 none) := grown_trans G2.out hg3; have GB : Hid ((wr.alloc (Obj.cells #[.slice a1 n k1, .slice a2 m k2] 27)).grownBy w3 none) := grown_trans GA.out (grown_trans G12.out hg3); have y0 := (HAB.out _ GB.out).1; have y1 := (HAB.out _ GB.out).2; clear hg3 HCk))
   all_goals go_roundw
   all_goals first | exact ⟨k + 1, by go_num, by omega, by omega, grown_trans HG.out G3.out⟩ | (simp [intOf]; omega)
  | ok u =>
   obtain ⟨⟩ := u
   obtain ⟨_, _, hfn, _, _⟩ := Ck.take_inv htk
   rw [HMN.out.1] at hfn
   have hm0 : ((m : Int) == 0) = false := by simp; omega
   have HCk : Hid (∀ W a3 a4 k3 k4, PrC (fun q => q < W.heap.size) W p a3 a4 k3 k4 → Calls Tryz.prog 11 #[.agg #[.slice a3 n k3, .slice a4 m k4]] W fun e w' => e = .returned (.int .i64 0) ∧ W.grownBy w' none) := fun W a3 a4 k3 k4 h => by
    have h9 := ckCheck h HF.out.rm HF.out.nt
    rw [htk, HMN.out.1, HMN.out.2] at h9
    exact h9
   have HTk : Hid (CmT p) := ⟨htk⟩
   clear htk hfn
   by_cases h32 : m < 32
   case neg =>
    have d32 : decide ((32 : Int) ≤ (m : Int)) = true := decide_eq_true (by omega)
    clear h32 HF HMN HPr HTk
    go_wp2_with (first | (go_at_call 10; refine (HNm.out _ _).mono ?_; rintro e wN ⟨rfl, hwN⟩; rw [hwN]; clear hwN wN) | (go_at_call 9; refine (HCp1.out _ G1.out).mono ?_; rintro e w2 ⟨a3, k3, a4, k4, rfl, hp2, hg2⟩; have G2 : Hid (wr.grownBy w2 none) := grown_trans G1.out hg2; have G12 : Hid (w1.grownBy w2 none) := hg2; have HP2 : Hid (PrC (fun q => q < w2.heap.size) w2 p a3 a4 k3 k4) := hp2; clear hp2 hg2 HCp1) | (go_at_call 11; refine (HCk.out _ _ _ _ _ HP2.out).mono ?_; rintro e w3 ⟨rfl, hg3⟩; have G3 : Hid (wr.grownBy w3 none) := grown_trans G2.out hg3; have GB : Hid ((wr.alloc (Obj.cells #[.slice a1 n k1, .slice a2 m k2] 27)).grownBy w3 none) := grown_trans GA.out (grown_trans G12.out hg3); have y0 := (HAB.out _ GB.out).1; have y1 := (HAB.out _ GB.out).2; clear hg3 HCk))
    all_goals go_roundw
    all_goals first | exact ⟨k + 1, by go_num, by omega, by omega, grown_trans HG.out G3.out⟩ | (simp [intOf]; omega)
   have d32 : decide ((32 : Int) ≤ (m : Int)) = false := decide_eq_false (by omega)
   by_cases h64 : n < 64
   case neg =>
    have d64 : decide ((64 : Int) ≤ (n : Int)) = true := decide_eq_true (by omega)
    clear h32 h64 HF HMN HPr HTk
    go_wp2_with (first | (go_at_call 10; refine (HNm.out _ _).mono ?_; rintro e wN ⟨rfl, hwN⟩; rw [hwN]; clear hwN wN) | (go_at_call 9; refine (HCp1.out _ G1.out).mono ?_; rintro e w2 ⟨a3, k3, a4, k4, rfl, hp2, hg2⟩; have G2 : Hid (wr.grownBy w2 none) := grown_trans G1.out hg2; have G12 : Hid (w1.grownBy w2 none) := hg2; have HP2 : Hid (PrC (fun q => q < w2.heap.size) w2 p a3 a4 k3 k4) := hp2; clear hp2 hg2 HCp1) | (go_at_call 11; refine (HCk.out _ _ _ _ _ HP2.out).mono ?_; rintro e w3 ⟨rfl, hg3⟩; have G3 : Hid (wr.grownBy w3 none) := grown_trans G2.out hg3; have GB : Hid ((wr.alloc (Obj.cells #[.slice a1 n k1, .slice a2 m k2] 27)).grownBy w3 none) := grown_trans GA.out (grown_trans G12.out hg3); have y0 := (HAB.out _ GB.out).1; have y1 := (HAB.out _ GB.out).2; clear hg3 HCk))
    all_goals go_roundw
    all_goals first | exact ⟨k + 1, by go_num, by omega, by omega, grown_trans HG.out G3.out⟩ | (simp [intOf]; omega)
   have d64 : decide ((64 : Int) ≤ (n : Int)) = false := decide_eq_false (by omega)
   have HCo : Hid (∀ W, wr.grownBy W none → Calls Tryz.prog 9 #[.agg #[.slice a1 n k1, .slice a2 m k2]] W fun e w' => ∃ a5 k5 a6 k6 L1 L2 mm, e = .returned (.agg #[.slice a5 n k5, .slice a6 m k6]) ∧ CmO W.heap.size mm w' p a5 a6 n k5 m k6 L1 L2 ∧ W.grownBy w' none) := fun W g => by
    rw [← HMN.out.1, ← HMN.out.2]
    refine (copyProgram_own (fun q hq => Nat.lt_of_lt_of_le hq (Nat.le_trans HG.out.size g.size)) (HPr.out W g).t (HPr.out W g).f).mono fun e w' h9 => ?_
    obtain ⟨a5, k5, a6, k6, L1, L2, mm, e1, ⟨e2, e3, e4, e5, e6⟩, e7⟩ := h9
    exact ⟨a5, k5, a6, k6, L1, L2, mm, e1, ⟨e2, e3, e4, e5, e6.1, e6.2, by rw [← e2, List.length_map], by rw [← e3, List.length_map]⟩, e7⟩
   have HCp3 : Hid (∀ W, wr.grownBy W none → Calls Tryz.prog 9 #[.agg #[.slice a1 n k1, .slice a2 m k2]] W fun e w' => ∃ a3 k3 a4 k4, e = .returned (.agg #[.slice a3 n k3, .slice a4 m k4]) ∧ PrC (fun q => q < w'.heap.size) w' p a3 a4 k3 k4 ∧ W.grownBy w' none) := HCp1.out
   have hm31 : (m : Int) < 32 := by omega
   have hn63 : (n : Int) < 64 := by omega
   clear h32 h64
   have HNF : Hid (Ck.fxs (Pg.more p).funcs = Ck.fxs p.funcs) := by
    show Ck.fxs (p.funcs ++ [Pg.ret]) = _
    rw [Ck.fxs_app]
    simp [Ck.fxs, Pg.ret, Ck.sxs, Ck.sx, Ck.txs]
   have hmay : p.dl.may = true := (Pg.err_0 (Ck.take_inv HTk.out.ok).1).1
   have HFL : Hid ((Ck.fxs p.funcs).length ≤ 900000000) := Nat.le_trans (Ck.px_en hmay) HF.out.en
   clear hmay
   have HD1 : Hid (∀ W a3 a4 k3 k4, PrC (fun q => q < W.heap.size) W p a3 a4 k3 k4 → Calls Tryz.prog 15 #[.agg #[.slice a3 n k3, .slice a4 m k4]] W fun e w' => ∃ ao co, e = .returned (.tuple #[.slice ao (Ck.fxs p.funcs).length co, .int .i64 0]) ∧ OwnL w' W.heap.size (.slice ao (Ck.fxs p.funcs).length co) (Ck.fxs p.funcs) ∧ W.grownBy w' none) := fun W a3 a4 k3 k4 h => by
    have h9 := ckData_ok h HF.out.rm HF.out.nt HTk.out.ok (Nat.le_trans HFL.out (by decide))
    rw [HMN.out.1, HMN.out.2] at h9
    refine h9.mono ?_
    rintro e w' ⟨v, h1, h2, h3⟩
    obtain ⟨a4, c4, rfl, _⟩ := h2.toB.shape
    exact ⟨a4, c4, h1, h2, h3⟩
   have HMR : Hid (∀ W T7 T6 c7 c6, PrC (fun q => q < W.heap.size) W (Pg.more p) T7 T6 c7 c6 → Rm ⟨false, 0, 0, 0⟩ [] (Pg.more p).dl ∧ (Pg.more p).types.length ≤ 1000000) := fun W T7 T6 c7 c6 h => ⟨(pr_rm h (Int.le_trans (Pg.more_w p) (by have := HF.out.wt; omega))).1, by
    show (p.types ++ [Pg.u32]).length ≤ _
    rw [List.length_append, List.length_singleton, HMN.out.2]
    omega⟩
   have HML : Hid ((Pg.more p).types.length = n + 1 ∧ (Pg.more p).funcs.length = m + 1) := ⟨by show (p.types ++ [Pg.u32]).length = _; rw [List.length_append, List.length_singleton, HMN.out.2], by show (p.funcs ++ [Pg.ret]).length = _; rw [List.length_append, List.length_singleton, HMN.out.1]⟩
   rcases Ck.take_more HTk.out.ok (by rw [HMN.out.2]; omega) (by rw [HMN.out.1]; omega) with hmo | hmo
   ·have HCk2 : Hid (∀ W T7 T6 c7 c6, PrC (fun q => q < W.heap.size) W (Pg.more p) T7 T6 c7 c6 → Calls Tryz.prog 11 #[.agg #[.slice T7 (n + 1) c7, .slice T6 (m + 1) c6]] W fun e w' => e = .returned (.int .i64 0) ∧ W.grownBy w' none) := fun W T7 T6 c7 c6 h => by
     have h9 := ckCheck h (HMR.out _ _ _ _ _ h).1 (HMR.out _ _ _ _ _ h).2
     rw [hmo, HML.out.1, HML.out.2] at h9
     exact h9
    have HD2 : Hid (∀ W T7 T6 c7 c6, PrC (fun q => q < W.heap.size) W (Pg.more p) T7 T6 c7 c6 → Calls Tryz.prog 15 #[.agg #[.slice T7 (n + 1) c7, .slice T6 (m + 1) c6]] W fun e w' => ∃ ao co, e = .returned (.tuple #[.slice ao (Ck.fxs p.funcs).length co, .int .i64 0]) ∧ OwnL w' W.heap.size (.slice ao (Ck.fxs p.funcs).length co) (Ck.fxs p.funcs) ∧ W.grownBy w' none) := fun W T7 T6 c7 c6 h => by
     have h9 := ckData_ok h (HMR.out _ _ _ _ _ h).1 (HMR.out _ _ _ _ _ h).2 hmo (by rw [HNF.out]; exact Nat.le_trans HFL.out (by decide))
     rw [HML.out.1, HML.out.2, HNF.out] at h9
     refine h9.mono ?_
     rintro e w' ⟨v, h1, h2, h3⟩
     obtain ⟨a4, c4, rfl, _⟩ := h2.toB.shape
     exact ⟨a4, c4, h1, h2, h3⟩
    have HE : Hid (∀ W b1 b2 v1 v2, OwnL W b1 v1 (Ck.fxs p.funcs) → OwnL W b2 v2 (Ck.fxs p.funcs) → Calls Tryz.prog 16 #[v1, v2] W fun e w' => e = .returned (.bool true) ∧ W.grownBy w' none) := fun W b1 b2 v1 v2 h1 h2 => eqL h1 h2 (Nat.le_trans HFL.out (by decide))
    clear hmo HMR HML HNF HF HTk HMN HPr
    generalize Ck.fxs p.funcs = F at *
    generalize hfn : F.length = fn at *
    have HFN : Hid (F.length = fn) := hfn
    have HFB : Hid (fn ≤ 900000000) := HFL.out
    clear hfn HFL
    go_wp2_with (first
     | (go_at_call 10; refine (HNm.out _ _).mono ?_; rintro e wN ⟨rfl, hwN⟩; rw [hwN]; clear hwN wN)
     | (go_at_call 9; refine (HCp1.out _ G1.out).mono ?_; rintro e w2 ⟨a3, k3, a4, k4, rfl, hp2, hg2⟩; have G2 : Hid (wr.grownBy w2 none) := grown_trans G1.out hg2; have G12 : Hid (w1.grownBy w2 none) := hg2; have HP2 : Hid (PrC (fun q => q < w2.heap.size) w2 p a3 a4 k3 k4) := hp2; clear hp2 hg2 HCp1)
     | (go_at_call 11; refine (HCk.out _ _ _ _ _ HP2.out).mono ?_; rintro e w3 ⟨rfl, hg3⟩; have G3 : Hid (wr.grownBy w3 none) := grown_trans G2.out hg3; have GB : Hid ((wr.alloc (Obj.cells #[.slice a1 n k1, .slice a2 m k2] 27)).grownBy w3 none) := grown_trans GA.out (grown_trans G12.out hg3); have y0 := (HAB.out _ GB.out).1; have y1 := (HAB.out _ GB.out).2; clear hg3 HCk)
     | (go_at_call 9; refine (HCo.out _ G3.out).mono ?_; rintro e w4 ⟨a5, k5, a6, k6, L1, L2, mm, rfl, ho4, hg4⟩; have HO4 : Hid (CmO w3.heap.size mm w4 p a5 a6 n k5 m k6 L1 L2) := ho4; have G4 : Hid (w3.grownBy w4 none) := hg4; have hl1 := ho4.l1; have hl2 := ho4.l2; have HOW : Hid ((cmW w4 a5 a6 n k5 m k6).ownsRow mm 53 4 (.slice a6 m k6) L2.length (L2.flatMap cellsFE) ∧ mm ≤ (cmW w4 a5 a6 n k5 m k6).heap.size) := ⟨World.ownsRow.kept ho4.f.own (ga (World.grownBy_alloc _ _ _) _) (Classical.em _), (by have := ho4.mm4; unfold cmW; simp; omega)⟩; clear ho4 hg4 HCo)
     | (at_builtin; refine wp_appRet (nb := w4.heap.size + 1 + 1) ?_ (Operand.tmp 56) (Operand.tmp 60) ?_ mm (.slice a6 m k6) L2 (w4.heap.size + 1) ?_ ?_ ?_ ?_ ?_ ?_ ?_; (· rfl); (· rfl); (· rfl); (· exact HOW.out.1); (· rfl); (· simp); (· omega); (· exact HOW.out.2); intro v6 w6 o6 g6 b6; obtain ⟨T6, c6, hv6⟩ := owns_some o6; rw [hl2] at hv6; subst hv6; have H6 : Hid (CmA mm w4 w6 a5 n k5 a6 m k6 L2 T6 c6) := CmA.of HO4.out o6 g6 b6; obtain ⟨x0, x1, z0, z1⟩ := H6.out.cells; have hs6 : w4.heap.size + 2 ≤ w6.heap.size := (by have := g6.size; unfold cmW at this; simp at this; omega); clear o6 g6 b6 HOW)
     | (at_builtin; go_loud (refine wp_appU32 (nb := w6.heap.size) ?_ (Operand.tmp 64) (Operand.tmp 66) ?_ w3.heap.size (.slice a5 n k5) L1 ?_ ?_ ?_ ?_ ?_ ?_ ?_; (· rfl); (· rfl); (· rfl); (· exact (CmA.own2 HO4.out H6.out _).own); (· simp [go_sem]); (· simp); (· omega); (· have := G4.out.size; simp; omega); intro v7 w7 o7 g7 b7; obtain ⟨T7, c7, hv7⟩ := owns_some o7; rw [hl1] at hv7; subst hv7; have H7 : Hid (CmB w3 w4 w7 p n m T6 c6 T7 c7) := CmB.of HO4.out H6.out rfl G4.out (by omega) (by omega) o7 g7 b7; obtain ⟨⟨z8, q0⟩, q1, q2⟩ := H7.out.cells; clear o7 g7 b7 x0 x1 z0 z1))
     | (go_at_call 11; refine (HCk2.out _ _ _ _ _ H7.out.pr).mono ?_; rintro e w8 ⟨rfl, hg8⟩; have G8 : Hid (w3.grownBy w8 none) := grown_trans H7.out.gr hg8; have K8 : Hid (Bk w8 w4.heap.size 27 [.slice (some ⟨T7, 0, none⟩) (n + 1) c7, .slice (some ⟨T6, 0, none⟩) (m + 1) c6]) := H7.out.bk.grow hg8; have y2 := (HAB.out _ (grown_trans GB.out G8.out)).1; have y3 := (HAB.out _ (grown_trans GB.out G8.out)).2; have P8 : Hid (∀ W, w8.grownBy W none → PrC (fun q => q < W.heap.size) W (Pg.more p) (some ⟨T7, 0, none⟩) (some ⟨T6, 0, none⟩) c7 c6) := (fun W g => PrC.ch (l := []) (Ch.of (grown_trans hg8 g)) (by simp) (fun k hk => by have := (grown_trans hg8 g).size; omega) H7.out.pr); clear hg8 HCk2 q0 q1 q2)
     | (go_at_call 9; refine (HCp3.out _ (grown_trans G3.out G8.out)).mono ?_; rintro e w9 ⟨a7, k7, a8, k8, rfl, hp9, hg9⟩; have G9 : Hid (w8.grownBy w9 none) := hg9; have P9 : Hid (PrC (fun q => q < w9.heap.size) w9 p a7 a8 k7 k8) := hp9; clear hp9 hg9 HCp3)
     | (go_at_call 15; refine (HD1.out _ _ _ _ _ P9.out).mono ?_; rintro e wa ⟨ao, co, rfl, hoa, hga⟩; have O10 : Hid (OwnL wa w9.heap.size (.slice ao fn co) F) := hoa; have G10 : Hid (w8.grownBy wa none) := grown_trans G9.out hga; have u2 := (K8.out.grow G10.out).cell (i := 0) rfl; have u3 := (K8.out.grow G10.out).cell (i := 1) rfl; clear hoa hga HD1)
     | (go_at_call 15; refine (HD2.out _ _ _ _ _ (P8.out _ G10.out)).mono ?_; rintro e wb ⟨bo, bc, rfl, hob, hgb⟩; have O11 : Hid (OwnL wb wa.heap.size (.slice bo fn bc) F) := hob; have O12 : Hid (OwnL wb w9.heap.size (.slice ao fn co) F) := O10.out.kept hgb (Classical.em _); have G11 : Hid (w8.grownBy wb none) := grown_trans G10.out hgb; clear hob hgb HD2)
     | (go_at_call 16; refine (HE.out _ _ _ _ _ O12.out O11.out).mono ?_; rintro e wc ⟨rfl, hgc⟩; have G12' : Hid (w8.grownBy wc none) := grown_trans G11.out hgc; clear hgc HE))
    all_goals go_roundw
    all_goals first | exact ⟨k + 1, by go_num, by omega, by omega, grown_trans HG.out (grown_trans G3.out (grown_trans G8.out G12'.out))⟩ | (simp [intOf]; omega)
   ·have HCk2 : Hid (∀ W T7 T6 c7 c6, PrC (fun q => q < W.heap.size) W (Pg.more p) T7 T6 c7 c6 → Calls Tryz.prog 11 #[.agg #[.slice T7 (n + 1) c7, .slice T6 (m + 1) c6]] W fun e w' => e = .returned (.int .i64 82) ∧ W.grownBy w' none) := fun W T7 T6 c7 c6 h => by
     have h9 := ckCheck h (HMR.out _ _ _ _ _ h).1 (HMR.out _ _ _ _ _ h).2
     rw [hmo, HML.out.1, HML.out.2] at h9
     exact h9
    have HD2 : Hid (∀ W T7 T6 c7 c6, PrC (fun q => q < W.heap.size) W (Pg.more p) T7 T6 c7 c6 → Calls Tryz.prog 15 #[.agg #[.slice T7 (n + 1) c7, .slice T6 (m + 1) c6]] W fun e w' => e = .returned (.tuple #[.slice none 0 0, .int .i64 82]) ∧ W.grownBy w' none) := fun W T7 T6 c7 c6 h => by
     have h9 := ckData_no h (HMR.out _ _ _ _ _ h).1 (HMR.out _ _ _ _ _ h).2 hmo (by decide)
     rw [HML.out.1, HML.out.2] at h9
     exact h9
    clear hmo HMR HML HNF HF HTk HMN HPr
    generalize Ck.fxs p.funcs = F at *
    generalize hfn : F.length = fn at *
    have HFN : Hid (F.length = fn) := hfn
    have HFB : Hid (fn ≤ 900000000) := HFL.out
    clear hfn HFL
    go_wp2_with (first
     | (go_at_call 10; refine (HNm.out _ _).mono ?_; rintro e wN ⟨rfl, hwN⟩; rw [hwN]; clear hwN wN)
     | (go_at_call 9; refine (HCp1.out _ G1.out).mono ?_; rintro e w2 ⟨a3, k3, a4, k4, rfl, hp2, hg2⟩; have G2 : Hid (wr.grownBy w2 none) := grown_trans G1.out hg2; have G12 : Hid (w1.grownBy w2 none) := hg2; have HP2 : Hid (PrC (fun q => q < w2.heap.size) w2 p a3 a4 k3 k4) := hp2; clear hp2 hg2 HCp1)
     | (go_at_call 11; refine (HCk.out _ _ _ _ _ HP2.out).mono ?_; rintro e w3 ⟨rfl, hg3⟩; have G3 : Hid (wr.grownBy w3 none) := grown_trans G2.out hg3; have GB : Hid ((wr.alloc (Obj.cells #[.slice a1 n k1, .slice a2 m k2] 27)).grownBy w3 none) := grown_trans GA.out (grown_trans G12.out hg3); have y0 := (HAB.out _ GB.out).1; have y1 := (HAB.out _ GB.out).2; clear hg3 HCk)
     | (go_at_call 9; refine (HCo.out _ G3.out).mono ?_; rintro e w4 ⟨a5, k5, a6, k6, L1, L2, mm, rfl, ho4, hg4⟩; have HO4 : Hid (CmO w3.heap.size mm w4 p a5 a6 n k5 m k6 L1 L2) := ho4; have G4 : Hid (w3.grownBy w4 none) := hg4; have hl1 := ho4.l1; have hl2 := ho4.l2; have HOW : Hid ((cmW w4 a5 a6 n k5 m k6).ownsRow mm 53 4 (.slice a6 m k6) L2.length (L2.flatMap cellsFE) ∧ mm ≤ (cmW w4 a5 a6 n k5 m k6).heap.size) := ⟨World.ownsRow.kept ho4.f.own (ga (World.grownBy_alloc _ _ _) _) (Classical.em _), (by have := ho4.mm4; unfold cmW; simp; omega)⟩; clear ho4 hg4 HCo)
     | (at_builtin; refine wp_appRet (nb := w4.heap.size + 1 + 1) ?_ (Operand.tmp 56) (Operand.tmp 60) ?_ mm (.slice a6 m k6) L2 (w4.heap.size + 1) ?_ ?_ ?_ ?_ ?_ ?_ ?_; (· rfl); (· rfl); (· rfl); (· exact HOW.out.1); (· rfl); (· simp); (· omega); (· exact HOW.out.2); intro v6 w6 o6 g6 b6; obtain ⟨T6, c6, hv6⟩ := owns_some o6; rw [hl2] at hv6; subst hv6; have H6 : Hid (CmA mm w4 w6 a5 n k5 a6 m k6 L2 T6 c6) := CmA.of HO4.out o6 g6 b6; obtain ⟨x0, x1, z0, z1⟩ := H6.out.cells; have hs6 : w4.heap.size + 2 ≤ w6.heap.size := (by have := g6.size; unfold cmW at this; simp at this; omega); clear o6 g6 b6 HOW)
     | (at_builtin; go_loud (refine wp_appU32 (nb := w6.heap.size) ?_ (Operand.tmp 64) (Operand.tmp 66) ?_ w3.heap.size (.slice a5 n k5) L1 ?_ ?_ ?_ ?_ ?_ ?_ ?_; (· rfl); (· rfl); (· rfl); (· exact (CmA.own2 HO4.out H6.out _).own); (· simp [go_sem]); (· simp); (· omega); (· have := G4.out.size; simp; omega); intro v7 w7 o7 g7 b7; obtain ⟨T7, c7, hv7⟩ := owns_some o7; rw [hl1] at hv7; subst hv7; have H7 : Hid (CmB w3 w4 w7 p n m T6 c6 T7 c7) := CmB.of HO4.out H6.out rfl G4.out (by omega) (by omega) o7 g7 b7; obtain ⟨⟨z8, q0⟩, q1, q2⟩ := H7.out.cells; clear o7 g7 b7 x0 x1 z0 z1))
     | (go_at_call 11; refine (HCk2.out _ _ _ _ _ H7.out.pr).mono ?_; rintro e w8 ⟨rfl, hg8⟩; have G8 : Hid (w3.grownBy w8 none) := grown_trans H7.out.gr hg8; have K8 : Hid (Bk w8 w4.heap.size 27 [.slice (some ⟨T7, 0, none⟩) (n + 1) c7, .slice (some ⟨T6, 0, none⟩) (m + 1) c6]) := H7.out.bk.grow hg8; have y2 := (HAB.out _ (grown_trans GB.out G8.out)).1; have y3 := (HAB.out _ (grown_trans GB.out G8.out)).2; have P8 : Hid (∀ W, w8.grownBy W none → PrC (fun q => q < W.heap.size) W (Pg.more p) (some ⟨T7, 0, none⟩) (some ⟨T6, 0, none⟩) c7 c6) := (fun W g => PrC.ch (l := []) (Ch.of (grown_trans hg8 g)) (by simp) (fun k hk => by have := (grown_trans hg8 g).size; omega) H7.out.pr); clear hg8 HCk2 q0 q1 q2)
     | (go_at_call 9; refine (HCp3.out _ (grown_trans G3.out G8.out)).mono ?_; rintro e w9 ⟨a7, k7, a8, k8, rfl, hp9, hg9⟩; have G9 : Hid (w8.grownBy w9 none) := hg9; have P9 : Hid (PrC (fun q => q < w9.heap.size) w9 p a7 a8 k7 k8) := hp9; clear hp9 hg9 HCp3)
     | (go_at_call 15; refine (HD1.out _ _ _ _ _ P9.out).mono ?_; rintro e wa ⟨ao, co, rfl, hoa, hga⟩; have O10 : Hid (OwnL wa w9.heap.size (.slice ao fn co) F) := hoa; have G10 : Hid (w8.grownBy wa none) := grown_trans G9.out hga; have u2 := (K8.out.grow G10.out).cell (i := 0) rfl; have u3 := (K8.out.grow G10.out).cell (i := 1) rfl; clear hoa hga HD1)
     | (go_at_call 15; refine (HD2.out _ _ _ _ _ (P8.out _ G10.out)).mono ?_; rintro e wc ⟨rfl, hgb⟩; have G12' : Hid (w8.grownBy wc none) := grown_trans G10.out hgb; clear hgb HD2))
    all_goals go_roundw
    all_goals first | exact ⟨k + 1, by go_num, by omega, by omega, grown_trans HG.out (grown_trans G3.out (grown_trans G8.out G12'.out))⟩ | (simp [intOf]; omega)
end Go.Proofs.YtcfpnojbhojagaaGreat
