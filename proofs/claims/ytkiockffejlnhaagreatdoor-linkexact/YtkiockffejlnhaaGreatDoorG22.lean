/- Contracts and plain facts that the walks share. -/
import Derived.Test.YtkiockffejlnhaaGreatDoorG20
import Derived.Test.YtkiockffejlnhaaGreatDoorG21
import Derived.Test.YtkiockffejlnhaaGreatDoorG19
namespace Go.Proofs.YtkiockffejlnhaaGreatDoor
set_option maxRecDepth 100000
set_option maxHeartbeats 32000000
open Go.RowKit
set_option linter.unusedVariables false
theorem eqInsts_true {N N' : Nat} {w : World} {a a' : Option Addr} {n c c' : Nat} {I : Nat → InV} (h : InsIn N w a n c I) (h' : InsIn N' w a' n c' I) :
  Calls Tryz.prog 49 #[.slice a n c, .slice a' n c'] w fun e w' => e = .returned (.bool true) ∧ w.grownBy w' none := by
 have hle := h.le
 have hmx := h.max
 have hle' := h'.le
 have hmx' := h'.max
 unfold maxLen at hmx hmx'
 have H1 : Hid (InsIn N w a n c I) := h
 have H2 : Hid (InsIn N' w a' n c' I) := h'
 clear h h'
 go_enter Tryz.func49, Tryz.ntmps49
 go_wp2_with fail
 go_loopw [5] (fun ix wr => ∃ k : Nat, ix = .int .i64 k ∧ k ≤ n ∧ w.grownBy wr none) (fun ix _ => n - (intOf ix).toNat)
 case atStart => exact ⟨0, rfl, Nat.zero_le _, gr0⟩
 case round =>
  obtain ⟨k, rfl, hk, hg⟩ := hrel
  have HG : Hid (w.grownBy wr none) := hg
  by_cases hkn : k < n
  ·have hkn' : (k : Int) < n := by omega
   obtain ⟨b1, o1, rfl, _, ⟨x0, x1, x2, x3, x4, x5, x6, x7, x8⟩, _⟩ := (H1.out.grow hg).at hkn
   obtain ⟨b2, o2, rfl, _, ⟨y0, y1, y2, y3, y4, y5, y6, y7, y8⟩, _⟩ := (H2.out.grow hg).at hkn
   clear hg
   generalize I k = v at *
   go_wp2_with fail
   refine region_src 8 (psiL [eqV (.slice (some ⟨b1, o1, none⟩) n c), eqV (.int .i64 (k : Int)), eqV (.pointer (some ⟨b1, o1 + k * 9, none⟩)), eqV (.agg #[.int .i64 (v.op), .int .i64 (v.a), .int .i64 (v.b), .int .i64 (v.c), .int .i64 (v.k), .int .i64 (v.sub), .int .i64 (v.scale), .int .i64 (v.imm), .int .i64 (v.label)]), eqV (.slice (some ⟨b2, o2, none⟩) n c'), eqV (.int .i64 (k : Int)), eqV (.pointer (some ⟨b2, o2 + k * 9, none⟩)), eqV (.agg #[.int .i64 (v.op), .int .i64 (v.a), .int .i64 (v.b), .int .i64 (v.c), .int .i64 (v.k), .int .i64 (v.sub), .int .i64 (v.scale), .int .i64 (v.imm), .int .i64 (v.label)])]) (by kernel_rfl) (by kernel_rfl) (by kernel_rfl) (by kernel_rfl) (psiL_hst (by repeat (first | exact stab_nil | refine stab_cons ?_ ?_ | exact stab_eq _))) ?_ ?_
   ·simp only [List.take_succ_cons, List.take_zero]
    refine ⟨?_, ?_, ?_, ?_, ?_, ?_, ?_, ?_, trivial⟩
    ·intro VV W0 AA g hV hs hz
     have e00 := hz 0 (.slice (some ⟨b1, o1, none⟩) n c) (by kernel_rfl) rfl
     refine ov (v := .slice (some ⟨b1, o1, none⟩) n c) ?_ rfl
     simp [go_sem, e00]
    ·intro VV W0 AA g hV hs hz
     have e05 := hz 5 (.int .i64 (k : Int)) (by kernel_rfl) rfl
     refine ov (v := .int .i64 (k : Int)) ?_ rfl
     simp [go_sem, e05]
    ·intro VV W0 AA g hV hs hz
     have q0 := psiL_eq (hV 0 (by kernel_rfl)) rfl
     have e0 := hs 17 0 (by kernel_rfl) (by kernel_rfl)
     have q1 := psiL_eq (hV 1 (by kernel_rfl)) rfl
     have e1 := hs 18 1 (by kernel_rfl) (by kernel_rfl)
     refine ov (v := .pointer (some ⟨b1, o1 + k * 9, none⟩)) ?_ rfl
     simp [go_sem, q0, e0, q1, e1, hkn']
    ·intro VV W0 AA g hV hs hz
     have gD : wr.grownBy W0 none := gdd g
     have q2 := psiL_eq (hV 2 (by kernel_rfl)) rfl
     have e2 := hs 19 2 (by kernel_rfl) (by kernel_rfl)
     have x0 := gD.cell x0 (by simp)
     have x1 := gD.cell x1 (by simp)
     have x2 := gD.cell x2 (by simp)
     have x3 := gD.cell x3 (by simp)
     have x4 := gD.cell x4 (by simp)
     have x5 := gD.cell x5 (by simp)
     have x6 := gD.cell x6 (by simp)
     have x7 := gD.cell x7 (by simp)
     have x8 := gD.cell x8 (by simp)
     refine ov (v := .agg #[.int .i64 (v.op), .int .i64 (v.a), .int .i64 (v.b), .int .i64 (v.c), .int .i64 (v.k), .int .i64 (v.sub), .int .i64 (v.scale), .int .i64 (v.imm), .int .i64 (v.label)]) ?_ rfl
     simp [go_sem, q2, e2, x0, x1, x2, x3, x4, x5, x6, x7, x8]
    ·intro VV W0 AA g hV hs hz
     have e01 := hz 1 (.slice (some ⟨b2, o2, none⟩) n c') (by kernel_rfl) rfl
     refine ov (v := .slice (some ⟨b2, o2, none⟩) n c') ?_ rfl
     simp [go_sem, e01]
    ·intro VV W0 AA g hV hs hz
     have e05 := hz 5 (.int .i64 (k : Int)) (by kernel_rfl) rfl
     refine ov (v := .int .i64 (k : Int)) ?_ rfl
     simp [go_sem, e05]
    ·intro VV W0 AA g hV hs hz
     have q4 := psiL_eq (hV 4 (by kernel_rfl)) rfl
     have e4 := hs 21 4 (by kernel_rfl) (by kernel_rfl)
     have q5 := psiL_eq (hV 5 (by kernel_rfl)) rfl
     have e5 := hs 22 5 (by kernel_rfl) (by kernel_rfl)
     refine ov (v := .pointer (some ⟨b2, o2 + k * 9, none⟩)) ?_ rfl
     simp [go_sem, q4, e4, q5, e5, hkn']
    ·intro VV W0 AA g hV hs hz
     have gD : wr.grownBy W0 none := gdd g
     have q6 := psiL_eq (hV 6 (by kernel_rfl)) rfl
     have e6 := hs 23 6 (by kernel_rfl) (by kernel_rfl)
     have x0 := gD.cell y0 (by simp)
     have x1 := gD.cell y1 (by simp)
     have x2 := gD.cell y2 (by simp)
     have x3 := gD.cell y3 (by simp)
     have x4 := gD.cell y4 (by simp)
     have x5 := gD.cell y5 (by simp)
     have x6 := gD.cell y6 (by simp)
     have x7 := gD.cell y7 (by simp)
     have x8 := gD.cell y8 (by simp)
     refine ov (v := .agg #[.int .i64 (v.op), .int .i64 (v.a), .int .i64 (v.b), .int .i64 (v.c), .int .i64 (v.k), .int .i64 (v.sub), .int .i64 (v.scale), .int .i64 (v.imm), .int .i64 (v.label)]) ?_ rfl
     simp [go_sem, q6, e6, x0, x1, x2, x3, x4, x5, x6, x7, x8]
   ·intro VV W0 g hV
    have gD : wr.grownBy W0 none := gdd g
    have h0 := psiL_eq (hV 0 (by decide)) rfl
    have h1 := psiL_eq (hV 1 (by decide)) rfl
    have h2 := psiL_eq (hV 2 (by decide)) rfl
    have h3 := psiL_eq (hV 3 (by decide)) rfl
    have h4 := psiL_eq (hV 4 (by decide)) rfl
    have h5 := psiL_eq (hV 5 (by decide)) rfl
    have h6 := psiL_eq (hV 6 (by decide)) rfl
    have h7 := psiL_eq (hV 7 (by decide)) rfl
    simp [frV, dstOf, Act.put, h0, h1, h2, h3, h4, h5, h6, h7]
    clear h0 h1 h2 h3 h4 h5 h6 h7 hV g
    have GR : Hid (wr.grownBy W0 none) := gD
    clear gD
    go_wp2
    go_roundw
    case rel => exact ⟨k + 1, by go_num, by omega, gtr HG.out GR.out⟩
    case measure => simp [intOf]; omega
  ·obtain rfl : k = n := by omega
   clear hg
   go_wp2
   go_ret
   exact ⟨rfl, HG.out⟩
theorem eqNums6_true {N N' : Nat} {w : World} {a a' : Option Addr} {n c c' : Nat} {M M' : Nat → Int} (h : NumIn N w a n c M) (h' : NumIn N' w a' n c' M') (hM : ∀ i, i < n → M i = M' i) :
  Calls Tryz.prog 28 #[.slice a n c, .slice a' n c'] w fun e w' => e = .returned (.bool true) ∧ w.grownBy w' none := by
 have hle := h.le
 have hmx := h.max
 have hle' := h'.le
 have hmx' := h'.max
 unfold maxLen at hmx hmx'
 have H1 : Hid (NumIn N w a n c M) := h
 have H2 : Hid (NumIn N' w a' n c' M') := h'
 have HM : Hid (∀ i, i < n → M i = M' i) := hM
 clear h h' hM
 go_enter Tryz.func28, Tryz.ntmps28
 go_wp2_with fail
 go_loopw [5] (fun ix wr => ∃ k : Nat, ix = .int .i64 k ∧ k ≤ n ∧ w.grownBy wr none) (fun ix _ => n - (intOf ix).toNat)
 case atStart => exact ⟨0, rfl, Nat.zero_le _, gr0⟩
 case round =>
  obtain ⟨k, rfl, hk, hg⟩ := hrel
  have HG : Hid (w.grownBy wr none) := hg
  by_cases hkn : k < n
  ·have hkn' : (k : Int) < n := by omega
   obtain ⟨b1, o1, rfl, _, c1⟩ := (H1.out.grow hg).at hkn
   obtain ⟨b2, o2, rfl, _, c2⟩ := (H2.out.grow hg).at hkn
   rw [← HM.out k hkn] at c2
   clear hg
   generalize M k = y at *
   go_wp2_with fail
   refine region_src 8 (psiL [eqV (.slice (some ⟨b1, o1, none⟩) n c), eqV (.int .i64 (k : Int)), eqV (.pointer (some ⟨b1, o1 + k, none⟩)), eqV (.int .i64 y), eqV (.slice (some ⟨b2, o2, none⟩) n c'), eqV (.int .i64 (k : Int)), eqV (.pointer (some ⟨b2, o2 + k, none⟩)), eqV (.int .i64 y)]) (by kernel_rfl) (by kernel_rfl) (by kernel_rfl) (by kernel_rfl) (psiL_hst (by repeat (first | exact stab_nil | refine stab_cons ?_ ?_ | exact stab_eq _))) ?_ ?_
   ·simp only [List.take_succ_cons, List.take_zero]
    refine ⟨?_, ?_, ?_, ?_, ?_, ?_, ?_, ?_, trivial⟩
    ·intro VV W0 AA g hV hs hz
     have e00 := hz 0 (.slice (some ⟨b1, o1, none⟩) n c) (by kernel_rfl) rfl
     refine ov (v := .slice (some ⟨b1, o1, none⟩) n c) ?_ rfl
     simp [go_sem, e00]
    ·intro VV W0 AA g hV hs hz
     have e05 := hz 5 (.int .i64 (k : Int)) (by kernel_rfl) rfl
     refine ov (v := .int .i64 (k : Int)) ?_ rfl
     simp [go_sem, e05]
    ·intro VV W0 AA g hV hs hz
     have q0 := psiL_eq (hV 0 (by kernel_rfl)) rfl
     have e0 := hs 17 0 (by kernel_rfl) (by kernel_rfl)
     have q1 := psiL_eq (hV 1 (by kernel_rfl)) rfl
     have e1 := hs 18 1 (by kernel_rfl) (by kernel_rfl)
     refine ov (v := .pointer (some ⟨b1, o1 + k, none⟩)) ?_ rfl
     simp [go_sem, q0, e0, q1, e1, hkn']
    ·intro VV W0 AA g hV hs hz
     have gD : wr.grownBy W0 none := gdd g
     have q2 := psiL_eq (hV 2 (by kernel_rfl)) rfl
     have e2 := hs 19 2 (by kernel_rfl) (by kernel_rfl)
     have x0 := gD.cell c1 (by simp)
     refine ov (v := .int .i64 y) ?_ rfl
     simp [go_sem, q2, e2, x0]
    ·intro VV W0 AA g hV hs hz
     have e01 := hz 1 (.slice (some ⟨b2, o2, none⟩) n c') (by kernel_rfl) rfl
     refine ov (v := .slice (some ⟨b2, o2, none⟩) n c') ?_ rfl
     simp [go_sem, e01]
    ·intro VV W0 AA g hV hs hz
     have e05 := hz 5 (.int .i64 (k : Int)) (by kernel_rfl) rfl
     refine ov (v := .int .i64 (k : Int)) ?_ rfl
     simp [go_sem, e05]
    ·intro VV W0 AA g hV hs hz
     have q4 := psiL_eq (hV 4 (by kernel_rfl)) rfl
     have e4 := hs 21 4 (by kernel_rfl) (by kernel_rfl)
     have q5 := psiL_eq (hV 5 (by kernel_rfl)) rfl
     have e5 := hs 22 5 (by kernel_rfl) (by kernel_rfl)
     refine ov (v := .pointer (some ⟨b2, o2 + k, none⟩)) ?_ rfl
     simp [go_sem, q4, e4, q5, e5, hkn']
    ·intro VV W0 AA g hV hs hz
     have gD : wr.grownBy W0 none := gdd g
     have q6 := psiL_eq (hV 6 (by kernel_rfl)) rfl
     have e6 := hs 23 6 (by kernel_rfl) (by kernel_rfl)
     have x0 := gD.cell c2 (by simp)
     refine ov (v := .int .i64 y) ?_ rfl
     simp [go_sem, q6, e6, x0]
   ·intro VV W0 g hV
    have gD : wr.grownBy W0 none := gdd g
    have h0 := psiL_eq (hV 0 (by decide)) rfl
    have h1 := psiL_eq (hV 1 (by decide)) rfl
    have h2 := psiL_eq (hV 2 (by decide)) rfl
    have h3 := psiL_eq (hV 3 (by decide)) rfl
    have h4 := psiL_eq (hV 4 (by decide)) rfl
    have h5 := psiL_eq (hV 5 (by decide)) rfl
    have h6 := psiL_eq (hV 6 (by decide)) rfl
    have h7 := psiL_eq (hV 7 (by decide)) rfl
    simp [frV, dstOf, Act.put, h0, h1, h2, h3, h4, h5, h6, h7]
    clear h0 h1 h2 h3 h4 h5 h6 h7 hV g
    have GR : Hid (wr.grownBy W0 none) := gD
    clear gD
    go_wp2
    go_roundw
    case rel => exact ⟨k + 1, by go_num, by omega, gtr HG.out GR.out⟩
    case measure => simp [intOf]; omega
  ·obtain rfl : k = n := by omega
   clear hg
   go_wp2
   go_ret
   exact ⟨rfl, HG.out⟩
theorem eqPiece_true {N N' : Nat} {w : World} {P : Lk.PcV} {A A' : PcA} (hi : InsIn N w A.ia P.n A.ic P.I) (hm : NumIn N w A.ma P.m A.mc P.M) (hi' : InsIn N' w A'.ia P.n A'.ic P.I) (hm' : NumIn N' w A'.ma P.m A'.mc P.M) (ho : A'.out = A.out) :
  Calls Tryz.prog 26 #[.agg #[.slice A.ia P.n A.ic, .slice A.ma P.m A.mc, .int .i64 A.out], .agg #[.slice A'.ia P.n A'.ic, .slice A'.ma P.m A'.mc, .int .i64 A'.out]] w fun e w' => e = .returned (.bool true) ∧ w.grownBy w' none := by
 rw [ho]
 obtain ⟨W2, hW2⟩ : ∃ W2, W2 = (w.alloc (.cells #[.slice A.ia P.n A.ic, .slice A.ma P.m A.mc, .int .i64 A.out] 48)).alloc (.cells #[.slice A'.ia P.n A'.ic, .slice A'.ma P.m A'.mc, .int .i64 A.out] 48) := ⟨_, rfl⟩
 have g2 : w.grownBy W2 none := by rw [hW2]; exact ga gal _
 have K1 : ∀ j v, (#[.slice A.ia P.n A.ic, .slice A.ma P.m A.mc, .int .i64 A.out] : Array Value)[j]? = some v → W2.cell? ⟨w.heap.size, j, none⟩ = some v := fun j v hv => by rw [hW2]; exact (Ch.of (l := []) gal).cell ((cells_new _ _ rfl _).trans hv) (by simp)
 have K2 : ∀ j v, (#[.slice A'.ia P.n A'.ic, .slice A'.ma P.m A'.mc, .int .i64 A.out] : Array Value)[j]? = some v → W2.cell? ⟨w.heap.size + 1, j, none⟩ = some v := fun j v hv => by rw [hW2, ← hv]; exact cells_new _ _ (by simp) _
 have HC1 : Hid (Calls Tryz.prog 49 #[.slice A.ia P.n A.ic, .slice A'.ia P.n A'.ic] W2 fun e w' => e = .returned (.bool true) ∧ W2.grownBy w' none) := eqInsts_true (hi.grow g2) (hi'.grow g2)
 have HC2 : Hid (∀ W, W2.grownBy W none → Calls Tryz.prog 28 #[.slice A.ma P.m A.mc, .slice A'.ma P.m A'.mc] W fun e w' => e = .returned (.bool true) ∧ W.grownBy w' none) := fun W g => eqNums6_true (hm.grow (gtr g2 g)) (hm'.grow (gtr g2 g)) (fun _ _ => rfl)
 have HK : Hid ((∀ W, W2.grownBy W none → W.cell? ⟨w.heap.size, 1, none⟩ = some (.slice A.ma P.m A.mc) ∧ W.cell? ⟨w.heap.size, 2, none⟩ = some (.int .i64 A.out) ∧ W.cell? ⟨w.heap.size + 1, 1, none⟩ = some (.slice A'.ma P.m A'.mc) ∧ W.cell? ⟨w.heap.size + 1, 2, none⟩ = some (.int .i64 A.out)) ∧ w.grownBy W2 none) := ⟨fun W g => ⟨g.cell (K1 1 _ rfl) (by simp), g.cell (K1 2 _ rfl) (by simp), g.cell (K2 1 _ rfl) (by simp), g.cell (K2 2 _ rfl) (by simp)⟩, g2⟩
 have HW2 : Hid (W2 = _) := hW2
 clear hi hm hi' hm' g2 hW2 K1 K2
 go_enter Tryz.func26, Tryz.ntmps26
 go_wp2_with (first
  | (go_at_call 49; rw [← HW2.out]; refine HC1.out.mono ?_; rintro e w3 ⟨rfl, g3⟩; have HG3 : Hid (W2.grownBy w3 none) := g3; obtain ⟨a1, a2, a3, a4⟩ := HK.out.1 w3 g3; clear g3)
  | (go_at_call 28; refine (HC2.out _ HG3.out).mono ?_; rintro e w4 ⟨rfl, g4⟩; have HG4 : Hid (W2.grownBy w4 none) := gtr HG3.out g4; obtain ⟨b1, b2, b3, b4⟩ := HK.out.1 w4 HG4.out; clear g4))
 go_ret
 exact ⟨rfl, gtr HK.out.2 HG4.out⟩
theorem eqPieces_true {N N' : Nat} {w : World} {a a' : Option Addr} {n c c' : Nat} {V : Nat → Lk.PcV} {B B' : Nat → PcA} (h : PcsIn N w a n c V B) (h' : PcsIn N' w a' n c' V B') (ho : ∀ k, k < n → (B' k).out = (B k).out) :
  Calls Tryz.prog 9 #[.slice a n c, .slice a' n c'] w fun e w' => e = .returned (.bool true) ∧ w.grownBy w' none := by
 have hle := h.le
 have hmx := h.max
 have hle' := h'.le
 have hmx' := h'.max
 unfold maxLen at hmx hmx'
 have H1 : Hid (PcsIn N w a n c V B) := h
 have H2 : Hid (PcsIn N' w a' n c' V B') := h'
 have HO : Hid (∀ k, k < n → (B' k).out = (B k).out) := ho
 clear h h' ho
 go_enter Tryz.func9, Tryz.ntmps9
 go_wp2_with fail
 go_loopw [5] (fun ix wr => ∃ k : Nat, ix = .int .i64 k ∧ k ≤ n ∧ w.grownBy wr none) (fun ix _ => n - (intOf ix).toNat)
 case atStart => exact ⟨0, rfl, Nat.zero_le _, gr0⟩
 case round =>
  obtain ⟨k, rfl, hk, hg⟩ := hrel
  have HG : Hid (w.grownBy wr none) := hg
  by_cases hkn : k < n
  ·have hkn' : (k : Int) < n := by omega
   obtain ⟨b1, o1, rfl, _, p1⟩ := (H1.out.grow hg).at hkn
   obtain ⟨b2, o2, rfl, _, p2⟩ := (H2.out.grow hg).at hkn
   have HC := fun W (g : wr.grownBy W none) => eqPiece_true (p1.ins.grow g) (p1.mks.grow g) (p2.ins.grow g) (p2.mks.grow g) (HO.out k hkn)
   obtain ⟨x0, x1, x2, _, _⟩ := p1
   obtain ⟨y0, y1, y2, _, _⟩ := p2
   clear hg
   generalize V k = P at *
   generalize B k = A at *
   generalize B' k = A' at *
   have HC : Hid (∀ W, wr.grownBy W none → Calls Tryz.prog 26 #[.agg #[.slice A.ia P.n A.ic, .slice A.ma P.m A.mc, .int .i64 A.out], .agg #[.slice A'.ia P.n A'.ic, .slice A'.ma P.m A'.mc, .int .i64 A'.out]] W fun e w' => e = .returned (.bool true) ∧ W.grownBy w' none) := HC
   go_wp2_with fail
   refine region_src 9 (psiL [eqV (.slice (some ⟨b1, o1, none⟩) n c), eqV (.int .i64 (k : Int)), eqV (.pointer (some ⟨b1, o1 + k * 3, none⟩)), eqV (.agg #[.slice A.ia P.n A.ic, .slice A.ma P.m A.mc, .int .i64 (A.out)]), eqV (.slice (some ⟨b2, o2, none⟩) n c'), eqV (.int .i64 (k : Int)), eqV (.pointer (some ⟨b2, o2 + k * 3, none⟩)), eqV (.agg #[.slice A'.ia P.n A'.ic, .slice A'.ma P.m A'.mc, .int .i64 (A'.out)]), eqV (.bool true)]) (by kernel_rfl) (by kernel_rfl) (by kernel_rfl) (by kernel_rfl) (psiL_hst (by repeat (first | exact stab_nil | refine stab_cons ?_ ?_ | exact stab_eq _))) ?_ ?_
   ·simp only [List.take_succ_cons, List.take_zero]
    refine ⟨?_, ?_, ?_, ?_, ?_, ?_, ?_, ?_, ?_, trivial⟩
    ·intro VV W0 AA g hV hs hz
     have e00 := hz 0 (.slice (some ⟨b1, o1, none⟩) n c) (by kernel_rfl) rfl
     refine ov (v := .slice (some ⟨b1, o1, none⟩) n c) ?_ rfl
     simp [go_sem, e00]
    ·intro VV W0 AA g hV hs hz
     have e05 := hz 5 (.int .i64 (k : Int)) (by kernel_rfl) rfl
     refine ov (v := .int .i64 (k : Int)) ?_ rfl
     simp [go_sem, e05]
    ·intro VV W0 AA g hV hs hz
     have q0 := psiL_eq (hV 0 (by kernel_rfl)) rfl
     have e0 := hs 17 0 (by kernel_rfl) (by kernel_rfl)
     have q1 := psiL_eq (hV 1 (by kernel_rfl)) rfl
     have e1 := hs 18 1 (by kernel_rfl) (by kernel_rfl)
     refine ov (v := .pointer (some ⟨b1, o1 + k * 3, none⟩)) ?_ rfl
     simp [go_sem, q0, e0, q1, e1, hkn']
    ·intro VV W0 AA g hV hs hz
     have gD : wr.grownBy W0 none := gdd g
     have q2 := psiL_eq (hV 2 (by kernel_rfl)) rfl
     have e2 := hs 19 2 (by kernel_rfl) (by kernel_rfl)
     have x0 := gD.cell x0 (by simp)
     have x1 := gD.cell x1 (by simp)
     have x2 := gD.cell x2 (by simp)
     refine ov (v := .agg #[.slice A.ia P.n A.ic, .slice A.ma P.m A.mc, .int .i64 (A.out)]) ?_ rfl
     simp [go_sem, q2, e2, x0, x1, x2]
    ·intro VV W0 AA g hV hs hz
     have e01 := hz 1 (.slice (some ⟨b2, o2, none⟩) n c') (by kernel_rfl) rfl
     refine ov (v := .slice (some ⟨b2, o2, none⟩) n c') ?_ rfl
     simp [go_sem, e01]
    ·intro VV W0 AA g hV hs hz
     have e05 := hz 5 (.int .i64 (k : Int)) (by kernel_rfl) rfl
     refine ov (v := .int .i64 (k : Int)) ?_ rfl
     simp [go_sem, e05]
    ·intro VV W0 AA g hV hs hz
     have q4 := psiL_eq (hV 4 (by kernel_rfl)) rfl
     have e4 := hs 21 4 (by kernel_rfl) (by kernel_rfl)
     have q5 := psiL_eq (hV 5 (by kernel_rfl)) rfl
     have e5 := hs 22 5 (by kernel_rfl) (by kernel_rfl)
     refine ov (v := .pointer (some ⟨b2, o2 + k * 3, none⟩)) ?_ rfl
     simp [go_sem, q4, e4, q5, e5, hkn']
    ·intro VV W0 AA g hV hs hz
     have gD : wr.grownBy W0 none := gdd g
     have q6 := psiL_eq (hV 6 (by kernel_rfl)) rfl
     have e6 := hs 23 6 (by kernel_rfl) (by kernel_rfl)
     have x0 := gD.cell y0 (by simp)
     have x1 := gD.cell y1 (by simp)
     have x2 := gD.cell y2 (by simp)
     refine ov (v := .agg #[.slice A'.ia P.n A'.ic, .slice A'.ma P.m A'.mc, .int .i64 (A'.out)]) ?_ rfl
     simp [go_sem, q6, e6, x0, x1, x2]
    ·intro VV W0 AA g hV hs hz
     have gD : wr.grownBy W0 none := gdd g
     have q3 := psiL_eq (hV 3 (by kernel_rfl)) rfl
     have e3 := hs 20 3 (by kernel_rfl) (by kernel_rfl)
     have q7 := psiL_eq (hV 7 (by kernel_rfl)) rfl
     have e7 := hs 24 7 (by kernel_rfl) (by kernel_rfl)
     refine outO_call (f := 26) ?_ ((HC.out W0 gD).mono fun e w2 ⟨he, hg⟩ => ⟨_, he, hg, rfl⟩)
     simp [go_sem, q3, e3, q7, e7]
   ·intro VV W0 g hV
    have gD : wr.grownBy W0 none := gdd g
    have h0 := psiL_eq (hV 0 (by decide)) rfl
    have h1 := psiL_eq (hV 1 (by decide)) rfl
    have h2 := psiL_eq (hV 2 (by decide)) rfl
    have h3 := psiL_eq (hV 3 (by decide)) rfl
    have h4 := psiL_eq (hV 4 (by decide)) rfl
    have h5 := psiL_eq (hV 5 (by decide)) rfl
    have h6 := psiL_eq (hV 6 (by decide)) rfl
    have h7 := psiL_eq (hV 7 (by decide)) rfl
    have h8 := psiL_eq (hV 8 (by decide)) rfl
    simp [frV, dstOf, Act.put, h0, h1, h2, h3, h4, h5, h6, h7, h8]
    clear h0 h1 h2 h3 h4 h5 h6 h7 h8 hV g
    have GR : Hid (wr.grownBy W0 none) := gD
    clear gD
    go_wp2
    go_roundw
    case rel => exact ⟨k + 1, by go_num, by omega, gtr HG.out GR.out⟩
    case measure => simp [intOf]; omega
  ·obtain rfl : k = n := by omega
   clear hg
   go_wp2
   go_ret
   exact ⟨rfl, HG.out⟩
def PrB (w : World) (b cap M : Nat) : Prop := ∃ cur, w.heap[b]? = some (.cells cur 5 (0, 0)) ∧ cur.size = cap ∧ ∀ i, i < M → ∃ z, cur[i]? = some (.int .u8 z)
theorem PrB.of {w : World} {base b n cap : Nat} {g : Nat → Int} (h : OwnB w base (.slice (some ⟨b, 0, none⟩) n cap) n g) : PrB w b cap n := by
 rcases h.2 with ⟨e, _⟩ | ⟨b', c', cur, e, hb, hg, hn, hc, hs, ht⟩
 ·cases e
 ·simp at e
  obtain ⟨rfl, rfl⟩ := e
  refine ⟨cur, hg, by omega, fun i hi => ⟨g i, ?_⟩⟩
  have h1 := bytesL_at (n := n) g hi
  rw [← ht, Nat.mul_one, List.getElem?_take, if_pos hi] at h1
  simpa using h1
theorem PrB.own {w : World} {base b n cap : Nat} (h : PrB w b cap n) (hb : base ≤ b) (hn : n ≤ cap) (hc : cap ≤ maxLen) : ∃ g, OwnB w base (.slice (some ⟨b, 0, none⟩) n cap) n g := by
 obtain ⟨cur, hg, hs, hz⟩ := h
 have : ∃ g : Nat → Int, ∀ i, i < n → cur[i]? = some (.int .u8 (g i)) := ⟨fun i => if hi : i < n then Classical.choose (hz i hi) else 0, fun i hi => by simp only [dif_pos hi]; exact Classical.choose_spec (hz i hi)⟩
 obtain ⟨g, hg2⟩ := this
 refine ⟨g, by rw [bytesL_len]; omega, .inr ⟨b, cap, cur, rfl, hb, hg, hn, hc, by omega, ?_⟩⟩
 refine List.ext_getElem? fun i => ?_
 rw [Nat.mul_one, List.getElem?_take]
 by_cases hi : i < n
 ·rw [if_pos hi, bytesL_at _ hi]
  simpa using hg2 i hi
 ·rw [if_neg hi, List.getElem?_eq_none (by rw [bytesL_len]; omega)]
theorem PrB.grow {w w' : World} {b cap M : Nat} {row : Option Nat} (h : PrB w b cap M) (hg : w.grownBy w' row) (hne : some b ≠ row) : PrB w' b cap M := by
 obtain ⟨cur, h1, h2, h3⟩ := h
 exact ⟨cur, (hg.block b (Array.getElem?_eq_some_iff.1 h1).1 hne).trans h1, h2, h3⟩
theorem PrB.set {w : World} {b cap M : Nat} (h : PrB w b cap M) (k : Nat) (y : Int) : PrB (w.setCell ⟨b, k, none⟩ (.int .u8 y)) b cap M := by
 obtain ⟨cur, h1, h2, h3⟩ := h
 refine ⟨cur.setIfInBounds k (.int .u8 y), ?_, by simpa using h2, fun i hi => ?_⟩
 ·simp [World.setCell, Array.getElem?_modify, h1]
 ·obtain ⟨z, hz⟩ := h3 i hi
  by_cases e : k = i
  ·subst e
   exact ⟨y, by rw [Array.getElem?_setIfInBounds_self]; simp [(Array.getElem?_eq_some_iff.1 hz).1]⟩
  ·exact ⟨z, by rw [Array.getElem?_setIfInBounds_ne e]; exact hz⟩
theorem wp_app77 {ops : Array Oper} {rest : List Oper} {o : Oper} {a : Act} {Q : Exit → Act → World → Prop} {W : World} (hgd : o.guard = none) (s x : Operand)
  (ho : o.op = .call { callee := .builtin .append, args := #[s, x], argTypes := #[24, 24] }) (base b n cap M : Nat) (g : Nat → Int) (hs : a.eval s = .slice (some ⟨b, 0, none⟩) n cap) (hown : OwnB W base (.slice (some ⟨b, 0, none⟩) n cap) n g) (hp : PrB W b cap M)
  {nb : Nat} (hx : a.eval x = .slice (some ⟨nb, 0, none⟩) 2 2) (hnb : nb = W.heap.size) (hl : n ≤ 2000000)
  (h : ∀ v' w', W.grownBy w' (some b) → PrB w' b cap M → wpList Tryz.prog ops Q rest (a.put o.dst v') w') : wpList Tryz.prog ops Q (o :: rest) a (W.alloc (Obj.cells #[.int .u8 7, .int .u8 7] 5)) := by
 subst hnb
 obtain ⟨i, hi, hz0, hz1, hz2⟩ := info_parts info_u8
 have ga1 := World.grownBy_alloc W (Obj.cells #[.int .u8 7, .int .u8 7] 5) (some b)
 have hp1 := hp.grow (World.grownBy_alloc W (Obj.cells #[.int .u8 7, .int .u8 7] 5) none) (by simp)
 have hown1 : OwnB (W.alloc (Obj.cells #[.int .u8 7, .int .u8 7] 5)) base (.slice (some ⟨b, 0, none⟩) n cap) n g := World.ownsRow.alloc hown _
 have hnews : ∀ j u, ([.int .u8 7, .int .u8 7] : List Value)[j]? = some u → (W.alloc (Obj.cells #[.int .u8 7, .int .u8 7] 5)).cell? ((⟨W.heap.size, 0, none⟩ : Addr).add j) = some u := by
  intro j u hj
  match j, hj with
  | 0, hj => simp at hj; subst hj; simp [Addr.add]
  | 1, hj => simp at hj; subst hj; simp [Addr.add]
 generalize W.alloc (Obj.cells #[.int .u8 7, .int .u8 7] 5) = W1 at *
 obtain ⟨cur, e1, e2, e3⟩ := hp1
 have hrun : ∃ v' w', (Builtin.append_ #[24, 24] o.type #[.slice (some ⟨b, 0, none⟩) n cap, .slice (some ⟨W.heap.size, 0, none⟩) 2 2]).run Tryz.prog W1 = .ok v' w' ∧ W1.grownBy w' (some b) ∧ PrB w' b cap M := by
  by_cases hroom : n + 2 ≤ cap
  ·have hr := run_append_room (P := Tryz.prog) W1 24 o.type 5 i Tryz.underlying24 hi b n cap cur e1 ⟨W.heap.size, 0, none⟩ 2 2 [.int .u8 7, .int .u8 7] (by rw [hz1]; rfl) hnews (by simp; rfl) hroom (by rw [hz1]; simp; omega)
   refine ⟨_, _, hr, ⟨rfl, rfl, rfl, by simp, fun k _ hk => setRow_other W1 b k _ (fun e => hk (by rw [e]))⟩, _, setRow_heap W1 b cur _ _ _ e1, ?_, fun q hq => ?_⟩
   ·rw [hz1]
    simp only [List.size_toArray, List.length_append, List.length_take, List.length_drop, Array.length_toList, List.length_cons, List.length_nil]
    omega
   ·obtain ⟨z, hz⟩ := e3 q hq
    rw [hz1]
    simp only [Nat.mul_one, List.getElem?_toArray, List.length_cons, List.length_nil]
    have hcl : cur.toList.length = cap := by simpa using e2
    by_cases h1 : q < n
    ·exact ⟨z, by rw [List.append_assoc, List.getElem?_append_left (by rw [List.length_take]; omega), List.getElem?_take, if_pos h1]; simpa using hz⟩
    ·have hlt : (cur.toList.take n).length = n := by rw [List.length_take]; omega
     by_cases h2 : q = n
     ·subst h2
      exact ⟨7, by rw [List.append_assoc, List.getElem?_append_right (by omega), hlt]; simp⟩
     ·by_cases h3 : q = n + 1
      ·subst h3
       exact ⟨7, by rw [List.append_assoc, List.getElem?_append_right (by omega), hlt]; simp⟩
      ·exact ⟨z, by
        rw [List.getElem?_append_right (by rw [List.length_append, hlt]; simp; omega), List.length_append, hlt, List.getElem?_drop]
        simp only [List.length_cons, List.length_nil]
        rw [show n + (0 + 1 + 1) + (q - (n + (0 + 1 + 1))) = q by omega]
        simpa using hz⟩
  ·have hle : n ≤ cap := by
    rcases hown1.2 with ⟨e, _⟩ | ⟨_, _, _, e, _, _, hn, _⟩
    ·cases e
    ·simp at e; obtain ⟨_, rfl⟩ := e; exact hn
   have hr := run_append_grow (P := Tryz.prog) W1 24 o.type 5 i (.int .u8 0) Tryz.underlying24 hi hz0 ⟨b, 0, none⟩ n cap (bytesL n g) (by rw [hz1, bytesL_len]; omega) (World.ownsRow.cells hown1 rfl) ⟨W.heap.size, 0, none⟩ 2 2 [.int .u8 7, .int .u8 7] (by rw [hz1]; rfl) hnews (by omega) (by omega) (by rw [hz2]; exact growslice_fits (by omega) (by omega))
   have hg9 : ∀ o, W1.grownBy (W1.drew.alloc o) none := fun o => ⟨rfl, rfl, rfl, by simp, fun k hk _ => heap_alloc_old W1.drew _ hk⟩
   exact ⟨_, _, hr, grown_noneR _ (hg9 _), PrB.grow (w := W1) ⟨cur, e1, e2, e3⟩ (hg9 _) (by simp)⟩
 obtain ⟨v', w', hr, hg, hpp⟩ := hrun
 refine wpList_plain hgd fun K hK => ?_
 unfold Oper.wp execOp
 simp only [ho, resolve, invoke, builtin, Sem.run_bind, Sem.run_pure, Result.andThen_ok, List.map_toArray, List.map_cons, List.map_nil, hs, hx, hr]
 exact hK _ _ (h v' w' (gtr ga1 hg) hpp)
theorem spoil_pr (base b n cap M : Nat) (g : Nat → Int) (w : World) (hn : (n : Int) ≤ 1048576) (hp : PrB w b cap M) (h : OwnB w base (.slice (some ⟨b, 0, none⟩) n cap) n g) :
  Calls Tryz.prog 32 #[.slice (some ⟨b, 0, none⟩) n cap] w fun e w' => e = .returned (.tuple #[]) ∧ w.grownBy w' (some b) ∧ PrB w' b cap M := by
 have HP : Hid (PrB w b cap M) := hp
 clear hp
 go_enter Tryz.func32, Tryz.ntmps32
 go_wp2
 go_loopw [2] (fun s wr => ∃ k : Nat, k ≤ n ∧ s = .int .i64 k ∧ (∃ g', OwnB wr base (.slice (some ⟨b, 0, none⟩) n cap) n g') ∧ w.grownBy wr (some b) ∧ PrB wr b cap M) (fun s _ => n - (intOf s).toNat)
 case atStart => exact ⟨0, Nat.zero_le _, rfl, ⟨g, h⟩, gr0, HP.out⟩
 case round =>
  obtain ⟨k, hk, rfl, ⟨g', ho⟩, hgr, hpr⟩ := hrel
  have HPr : Hid (PrB wr b cap M) := hpr
  clear hpr
  by_cases hlt : k < n
  ·have c := ho.cellAt hlt
   have f := World.ownsRow.frozenAt ho k
   go_wp2
   go_roundw
   case rel => exact ⟨k + 1, by omega, by go_num, ⟨_, ho.store k _⟩, gtr hgr (grown_setCell _ _ _ _), HPr.out.set _ _⟩
   case measure => simp [intOf]; omega
  ·obtain rfl : k = n := by omega
   have HO : Hid (OwnB wr base (.slice (some ⟨b, 0, none⟩) k cap) k g') := ho
   clear ho
   go_wp2_with (at_builtin; refine wp_app77 rfl _ _ rfl base b k cap M g' rfl HO.out HPr.out rfl rfl (by omega) ?_; intro v' w2 hg2 hp2)
   go_end0
   exact ⟨rfl, gtr hgr hg2, hp2⟩
theorem spoil_two {base cn dn : Nat} {cv dv : Value} {g g' : Nat → Int} {w : World} (hn : (cn : Int) ≤ 1048576) (hc : OwnB w base cv cn g) (hd : OwnB w base dv dn g') :
  Calls Tryz.prog 32 #[cv] w fun e w' => e = .returned (.tuple #[]) ∧ w.grownBy w' cv.ownBlock ∧ ∃ g'', OwnB w' base dv dn g'' := by
 rcases hc.2 with ⟨rfl, rfl⟩ | ⟨b, cap, cur, rfl, hb, hg1, _⟩
 ·exact (spoil_nil base w).mono fun e w' ⟨he, hg⟩ => ⟨he, hg, _, hd.kept hg (Classical.em _)⟩
 ·rcases hd.2 with ⟨rfl, rfl⟩ | ⟨b2, cap2, cur2, rfl, hb2, hg2, hn2, hm2, hs2, _⟩
  ·exact (spoil_pr base b cn cap cn g w hn (PrB.of hc) hc).mono fun e w' ⟨he, hg, _⟩ => ⟨he, hg, fun _ => 0, World.ownsRow_nil _ _ _ _⟩
  ·by_cases e : b = b2
   ·subst e
    have ec : cap2 = cap := by
     obtain ⟨c1, h1, h2, _⟩ := PrB.of hc
     rw [hg2] at h1
     injection h1 with h1
     injection h1 with h1
     subst h1
     omega
    subst ec
    exact (spoil_pr base b cn cap2 dn g w hn (PrB.of hd) hc).mono fun e w' ⟨he, hg, hp⟩ => ⟨he, hg, hp.own hb2 hn2 hm2⟩
   ·exact (spoil_pr base b cn cap cn g w hn (PrB.of hc) hc).mono fun e' w' ⟨he, hg, _⟩ => ⟨he, hg, _, hd.kept hg (.inr (by simp [Value.ownBlock]; exact fun h => e h.symm))⟩
theorem spoilZ6 {w : World} {base : Nat} {v : Value} {l : List Int} (h : OwnZ w base v l) (hl : l.length ≤ 65536) (hb : base ≤ w.heap.size) :
  Calls Tryz.prog 33 #[v] w fun e w' => e = .returned (.tuple #[]) ∧ w.grownBy w' v.ownBlock := by
 obtain ⟨i, hi, hz0, hz1, hz2⟩ := info_parts info_int
 rcases h.2 with ⟨rfl, h0⟩ | ⟨b, cap, cur, rfl, hbb, _⟩
 ·go_enter Tryz.func33, Tryz.ntmps33
  go_wp2_with fail
  go_loopw [2] (fun s wr => s = .int .i64 0 ∧ wr = w) (fun s _ => 0)
  case atStart => exact ⟨rfl, by first | rfl | trivial⟩
  case round =>
   obtain ⟨rfl, hw⟩ := hrel
   subst hw
   go_wp2_with (at_builtin; refine wp_appZ1 rfl _ _ rfl wr.heap.size (.slice none 0 0) [] 5 rfl (World.ownsRow_nil _ _ _ _) rfl rfl (by simp) (Nat.le_refl _) ?_; intro v' w2 ho2 hg2)
   go_end0
   exact ⟨rfl, hg2⟩
 ·have hl' : (l.length : Int) ≤ 65536 := by omega
  have hN : OwnN w base (.slice (some ⟨b, 0, none⟩) l.length cap) l.length (fun i => l.getD i 0) := h.n
  obtain ⟨n, hn⟩ : ∃ n, n = l.length := ⟨_, rfl⟩
  rw [← hn] at hN hl' ⊢
  have hn6 : n ≤ 65536 := by omega
  have HN : Hid (OwnN w base (.slice (some ⟨b, 0, none⟩) n cap) n (fun i => l.getD i 0)) := hN
  clear h hn hN hl
  go_enter Tryz.func33, Tryz.ntmps33
  go_wp2_with fail
  go_loopw [2] (fun s wr => ∃ k : Nat, k ≤ n ∧ s = .int .i64 k ∧ (∃ g, OwnN wr base (.slice (some ⟨b, 0, none⟩) n cap) n g) ∧ w.grownBy wr (some b)) (fun s _ => n - (intOf s).toNat)
  case atStart => exact ⟨0, Nat.zero_le _, rfl, ⟨_, HN.out⟩, gr0⟩
  case round =>
   obtain ⟨k, hk, rfl, ⟨g, ho⟩, hg⟩ := hrel
   have HG : Hid (w.grownBy wr (some b)) := hg
   have HO : Hid (OwnN wr base (.slice (some ⟨b, 0, none⟩) n cap) n g) := ho
   have hsz := hg.size
   by_cases hkn : k < n
   ·have hkn' : (k : Int) < n := by omega
    have c1 := ho.cell hkn
    have f1 := ho.frozen k
    clear ho hg
    go_wp2
    go_roundw
    case rel => exact ⟨k + 1, by omega, by go_num, ⟨_, HO.out.set hkn (-99)⟩, gtr HG.out (grown_set _ _ _ _)⟩
    case measure => simp [intOf]; omega
   ·obtain rfl : k = n := by omega
    clear ho hg
    have hz : OwnZ wr base (.slice (some ⟨b, 0, none⟩) k cap) ((List.range k).map g) := HO.out.z
    have HZ : Hid (OwnZ wr base (.slice (some ⟨b, 0, none⟩) k cap) ((List.range k).map g)) := hz
    clear hz
    go_wp2_with (at_builtin; refine wp_appZ1 rfl _ _ rfl base (.slice (some ⟨b, 0, none⟩) k cap) ((List.range k).map g) 5 rfl HZ.out rfl rfl (by simp; omega) (by omega) ?_; intro v' w2 ho2 hg2)
    go_end0
    exact ⟨rfl, gtr HG.out hg2⟩
theorem row_apart' {w : World} {b e size n : Nat} {v : Value} {xs : List Value} (h : w.ownsRow b e size v n xs) {g : Nat} {cur : Array Value} {e' : TypeId} {f : Nat × Nat} (he : w.heap[g]? = some (.cells cur e' f)) (hne : e' ≠ e) : v.ownBlock ≠ some g := by
 intro hb
 rcases h.2 with ⟨e1, _⟩ | ⟨g', c, cur', e1, _, e2, _⟩
 ·rw [e1] at hb; cases hb
 ·rw [e1] at hb
  simp [Value.ownBlock] at hb
  subst hb
  rw [he] at e2
  simp at e2
  exact hne e2.2.1
theorem rows_apart' {w : World} {b1 b2 e1 e2 s1 s2 n1 n2 : Nat} {v1 v2 : Value} {x1 x2 : List Value} (h1 : w.ownsRow b1 e1 s1 v1 n1 x1) (h2 : w.ownsRow b2 e2 s2 v2 n2 x2) (hne : e1 ≠ e2) : ∀ q, v1.ownBlock = some q → q ∉ v2.ownBlock.toList := by
 intro q hq hm
 rcases h1.2 with ⟨rfl, _⟩ | ⟨g', c, cur', rfl, _, hh, _⟩
 ·cases hq
 ·simp [Value.ownBlock] at hq
  subst hq
  exact row_apart' h2 hh hne (by simpa using hm)
theorem eqImage_true {w : World} {t en : Int} {ca ca' da da' fa fa' : Option Addr} {cn cc cc' dn dc dc' fn fc fc' N N' : Nat} {g g' h h' M M' : Nat → Int} (hc : Bs w ca cn g) (hc' : Bs w ca' cn g') (eg : ∀ i, i < cn → g i = g' i) (hd : Bs w da dn h) (hd' : Bs w da' dn h') (eh : ∀ i, i < dn → h i = h' i) (hf : NumIn N w fa fn fc M) (hf' : NumIn N' w fa' fn fc' M') (eM : ∀ i, i < fn → M i = M' i) (bc : (cn : Int) ≤ 140737488351232) (bd : (dn : Int) ≤ 140737488351232) :
  Calls Tryz.prog 13 #[.agg #[.int .i64 t, .slice ca cn cc, .slice da dn dc, .int .i64 en, .slice fa fn fc], .agg #[.int .i64 t, .slice ca' cn cc', .slice da' dn dc', .int .i64 en, .slice fa' fn fc']] w fun e w' => e = .returned (.bool true) ∧ w.grownBy w' none := by
 obtain ⟨W2, hW2⟩ : ∃ W2, W2 = (w.alloc (.cells #[.int .i64 t, .slice ca cn cc, .slice da dn dc, .int .i64 en, .slice fa fn fc] 32)).alloc (.cells #[.int .i64 t, .slice ca' cn cc', .slice da' dn dc', .int .i64 en, .slice fa' fn fc'] 32) := ⟨_, rfl⟩
 have g2 : w.grownBy W2 none := by rw [hW2]; exact ga gal _
 have K1 : ∀ j v, (#[.int .i64 t, .slice ca cn cc, .slice da dn dc, .int .i64 en, .slice fa fn fc] : Array Value)[j]? = some v → W2.cell? ⟨w.heap.size, j, none⟩ = some v := fun j v hv => by rw [hW2]; exact (Ch.of (l := []) gal).cell ((cells_new _ _ rfl _).trans hv) (by simp)
 have K2 : ∀ j v, (#[.int .i64 t, .slice ca' cn cc', .slice da' dn dc', .int .i64 en, .slice fa' fn fc'] : Array Value)[j]? = some v → W2.cell? ⟨w.heap.size + 1, j, none⟩ = some v := fun j v hv => by rw [hW2, ← hv]; exact cells_new _ _ (by simp) _
 have kb : ∀ {a : Option Addr} {n : Nat} {f : Nat → Int} {W : World}, Bs w a n f → w.grownBy W none → Bs W a n f := fun hb g => by
  rcases hb with h0 | ⟨b, off, e, hc⟩
  ·exact .inl h0
  ·exact .inr ⟨b, off, e, fun i hi => g.cell (hc i hi) (by simp)⟩
 have H1 : Hid (∀ W, W2.grownBy W none → Calls Tryz.prog 10 #[.slice ca cn cc, .slice ca' cn cc'] W fun e w' => e = .returned (.bool true) ∧ W.grownBy w' none) := fun W gw => (eqB cn cc cc' ca ca' g g' W bc (kb hc (gtr g2 gw)) (kb hc' (gtr g2 gw)) eg).mono fun e w' ⟨he, d, hd⟩ => ⟨he, by rw [hd]; exact grown_drewN gr0 d⟩
 have H2 : Hid (∀ W, W2.grownBy W none → Calls Tryz.prog 10 #[.slice da dn dc, .slice da' dn dc'] W fun e w' => e = .returned (.bool true) ∧ W.grownBy w' none) := fun W gw => (eqB dn dc dc' da da' h h' W bd (kb hd (gtr g2 gw)) (kb hd' (gtr g2 gw)) eh).mono fun e w' ⟨he, d, hd⟩ => ⟨he, by rw [hd]; exact grown_drewN gr0 d⟩
 have H3 : Hid (∀ W, W2.grownBy W none → Calls Tryz.prog 28 #[.slice fa fn fc, .slice fa' fn fc'] W fun e w' => e = .returned (.bool true) ∧ W.grownBy w' none) := fun W gw => eqNums6_true (hf.grow (gtr g2 gw)) (hf'.grow (gtr g2 gw)) eM
 have HK : Hid ((∀ W, W2.grownBy W none → (W.cell? ⟨w.heap.size, 2, none⟩ = some (.slice da dn dc) ∧ W.cell? ⟨w.heap.size, 3, none⟩ = some (.int .i64 en) ∧ W.cell? ⟨w.heap.size, 4, none⟩ = some (.slice fa fn fc)) ∧ W.cell? ⟨w.heap.size + 1, 2, none⟩ = some (.slice da' dn dc') ∧ W.cell? ⟨w.heap.size + 1, 3, none⟩ = some (.int .i64 en) ∧ W.cell? ⟨w.heap.size + 1, 4, none⟩ = some (.slice fa' fn fc')) ∧ w.grownBy W2 none) := ⟨fun W g => ⟨⟨g.cell (K1 2 _ rfl) (by simp), g.cell (K1 3 _ rfl) (by simp), g.cell (K1 4 _ rfl) (by simp)⟩, g.cell (K2 2 _ rfl) (by simp), g.cell (K2 3 _ rfl) (by simp), g.cell (K2 4 _ rfl) (by simp)⟩, g2⟩
 have HW2 : Hid (W2 = _) := hW2
 clear hc hc' eg hd hd' eh hf hf' eM g2 hW2 K1 K2 kb
 go_enter Tryz.func13, Tryz.ntmps13
 go_wp2_with (first
  | (go_at_call 10; rw [← HW2.out]; refine (H1.out _ gr0).mono ?_; rintro e w3 ⟨rfl, g3⟩; have HG3 : Hid (W2.grownBy w3 none) := g3; obtain ⟨⟨a1, a2, a3⟩, a4, a5, a6⟩ := HK.out.1 w3 g3; clear g3)
  | (go_at_call 10; refine (H2.out _ HG3.out).mono ?_; rintro e w4 ⟨rfl, g4⟩; have HG4 : Hid (W2.grownBy w4 none) := gtr HG3.out g4; obtain ⟨⟨b1, b2, b3⟩, b4, b5, b6⟩ := HK.out.1 w4 HG4.out; clear g4)
  | (go_at_call 28; refine (H3.out _ HG4.out).mono ?_; rintro e w5 ⟨rfl, g5⟩; have HG5 : Hid (W2.grownBy w5 none) := gtr HG4.out g5; clear g5))
 go_ret
 exact ⟨rfl, gtr HK.out.2 HG5.out⟩
theorem spoilI {w : World} {base : Nat} {t en : Int} {ca da fa : Option Addr} {cn cc dn dc fn fc : Nat} {g g' : Nat → Int} {l : List Int} (hb : base ≤ w.heap.size) (hc : OwnB w base (.slice ca cn cc) cn g) (hd : OwnB w base (.slice da dn dc) dn g') (hf : OwnZ w base (.slice fa fn fc) l) (bc : (cn : Int) ≤ 1048576) (bd : (dn : Int) ≤ 1048576) (bf : l.length ≤ 65536) :
  Calls Tryz.prog 15 #[.agg #[.int .i64 t, .slice ca cn cc, .slice da dn dc, .int .i64 en, .slice fa fn fc]] w fun e w' => e = .returned (.tuple #[]) ∧ ∃ ls, Ch w w' ls ∧ ∀ k, k ∈ ls → base ≤ k := by
 obtain ⟨W1, hW1⟩ : ∃ W1, W1 = w.alloc (.cells #[.int .i64 t, .slice ca cn cc, .slice da dn dc, .int .i64 en, .slice fa fn fc] 32) := ⟨_, rfl⟩
 have g1 : w.grownBy W1 none := by rw [hW1]; exact gal
 obtain ⟨B, hB⟩ : ∃ B, B = w.heap.size := ⟨_, rfl⟩
 have hW0 : W1.heap[B]? = some (.cells #[.int .i64 t, .slice ca cn cc, .slice da dn dc, .int .i64 en, .slice fa fn fc] 32 (0, 0)) := by rw [hW1, hB]; exact heap_alloc_new _ _
 have K1 : ∀ j v, (#[.int .i64 t, .slice ca cn cc, .slice da dn dc, .int .i64 en, .slice fa fn fc] : Array Value)[j]? = some v → W1.cell? ⟨B, j, none⟩ = some v := fun j v hv => by rw [hW1, hB, ← hv]; exact cells_new _ _ rfl _
 have oc := hc.kept g1 (Classical.em _)
 have od := hd.kept g1 (Classical.em _)
 have of := hf.grow g1
 have H1 : Hid (Calls Tryz.prog 32 #[.slice ca cn cc] W1 fun e w' => e = .returned (.tuple #[]) ∧ W1.grownBy w' (Value.slice ca cn cc).ownBlock ∧ ∃ g'', OwnB w' base (.slice da dn dc) dn g'') := spoil_two bc oc od
 have hbW : base ≤ W1.heap.size := Nat.le_trans hb g1.size
 have H2 : Hid (∀ W g'', base ≤ W.heap.size → OwnB W base (.slice da dn dc) dn g'' → Calls Tryz.prog 32 #[.slice da dn dc] W fun e w' => e = .returned (.tuple #[]) ∧ W.grownBy w' (Value.slice da dn dc).ownBlock) := fun W g'' hb' ho => spoilB base dn _ g'' W bd hb' ho
 have H3 : Hid (∀ W, base ≤ W.heap.size → OwnZ W base (.slice fa fn fc) l → Calls Tryz.prog 33 #[.slice fa fn fc] W fun e w' => e = .returned (.tuple #[]) ∧ W.grownBy w' (Value.slice fa fn fc).ownBlock) := fun W hb' ho => spoilZ6 ho bf hb'
 have NB : ∀ q, q = B → q ∉ (Value.slice ca cn cc).ownBlock.toList ∧ q ∉ (Value.slice da dn dc).ownBlock.toList := fun q hq => ⟨fun hm => row_apart' oc hW0 (by decide) (by rw [← hq]; simpa using hm), fun hm => row_apart' od hW0 (by decide) (by rw [← hq]; simpa using hm)⟩
 have HS : Hid (B ∉ (Value.slice ca cn cc).ownBlock.toList ∧ B ∉ (Value.slice da dn dc).ownBlock.toList ∧ w.grownBy W1 none ∧ base ≤ W1.heap.size ∧ OwnZ W1 base (.slice fa fn fc) l ∧ (∀ q, (Value.slice ca cn cc).ownBlock = some q → base ≤ q) ∧ (∀ q, (Value.slice da dn dc).ownBlock = some q → base ≤ q) ∧ (∀ q, (Value.slice fa fn fc).ownBlock = some q → base ≤ q)) := ⟨(NB B rfl).1, (NB B rfl).2, g1, hbW, of, fun q hq => (hc.lt q hq).1, fun q hq => (hd.lt q hq).1, fun q hq => hf.base q hq⟩
 have HA : Hid ((∀ q, (Value.slice fa fn fc).ownBlock = some q → q ∉ (Value.slice ca cn cc).ownBlock.toList)) := rows_apart' of oc (by decide)
 have HK : Hid (W1.cell? ⟨B, 1, none⟩ = some (.slice ca cn cc) ∧ W1.cell? ⟨B, 2, none⟩ = some (.slice da dn dc) ∧ W1.cell? ⟨B, 4, none⟩ = some (.slice fa fn fc)) := ⟨K1 1 _ rfl, K1 2 _ rfl, K1 4 _ rfl⟩
 have HW1 : Hid (W1 = w.alloc (.cells #[.int .i64 t, .slice ca cn cc, .slice da dn dc, .int .i64 en, .slice fa fn fc] 32) ∧ B = w.heap.size) := ⟨hW1, hB⟩
 clear hc hd hf g1 hW0 K1 oc od of hbW NB hW1 hB hb
 go_enter Tryz.func15, Tryz.ntmps15
 go_wp2_with (first
  | (go_at_call 32; rw [← HW1.out.1, ← HW1.out.2]; refine H1.out.mono ?_; rintro e w3 ⟨rfl, g3, g5, o3⟩; have H4 : Hid (W1.grownBy w3 (Value.slice ca cn cc).ownBlock ∧ OwnB w3 base (.slice da dn dc) dn g5) := ⟨g3, o3⟩; have d2 := (grown_ch g3).cell HK.out.2.1 HS.out.1; clear g3 o3)
  | (go_at_call 32; refine (H2.out _ _ (Nat.le_trans HS.out.2.2.2.1 H4.out.1.size) H4.out.2).mono ?_; rintro e w4 ⟨rfl, g4⟩; have H5 : Hid (w3.grownBy w4 (Value.slice da dn dc).ownBlock) := g4; have d4 := (grown_ch g4).cell ((grown_ch H4.out.1).cell HK.out.2.2 HS.out.1) HS.out.2.1; clear g4)
  | (go_at_call 33; refine (H3.out _ (Nat.le_trans (Nat.le_trans HS.out.2.2.2.1 H4.out.1.size) H5.out.size) ((HS.out.2.2.2.2.1.ch (grown_ch H4.out.1) HA.out).ch (grown_ch H5.out) (rows_apart' (HS.out.2.2.2.2.1.ch (grown_ch H4.out.1) HA.out) H4.out.2 (by decide)))).mono ?_; rintro e w5 ⟨rfl, g5⟩))
 go_end0
 refine ⟨rfl, (Value.slice ca cn cc).ownBlock.toList ++ ((Value.slice da dn dc).ownBlock.toList ++ (Value.slice fa fn fc).ownBlock.toList), ?_, fun k hk => ?_⟩
 ·exact (((Ch.of HS.out.2.2.1).trans ((grown_ch H4.out.1).mono (fun q _ hq => by simp at hq ⊢; simp [hq]))).trans ((grown_ch H5.out).mono (fun q _ hq => by simp at hq ⊢; simp [hq]))).trans ((grown_ch g5).mono (fun q _ hq => by simp at hq ⊢; simp [hq]))
 ·simp at hk
  rcases hk with hk | hk | hk
  ·exact HS.out.2.2.2.2.2.1 k hk
  ·exact HS.out.2.2.2.2.2.2.1 k hk
  ·exact HS.out.2.2.2.2.2.2.2 k hk
def HvR6 (n : Nat) (e : Ending) : Prop := ∃ b, e = .returned (.bool b) ∧ (b = false → n ≤ 3000)
theorem heavy6_any {N : Nat} {w : World} {a : Option Addr} {K c : Nat} {V : Nat → Lk.PcV} {A : Nat → PcA} (h : PcsIn N w a K c V A) (hz : K * 56 ≤ reachBytes) (ib : ∀ k, k < K → (V k).n * 72 ≤ reachBytes) (mb : ∀ k, k < K → (V k).m * 8 ≤ reachBytes) :
  Calls Tryz.prog 5 #[.slice a K c] w fun e w' => HvR6 K e ∧ w.grownBy w' none := by
 have hle := h.le
 have hmx := h.max
 unfold maxLen at hmx
 have hz' : K * 56 ≤ 140737488351232 := hz
 have hn' : (K : Int) ≤ 140737488351232 := by omega
 have HT : Hid (∀ W, w.grownBy W none → PcsIn N W a K c V A) := fun W g => h.ch (l := []) (Ch.of g) (by simp)
 have HF : Hid (∀ i, i < K → ((V i).n : Int) ≤ 140737488351232 ∧ ((V i).m : Int) ≤ 140737488351232) := fun i hi => by have h1 : (V i).n * 72 ≤ 140737488351232 := ib i hi; have h2 : (V i).m * 8 ≤ 140737488351232 := mb i hi; omega
 clear h ib mb hz hz'
 go_enter Tryz.func5, Tryz.ntmps5
 go_wp2_with fail
 go_loopw [3, 4] (fun z ix wr => ∃ (k : Nat) (y : Int), ix = .int .i64 k ∧ z = .int .i64 y ∧ k ≤ K ∧ (K : Int) ≤ y ∧ y ≤ 4611686018427387904 ∧ w.grownBy wr none) (fun _ ix _ => K - (intOf ix).toNat)
 case atStart => exact ⟨0, K, rfl, rfl, Nat.zero_le _, Int.le_refl _, by omega, gr0⟩
 case round =>
  obtain ⟨k, y, rfl, rfl, hk, hy1, hy2, hg⟩ := hrel
  have HG : Hid (w.grownBy wr none) := hg
  by_cases hkn : k < K
  ·have hkn' : (k : Int) < K := by omega
   by_cases hy : y < 3000
   ·obtain ⟨b, off, rfl, hb, hty⟩ := (HT.out _ hg).at hkn
    have hfk := HF.out k hkn
    have c0 := hty.c0
    have c1 := hty.c1
    clear hty hg
    generalize V k = x at *
    generalize A k = y9 at *
    have hw1 : IntKind.i64.wrap (y + x.n) = y + x.n := by rw [IntKind.wrap_i64]; omega
    have hw2 : IntKind.i64.wrap (y + x.n + x.m) = y + x.n + x.m := by rw [IntKind.wrap_i64]; omega
    go_wp2_with fail
    go_quiet (fail)
    go_wp2_with fail
    go_roundw
    case rel => exact ⟨k + 1, y + x.n + x.m, by go_num, by go_num, by omega, by omega, by omega, grown_drewN HG.out _⟩
    case measure => simp [intOf]; omega
   ·go_wp2
    go_ret
    refine ⟨⟨_, rfl, fun e => ?_⟩, HG.out⟩
    simp at e
    omega
  ·obtain rfl : k = K := by omega
   go_wp2
   go_ret
   refine ⟨⟨_, rfl, fun e => ?_⟩, HG.out⟩
   simp at e
   omega
end Go.Proofs.YtkiockffejlnhaaGreatDoor
