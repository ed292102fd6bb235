/- A program's weight. -/
import Derived.Test.YtpcgkggpmipiaaaGreatPgW
import Derived.Test.YtpcgkggpmipiaaaGreatG4
namespace Go.Proofs.YtpcgkggpmipiaaaGreat
set_option maxRecDepth 100000
set_option maxHeartbeats 32000000
open Go.RowKit
set_option linter.unusedVariables false
namespace Pg
def wTs : List Tp → Int
 | [] => 0
 | x :: l => (x.fields.length : Int) + wTs l
def Fn.w (f : Fn) : Int := (f.locals.length : Int) + (f.results.length : Int) + wSs f.body
def wFs : List Fn → Int
 | [] => 0
 | x :: l => x.w + wFs l
def Pr.w (p : Pr) : Int := (p.types.length : Int) + (p.funcs.length : Int) + wTs p.types + wFs p.funcs
theorem wTs_app (l m : List Tp) : wTs (l ++ m) = wTs l + wTs m := by
 induction l with
 | nil => simp [wTs]
 | cons x l ih => simp only [List.cons_append, wTs, ih]; omega
theorem wFs_app (l m : List Fn) : wFs (l ++ m) = wFs l + wFs m := by
 induction l with
 | nil => simp [wFs]
 | cons x l ih => simp only [List.cons_append, wFs, ih]; omega
theorem wTs_succ {l : List Tp} {k : Nat} (h : k < l.length) : wTs (l.take (k + 1)) = wTs (l.take k) + (l[k].fields.length : Int) := by
 rw [List.take_succ_eq_append_getElem h, wTs_app]
 simp [wTs]
theorem wFs_succ {l : List Fn} {k : Nat} (h : k < l.length) : wFs (l.take (k + 1)) = wFs (l.take k) + l[k].w := by
 rw [List.take_succ_eq_append_getElem h, wFs_app]
 simp [wFs]
end Pg
theorem weight_any {most : Int} (hm : 0 ≤ most ∧ most ≤ 1000000) {B : Nat → Prop} {w : World} {p : Pg.Pr} {a1 a2 : Option Addr} {k1 k2 : Nat} (h : PrC B w p a1 a2 k1 k2) :
  Calls Tryz.prog 8 #[.agg #[.slice a1 p.types.length k1, .slice a2 p.funcs.length k2], .int .i64 most] w fun e w' => ∃ r, e = .returned (.int .i64 r) ∧ (r ≤ most → r = p.w) ∧ w.grownBy w' none := by
 have l1 := h.t.le
 have m1 := h.t.max
 have l2 := h.f.le
 have m2 := h.f.max
 have f1 : p.types.length * 48 ≤ 140737488351232 := h.t.fits
 have f2 : p.funcs.length * 80 ≤ 140737488351232 := h.f.fits
 unfold maxLen at m1 m2
 obtain ⟨W1, hW1⟩ : ∃ W1, W1 = w.alloc (.cells #[.slice a1 p.types.length k1, .slice a2 p.funcs.length k2] 27) := ⟨_, rfl⟩
 obtain ⟨PB, hPB⟩ : ∃ PB, PB = w.heap.size := ⟨_, rfl⟩
 have g1 : w.grownBy W1 none := by rw [hW1]; exact World.grownBy_alloc _ _ _
 have HD : Hid (∀ W, W1.grownBy W none → W.cell? ⟨PB, 0, none⟩ = some (.slice a1 p.types.length k1) ∧ W.cell? ⟨PB, 1, none⟩ = some (.slice a2 p.funcs.length k2)) := fun W g => ⟨g.cell (by rw [hW1, hPB]; exact cells_new _ _ rfl _) (by simp), g.cell (by rw [hW1, hPB]; exact cells_new _ _ rfl _) (by simp)⟩
 have HT : Hid (∀ W, W1.grownBy W none → TpL B W a1 k1 p.types ∧ FnL B W a2 k2 p.funcs) := fun W g => ⟨TpL.grow h.t (grown_trans g1 g), FnL.grow h.f (grown_trans g1 g)⟩
 have HW1 : Hid (W1 = w.alloc (.cells #[.slice a1 p.types.length k1, .slice a2 p.funcs.length k2] 27) ∧ PB = w.heap.size ∧ w.grownBy W1 none) := ⟨hW1, hPB, g1⟩
 clear h hW1 hPB g1
 go_enter Tryz.func8, Tryz.ntmps8
 go_wp2_with fail
 rw [← HW1.out.1, ← HW1.out.2.1]
 go_loopw [5, 6] (fun nx ix wr => ∃ (k : Nat) (r : Int), ix = .int .i64 k ∧ k ≤ p.types.length ∧ nx = .int .i64 r ∧ 0 ≤ r ∧ r ≤ 100000000000000 ∧ (r ≤ most → r = (p.types.length : Int) + (p.funcs.length : Int) + Pg.wTs (p.types.take k)) ∧ W1.grownBy wr none) (fun _ ix _ => p.types.length - (intOf ix).toNat)
 case atStart => exact ⟨0, _, rfl, Nat.zero_le _, rfl, by omega, by omega, fun _ => by simp [Pg.wTs], World.grownBy.refl _ _⟩
 case round =>
  obtain ⟨k, r, rfl, hk, rfl, hr0, hr1, hwt, hg⟩ := hrel
  have HWt : Hid (r ≤ most → r = (p.types.length : Int) + (p.funcs.length : Int) + Pg.wTs (p.types.take k)) := hwt
  have HG : Hid (W1.grownBy wr none) := hg
  obtain ⟨d0, d1⟩ := HD.out wr hg
  by_cases hgo : k < p.types.length ∧ r ≤ most
  ·obtain ⟨hkn, hrm⟩ := hgo
   have hkn' : (k : Int) < p.types.length := by omega
   have e1 : decide (r ≤ most) = true := by simpa using hrm
   obtain ⟨b, o, rfl, hb, hx⟩ := (HT.out wr hg).1.at hkn
   obtain ⟨fa, fk, hc⟩ := hx
   have hfl : p.types[k].fields.length * 8 ≤ 140737488351232 := hc.f.fits
   have c3 := hc.c3
   have HX2 := hwt hrm
   clear hc hwt hg
   generalize hxk : p.types[k] = x at *
   go_wp2_with fail
   go_roundw
   case rel => exact ⟨k + 1, _, by go_num, by omega, rfl, by omega, by omega, fun h => by rw [Pg.wTs_succ hkn, hxk]; omega, HG.out⟩
   case measure => simp [intOf]; omega
  have HE : Hid (r ≤ most → r = (p.types.length : Int) + (p.funcs.length : Int) + Pg.wTs p.types) := fun hr => by
   have h1 := HWt.out hr
   rwa [List.take_of_length_le (by omega)] at h1
  clear hwt hg
  obtain ⟨w5, hw5⟩ : ∃ w5, w5 = wr := ⟨_, rfl⟩
  rw [← hw5] at d0 d1 HG ⊢
  clear hw5
  have hstop : ¬ ((k : Int) < p.types.length) ∨ ((k : Int) < p.types.length ∧ decide (r ≤ most) = false) := by simp; omega
  rcases hstop with h5 | ⟨h5, h6⟩
  all_goals (
   go_wp2_with fail
   go_loopw [5, 7] (fun nx ix wr => ∃ (k : Nat) (r : Int), ix = .int .i64 k ∧ k ≤ p.funcs.length ∧ nx = .int .i64 r ∧ 0 ≤ r ∧ r ≤ 100000000000000 ∧ (r ≤ most → r = (p.types.length : Int) + (p.funcs.length : Int) + Pg.wTs p.types + Pg.wFs (p.funcs.take k)) ∧ W1.grownBy wr none) (fun _ ix _ => p.funcs.length - (intOf ix).toNat)
   case atStart => exact ⟨0, _, rfl, Nat.zero_le _, rfl, hr0, hr1, fun h => by have := HE.out h; simp [Pg.wFs]; omega, HG.out⟩
   clear h5 d0 d1 HG HWt HE hr0 hr1 hk
   try clear h6
   obtain ⟨k, r, rfl, hk, rfl, hr0, hr1, hwt, hg⟩ := hrel
   have HWt : Hid (r ≤ most → r = (p.types.length : Int) + (p.funcs.length : Int) + Pg.wTs p.types + Pg.wFs (p.funcs.take k)) := hwt
   have HG : Hid (W1.grownBy wr none) := hg
   obtain ⟨d0, d1⟩ := HD.out wr hg
   by_cases hkn : k < p.funcs.length
   case neg =>
    obtain rfl : k = p.funcs.length := by omega
    clear hwt hg
    go_wp2
    go_ret
    refine ⟨r, rfl, fun h => ?_, grown_trans HW1.out.2.2 HG.out⟩
    have := HWt.out h
    rw [List.take_length] at this
    exact this
   have hkn' : (k : Int) < p.funcs.length := by omega
   by_cases hrm : r ≤ most
   case neg =>
    have e1 : decide (r ≤ most) = false := by simpa using hrm
    clear hwt hg
    go_wp2
    go_ret
    exact ⟨r, rfl, fun h => absurd h (by omega), grown_trans HW1.out.2.2 HG.out⟩
   have e1 : decide (r ≤ most) = true := by simpa using hrm
   obtain ⟨b, o, rfl, hb, hx⟩ := (HT.out wr hg).2.at hkn
   obtain ⟨a1', a2', a3, j1, j2, k3, hc⟩ := hx
   have fl : p.funcs[k].locals.length * 8 ≤ 140737488351232 := hc.l.fits
   have fr : p.funcs[k].results.length * 8 ≤ 140737488351232 := hc.r.fits
   have HC := fun W (g : wr.grownBy W none) => stmts_any hm p.funcs[k].body B W a3 k3 (r + (p.funcs[k].locals.length : Int) + (p.funcs[k].results.length : Int)) (StL.grow hc.b g)
   have c1 := hc.c1
   have c2 := hc.c2
   have c3 := hc.c3
   have HX2 := hwt hrm
   clear hc hwt hg
   generalize hxk : p.funcs[k] = x at *
   have HC : Hid (∀ W, wr.grownBy W none → Calls Tryz.prog 24 #[.slice a3 x.body.length k3, .int .i64 (r + (x.locals.length : Int) + (x.results.length : Int)), .int .i64 most] W fun e w' => ∃ q, e = .returned (.int .i64 q) ∧ Wt most (r + (x.locals.length : Int) + (x.results.length : Int)) q (Pg.wSs x.body) ∧ W.grownBy w' none) := fun W g => HC W g (by omega) (by omega)
   have hw1 : IntKind.i64.wrap (r + (x.locals.length : Int)) = r + (x.locals.length : Int) := by rw [IntKind.wrap_i64]; omega
   have hw2 : IntKind.i64.wrap (r + (x.locals.length : Int) + (x.results.length : Int)) = r + (x.locals.length : Int) + (x.results.length : Int) := by rw [IntKind.wrap_i64]; omega
   go_wp2_with fail
   refine region_src 25 (psiL [eqV (.pointer (some ⟨PB, 1, none⟩)), eqV (.slice (some ⟨b, o, none⟩) p.funcs.length k2), eqV (.int .i64 (k : Int)), eqV (.pointer (some ⟨b, o + k * 4, none⟩)), eqV (.pointer (some ⟨b, o + k * 4 + 3, none⟩)), eqV (.slice a3 x.body.length k3), eqV (.int .i64 r), eqV (.pointer (some ⟨PB, 1, none⟩)), eqV (.slice (some ⟨b, o, none⟩) p.funcs.length k2), eqV (.int .i64 (k : Int)), eqV (.pointer (some ⟨b, o + k * 4, none⟩)), eqV (.pointer (some ⟨b, o + k * 4 + 1, none⟩)), eqV (.slice a1' x.locals.length j1), eqV (.int .i64 (x.locals.length : Int)), eqV (.int .i64 (r + (x.locals.length : Int))), eqV (.pointer (some ⟨PB, 1, none⟩)), eqV (.slice (some ⟨b, o, none⟩) p.funcs.length k2), eqV (.int .i64 (k : Int)), eqV (.pointer (some ⟨b, o + k * 4, none⟩)), eqV (.pointer (some ⟨b, o + k * 4 + 2, none⟩)), eqV (.slice a2' x.results.length j2), eqV (.int .i64 (x.results.length : Int)), eqV (.int .i64 (r + (x.locals.length : Int) + (x.results.length : Int))), eqV (.int .i64 most), intV (fun q => Wt most (r + (x.locals.length : Int) + (x.results.length : Int)) q (Pg.wSs x.body))]) (by kernel_rfl) (by kernel_rfl) (by kernel_rfl) (by kernel_rfl) (psiL_hst (by repeat (first | exact stab_nil | refine stab_cons ?_ ?_ | exact stab_eq _ | exact stab_int _))) ?_ ?_
   ·simp only [List.take_succ_cons, List.take_zero]
    refine ⟨?_, ?_, ?_, ?_, ?_, ?_, ?_, ?_, ?_, ?_, ?_, ?_, ?_, ?_, ?_, ?_, ?_, ?_, ?_, ?_, ?_, ?_, ?_, ?_, ?_, trivial⟩
    ·intro VV W0 AA g hV hs hz
     have e02 := hz 2 (.pointer (some ⟨PB, 0, none⟩)) (by kernel_rfl) rfl
     refine ov (v := .pointer (some ⟨PB, 1, none⟩)) ?_ rfl
     simp [go_sem, e02]
    ·intro VV W0 AA g hV hs hz
     have gD : wr.grownBy W0 none := gdd g
     have q0 := psiL_eq (hV 0 (by kernel_rfl)) rfl
     have e0 := hs 48 0 (by kernel_rfl) (by kernel_rfl)
     have x0 := gD.cell d1 (by simp)
     refine ov (v := .slice (some ⟨b, o, none⟩) p.funcs.length k2) ?_ rfl
     simp [go_sem, q0, e0, x0]
    ·intro VV W0 AA g hV hs hz
     have e07 := hz 7 (.int .i64 (k : Int)) (by kernel_rfl) rfl
     refine ov (v := .int .i64 (k : Int)) ?_ rfl
     simp [go_sem, e07]
    ·intro VV W0 AA g hV hs hz
     have q1 := psiL_eq (hV 1 (by kernel_rfl)) rfl
     have e1 := hs 49 1 (by kernel_rfl) (by kernel_rfl)
     have q2 := psiL_eq (hV 2 (by kernel_rfl)) rfl
     have e2 := hs 50 2 (by kernel_rfl) (by kernel_rfl)
     refine ov (v := .pointer (some ⟨b, o + k * 4, none⟩)) ?_ rfl
     simp [go_sem, q1, e1, q2, e2, hkn']
    ·intro VV W0 AA g hV hs hz
     have q3 := psiL_eq (hV 3 (by kernel_rfl)) rfl
     have e3 := hs 51 3 (by kernel_rfl) (by kernel_rfl)
     refine ov (v := .pointer (some ⟨b, o + k * 4 + 3, none⟩)) ?_ rfl
     simp [go_sem, q3, e3]
    ·intro VV W0 AA g hV hs hz
     have gD : wr.grownBy W0 none := gdd g
     have q4 := psiL_eq (hV 4 (by kernel_rfl)) rfl
     have e4 := hs 52 4 (by kernel_rfl) (by kernel_rfl)
     have x0 := gD.cell c3 (by simp)
     refine ov (v := .slice a3 x.body.length k3) ?_ rfl
     simp [go_sem, q4, e4, x0]
    ·intro VV W0 AA g hV hs hz
     have e05 := hz 5 (.int .i64 r) (by kernel_rfl) rfl
     refine ov (v := .int .i64 r) ?_ rfl
     simp [go_sem, e05]
    ·intro VV W0 AA g hV hs hz
     have e02 := hz 2 (.pointer (some ⟨PB, 0, none⟩)) (by kernel_rfl) rfl
     refine ov (v := .pointer (some ⟨PB, 1, none⟩)) ?_ rfl
     simp [go_sem, e02]
    ·intro VV W0 AA g hV hs hz
     have gD : wr.grownBy W0 none := gdd g
     have q7 := psiL_eq (hV 7 (by kernel_rfl)) rfl
     have e7 := hs 55 7 (by kernel_rfl) (by kernel_rfl)
     have x0 := gD.cell d1 (by simp)
     refine ov (v := .slice (some ⟨b, o, none⟩) p.funcs.length k2) ?_ rfl
     simp [go_sem, q7, e7, x0]
    ·intro VV W0 AA g hV hs hz
     have e07 := hz 7 (.int .i64 (k : Int)) (by kernel_rfl) rfl
     refine ov (v := .int .i64 (k : Int)) ?_ rfl
     simp [go_sem, e07]
    ·intro VV W0 AA g hV hs hz
     have q8 := psiL_eq (hV 8 (by kernel_rfl)) rfl
     have e8 := hs 56 8 (by kernel_rfl) (by kernel_rfl)
     have q9 := psiL_eq (hV 9 (by kernel_rfl)) rfl
     have e9 := hs 57 9 (by kernel_rfl) (by kernel_rfl)
     refine ov (v := .pointer (some ⟨b, o + k * 4, none⟩)) ?_ rfl
     simp [go_sem, q8, e8, q9, e9, hkn']
    ·intro VV W0 AA g hV hs hz
     have q10 := psiL_eq (hV 10 (by kernel_rfl)) rfl
     have e10 := hs 58 10 (by kernel_rfl) (by kernel_rfl)
     refine ov (v := .pointer (some ⟨b, o + k * 4 + 1, none⟩)) ?_ rfl
     simp [go_sem, q10, e10]
    ·intro VV W0 AA g hV hs hz
     have gD : wr.grownBy W0 none := gdd g
     have q11 := psiL_eq (hV 11 (by kernel_rfl)) rfl
     have e11 := hs 59 11 (by kernel_rfl) (by kernel_rfl)
     have x0 := gD.cell c1 (by simp)
     refine ov (v := .slice a1' x.locals.length j1) ?_ rfl
     simp [go_sem, q11, e11, x0]
    ·intro VV W0 AA g hV hs hz
     have q12 := psiL_eq (hV 12 (by kernel_rfl)) rfl
     have e12 := hs 60 12 (by kernel_rfl) (by kernel_rfl)
     refine ov (v := .int .i64 (x.locals.length : Int)) ?_ rfl
     simp [go_sem, q12, e12]
    ·intro VV W0 AA g hV hs hz
     have q6 := psiL_eq (hV 6 (by kernel_rfl)) rfl
     have e6 := hs 54 6 (by kernel_rfl) (by kernel_rfl)
     have q13 := psiL_eq (hV 13 (by kernel_rfl)) rfl
     have e13 := hs 61 13 (by kernel_rfl) (by kernel_rfl)
     refine ov (v := .int .i64 (r + (x.locals.length : Int))) ?_ rfl
     simp [go_sem, q6, e6, q13, e13, hw1]
    ·intro VV W0 AA g hV hs hz
     have e02 := hz 2 (.pointer (some ⟨PB, 0, none⟩)) (by kernel_rfl) rfl
     refine ov (v := .pointer (some ⟨PB, 1, none⟩)) ?_ rfl
     simp [go_sem, e02]
    ·intro VV W0 AA g hV hs hz
     have gD : wr.grownBy W0 none := gdd g
     have q15 := psiL_eq (hV 15 (by kernel_rfl)) rfl
     have e15 := hs 63 15 (by kernel_rfl) (by kernel_rfl)
     have x0 := gD.cell d1 (by simp)
     refine ov (v := .slice (some ⟨b, o, none⟩) p.funcs.length k2) ?_ rfl
     simp [go_sem, q15, e15, x0]
    ·intro VV W0 AA g hV hs hz
     have e07 := hz 7 (.int .i64 (k : Int)) (by kernel_rfl) rfl
     refine ov (v := .int .i64 (k : Int)) ?_ rfl
     simp [go_sem, e07]
    ·intro VV W0 AA g hV hs hz
     have q16 := psiL_eq (hV 16 (by kernel_rfl)) rfl
     have e16 := hs 64 16 (by kernel_rfl) (by kernel_rfl)
     have q17 := psiL_eq (hV 17 (by kernel_rfl)) rfl
     have e17 := hs 65 17 (by kernel_rfl) (by kernel_rfl)
     refine ov (v := .pointer (some ⟨b, o + k * 4, none⟩)) ?_ rfl
     simp [go_sem, q16, e16, q17, e17, hkn']
    ·intro VV W0 AA g hV hs hz
     have q18 := psiL_eq (hV 18 (by kernel_rfl)) rfl
     have e18 := hs 66 18 (by kernel_rfl) (by kernel_rfl)
     refine ov (v := .pointer (some ⟨b, o + k * 4 + 2, none⟩)) ?_ rfl
     simp [go_sem, q18, e18]
    ·intro VV W0 AA g hV hs hz
     have gD : wr.grownBy W0 none := gdd g
     have q19 := psiL_eq (hV 19 (by kernel_rfl)) rfl
     have e19 := hs 67 19 (by kernel_rfl) (by kernel_rfl)
     have x0 := gD.cell c2 (by simp)
     refine ov (v := .slice a2' x.results.length j2) ?_ rfl
     simp [go_sem, q19, e19, x0]
    ·intro VV W0 AA g hV hs hz
     have q20 := psiL_eq (hV 20 (by kernel_rfl)) rfl
     have e20 := hs 68 20 (by kernel_rfl) (by kernel_rfl)
     refine ov (v := .int .i64 (x.results.length : Int)) ?_ rfl
     simp [go_sem, q20, e20]
    ·intro VV W0 AA g hV hs hz
     have q14 := psiL_eq (hV 14 (by kernel_rfl)) rfl
     have e14 := hs 62 14 (by kernel_rfl) (by kernel_rfl)
     have q21 := psiL_eq (hV 21 (by kernel_rfl)) rfl
     have e21 := hs 69 21 (by kernel_rfl) (by kernel_rfl)
     refine ov (v := .int .i64 (r + (x.locals.length : Int) + (x.results.length : Int))) ?_ rfl
     simp [go_sem, q14, e14, q21, e21, hw2]
    ·intro VV W0 AA g hV hs hz
     have e01 := hz 1 (.int .i64 most) (by kernel_rfl) rfl
     refine ov (v := .int .i64 most) ?_ rfl
     simp [go_sem, e01]
    ·intro VV W0 AA g hV hs hz
     have gD : wr.grownBy W0 none := gdd g
     have q5 := psiL_eq (hV 5 (by kernel_rfl)) rfl
     have e5 := hs 53 5 (by kernel_rfl) (by kernel_rfl)
     have q22 := psiL_eq (hV 22 (by kernel_rfl)) rfl
     have e22 := hs 70 22 (by kernel_rfl) (by kernel_rfl)
     have q23 := psiL_eq (hV 23 (by kernel_rfl)) rfl
     have e23 := hs 71 23 (by kernel_rfl) (by kernel_rfl)
     refine outO_call (f := 24) ?_ ((HC.out W0 gD).mono fun e w2 ⟨q, he, hq, hg⟩ => ⟨_, he, hg, q, rfl, hq⟩)
     simp [go_sem, q5, e5, q22, e22, q23, e23]
   ·intro VV W0 g hV
    have gD : wr.grownBy W0 none := gdd g
    have h0 := psiL_eq (hV 0 (by decide)) rfl
    have h1 := psiL_eq (hV 1 (by decide)) rfl
    have h2 := psiL_eq (hV 2 (by decide)) rfl
    have h3 := psiL_eq (hV 3 (by decide)) rfl
    have h4 := psiL_eq (hV 4 (by decide)) rfl
    have h5 := psiL_eq (hV 5 (by decide)) rfl
    have h6 := psiL_eq (hV 6 (by decide)) rfl
    have h7 := psiL_eq (hV 7 (by decide)) rfl
    have h8 := psiL_eq (hV 8 (by decide)) rfl
    have h9 := psiL_eq (hV 9 (by decide)) rfl
    have h10 := psiL_eq (hV 10 (by decide)) rfl
    have h11 := psiL_eq (hV 11 (by decide)) rfl
    have h12 := psiL_eq (hV 12 (by decide)) rfl
    have h13 := psiL_eq (hV 13 (by decide)) rfl
    have h14 := psiL_eq (hV 14 (by decide)) rfl
    have h15 := psiL_eq (hV 15 (by decide)) rfl
    have h16 := psiL_eq (hV 16 (by decide)) rfl
    have h17 := psiL_eq (hV 17 (by decide)) rfl
    have h18 := psiL_eq (hV 18 (by decide)) rfl
    have h19 := psiL_eq (hV 19 (by decide)) rfl
    have h20 := psiL_eq (hV 20 (by decide)) rfl
    have h21 := psiL_eq (hV 21 (by decide)) rfl
    have h22 := psiL_eq (hV 22 (by decide)) rfl
    have h23 := psiL_eq (hV 23 (by decide)) rfl
    obtain ⟨z24, h24, p24⟩ := (show intV (fun q => Wt most (r + (x.locals.length : Int) + (x.results.length : Int)) q (Pg.wSs x.body)) (VV 24) W0 from hV 24 (by decide))
    simp [frV, dstOf, Act.put, h0, h1, h2, h3, h4, h5, h6, h7, h8, h9, h10, h11, h12, h13, h14, h15, h16, h17, h18, h19, h20, h21, h22, h23, h24]
    clear h0 h1 h2 h3 h4 h5 h6 h7 h8 h9 h10 h11 h12 h13 h14 h15 h16 h17 h18 h19 h20 h21 h22 h23 h24 hV g
    have GR : Hid (wr.grownBy W0 none) := gD
    clear gD
    have HQ9 : Hid (Wt most (r + (x.locals.length : Int) + (x.results.length : Int)) z24 (Pg.wSs x.body)) := p24
    clear p24
    go_wp2_with fail
    go_roundw
    case rel =>
     obtain ⟨z1, z2, z3⟩ := HQ9.out
     refine ⟨k + 1, z24, by go_num, by omega, rfl, by omega, z2, fun h => ?_, grown_trans HG.out GR.out⟩
     rw [Pg.wFs_succ hkn, hxk, z3 h]
     have := HX2
     unfold Pg.Fn.w
     omega
    case measure => simp [intOf]; omega)
end Go.Proofs.YtpcgkggpmipiaaaGreat
