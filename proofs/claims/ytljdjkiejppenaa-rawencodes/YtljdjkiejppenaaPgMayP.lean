/- gantryref8: has a program bytes? -/
import Derived.Test.YtljdjkiejppenaaG6
namespace Go.Proofs.Ytljdjkiejppenaa
open Go.RowKit
set_option linter.unusedVariables false
namespace Pg
def Tp.may (x : Tp) : Bool := okB x.kind && (okB x.elem && (okB x.n && x.fields.all okB))
def Fn.may (x : Fn) : Bool := okB x.params && (x.locals.all okB && (x.results.all okB && x.body.all St.may))
def Pr.may (p : Pr) : Bool := p.types.all Tp.may && p.funcs.all Fn.may
end Pg
set_option maxRecDepth 100000 in
set_option maxHeartbeats 16000000 in
theorem may8 {B : Nat → Prop} {w : World} {p : Pg.Pr} {a1 a2 : Option Addr} {k1 k2 : Nat} (h : PrC B w p a1 a2 k1 k2) :
    Calls Try.prog 25 #[.agg #[.slice a1 p.types.length k1, .slice a2 p.funcs.length k2]] w fun e w' => e = .returned (.bool p.may) ∧ w.grownBy w' none := by
  have hle := h.t.le
  have hmx := h.t.max
  have hle2 := h.f.le
  have hmx2 := h.f.max
  unfold maxLen at hmx hmx2
  obtain ⟨W1, hW1⟩ : ∃ W1, W1 = w.alloc (.cells #[.slice a1 p.types.length k1, .slice a2 p.funcs.length k2] 27) := ⟨_, rfl⟩
  have HW1 : Hid (W1 = w.alloc (.cells #[.slice a1 p.types.length k1, .slice a2 p.funcs.length k2] 27)) := hW1
  have g1 : w.grownBy W1 none := by rw [hW1]; exact World.grownBy_alloc _ _ _
  have HG1 : Hid (w.grownBy W1 none) := g1
  obtain ⟨PB, hPB⟩ : ∃ PB, PB = w.heap.size := ⟨_, rfl⟩
  have HPB : Hid (PB = w.heap.size) := hPB
  have HK : Hid (∀ W, W1.grownBy W none → ∀ j v, (#[.slice a1 p.types.length k1, .slice a2 p.funcs.length k2] : Array Value)[j]? = some v → W.cell? ⟨PB, j, none⟩ = some v) := fun W g j v hv => g.cell (by rw [hW1, hPB, ← hv]; exact cells_new _ _ rfl _) (by simp)
  have HL : Hid (∀ W, W1.grownBy W none → TpL B W a1 k1 p.types ∧ FnL B W a2 k2 p.funcs) := fun W g => ⟨TpL.grow h.t (grown_trans g1 g), FnL.grow h.f (grown_trans g1 g)⟩
  clear h g1 hW1 hPB
  go_enter Try.func25, Try.ntmps25
  go_wp2_with fail
  rw [← HW1.out, ← HPB.out]
  go_loopw [3] (fun ix wr => ∃ k : Nat, ix = .int .i64 k ∧ k ≤ p.types.length ∧ (p.types.take k).all Pg.Tp.may = true ∧ W1.grownBy wr none) (fun ix _ => p.types.length - (intOf ix).toNat)
  case atStart => exact ⟨0, rfl, Nat.zero_le _, rfl, World.grownBy.refl _ _⟩
  case round =>
    obtain ⟨k, rfl, hk, ha, hg⟩ := hrel
    have HA : Hid ((p.types.take k).all Pg.Tp.may = true) := ha
    have HG : Hid (W1.grownBy wr none) := hg
    have e0 := HK.out wr hg 0 _ rfl
    clear ha
    by_cases hkn : k < p.types.length
    case pos =>
      have hkn' : (k : Int) < p.types.length := by omega
      obtain ⟨b, o, rfl, _, hx⟩ := (HL.out wr hg).1.at hkn
      obtain ⟨z1, y1, he⟩ := hx
      have HT : Hid (p.types[k].may = true → (p.types.take (k + 1)).all Pg.Tp.may = true) := all_take_succ hkn HA.out
      have HF : Hid (p.types[k].may = false → p.types.all Pg.Tp.may = false) := all_false hkn
      have c0 := he.c0
      have c1 := he.c1
      have c2 := he.c2
      have c3 := he.c3
      have HD3 := oks8 he.f
      clear he hg HA
      generalize p.types[k] = x at *
      have HD3 : Hid (Calls Try.prog 50 #[.slice z1 x.fields.length y1] wr fun e w' => e = .returned (.bool (x.fields.all Pg.okB)) ∧ w' = wr) := HD3
      have HX : Hid (x.may = (Pg.okB x.kind && (Pg.okB x.elem && (Pg.okB x.n && (x.fields.all Pg.okB))))) := rfl
      cases hv0 : Pg.okB x.kind
      · have H0 : Hid (Pg.okB x.kind = false) := hv0
        have HO0 : Hid (Calls Try.prog 49 #[.int .i64 x.kind] wr fun e w' => e = .returned (.bool false) ∧ w' = wr) := ok8 hv0 wr
        clear hv0
        go_wp2_with (first
          | (go_at_call 49; refine HO0.out.mono ?_; rintro e w4 ⟨rfl, hw4⟩; rw [hw4]; clear hw4 w4 HO0))
        go_ret
        exact ⟨by rw [show p.may = false from by rw [Pg.Pr.may, HF.out (by rw [HX.out, H0.out]; rfl)]; simp]; rfl, grown_trans HG1.out (HG.out)⟩
      · have H0 : Hid (Pg.okB x.kind = true) := hv0
        have HO0 : Hid (Calls Try.prog 49 #[.int .i64 x.kind] wr fun e w' => e = .returned (.bool true) ∧ w' = wr) := ok8 hv0 wr
        clear hv0
        cases hv1 : Pg.okB x.elem
        · have H1 : Hid (Pg.okB x.elem = false) := hv1
          have HO1 : Hid (Calls Try.prog 49 #[.int .i64 x.elem] wr fun e w' => e = .returned (.bool false) ∧ w' = wr) := ok8 hv1 wr
          clear hv1
          go_wp2_with (first
            | (go_at_call 49; refine HO0.out.mono ?_; rintro e w4 ⟨rfl, hw4⟩; rw [hw4]; clear hw4 w4 HO0)
            | (go_at_call 49; refine HO1.out.mono ?_; rintro e w4 ⟨rfl, hw4⟩; rw [hw4]; clear hw4 w4 HO1))
          go_ret
          exact ⟨by rw [show p.may = false from by rw [Pg.Pr.may, HF.out (by rw [HX.out, H0.out, H1.out]; rfl)]; simp]; rfl, grown_trans HG1.out (HG.out)⟩
        · have H1 : Hid (Pg.okB x.elem = true) := hv1
          have HO1 : Hid (Calls Try.prog 49 #[.int .i64 x.elem] wr fun e w' => e = .returned (.bool true) ∧ w' = wr) := ok8 hv1 wr
          clear hv1
          cases hv2 : Pg.okB x.n
          · have H2 : Hid (Pg.okB x.n = false) := hv2
            have HO2 : Hid (Calls Try.prog 49 #[.int .i64 x.n] wr fun e w' => e = .returned (.bool false) ∧ w' = wr) := ok8 hv2 wr
            clear hv2
            go_wp2_with (first
              | (go_at_call 49; refine HO0.out.mono ?_; rintro e w4 ⟨rfl, hw4⟩; rw [hw4]; clear hw4 w4 HO0)
              | (go_at_call 49; refine HO1.out.mono ?_; rintro e w4 ⟨rfl, hw4⟩; rw [hw4]; clear hw4 w4 HO1)
              | (go_at_call 49; refine HO2.out.mono ?_; rintro e w4 ⟨rfl, hw4⟩; rw [hw4]; clear hw4 w4 HO2))
            go_ret
            exact ⟨by rw [show p.may = false from by rw [Pg.Pr.may, HF.out (by rw [HX.out, H0.out, H1.out, H2.out]; rfl)]; simp]; rfl, grown_trans HG1.out (HG.out)⟩
          · have H2 : Hid (Pg.okB x.n = true) := hv2
            have HO2 : Hid (Calls Try.prog 49 #[.int .i64 x.n] wr fun e w' => e = .returned (.bool true) ∧ w' = wr) := ok8 hv2 wr
            clear hv2
            cases hv3 : x.fields.all Pg.okB
            · have H3 : Hid (x.fields.all Pg.okB = false) := hv3
              rw [hv3] at HD3
              clear hv3
              go_wp2_with (first
                | (go_at_call 49; refine HO0.out.mono ?_; rintro e w4 ⟨rfl, hw4⟩; rw [hw4]; clear hw4 w4 HO0)
                | (go_at_call 49; refine HO1.out.mono ?_; rintro e w4 ⟨rfl, hw4⟩; rw [hw4]; clear hw4 w4 HO1)
                | (go_at_call 49; refine HO2.out.mono ?_; rintro e w4 ⟨rfl, hw4⟩; rw [hw4]; clear hw4 w4 HO2)
                | (go_at_call 50; refine HD3.out.mono ?_; rintro e w4 ⟨rfl, hw4⟩; rw [hw4]; clear hw4 w4 HD3))
              go_ret
              exact ⟨by rw [show p.may = false from by rw [Pg.Pr.may, HF.out (by rw [HX.out, H0.out, H1.out, H2.out, H3.out]; rfl)]; simp]; rfl, grown_trans HG1.out (HG.out)⟩
            · have H3 : Hid (x.fields.all Pg.okB = true) := hv3
              rw [hv3] at HD3
              clear hv3
              go_wp2_with (first
                | (go_at_call 49; refine HO0.out.mono ?_; rintro e w4 ⟨rfl, hw4⟩; rw [hw4]; clear hw4 w4 HO0)
                | (go_at_call 49; refine HO1.out.mono ?_; rintro e w4 ⟨rfl, hw4⟩; rw [hw4]; clear hw4 w4 HO1)
                | (go_at_call 49; refine HO2.out.mono ?_; rintro e w4 ⟨rfl, hw4⟩; rw [hw4]; clear hw4 w4 HO2)
                | (go_at_call 50; refine HD3.out.mono ?_; rintro e w4 ⟨rfl, hw4⟩; rw [hw4]; clear hw4 w4 HD3))
              go_roundw
              case rel => exact ⟨k + 1, by go_num, by omega, HT.out (by rw [HX.out, H0.out, H1.out, H2.out, H3.out]; rfl), HG.out⟩
              case measure => simp [intOf]; omega
    case neg =>
      obtain rfl : k = p.types.length := by omega
      have HAT : Hid (p.types.all Pg.Tp.may = true) := by
        have := HA.out
        rw [List.take_length] at this
        exact this
      have HG0 : Hid (W1.grownBy wr none) := hg
      clear hg HA HG
      go_wp2_with fail
      go_loopw [4] (fun ix wr => ∃ k : Nat, ix = .int .i64 k ∧ k ≤ p.funcs.length ∧ (p.funcs.take k).all Pg.Fn.may = true ∧ W1.grownBy wr none) (fun ix _ => p.funcs.length - (intOf ix).toNat)
      case atStart => exact ⟨0, rfl, Nat.zero_le _, rfl, HG0.out⟩
      case round =>
        obtain ⟨k, rfl, hk, ha, hg⟩ := hrel
        have HA : Hid ((p.funcs.take k).all Pg.Fn.may = true) := ha
        have HG : Hid (W1.grownBy wr none) := hg
        have e0 := HK.out wr hg 1 _ rfl
        clear ha
        by_cases hkn : k < p.funcs.length
        case pos =>
          have hkn' : (k : Int) < p.funcs.length := by omega
          obtain ⟨b, o, rfl, _, hx⟩ := (HL.out wr hg).2.at hkn
          obtain ⟨z1, z2, z3, y1, y2, y3, he⟩ := hx
          have HT : Hid (p.funcs[k].may = true → (p.funcs.take (k + 1)).all Pg.Fn.may = true) := all_take_succ hkn HA.out
          have HF : Hid (p.funcs[k].may = false → p.funcs.all Pg.Fn.may = false) := all_false hkn
          have c0 := he.c0
          have c1 := he.c1
          have c2 := he.c2
          have c3 := he.c3
          have HD1 := oks8 he.l
          have HD2 := oks8 he.r
          have HD3 := mayStmts_any p.funcs[k].body B wr z3 y3 he.b
          clear he hg HA
          generalize p.funcs[k] = x at *
          have HD1 : Hid (Calls Try.prog 50 #[.slice z1 x.locals.length y1] wr fun e w' => e = .returned (.bool (x.locals.all Pg.okB)) ∧ w' = wr) := HD1
          have HD2 : Hid (Calls Try.prog 50 #[.slice z2 x.results.length y2] wr fun e w' => e = .returned (.bool (x.results.all Pg.okB)) ∧ w' = wr) := HD2
          have HD3 : Hid (Calls Try.prog 51 #[.slice z3 x.body.length y3] wr fun e w' => e = .returned (.bool (x.body.all Pg.St.may)) ∧ wr.grownBy w' none) := HD3
          have HX : Hid (x.may = (Pg.okB x.params && (x.locals.all Pg.okB && (x.results.all Pg.okB && (x.body.all Pg.St.may))))) := rfl
          cases hv0 : Pg.okB x.params
          · have H0 : Hid (Pg.okB x.params = false) := hv0
            have HO0 : Hid (Calls Try.prog 49 #[.int .i64 x.params] wr fun e w' => e = .returned (.bool false) ∧ w' = wr) := ok8 hv0 wr
            clear hv0
            go_wp2_with (first
              | (go_at_call 49; refine HO0.out.mono ?_; rintro e w4 ⟨rfl, hw4⟩; rw [hw4]; clear hw4 w4 HO0))
            go_ret
            exact ⟨by rw [show p.may = false from by rw [Pg.Pr.may, HF.out (by rw [HX.out, H0.out]; rfl)]; simp]; rfl, grown_trans HG1.out (HG.out)⟩
          · have H0 : Hid (Pg.okB x.params = true) := hv0
            have HO0 : Hid (Calls Try.prog 49 #[.int .i64 x.params] wr fun e w' => e = .returned (.bool true) ∧ w' = wr) := ok8 hv0 wr
            clear hv0
            cases hv1 : x.locals.all Pg.okB
            · have H1 : Hid (x.locals.all Pg.okB = false) := hv1
              rw [hv1] at HD1
              clear hv1
              go_wp2_with (first
                | (go_at_call 49; refine HO0.out.mono ?_; rintro e w4 ⟨rfl, hw4⟩; rw [hw4]; clear hw4 w4 HO0)
                | (go_at_call 50; refine HD1.out.mono ?_; rintro e w4 ⟨rfl, hw4⟩; rw [hw4]; clear hw4 w4 HD1))
              go_ret
              exact ⟨by rw [show p.may = false from by rw [Pg.Pr.may, HF.out (by rw [HX.out, H0.out, H1.out]; rfl)]; simp]; rfl, grown_trans HG1.out (HG.out)⟩
            · have H1 : Hid (x.locals.all Pg.okB = true) := hv1
              rw [hv1] at HD1
              clear hv1
              cases hv2 : x.results.all Pg.okB
              · have H2 : Hid (x.results.all Pg.okB = false) := hv2
                rw [hv2] at HD2
                clear hv2
                go_wp2_with (first
                  | (go_at_call 49; refine HO0.out.mono ?_; rintro e w4 ⟨rfl, hw4⟩; rw [hw4]; clear hw4 w4 HO0)
                  | (go_at_call 50; refine HD1.out.mono ?_; rintro e w4 ⟨rfl, hw4⟩; rw [hw4]; clear hw4 w4 HD1)
                  | (go_at_call 50; refine HD2.out.mono ?_; rintro e w4 ⟨rfl, hw4⟩; rw [hw4]; clear hw4 w4 HD2))
                go_ret
                exact ⟨by rw [show p.may = false from by rw [Pg.Pr.may, HF.out (by rw [HX.out, H0.out, H1.out, H2.out]; rfl)]; simp]; rfl, grown_trans HG1.out (HG.out)⟩
              · have H2 : Hid (x.results.all Pg.okB = true) := hv2
                rw [hv2] at HD2
                clear hv2
                cases hv3 : x.body.all Pg.St.may
                · have H3 : Hid (x.body.all Pg.St.may = false) := hv3
                  rw [hv3] at HD3
                  clear hv3
                  go_wp2_with (first
                    | (go_at_call 49; refine HO0.out.mono ?_; rintro e w4 ⟨rfl, hw4⟩; rw [hw4]; clear hw4 w4 HO0)
                    | (go_at_call 50; refine HD1.out.mono ?_; rintro e w4 ⟨rfl, hw4⟩; rw [hw4]; clear hw4 w4 HD1)
                    | (go_at_call 50; refine HD2.out.mono ?_; rintro e w4 ⟨rfl, hw4⟩; rw [hw4]; clear hw4 w4 HD2)
                    | (go_at_call 51; refine HD3.out.mono ?_; rintro e w5 ⟨rfl, hg5⟩; have G5 : Hid (wr.grownBy w5 none) := hg5; clear hg5 HD3))
                  go_ret
                  exact ⟨by rw [show p.may = false from by rw [Pg.Pr.may, HF.out (by rw [HX.out, H0.out, H1.out, H2.out, H3.out]; rfl)]; simp]; rfl, grown_trans HG1.out (grown_trans HG.out G5.out)⟩
                · have H3 : Hid (x.body.all Pg.St.may = true) := hv3
                  rw [hv3] at HD3
                  clear hv3
                  go_wp2_with (first
                    | (go_at_call 49; refine HO0.out.mono ?_; rintro e w4 ⟨rfl, hw4⟩; rw [hw4]; clear hw4 w4 HO0)
                    | (go_at_call 50; refine HD1.out.mono ?_; rintro e w4 ⟨rfl, hw4⟩; rw [hw4]; clear hw4 w4 HD1)
                    | (go_at_call 50; refine HD2.out.mono ?_; rintro e w4 ⟨rfl, hw4⟩; rw [hw4]; clear hw4 w4 HD2)
                    | (go_at_call 51; refine HD3.out.mono ?_; rintro e w5 ⟨rfl, hg5⟩; have G5 : Hid (wr.grownBy w5 none) := hg5; clear hg5 HD3))
                  go_roundw
                  case rel => exact ⟨k + 1, by go_num, by omega, HT.out (by rw [HX.out, H0.out, H1.out, H2.out, H3.out]; rfl), grown_trans HG.out G5.out⟩
                  case measure => simp [intOf]; omega
        case neg =>
          obtain rfl : k = p.funcs.length := by omega
          clear hg
          go_wp2
          go_ret
          have := HA.out
          rw [List.take_length] at this
          exact ⟨by rw [show p.may = true from by rw [Pg.Pr.may, HAT.out, this]; rfl]; rfl, grown_trans HG1.out HG.out⟩
end Go.Proofs.Ytljdjkiejppenaa
