/- CiscDecodes: the walk. -/
import Derived.Test.YtbghjlamedlchaaDoorCeBack
import Derived.Test.YtbghjlamedlchaaDoorCfDec
namespace Go.Proofs.YtbghjlamedlchaaDoor
open Go.RowKit
set_option linter.unusedVariables false

set_option maxRecDepth 100000 in
set_option maxHeartbeats 8000000 in
theorem ciscDecodes_walk (a0 : Option Addr) (len cap : Nat) (V : Nat → RowV) (w : World) (hT : TabAt w) (hop : IsRowsB w a0 len cap V) :
    Calls Tryd.prog 4 #[.slice a0 len cap] w fun e w' => e = .returned (.bool true) ∧ Below w.heap.size w w' := by
  obtain ⟨hlc, hcm, hop⟩ := hop
  have hcap : (len : Int) ≤ 9223372036854775807 := by unfold maxLen at hcm; omega
  have HO : Hid (len = 0 ∨ ∃ b off, a0 = some ⟨b, off, none⟩ ∧ b < w.heap.size ∧ ∀ i, i < len → w.cell? ⟨b, off + i, none⟩ = some (.slice (V i).ao (V i).n (V i).cap) ∧ BsIn w (V i).ao (V i).n (V i).cap (V i).g) := hop
  have HT : Hid (TabAt w) := hT
  clear hop hcm hlc hT
  go_enter Tryd.func4, Tryd.ntmps4
  go_wp2
  go_loopw [3] (fun s wr => ∃ i : Nat, s = .int .i64 i ∧ i ≤ 100 ∧ Below w.heap.size w wr) (fun s _ => 100 - (intOf s).toNat)
  case atStart => exact ⟨0, rfl, by omega, Below.refl _ _⟩
  case round =>
    obtain ⟨i, rfl, hi, hbel⟩ := hrel
    have HT2 : Hid (TabAt wr) := HT.out.below hbel rfl
    by_cases hlt : i < len
    · by_cases h100 : (i : Int) < 100
      · rcases HO.out with h0 | ⟨b, off, rfl, hbb, HV⟩
        · omega
        obtain ⟨o1, f1⟩ := HV i hlt
        have c0 : wr.cell? ⟨b, off + i, none⟩ = some (.slice (V i).ao (V i).n (V i).cap) := (hbel.cell (p := ⟨b, off + i, none⟩) hbb).trans o1
        have HB : Hid (BsIn wr (V i).ao (V i).n (V i).cap (V i).g) := f1.below hbel rfl
        clear o1 f1 HV HO
        generalize V i = v at *
        obtain ⟨ao, n, cp, g⟩ := v
        dsimp only at c0 HB
        by_cases h4 : (4000 : Int) < n
        · go_wp2
          go_ret
          exact ⟨rfl, hbel⟩
        · have h4' : (n : Int) ≤ 4000 := by omega
          go_wp2_with (go_at_call 14; refine (copyB n cp ao g _ (by omega) HB.out.nil HB.out.bs).mono ?_; rintro e w4 ⟨x4, rfl, ho4, hg4⟩; obtain ⟨a4, c4, rfl, _, hc4, _, hb4⟩ := ho4.shape)
          obtain ⟨a4', c4', e4, hin⟩ := ho4.bsIn HB.out.fit
          obtain ⟨rfl, rfl⟩ : a4 = a4' ∧ c4 = c4' := by injection e4 with h1 h2 h3; exact ⟨h1, h3⟩
          clear e4
          have hC := cdecode_any hin
          have HR : Hid (∀ W, wr.grownBy W none → Calls Tryd.prog 16 #[.slice ao n cp] W fun e w' => e = .returned (.tuple #[.agg #[.int .i64 (Cc.dec n g).1.op, .int .i64 (Cc.dec n g).1.a, .int .i64 (Cc.dec n g).1.b, .int .i64 (Cc.dec n g).1.c, .int .i64 (Cc.dec n g).1.k, .int .i64 (Cc.dec n g).1.sub, .int .i64 (Cc.dec n g).1.scale, .int .i64 (Cc.dec n g).1.imm, .int .i64 (Cc.dec n g).1.label], .int .i64 (Cc.dec n g).2.1, .int .i64 (Cc.dec n g).2.2]) ∧ W.grownBy w' none) := fun W hW => rdecode4_any (HB.out.kept hW) h4'
          generalize Cc.dec n g = D at *
          obtain ⟨X, T, E⟩ := D
          dsimp only at hC HR
          refine hC.mono ?_
          clear hC
          rintro e w5 ⟨rfl, hg5⟩
          have G5 := grown_trans (grown_trans hg4 hg5) (World.grownBy_alloc w5 (Obj.cells #[.int .i64 X.op, .int .i64 X.a, .int .i64 X.b, .int .i64 X.c, .int .i64 X.k, .int .i64 X.sub, .int .i64 X.scale, .int .i64 X.imm, .int .i64 X.label] 28) none)
          have c5 := G5.cell c0 (by simp)
          go_wp2_with fail
          refine (HR.out _ G5).mono ?_
          rintro e w6 ⟨rfl, hg6⟩
          have G7 := grown_trans (grown_trans G5 hg6) (World.grownBy_alloc w6 (Obj.cells #[.int .i64 X.op, .int .i64 X.a, .int .i64 X.b, .int .i64 X.c, .int .i64 X.k, .int .i64 X.sub, .int .i64 X.scale, .int .i64 X.imm, .int .i64 X.label] 28) none)
          have c7 := G7.cell c0 (by simp)
          have IX := (((InstAt.new w5 X).kept hg6 (by simp)).kept (World.grownBy_alloc w6 (Obj.cells #[.int .i64 X.op, .int .i64 X.a, .int .i64 X.b, .int .i64 X.c, .int .i64 X.k, .int .i64 X.sub, .int .i64 X.scale, .int .i64 X.imm, .int .i64 X.label] 28) none) (by simp))
          have IY := InstAt.new w6 X
          have B4 : Hid (Bs (w6.alloc (Obj.cells #[.int .i64 X.op, .int .i64 X.a, .int .i64 X.b, .int .i64 X.c, .int .i64 X.k, .int .i64 X.sub, .int .i64 X.scale, .int .i64 X.imm, .int .i64 X.label] 28)) a4 n g) := hb4.kept (grown_trans (grown_trans hg5 (World.grownBy_alloc w5 (Obj.cells #[.int .i64 X.op, .int .i64 X.a, .int .i64 X.b, .int .i64 X.c, .int .i64 X.k, .int .i64 X.sub, .int .i64 X.scale, .int .i64 X.imm, .int .i64 X.label] 28) none)) (grown_trans hg6 (World.grownBy_alloc w6 (Obj.cells #[.int .i64 X.op, .int .i64 X.a, .int .i64 X.b, .int .i64 X.c, .int .i64 X.k, .int .i64 X.sub, .int .i64 X.scale, .int .i64 X.imm, .int .i64 X.label] 28) none)))
          have B0 : Hid (Bs (w6.alloc (Obj.cells #[.int .i64 X.op, .int .i64 X.a, .int .i64 X.b, .int .i64 X.c, .int .i64 X.k, .int .i64 X.sub, .int .i64 X.scale, .int .i64 X.imm, .int .i64 X.label] 28)) ao n g) := HB.out.bs.kept G7
          go_wp2_with fail
          generalize w6.alloc (Obj.cells #[.int .i64 X.op, .int .i64 X.a, .int .i64 X.b, .int .i64 X.c, .int .i64 X.k, .int .i64 X.sub, .int .i64 X.scale, .int .i64 X.imm, .int .i64 X.label] 28) = W7 at *
          obtain ⟨x0, x1, x2, x3, x4, x5, x6, x7, x8, xz⟩ := IX
          obtain ⟨y0, y1, y2, y3, y4, y5, y6, y7, y8, yz⟩ := IY
          go_wp2_with (first
            | (go_at_call 9; refine (cnum_any _ _).mono ?_; rintro e w8 ⟨rfl, rfl⟩)
            | (go_at_call 10; refine (eqB n c4 cp a4 ao g g _ (by omega) B4.out B0.out (fun _ _ => rfl)).mono ?_; rintro e w9 ⟨rfl, d, rfl⟩))
          go_roundw
          case rel => exact ⟨i + 1, by go_num, by omega, hbel.grown (grown_drewN G7 d) hbel.size (by simp)⟩
          case measure => simp [intOf]; omega
      · clear HO
        go_wp2_with (go_at_call 13; refine (cwakes_any _ HT2.out).mono ?_; rintro e w7 ⟨rfl, hg7⟩)
        go_ret
        exact ⟨rfl, hbel.grown hg7 hbel.size (by simp)⟩
    · clear HO
      go_wp2_with (go_at_call 13; refine (cwakes_any _ HT2.out).mono ?_; rintro e w7 ⟨rfl, hg7⟩)
      go_ret
      exact ⟨rfl, hbel.grown hg7 hbel.size (by simp)⟩

end Go.Proofs.YtbghjlamedlchaaDoor
