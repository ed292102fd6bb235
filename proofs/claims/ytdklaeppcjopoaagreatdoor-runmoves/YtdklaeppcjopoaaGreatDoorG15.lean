/- Contracts and plain facts that the walks share, text by text: RuMv, CeTab. -/
import Derived.Test.YtdklaeppcjopoaaGreatDoorG14
import Derived.Test.YtdklaeppcjopoaaGreatDoorRows
import Derived.Test.YtdklaeppcjopoaaGreatDoorG2
import Derived.Deep.DeepCutAuto
import Derived.LaidMore
import Derived.Lib.LaidTab
import Derived.Stop.Joined
import Derived.Stop.LaidErr
/- RunMoves: constants, moves, words laid and taken. -/
namespace Go.Proofs.YtdklaeppcjopoaaGreatDoor
open Go.RowKit
set_option linter.unusedVariables false

theorem i1_rng {z y : Int} (h : z = wrap64 (wrap32 y)) : -2147483648 ≤ z ∧ z < 2147483648 := by
  unfold wrap64 wrap32 at h
  omega
theorem j1_rng {z y : Int} (h : z = wrap64 y) : -9223372036854775808 ≤ z ∧ z ≤ 9223372036854775807 := by
  unfold wrap64 at h
  omega
theorem big_sum {y i1 i2 : Int} (y1 : 0 ≤ y) (y2 : y < 18446744073709551616) (h1 : i1 = wrap64 (wrap32 y)) (h2 : i2 = wrap64 (wrap32 (y / 4294967296))) : Ru.wr i1 % 4294967296 + i2 % 4294967296 * 4294967296 = y := by
  unfold wrap64 wrap32 at h1 h2
  unfold Ru.wr
  omega
theorem big_one {y i1 : Int} (y1 : 0 ≤ y) (y2 : y < 18446744073709551616) (h1 : i1 = wrap64 y) : Ru.wr i1 = y := by
  unfold wrap64 at h1
  unfold Ru.wr
  omega
set_option maxRecDepth 100000 in
set_option maxHeartbeats 2500000 in
theorem runMoves_walk (a : Option Addr) (len cap : Nat) (V : Nat → O6) (w : World) (hT : TabAt w) (hl : IsO6 w a len cap V) :
    Calls Tryz.prog 5 #[.slice a len cap] w fun e w' => e = .returned (.bool true) ∧ Below w.heap.size w w' := by
  have HW : Hid (∀ W, Calls Tryz.prog 14 #[] W fun r w' => r = .returned (.bool true) ∧ W.grownBy w' none) := wakes5_any
  obtain ⟨hl1, hl2, hl3⟩ := hl
  have hlen : (len : Int) ≤ 9223372036854775807 := by
    have : maxLen ≤ 9223372036854775807 := by decide
    omega
  rcases hl3 with h0 | ⟨b, off, rfl, hlt, hV⟩
  · subst h0
    go_enter Tryz.func5, Tryz.ntmps5
    go_wp2_with fail
    refine wp_loop_once ?_
    go_wp2_with (go_at_call 14; refine (HW.out _).mono ?_; rintro r w1 ⟨rfl, g1⟩)
    go_ret
    exact ⟨rfl, below6 g1⟩
  · have HV : Hid (∀ i, i < len → O6At w b (off + i * 6) (V i)) := hV
    have HTb : Hid (TabAt w) := hT
    clear hV hT
    go_enter Tryz.func5, Tryz.ntmps5
    go_wp2_with fail
    go_loopw [3] (fun i wr => ∃ k : Nat, i = .int .i64 k ∧ k ≤ len ∧ k ≤ 40 ∧ w.grownBy wr none) (fun i _ => len - (intOf i).toNat)
    case atStart => exact ⟨0, rfl, Nat.zero_le _, Nat.zero_le _, World.grownBy.refl _ _⟩
    case round =>
      obtain ⟨k, rfl, hk, hk6, gr⟩ := hrel
      have HG0 : Hid (w.grownBy wr none) := gr
      by_cases hkl : k < len
      · have hkl' : (k : Int) < len := by omega
        by_cases h6 : k < 40
        · have h6' : (k : Int) < 40 := by omega
          have HA := (HV.out k hkl).kept gr
          obtain ⟨v, hv⟩ : ∃ v, V k = v := ⟨_, rfl⟩
          rw [hv] at HA
          obtain ⟨c0, c1, c2, c3, c4, c5, x1, x2, y1, y2⟩ := HA
          have AR : Hid (O6R (wr.alloc (Obj.cells #[.int .i64 v.op, .int .i64 v.k, .int .i64 v.tk, .int .u64 v.x, .int .u64 v.y, .int .i64 v.t] 25)) wr.heap.size v) := O6R.new wr v
          have G1 : Hid (w.grownBy (wr.alloc (Obj.cells #[.int .i64 v.op, .int .i64 v.k, .int .i64 v.tk, .int .u64 v.x, .int .u64 v.y, .int .i64 v.t] 25)) none) := grown_trans HG0.out (World.grownBy_alloc _ _ _)
          clear hv gr
          cases hb : Wd.wordB v.k
          · go_wp2_with (go_at_call 15; refine (rword_any _ _).mono ?_; rw [hb]; rintro r wn ⟨rfl, hwn⟩; rw [hwn]; clear hwn wn)
            go_roundw
            case rel => exact ⟨k + 1, by go_num, by omega, by omega, G1.out⟩
            case measure => simp [intOf]; omega
          · have HB : Hid (Wd.wordB v.k = true) := hb
            rcases within2 v.t with HWi | HWi
            · skip
              go_wp2_with (first
                | (go_at_call 15; refine (rword_any _ _).mono ?_; rw [hb]; rintro r wn ⟨rfl, hwn⟩; rw [hwn]; clear hwn wn)
                | (go_at_call 10; refine (HWi _).mono ?_; rintro r wn ⟨rfl, hwn⟩; rw [hwn]; clear hwn wn))
              clear c0 c1 c2 c3 c4 c5 hb
              have HX : Hid (Ru.W64 v.x) := ⟨x1, x2⟩
              have HY : Hid (Ru.W64 v.y) := ⟨y1, y2⟩
              have HL20 : Hid ((Ru.movesL v.k).length ≤ 20) := by show _ ≤ 20; unfold Ru.movesL; simp
              have HG : Hid (Ru.Good 1 (Ru.movesL v.k)) := Ru.moves_good (by decide) HB.out
              have HEnd : Hid (Ru.Ends (Ru.it (Ru.pgI 1 (Ru.movesL v.k)) 100 (Ru.pg0 v.x v.y)) (Wd.canon v.k v.x)) := Ru.moves_end (t := 1) (by decide) v.x v.y HB.out
              have OI : Hid (OwnI ((wr.alloc (Obj.cells #[.int .i64 v.op, .int .i64 v.k, .int .i64 v.tk, .int .u64 v.x, .int .u64 v.y, .int .i64 v.t] 25)).alloc (Obj.cells #[.int .i64 1, .int .i64 2, .int .i64 0, .int .i64 0, .int .i64 0, .int .i64 0, .int .i64 0, .int .i64 64, .int .i64 0, .int .i64 26, .int .i64 3, .int .i64 2, .int .i64 0, .int .i64 0, .int .i64 0, .int .i64 0, .int .i64 0, .int .i64 0, .int .i64 13, .int .i64 0, .int .i64 3, .int .i64 0, .int .i64 v.k, .int .i64 0, .int .i64 0, .int .i64 16, .int .i64 0, .int .i64 11, .int .i64 4, .int .i64 3, .int .i64 0, .int .i64 v.k, .int .i64 0, .int .i64 0, .int .i64 16, .int .i64 0] 34)) 0 (.slice (some ⟨wr.heap.size + 1, 0, none⟩) 4 4) [⟨1, 2, 0, 0, 0, 0, 0, 64, 0⟩, ⟨26, 3, 2, 0, 0, 0, 0, 0, 0⟩, ⟨13, 0, 3, 0, v.k, 0, 0, 16, 0⟩, ⟨11, 4, 3, 0, v.k, 0, 0, 16, 0⟩]) := by
                have h := OwnI.lit (wr.alloc (Obj.cells #[.int .i64 v.op, .int .i64 v.k, .int .i64 v.tk, .int .u64 v.x, .int .u64 v.y, .int .i64 v.t] 25)) 0 [⟨1, 2, 0, 0, 0, 0, 0, 64, 0⟩, ⟨26, 3, 2, 0, 0, 0, 0, 0, 0⟩, ⟨13, 0, 3, 0, v.k, 0, 0, 16, 0⟩, ⟨11, 4, 3, 0, v.k, 0, 0, 16, 0⟩] _ rfl (Nat.zero_le _) (by simp)
                have e : (wr.alloc (Obj.cells #[.int .i64 v.op, .int .i64 v.k, .int .i64 v.tk, .int .u64 v.x, .int .u64 v.y, .int .i64 v.t] 25)).heap.size = wr.heap.size + 1 := by simp
                rw [e] at h
                exact h
              have AR3 : Hid (O6R ((wr.alloc (Obj.cells #[.int .i64 v.op, .int .i64 v.k, .int .i64 v.tk, .int .u64 v.x, .int .u64 v.y, .int .i64 v.t] 25)).alloc (Obj.cells #[.int .i64 1, .int .i64 2, .int .i64 0, .int .i64 0, .int .i64 0, .int .i64 0, .int .i64 0, .int .i64 64, .int .i64 0, .int .i64 26, .int .i64 3, .int .i64 2, .int .i64 0, .int .i64 0, .int .i64 0, .int .i64 0, .int .i64 0, .int .i64 0, .int .i64 13, .int .i64 0, .int .i64 3, .int .i64 0, .int .i64 v.k, .int .i64 0, .int .i64 0, .int .i64 16, .int .i64 0, .int .i64 11, .int .i64 4, .int .i64 3, .int .i64 0, .int .i64 v.k, .int .i64 0, .int .i64 0, .int .i64 16, .int .i64 0] 34)) wr.heap.size v) := AR.out.kept (World.grownBy_alloc _ _ _)
              have G3 : Hid (w.grownBy ((wr.alloc (Obj.cells #[.int .i64 v.op, .int .i64 v.k, .int .i64 v.tk, .int .u64 v.x, .int .u64 v.y, .int .i64 v.t] 25)).alloc (Obj.cells #[.int .i64 1, .int .i64 2, .int .i64 0, .int .i64 0, .int .i64 0, .int .i64 0, .int .i64 0, .int .i64 64, .int .i64 0, .int .i64 26, .int .i64 3, .int .i64 2, .int .i64 0, .int .i64 0, .int .i64 0, .int .i64 0, .int .i64 0, .int .i64 0, .int .i64 13, .int .i64 0, .int .i64 3, .int .i64 0, .int .i64 v.k, .int .i64 0, .int .i64 0, .int .i64 16, .int .i64 0, .int .i64 11, .int .i64 4, .int .i64 3, .int .i64 0, .int .i64 v.k, .int .i64 0, .int .i64 0, .int .i64 16, .int .i64 0] 34)) none) := grown_trans G1.out (World.grownBy_alloc _ _ _)
              clear AR G1
              generalize ((wr.alloc (Obj.cells #[.int .i64 v.op, .int .i64 v.k, .int .i64 v.tk, .int .u64 v.x, .int .u64 v.y, .int .i64 v.t] 25)).alloc (Obj.cells #[.int .i64 1, .int .i64 2, .int .i64 0, .int .i64 0, .int .i64 0, .int .i64 0, .int .i64 0, .int .i64 64, .int .i64 0, .int .i64 26, .int .i64 3, .int .i64 2, .int .i64 0, .int .i64 0, .int .i64 0, .int .i64 0, .int .i64 0, .int .i64 0, .int .i64 13, .int .i64 0, .int .i64 3, .int .i64 0, .int .i64 v.k, .int .i64 0, .int .i64 0, .int .i64 16, .int .i64 0, .int .i64 11, .int .i64 4, .int .i64 3, .int .i64 0, .int .i64 v.k, .int .i64 0, .int .i64 0, .int .i64 16, .int .i64 0] 34)) = w3 at *
              obtain ⟨T1, hT1⟩ : ∃ T1, T1 = wr.heap.size + 1 := ⟨_, rfl⟩
              rw [← hT1] at OI ⊢
              clear hT1
              obtain ⟨b1, hb1⟩ : ∃ b1, b1 = wr.heap.size := ⟨_, rfl⟩
              rw [← hb1] at AR3 ⊢
              clear hb1
              have AR := AR3
              have G1 := G3
              clear AR3 G3
              have HTw : Hid (TabAt w3) := HTb.out.kept G1.out (by simp)
              go_cut [7, 8] (fun p e wx => ∃ N ao cp C, p = .pointer (some ⟨N, 0, none⟩) ∧ e = .bool true ∧ ResAt (Ru.it (Ru.pgI 1 (Ru.movesL v.k)) 100 (Ru.pg0 v.x v.y)) N ao cp C wx ∧ w3.grownBy wx none)
              case first =>
                refine region_late 13 11 _ _ _ (psiR 1 T1 4 b1 v.x v.y (Ru.movesL v.k) (Ru.it (Ru.pgI 1 (Ru.movesL v.k)) 100 (Ru.pg0 v.x v.y)) 4 w3.heap.size) (by kernel_rfl) (by kernel_rfl) rfl rfl rfl (by kernel_rfl) (by kernel_rfl) (fun i x w0 w1 hi h g => psiR_stable h g) ?_ ?_ ?_
                · simp only [List.take_succ_cons, List.take_zero]
                  refine ⟨?_, ?_, ?_, ?_, ?_, ?_, ?_, ?_, ?_, ?_, ?_, ?_, ?_, trivial⟩
                  · intro V W0 A g hV hs h0
                    have e05 := h0 5 (.int .i64 1) (by kernel_rfl) rfl
                    clear hV hs h0
                    refine outO_val (v := .int .i64 1) (w' := W0) ?_ (World.grownBy.refl _ _) rfl
                    simp [go_sem, e05]
                  · intro V W0 A g hV hs h0
                    have e06 := h0 6 (.slice (some ⟨T1, 0, none⟩) 4 4) (by kernel_rfl) rfl
                    clear hV hs h0
                    refine outO_val (v := .slice (some ⟨T1, 0, none⟩) 4 4) (w' := W0) ?_ (World.grownBy.refl _ _) rfl
                    simp [go_sem, e06]
                  · intro V W0 A g hV hs h0
                    clear hV hs h0
                    refine outO_call (f := 12) ?_ (call_emit (by have := g.size; exact this))
                    simp [go_sem]
                  · intro V W0 A g hV hs h0
                    have gD := grown_trans (grown_drew (World.grownBy.refl _ none)) g
                    have hA := AR.out.kept gD
                    have h1 : V 1 = _ := hV 1 (by kernel_rfl)
                    obtain ⟨T2, h2, i2⟩ := hV 2 (by kernel_rfl)
                    have e1 := hs 45 1 (by kernel_rfl) (by kernel_rfl)
                    have e2 := hs 46 2 (by kernel_rfl) (by kernel_rfl)
                    clear hV hs h0
                    rw [h2] at i2
                    obtain ⟨v', w', er, o3, g3⟩ := run_appI (OI.out.grow gD) i2 rfl rfl (by decide) (by decide)
                    obtain ⟨ao3, c3, rfl, _, hz3⟩ := o3.slice
                    obtain ⟨T3, rfl, _⟩ := hz3 (by simp)
                    exact outO_app _ _ _ rfl ((eval_of e1).trans h1) ((eval_of e2).trans h2) er g3 ⟨T3, c3, rfl, World.ownsRow.mono o3 (by have := g.size; exact this)⟩
                  · intro V W0 A g hV hs h0
                    have e04 := h0 4 (.pointer (some ⟨b1, 0, none⟩)) (by kernel_rfl) rfl
                    clear hV hs h0
                    refine outO_val (v := .pointer (some ⟨b1, 3, none⟩)) (w' := W0) ?_ (World.grownBy.refl _ _) rfl
                    simp [go_sem, e04]
                  · intro V W0 A g hV hs h0
                    have gD := grown_trans (grown_drew (World.grownBy.refl _ none)) g
                    have hA := AR.out.kept gD
                    have h4 : V 4 = _ := hV 4 (by kernel_rfl)
                    have e4 := hs 48 4 (by kernel_rfl) (by kernel_rfl)
                    clear hV hs h0
                    refine outO_val (v := .int .u64 v.x) (w' := W0) ?_ (World.grownBy.refl _ _) rfl
                    simp [go_sem, e4, h4, hA.p3]
                  · intro V W0 A g hV hs h0
                    have e04 := h0 4 (.pointer (some ⟨b1, 0, none⟩)) (by kernel_rfl) rfl
                    clear hV hs h0
                    refine outO_val (v := .pointer (some ⟨b1, 4, none⟩)) (w' := W0) ?_ (World.grownBy.refl _ _) rfl
                    simp [go_sem, e04]
                  · intro V W0 A g hV hs h0
                    have gD := grown_trans (grown_drew (World.grownBy.refl _ none)) g
                    have hA := AR.out.kept gD
                    have h6 : V 6 = _ := hV 6 (by kernel_rfl)
                    have e6 := hs 50 6 (by kernel_rfl) (by kernel_rfl)
                    clear hV hs h0
                    refine outO_val (v := .int .u64 v.y) (w' := W0) ?_ (World.grownBy.refl _ _) rfl
                    simp [go_sem, e6, h6, hA.p4]
                  · intro V W0 A g hV hs h0
                    have gD := grown_trans (grown_drew (World.grownBy.refl _ none)) g
                    have hA := AR.out.kept gD
                    have h00 : V 0 = _ := hV 0 (by kernel_rfl)
                    obtain ⟨T3, c3, h3, i3⟩ := hV 3 (by kernel_rfl)
                    have h5 : V 5 = _ := hV 5 (by kernel_rfl)
                    have h7 : V 7 = _ := hV 7 (by kernel_rfl)
                    have e0 := hs 44 0 (by kernel_rfl) (by kernel_rfl)
                    have e3 := hs 47 3 (by kernel_rfl) (by kernel_rfl)
                    have e5 := hs 49 5 (by kernel_rfl) (by kernel_rfl)
                    have e7 := hs 51 7 (by kernel_rfl) (by kernel_rfl)
                    clear hV hs h0
                    rw [h3] at i3
                    refine outO_call (f := 11) ?_ (call_ran (by decide) HX.out HY.out (HTw.out.kept gD (by simp)) HL20.out i3 HG.out)
                    simp [go_sem, e0, e3, e5, e7, h00, h3, h5, h7]
                  · intro V W0 A g hV hs h0
                    obtain ⟨r, h8, i8⟩ := hV 8 (by kernel_rfl)
                    have e8 := hs 52 8 (by kernel_rfl) (by kernel_rfl)
                    clear hV hs h0
                    exact outO_val (v := V 8) (w' := W0) (by simp [go_sem, e8]) (World.grownBy.refl _ _) ⟨r, h8, i8⟩
                  · intro V W0 A g hV hs h0
                    obtain ⟨r, h9, i9⟩ := hV 9 (by kernel_rfl)
                    have e9 := hs 43 9 (by kernel_rfl) (by kernel_rfl)
                    clear hV hs h0
                    refine outO_val (v := r) (w' := W0) ?_ (World.grownBy.refl _ _) i9
                    simp [go_sem, e9, h9]
                  · intro V W0 A g hV hs h0
                    obtain ⟨r, h9, i9⟩ := hV 9 (by kernel_rfl)
                    have e9 := hs 43 9 (by kernel_rfl) (by kernel_rfl)
                    clear hV hs h0
                    refine outO_val (v := .bool true) (w' := W0) ?_ (World.grownBy.refl _ _) rfl
                    simp [go_sem, e9, h9]
                  · intro V W0 A g hV hs h0
                    clear hV hs h0
                    refine outO_val (v := .pointer (some ⟨W0.heap.size, 0, none⟩)) (w' := W0.alloc (Obj.cells #[.slice none 0 0, .slice none 0 0, .int .i64 0, .int .i64 0, .int .i64 0] 38)) ?_ (World.grownBy_alloc _ _ _) ⟨W0.heap.size, rfl, row5_new _ _ _ _ _ _ _, by have := g.size; exact this⟩
                    simp [go_sem]
                · intro V W0 g hV
                  have h0 : V 0 = _ := hV 0 (by decide)
                  have h1 : V 1 = _ := hV 1 (by decide)
                  have h4 : V 4 = _ := hV 4 (by decide)
                  have h5 : V 5 = _ := hV 5 (by decide)
                  have h6 : V 6 = _ := hV 6 (by decide)
                  have h7 : V 7 = _ := hV 7 (by decide)
                  obtain ⟨T2, h2, _⟩ := hV 2 (by decide)
                  obtain ⟨T3, c3, h3, _⟩ := hV 3 (by decide)
                  obtain ⟨r8, h8, _⟩ := hV 8 (by decide)
                  obtain ⟨r9, h9, _⟩ := hV 9 (by decide)
                  obtain ⟨ao, cp, C, h10, hrw⟩ := hV 10 (by decide)
                  have h11 : V 11 = _ := hV 11 (by decide)
                  obtain ⟨N, h12, hrow, hN⟩ := hV 12 (by decide)
                  have HR2 : Hid (W0.rowIs N 38 5 (row5 (.slice none 0 0) (.slice none 0 0) (.int .i64 0) (.int .i64 0) (.int .i64 0))) := hrow
                  have HRW : Hid (RwIn .u64 W0 ao (Ru.it (Ru.pgI 1 (Ru.movesL v.k)) 100 (Ru.pg0 v.x v.y)).out.length cp (fun i => (Ru.it (Ru.pgI 1 (Ru.movesL v.k)) 100 (Ru.pg0 v.x v.y)).out.getD i 0)) := hrw
                  obtain ⟨z0, z1, z2, z3, z4, zz⟩ := rowIs_five hrow
                  simp [frV, dstOf, Act.put, h0, h1, h2, h3, h4, h5, h6, h7, h8, h9, h10, h11, h12]
                  clear h0 h1 h2 h3 h4 h5 h6 h7 h8 h9 h10 h11 h12 hV hrow hrw
                  have GR : Hid (∀ C : Int, ResAt (Ru.it (Ru.pgI 1 (Ru.movesL v.k)) 100 (Ru.pg0 v.x v.y)) N ao cp C (put5 W0 N (.slice ao (Ru.it (Ru.pgI 1 (Ru.movesL v.k)) 100 (Ru.pg0 v.x v.y)).out.length cp) (.slice none 0 0) (.int .i64 (if (Ru.it (Ru.pgI 1 (Ru.movesL v.k)) 100 (Ru.pg0 v.x v.y)).e = 0 then 3 else (Ru.it (Ru.pgI 1 (Ru.movesL v.k)) 100 (Ru.pg0 v.x v.y)).e)) (.int .i64 (Ru.it (Ru.pgI 1 (Ru.movesL v.k)) 100 (Ru.pg0 v.x v.y)).n) (.int .i64 C)) ∧ w3.grownBy (put5 W0 N (.slice ao (Ru.it (Ru.pgI 1 (Ru.movesL v.k)) 100 (Ru.pg0 v.x v.y)).out.length cp) (.slice none 0 0) (.int .i64 (if (Ru.it (Ru.pgI 1 (Ru.movesL v.k)) 100 (Ru.pg0 v.x v.y)).e = 0 then 3 else (Ru.it (Ru.pgI 1 (Ru.movesL v.k)) 100 (Ru.pg0 v.x v.y)).e)) (.int .i64 (Ru.it (Ru.pgI 1 (Ru.movesL v.k)) 100 (Ru.pg0 v.x v.y)).n) (.int .i64 C)) none) := fun C => res_put6 (grown_trans (grown_drew (World.grownBy.refl _ none)) g) hN HR2.out HRW.out
                  clear HRW
                  generalize (if (Ru.it (Ru.pgI 1 (Ru.movesL v.k)) 100 (Ru.pg0 v.x v.y)).e = 0 then 3 else (Ru.it (Ru.pgI 1 (Ru.movesL v.k)) 100 (Ru.pg0 v.x v.y)).e) = E at *
                  obtain ⟨Z, hZ⟩ : ∃ Z, Z = (Ru.it (Ru.pgI 1 (Ru.movesL v.k)) 100 (Ru.pg0 v.x v.y)).n := ⟨_, rfl⟩
                  obtain ⟨ln, hln⟩ : ∃ ln, ln = (Ru.it (Ru.pgI 1 (Ru.movesL v.k)) 100 (Ru.pg0 v.x v.y)).out.length := ⟨_, rfl⟩
                  rw [← hZ, ← hln] at GR ⊢
                  clear hZ hln
                  go_wp2_with fail
                  go_meet
                  exact ⟨N, ao, cp, C, rfl, rfl, GR.out C⟩
                · intro V W0 g hV hold
                  have h0 : V 0 = _ := hV 0 (by decide) (by decide)
                  have h1 : V 1 = _ := hV 1 (by decide) (by decide)
                  have h4 : V 4 = _ := hV 4 (by decide) (by decide)
                  have h5 : V 5 = _ := hV 5 (by decide) (by decide)
                  have h6 : V 6 = _ := hV 6 (by decide) (by decide)
                  have h7 : V 7 = _ := hV 7 (by decide) (by decide)
                  obtain ⟨T2, h2, _⟩ := hV 2 (by decide) (by decide)
                  obtain ⟨T3, c3, h3, _⟩ := hV 3 (by decide) (by decide)
                  obtain ⟨r8, h8, _⟩ := hV 8 (by decide) (by decide)
                  obtain ⟨r9, h9, _⟩ := hV 9 (by decide) (by decide)
                  obtain ⟨ao, cp, C, h10, hrw⟩ := hV 10 (by decide) (by decide)
                  obtain ⟨y, h11⟩ : ∃ y, V 11 = y := ⟨_, rfl⟩
                  obtain ⟨N, h12, hrow, hN⟩ := hV 12 (by decide) (by decide)
                  have HR2 : Hid (W0.rowIs N 38 5 (row5 (.slice none 0 0) (.slice none 0 0) (.int .i64 0) (.int .i64 0) (.int .i64 0))) := hrow
                  have HRW : Hid (RwIn .u64 W0 ao (Ru.it (Ru.pgI 1 (Ru.movesL v.k)) 100 (Ru.pg0 v.x v.y)).out.length cp (fun i => (Ru.it (Ru.pgI 1 (Ru.movesL v.k)) 100 (Ru.pg0 v.x v.y)).out.getD i 0)) := hrw
                  obtain ⟨z0, z1, z2, z3, z4, zz⟩ := rowIs_five hrow
                  simp [frV, dstOf, Act.put, h0, h1, h2, h3, h4, h5, h6, h7, h8, h9, h10, h11, h12]
                  clear h0 h1 h2 h3 h4 h5 h6 h7 h8 h9 h10 h11 h12 hV hrow hrw hold
                  have GR : Hid (∀ C : Int, ResAt (Ru.it (Ru.pgI 1 (Ru.movesL v.k)) 100 (Ru.pg0 v.x v.y)) N ao cp C (put5 W0 N (.slice ao (Ru.it (Ru.pgI 1 (Ru.movesL v.k)) 100 (Ru.pg0 v.x v.y)).out.length cp) (.slice none 0 0) (.int .i64 (if (Ru.it (Ru.pgI 1 (Ru.movesL v.k)) 100 (Ru.pg0 v.x v.y)).e = 0 then 3 else (Ru.it (Ru.pgI 1 (Ru.movesL v.k)) 100 (Ru.pg0 v.x v.y)).e)) (.int .i64 (Ru.it (Ru.pgI 1 (Ru.movesL v.k)) 100 (Ru.pg0 v.x v.y)).n) (.int .i64 C)) ∧ w3.grownBy (put5 W0 N (.slice ao (Ru.it (Ru.pgI 1 (Ru.movesL v.k)) 100 (Ru.pg0 v.x v.y)).out.length cp) (.slice none 0 0) (.int .i64 (if (Ru.it (Ru.pgI 1 (Ru.movesL v.k)) 100 (Ru.pg0 v.x v.y)).e = 0 then 3 else (Ru.it (Ru.pgI 1 (Ru.movesL v.k)) 100 (Ru.pg0 v.x v.y)).e)) (.int .i64 (Ru.it (Ru.pgI 1 (Ru.movesL v.k)) 100 (Ru.pg0 v.x v.y)).n) (.int .i64 C)) none) := fun C => res_put6 (grown_trans (grown_drew (World.grownBy.refl _ none)) g) hN HR2.out HRW.out
                  clear HRW
                  generalize (if (Ru.it (Ru.pgI 1 (Ru.movesL v.k)) 100 (Ru.pg0 v.x v.y)).e = 0 then 3 else (Ru.it (Ru.pgI 1 (Ru.movesL v.k)) 100 (Ru.pg0 v.x v.y)).e) = E at *
                  obtain ⟨Z, hZ⟩ : ∃ Z, Z = (Ru.it (Ru.pgI 1 (Ru.movesL v.k)) 100 (Ru.pg0 v.x v.y)).n := ⟨_, rfl⟩
                  obtain ⟨ln, hln⟩ : ∃ ln, ln = (Ru.it (Ru.pgI 1 (Ru.movesL v.k)) 100 (Ru.pg0 v.x v.y)).out.length := ⟨_, rfl⟩
                  rw [← hZ, ← hln] at GR ⊢
                  clear hZ hln
                  go_wp2_with fail
                  go_meet
                  exact ⟨N, ao, cp, C, rfl, rfl, GR.out C⟩
              case rest =>
                obtain ⟨N, ao, cp, C, rfl, rfl, hres, g4⟩ := hcut
                obtain ⟨w4, hwc⟩ : ∃ x, x = wc := ⟨_, rfl⟩
                rw [← hwc] at hres g4 ⊢
                clear hwc
                have G4 : Hid (w.grownBy w4 none) := grown_trans G1.out g4
                have AR4 : Hid (O6R w4 b1 v) := AR.out.kept g4
                clear AR G1 g4
                have AR := AR4
                have G1 := G4
                clear AR4 G4
                obtain ⟨hrow, hrw⟩ := hres
                obtain ⟨o1, e1, n1⟩ := HEnd.out
                generalize (Ru.it (Ru.pgI 1 (Ru.movesL v.k)) 100 (Ru.pg0 v.x v.y)) = TT at *
                rw [o1, e1, n1] at hrow
                rw [o1] at hrw
                clear o1 e1 n1 HEnd
                obtain ⟨gg, oo, rfl, hc⟩ := hrw.at (by simp)
                have hc0 : w4.cell? ⟨gg, oo, none⟩ = some (.int .u64 (Wd.canon v.k v.x)) := by simpa using hc 0 (by simp)
                have hrow2 : w4.rowIs N 38 5 (row5 (.slice (some ⟨gg, oo, none⟩) 1 cp) (.slice none 0 0) (.int .i64 1) (.int .i64 (Wd.sg (Wd.canon v.k v.x))) (.int .i64 C)) := hrow
                obtain ⟨q0, q1, q2, q3, q4, qz⟩ := rowIs_five hrow2
                clear hrow hrow2 hrw hc qz

                have ne : Nonempty (Gw w4) := ⟨⟨w4, World.grownBy.refl _ _⟩⟩
                obtain ⟨CX, hCX⟩ : ∃ c, c = Wd.canon v.k v.x := ⟨_, rfl⟩
                have HC1 : Hid (∀ (x : Gw w4), Calls Tryz.prog 9 #[.int .i64 v.k, .int .u64 v.x] x.w fun e w' => e = .returned (.int .u64 CX) ∧ x.w.grownBy w' none) := fun x => (rcanon_any v.k v.x x.w HX.out.1 HX.out.2).mono fun e w' ⟨h1, h2⟩ => ⟨by rw [hCX]; exact h1, by rw [h2]; exact World.grownBy.refl _ _⟩
                rw [← hCX] at hc0 q3
                clear hCX
                have HTd : Hid (∀ x : Gw w4, Calls Tryz.prog 13 #[.agg #[.slice (some ⟨gg, oo, none⟩) 1 cp, .slice none 0 0, .int .i64 1, .int .i64 (Wd.sg CX), .int .i64 C], .int .u64 CX] x.w fun r w' => r = .returned (.bool true) ∧ x.w.grownBy w' none) := fun x => told_true gg oo cp CX C x.w (x.h.cell hc0 (by simp))
                obtain ⟨SG, hSG⟩ : ∃ z, z = Wd.sg CX := ⟨_, rfl⟩
                rw [← hSG] at HTd q3
                clear hSG hc0
                have d1 : ∀ x : Gw w4, x.w.cell? ⟨b1, 1, none⟩ = some (.int .i64 v.k) := fun x => (AR.out.kept x.h).p1
                have d3 : ∀ x : Gw w4, x.w.cell? ⟨b1, 3, none⟩ = some (.int .u64 v.x) := fun x => (AR.out.kept x.h).p3
                have f0 : ∀ x : Gw w4, x.w.cell? ⟨N, 0, none⟩ = some _ := fun x => x.h.cell q0 (by simp)
                have f1 : ∀ x : Gw w4, x.w.cell? ⟨N, 1, none⟩ = some _ := fun x => x.h.cell q1 (by simp)
                have f2 : ∀ x : Gw w4, x.w.cell? ⟨N, 2, none⟩ = some _ := fun x => x.h.cell q2 (by simp)
                have f3 : ∀ x : Gw w4, x.w.cell? ⟨N, 3, none⟩ = some _ := fun x => x.h.cell q3 (by simp)
                have f4 : ∀ x : Gw w4, x.w.cell? ⟨N, 4, none⟩ = some _ := fun x => x.h.cell q4 (by simp)
                go_wp2_with fail
                refine region_grown (by kernel_rfl) (by kernel_rfl) ?_
                repeat (go_big_quiet_step ((first
                  | (go_at_call 9; exact Gw.call (HC1.out _))
                  | (go_at_call 13; exact Gw.call (HTd.out _))
                  | exact rfl)))
                refine wpQuiet_nil ?_
                rintro _ ⟨x, rfl⟩
                have AR5 : Hid (O6R x.w b1 v) := AR.out.kept x.h
                have G5 : Hid (w.grownBy x.w none) := grown_trans G1.out x.h
                clear AR G1 d1 d3 f0 f1 f2 f3 f4 HC1 HTd q0 q1 q2 q3 q4 HG HL20 OI HTw ne
                obtain ⟨w5, hw5⟩ : ∃ w5, w5 = x.w := ⟨_, rfl⟩
                rw [← hw5] at AR5 G5 ⊢
                clear hw5 x
                have p4 := AR5.out.p4
                go_wp2_with fail
                clear p4
                obtain ⟨i1, hi1⟩ : ∃ z, z = wrap64 (wrap32 v.y) := ⟨_, rfl⟩
                obtain ⟨i2, hi2⟩ : ∃ z, z = wrap64 (wrap32 (v.y / 4294967296)) := ⟨_, rfl⟩
                rw [← hi1, ← hi2]
                have HG : Hid (Ru.Good 1 (Ru.bigL 1 i1 i2)) := Ru.big_goodR (i1_rng hi1).1 (i1_rng hi1).2 (i1_rng hi2).1 (i1_rng hi2).2
                have HEnd : Hid (Ru.Ends (Ru.it (Ru.pgI 1 (Ru.bigL 1 i1 i2)) 100 (Ru.pg0 v.x v.y)) v.y) := by
                  have := Ru.big_endR (i1_rng hi1).1 (i1_rng hi1).2 (i1_rng hi2).1 (i1_rng hi2).2 v.x v.y
                  rw [big_sum y1 y2 hi1 hi2] at this
                  exact this
                clear hi1 hi2
                have HL20 : Hid ((Ru.bigL 1 i1 i2).length ≤ 20) := by show _ ≤ 20; unfold Ru.bigL; simp
                have OI : Hid (OwnI (w5.alloc (Obj.cells #[.int .i64 1, .int .i64 4, .int .i64 0, .int .i64 0, .int .i64 0, .int .i64 0, .int .i64 0, .int .i64 i1, .int .i64 0, .int .i64 2, .int .i64 4, .int .i64 0, .int .i64 0, .int .i64 0, .int .i64 0, .int .i64 0, .int .i64 i2, .int .i64 0] 34)) 0 (.slice (some ⟨w5.heap.size, 0, none⟩) 2 2) [⟨1, 4, 0, 0, 0, 0, 0, i1, 0⟩, ⟨2, 4, 0, 0, 0, 0, 0, i2, 0⟩]) := OwnI.lit w5 0 [⟨1, 4, 0, 0, 0, 0, 0, i1, 0⟩, ⟨2, 4, 0, 0, 0, 0, 0, i2, 0⟩] _ rfl (Nat.zero_le _) (by simp)
                have AR3 : Hid (O6R (w5.alloc (Obj.cells #[.int .i64 1, .int .i64 4, .int .i64 0, .int .i64 0, .int .i64 0, .int .i64 0, .int .i64 0, .int .i64 i1, .int .i64 0, .int .i64 2, .int .i64 4, .int .i64 0, .int .i64 0, .int .i64 0, .int .i64 0, .int .i64 0, .int .i64 i2, .int .i64 0] 34)) b1 v) := AR5.out.kept (World.grownBy_alloc _ _ _)
                have G3 : Hid (w.grownBy (w5.alloc (Obj.cells #[.int .i64 1, .int .i64 4, .int .i64 0, .int .i64 0, .int .i64 0, .int .i64 0, .int .i64 0, .int .i64 i1, .int .i64 0, .int .i64 2, .int .i64 4, .int .i64 0, .int .i64 0, .int .i64 0, .int .i64 0, .int .i64 0, .int .i64 i2, .int .i64 0] 34)) none) := grown_trans G5.out (World.grownBy_alloc _ _ _)
                clear AR5 G5
                generalize (w5.alloc (Obj.cells #[.int .i64 1, .int .i64 4, .int .i64 0, .int .i64 0, .int .i64 0, .int .i64 0, .int .i64 0, .int .i64 i1, .int .i64 0, .int .i64 2, .int .i64 4, .int .i64 0, .int .i64 0, .int .i64 0, .int .i64 0, .int .i64 0, .int .i64 i2, .int .i64 0] 34)) = w3 at *
                obtain ⟨T1, hT1⟩ : ∃ T1, T1 = w5.heap.size := ⟨_, rfl⟩
                rw [← hT1] at OI ⊢
                clear hT1
                have AR := AR3
                have G1 := G3
                clear AR3 G3
                have HTw : Hid (TabAt w3) := HTb.out.kept G1.out (by simp)
                go_cut [10, 11] (fun p e wx => ∃ N ao cp C, p = .pointer (some ⟨N, 0, none⟩) ∧ e = .bool true ∧ ResAt (Ru.it (Ru.pgI 1 (Ru.bigL 1 i1 i2)) 100 (Ru.pg0 v.x v.y)) N ao cp C wx ∧ w3.grownBy wx none)
                case first =>
                  refine region_late 13 11 _ _ _ (psiR 1 T1 2 b1 v.x v.y (Ru.bigL 1 i1 i2) (Ru.it (Ru.pgI 1 (Ru.bigL 1 i1 i2)) 100 (Ru.pg0 v.x v.y)) 4 w3.heap.size) (by kernel_rfl) (by kernel_rfl) rfl rfl rfl (by kernel_rfl) (by kernel_rfl) (fun i x w0 w1 hi h g => psiR_stable h g) ?_ ?_ ?_
                  · simp only [List.take_succ_cons, List.take_zero]
                    refine ⟨?_, ?_, ?_, ?_, ?_, ?_, ?_, ?_, ?_, ?_, ?_, ?_, ?_, trivial⟩
                    · intro V W0 A g hV hs h0
                      have e05 := h0 5 (.int .i64 1) (by kernel_rfl) rfl
                      clear hV hs h0
                      refine outO_val (v := .int .i64 1) (w' := W0) ?_ (World.grownBy.refl _ _) rfl
                      simp [go_sem, e05]
                    · intro V W0 A g hV hs h0
                      have e09 := h0 9 (.slice (some ⟨T1, 0, none⟩) 2 2) (by kernel_rfl) rfl
                      clear hV hs h0
                      refine outO_val (v := .slice (some ⟨T1, 0, none⟩) 2 2) (w' := W0) ?_ (World.grownBy.refl _ _) rfl
                      simp [go_sem, e09]
                    · intro V W0 A g hV hs h0
                      clear hV hs h0
                      refine outO_call (f := 12) ?_ (call_emit (by have := g.size; exact this))
                      simp [go_sem]
                    · intro V W0 A g hV hs h0
                      have gD := grown_trans (grown_drew (World.grownBy.refl _ none)) g
                      have hA := AR.out.kept gD
                      have h1 : V 1 = _ := hV 1 (by kernel_rfl)
                      obtain ⟨T2, h2, i2⟩ := hV 2 (by kernel_rfl)
                      have e1 := hs 88 1 (by kernel_rfl) (by kernel_rfl)
                      have e2 := hs 89 2 (by kernel_rfl) (by kernel_rfl)
                      clear hV hs h0
                      rw [h2] at i2
                      obtain ⟨v', w', er, o3, g3⟩ := run_appI (OI.out.grow gD) i2 rfl rfl (by decide) (by decide)
                      obtain ⟨ao3, c3, rfl, _, hz3⟩ := o3.slice
                      obtain ⟨T3, rfl, _⟩ := hz3 (by simp)
                      exact outO_app _ _ _ rfl ((eval_of e1).trans h1) ((eval_of e2).trans h2) er g3 ⟨T3, c3, rfl, World.ownsRow.mono o3 (by have := g.size; exact this)⟩
                    · intro V W0 A g hV hs h0
                      have e04 := h0 4 (.pointer (some ⟨b1, 0, none⟩)) (by kernel_rfl) rfl
                      clear hV hs h0
                      refine outO_val (v := .pointer (some ⟨b1, 3, none⟩)) (w' := W0) ?_ (World.grownBy.refl _ _) rfl
                      simp [go_sem, e04]
                    · intro V W0 A g hV hs h0
                      have gD := grown_trans (grown_drew (World.grownBy.refl _ none)) g
                      have hA := AR.out.kept gD
                      have h4 : V 4 = _ := hV 4 (by kernel_rfl)
                      have e4 := hs 91 4 (by kernel_rfl) (by kernel_rfl)
                      clear hV hs h0
                      refine outO_val (v := .int .u64 v.x) (w' := W0) ?_ (World.grownBy.refl _ _) rfl
                      simp [go_sem, e4, h4, hA.p3]
                    · intro V W0 A g hV hs h0
                      have e04 := h0 4 (.pointer (some ⟨b1, 0, none⟩)) (by kernel_rfl) rfl
                      clear hV hs h0
                      refine outO_val (v := .pointer (some ⟨b1, 4, none⟩)) (w' := W0) ?_ (World.grownBy.refl _ _) rfl
                      simp [go_sem, e04]
                    · intro V W0 A g hV hs h0
                      have gD := grown_trans (grown_drew (World.grownBy.refl _ none)) g
                      have hA := AR.out.kept gD
                      have h6 : V 6 = _ := hV 6 (by kernel_rfl)
                      have e6 := hs 93 6 (by kernel_rfl) (by kernel_rfl)
                      clear hV hs h0
                      refine outO_val (v := .int .u64 v.y) (w' := W0) ?_ (World.grownBy.refl _ _) rfl
                      simp [go_sem, e6, h6, hA.p4]
                    · intro V W0 A g hV hs h0
                      have gD := grown_trans (grown_drew (World.grownBy.refl _ none)) g
                      have hA := AR.out.kept gD
                      have h00 : V 0 = _ := hV 0 (by kernel_rfl)
                      obtain ⟨T3, c3, h3, i3⟩ := hV 3 (by kernel_rfl)
                      have h5 : V 5 = _ := hV 5 (by kernel_rfl)
                      have h7 : V 7 = _ := hV 7 (by kernel_rfl)
                      have e0 := hs 87 0 (by kernel_rfl) (by kernel_rfl)
                      have e3 := hs 90 3 (by kernel_rfl) (by kernel_rfl)
                      have e5 := hs 92 5 (by kernel_rfl) (by kernel_rfl)
                      have e7 := hs 94 7 (by kernel_rfl) (by kernel_rfl)
                      clear hV hs h0
                      rw [h3] at i3
                      refine outO_call (f := 11) ?_ (call_ran (by decide) HX.out HY.out (HTw.out.kept gD (by simp)) HL20.out i3 HG.out)
                      simp [go_sem, e0, e3, e5, e7, h00, h3, h5, h7]
                    · intro V W0 A g hV hs h0
                      obtain ⟨r, h8, i8⟩ := hV 8 (by kernel_rfl)
                      have e8 := hs 95 8 (by kernel_rfl) (by kernel_rfl)
                      clear hV hs h0
                      exact outO_val (v := V 8) (w' := W0) (by simp [go_sem, e8]) (World.grownBy.refl _ _) ⟨r, h8, i8⟩
                    · intro V W0 A g hV hs h0
                      obtain ⟨r, h9, i9⟩ := hV 9 (by kernel_rfl)
                      have e9 := hs 86 9 (by kernel_rfl) (by kernel_rfl)
                      clear hV hs h0
                      refine outO_val (v := r) (w' := W0) ?_ (World.grownBy.refl _ _) i9
                      simp [go_sem, e9, h9]
                    · intro V W0 A g hV hs h0
                      obtain ⟨r, h9, i9⟩ := hV 9 (by kernel_rfl)
                      have e9 := hs 86 9 (by kernel_rfl) (by kernel_rfl)
                      clear hV hs h0
                      refine outO_val (v := .bool true) (w' := W0) ?_ (World.grownBy.refl _ _) rfl
                      simp [go_sem, e9, h9]
                    · intro V W0 A g hV hs h0
                      clear hV hs h0
                      refine outO_val (v := .pointer (some ⟨W0.heap.size, 0, none⟩)) (w' := W0.alloc (Obj.cells #[.slice none 0 0, .slice none 0 0, .int .i64 0, .int .i64 0, .int .i64 0] 38)) ?_ (World.grownBy_alloc _ _ _) ⟨W0.heap.size, rfl, row5_new _ _ _ _ _ _ _, by have := g.size; exact this⟩
                      simp [go_sem]
                  · intro V W0 g hV
                    have h0 : V 0 = _ := hV 0 (by decide)
                    have h1 : V 1 = _ := hV 1 (by decide)
                    have h4 : V 4 = _ := hV 4 (by decide)
                    have h5 : V 5 = _ := hV 5 (by decide)
                    have h6 : V 6 = _ := hV 6 (by decide)
                    have h7 : V 7 = _ := hV 7 (by decide)
                    obtain ⟨T2, h2, _⟩ := hV 2 (by decide)
                    obtain ⟨T3, c3, h3, _⟩ := hV 3 (by decide)
                    obtain ⟨r8, h8, _⟩ := hV 8 (by decide)
                    obtain ⟨r9, h9, _⟩ := hV 9 (by decide)
                    obtain ⟨ao, cp, C, h10, hrw⟩ := hV 10 (by decide)
                    have h11 : V 11 = _ := hV 11 (by decide)
                    obtain ⟨N, h12, hrow, hN⟩ := hV 12 (by decide)
                    have HR2 : Hid (W0.rowIs N 38 5 (row5 (.slice none 0 0) (.slice none 0 0) (.int .i64 0) (.int .i64 0) (.int .i64 0))) := hrow
                    have HRW : Hid (RwIn .u64 W0 ao (Ru.it (Ru.pgI 1 (Ru.bigL 1 i1 i2)) 100 (Ru.pg0 v.x v.y)).out.length cp (fun i => (Ru.it (Ru.pgI 1 (Ru.bigL 1 i1 i2)) 100 (Ru.pg0 v.x v.y)).out.getD i 0)) := hrw
                    obtain ⟨z0, z1, z2, z3, z4, zz⟩ := rowIs_five hrow
                    simp [frV, dstOf, Act.put, h0, h1, h2, h3, h4, h5, h6, h7, h8, h9, h10, h11, h12]
                    clear h0 h1 h2 h3 h4 h5 h6 h7 h8 h9 h10 h11 h12 hV hrow hrw
                    have GR : Hid (∀ C : Int, ResAt (Ru.it (Ru.pgI 1 (Ru.bigL 1 i1 i2)) 100 (Ru.pg0 v.x v.y)) N ao cp C (put5 W0 N (.slice ao (Ru.it (Ru.pgI 1 (Ru.bigL 1 i1 i2)) 100 (Ru.pg0 v.x v.y)).out.length cp) (.slice none 0 0) (.int .i64 (if (Ru.it (Ru.pgI 1 (Ru.bigL 1 i1 i2)) 100 (Ru.pg0 v.x v.y)).e = 0 then 3 else (Ru.it (Ru.pgI 1 (Ru.bigL 1 i1 i2)) 100 (Ru.pg0 v.x v.y)).e)) (.int .i64 (Ru.it (Ru.pgI 1 (Ru.bigL 1 i1 i2)) 100 (Ru.pg0 v.x v.y)).n) (.int .i64 C)) ∧ w3.grownBy (put5 W0 N (.slice ao (Ru.it (Ru.pgI 1 (Ru.bigL 1 i1 i2)) 100 (Ru.pg0 v.x v.y)).out.length cp) (.slice none 0 0) (.int .i64 (if (Ru.it (Ru.pgI 1 (Ru.bigL 1 i1 i2)) 100 (Ru.pg0 v.x v.y)).e = 0 then 3 else (Ru.it (Ru.pgI 1 (Ru.bigL 1 i1 i2)) 100 (Ru.pg0 v.x v.y)).e)) (.int .i64 (Ru.it (Ru.pgI 1 (Ru.bigL 1 i1 i2)) 100 (Ru.pg0 v.x v.y)).n) (.int .i64 C)) none) := fun C => res_put6 (grown_trans (grown_drew (World.grownBy.refl _ none)) g) hN HR2.out HRW.out
                    clear HRW
                    generalize (if (Ru.it (Ru.pgI 1 (Ru.bigL 1 i1 i2)) 100 (Ru.pg0 v.x v.y)).e = 0 then 3 else (Ru.it (Ru.pgI 1 (Ru.bigL 1 i1 i2)) 100 (Ru.pg0 v.x v.y)).e) = E at *
                    obtain ⟨Z, hZ⟩ : ∃ Z, Z = (Ru.it (Ru.pgI 1 (Ru.bigL 1 i1 i2)) 100 (Ru.pg0 v.x v.y)).n := ⟨_, rfl⟩
                    obtain ⟨ln, hln⟩ : ∃ ln, ln = (Ru.it (Ru.pgI 1 (Ru.bigL 1 i1 i2)) 100 (Ru.pg0 v.x v.y)).out.length := ⟨_, rfl⟩
                    rw [← hZ, ← hln] at GR ⊢
                    clear hZ hln
                    go_wp2_with fail
                    go_meet
                    exact ⟨N, ao, cp, C, rfl, rfl, GR.out C⟩
                  · intro V W0 g hV hold
                    have h0 : V 0 = _ := hV 0 (by decide) (by decide)
                    have h1 : V 1 = _ := hV 1 (by decide) (by decide)
                    have h4 : V 4 = _ := hV 4 (by decide) (by decide)
                    have h5 : V 5 = _ := hV 5 (by decide) (by decide)
                    have h6 : V 6 = _ := hV 6 (by decide) (by decide)
                    have h7 : V 7 = _ := hV 7 (by decide) (by decide)
                    obtain ⟨T2, h2, _⟩ := hV 2 (by decide) (by decide)
                    obtain ⟨T3, c3, h3, _⟩ := hV 3 (by decide) (by decide)
                    obtain ⟨r8, h8, _⟩ := hV 8 (by decide) (by decide)
                    obtain ⟨r9, h9, _⟩ := hV 9 (by decide) (by decide)
                    obtain ⟨ao, cp, C, h10, hrw⟩ := hV 10 (by decide) (by decide)
                    obtain ⟨y, h11⟩ : ∃ y, V 11 = y := ⟨_, rfl⟩
                    obtain ⟨N, h12, hrow, hN⟩ := hV 12 (by decide) (by decide)
                    have HR2 : Hid (W0.rowIs N 38 5 (row5 (.slice none 0 0) (.slice none 0 0) (.int .i64 0) (.int .i64 0) (.int .i64 0))) := hrow
                    have HRW : Hid (RwIn .u64 W0 ao (Ru.it (Ru.pgI 1 (Ru.bigL 1 i1 i2)) 100 (Ru.pg0 v.x v.y)).out.length cp (fun i => (Ru.it (Ru.pgI 1 (Ru.bigL 1 i1 i2)) 100 (Ru.pg0 v.x v.y)).out.getD i 0)) := hrw
                    obtain ⟨z0, z1, z2, z3, z4, zz⟩ := rowIs_five hrow
                    simp [frV, dstOf, Act.put, h0, h1, h2, h3, h4, h5, h6, h7, h8, h9, h10, h11, h12]
                    clear h0 h1 h2 h3 h4 h5 h6 h7 h8 h9 h10 h11 h12 hV hrow hrw hold
                    have GR : Hid (∀ C : Int, ResAt (Ru.it (Ru.pgI 1 (Ru.bigL 1 i1 i2)) 100 (Ru.pg0 v.x v.y)) N ao cp C (put5 W0 N (.slice ao (Ru.it (Ru.pgI 1 (Ru.bigL 1 i1 i2)) 100 (Ru.pg0 v.x v.y)).out.length cp) (.slice none 0 0) (.int .i64 (if (Ru.it (Ru.pgI 1 (Ru.bigL 1 i1 i2)) 100 (Ru.pg0 v.x v.y)).e = 0 then 3 else (Ru.it (Ru.pgI 1 (Ru.bigL 1 i1 i2)) 100 (Ru.pg0 v.x v.y)).e)) (.int .i64 (Ru.it (Ru.pgI 1 (Ru.bigL 1 i1 i2)) 100 (Ru.pg0 v.x v.y)).n) (.int .i64 C)) ∧ w3.grownBy (put5 W0 N (.slice ao (Ru.it (Ru.pgI 1 (Ru.bigL 1 i1 i2)) 100 (Ru.pg0 v.x v.y)).out.length cp) (.slice none 0 0) (.int .i64 (if (Ru.it (Ru.pgI 1 (Ru.bigL 1 i1 i2)) 100 (Ru.pg0 v.x v.y)).e = 0 then 3 else (Ru.it (Ru.pgI 1 (Ru.bigL 1 i1 i2)) 100 (Ru.pg0 v.x v.y)).e)) (.int .i64 (Ru.it (Ru.pgI 1 (Ru.bigL 1 i1 i2)) 100 (Ru.pg0 v.x v.y)).n) (.int .i64 C)) none) := fun C => res_put6 (grown_trans (grown_drew (World.grownBy.refl _ none)) g) hN HR2.out HRW.out
                    clear HRW
                    generalize (if (Ru.it (Ru.pgI 1 (Ru.bigL 1 i1 i2)) 100 (Ru.pg0 v.x v.y)).e = 0 then 3 else (Ru.it (Ru.pgI 1 (Ru.bigL 1 i1 i2)) 100 (Ru.pg0 v.x v.y)).e) = E at *
                    obtain ⟨Z, hZ⟩ : ∃ Z, Z = (Ru.it (Ru.pgI 1 (Ru.bigL 1 i1 i2)) 100 (Ru.pg0 v.x v.y)).n := ⟨_, rfl⟩
                    obtain ⟨ln, hln⟩ : ∃ ln, ln = (Ru.it (Ru.pgI 1 (Ru.bigL 1 i1 i2)) 100 (Ru.pg0 v.x v.y)).out.length := ⟨_, rfl⟩
                    rw [← hZ, ← hln] at GR ⊢
                    clear hZ hln
                    go_wp2_with fail
                    go_meet
                    exact ⟨N, ao, cp, C, rfl, rfl, GR.out C⟩
                case rest =>
                  obtain ⟨N, ao, cp, C, rfl, rfl, hres, g4⟩ := hcut
                  obtain ⟨w4, hwc⟩ : ∃ x, x = wc := ⟨_, rfl⟩
                  rw [← hwc] at hres g4 ⊢
                  clear hwc
                  have G4 : Hid (w.grownBy w4 none) := grown_trans G1.out g4
                  have AR4 : Hid (O6R w4 b1 v) := AR.out.kept g4
                  clear AR G1 g4
                  have AR := AR4
                  have G1 := G4
                  clear AR4 G4
                  obtain ⟨hrow, hrw⟩ := hres
                  obtain ⟨o1, e1, n1⟩ := HEnd.out
                  generalize (Ru.it (Ru.pgI 1 (Ru.bigL 1 i1 i2)) 100 (Ru.pg0 v.x v.y)) = TT at *
                  rw [o1, e1, n1] at hrow
                  rw [o1] at hrw
                  clear o1 e1 n1 HEnd
                  obtain ⟨gg, oo, rfl, hc⟩ := hrw.at (by simp)
                  have hc0 : w4.cell? ⟨gg, oo, none⟩ = some (.int .u64 (v.y)) := by simpa using hc 0 (by simp)
                  have hrow2 : w4.rowIs N 38 5 (row5 (.slice (some ⟨gg, oo, none⟩) 1 cp) (.slice none 0 0) (.int .i64 1) (.int .i64 (Wd.sg (v.y))) (.int .i64 C)) := hrow
                  obtain ⟨q0, q1, q2, q3, q4, qz⟩ := rowIs_five hrow2
                  clear hrow hrow2 hrw hc qz

                  have HTd : Hid (Calls Tryz.prog 13 #[.agg #[.slice (some ⟨gg, oo, none⟩) 1 cp, .slice none 0 0, .int .i64 1, .int .i64 (Wd.sg v.y), .int .i64 C], .int .u64 v.y] w4 fun r w' => r = .returned (.bool true) ∧ w4.grownBy w' none) := told_true gg oo cp v.y C w4 hc0
                  clear hc0
                  generalize Wd.sg v.y = SG at *
                  have p4 := AR.out.p4
                  go_wp2_with fail
                  refine HTd.out.mono ?_
                  rintro r w6 ⟨rfl, g6⟩
                  go_wp2_with fail
                  go_roundw
                  case rel => exact ⟨k + 1, by go_num, by omega, by omega, grown_trans G1.out g6⟩
                  case measure => simp [intOf]; omega
            · skip
              go_wp2_with (first
                | (go_at_call 15; refine (rword_any _ _).mono ?_; rw [hb]; rintro r wn ⟨rfl, hwn⟩; rw [hwn]; clear hwn wn)
                | (go_at_call 10; refine (HWi _).mono ?_; rintro r wn ⟨rfl, hwn⟩; rw [hwn]; clear hwn wn))
              clear c0 c1 c2 c3 c4 c5 hb
              have HX : Hid (Ru.W64 v.x) := ⟨x1, x2⟩
              have HY : Hid (Ru.W64 v.y) := ⟨y1, y2⟩
              have HL20 : Hid ((Ru.movesL v.k).length ≤ 20) := by show _ ≤ 20; unfold Ru.movesL; simp
              have HG : Hid (Ru.Good 2 (Ru.movesL v.k)) := Ru.moves_good (by decide) HB.out
              have HEnd : Hid (Ru.Ends (Ru.it (Ru.pgI 2 (Ru.movesL v.k)) 100 (Ru.pg0 v.x v.y)) (Wd.canon v.k v.x)) := Ru.moves_end (t := 2) (by decide) v.x v.y HB.out
              have OI : Hid (OwnI ((wr.alloc (Obj.cells #[.int .i64 v.op, .int .i64 v.k, .int .i64 v.tk, .int .u64 v.x, .int .u64 v.y, .int .i64 v.t] 25)).alloc (Obj.cells #[.int .i64 1, .int .i64 2, .int .i64 0, .int .i64 0, .int .i64 0, .int .i64 0, .int .i64 0, .int .i64 64, .int .i64 0, .int .i64 26, .int .i64 3, .int .i64 2, .int .i64 0, .int .i64 0, .int .i64 0, .int .i64 0, .int .i64 0, .int .i64 0, .int .i64 13, .int .i64 0, .int .i64 3, .int .i64 0, .int .i64 v.k, .int .i64 0, .int .i64 0, .int .i64 16, .int .i64 0, .int .i64 11, .int .i64 4, .int .i64 3, .int .i64 0, .int .i64 v.k, .int .i64 0, .int .i64 0, .int .i64 16, .int .i64 0] 34)) 0 (.slice (some ⟨wr.heap.size + 1, 0, none⟩) 4 4) [⟨1, 2, 0, 0, 0, 0, 0, 64, 0⟩, ⟨26, 3, 2, 0, 0, 0, 0, 0, 0⟩, ⟨13, 0, 3, 0, v.k, 0, 0, 16, 0⟩, ⟨11, 4, 3, 0, v.k, 0, 0, 16, 0⟩]) := by
                have h := OwnI.lit (wr.alloc (Obj.cells #[.int .i64 v.op, .int .i64 v.k, .int .i64 v.tk, .int .u64 v.x, .int .u64 v.y, .int .i64 v.t] 25)) 0 [⟨1, 2, 0, 0, 0, 0, 0, 64, 0⟩, ⟨26, 3, 2, 0, 0, 0, 0, 0, 0⟩, ⟨13, 0, 3, 0, v.k, 0, 0, 16, 0⟩, ⟨11, 4, 3, 0, v.k, 0, 0, 16, 0⟩] _ rfl (Nat.zero_le _) (by simp)
                have e : (wr.alloc (Obj.cells #[.int .i64 v.op, .int .i64 v.k, .int .i64 v.tk, .int .u64 v.x, .int .u64 v.y, .int .i64 v.t] 25)).heap.size = wr.heap.size + 1 := by simp
                rw [e] at h
                exact h
              have AR3 : Hid (O6R ((wr.alloc (Obj.cells #[.int .i64 v.op, .int .i64 v.k, .int .i64 v.tk, .int .u64 v.x, .int .u64 v.y, .int .i64 v.t] 25)).alloc (Obj.cells #[.int .i64 1, .int .i64 2, .int .i64 0, .int .i64 0, .int .i64 0, .int .i64 0, .int .i64 0, .int .i64 64, .int .i64 0, .int .i64 26, .int .i64 3, .int .i64 2, .int .i64 0, .int .i64 0, .int .i64 0, .int .i64 0, .int .i64 0, .int .i64 0, .int .i64 13, .int .i64 0, .int .i64 3, .int .i64 0, .int .i64 v.k, .int .i64 0, .int .i64 0, .int .i64 16, .int .i64 0, .int .i64 11, .int .i64 4, .int .i64 3, .int .i64 0, .int .i64 v.k, .int .i64 0, .int .i64 0, .int .i64 16, .int .i64 0] 34)) wr.heap.size v) := AR.out.kept (World.grownBy_alloc _ _ _)
              have G3 : Hid (w.grownBy ((wr.alloc (Obj.cells #[.int .i64 v.op, .int .i64 v.k, .int .i64 v.tk, .int .u64 v.x, .int .u64 v.y, .int .i64 v.t] 25)).alloc (Obj.cells #[.int .i64 1, .int .i64 2, .int .i64 0, .int .i64 0, .int .i64 0, .int .i64 0, .int .i64 0, .int .i64 64, .int .i64 0, .int .i64 26, .int .i64 3, .int .i64 2, .int .i64 0, .int .i64 0, .int .i64 0, .int .i64 0, .int .i64 0, .int .i64 0, .int .i64 13, .int .i64 0, .int .i64 3, .int .i64 0, .int .i64 v.k, .int .i64 0, .int .i64 0, .int .i64 16, .int .i64 0, .int .i64 11, .int .i64 4, .int .i64 3, .int .i64 0, .int .i64 v.k, .int .i64 0, .int .i64 0, .int .i64 16, .int .i64 0] 34)) none) := grown_trans G1.out (World.grownBy_alloc _ _ _)
              clear AR G1
              generalize ((wr.alloc (Obj.cells #[.int .i64 v.op, .int .i64 v.k, .int .i64 v.tk, .int .u64 v.x, .int .u64 v.y, .int .i64 v.t] 25)).alloc (Obj.cells #[.int .i64 1, .int .i64 2, .int .i64 0, .int .i64 0, .int .i64 0, .int .i64 0, .int .i64 0, .int .i64 64, .int .i64 0, .int .i64 26, .int .i64 3, .int .i64 2, .int .i64 0, .int .i64 0, .int .i64 0, .int .i64 0, .int .i64 0, .int .i64 0, .int .i64 13, .int .i64 0, .int .i64 3, .int .i64 0, .int .i64 v.k, .int .i64 0, .int .i64 0, .int .i64 16, .int .i64 0, .int .i64 11, .int .i64 4, .int .i64 3, .int .i64 0, .int .i64 v.k, .int .i64 0, .int .i64 0, .int .i64 16, .int .i64 0] 34)) = w3 at *
              obtain ⟨T1, hT1⟩ : ∃ T1, T1 = wr.heap.size + 1 := ⟨_, rfl⟩
              rw [← hT1] at OI ⊢
              clear hT1
              obtain ⟨b1, hb1⟩ : ∃ b1, b1 = wr.heap.size := ⟨_, rfl⟩
              rw [← hb1] at AR3 ⊢
              clear hb1
              have AR := AR3
              have G1 := G3
              clear AR3 G3
              have HTw : Hid (TabAt w3) := HTb.out.kept G1.out (by simp)
              go_cut [7, 8] (fun p e wx => ∃ N ao cp C, p = .pointer (some ⟨N, 0, none⟩) ∧ e = .bool true ∧ ResAt (Ru.it (Ru.pgI 2 (Ru.movesL v.k)) 100 (Ru.pg0 v.x v.y)) N ao cp C wx ∧ w3.grownBy wx none)
              case first =>
                refine region_late 13 11 _ _ _ (psiR 2 T1 4 b1 v.x v.y (Ru.movesL v.k) (Ru.it (Ru.pgI 2 (Ru.movesL v.k)) 100 (Ru.pg0 v.x v.y)) 4 w3.heap.size) (by kernel_rfl) (by kernel_rfl) rfl rfl rfl (by kernel_rfl) (by kernel_rfl) (fun i x w0 w1 hi h g => psiR_stable h g) ?_ ?_ ?_
                · simp only [List.take_succ_cons, List.take_zero]
                  refine ⟨?_, ?_, ?_, ?_, ?_, ?_, ?_, ?_, ?_, ?_, ?_, ?_, ?_, trivial⟩
                  · intro V W0 A g hV hs h0
                    have e05 := h0 5 (.int .i64 2) (by kernel_rfl) rfl
                    clear hV hs h0
                    refine outO_val (v := .int .i64 2) (w' := W0) ?_ (World.grownBy.refl _ _) rfl
                    simp [go_sem, e05]
                  · intro V W0 A g hV hs h0
                    have e06 := h0 6 (.slice (some ⟨T1, 0, none⟩) 4 4) (by kernel_rfl) rfl
                    clear hV hs h0
                    refine outO_val (v := .slice (some ⟨T1, 0, none⟩) 4 4) (w' := W0) ?_ (World.grownBy.refl _ _) rfl
                    simp [go_sem, e06]
                  · intro V W0 A g hV hs h0
                    clear hV hs h0
                    refine outO_call (f := 12) ?_ (call_emit (by have := g.size; exact this))
                    simp [go_sem]
                  · intro V W0 A g hV hs h0
                    have gD := grown_trans (grown_drew (World.grownBy.refl _ none)) g
                    have hA := AR.out.kept gD
                    have h1 : V 1 = _ := hV 1 (by kernel_rfl)
                    obtain ⟨T2, h2, i2⟩ := hV 2 (by kernel_rfl)
                    have e1 := hs 45 1 (by kernel_rfl) (by kernel_rfl)
                    have e2 := hs 46 2 (by kernel_rfl) (by kernel_rfl)
                    clear hV hs h0
                    rw [h2] at i2
                    obtain ⟨v', w', er, o3, g3⟩ := run_appI (OI.out.grow gD) i2 rfl rfl (by decide) (by decide)
                    obtain ⟨ao3, c3, rfl, _, hz3⟩ := o3.slice
                    obtain ⟨T3, rfl, _⟩ := hz3 (by simp)
                    exact outO_app _ _ _ rfl ((eval_of e1).trans h1) ((eval_of e2).trans h2) er g3 ⟨T3, c3, rfl, World.ownsRow.mono o3 (by have := g.size; exact this)⟩
                  · intro V W0 A g hV hs h0
                    have e04 := h0 4 (.pointer (some ⟨b1, 0, none⟩)) (by kernel_rfl) rfl
                    clear hV hs h0
                    refine outO_val (v := .pointer (some ⟨b1, 3, none⟩)) (w' := W0) ?_ (World.grownBy.refl _ _) rfl
                    simp [go_sem, e04]
                  · intro V W0 A g hV hs h0
                    have gD := grown_trans (grown_drew (World.grownBy.refl _ none)) g
                    have hA := AR.out.kept gD
                    have h4 : V 4 = _ := hV 4 (by kernel_rfl)
                    have e4 := hs 48 4 (by kernel_rfl) (by kernel_rfl)
                    clear hV hs h0
                    refine outO_val (v := .int .u64 v.x) (w' := W0) ?_ (World.grownBy.refl _ _) rfl
                    simp [go_sem, e4, h4, hA.p3]
                  · intro V W0 A g hV hs h0
                    have e04 := h0 4 (.pointer (some ⟨b1, 0, none⟩)) (by kernel_rfl) rfl
                    clear hV hs h0
                    refine outO_val (v := .pointer (some ⟨b1, 4, none⟩)) (w' := W0) ?_ (World.grownBy.refl _ _) rfl
                    simp [go_sem, e04]
                  · intro V W0 A g hV hs h0
                    have gD := grown_trans (grown_drew (World.grownBy.refl _ none)) g
                    have hA := AR.out.kept gD
                    have h6 : V 6 = _ := hV 6 (by kernel_rfl)
                    have e6 := hs 50 6 (by kernel_rfl) (by kernel_rfl)
                    clear hV hs h0
                    refine outO_val (v := .int .u64 v.y) (w' := W0) ?_ (World.grownBy.refl _ _) rfl
                    simp [go_sem, e6, h6, hA.p4]
                  · intro V W0 A g hV hs h0
                    have gD := grown_trans (grown_drew (World.grownBy.refl _ none)) g
                    have hA := AR.out.kept gD
                    have h00 : V 0 = _ := hV 0 (by kernel_rfl)
                    obtain ⟨T3, c3, h3, i3⟩ := hV 3 (by kernel_rfl)
                    have h5 : V 5 = _ := hV 5 (by kernel_rfl)
                    have h7 : V 7 = _ := hV 7 (by kernel_rfl)
                    have e0 := hs 44 0 (by kernel_rfl) (by kernel_rfl)
                    have e3 := hs 47 3 (by kernel_rfl) (by kernel_rfl)
                    have e5 := hs 49 5 (by kernel_rfl) (by kernel_rfl)
                    have e7 := hs 51 7 (by kernel_rfl) (by kernel_rfl)
                    clear hV hs h0
                    rw [h3] at i3
                    refine outO_call (f := 11) ?_ (call_ran (by decide) HX.out HY.out (HTw.out.kept gD (by simp)) HL20.out i3 HG.out)
                    simp [go_sem, e0, e3, e5, e7, h00, h3, h5, h7]
                  · intro V W0 A g hV hs h0
                    obtain ⟨r, h8, i8⟩ := hV 8 (by kernel_rfl)
                    have e8 := hs 52 8 (by kernel_rfl) (by kernel_rfl)
                    clear hV hs h0
                    exact outO_val (v := V 8) (w' := W0) (by simp [go_sem, e8]) (World.grownBy.refl _ _) ⟨r, h8, i8⟩
                  · intro V W0 A g hV hs h0
                    obtain ⟨r, h9, i9⟩ := hV 9 (by kernel_rfl)
                    have e9 := hs 43 9 (by kernel_rfl) (by kernel_rfl)
                    clear hV hs h0
                    refine outO_val (v := r) (w' := W0) ?_ (World.grownBy.refl _ _) i9
                    simp [go_sem, e9, h9]
                  · intro V W0 A g hV hs h0
                    obtain ⟨r, h9, i9⟩ := hV 9 (by kernel_rfl)
                    have e9 := hs 43 9 (by kernel_rfl) (by kernel_rfl)
                    clear hV hs h0
                    refine outO_val (v := .bool true) (w' := W0) ?_ (World.grownBy.refl _ _) rfl
                    simp [go_sem, e9, h9]
                  · intro V W0 A g hV hs h0
                    clear hV hs h0
                    refine outO_val (v := .pointer (some ⟨W0.heap.size, 0, none⟩)) (w' := W0.alloc (Obj.cells #[.slice none 0 0, .slice none 0 0, .int .i64 0, .int .i64 0, .int .i64 0] 38)) ?_ (World.grownBy_alloc _ _ _) ⟨W0.heap.size, rfl, row5_new _ _ _ _ _ _ _, by have := g.size; exact this⟩
                    simp [go_sem]
                · intro V W0 g hV
                  have h0 : V 0 = _ := hV 0 (by decide)
                  have h1 : V 1 = _ := hV 1 (by decide)
                  have h4 : V 4 = _ := hV 4 (by decide)
                  have h5 : V 5 = _ := hV 5 (by decide)
                  have h6 : V 6 = _ := hV 6 (by decide)
                  have h7 : V 7 = _ := hV 7 (by decide)
                  obtain ⟨T2, h2, _⟩ := hV 2 (by decide)
                  obtain ⟨T3, c3, h3, _⟩ := hV 3 (by decide)
                  obtain ⟨r8, h8, _⟩ := hV 8 (by decide)
                  obtain ⟨r9, h9, _⟩ := hV 9 (by decide)
                  obtain ⟨ao, cp, C, h10, hrw⟩ := hV 10 (by decide)
                  have h11 : V 11 = _ := hV 11 (by decide)
                  obtain ⟨N, h12, hrow, hN⟩ := hV 12 (by decide)
                  have HR2 : Hid (W0.rowIs N 38 5 (row5 (.slice none 0 0) (.slice none 0 0) (.int .i64 0) (.int .i64 0) (.int .i64 0))) := hrow
                  have HRW : Hid (RwIn .u64 W0 ao (Ru.it (Ru.pgI 2 (Ru.movesL v.k)) 100 (Ru.pg0 v.x v.y)).out.length cp (fun i => (Ru.it (Ru.pgI 2 (Ru.movesL v.k)) 100 (Ru.pg0 v.x v.y)).out.getD i 0)) := hrw
                  obtain ⟨z0, z1, z2, z3, z4, zz⟩ := rowIs_five hrow
                  simp [frV, dstOf, Act.put, h0, h1, h2, h3, h4, h5, h6, h7, h8, h9, h10, h11, h12]
                  clear h0 h1 h2 h3 h4 h5 h6 h7 h8 h9 h10 h11 h12 hV hrow hrw
                  have GR : Hid (∀ C : Int, ResAt (Ru.it (Ru.pgI 2 (Ru.movesL v.k)) 100 (Ru.pg0 v.x v.y)) N ao cp C (put5 W0 N (.slice ao (Ru.it (Ru.pgI 2 (Ru.movesL v.k)) 100 (Ru.pg0 v.x v.y)).out.length cp) (.slice none 0 0) (.int .i64 (if (Ru.it (Ru.pgI 2 (Ru.movesL v.k)) 100 (Ru.pg0 v.x v.y)).e = 0 then 3 else (Ru.it (Ru.pgI 2 (Ru.movesL v.k)) 100 (Ru.pg0 v.x v.y)).e)) (.int .i64 (Ru.it (Ru.pgI 2 (Ru.movesL v.k)) 100 (Ru.pg0 v.x v.y)).n) (.int .i64 C)) ∧ w3.grownBy (put5 W0 N (.slice ao (Ru.it (Ru.pgI 2 (Ru.movesL v.k)) 100 (Ru.pg0 v.x v.y)).out.length cp) (.slice none 0 0) (.int .i64 (if (Ru.it (Ru.pgI 2 (Ru.movesL v.k)) 100 (Ru.pg0 v.x v.y)).e = 0 then 3 else (Ru.it (Ru.pgI 2 (Ru.movesL v.k)) 100 (Ru.pg0 v.x v.y)).e)) (.int .i64 (Ru.it (Ru.pgI 2 (Ru.movesL v.k)) 100 (Ru.pg0 v.x v.y)).n) (.int .i64 C)) none) := fun C => res_put6 (grown_trans (grown_drew (World.grownBy.refl _ none)) g) hN HR2.out HRW.out
                  clear HRW
                  generalize (if (Ru.it (Ru.pgI 2 (Ru.movesL v.k)) 100 (Ru.pg0 v.x v.y)).e = 0 then 3 else (Ru.it (Ru.pgI 2 (Ru.movesL v.k)) 100 (Ru.pg0 v.x v.y)).e) = E at *
                  obtain ⟨Z, hZ⟩ : ∃ Z, Z = (Ru.it (Ru.pgI 2 (Ru.movesL v.k)) 100 (Ru.pg0 v.x v.y)).n := ⟨_, rfl⟩
                  obtain ⟨ln, hln⟩ : ∃ ln, ln = (Ru.it (Ru.pgI 2 (Ru.movesL v.k)) 100 (Ru.pg0 v.x v.y)).out.length := ⟨_, rfl⟩
                  rw [← hZ, ← hln] at GR ⊢
                  clear hZ hln
                  go_wp2_with fail
                  go_meet
                  exact ⟨N, ao, cp, C, rfl, rfl, GR.out C⟩
                · intro V W0 g hV hold
                  have h0 : V 0 = _ := hV 0 (by decide) (by decide)
                  have h1 : V 1 = _ := hV 1 (by decide) (by decide)
                  have h4 : V 4 = _ := hV 4 (by decide) (by decide)
                  have h5 : V 5 = _ := hV 5 (by decide) (by decide)
                  have h6 : V 6 = _ := hV 6 (by decide) (by decide)
                  have h7 : V 7 = _ := hV 7 (by decide) (by decide)
                  obtain ⟨T2, h2, _⟩ := hV 2 (by decide) (by decide)
                  obtain ⟨T3, c3, h3, _⟩ := hV 3 (by decide) (by decide)
                  obtain ⟨r8, h8, _⟩ := hV 8 (by decide) (by decide)
                  obtain ⟨r9, h9, _⟩ := hV 9 (by decide) (by decide)
                  obtain ⟨ao, cp, C, h10, hrw⟩ := hV 10 (by decide) (by decide)
                  obtain ⟨y, h11⟩ : ∃ y, V 11 = y := ⟨_, rfl⟩
                  obtain ⟨N, h12, hrow, hN⟩ := hV 12 (by decide) (by decide)
                  have HR2 : Hid (W0.rowIs N 38 5 (row5 (.slice none 0 0) (.slice none 0 0) (.int .i64 0) (.int .i64 0) (.int .i64 0))) := hrow
                  have HRW : Hid (RwIn .u64 W0 ao (Ru.it (Ru.pgI 2 (Ru.movesL v.k)) 100 (Ru.pg0 v.x v.y)).out.length cp (fun i => (Ru.it (Ru.pgI 2 (Ru.movesL v.k)) 100 (Ru.pg0 v.x v.y)).out.getD i 0)) := hrw
                  obtain ⟨z0, z1, z2, z3, z4, zz⟩ := rowIs_five hrow
                  simp [frV, dstOf, Act.put, h0, h1, h2, h3, h4, h5, h6, h7, h8, h9, h10, h11, h12]
                  clear h0 h1 h2 h3 h4 h5 h6 h7 h8 h9 h10 h11 h12 hV hrow hrw hold
                  have GR : Hid (∀ C : Int, ResAt (Ru.it (Ru.pgI 2 (Ru.movesL v.k)) 100 (Ru.pg0 v.x v.y)) N ao cp C (put5 W0 N (.slice ao (Ru.it (Ru.pgI 2 (Ru.movesL v.k)) 100 (Ru.pg0 v.x v.y)).out.length cp) (.slice none 0 0) (.int .i64 (if (Ru.it (Ru.pgI 2 (Ru.movesL v.k)) 100 (Ru.pg0 v.x v.y)).e = 0 then 3 else (Ru.it (Ru.pgI 2 (Ru.movesL v.k)) 100 (Ru.pg0 v.x v.y)).e)) (.int .i64 (Ru.it (Ru.pgI 2 (Ru.movesL v.k)) 100 (Ru.pg0 v.x v.y)).n) (.int .i64 C)) ∧ w3.grownBy (put5 W0 N (.slice ao (Ru.it (Ru.pgI 2 (Ru.movesL v.k)) 100 (Ru.pg0 v.x v.y)).out.length cp) (.slice none 0 0) (.int .i64 (if (Ru.it (Ru.pgI 2 (Ru.movesL v.k)) 100 (Ru.pg0 v.x v.y)).e = 0 then 3 else (Ru.it (Ru.pgI 2 (Ru.movesL v.k)) 100 (Ru.pg0 v.x v.y)).e)) (.int .i64 (Ru.it (Ru.pgI 2 (Ru.movesL v.k)) 100 (Ru.pg0 v.x v.y)).n) (.int .i64 C)) none) := fun C => res_put6 (grown_trans (grown_drew (World.grownBy.refl _ none)) g) hN HR2.out HRW.out
                  clear HRW
                  generalize (if (Ru.it (Ru.pgI 2 (Ru.movesL v.k)) 100 (Ru.pg0 v.x v.y)).e = 0 then 3 else (Ru.it (Ru.pgI 2 (Ru.movesL v.k)) 100 (Ru.pg0 v.x v.y)).e) = E at *
                  obtain ⟨Z, hZ⟩ : ∃ Z, Z = (Ru.it (Ru.pgI 2 (Ru.movesL v.k)) 100 (Ru.pg0 v.x v.y)).n := ⟨_, rfl⟩
                  obtain ⟨ln, hln⟩ : ∃ ln, ln = (Ru.it (Ru.pgI 2 (Ru.movesL v.k)) 100 (Ru.pg0 v.x v.y)).out.length := ⟨_, rfl⟩
                  rw [← hZ, ← hln] at GR ⊢
                  clear hZ hln
                  go_wp2_with fail
                  go_meet
                  exact ⟨N, ao, cp, C, rfl, rfl, GR.out C⟩
              case rest =>
                obtain ⟨N, ao, cp, C, rfl, rfl, hres, g4⟩ := hcut
                obtain ⟨w4, hwc⟩ : ∃ x, x = wc := ⟨_, rfl⟩
                rw [← hwc] at hres g4 ⊢
                clear hwc
                have G4 : Hid (w.grownBy w4 none) := grown_trans G1.out g4
                have AR4 : Hid (O6R w4 b1 v) := AR.out.kept g4
                clear AR G1 g4
                have AR := AR4
                have G1 := G4
                clear AR4 G4
                obtain ⟨hrow, hrw⟩ := hres
                obtain ⟨o1, e1, n1⟩ := HEnd.out
                generalize (Ru.it (Ru.pgI 2 (Ru.movesL v.k)) 100 (Ru.pg0 v.x v.y)) = TT at *
                rw [o1, e1, n1] at hrow
                rw [o1] at hrw
                clear o1 e1 n1 HEnd
                obtain ⟨gg, oo, rfl, hc⟩ := hrw.at (by simp)
                have hc0 : w4.cell? ⟨gg, oo, none⟩ = some (.int .u64 (Wd.canon v.k v.x)) := by simpa using hc 0 (by simp)
                have hrow2 : w4.rowIs N 38 5 (row5 (.slice (some ⟨gg, oo, none⟩) 1 cp) (.slice none 0 0) (.int .i64 1) (.int .i64 (Wd.sg (Wd.canon v.k v.x))) (.int .i64 C)) := hrow
                obtain ⟨q0, q1, q2, q3, q4, qz⟩ := rowIs_five hrow2
                clear hrow hrow2 hrw hc qz

                have ne : Nonempty (Gw w4) := ⟨⟨w4, World.grownBy.refl _ _⟩⟩
                obtain ⟨CX, hCX⟩ : ∃ c, c = Wd.canon v.k v.x := ⟨_, rfl⟩
                have HC1 : Hid (∀ (x : Gw w4), Calls Tryz.prog 9 #[.int .i64 v.k, .int .u64 v.x] x.w fun e w' => e = .returned (.int .u64 CX) ∧ x.w.grownBy w' none) := fun x => (rcanon_any v.k v.x x.w HX.out.1 HX.out.2).mono fun e w' ⟨h1, h2⟩ => ⟨by rw [hCX]; exact h1, by rw [h2]; exact World.grownBy.refl _ _⟩
                rw [← hCX] at hc0 q3
                clear hCX
                have HTd : Hid (∀ x : Gw w4, Calls Tryz.prog 13 #[.agg #[.slice (some ⟨gg, oo, none⟩) 1 cp, .slice none 0 0, .int .i64 1, .int .i64 (Wd.sg CX), .int .i64 C], .int .u64 CX] x.w fun r w' => r = .returned (.bool true) ∧ x.w.grownBy w' none) := fun x => told_true gg oo cp CX C x.w (x.h.cell hc0 (by simp))
                obtain ⟨SG, hSG⟩ : ∃ z, z = Wd.sg CX := ⟨_, rfl⟩
                rw [← hSG] at HTd q3
                clear hSG hc0
                have d1 : ∀ x : Gw w4, x.w.cell? ⟨b1, 1, none⟩ = some (.int .i64 v.k) := fun x => (AR.out.kept x.h).p1
                have d3 : ∀ x : Gw w4, x.w.cell? ⟨b1, 3, none⟩ = some (.int .u64 v.x) := fun x => (AR.out.kept x.h).p3
                have f0 : ∀ x : Gw w4, x.w.cell? ⟨N, 0, none⟩ = some _ := fun x => x.h.cell q0 (by simp)
                have f1 : ∀ x : Gw w4, x.w.cell? ⟨N, 1, none⟩ = some _ := fun x => x.h.cell q1 (by simp)
                have f2 : ∀ x : Gw w4, x.w.cell? ⟨N, 2, none⟩ = some _ := fun x => x.h.cell q2 (by simp)
                have f3 : ∀ x : Gw w4, x.w.cell? ⟨N, 3, none⟩ = some _ := fun x => x.h.cell q3 (by simp)
                have f4 : ∀ x : Gw w4, x.w.cell? ⟨N, 4, none⟩ = some _ := fun x => x.h.cell q4 (by simp)
                go_wp2_with fail
                refine region_grown (by kernel_rfl) (by kernel_rfl) ?_
                repeat (go_big_quiet_step ((first
                  | (go_at_call 9; exact Gw.call (HC1.out _))
                  | (go_at_call 13; exact Gw.call (HTd.out _))
                  | exact rfl)))
                refine wpQuiet_nil ?_
                rintro _ ⟨x, rfl⟩
                have AR5 : Hid (O6R x.w b1 v) := AR.out.kept x.h
                have G5 : Hid (w.grownBy x.w none) := grown_trans G1.out x.h
                clear AR G1 d1 d3 f0 f1 f2 f3 f4 HC1 HTd q0 q1 q2 q3 q4 HG HL20 OI HTw ne
                obtain ⟨w5, hw5⟩ : ∃ w5, w5 = x.w := ⟨_, rfl⟩
                rw [← hw5] at AR5 G5 ⊢
                clear hw5 x
                have p4 := AR5.out.p4
                go_wp2_with fail
                clear p4
                obtain ⟨i1, hi1⟩ : ∃ z, z = wrap64 v.y := ⟨_, rfl⟩
                rw [← hi1]
                have HG : Hid (Ru.Good 2 (Ru.bigL 2 i1 0)) := Ru.big_goodC (j1_rng hi1).1 (j1_rng hi1).2 0
                have HEnd : Hid (Ru.Ends (Ru.it (Ru.pgI 2 (Ru.bigL 2 i1 0)) 100 (Ru.pg0 v.x v.y)) v.y) := by
                  have := Ru.big_endC (j1_rng hi1).1 (j1_rng hi1).2 0 v.x v.y
                  rw [big_one y1 y2 hi1] at this
                  exact this
                clear hi1
                have HL20 : Hid ((Ru.bigL 2 i1 0).length ≤ 20) := by show _ ≤ 20; unfold Ru.bigL; simp
                have OI : Hid (OwnI (w5.alloc (Obj.cells #[.int .i64 1, .int .i64 4, .int .i64 0, .int .i64 0, .int .i64 0, .int .i64 0, .int .i64 0, .int .i64 i1, .int .i64 0] 34)) 0 (.slice (some ⟨w5.heap.size, 0, none⟩) 1 1) [⟨1, 4, 0, 0, 0, 0, 0, i1, 0⟩]) := OwnI.lit w5 0 [⟨1, 4, 0, 0, 0, 0, 0, i1, 0⟩] _ rfl (Nat.zero_le _) (by simp)
                have AR3 : Hid (O6R (w5.alloc (Obj.cells #[.int .i64 1, .int .i64 4, .int .i64 0, .int .i64 0, .int .i64 0, .int .i64 0, .int .i64 0, .int .i64 i1, .int .i64 0] 34)) b1 v) := AR5.out.kept (World.grownBy_alloc _ _ _)
                have G3 : Hid (w.grownBy (w5.alloc (Obj.cells #[.int .i64 1, .int .i64 4, .int .i64 0, .int .i64 0, .int .i64 0, .int .i64 0, .int .i64 0, .int .i64 i1, .int .i64 0] 34)) none) := grown_trans G5.out (World.grownBy_alloc _ _ _)
                clear AR5 G5
                generalize (w5.alloc (Obj.cells #[.int .i64 1, .int .i64 4, .int .i64 0, .int .i64 0, .int .i64 0, .int .i64 0, .int .i64 0, .int .i64 i1, .int .i64 0] 34)) = w3 at *
                obtain ⟨T1, hT1⟩ : ∃ T1, T1 = w5.heap.size := ⟨_, rfl⟩
                rw [← hT1] at OI ⊢
                clear hT1
                have AR := AR3
                have G1 := G3
                clear AR3 G3
                have HTw : Hid (TabAt w3) := HTb.out.kept G1.out (by simp)
                go_cut [10, 11] (fun p e wx => ∃ N ao cp C, p = .pointer (some ⟨N, 0, none⟩) ∧ e = .bool true ∧ ResAt (Ru.it (Ru.pgI 2 (Ru.bigL 2 i1 0)) 100 (Ru.pg0 v.x v.y)) N ao cp C wx ∧ w3.grownBy wx none)
                case first =>
                  refine region_late 13 11 _ _ _ (psiR 2 T1 1 b1 v.x v.y (Ru.bigL 2 i1 0) (Ru.it (Ru.pgI 2 (Ru.bigL 2 i1 0)) 100 (Ru.pg0 v.x v.y)) 4 w3.heap.size) (by kernel_rfl) (by kernel_rfl) rfl rfl rfl (by kernel_rfl) (by kernel_rfl) (fun i x w0 w1 hi h g => psiR_stable h g) ?_ ?_ ?_
                  · simp only [List.take_succ_cons, List.take_zero]
                    refine ⟨?_, ?_, ?_, ?_, ?_, ?_, ?_, ?_, ?_, ?_, ?_, ?_, ?_, trivial⟩
                    · intro V W0 A g hV hs h0
                      have e05 := h0 5 (.int .i64 2) (by kernel_rfl) rfl
                      clear hV hs h0
                      refine outO_val (v := .int .i64 2) (w' := W0) ?_ (World.grownBy.refl _ _) rfl
                      simp [go_sem, e05]
                    · intro V W0 A g hV hs h0
                      have e09 := h0 9 (.slice (some ⟨T1, 0, none⟩) 1 1) (by kernel_rfl) rfl
                      clear hV hs h0
                      refine outO_val (v := .slice (some ⟨T1, 0, none⟩) 1 1) (w' := W0) ?_ (World.grownBy.refl _ _) rfl
                      simp [go_sem, e09]
                    · intro V W0 A g hV hs h0
                      clear hV hs h0
                      refine outO_call (f := 12) ?_ (call_emit (by have := g.size; exact this))
                      simp [go_sem]
                    · intro V W0 A g hV hs h0
                      have gD := grown_trans (grown_drew (World.grownBy.refl _ none)) g
                      have hA := AR.out.kept gD
                      have h1 : V 1 = _ := hV 1 (by kernel_rfl)
                      obtain ⟨T2, h2, i2⟩ := hV 2 (by kernel_rfl)
                      have e1 := hs 88 1 (by kernel_rfl) (by kernel_rfl)
                      have e2 := hs 89 2 (by kernel_rfl) (by kernel_rfl)
                      clear hV hs h0
                      rw [h2] at i2
                      obtain ⟨v', w', er, o3, g3⟩ := run_appI (OI.out.grow gD) i2 rfl rfl (by decide) (by decide)
                      obtain ⟨ao3, c3, rfl, _, hz3⟩ := o3.slice
                      obtain ⟨T3, rfl, _⟩ := hz3 (by simp)
                      exact outO_app _ _ _ rfl ((eval_of e1).trans h1) ((eval_of e2).trans h2) er g3 ⟨T3, c3, rfl, World.ownsRow.mono o3 (by have := g.size; exact this)⟩
                    · intro V W0 A g hV hs h0
                      have e04 := h0 4 (.pointer (some ⟨b1, 0, none⟩)) (by kernel_rfl) rfl
                      clear hV hs h0
                      refine outO_val (v := .pointer (some ⟨b1, 3, none⟩)) (w' := W0) ?_ (World.grownBy.refl _ _) rfl
                      simp [go_sem, e04]
                    · intro V W0 A g hV hs h0
                      have gD := grown_trans (grown_drew (World.grownBy.refl _ none)) g
                      have hA := AR.out.kept gD
                      have h4 : V 4 = _ := hV 4 (by kernel_rfl)
                      have e4 := hs 91 4 (by kernel_rfl) (by kernel_rfl)
                      clear hV hs h0
                      refine outO_val (v := .int .u64 v.x) (w' := W0) ?_ (World.grownBy.refl _ _) rfl
                      simp [go_sem, e4, h4, hA.p3]
                    · intro V W0 A g hV hs h0
                      have e04 := h0 4 (.pointer (some ⟨b1, 0, none⟩)) (by kernel_rfl) rfl
                      clear hV hs h0
                      refine outO_val (v := .pointer (some ⟨b1, 4, none⟩)) (w' := W0) ?_ (World.grownBy.refl _ _) rfl
                      simp [go_sem, e04]
                    · intro V W0 A g hV hs h0
                      have gD := grown_trans (grown_drew (World.grownBy.refl _ none)) g
                      have hA := AR.out.kept gD
                      have h6 : V 6 = _ := hV 6 (by kernel_rfl)
                      have e6 := hs 93 6 (by kernel_rfl) (by kernel_rfl)
                      clear hV hs h0
                      refine outO_val (v := .int .u64 v.y) (w' := W0) ?_ (World.grownBy.refl _ _) rfl
                      simp [go_sem, e6, h6, hA.p4]
                    · intro V W0 A g hV hs h0
                      have gD := grown_trans (grown_drew (World.grownBy.refl _ none)) g
                      have hA := AR.out.kept gD
                      have h00 : V 0 = _ := hV 0 (by kernel_rfl)
                      obtain ⟨T3, c3, h3, i3⟩ := hV 3 (by kernel_rfl)
                      have h5 : V 5 = _ := hV 5 (by kernel_rfl)
                      have h7 : V 7 = _ := hV 7 (by kernel_rfl)
                      have e0 := hs 87 0 (by kernel_rfl) (by kernel_rfl)
                      have e3 := hs 90 3 (by kernel_rfl) (by kernel_rfl)
                      have e5 := hs 92 5 (by kernel_rfl) (by kernel_rfl)
                      have e7 := hs 94 7 (by kernel_rfl) (by kernel_rfl)
                      clear hV hs h0
                      rw [h3] at i3
                      refine outO_call (f := 11) ?_ (call_ran (by decide) HX.out HY.out (HTw.out.kept gD (by simp)) HL20.out i3 HG.out)
                      simp [go_sem, e0, e3, e5, e7, h00, h3, h5, h7]
                    · intro V W0 A g hV hs h0
                      obtain ⟨r, h8, i8⟩ := hV 8 (by kernel_rfl)
                      have e8 := hs 95 8 (by kernel_rfl) (by kernel_rfl)
                      clear hV hs h0
                      exact outO_val (v := V 8) (w' := W0) (by simp [go_sem, e8]) (World.grownBy.refl _ _) ⟨r, h8, i8⟩
                    · intro V W0 A g hV hs h0
                      obtain ⟨r, h9, i9⟩ := hV 9 (by kernel_rfl)
                      have e9 := hs 86 9 (by kernel_rfl) (by kernel_rfl)
                      clear hV hs h0
                      refine outO_val (v := r) (w' := W0) ?_ (World.grownBy.refl _ _) i9
                      simp [go_sem, e9, h9]
                    · intro V W0 A g hV hs h0
                      obtain ⟨r, h9, i9⟩ := hV 9 (by kernel_rfl)
                      have e9 := hs 86 9 (by kernel_rfl) (by kernel_rfl)
                      clear hV hs h0
                      refine outO_val (v := .bool true) (w' := W0) ?_ (World.grownBy.refl _ _) rfl
                      simp [go_sem, e9, h9]
                    · intro V W0 A g hV hs h0
                      clear hV hs h0
                      refine outO_val (v := .pointer (some ⟨W0.heap.size, 0, none⟩)) (w' := W0.alloc (Obj.cells #[.slice none 0 0, .slice none 0 0, .int .i64 0, .int .i64 0, .int .i64 0] 38)) ?_ (World.grownBy_alloc _ _ _) ⟨W0.heap.size, rfl, row5_new _ _ _ _ _ _ _, by have := g.size; exact this⟩
                      simp [go_sem]
                  · intro V W0 g hV
                    have h0 : V 0 = _ := hV 0 (by decide)
                    have h1 : V 1 = _ := hV 1 (by decide)
                    have h4 : V 4 = _ := hV 4 (by decide)
                    have h5 : V 5 = _ := hV 5 (by decide)
                    have h6 : V 6 = _ := hV 6 (by decide)
                    have h7 : V 7 = _ := hV 7 (by decide)
                    obtain ⟨T2, h2, _⟩ := hV 2 (by decide)
                    obtain ⟨T3, c3, h3, _⟩ := hV 3 (by decide)
                    obtain ⟨r8, h8, _⟩ := hV 8 (by decide)
                    obtain ⟨r9, h9, _⟩ := hV 9 (by decide)
                    obtain ⟨ao, cp, C, h10, hrw⟩ := hV 10 (by decide)
                    have h11 : V 11 = _ := hV 11 (by decide)
                    obtain ⟨N, h12, hrow, hN⟩ := hV 12 (by decide)
                    have HR2 : Hid (W0.rowIs N 38 5 (row5 (.slice none 0 0) (.slice none 0 0) (.int .i64 0) (.int .i64 0) (.int .i64 0))) := hrow
                    have HRW : Hid (RwIn .u64 W0 ao (Ru.it (Ru.pgI 2 (Ru.bigL 2 i1 0)) 100 (Ru.pg0 v.x v.y)).out.length cp (fun i => (Ru.it (Ru.pgI 2 (Ru.bigL 2 i1 0)) 100 (Ru.pg0 v.x v.y)).out.getD i 0)) := hrw
                    obtain ⟨z0, z1, z2, z3, z4, zz⟩ := rowIs_five hrow
                    simp [frV, dstOf, Act.put, h0, h1, h2, h3, h4, h5, h6, h7, h8, h9, h10, h11, h12]
                    clear h0 h1 h2 h3 h4 h5 h6 h7 h8 h9 h10 h11 h12 hV hrow hrw
                    have GR : Hid (∀ C : Int, ResAt (Ru.it (Ru.pgI 2 (Ru.bigL 2 i1 0)) 100 (Ru.pg0 v.x v.y)) N ao cp C (put5 W0 N (.slice ao (Ru.it (Ru.pgI 2 (Ru.bigL 2 i1 0)) 100 (Ru.pg0 v.x v.y)).out.length cp) (.slice none 0 0) (.int .i64 (if (Ru.it (Ru.pgI 2 (Ru.bigL 2 i1 0)) 100 (Ru.pg0 v.x v.y)).e = 0 then 3 else (Ru.it (Ru.pgI 2 (Ru.bigL 2 i1 0)) 100 (Ru.pg0 v.x v.y)).e)) (.int .i64 (Ru.it (Ru.pgI 2 (Ru.bigL 2 i1 0)) 100 (Ru.pg0 v.x v.y)).n) (.int .i64 C)) ∧ w3.grownBy (put5 W0 N (.slice ao (Ru.it (Ru.pgI 2 (Ru.bigL 2 i1 0)) 100 (Ru.pg0 v.x v.y)).out.length cp) (.slice none 0 0) (.int .i64 (if (Ru.it (Ru.pgI 2 (Ru.bigL 2 i1 0)) 100 (Ru.pg0 v.x v.y)).e = 0 then 3 else (Ru.it (Ru.pgI 2 (Ru.bigL 2 i1 0)) 100 (Ru.pg0 v.x v.y)).e)) (.int .i64 (Ru.it (Ru.pgI 2 (Ru.bigL 2 i1 0)) 100 (Ru.pg0 v.x v.y)).n) (.int .i64 C)) none) := fun C => res_put6 (grown_trans (grown_drew (World.grownBy.refl _ none)) g) hN HR2.out HRW.out
                    clear HRW
                    generalize (if (Ru.it (Ru.pgI 2 (Ru.bigL 2 i1 0)) 100 (Ru.pg0 v.x v.y)).e = 0 then 3 else (Ru.it (Ru.pgI 2 (Ru.bigL 2 i1 0)) 100 (Ru.pg0 v.x v.y)).e) = E at *
                    obtain ⟨Z, hZ⟩ : ∃ Z, Z = (Ru.it (Ru.pgI 2 (Ru.bigL 2 i1 0)) 100 (Ru.pg0 v.x v.y)).n := ⟨_, rfl⟩
                    obtain ⟨ln, hln⟩ : ∃ ln, ln = (Ru.it (Ru.pgI 2 (Ru.bigL 2 i1 0)) 100 (Ru.pg0 v.x v.y)).out.length := ⟨_, rfl⟩
                    rw [← hZ, ← hln] at GR ⊢
                    clear hZ hln
                    go_wp2_with fail
                    go_meet
                    exact ⟨N, ao, cp, C, rfl, rfl, GR.out C⟩
                  · intro V W0 g hV hold
                    have h0 : V 0 = _ := hV 0 (by decide) (by decide)
                    have h1 : V 1 = _ := hV 1 (by decide) (by decide)
                    have h4 : V 4 = _ := hV 4 (by decide) (by decide)
                    have h5 : V 5 = _ := hV 5 (by decide) (by decide)
                    have h6 : V 6 = _ := hV 6 (by decide) (by decide)
                    have h7 : V 7 = _ := hV 7 (by decide) (by decide)
                    obtain ⟨T2, h2, _⟩ := hV 2 (by decide) (by decide)
                    obtain ⟨T3, c3, h3, _⟩ := hV 3 (by decide) (by decide)
                    obtain ⟨r8, h8, _⟩ := hV 8 (by decide) (by decide)
                    obtain ⟨r9, h9, _⟩ := hV 9 (by decide) (by decide)
                    obtain ⟨ao, cp, C, h10, hrw⟩ := hV 10 (by decide) (by decide)
                    obtain ⟨y, h11⟩ : ∃ y, V 11 = y := ⟨_, rfl⟩
                    obtain ⟨N, h12, hrow, hN⟩ := hV 12 (by decide) (by decide)
                    have HR2 : Hid (W0.rowIs N 38 5 (row5 (.slice none 0 0) (.slice none 0 0) (.int .i64 0) (.int .i64 0) (.int .i64 0))) := hrow
                    have HRW : Hid (RwIn .u64 W0 ao (Ru.it (Ru.pgI 2 (Ru.bigL 2 i1 0)) 100 (Ru.pg0 v.x v.y)).out.length cp (fun i => (Ru.it (Ru.pgI 2 (Ru.bigL 2 i1 0)) 100 (Ru.pg0 v.x v.y)).out.getD i 0)) := hrw
                    obtain ⟨z0, z1, z2, z3, z4, zz⟩ := rowIs_five hrow
                    simp [frV, dstOf, Act.put, h0, h1, h2, h3, h4, h5, h6, h7, h8, h9, h10, h11, h12]
                    clear h0 h1 h2 h3 h4 h5 h6 h7 h8 h9 h10 h11 h12 hV hrow hrw hold
                    have GR : Hid (∀ C : Int, ResAt (Ru.it (Ru.pgI 2 (Ru.bigL 2 i1 0)) 100 (Ru.pg0 v.x v.y)) N ao cp C (put5 W0 N (.slice ao (Ru.it (Ru.pgI 2 (Ru.bigL 2 i1 0)) 100 (Ru.pg0 v.x v.y)).out.length cp) (.slice none 0 0) (.int .i64 (if (Ru.it (Ru.pgI 2 (Ru.bigL 2 i1 0)) 100 (Ru.pg0 v.x v.y)).e = 0 then 3 else (Ru.it (Ru.pgI 2 (Ru.bigL 2 i1 0)) 100 (Ru.pg0 v.x v.y)).e)) (.int .i64 (Ru.it (Ru.pgI 2 (Ru.bigL 2 i1 0)) 100 (Ru.pg0 v.x v.y)).n) (.int .i64 C)) ∧ w3.grownBy (put5 W0 N (.slice ao (Ru.it (Ru.pgI 2 (Ru.bigL 2 i1 0)) 100 (Ru.pg0 v.x v.y)).out.length cp) (.slice none 0 0) (.int .i64 (if (Ru.it (Ru.pgI 2 (Ru.bigL 2 i1 0)) 100 (Ru.pg0 v.x v.y)).e = 0 then 3 else (Ru.it (Ru.pgI 2 (Ru.bigL 2 i1 0)) 100 (Ru.pg0 v.x v.y)).e)) (.int .i64 (Ru.it (Ru.pgI 2 (Ru.bigL 2 i1 0)) 100 (Ru.pg0 v.x v.y)).n) (.int .i64 C)) none) := fun C => res_put6 (grown_trans (grown_drew (World.grownBy.refl _ none)) g) hN HR2.out HRW.out
                    clear HRW
                    generalize (if (Ru.it (Ru.pgI 2 (Ru.bigL 2 i1 0)) 100 (Ru.pg0 v.x v.y)).e = 0 then 3 else (Ru.it (Ru.pgI 2 (Ru.bigL 2 i1 0)) 100 (Ru.pg0 v.x v.y)).e) = E at *
                    obtain ⟨Z, hZ⟩ : ∃ Z, Z = (Ru.it (Ru.pgI 2 (Ru.bigL 2 i1 0)) 100 (Ru.pg0 v.x v.y)).n := ⟨_, rfl⟩
                    obtain ⟨ln, hln⟩ : ∃ ln, ln = (Ru.it (Ru.pgI 2 (Ru.bigL 2 i1 0)) 100 (Ru.pg0 v.x v.y)).out.length := ⟨_, rfl⟩
                    rw [← hZ, ← hln] at GR ⊢
                    clear hZ hln
                    go_wp2_with fail
                    go_meet
                    exact ⟨N, ao, cp, C, rfl, rfl, GR.out C⟩
                case rest =>
                  obtain ⟨N, ao, cp, C, rfl, rfl, hres, g4⟩ := hcut
                  obtain ⟨w4, hwc⟩ : ∃ x, x = wc := ⟨_, rfl⟩
                  rw [← hwc] at hres g4 ⊢
                  clear hwc
                  have G4 : Hid (w.grownBy w4 none) := grown_trans G1.out g4
                  have AR4 : Hid (O6R w4 b1 v) := AR.out.kept g4
                  clear AR G1 g4
                  have AR := AR4
                  have G1 := G4
                  clear AR4 G4
                  obtain ⟨hrow, hrw⟩ := hres
                  obtain ⟨o1, e1, n1⟩ := HEnd.out
                  generalize (Ru.it (Ru.pgI 2 (Ru.bigL 2 i1 0)) 100 (Ru.pg0 v.x v.y)) = TT at *
                  rw [o1, e1, n1] at hrow
                  rw [o1] at hrw
                  clear o1 e1 n1 HEnd
                  obtain ⟨gg, oo, rfl, hc⟩ := hrw.at (by simp)
                  have hc0 : w4.cell? ⟨gg, oo, none⟩ = some (.int .u64 (v.y)) := by simpa using hc 0 (by simp)
                  have hrow2 : w4.rowIs N 38 5 (row5 (.slice (some ⟨gg, oo, none⟩) 1 cp) (.slice none 0 0) (.int .i64 1) (.int .i64 (Wd.sg (v.y))) (.int .i64 C)) := hrow
                  obtain ⟨q0, q1, q2, q3, q4, qz⟩ := rowIs_five hrow2
                  clear hrow hrow2 hrw hc qz

                  have HTd : Hid (Calls Tryz.prog 13 #[.agg #[.slice (some ⟨gg, oo, none⟩) 1 cp, .slice none 0 0, .int .i64 1, .int .i64 (Wd.sg v.y), .int .i64 C], .int .u64 v.y] w4 fun r w' => r = .returned (.bool true) ∧ w4.grownBy w' none) := told_true gg oo cp v.y C w4 hc0
                  clear hc0
                  generalize Wd.sg v.y = SG at *
                  have p4 := AR.out.p4
                  go_wp2_with fail
                  refine HTd.out.mono ?_
                  rintro r w6 ⟨rfl, g6⟩
                  go_wp2_with fail
                  go_roundw
                  case rel => exact ⟨k + 1, by go_num, by omega, by omega, grown_trans G1.out g6⟩
                  case measure => simp [intOf]; omega
        · have h6' : decide ((k : Int) < 40) = false := decide_eq_false (by omega)
          go_wp2_with (go_at_call 14; refine (HW.out _).mono ?_; rintro r w1 ⟨rfl, g1⟩)
          go_ret
          exact ⟨rfl, below6 (grown_trans HG0.out g1)⟩
      · have hkl' : decide ((k : Int) < len) = false := decide_eq_false (by omega)
        go_wp2_with (go_at_call 14; refine (HW.out _).mono ?_; rintro r w1 ⟨rfl, g1⟩)
        go_ret
        exact ⟨rfl, below6 (grown_trans HG0.out g1)⟩
end Go.Proofs.YtdklaeppcjopoaaGreatDoor

/- What the listed variables give the walks: the table of package math/bits. -/
namespace Go.Proofs.YtdklaeppcjopoaaGreatDoor
open Go.ChangeShapes Go.WideShapes Go.ChangeAt Go.RowKit
set_option linter.unusedVariables false

def laid2 : List (String × DataW Unit) := [("math/bits.deBruijn32tab", Rows.laid_math_bits_deBruijn32tab), ("math/bits.deBruijn64tab", Rows.laid_math_bits_deBruijn64tab)]
theorem g64 : Tryz.prog.globalNamed "math/bits.deBruijn64tab" = some 2 := by kernel_rfl
theorem t64 : (Tryz.prog.globals[2]?).map (·.type) = some 171 := by kernel_rfl
theorem cells64 : Tryz.prog.cellsOf 171 = 64 := by kernel_rfl
theorem cells8 : Tryz.prog.cellsOf 5 = 1 := by kernel_rfl
theorem data64 : (Rows.laid_math_bits_deBruijn64tab : DataW Unit) = Lib.tabData .u8 Cc.tzL := rfl
theorem tab_of_laid {W : World} (h : laidMetH Tryz.prog laid2 W) : TabAt W := by
  rw [MakeChecks.laidMetH_plain _ _ _ (by kernel_rfl)] at h
  have h2 := laidMet.tail h
  rw [data64] at h2
  have hT := Lib.tabIs_of_head g64 t64 Tryz.underlying171 Tryz.underlying5 cells8 cells64 h2
  have hc : ∀ i, i < 64 → W.cell? ⟨2, i, none⟩ = some (.int .u8 (Cc.tzL.getD i 0)) := fun i hi => hT.cell g64 i hi
  exact ⟨World.block_lt_of_cell? W ⟨2, 0, none⟩ (hc 0 (by decide)), hc⟩
/-- the door's own heap meets the condition -/
theorem door_met (os : Os) (args : Array Value) : laidMetH Tryz.prog laid2 ((World.doorLaid Tryz.prog 19 os).forCall (fun _ _ => 0) ⟨#[], args, []⟩).memory :=
  laidMetH_of_parts3 (fuel := 8) (laidMet_of_run' 8 (by kernel_rfl) (by kernel_rfl)) (by kernel_rfl) (by kernel_rfl)
end Go.Proofs.YtdklaeppcjopoaaGreatDoor
