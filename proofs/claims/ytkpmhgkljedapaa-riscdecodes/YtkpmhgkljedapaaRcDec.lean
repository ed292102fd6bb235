/- RiscDecodes: the walk. -/
import Derived.Test.YtkpmhgkljedapaaRcRows
namespace Go.Proofs.Ytkpmhgkljedapaa
open Go.RowKit
set_option linter.unusedVariables false

theorem Bs.kept {w w' : World} {ao : Option Addr} {n : Nat} {g : Nat → Int} (h : Bs w ao n g) (hg : w.grownBy w' none) : Bs w' ao n g := by
  rcases h with h | ⟨b, off, e, hc⟩
  · exact .inl h
  · exact .inr ⟨b, off, e, fun i hi => hg.cell (hc i hi) (by simp)⟩

set_option maxRecDepth 100000 in
set_option maxHeartbeats 8000000 in
theorem riscDecodes_walk (a0 : Option Addr) (len cap : Nat) (V : Nat → RowV) (w : World) (hop : IsRowsB w a0 len cap V) :
    Calls Try.prog 4 #[.slice a0 len cap] w fun e w' => e = .returned (.bool true) ∧ Below w.heap.size w w' := by
  obtain ⟨hlc, hcm, hop⟩ := hop
  have hcap : (len : Int) ≤ 9223372036854775807 := by unfold maxLen at hcm; omega
  have HO : Hid (len = 0 ∨ ∃ b off, a0 = some ⟨b, off, none⟩ ∧ b < w.heap.size ∧ ∀ i, i < len → w.cell? ⟨b, off + i, none⟩ = some (.slice (V i).ao (V i).n (V i).cap) ∧ BsIn w (V i).ao (V i).n (V i).cap (V i).g) := hop
  clear hop hcm hlc
  go_enter Try.func4, Try.ntmps4
  go_wp2
  go_loopw [3] (fun s wr => ∃ i : Nat, s = .int .i64 i ∧ i ≤ 100 ∧ Below w.heap.size w wr) (fun s _ => 100 - (intOf s).toNat)
  case atStart => exact ⟨0, rfl, by omega, Below.refl _ _⟩
  case round =>
    obtain ⟨i, rfl, hi, hbel⟩ := hrel
    by_cases hlt : i < len
    · by_cases h100 : (i : Int) < 100
      · rcases HO.out with h0 | ⟨b, off, rfl, hbb, HV⟩
        · omega
        obtain ⟨o1, f1⟩ := HV i hlt
        have c0 : wr.cell? ⟨b, off + i, none⟩ = some (.slice (V i).ao (V i).n (V i).cap) := (hbel.cell (p := ⟨b, off + i, none⟩) hbb).trans o1
        have HB : Hid (BsIn wr (V i).ao (V i).n (V i).cap (V i).g) := f1.below hbel rfl
        clear o1 f1 HV HO
        generalize V i = v at *
        obtain ⟨ao, n, cp, g⟩ := v
        dsimp only at c0 HB
        by_cases h4 : (4000 : Int) < n
        · go_wp2
          go_ret
          exact ⟨rfl, hbel⟩
        · have h4' : (n : Int) ≤ 4000 := by omega
          have HX := Rc.x_cases n g
          rcases HX with ⟨hE, hN⟩ | ⟨hE, hN⟩ | ⟨hE, hN⟩
          all_goals
            go_wp2_with (go_at_call 13; refine (copyB n cp ao g _ (by omega) HB.out.nil HB.out.bs).mono ?_; rintro e w4 ⟨x4, rfl, ho4, hg4⟩; obtain ⟨a4, c4, rfl, _, hc4, _, hb4⟩ := ho4.shape)
            refine (decode_own ho4 HB.out.fit).mono ?_
            rw [hE, hN]
            rintro e w5 ⟨rfl, hg5⟩
            have HR : Hid (∀ W, wr.grownBy W none → Calls Try.prog 15 #[.slice ao n cp] W fun e w' => e = .returned (.tuple #[.agg #[.int .i64 (Rc.xv n g).op, .int .i64 (Rc.xv n g).a, .int .i64 (Rc.xv n g).b, .int .i64 (Rc.xv n g).c, .int .i64 (Rc.xv n g).k, .int .i64 (Rc.xv n g).sub, .int .i64 (Rc.xv n g).scale, .int .i64 (Rc.xv n g).imm, .int .i64 (Rc.xv n g).label], .int .i64 (Rc.xe n g)]) ∧ W.grownBy w' none) := fun W hW => rdecode_in (HB.out.kept hW)
            rw [hE] at HR
            clear hE hN
            generalize Rc.xv n g = X at *
            have G5 := grown_trans (grown_trans hg4 hg5) (World.grownBy_alloc w5 (Obj.cells #[.int .i64 X.op, .int .i64 X.a, .int .i64 X.b, .int .i64 X.c, .int .i64 X.k, .int .i64 X.sub, .int .i64 X.scale, .int .i64 X.imm, .int .i64 X.label] 28) none)
            have c5 := G5.cell c0 (by simp)
            go_wp2_with fail
            refine (HR.out _ G5).mono ?_
            rintro e w6 ⟨rfl, hg6⟩
            have G7 := grown_trans (grown_trans G5 hg6) (World.grownBy_alloc w6 (Obj.cells #[.int .i64 X.op, .int .i64 X.a, .int .i64 X.b, .int .i64 X.c, .int .i64 X.k, .int .i64 X.sub, .int .i64 X.scale, .int .i64 X.imm, .int .i64 X.label] 28) none)
            have c7 := G7.cell c0 (by simp)
            have IX := (((InstAt.new w5 X).kept hg6 (by simp)).kept (World.grownBy_alloc w6 (Obj.cells #[.int .i64 X.op, .int .i64 X.a, .int .i64 X.b, .int .i64 X.c, .int .i64 X.k, .int .i64 X.sub, .int .i64 X.scale, .int .i64 X.imm, .int .i64 X.label] 28) none) (by simp))
            have IY := InstAt.new w6 X
            have B4 : Hid (Bs (w6.alloc (Obj.cells #[.int .i64 X.op, .int .i64 X.a, .int .i64 X.b, .int .i64 X.c, .int .i64 X.k, .int .i64 X.sub, .int .i64 X.scale, .int .i64 X.imm, .int .i64 X.label] 28)) a4 n g) := hb4.kept (grown_trans (grown_trans hg5 (World.grownBy_alloc w5 (Obj.cells #[.int .i64 X.op, .int .i64 X.a, .int .i64 X.b, .int .i64 X.c, .int .i64 X.k, .int .i64 X.sub, .int .i64 X.scale, .int .i64 X.imm, .int .i64 X.label] 28) none)) (grown_trans hg6 (World.grownBy_alloc w6 (Obj.cells #[.int .i64 X.op, .int .i64 X.a, .int .i64 X.b, .int .i64 X.c, .int .i64 X.k, .int .i64 X.sub, .int .i64 X.scale, .int .i64 X.imm, .int .i64 X.label] 28) none)))
            have B0 : Hid (Bs (w6.alloc (Obj.cells #[.int .i64 X.op, .int .i64 X.a, .int .i64 X.b, .int .i64 X.c, .int .i64 X.k, .int .i64 X.sub, .int .i64 X.scale, .int .i64 X.imm, .int .i64 X.label] 28)) ao n g) := HB.out.bs.kept G7
            go_wp2_with fail
            generalize w6.alloc (Obj.cells #[.int .i64 X.op, .int .i64 X.a, .int .i64 X.b, .int .i64 X.c, .int .i64 X.k, .int .i64 X.sub, .int .i64 X.scale, .int .i64 X.imm, .int .i64 X.label] 28) = W7 at *
            obtain ⟨x0, x1, x2, x3, x4, x5, x6, x7, x8, xz⟩ := IX
            obtain ⟨y0, y1, y2, y3, y4, y5, y6, y7, y8, yz⟩ := IY
            go_wp2_with (first
              | (go_at_call 8; refine (num_any _ _).mono ?_; rintro e w8 ⟨rfl, rfl⟩)
              | (go_at_call 9; refine (eqB n c4 cp a4 ao g g _ (by omega) B4.out B0.out (fun _ _ => rfl)).mono ?_; rintro e w9 ⟨rfl, d, rfl⟩))
            go_roundw
            case rel => exact ⟨i + 1, by go_num, by omega, hbel.grown (grown_drewN G7 d) hbel.size (by simp)⟩
            case measure => simp [intOf]; omega
      · clear HO
        go_wp2_with (go_at_call 12; refine (wakes_any _).mono ?_; rintro e w7 ⟨rfl, hg7⟩)
        go_ret
        exact ⟨rfl, hbel.grown hg7 hbel.size (by simp)⟩
    · clear HO
      go_wp2_with (go_at_call 12; refine (wakes_any _).mono ?_; rintro e w7 ⟨rfl, hg7⟩)
      go_ret
      exact ⟨rfl, hbel.grown hg7 hbel.size (by simp)⟩

end Go.Proofs.Ytkpmhgkljedapaa
