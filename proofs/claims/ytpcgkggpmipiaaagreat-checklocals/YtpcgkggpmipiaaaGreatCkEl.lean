/- check's table: what a pointer points to. -/
import Derived.Test.YtpcgkggpmipiaaaGreatG10
namespace Go.Proofs.YtpcgkggpmipiaaaGreat
set_option maxRecDepth 100000
set_option maxHeartbeats 32000000
open Go.RowKit
set_option linter.unusedVariables false
theorem ckBehind_any {N : Nat} {w : World} {ea va : Option Addr} {ec vc n : Nat} {T : Nat → Ty.TyV} (h : Tb N w ea ec va vc T n) {i : Nat} (hi : i < n) : Calls Tryz.prog 169 #[.agg #[.slice ea n ec, .slice va n vc], .int .i64 (i : Int)] w fun r w' => r = .returned (.tuple #[.int .i64 (T i).elem, .bool ((T i).kind == 11)]) ∧ w.grownBy w' none := by
 obtain ⟨eb, eo, fa, fc, hea, _, _⟩ := h.t.at hi
 subst hea
 have hle := h.t.le
 have hi' : (i : Int) < n := by omega
 obtain ⟨W1, hW1⟩ : ∃ W1, W1 = w.alloc (Obj.cells #[.slice (some ⟨eb, eo, none⟩) n ec, .slice va n vc] 74) := ⟨_, rfl⟩
 obtain ⟨B2, hB2⟩ : ∃ B2, B2 = w.heap.size := ⟨_, rfl⟩
 have g1 : w.grownBy W1 none := by rw [hW1]; exact World.grownBy_alloc _ _ _
 have kb : Bk W1 B2 74 [.slice (some ⟨eb, eo, none⟩) n ec, .slice va n vc] := by rw [hW1, hB2]; exact Bk.new _ _ _
 have m0 := kb.cell (i := 0) rfl
 have m1 := kb.cell (i := 1) rfl
 have c1 : W1.cell? ⟨eb, eo + i * 4 + 1, none⟩ = some (.int .i64 (T i).elem) := by obtain ⟨_, _, _, _, e1, _, e2⟩ := (h.t.grow9 g1).at hi; injection e1 with e1; injection e1 with e1 e3; subst e1 e3; exact e2.c1
 have HK : Hid (∀ W, W1.grownBy W none → Calls Tryz.prog 93 #[.agg #[.slice (some ⟨eb, eo, none⟩) n ec, .slice va n vc], .int .i64 (i : Int)] W fun r w' => r = .returned (.int .i64 (T i).kind) ∧ W.grownBy w' none) := fun W gg => ckKind_any (h.grow (grown_trans g1 gg)) hi
 have HG1 : Hid (w.grownBy W1 none) := g1
 have HW : Hid (w.alloc (Obj.cells #[.slice (some ⟨eb, eo, none⟩) n ec, .slice va n vc] 74) = W1 ∧ w.heap.size = B2) := ⟨hW1.symm, hB2.symm⟩
 clear h kb g1 hW1 hB2
 generalize T i = x at *
 by_cases q0 : x.kind = 11
 ·skip
  go_enter Tryz.func169, Tryz.ntmps169
  go_wp2_with fail
  rw [HW.out.1, HW.out.2]
  refine region_gd (fun w w' => w.grownBy w' none) (fun h1 h2 => grown_trans h1 h2) (fun w => World.grownBy.refl _ _) 11 (psiL [eqV (.pointer (some ⟨B2, 0, none⟩)), eqV (.slice (some ⟨eb, eo, none⟩) n ec), eqV (.int .i64 (i : Int)), eqV (.pointer (some ⟨eb, eo + i * 4, none⟩)), eqV (.pointer (some ⟨eb, eo + i * 4 + 1, none⟩)), eqV (.int .i64 x.elem), eqV (.agg #[.slice (some ⟨eb, eo, none⟩) n ec, .slice va n vc]), eqV (.int .i64 (i : Int)), eqV (.int .i64 x.kind), eqV (.bool true), eqV (.int .i64 x.elem)]) (by kernel_rfl) (by kernel_rfl) (by kernel_rfl) (by kernel_rfl) (psiL_hst (by repeat (first | exact stab_nil | refine stab_cons ?_ ?_ | exact stab_eq _))) ?_ ?_
  ·simp only [List.take_succ_cons, List.take_zero]
   refine ⟨?_, ?_, ?_, ?_, ?_, ?_, ?_, ?_, ?_, ?_, ?_, trivial⟩
   ·intro VV W0 AA g hV hs hz
    refine outG_yes (by simp [wantedV]) ?_
    have e02 := hz 2 (.pointer (some ⟨B2, 0, none⟩)) (by kernel_rfl) rfl
    refine outR_val (by kernel_rfl) (v := .pointer (some ⟨B2, 0, none⟩)) (w' := W0) ?_ (World.grownBy.refl _ _) rfl
    simp [go_sem, e02]
   ·intro VV W0 AA g hV hs hz
    refine outG_yes (by simp [wantedV]) ?_
    have gD : W1.grownBy W0 none := gdd g
    have q0 : VV 0 = .pointer (some ⟨B2, 0, none⟩) := hV 0 (by kernel_rfl)
    have e0 := hs 6 0 (by kernel_rfl) (by kernel_rfl)
    have x0 := (gD.cell m0 (by simp))
    refine outR_val (by kernel_rfl) (v := .slice (some ⟨eb, eo, none⟩) n ec) (w' := W0) ?_ (World.grownBy.refl _ _) rfl
    simp [go_sem, q0, e0, x0]
   ·intro VV W0 AA g hV hs hz
    refine outG_yes (by simp [wantedV]) ?_
    have e01 := hz 1 (.int .i64 (i : Int)) (by kernel_rfl) rfl
    refine outR_val (by kernel_rfl) (v := .int .i64 (i : Int)) (w' := W0) ?_ (World.grownBy.refl _ _) rfl
    simp [go_sem, e01]
   ·intro VV W0 AA g hV hs hz
    refine outG_yes (by simp [wantedV]) ?_
    have q1 : VV 1 = .slice (some ⟨eb, eo, none⟩) n ec := hV 1 (by kernel_rfl)
    have e1 := hs 7 1 (by kernel_rfl) (by kernel_rfl)
    have q2 : VV 2 = .int .i64 (i : Int) := hV 2 (by kernel_rfl)
    have e2 := hs 8 2 (by kernel_rfl) (by kernel_rfl)
    refine outR_val (by kernel_rfl) (v := .pointer (some ⟨eb, eo + i * 4, none⟩)) (w' := W0) ?_ (World.grownBy.refl _ _) rfl
    simp [go_sem, q1, e1, q2, e2, hi']
   ·intro VV W0 AA g hV hs hz
    refine outG_yes (by simp [wantedV]) ?_
    have q3 : VV 3 = .pointer (some ⟨eb, eo + i * 4, none⟩) := hV 3 (by kernel_rfl)
    have e3 := hs 9 3 (by kernel_rfl) (by kernel_rfl)
    refine outR_val (by kernel_rfl) (v := .pointer (some ⟨eb, eo + i * 4 + 1, none⟩)) (w' := W0) ?_ (World.grownBy.refl _ _) rfl
    simp [go_sem, q3, e3]
   ·intro VV W0 AA g hV hs hz
    refine outG_yes (by simp [wantedV]) ?_
    have gD : W1.grownBy W0 none := gdd g
    have q4 : VV 4 = .pointer (some ⟨eb, eo + i * 4 + 1, none⟩) := hV 4 (by kernel_rfl)
    have e4 := hs 10 4 (by kernel_rfl) (by kernel_rfl)
    have x0 := (gD.cell c1 (by simp))
    refine outR_val (by kernel_rfl) (v := .int .i64 x.elem) (w' := W0) ?_ (World.grownBy.refl _ _) rfl
    simp [go_sem, q4, e4, x0]
   ·intro VV W0 AA g hV hs hz
    refine outG_yes (by simp [wantedV]) ?_
    have gD : W1.grownBy W0 none := gdd g
    have e02 := hz 2 (.pointer (some ⟨B2, 0, none⟩)) (by kernel_rfl) rfl
    have x0 := (gD.cell m0 (by simp))
    have x1 := (gD.cell m1 (by simp))
    refine outR_val (by kernel_rfl) (v := .agg #[.slice (some ⟨eb, eo, none⟩) n ec, .slice va n vc]) (w' := W0) ?_ (World.grownBy.refl _ _) rfl
    simp [go_sem, e02, x0, x1]
   ·intro VV W0 AA g hV hs hz
    refine outG_yes (by simp [wantedV]) ?_
    have e01 := hz 1 (.int .i64 (i : Int)) (by kernel_rfl) rfl
    refine outR_val (by kernel_rfl) (v := .int .i64 (i : Int)) (w' := W0) ?_ (World.grownBy.refl _ _) rfl
    simp [go_sem, e01]
   ·intro VV W0 AA g hV hs hz
    refine outG_yes (by simp [wantedV]) ?_
    have gD : W1.grownBy W0 none := gdd g
    have q6 : VV 6 = .agg #[.slice (some ⟨eb, eo, none⟩) n ec, .slice va n vc] := hV 6 (by kernel_rfl)
    have e6 := hs 12 6 (by kernel_rfl) (by kernel_rfl)
    have q7 : VV 7 = .int .i64 (i : Int) := hV 7 (by kernel_rfl)
    have e7 := hs 13 7 (by kernel_rfl) (by kernel_rfl)
    refine outR_call (by kernel_rfl) (f := 93) ?_ ((HK.out W0 gD).mono fun e w2 ⟨he, hg⟩ => ⟨_, he, hg, rfl⟩)
    simp [go_sem, q6, e6, q7, e7]
   ·intro VV W0 AA g hV hs hz
    refine outG_yes (by simp [wantedV]) ?_
    have q8 : VV 8 = .int .i64 x.kind := hV 8 (by kernel_rfl)
    have e8 := hs 14 8 (by kernel_rfl) (by kernel_rfl)
    refine outR_val (by kernel_rfl) (v := .bool true) (w' := W0) ?_ (World.grownBy.refl _ _) rfl
    simp [go_sem, q8, e8, q0]
   ·intro VV W0 AA g hV hs hz
    refine outG_yes (by simp [wantedV]) ?_
    have q5 : VV 5 = .int .i64 x.elem := hV 5 (by kernel_rfl)
    have e5 := hs 11 5 (by kernel_rfl) (by kernel_rfl)
    refine outR_val (by kernel_rfl) (v := .int .i64 x.elem) (w' := W0) ?_ (World.grownBy.refl _ _) rfl
    simp [go_sem, q5, e5]
  ·intro VV W0 g hV
   have gD : W1.grownBy W0 none := gdd g
   have h0 : VV 0 = .pointer (some ⟨B2, 0, none⟩) := hV 0 (by decide)
   have h1 : VV 1 = .slice (some ⟨eb, eo, none⟩) n ec := hV 1 (by decide)
   have h2 : VV 2 = .int .i64 (i : Int) := hV 2 (by decide)
   have h3 : VV 3 = .pointer (some ⟨eb, eo + i * 4, none⟩) := hV 3 (by decide)
   have h4 : VV 4 = .pointer (some ⟨eb, eo + i * 4 + 1, none⟩) := hV 4 (by decide)
   have h5 : VV 5 = .int .i64 x.elem := hV 5 (by decide)
   have h6 : VV 6 = .agg #[.slice (some ⟨eb, eo, none⟩) n ec, .slice va n vc] := hV 6 (by decide)
   have h7 : VV 7 = .int .i64 (i : Int) := hV 7 (by decide)
   have h8 : VV 8 = .int .i64 x.kind := hV 8 (by decide)
   have h9 : VV 9 = .bool true := hV 9 (by decide)
   have h10 : VV 10 = .int .i64 x.elem := hV 10 (by decide)
   simp [frV, dstOf, Act.put, h0, h1, h2, h3, h4, h5, h6, h7, h8, h9, h10]
   clear h0 h1 h2 h3 h4 h5 h6 h7 h8 h9 h10 hV g
   have GR : Hid (W1.grownBy W0 none) := gD
   clear gD
   go_wp2_with fail
   refine bodyPost_ret (by simp [results, Tryz.results169, go_sem]; try rfl) rfl ?_
   exact ⟨by simp [q0], grown_trans HG1.out GR.out⟩
 ·skip
  go_enter Tryz.func169, Tryz.ntmps169
  go_wp2_with fail
  rw [HW.out.1, HW.out.2]
  refine region_gd (fun w w' => w.grownBy w' none) (fun h1 h2 => grown_trans h1 h2) (fun w => World.grownBy.refl _ _) 11 (psiL [eqV (.pointer (some ⟨B2, 0, none⟩)), eqV (.slice (some ⟨eb, eo, none⟩) n ec), eqV (.int .i64 (i : Int)), eqV (.pointer (some ⟨eb, eo + i * 4, none⟩)), eqV (.pointer (some ⟨eb, eo + i * 4 + 1, none⟩)), eqV (.int .i64 x.elem), eqV (.agg #[.slice (some ⟨eb, eo, none⟩) n ec, .slice va n vc]), eqV (.int .i64 (i : Int)), eqV (.int .i64 x.kind), eqV (.bool false), eqV (.int .i64 x.elem)]) (by kernel_rfl) (by kernel_rfl) (by kernel_rfl) (by kernel_rfl) (psiL_hst (by repeat (first | exact stab_nil | refine stab_cons ?_ ?_ | exact stab_eq _))) ?_ ?_
  ·simp only [List.take_succ_cons, List.take_zero]
   refine ⟨?_, ?_, ?_, ?_, ?_, ?_, ?_, ?_, ?_, ?_, ?_, trivial⟩
   ·intro VV W0 AA g hV hs hz
    refine outG_yes (by simp [wantedV]) ?_
    have e02 := hz 2 (.pointer (some ⟨B2, 0, none⟩)) (by kernel_rfl) rfl
    refine outR_val (by kernel_rfl) (v := .pointer (some ⟨B2, 0, none⟩)) (w' := W0) ?_ (World.grownBy.refl _ _) rfl
    simp [go_sem, e02]
   ·intro VV W0 AA g hV hs hz
    refine outG_yes (by simp [wantedV]) ?_
    have gD : W1.grownBy W0 none := gdd g
    have q0 : VV 0 = .pointer (some ⟨B2, 0, none⟩) := hV 0 (by kernel_rfl)
    have e0 := hs 6 0 (by kernel_rfl) (by kernel_rfl)
    have x0 := (gD.cell m0 (by simp))
    refine outR_val (by kernel_rfl) (v := .slice (some ⟨eb, eo, none⟩) n ec) (w' := W0) ?_ (World.grownBy.refl _ _) rfl
    simp [go_sem, q0, e0, x0]
   ·intro VV W0 AA g hV hs hz
    refine outG_yes (by simp [wantedV]) ?_
    have e01 := hz 1 (.int .i64 (i : Int)) (by kernel_rfl) rfl
    refine outR_val (by kernel_rfl) (v := .int .i64 (i : Int)) (w' := W0) ?_ (World.grownBy.refl _ _) rfl
    simp [go_sem, e01]
   ·intro VV W0 AA g hV hs hz
    refine outG_yes (by simp [wantedV]) ?_
    have q1 : VV 1 = .slice (some ⟨eb, eo, none⟩) n ec := hV 1 (by kernel_rfl)
    have e1 := hs 7 1 (by kernel_rfl) (by kernel_rfl)
    have q2 : VV 2 = .int .i64 (i : Int) := hV 2 (by kernel_rfl)
    have e2 := hs 8 2 (by kernel_rfl) (by kernel_rfl)
    refine outR_val (by kernel_rfl) (v := .pointer (some ⟨eb, eo + i * 4, none⟩)) (w' := W0) ?_ (World.grownBy.refl _ _) rfl
    simp [go_sem, q1, e1, q2, e2, hi']
   ·intro VV W0 AA g hV hs hz
    refine outG_yes (by simp [wantedV]) ?_
    have q3 : VV 3 = .pointer (some ⟨eb, eo + i * 4, none⟩) := hV 3 (by kernel_rfl)
    have e3 := hs 9 3 (by kernel_rfl) (by kernel_rfl)
    refine outR_val (by kernel_rfl) (v := .pointer (some ⟨eb, eo + i * 4 + 1, none⟩)) (w' := W0) ?_ (World.grownBy.refl _ _) rfl
    simp [go_sem, q3, e3]
   ·intro VV W0 AA g hV hs hz
    refine outG_yes (by simp [wantedV]) ?_
    have gD : W1.grownBy W0 none := gdd g
    have q4 : VV 4 = .pointer (some ⟨eb, eo + i * 4 + 1, none⟩) := hV 4 (by kernel_rfl)
    have e4 := hs 10 4 (by kernel_rfl) (by kernel_rfl)
    have x0 := (gD.cell c1 (by simp))
    refine outR_val (by kernel_rfl) (v := .int .i64 x.elem) (w' := W0) ?_ (World.grownBy.refl _ _) rfl
    simp [go_sem, q4, e4, x0]
   ·intro VV W0 AA g hV hs hz
    refine outG_yes (by simp [wantedV]) ?_
    have gD : W1.grownBy W0 none := gdd g
    have e02 := hz 2 (.pointer (some ⟨B2, 0, none⟩)) (by kernel_rfl) rfl
    have x0 := (gD.cell m0 (by simp))
    have x1 := (gD.cell m1 (by simp))
    refine outR_val (by kernel_rfl) (v := .agg #[.slice (some ⟨eb, eo, none⟩) n ec, .slice va n vc]) (w' := W0) ?_ (World.grownBy.refl _ _) rfl
    simp [go_sem, e02, x0, x1]
   ·intro VV W0 AA g hV hs hz
    refine outG_yes (by simp [wantedV]) ?_
    have e01 := hz 1 (.int .i64 (i : Int)) (by kernel_rfl) rfl
    refine outR_val (by kernel_rfl) (v := .int .i64 (i : Int)) (w' := W0) ?_ (World.grownBy.refl _ _) rfl
    simp [go_sem, e01]
   ·intro VV W0 AA g hV hs hz
    refine outG_yes (by simp [wantedV]) ?_
    have gD : W1.grownBy W0 none := gdd g
    have q6 : VV 6 = .agg #[.slice (some ⟨eb, eo, none⟩) n ec, .slice va n vc] := hV 6 (by kernel_rfl)
    have e6 := hs 12 6 (by kernel_rfl) (by kernel_rfl)
    have q7 : VV 7 = .int .i64 (i : Int) := hV 7 (by kernel_rfl)
    have e7 := hs 13 7 (by kernel_rfl) (by kernel_rfl)
    refine outR_call (by kernel_rfl) (f := 93) ?_ ((HK.out W0 gD).mono fun e w2 ⟨he, hg⟩ => ⟨_, he, hg, rfl⟩)
    simp [go_sem, q6, e6, q7, e7]
   ·intro VV W0 AA g hV hs hz
    refine outG_yes (by simp [wantedV]) ?_
    have q8 : VV 8 = .int .i64 x.kind := hV 8 (by kernel_rfl)
    have e8 := hs 14 8 (by kernel_rfl) (by kernel_rfl)
    refine outR_val (by kernel_rfl) (v := .bool false) (w' := W0) ?_ (World.grownBy.refl _ _) rfl
    simp [go_sem, q8, e8, q0]
   ·intro VV W0 AA g hV hs hz
    refine outG_yes (by simp [wantedV]) ?_
    have q5 : VV 5 = .int .i64 x.elem := hV 5 (by kernel_rfl)
    have e5 := hs 11 5 (by kernel_rfl) (by kernel_rfl)
    refine outR_val (by kernel_rfl) (v := .int .i64 x.elem) (w' := W0) ?_ (World.grownBy.refl _ _) rfl
    simp [go_sem, q5, e5]
  ·intro VV W0 g hV
   have gD : W1.grownBy W0 none := gdd g
   have h0 : VV 0 = .pointer (some ⟨B2, 0, none⟩) := hV 0 (by decide)
   have h1 : VV 1 = .slice (some ⟨eb, eo, none⟩) n ec := hV 1 (by decide)
   have h2 : VV 2 = .int .i64 (i : Int) := hV 2 (by decide)
   have h3 : VV 3 = .pointer (some ⟨eb, eo + i * 4, none⟩) := hV 3 (by decide)
   have h4 : VV 4 = .pointer (some ⟨eb, eo + i * 4 + 1, none⟩) := hV 4 (by decide)
   have h5 : VV 5 = .int .i64 x.elem := hV 5 (by decide)
   have h6 : VV 6 = .agg #[.slice (some ⟨eb, eo, none⟩) n ec, .slice va n vc] := hV 6 (by decide)
   have h7 : VV 7 = .int .i64 (i : Int) := hV 7 (by decide)
   have h8 : VV 8 = .int .i64 x.kind := hV 8 (by decide)
   have h9 : VV 9 = .bool false := hV 9 (by decide)
   have h10 : VV 10 = .int .i64 x.elem := hV 10 (by decide)
   simp [frV, dstOf, Act.put, h0, h1, h2, h3, h4, h5, h6, h7, h8, h9, h10]
   clear h0 h1 h2 h3 h4 h5 h6 h7 h8 h9 h10 hV g
   have GR : Hid (W1.grownBy W0 none) := gD
   clear gD
   go_wp2_with fail
   refine bodyPost_ret (by simp [results, Tryz.results169, go_sem]; try rfl) rfl ?_
   exact ⟨by simp [q0], grown_trans HG1.out GR.out⟩
theorem ckElement_ptr {N : Nat} {w : World} {ea va : Option Addr} {ec vc n : Nat} {T : Nat → Ty.TyV} (h : Tb N w ea ec va vc T n) {i : Nat} (hi : i < n) {j : Nat} (hj : j < n) (hk : (T i).kind = 11) (hje : (T i).elem = j) : Calls Tryz.prog 171 #[.agg #[.slice ea n ec, .slice va n vc], .int .i64 (i : Int)] w fun r w' => r = .returned (.tuple #[.int .i64 (T j).elem, .bool ((T j).kind == 12)]) ∧ w.grownBy w' none := by
 obtain ⟨eb, eo, fa, fc, hea, _, _⟩ := h.t.at hi
 subst hea
 have hle := h.t.le
 have hj' : (j : Int) < n := by omega
 obtain ⟨W1, hW1⟩ : ∃ W1, W1 = w.alloc (Obj.cells #[.slice (some ⟨eb, eo, none⟩) n ec, .slice va n vc] 74) := ⟨_, rfl⟩
 obtain ⟨B2, hB2⟩ : ∃ B2, B2 = w.heap.size := ⟨_, rfl⟩
 have g1 : w.grownBy W1 none := by rw [hW1]; exact World.grownBy_alloc _ _ _
 have kb : Bk W1 B2 74 [.slice (some ⟨eb, eo, none⟩) n ec, .slice va n vc] := by rw [hW1, hB2]; exact Bk.new _ _ _
 have HM0 : Hid (W1.cell? ⟨B2, 0, none⟩ = some (.slice (some ⟨eb, eo, none⟩) n ec)) := kb.cell (i := 0) rfl
 have HM1 : Hid (W1.cell? ⟨B2, 1, none⟩ = some (.slice va n vc)) := kb.cell (i := 1) rfl
 have HC1 : Hid (W1.cell? ⟨eb, eo + j * 4 + 1, none⟩ = some (.int .i64 (T j).elem)) := by obtain ⟨_, _, _, _, e1, _, e2⟩ := (h.t.grow9 g1).at hj; injection e1 with e1; injection e1 with e1 e3; subst e1 e3; exact e2.c1
 have HK : Hid (∀ W, W1.grownBy W none → Calls Tryz.prog 93 #[.agg #[.slice (some ⟨eb, eo, none⟩) n ec, .slice va n vc], .int .i64 (j : Int)] W fun r w' => r = .returned (.int .i64 (T j).kind) ∧ W.grownBy w' none) := fun W gg => ckKind_any (h.grow (grown_trans g1 gg)) hj
 have HBh : Hid (Calls Tryz.prog 169 #[.agg #[.slice (some ⟨eb, eo, none⟩) n ec, .slice va n vc], .int .i64 (i : Int)] W1 fun r w' => r = .returned (.tuple #[.int .i64 (j : Int), .bool true]) ∧ W1.grownBy w' none) := by
  have hh := ckBehind_any (h.grow g1) hi
  have hb : ((T i).kind == 11) = true := by simp [hk]
  rw [hb, hje] at hh
  exact hh
 have HG1 : Hid (w.grownBy W1 none) := g1
 have HW : Hid (w.alloc (Obj.cells #[.slice (some ⟨eb, eo, none⟩) n ec, .slice va n vc] 74) = W1 ∧ w.heap.size = B2) := ⟨hW1.symm, hB2.symm⟩
 clear h kb g1 hW1 hB2 hk hje
 generalize T j = y at *
 by_cases q0 : y.kind = 12
 ·skip
  go_enter Tryz.func171, Tryz.ntmps171
  go_wp2_with (go_at_call 169; rw [HW.out.1, HW.out.2]; refine HBh.out.mono ?_; rintro e W3 ⟨rfl, hg3⟩; have HG3 : Hid (W1.grownBy W3 none) := hg3; have m0 := (Ch.of (l := []) hg3).cell HM0.out (by simp); have m1 := (Ch.of (l := []) hg3).cell HM1.out (by simp); have c1 := (Ch.of (l := []) hg3).cell HC1.out (by simp); clear hg3)
  refine region_gd (fun w w' => w.grownBy w' none) (fun h1 h2 => grown_trans h1 h2) (fun w => World.grownBy.refl _ _) 11 (psiL [eqV (.pointer (some ⟨B2, 0, none⟩)), eqV (.slice (some ⟨eb, eo, none⟩) n ec), eqV (.int .i64 (j : Int)), eqV (.pointer (some ⟨eb, eo + j * 4, none⟩)), eqV (.pointer (some ⟨eb, eo + j * 4 + 1, none⟩)), eqV (.int .i64 y.elem), eqV (.agg #[.slice (some ⟨eb, eo, none⟩) n ec, .slice va n vc]), eqV (.int .i64 (j : Int)), eqV (.int .i64 y.kind), eqV (.bool true), eqV (.int .i64 y.elem)]) (by kernel_rfl) (by kernel_rfl) (by kernel_rfl) (by kernel_rfl) (psiL_hst (by repeat (first | exact stab_nil | refine stab_cons ?_ ?_ | exact stab_eq _))) ?_ ?_
  ·simp only [List.take_succ_cons, List.take_zero]
   refine ⟨?_, ?_, ?_, ?_, ?_, ?_, ?_, ?_, ?_, ?_, ?_, trivial⟩
   ·intro VV W0 AA g hV hs hz
    refine outG_yes (by simp [wantedV]) ?_
    have e02 := hz 2 (.pointer (some ⟨B2, 0, none⟩)) (by kernel_rfl) rfl
    refine outR_val (by kernel_rfl) (v := .pointer (some ⟨B2, 0, none⟩)) (w' := W0) ?_ (World.grownBy.refl _ _) rfl
    simp [go_sem, e02]
   ·intro VV W0 AA g hV hs hz
    refine outG_yes (by simp [wantedV]) ?_
    have gD : W3.grownBy W0 none := gdd g
    have q0 : VV 0 = .pointer (some ⟨B2, 0, none⟩) := hV 0 (by kernel_rfl)
    have e0 := hs 15 0 (by kernel_rfl) (by kernel_rfl)
    have x0 := (gD.cell m0 (by simp))
    refine outR_val (by kernel_rfl) (v := .slice (some ⟨eb, eo, none⟩) n ec) (w' := W0) ?_ (World.grownBy.refl _ _) rfl
    simp [go_sem, q0, e0, x0]
   ·intro VV W0 AA g hV hs hz
    refine outG_yes (by simp [wantedV]) ?_
    have e06 := hz 6 (.int .i64 (j : Int)) (by kernel_rfl) rfl
    refine outR_val (by kernel_rfl) (v := .int .i64 (j : Int)) (w' := W0) ?_ (World.grownBy.refl _ _) rfl
    simp [go_sem, e06]
   ·intro VV W0 AA g hV hs hz
    refine outG_yes (by simp [wantedV]) ?_
    have q1 : VV 1 = .slice (some ⟨eb, eo, none⟩) n ec := hV 1 (by kernel_rfl)
    have e1 := hs 16 1 (by kernel_rfl) (by kernel_rfl)
    have q2 : VV 2 = .int .i64 (j : Int) := hV 2 (by kernel_rfl)
    have e2 := hs 17 2 (by kernel_rfl) (by kernel_rfl)
    refine outR_val (by kernel_rfl) (v := .pointer (some ⟨eb, eo + j * 4, none⟩)) (w' := W0) ?_ (World.grownBy.refl _ _) rfl
    simp [go_sem, q1, e1, q2, e2, hj']
   ·intro VV W0 AA g hV hs hz
    refine outG_yes (by simp [wantedV]) ?_
    have q3 : VV 3 = .pointer (some ⟨eb, eo + j * 4, none⟩) := hV 3 (by kernel_rfl)
    have e3 := hs 18 3 (by kernel_rfl) (by kernel_rfl)
    refine outR_val (by kernel_rfl) (v := .pointer (some ⟨eb, eo + j * 4 + 1, none⟩)) (w' := W0) ?_ (World.grownBy.refl _ _) rfl
    simp [go_sem, q3, e3]
   ·intro VV W0 AA g hV hs hz
    refine outG_yes (by simp [wantedV]) ?_
    have gD : W3.grownBy W0 none := gdd g
    have q4 : VV 4 = .pointer (some ⟨eb, eo + j * 4 + 1, none⟩) := hV 4 (by kernel_rfl)
    have e4 := hs 19 4 (by kernel_rfl) (by kernel_rfl)
    have x0 := (gD.cell c1 (by simp))
    refine outR_val (by kernel_rfl) (v := .int .i64 y.elem) (w' := W0) ?_ (World.grownBy.refl _ _) rfl
    simp [go_sem, q4, e4, x0]
   ·intro VV W0 AA g hV hs hz
    refine outG_yes (by simp [wantedV]) ?_
    have gD : W3.grownBy W0 none := gdd g
    have e02 := hz 2 (.pointer (some ⟨B2, 0, none⟩)) (by kernel_rfl) rfl
    have x0 := (gD.cell m0 (by simp))
    have x1 := (gD.cell m1 (by simp))
    refine outR_val (by kernel_rfl) (v := .agg #[.slice (some ⟨eb, eo, none⟩) n ec, .slice va n vc]) (w' := W0) ?_ (World.grownBy.refl _ _) rfl
    simp [go_sem, e02, x0, x1]
   ·intro VV W0 AA g hV hs hz
    refine outG_yes (by simp [wantedV]) ?_
    have e06 := hz 6 (.int .i64 (j : Int)) (by kernel_rfl) rfl
    refine outR_val (by kernel_rfl) (v := .int .i64 (j : Int)) (w' := W0) ?_ (World.grownBy.refl _ _) rfl
    simp [go_sem, e06]
   ·intro VV W0 AA g hV hs hz
    refine outG_yes (by simp [wantedV]) ?_
    have gD : W3.grownBy W0 none := gdd g
    have q6 : VV 6 = .agg #[.slice (some ⟨eb, eo, none⟩) n ec, .slice va n vc] := hV 6 (by kernel_rfl)
    have e6 := hs 21 6 (by kernel_rfl) (by kernel_rfl)
    have q7 : VV 7 = .int .i64 (j : Int) := hV 7 (by kernel_rfl)
    have e7 := hs 22 7 (by kernel_rfl) (by kernel_rfl)
    refine outR_call (by kernel_rfl) (f := 93) ?_ ((HK.out W0 (grown_trans HG3.out gD)).mono fun e w2 ⟨he, hg⟩ => ⟨_, he, hg, rfl⟩)
    simp [go_sem, q6, e6, q7, e7]
   ·intro VV W0 AA g hV hs hz
    refine outG_yes (by simp [wantedV]) ?_
    have q8 : VV 8 = .int .i64 y.kind := hV 8 (by kernel_rfl)
    have e8 := hs 23 8 (by kernel_rfl) (by kernel_rfl)
    refine outR_val (by kernel_rfl) (v := .bool true) (w' := W0) ?_ (World.grownBy.refl _ _) rfl
    simp [go_sem, q8, e8, q0]
   ·intro VV W0 AA g hV hs hz
    refine outG_yes (by simp [wantedV]) ?_
    have q5 : VV 5 = .int .i64 y.elem := hV 5 (by kernel_rfl)
    have e5 := hs 20 5 (by kernel_rfl) (by kernel_rfl)
    refine outR_val (by kernel_rfl) (v := .int .i64 y.elem) (w' := W0) ?_ (World.grownBy.refl _ _) rfl
    simp [go_sem, q5, e5]
  ·intro VV W0 g hV
   have gD : W3.grownBy W0 none := gdd g
   have h0 : VV 0 = .pointer (some ⟨B2, 0, none⟩) := hV 0 (by decide)
   have h1 : VV 1 = .slice (some ⟨eb, eo, none⟩) n ec := hV 1 (by decide)
   have h2 : VV 2 = .int .i64 (j : Int) := hV 2 (by decide)
   have h3 : VV 3 = .pointer (some ⟨eb, eo + j * 4, none⟩) := hV 3 (by decide)
   have h4 : VV 4 = .pointer (some ⟨eb, eo + j * 4 + 1, none⟩) := hV 4 (by decide)
   have h5 : VV 5 = .int .i64 y.elem := hV 5 (by decide)
   have h6 : VV 6 = .agg #[.slice (some ⟨eb, eo, none⟩) n ec, .slice va n vc] := hV 6 (by decide)
   have h7 : VV 7 = .int .i64 (j : Int) := hV 7 (by decide)
   have h8 : VV 8 = .int .i64 y.kind := hV 8 (by decide)
   have h9 : VV 9 = .bool true := hV 9 (by decide)
   have h10 : VV 10 = .int .i64 y.elem := hV 10 (by decide)
   simp [frV, dstOf, Act.put, h0, h1, h2, h3, h4, h5, h6, h7, h8, h9, h10]
   clear h0 h1 h2 h3 h4 h5 h6 h7 h8 h9 h10 hV g
   have GR : Hid (W3.grownBy W0 none) := gD
   clear gD
   go_wp2_with fail
   refine bodyPost_ret (by simp [results, Tryz.results171, go_sem]; try rfl) rfl ?_
   exact ⟨by simp [q0], grown_trans HG1.out (grown_trans HG3.out GR.out)⟩
 ·skip
  go_enter Tryz.func171, Tryz.ntmps171
  go_wp2_with (go_at_call 169; rw [HW.out.1, HW.out.2]; refine HBh.out.mono ?_; rintro e W3 ⟨rfl, hg3⟩; have HG3 : Hid (W1.grownBy W3 none) := hg3; have m0 := (Ch.of (l := []) hg3).cell HM0.out (by simp); have m1 := (Ch.of (l := []) hg3).cell HM1.out (by simp); have c1 := (Ch.of (l := []) hg3).cell HC1.out (by simp); clear hg3)
  refine region_gd (fun w w' => w.grownBy w' none) (fun h1 h2 => grown_trans h1 h2) (fun w => World.grownBy.refl _ _) 11 (psiL [eqV (.pointer (some ⟨B2, 0, none⟩)), eqV (.slice (some ⟨eb, eo, none⟩) n ec), eqV (.int .i64 (j : Int)), eqV (.pointer (some ⟨eb, eo + j * 4, none⟩)), eqV (.pointer (some ⟨eb, eo + j * 4 + 1, none⟩)), eqV (.int .i64 y.elem), eqV (.agg #[.slice (some ⟨eb, eo, none⟩) n ec, .slice va n vc]), eqV (.int .i64 (j : Int)), eqV (.int .i64 y.kind), eqV (.bool false), eqV (.int .i64 y.elem)]) (by kernel_rfl) (by kernel_rfl) (by kernel_rfl) (by kernel_rfl) (psiL_hst (by repeat (first | exact stab_nil | refine stab_cons ?_ ?_ | exact stab_eq _))) ?_ ?_
  ·simp only [List.take_succ_cons, List.take_zero]
   refine ⟨?_, ?_, ?_, ?_, ?_, ?_, ?_, ?_, ?_, ?_, ?_, trivial⟩
   ·intro VV W0 AA g hV hs hz
    refine outG_yes (by simp [wantedV]) ?_
    have e02 := hz 2 (.pointer (some ⟨B2, 0, none⟩)) (by kernel_rfl) rfl
    refine outR_val (by kernel_rfl) (v := .pointer (some ⟨B2, 0, none⟩)) (w' := W0) ?_ (World.grownBy.refl _ _) rfl
    simp [go_sem, e02]
   ·intro VV W0 AA g hV hs hz
    refine outG_yes (by simp [wantedV]) ?_
    have gD : W3.grownBy W0 none := gdd g
    have q0 : VV 0 = .pointer (some ⟨B2, 0, none⟩) := hV 0 (by kernel_rfl)
    have e0 := hs 15 0 (by kernel_rfl) (by kernel_rfl)
    have x0 := (gD.cell m0 (by simp))
    refine outR_val (by kernel_rfl) (v := .slice (some ⟨eb, eo, none⟩) n ec) (w' := W0) ?_ (World.grownBy.refl _ _) rfl
    simp [go_sem, q0, e0, x0]
   ·intro VV W0 AA g hV hs hz
    refine outG_yes (by simp [wantedV]) ?_
    have e06 := hz 6 (.int .i64 (j : Int)) (by kernel_rfl) rfl
    refine outR_val (by kernel_rfl) (v := .int .i64 (j : Int)) (w' := W0) ?_ (World.grownBy.refl _ _) rfl
    simp [go_sem, e06]
   ·intro VV W0 AA g hV hs hz
    refine outG_yes (by simp [wantedV]) ?_
    have q1 : VV 1 = .slice (some ⟨eb, eo, none⟩) n ec := hV 1 (by kernel_rfl)
    have e1 := hs 16 1 (by kernel_rfl) (by kernel_rfl)
    have q2 : VV 2 = .int .i64 (j : Int) := hV 2 (by kernel_rfl)
    have e2 := hs 17 2 (by kernel_rfl) (by kernel_rfl)
    refine outR_val (by kernel_rfl) (v := .pointer (some ⟨eb, eo + j * 4, none⟩)) (w' := W0) ?_ (World.grownBy.refl _ _) rfl
    simp [go_sem, q1, e1, q2, e2, hj']
   ·intro VV W0 AA g hV hs hz
    refine outG_yes (by simp [wantedV]) ?_
    have q3 : VV 3 = .pointer (some ⟨eb, eo + j * 4, none⟩) := hV 3 (by kernel_rfl)
    have e3 := hs 18 3 (by kernel_rfl) (by kernel_rfl)
    refine outR_val (by kernel_rfl) (v := .pointer (some ⟨eb, eo + j * 4 + 1, none⟩)) (w' := W0) ?_ (World.grownBy.refl _ _) rfl
    simp [go_sem, q3, e3]
   ·intro VV W0 AA g hV hs hz
    refine outG_yes (by simp [wantedV]) ?_
    have gD : W3.grownBy W0 none := gdd g
    have q4 : VV 4 = .pointer (some ⟨eb, eo + j * 4 + 1, none⟩) := hV 4 (by kernel_rfl)
    have e4 := hs 19 4 (by kernel_rfl) (by kernel_rfl)
    have x0 := (gD.cell c1 (by simp))
    refine outR_val (by kernel_rfl) (v := .int .i64 y.elem) (w' := W0) ?_ (World.grownBy.refl _ _) rfl
    simp [go_sem, q4, e4, x0]
   ·intro VV W0 AA g hV hs hz
    refine outG_yes (by simp [wantedV]) ?_
    have gD : W3.grownBy W0 none := gdd g
    have e02 := hz 2 (.pointer (some ⟨B2, 0, none⟩)) (by kernel_rfl) rfl
    have x0 := (gD.cell m0 (by simp))
    have x1 := (gD.cell m1 (by simp))
    refine outR_val (by kernel_rfl) (v := .agg #[.slice (some ⟨eb, eo, none⟩) n ec, .slice va n vc]) (w' := W0) ?_ (World.grownBy.refl _ _) rfl
    simp [go_sem, e02, x0, x1]
   ·intro VV W0 AA g hV hs hz
    refine outG_yes (by simp [wantedV]) ?_
    have e06 := hz 6 (.int .i64 (j : Int)) (by kernel_rfl) rfl
    refine outR_val (by kernel_rfl) (v := .int .i64 (j : Int)) (w' := W0) ?_ (World.grownBy.refl _ _) rfl
    simp [go_sem, e06]
   ·intro VV W0 AA g hV hs hz
    refine outG_yes (by simp [wantedV]) ?_
    have gD : W3.grownBy W0 none := gdd g
    have q6 : VV 6 = .agg #[.slice (some ⟨eb, eo, none⟩) n ec, .slice va n vc] := hV 6 (by kernel_rfl)
    have e6 := hs 21 6 (by kernel_rfl) (by kernel_rfl)
    have q7 : VV 7 = .int .i64 (j : Int) := hV 7 (by kernel_rfl)
    have e7 := hs 22 7 (by kernel_rfl) (by kernel_rfl)
    refine outR_call (by kernel_rfl) (f := 93) ?_ ((HK.out W0 (grown_trans HG3.out gD)).mono fun e w2 ⟨he, hg⟩ => ⟨_, he, hg, rfl⟩)
    simp [go_sem, q6, e6, q7, e7]
   ·intro VV W0 AA g hV hs hz
    refine outG_yes (by simp [wantedV]) ?_
    have q8 : VV 8 = .int .i64 y.kind := hV 8 (by kernel_rfl)
    have e8 := hs 23 8 (by kernel_rfl) (by kernel_rfl)
    refine outR_val (by kernel_rfl) (v := .bool false) (w' := W0) ?_ (World.grownBy.refl _ _) rfl
    simp [go_sem, q8, e8, q0]
   ·intro VV W0 AA g hV hs hz
    refine outG_yes (by simp [wantedV]) ?_
    have q5 : VV 5 = .int .i64 y.elem := hV 5 (by kernel_rfl)
    have e5 := hs 20 5 (by kernel_rfl) (by kernel_rfl)
    refine outR_val (by kernel_rfl) (v := .int .i64 y.elem) (w' := W0) ?_ (World.grownBy.refl _ _) rfl
    simp [go_sem, q5, e5]
  ·intro VV W0 g hV
   have gD : W3.grownBy W0 none := gdd g
   have h0 : VV 0 = .pointer (some ⟨B2, 0, none⟩) := hV 0 (by decide)
   have h1 : VV 1 = .slice (some ⟨eb, eo, none⟩) n ec := hV 1 (by decide)
   have h2 : VV 2 = .int .i64 (j : Int) := hV 2 (by decide)
   have h3 : VV 3 = .pointer (some ⟨eb, eo + j * 4, none⟩) := hV 3 (by decide)
   have h4 : VV 4 = .pointer (some ⟨eb, eo + j * 4 + 1, none⟩) := hV 4 (by decide)
   have h5 : VV 5 = .int .i64 y.elem := hV 5 (by decide)
   have h6 : VV 6 = .agg #[.slice (some ⟨eb, eo, none⟩) n ec, .slice va n vc] := hV 6 (by decide)
   have h7 : VV 7 = .int .i64 (j : Int) := hV 7 (by decide)
   have h8 : VV 8 = .int .i64 y.kind := hV 8 (by decide)
   have h9 : VV 9 = .bool false := hV 9 (by decide)
   have h10 : VV 10 = .int .i64 y.elem := hV 10 (by decide)
   simp [frV, dstOf, Act.put, h0, h1, h2, h3, h4, h5, h6, h7, h8, h9, h10]
   clear h0 h1 h2 h3 h4 h5 h6 h7 h8 h9 h10 hV g
   have GR : Hid (W3.grownBy W0 none) := gD
   clear gD
   go_wp2_with fail
   refine bodyPost_ret (by simp [results, Tryz.results171, go_sem]; try rfl) rfl ?_
   exact ⟨by simp [q0], grown_trans HG1.out (grown_trans HG3.out GR.out)⟩
theorem ckElement_no {N : Nat} {w : World} {ea va : Option Addr} {ec vc n : Nat} {T : Nat → Ty.TyV} (h : Tb N w ea ec va vc T n) {i : Nat} (hi : i < n) (hk : ¬ (T i).kind = 11) : Calls Tryz.prog 171 #[.agg #[.slice ea n ec, .slice va n vc], .int .i64 (i : Int)] w fun r w' => r = .returned (.tuple #[.int .i64 (T i).elem, .bool ((T i).kind == 14)]) ∧ w.grownBy w' none := by
 obtain ⟨eb, eo, fa, fc, hea, _, _⟩ := h.t.at hi
 subst hea
 have hle := h.t.le
 have hj' : (i : Int) < n := by omega
 obtain ⟨W1, hW1⟩ : ∃ W1, W1 = w.alloc (Obj.cells #[.slice (some ⟨eb, eo, none⟩) n ec, .slice va n vc] 74) := ⟨_, rfl⟩
 obtain ⟨B2, hB2⟩ : ∃ B2, B2 = w.heap.size := ⟨_, rfl⟩
 have g1 : w.grownBy W1 none := by rw [hW1]; exact World.grownBy_alloc _ _ _
 have kb : Bk W1 B2 74 [.slice (some ⟨eb, eo, none⟩) n ec, .slice va n vc] := by rw [hW1, hB2]; exact Bk.new _ _ _
 have HM0 : Hid (W1.cell? ⟨B2, 0, none⟩ = some (.slice (some ⟨eb, eo, none⟩) n ec)) := kb.cell (i := 0) rfl
 have HM1 : Hid (W1.cell? ⟨B2, 1, none⟩ = some (.slice va n vc)) := kb.cell (i := 1) rfl
 have HC1 : Hid (W1.cell? ⟨eb, eo + i * 4 + 1, none⟩ = some (.int .i64 (T i).elem)) := by obtain ⟨_, _, _, _, e1, _, e2⟩ := (h.t.grow9 g1).at hi; injection e1 with e1; injection e1 with e1 e3; subst e1 e3; exact e2.c1
 have HK : Hid (∀ W, W1.grownBy W none → Calls Tryz.prog 93 #[.agg #[.slice (some ⟨eb, eo, none⟩) n ec, .slice va n vc], .int .i64 (i : Int)] W fun r w' => r = .returned (.int .i64 (T i).kind) ∧ W.grownBy w' none) := fun W gg => ckKind_any (h.grow (grown_trans g1 gg)) hi
 have HBh : Hid (Calls Tryz.prog 169 #[.agg #[.slice (some ⟨eb, eo, none⟩) n ec, .slice va n vc], .int .i64 (i : Int)] W1 fun r w' => r = .returned (.tuple #[.int .i64 (T i).elem, .bool false]) ∧ W1.grownBy w' none) := by
  have hh := ckBehind_any (h.grow g1) hi
  have hb : ((T i).kind == 11) = false := by simp [hk]
  rw [hb] at hh
  exact hh
 have HG1 : Hid (w.grownBy W1 none) := g1
 have HW : Hid (w.alloc (Obj.cells #[.slice (some ⟨eb, eo, none⟩) n ec, .slice va n vc] 74) = W1 ∧ w.heap.size = B2) := ⟨hW1.symm, hB2.symm⟩
 clear h kb g1 hW1 hB2 hk
 generalize T i = y at *
 by_cases q0 : y.kind = 14
 ·skip
  go_enter Tryz.func171, Tryz.ntmps171
  go_wp2_with (go_at_call 169; rw [HW.out.1, HW.out.2]; refine HBh.out.mono ?_; rintro e W3 ⟨rfl, hg3⟩; have HG3 : Hid (W1.grownBy W3 none) := hg3; have m0 := (Ch.of (l := []) hg3).cell HM0.out (by simp); have m1 := (Ch.of (l := []) hg3).cell HM1.out (by simp); have c1 := (Ch.of (l := []) hg3).cell HC1.out (by simp); clear hg3)
  refine region_gd (fun w w' => w.grownBy w' none) (fun h1 h2 => grown_trans h1 h2) (fun w => World.grownBy.refl _ _) 11 (psiL [eqV (.pointer (some ⟨B2, 0, none⟩)), eqV (.slice (some ⟨eb, eo, none⟩) n ec), eqV (.int .i64 (i : Int)), eqV (.pointer (some ⟨eb, eo + i * 4, none⟩)), eqV (.pointer (some ⟨eb, eo + i * 4 + 1, none⟩)), eqV (.int .i64 y.elem), eqV (.agg #[.slice (some ⟨eb, eo, none⟩) n ec, .slice va n vc]), eqV (.int .i64 (i : Int)), eqV (.int .i64 y.kind), eqV (.bool true), eqV (.int .i64 y.elem)]) (by kernel_rfl) (by kernel_rfl) (by kernel_rfl) (by kernel_rfl) (psiL_hst (by repeat (first | exact stab_nil | refine stab_cons ?_ ?_ | exact stab_eq _))) ?_ ?_
  ·simp only [List.take_succ_cons, List.take_zero]
   refine ⟨?_, ?_, ?_, ?_, ?_, ?_, ?_, ?_, ?_, ?_, ?_, trivial⟩
   ·intro VV W0 AA g hV hs hz
    refine outG_yes (by simp [wantedV]) ?_
    have e02 := hz 2 (.pointer (some ⟨B2, 0, none⟩)) (by kernel_rfl) rfl
    refine outR_val (by kernel_rfl) (v := .pointer (some ⟨B2, 0, none⟩)) (w' := W0) ?_ (World.grownBy.refl _ _) rfl
    simp [go_sem, e02]
   ·intro VV W0 AA g hV hs hz
    refine outG_yes (by simp [wantedV]) ?_
    have gD : W3.grownBy W0 none := gdd g
    have q0 : VV 0 = .pointer (some ⟨B2, 0, none⟩) := hV 0 (by kernel_rfl)
    have e0 := hs 25 0 (by kernel_rfl) (by kernel_rfl)
    have x0 := (gD.cell m0 (by simp))
    refine outR_val (by kernel_rfl) (v := .slice (some ⟨eb, eo, none⟩) n ec) (w' := W0) ?_ (World.grownBy.refl _ _) rfl
    simp [go_sem, q0, e0, x0]
   ·intro VV W0 AA g hV hs hz
    refine outG_yes (by simp [wantedV]) ?_
    have e01 := hz 1 (.int .i64 (i : Int)) (by kernel_rfl) rfl
    refine outR_val (by kernel_rfl) (v := .int .i64 (i : Int)) (w' := W0) ?_ (World.grownBy.refl _ _) rfl
    simp [go_sem, e01]
   ·intro VV W0 AA g hV hs hz
    refine outG_yes (by simp [wantedV]) ?_
    have q1 : VV 1 = .slice (some ⟨eb, eo, none⟩) n ec := hV 1 (by kernel_rfl)
    have e1 := hs 26 1 (by kernel_rfl) (by kernel_rfl)
    have q2 : VV 2 = .int .i64 (i : Int) := hV 2 (by kernel_rfl)
    have e2 := hs 27 2 (by kernel_rfl) (by kernel_rfl)
    refine outR_val (by kernel_rfl) (v := .pointer (some ⟨eb, eo + i * 4, none⟩)) (w' := W0) ?_ (World.grownBy.refl _ _) rfl
    simp [go_sem, q1, e1, q2, e2, hj']
   ·intro VV W0 AA g hV hs hz
    refine outG_yes (by simp [wantedV]) ?_
    have q3 : VV 3 = .pointer (some ⟨eb, eo + i * 4, none⟩) := hV 3 (by kernel_rfl)
    have e3 := hs 28 3 (by kernel_rfl) (by kernel_rfl)
    refine outR_val (by kernel_rfl) (v := .pointer (some ⟨eb, eo + i * 4 + 1, none⟩)) (w' := W0) ?_ (World.grownBy.refl _ _) rfl
    simp [go_sem, q3, e3]
   ·intro VV W0 AA g hV hs hz
    refine outG_yes (by simp [wantedV]) ?_
    have gD : W3.grownBy W0 none := gdd g
    have q4 : VV 4 = .pointer (some ⟨eb, eo + i * 4 + 1, none⟩) := hV 4 (by kernel_rfl)
    have e4 := hs 29 4 (by kernel_rfl) (by kernel_rfl)
    have x0 := (gD.cell c1 (by simp))
    refine outR_val (by kernel_rfl) (v := .int .i64 y.elem) (w' := W0) ?_ (World.grownBy.refl _ _) rfl
    simp [go_sem, q4, e4, x0]
   ·intro VV W0 AA g hV hs hz
    refine outG_yes (by simp [wantedV]) ?_
    have gD : W3.grownBy W0 none := gdd g
    have e02 := hz 2 (.pointer (some ⟨B2, 0, none⟩)) (by kernel_rfl) rfl
    have x0 := (gD.cell m0 (by simp))
    have x1 := (gD.cell m1 (by simp))
    refine outR_val (by kernel_rfl) (v := .agg #[.slice (some ⟨eb, eo, none⟩) n ec, .slice va n vc]) (w' := W0) ?_ (World.grownBy.refl _ _) rfl
    simp [go_sem, e02, x0, x1]
   ·intro VV W0 AA g hV hs hz
    refine outG_yes (by simp [wantedV]) ?_
    have e01 := hz 1 (.int .i64 (i : Int)) (by kernel_rfl) rfl
    refine outR_val (by kernel_rfl) (v := .int .i64 (i : Int)) (w' := W0) ?_ (World.grownBy.refl _ _) rfl
    simp [go_sem, e01]
   ·intro VV W0 AA g hV hs hz
    refine outG_yes (by simp [wantedV]) ?_
    have gD : W3.grownBy W0 none := gdd g
    have q6 : VV 6 = .agg #[.slice (some ⟨eb, eo, none⟩) n ec, .slice va n vc] := hV 6 (by kernel_rfl)
    have e6 := hs 31 6 (by kernel_rfl) (by kernel_rfl)
    have q7 : VV 7 = .int .i64 (i : Int) := hV 7 (by kernel_rfl)
    have e7 := hs 32 7 (by kernel_rfl) (by kernel_rfl)
    refine outR_call (by kernel_rfl) (f := 93) ?_ ((HK.out W0 (grown_trans HG3.out gD)).mono fun e w2 ⟨he, hg⟩ => ⟨_, he, hg, rfl⟩)
    simp [go_sem, q6, e6, q7, e7]
   ·intro VV W0 AA g hV hs hz
    refine outG_yes (by simp [wantedV]) ?_
    have q8 : VV 8 = .int .i64 y.kind := hV 8 (by kernel_rfl)
    have e8 := hs 33 8 (by kernel_rfl) (by kernel_rfl)
    refine outR_val (by kernel_rfl) (v := .bool true) (w' := W0) ?_ (World.grownBy.refl _ _) rfl
    simp [go_sem, q8, e8, q0]
   ·intro VV W0 AA g hV hs hz
    refine outG_yes (by simp [wantedV]) ?_
    have q5 : VV 5 = .int .i64 y.elem := hV 5 (by kernel_rfl)
    have e5 := hs 30 5 (by kernel_rfl) (by kernel_rfl)
    refine outR_val (by kernel_rfl) (v := .int .i64 y.elem) (w' := W0) ?_ (World.grownBy.refl _ _) rfl
    simp [go_sem, q5, e5]
  ·intro VV W0 g hV
   have gD : W3.grownBy W0 none := gdd g
   have h0 : VV 0 = .pointer (some ⟨B2, 0, none⟩) := hV 0 (by decide)
   have h1 : VV 1 = .slice (some ⟨eb, eo, none⟩) n ec := hV 1 (by decide)
   have h2 : VV 2 = .int .i64 (i : Int) := hV 2 (by decide)
   have h3 : VV 3 = .pointer (some ⟨eb, eo + i * 4, none⟩) := hV 3 (by decide)
   have h4 : VV 4 = .pointer (some ⟨eb, eo + i * 4 + 1, none⟩) := hV 4 (by decide)
   have h5 : VV 5 = .int .i64 y.elem := hV 5 (by decide)
   have h6 : VV 6 = .agg #[.slice (some ⟨eb, eo, none⟩) n ec, .slice va n vc] := hV 6 (by decide)
   have h7 : VV 7 = .int .i64 (i : Int) := hV 7 (by decide)
   have h8 : VV 8 = .int .i64 y.kind := hV 8 (by decide)
   have h9 : VV 9 = .bool true := hV 9 (by decide)
   have h10 : VV 10 = .int .i64 y.elem := hV 10 (by decide)
   simp [frV, dstOf, Act.put, h0, h1, h2, h3, h4, h5, h6, h7, h8, h9, h10]
   clear h0 h1 h2 h3 h4 h5 h6 h7 h8 h9 h10 hV g
   have GR : Hid (W3.grownBy W0 none) := gD
   clear gD
   go_wp2_with fail
   refine bodyPost_ret (by simp [results, Tryz.results171, go_sem]; try rfl) rfl ?_
   exact ⟨by simp [q0], grown_trans HG1.out (grown_trans HG3.out GR.out)⟩
 ·skip
  go_enter Tryz.func171, Tryz.ntmps171
  go_wp2_with (go_at_call 169; rw [HW.out.1, HW.out.2]; refine HBh.out.mono ?_; rintro e W3 ⟨rfl, hg3⟩; have HG3 : Hid (W1.grownBy W3 none) := hg3; have m0 := (Ch.of (l := []) hg3).cell HM0.out (by simp); have m1 := (Ch.of (l := []) hg3).cell HM1.out (by simp); have c1 := (Ch.of (l := []) hg3).cell HC1.out (by simp); clear hg3)
  refine region_gd (fun w w' => w.grownBy w' none) (fun h1 h2 => grown_trans h1 h2) (fun w => World.grownBy.refl _ _) 11 (psiL [eqV (.pointer (some ⟨B2, 0, none⟩)), eqV (.slice (some ⟨eb, eo, none⟩) n ec), eqV (.int .i64 (i : Int)), eqV (.pointer (some ⟨eb, eo + i * 4, none⟩)), eqV (.pointer (some ⟨eb, eo + i * 4 + 1, none⟩)), eqV (.int .i64 y.elem), eqV (.agg #[.slice (some ⟨eb, eo, none⟩) n ec, .slice va n vc]), eqV (.int .i64 (i : Int)), eqV (.int .i64 y.kind), eqV (.bool false), eqV (.int .i64 y.elem)]) (by kernel_rfl) (by kernel_rfl) (by kernel_rfl) (by kernel_rfl) (psiL_hst (by repeat (first | exact stab_nil | refine stab_cons ?_ ?_ | exact stab_eq _))) ?_ ?_
  ·simp only [List.take_succ_cons, List.take_zero]
   refine ⟨?_, ?_, ?_, ?_, ?_, ?_, ?_, ?_, ?_, ?_, ?_, trivial⟩
   ·intro VV W0 AA g hV hs hz
    refine outG_yes (by simp [wantedV]) ?_
    have e02 := hz 2 (.pointer (some ⟨B2, 0, none⟩)) (by kernel_rfl) rfl
    refine outR_val (by kernel_rfl) (v := .pointer (some ⟨B2, 0, none⟩)) (w' := W0) ?_ (World.grownBy.refl _ _) rfl
    simp [go_sem, e02]
   ·intro VV W0 AA g hV hs hz
    refine outG_yes (by simp [wantedV]) ?_
    have gD : W3.grownBy W0 none := gdd g
    have q0 : VV 0 = .pointer (some ⟨B2, 0, none⟩) := hV 0 (by kernel_rfl)
    have e0 := hs 25 0 (by kernel_rfl) (by kernel_rfl)
    have x0 := (gD.cell m0 (by simp))
    refine outR_val (by kernel_rfl) (v := .slice (some ⟨eb, eo, none⟩) n ec) (w' := W0) ?_ (World.grownBy.refl _ _) rfl
    simp [go_sem, q0, e0, x0]
   ·intro VV W0 AA g hV hs hz
    refine outG_yes (by simp [wantedV]) ?_
    have e01 := hz 1 (.int .i64 (i : Int)) (by kernel_rfl) rfl
    refine outR_val (by kernel_rfl) (v := .int .i64 (i : Int)) (w' := W0) ?_ (World.grownBy.refl _ _) rfl
    simp [go_sem, e01]
   ·intro VV W0 AA g hV hs hz
    refine outG_yes (by simp [wantedV]) ?_
    have q1 : VV 1 = .slice (some ⟨eb, eo, none⟩) n ec := hV 1 (by kernel_rfl)
    have e1 := hs 26 1 (by kernel_rfl) (by kernel_rfl)
    have q2 : VV 2 = .int .i64 (i : Int) := hV 2 (by kernel_rfl)
    have e2 := hs 27 2 (by kernel_rfl) (by kernel_rfl)
    refine outR_val (by kernel_rfl) (v := .pointer (some ⟨eb, eo + i * 4, none⟩)) (w' := W0) ?_ (World.grownBy.refl _ _) rfl
    simp [go_sem, q1, e1, q2, e2, hj']
   ·intro VV W0 AA g hV hs hz
    refine outG_yes (by simp [wantedV]) ?_
    have q3 : VV 3 = .pointer (some ⟨eb, eo + i * 4, none⟩) := hV 3 (by kernel_rfl)
    have e3 := hs 28 3 (by kernel_rfl) (by kernel_rfl)
    refine outR_val (by kernel_rfl) (v := .pointer (some ⟨eb, eo + i * 4 + 1, none⟩)) (w' := W0) ?_ (World.grownBy.refl _ _) rfl
    simp [go_sem, q3, e3]
   ·intro VV W0 AA g hV hs hz
    refine outG_yes (by simp [wantedV]) ?_
    have gD : W3.grownBy W0 none := gdd g
    have q4 : VV 4 = .pointer (some ⟨eb, eo + i * 4 + 1, none⟩) := hV 4 (by kernel_rfl)
    have e4 := hs 29 4 (by kernel_rfl) (by kernel_rfl)
    have x0 := (gD.cell c1 (by simp))
    refine outR_val (by kernel_rfl) (v := .int .i64 y.elem) (w' := W0) ?_ (World.grownBy.refl _ _) rfl
    simp [go_sem, q4, e4, x0]
   ·intro VV W0 AA g hV hs hz
    refine outG_yes (by simp [wantedV]) ?_
    have gD : W3.grownBy W0 none := gdd g
    have e02 := hz 2 (.pointer (some ⟨B2, 0, none⟩)) (by kernel_rfl) rfl
    have x0 := (gD.cell m0 (by simp))
    have x1 := (gD.cell m1 (by simp))
    refine outR_val (by kernel_rfl) (v := .agg #[.slice (some ⟨eb, eo, none⟩) n ec, .slice va n vc]) (w' := W0) ?_ (World.grownBy.refl _ _) rfl
    simp [go_sem, e02, x0, x1]
   ·intro VV W0 AA g hV hs hz
    refine outG_yes (by simp [wantedV]) ?_
    have e01 := hz 1 (.int .i64 (i : Int)) (by kernel_rfl) rfl
    refine outR_val (by kernel_rfl) (v := .int .i64 (i : Int)) (w' := W0) ?_ (World.grownBy.refl _ _) rfl
    simp [go_sem, e01]
   ·intro VV W0 AA g hV hs hz
    refine outG_yes (by simp [wantedV]) ?_
    have gD : W3.grownBy W0 none := gdd g
    have q6 : VV 6 = .agg #[.slice (some ⟨eb, eo, none⟩) n ec, .slice va n vc] := hV 6 (by kernel_rfl)
    have e6 := hs 31 6 (by kernel_rfl) (by kernel_rfl)
    have q7 : VV 7 = .int .i64 (i : Int) := hV 7 (by kernel_rfl)
    have e7 := hs 32 7 (by kernel_rfl) (by kernel_rfl)
    refine outR_call (by kernel_rfl) (f := 93) ?_ ((HK.out W0 (grown_trans HG3.out gD)).mono fun e w2 ⟨he, hg⟩ => ⟨_, he, hg, rfl⟩)
    simp [go_sem, q6, e6, q7, e7]
   ·intro VV W0 AA g hV hs hz
    refine outG_yes (by simp [wantedV]) ?_
    have q8 : VV 8 = .int .i64 y.kind := hV 8 (by kernel_rfl)
    have e8 := hs 33 8 (by kernel_rfl) (by kernel_rfl)
    refine outR_val (by kernel_rfl) (v := .bool false) (w' := W0) ?_ (World.grownBy.refl _ _) rfl
    simp [go_sem, q8, e8, q0]
   ·intro VV W0 AA g hV hs hz
    refine outG_yes (by simp [wantedV]) ?_
    have q5 : VV 5 = .int .i64 y.elem := hV 5 (by kernel_rfl)
    have e5 := hs 30 5 (by kernel_rfl) (by kernel_rfl)
    refine outR_val (by kernel_rfl) (v := .int .i64 y.elem) (w' := W0) ?_ (World.grownBy.refl _ _) rfl
    simp [go_sem, q5, e5]
  ·intro VV W0 g hV
   have gD : W3.grownBy W0 none := gdd g
   have h0 : VV 0 = .pointer (some ⟨B2, 0, none⟩) := hV 0 (by decide)
   have h1 : VV 1 = .slice (some ⟨eb, eo, none⟩) n ec := hV 1 (by decide)
   have h2 : VV 2 = .int .i64 (i : Int) := hV 2 (by decide)
   have h3 : VV 3 = .pointer (some ⟨eb, eo + i * 4, none⟩) := hV 3 (by decide)
   have h4 : VV 4 = .pointer (some ⟨eb, eo + i * 4 + 1, none⟩) := hV 4 (by decide)
   have h5 : VV 5 = .int .i64 y.elem := hV 5 (by decide)
   have h6 : VV 6 = .agg #[.slice (some ⟨eb, eo, none⟩) n ec, .slice va n vc] := hV 6 (by decide)
   have h7 : VV 7 = .int .i64 (i : Int) := hV 7 (by decide)
   have h8 : VV 8 = .int .i64 y.kind := hV 8 (by decide)
   have h9 : VV 9 = .bool false := hV 9 (by decide)
   have h10 : VV 10 = .int .i64 y.elem := hV 10 (by decide)
   simp [frV, dstOf, Act.put, h0, h1, h2, h3, h4, h5, h6, h7, h8, h9, h10]
   clear h0 h1 h2 h3 h4 h5 h6 h7 h8 h9 h10 hV g
   have GR : Hid (W3.grownBy W0 none) := gD
   clear gD
   go_wp2_with fail
   refine bodyPost_ret (by simp [results, Tryz.results171, go_sem]; try rfl) rfl ?_
   exact ⟨by simp [q0], grown_trans HG1.out (grown_trans HG3.out GR.out)⟩
end Go.Proofs.YtpcgkggpmipiaaaGreat
