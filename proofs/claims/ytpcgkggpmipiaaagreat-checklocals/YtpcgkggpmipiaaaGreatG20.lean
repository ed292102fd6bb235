/- check's scopes. -/
import Derived.Test.YtpcgkggpmipiaaaGreatCkCall
namespace Go.Proofs.YtpcgkggpmipiaaaGreat
open Go.RowKit
set_option linter.unusedVariables false
set_option maxRecDepth 100000
set_option maxHeartbeats 8000000
theorem ckWithin {N : Nat} {w : World} {c : Ck.En} {A : ScA} {j : Nat} (hj : j < c.fs.length) (hcf : c.fs[j] = c.f) (hf : FnL (fun b => b < N) w A.fa A.fc c.fs) {fb fo : Nat} (hfa : A.fa = some ⟨fb, fo, none⟩) (hfx : FnC (fun b => b < N) w fb (fo + j * 4) c.f A.la A.ra A.ba A.lc A.rc A.bc) :
  Calls Tryz.prog 44 #[.agg #[.slice A.ea c.n A.ec, .slice A.va c.n A.vc], .slice A.fa c.fs.length A.fc, .int .i64 (j : Int)] w fun e w' => ∃ SB, e = .returned (.pointer (some ⟨SB, 0, none⟩)) ∧ w.heap.size ≤ SB ∧ Bk w' SB 119 [.slice A.ea c.n A.ec, .slice A.va c.n A.vc, .slice (some ⟨fb, fo, none⟩) c.fs.length A.fc, .int .i64 c.f.params, .slice A.la c.f.locals.length A.lc, .slice A.ra c.f.results.length A.rc, .slice A.ba c.f.body.length A.bc, .int .i64 0, .int .i64 0, .int .i64 0] ∧ w.grownBy w' none := by
 have hfl := hf.le
 have hfm := hf.max
 unfold maxLen at hfm
 have hj' : (j : Int) < c.fs.length := by omega
 rw [hfa]
 have g1 : w.grownBy (w.alloc (Obj.cells #[.slice A.ea c.n A.ec, .slice A.va c.n A.vc] 74)) none := World.grownBy_alloc _ _ _
 have kt : Bk (w.alloc (Obj.cells #[.slice A.ea c.n A.ec, .slice A.va c.n A.vc] 74)) w.heap.size 74 [.slice A.ea c.n A.ec, .slice A.va c.n A.vc] := Bk.new _ _ _
 obtain ⟨W1, hW1⟩ : ∃ W, W = (w.alloc (Obj.cells #[.slice A.ea c.n A.ec, .slice A.va c.n A.vc] 74)) := ⟨_, rfl⟩
 obtain ⟨B2, hB2⟩ : ∃ B, B = w.heap.size := ⟨_, rfl⟩
 rw [← hW1] at g1 kt
 rw [← hB2] at kt
 have HW : Hid ((w.alloc (Obj.cells #[.slice A.ea c.n A.ec, .slice A.va c.n A.vc] 74)) = W1 ∧ w.heap.size = B2) := ⟨hW1.symm, hB2.symm⟩
 have HG : Hid (w.grownBy W1 none) := g1
 have HX : Hid (∀ W, W1.grownBy W none → W.cell? ⟨B2, 0, none⟩ = some (.slice A.ea c.n A.ec) ∧ W.cell? ⟨B2, 1, none⟩ = some (.slice A.va c.n A.vc) ∧ W.cell? ⟨fb, fo + j * 4, none⟩ = some (.int .i64 c.f.params) ∧ W.cell? ⟨fb, fo + j * 4 + 1, none⟩ = some (.slice A.la c.f.locals.length A.lc) ∧ W.cell? ⟨fb, fo + j * 4 + 2, none⟩ = some (.slice A.ra c.f.results.length A.rc) ∧ W.cell? ⟨fb, fo + j * 4 + 3, none⟩ = some (.slice A.ba c.f.body.length A.bc)) := fun W g => ⟨(kt.grow g).cell (i := 0) rfl, (kt.grow g).cell (i := 1) rfl, (grown_trans g1 g).cell hfx.c0 (by simp), (grown_trans g1 g).cell hfx.c1 (by simp), (grown_trans g1 g).cell hfx.c2 (by simp), (grown_trans g1 g).cell hfx.c3 (by simp)⟩
 clear hW1 hB2 g1 kt hf hfx hcf hfa
 go_enter Tryz.func44, Tryz.ntmps44
 go_wp2_with fail
 rw [HW.out.1, HW.out.2]
 refine region_lu (fun w w' => w.grownBy w' none) (fun w w' => w' = w) (fun W => W = W1.drew) 7 (fun h1 h2 => grown_trans h1 h2) (fun w => rfl) (fun h => by rw [h]; exact World.grownBy.refl _ _) (fun g h => g.trans h) 8 [.val (.agg #[.slice A.ea c.n A.ec, .slice A.va c.n A.vc]), .val (.slice (some ⟨fb, fo, none⟩) c.fs.length A.fc), .val (.slice (some ⟨fb, fo, none⟩) c.fs.length A.fc), .val (.int .i64 (j : Int)), .val (.pointer (some ⟨fb, fo + j * 4, none⟩)), .val (.agg #[.int .i64 c.f.params, .slice A.la c.f.locals.length A.lc, .slice A.ra c.f.results.length A.rc, .slice A.ba c.f.body.length A.bc]), .val (.agg #[.slice A.ea c.n A.ec, .slice A.va c.n A.vc, .slice (some ⟨fb, fo, none⟩) c.fs.length A.fc, .int .i64 c.f.params, .slice A.la c.f.locals.length A.lc, .slice A.ra c.f.results.length A.rc, .slice A.ba c.f.body.length A.bc, .int .i64 0, .int .i64 0, .int .i64 0]), .prop (fun v w9 => ∃ SB, v = .pointer (some ⟨SB, 0, none⟩) ∧ W1.heap.size ≤ SB ∧ Bk w9 SB 119 [.slice A.ea c.n A.ec, .slice A.va c.n A.vc, .slice (some ⟨fb, fo, none⟩) c.fs.length A.fc, .int .i64 c.f.params, .slice A.la c.f.locals.length A.lc, .slice A.ra c.f.results.length A.rc, .slice A.ba c.f.body.length A.bc, .int .i64 0, .int .i64 0, .int .i64 0] ∧ W1.grownBy w9 none)] rfl (by kernel_rfl) (by kernel_rfl) (by kernel_rfl) (by kernel_rfl) rfl ?_
 simp only [List.take_succ_cons, List.take_zero]
 repeat (refine lu_val (x := _) rfl ?_ ?_ (fun w => rfl) (fun h => by rw [h]; exact World.grownBy.refl _ _) ?_ ?_; (· kernel_rfl); (· exact ⟨by kernel_rfl, rfl⟩); (· intro W gg; have g9 : W1.grownBy W none := grown_trans (grown_drew (World.grownBy.refl _ none)) gg; simp [go_sem, (HX.out W g9).1, (HX.out W g9).2.1, (HX.out W g9).2.2.1, (HX.out W g9).2.2.2.1, (HX.out W g9).2.2.2.2.1, (HX.out W g9).2.2.2.2.2, hj']; done); simp only [Act.put, List.setIfInBounds_toArray, List.set_cons_succ, List.set_cons_zero])
 refine lu_new rfl (by kernel_rfl) ⟨by kernel_rfl, rfl⟩ ?_ ?_ ?_
 ·intro v W W9 h9 hg9
  rw [show Rof (fun w w' : World => w' = w) (fun w w' => w.grownBy w' none) 7 (0 + 1 + 1 + 1 + 1 + 1 + 1 + 1) = (fun w w' : World => w' = w) from rfl] at hg9
  rw [hg9]; exact h9
 ·intro W gg hu
  obtain rfl := hu rfl
  refine ⟨_, W1.drew.alloc (.cells #[.slice A.ea c.n A.ec, .slice A.va c.n A.vc, .slice (some ⟨fb, fo, none⟩) c.fs.length A.fc, .int .i64 c.f.params, .slice A.la c.f.locals.length A.lc, .slice A.ra c.f.results.length A.rc, .slice A.ba c.f.body.length A.bc, .int .i64 0, .int .i64 0, .int .i64 0] 119), by simp [go_sem]; rfl, ?_, ?_⟩
  ·rw [show Rof (fun w w' => w.grownBy w' none) (fun w w' : World => w' = w) 7 (0 + 1 + 1 + 1 + 1 + 1 + 1 + 1) = (fun w w' : World => w.grownBy w' none) from rfl]
   exact World.grownBy_alloc _ _ _
  ·exact ⟨_, rfl, Nat.le_refl _, Bk.new _ _ _, grown_trans (grown_drew (World.grownBy.refl _ none)) (World.grownBy_alloc _ _ _)⟩
 intro v
 simp only [Act.put, List.setIfInBounds_toArray, List.set_cons_succ, List.set_cons_zero]
 refine lu_end fun W8 g8 hh => ?_
 obtain ⟨SB, hv, hs, hk8, hg8⟩ := hh (7, (fun v w9 => ∃ SB, v = .pointer (some ⟨SB, 0, none⟩) ∧ W1.heap.size ≤ SB ∧ Bk w9 SB 119 [.slice A.ea c.n A.ec, .slice A.va c.n A.vc, .slice (some ⟨fb, fo, none⟩) c.fs.length A.fc, .int .i64 c.f.params, .slice A.la c.f.locals.length A.lc, .slice A.ra c.f.results.length A.rc, .slice A.ba c.f.body.length A.bc, .int .i64 0, .int .i64 0, .int .i64 0] ∧ W1.grownBy w9 none) v) (by simp)
 subst hv
 have HK8 : Hid (Bk W8 SB 119 [.slice A.ea c.n A.ec, .slice A.va c.n A.vc, .slice (some ⟨fb, fo, none⟩) c.fs.length A.fc, .int .i64 c.f.params, .slice A.la c.f.locals.length A.lc, .slice A.ra c.f.results.length A.rc, .slice A.ba c.f.body.length A.bc, .int .i64 0, .int .i64 0, .int .i64 0] ∧ W1.heap.size ≤ SB ∧ W1.grownBy W8 none) := ⟨hk8, hs, hg8⟩
 clear hh hk8 hg8 hs
 simp only [List.drop_succ_cons, List.drop_zero]
 go_wp2
 go_ret
 exact ⟨SB, rfl, by have := HK8.out.2.1; have := HG.out.size; omega, HK8.out.1, grown_trans HG.out HK8.out.2.2⟩
end Go.Proofs.YtpcgkggpmipiaaaGreat
