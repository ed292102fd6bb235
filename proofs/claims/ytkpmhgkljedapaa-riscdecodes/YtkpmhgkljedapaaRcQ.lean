/- An instruction that lies in a block of its own. -/
import Derived.Test.YtkpmhgkljedapaaRcR
import Derived.Deep.AppendLies
namespace Go.Proofs.Ytkpmhgkljedapaa
open Go.RowKit
set_option linter.unusedVariables false

/-- the nine cells of block B hold the instruction v -/
structure InstAt (W : World) (B : Nat) (v : InV) : Prop where
  c0 : W.cell? ⟨B, 0, none⟩ = some (.int .i64 v.op)
  c1 : W.cell? ⟨B, 1, none⟩ = some (.int .i64 v.a)
  c2 : W.cell? ⟨B, 2, none⟩ = some (.int .i64 v.b)
  c3 : W.cell? ⟨B, 3, none⟩ = some (.int .i64 v.c)
  c4 : W.cell? ⟨B, 4, none⟩ = some (.int .i64 v.k)
  c5 : W.cell? ⟨B, 5, none⟩ = some (.int .i64 v.sub)
  c6 : W.cell? ⟨B, 6, none⟩ = some (.int .i64 v.scale)
  c7 : W.cell? ⟨B, 7, none⟩ = some (.int .i64 v.imm)
  c8 : W.cell? ⟨B, 8, none⟩ = some (.int .i64 v.label)
  fz : ∀ k, W.frozen? ⟨B, k, none⟩ = false

theorem InstAt.lt {W : World} {B : Nat} {v : InV} (h : InstAt W B v) : B < W.heap.size := World.block_lt_of_cell? _ _ h.c0
theorem InstAt.new (W : World) (v : InV) : InstAt (W.alloc (.cells #[.int .i64 v.op, .int .i64 v.a, .int .i64 v.b, .int .i64 v.c, .int .i64 v.k, .int .i64 v.sub, .int .i64 v.scale, .int .i64 v.imm, .int .i64 v.label] 28)) W.heap.size v := by
  constructor <;> intros <;> simp
theorem InstAt.kept {W W' : World} {B : Nat} {v : InV} {row : Option Nat} (h : InstAt W B v) (hg : W.grownBy W' row) (hne : some B ≠ row) : InstAt W' B v :=
  ⟨hg.cell h.c0 hne, hg.cell h.c1 hne, hg.cell h.c2 hne, hg.cell h.c3 hne, hg.cell h.c4 hne, hg.cell h.c5 hne, hg.cell h.c6 hne, hg.cell h.c7 hne, hg.cell h.c8 hne, fun k => (hg.frozen_far ⟨B, k, none⟩ h.lt hne).trans (h.fz k)⟩
theorem InstAt.below {W W' : World} {B N : Nat} {v : InV} (h : InstAt W B v) (hg : Below N W W') (hb : B < N) : InstAt W' B v :=
  ⟨(hg.cell (p := ⟨B, 0, none⟩) hb).trans h.c0, (hg.cell (p := ⟨B, 1, none⟩) hb).trans h.c1, (hg.cell (p := ⟨B, 2, none⟩) hb).trans h.c2, (hg.cell (p := ⟨B, 3, none⟩) hb).trans h.c3, (hg.cell (p := ⟨B, 4, none⟩) hb).trans h.c4, (hg.cell (p := ⟨B, 5, none⟩) hb).trans h.c5, (hg.cell (p := ⟨B, 6, none⟩) hb).trans h.c6, (hg.cell (p := ⟨B, 7, none⟩) hb).trans h.c7, (hg.cell (p := ⟨B, 8, none⟩) hb).trans h.c8, fun k => (hg.frozen (p := ⟨B, k, none⟩) hb).trans (h.fz k)⟩
theorem InstAt.drewN {W : World} {B : Nat} {v : InV} (h : InstAt W B v) (n : Nat) : InstAt (W.drewN n) B v := h.kept (grown_drewN (World.grownBy.refl _ none) n) (by simp)
theorem InstAt.set3 {W : World} {B : Nat} {v : InV} (h : InstAt W B v) (x : Int) : InstAt (W.setCell ⟨B, 3, none⟩ (.int .i64 x)) B { v with c := x } :=
  ⟨(World.cell?_setCell_other _ _ _ _ (by simp)).trans h.c0, (World.cell?_setCell_other _ _ _ _ (by simp)).trans h.c1, (World.cell?_setCell_other _ _ _ _ (by simp)).trans h.c2, World.cell?_setCell_same _ _ _ h.c3, (World.cell?_setCell_other _ _ _ _ (by simp)).trans h.c4, (World.cell?_setCell_other _ _ _ _ (by simp)).trans h.c5, (World.cell?_setCell_other _ _ _ _ (by simp)).trans h.c6, (World.cell?_setCell_other _ _ _ _ (by simp)).trans h.c7, (World.cell?_setCell_other _ _ _ _ (by simp)).trans h.c8, fun j => (World.frozen?_setCell _ _ _ _).trans (h.fz j)⟩
theorem InstAt.set4 {W : World} {B : Nat} {v : InV} (h : InstAt W B v) (x : Int) : InstAt (W.setCell ⟨B, 4, none⟩ (.int .i64 x)) B { v with k := x } :=
  ⟨(World.cell?_setCell_other _ _ _ _ (by simp)).trans h.c0, (World.cell?_setCell_other _ _ _ _ (by simp)).trans h.c1, (World.cell?_setCell_other _ _ _ _ (by simp)).trans h.c2, (World.cell?_setCell_other _ _ _ _ (by simp)).trans h.c3, World.cell?_setCell_same _ _ _ h.c4, (World.cell?_setCell_other _ _ _ _ (by simp)).trans h.c5, (World.cell?_setCell_other _ _ _ _ (by simp)).trans h.c6, (World.cell?_setCell_other _ _ _ _ (by simp)).trans h.c7, (World.cell?_setCell_other _ _ _ _ (by simp)).trans h.c8, fun j => (World.frozen?_setCell _ _ _ _).trans (h.fz j)⟩
theorem InstAt.set5 {W : World} {B : Nat} {v : InV} (h : InstAt W B v) (x : Int) : InstAt (W.setCell ⟨B, 5, none⟩ (.int .i64 x)) B { v with sub := x } :=
  ⟨(World.cell?_setCell_other _ _ _ _ (by simp)).trans h.c0, (World.cell?_setCell_other _ _ _ _ (by simp)).trans h.c1, (World.cell?_setCell_other _ _ _ _ (by simp)).trans h.c2, (World.cell?_setCell_other _ _ _ _ (by simp)).trans h.c3, (World.cell?_setCell_other _ _ _ _ (by simp)).trans h.c4, World.cell?_setCell_same _ _ _ h.c5, (World.cell?_setCell_other _ _ _ _ (by simp)).trans h.c6, (World.cell?_setCell_other _ _ _ _ (by simp)).trans h.c7, (World.cell?_setCell_other _ _ _ _ (by simp)).trans h.c8, fun j => (World.frozen?_setCell _ _ _ _).trans (h.fz j)⟩
theorem InstAt.set7 {W : World} {B : Nat} {v : InV} (h : InstAt W B v) (x : Int) : InstAt (W.setCell ⟨B, 7, none⟩ (.int .i64 x)) B { v with imm := x } :=
  ⟨(World.cell?_setCell_other _ _ _ _ (by simp)).trans h.c0, (World.cell?_setCell_other _ _ _ _ (by simp)).trans h.c1, (World.cell?_setCell_other _ _ _ _ (by simp)).trans h.c2, (World.cell?_setCell_other _ _ _ _ (by simp)).trans h.c3, (World.cell?_setCell_other _ _ _ _ (by simp)).trans h.c4, (World.cell?_setCell_other _ _ _ _ (by simp)).trans h.c5, (World.cell?_setCell_other _ _ _ _ (by simp)).trans h.c6, World.cell?_setCell_same _ _ _ h.c7, (World.cell?_setCell_other _ _ _ _ (by simp)).trans h.c8, fun j => (World.frozen?_setCell _ _ _ _).trans (h.fz j)⟩

end Go.Proofs.Ytkpmhgkljedapaa
