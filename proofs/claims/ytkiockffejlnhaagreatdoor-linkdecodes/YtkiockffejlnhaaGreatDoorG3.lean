/- Contracts and plain facts that the walks share, text by text: RcG, RcR, RcQ, RcIns, RcRowsB, CcPure, CcOwn, RcD, Reckon. -/
import Derived.Test.YtkiockffejlnhaaGreatDoorG2
import Derived.Test.YtkiockffejlnhaaGreatDoorG1
import Derived.Deep.AppendLies
import Derived.Deep.Slices
import Derived.OpenShut
import Derived.Deep.Onto
/- risc.formOf: its contract. -/
namespace Go.Proofs.YtkiockffejlnhaaGreatDoor
open Go.RowKit
set_option linter.unusedVariables false
namespace Rc
def fo (g : Nat → Int) : FmV := ⟨g 0, g 1, g 2, g 3, s32 (Mm.ld g 4 4)⟩
theorem s32_rng (u : Int) : -2147483648 ≤ s32 u ∧ s32 u < 2147483648 := by unfold s32; omega
theorem u32_ld {g : Nat → Int} (hg : Mm.Fit g) : bits .or .u32 (bits .or .u32 (bits .or .u32 (g 4 % 4294967296) (g 5 % 4294967296 * 256 % 4294967296)) (g 6 % 4294967296 * 65536 % 4294967296)) (g 7 % 4294967296 * 16777216 % 4294967296) = Mm.ld g 4 4 := by
  have h4 := hg 4
  have h5 := hg 5
  have h6 := hg 6
  have h7 := hg 7
  have e : Mm.ld g 4 4 = g 4 + g 5 * 2 ^ 8 + g 6 * 2 ^ 16 + g 7 * 2 ^ 24 := by
    show 0 + g 4 * 1 + g 5 * 256 + g 6 * 65536 + g 7 * 16777216 = _
    omega
  rw [e, show g 4 % 4294967296 = g 4 by omega, show g 5 % 4294967296 * 256 % 4294967296 = g 5 * 2 ^ 8 by omega, show g 6 % 4294967296 * 65536 % 4294967296 = g 6 * 2 ^ 16 by omega, show g 7 % 4294967296 * 16777216 % 4294967296 = g 7 * 2 ^ 24 by omega]
  have b : ((2 : Int) ^ IntKind.u32.bits) = 4294967296 := rfl
  have o1 : bits .or .u32 (g 4) (g 5 * 2 ^ 8) = g 4 + g 5 * 2 ^ 8 := Mm.or_high rfl (by omega) (by omega) (by omega) (by omega)
  have o2 : bits .or .u32 (g 4 + g 5 * 2 ^ 8) (g 6 * 2 ^ 16) = g 4 + g 5 * 2 ^ 8 + g 6 * 2 ^ 16 := Mm.or_high rfl (by omega) (by omega) (by omega) (by omega)
  have o3 : bits .or .u32 (g 4 + g 5 * 2 ^ 8 + g 6 * 2 ^ 16) (g 7 * 2 ^ 24) = g 4 + g 5 * 2 ^ 8 + g 6 * 2 ^ 16 + g 7 * 2 ^ 24 := Mm.or_high rfl (by omega) (by omega) (by omega) (by omega)
  rw [o1, o2, o3]
end Rc
theorem wrap64_byte {x : Int} (h1 : 0 ≤ x) (h2 : x < 256) : wrap64 x = x := by unfold wrap64; omega
theorem wrap_s32 (x : Int) : wrap64 (wrap32 x) = Rc.s32 x := by unfold wrap64 wrap32 Rc.s32; omega
set_option maxHeartbeats 8000000 in
theorem formOf_any (b off n cap : Nat) (g : Nat → Int) (w : World) (hn : 8 ≤ n) (hnc : n ≤ cap) (hg : Mm.Fit g) (hc : ∀ i, i < n → w.cell? ⟨b, off + i, none⟩ = some (.int .u8 (g i))) :
    Calls Tryz.prog 55 #[.slice (some ⟨b, off, none⟩) n cap] w fun e w' => e = .returned (formv (Rc.fo g)) ∧ w.grownBy w' none := by
  have hi : ∀ j : Int, j < 8 → j < (n : Int) := fun j h => by omega
  have l0 := hi 0 (by decide)
  have l1 := hi 1 (by decide)
  have l2 := hi 2 (by decide)
  have l3 := hi 3 (by decide)
  have l4 := hi 4 (by decide)
  have l5 := hi 5 (by decide)
  have l6 := hi 6 (by decide)
  have l7 := hi 7 (by decide)
  have c0 : w.cell? ⟨b, off, none⟩ = some (.int .u8 (g 0)) := hc 0 (by omega)
  have c1 := hc 1 (by omega)
  have c2 := hc 2 (by omega)
  have c3 := hc 3 (by omega)
  have c4 := hc 4 (by omega)
  have c5 := hc 5 (by omega)
  have c6 := hc 6 (by omega)
  have c7 := hc 7 (by omega)
  have d0 : (w.alloc (Obj.cells #[.int .i64 0, .int .i64 0, .int .i64 0, .int .i64 0, .int .i64 0] 97)).cell? ⟨b, off, none⟩ = some (.int .u8 (g 0)) := (World.grownBy_alloc w (Obj.cells #[.int .i64 0, .int .i64 0, .int .i64 0, .int .i64 0, .int .i64 0] 97) none).cell c0 (by simp)
  have d1 : (w.alloc (Obj.cells #[.int .i64 0, .int .i64 0, .int .i64 0, .int .i64 0, .int .i64 0] 97)).cell? ⟨b, off + 1, none⟩ = some (.int .u8 (g 1)) := (World.grownBy_alloc w (Obj.cells #[.int .i64 0, .int .i64 0, .int .i64 0, .int .i64 0, .int .i64 0] 97) none).cell c1 (by simp)
  have d2 : (w.alloc (Obj.cells #[.int .i64 0, .int .i64 0, .int .i64 0, .int .i64 0, .int .i64 0] 97)).cell? ⟨b, off + 2, none⟩ = some (.int .u8 (g 2)) := (World.grownBy_alloc w (Obj.cells #[.int .i64 0, .int .i64 0, .int .i64 0, .int .i64 0, .int .i64 0] 97) none).cell c2 (by simp)
  have d3 : (w.alloc (Obj.cells #[.int .i64 0, .int .i64 0, .int .i64 0, .int .i64 0, .int .i64 0] 97)).cell? ⟨b, off + 3, none⟩ = some (.int .u8 (g 3)) := (World.grownBy_alloc w (Obj.cells #[.int .i64 0, .int .i64 0, .int .i64 0, .int .i64 0, .int .i64 0] 97) none).cell c3 (by simp)
  have d4 : (w.alloc (Obj.cells #[.int .i64 0, .int .i64 0, .int .i64 0, .int .i64 0, .int .i64 0] 97)).cell? ⟨b, off + 4, none⟩ = some (.int .u8 (g 4)) := (World.grownBy_alloc w (Obj.cells #[.int .i64 0, .int .i64 0, .int .i64 0, .int .i64 0, .int .i64 0] 97) none).cell c4 (by simp)
  have d5 : (w.alloc (Obj.cells #[.int .i64 0, .int .i64 0, .int .i64 0, .int .i64 0, .int .i64 0] 97)).cell? ⟨b, off + 5, none⟩ = some (.int .u8 (g 5)) := (World.grownBy_alloc w (Obj.cells #[.int .i64 0, .int .i64 0, .int .i64 0, .int .i64 0, .int .i64 0] 97) none).cell c5 (by simp)
  have d6 : (w.alloc (Obj.cells #[.int .i64 0, .int .i64 0, .int .i64 0, .int .i64 0, .int .i64 0] 97)).cell? ⟨b, off + 6, none⟩ = some (.int .u8 (g 6)) := (World.grownBy_alloc w (Obj.cells #[.int .i64 0, .int .i64 0, .int .i64 0, .int .i64 0, .int .i64 0] 97) none).cell c6 (by simp)
  have d7 : (w.alloc (Obj.cells #[.int .i64 0, .int .i64 0, .int .i64 0, .int .i64 0, .int .i64 0] 97)).cell? ⟨b, off + 7, none⟩ = some (.int .u8 (g 7)) := (World.grownBy_alloc w (Obj.cells #[.int .i64 0, .int .i64 0, .int .i64 0, .int .i64 0, .int .i64 0] 97) none).cell c7 (by simp)
  clear hi hc
  go_enter Tryz.func55, Tryz.ntmps55
  go_wp2_with fail
  go_quiet (fail)
  rw [Rc.u32_ld hg]
  go_wp2_with fail
  refine tail_quiet 20 (by kernel_rfl) (by kernel_rfl) ?_
  simp only [List.take_succ_cons, List.take_zero, List.drop_succ_cons, List.drop_zero]
  repeat (go_big_quiet_step (fail))
  refine wpQuiet_nil ?_
  go_wp2
  go_returns
  obtain ⟨g0, g0'⟩ := hg 0
  obtain ⟨g1, g1'⟩ := hg 1
  obtain ⟨g2, g2'⟩ := hg 2
  obtain ⟨g3, g3'⟩ := hg 3
  refine ⟨?_, ?_⟩
  · unfold formv Rc.fo
    dsimp only
    rw [wrap64_byte g0 g0', wrap64_byte g1 g1', wrap64_byte g2 g2', wrap64_byte g3 g3', wrap_s32]
  · exact grown_two (grown_drewN (World.grownBy_alloc _ _ _) _) (grown_trans (grown_trans (grown_trans (grown_trans (grown_setCell _ _ _ _) (grown_setCell _ _ _ _)) (grown_setCell _ _ _ _)) (grown_setCell _ _ _ _)) (grown_setCell _ _ _ _)) (Nat.le_refl _)
end Go.Proofs.YtkiockffejlnhaaGreatDoor

/- What eight bytes are told to be: plain; and how worlds grow. -/
namespace Go.Proofs.YtkiockffejlnhaaGreatDoor
open Go.RowKit
set_option linter.unusedVariables false
def zeroI : InV := ⟨0, 0, 0, 0, 0, 0, 0, 0, 0⟩
namespace Rc
def dv (g : Nat → Int) : InV := if okB g then rd g else zeroI
theorem rd_1 {g : Nat → Int} (h : g 0 = 4 ∨ g 0 = 7 ∨ g 0 = 8) : rd g = ⟨g 0, g 1, g 2, g 3, s32 (Mm.ld g 4 4) % 256, s32 (Mm.ld g 4 4) / 256, 0, 0, 0⟩ := by unfold rd; rw [if_pos h]
theorem rd_2 {g : Nat → Int} (h : g 0 = 11 ∨ g 0 = 13) : rd g = ⟨g 0, g 1, g 2, 0, g 3, 0, 0, s32 (Mm.ld g 4 4), 0⟩ := by unfold rd; rw [if_neg (by omega), if_pos h]
theorem rd_3 {g : Nat → Int} (h : ¬ (g 0 = 4 ∨ g 0 = 7 ∨ g 0 = 8)) (h' : ¬ (g 0 = 11 ∨ g 0 = 13)) : rd g = ⟨g 0, g 1, g 2, g 3, 0, 0, 0, s32 (Mm.ld g 4 4), 0⟩ := by unfold rd; rw [if_neg h, if_neg h']
end Rc
end Go.Proofs.YtkiockffejlnhaaGreatDoor

/- An instruction that lies in a block of its own. -/
namespace Go.Proofs.YtkiockffejlnhaaGreatDoor
open Go.RowKit
set_option linter.unusedVariables false
structure InstAt (W : World) (B : Nat) (v : InV) : Prop where
  c0 : W.cell? ⟨B, 0, none⟩ = some (.int .i64 v.op)
  c1 : W.cell? ⟨B, 1, none⟩ = some (.int .i64 v.a)
  c2 : W.cell? ⟨B, 2, none⟩ = some (.int .i64 v.b)
  c3 : W.cell? ⟨B, 3, none⟩ = some (.int .i64 v.c)
  c4 : W.cell? ⟨B, 4, none⟩ = some (.int .i64 v.k)
  c5 : W.cell? ⟨B, 5, none⟩ = some (.int .i64 v.sub)
  c6 : W.cell? ⟨B, 6, none⟩ = some (.int .i64 v.scale)
  c7 : W.cell? ⟨B, 7, none⟩ = some (.int .i64 v.imm)
  c8 : W.cell? ⟨B, 8, none⟩ = some (.int .i64 v.label)
  fz : ∀ k, W.frozen? ⟨B, k, none⟩ = false
theorem InstAt.lt {W : World} {B : Nat} {v : InV} (h : InstAt W B v) : B < W.heap.size := World.block_lt_of_cell? _ _ h.c0
theorem InstAt.new (W : World) (v : InV) : InstAt (W.alloc (.cells #[.int .i64 v.op, .int .i64 v.a, .int .i64 v.b, .int .i64 v.c, .int .i64 v.k, .int .i64 v.sub, .int .i64 v.scale, .int .i64 v.imm, .int .i64 v.label] 50)) W.heap.size v := by
  constructor <;> intros <;> simp
theorem InstAt.kept {W W' : World} {B : Nat} {v : InV} {row : Option Nat} (h : InstAt W B v) (hg : W.grownBy W' row) (hne : some B ≠ row) : InstAt W' B v :=
  ⟨hg.cell h.c0 hne, hg.cell h.c1 hne, hg.cell h.c2 hne, hg.cell h.c3 hne, hg.cell h.c4 hne, hg.cell h.c5 hne, hg.cell h.c6 hne, hg.cell h.c7 hne, hg.cell h.c8 hne, fun k => (hg.frozen_far ⟨B, k, none⟩ h.lt hne).trans (h.fz k)⟩
theorem InstAt.below {W W' : World} {B N : Nat} {v : InV} (h : InstAt W B v) (hg : Below N W W') (hb : B < N) : InstAt W' B v :=
  ⟨(hg.cell (p := ⟨B, 0, none⟩) hb).trans h.c0, (hg.cell (p := ⟨B, 1, none⟩) hb).trans h.c1, (hg.cell (p := ⟨B, 2, none⟩) hb).trans h.c2, (hg.cell (p := ⟨B, 3, none⟩) hb).trans h.c3, (hg.cell (p := ⟨B, 4, none⟩) hb).trans h.c4, (hg.cell (p := ⟨B, 5, none⟩) hb).trans h.c5, (hg.cell (p := ⟨B, 6, none⟩) hb).trans h.c6, (hg.cell (p := ⟨B, 7, none⟩) hb).trans h.c7, (hg.cell (p := ⟨B, 8, none⟩) hb).trans h.c8, fun k => (hg.frozen (p := ⟨B, k, none⟩) hb).trans (h.fz k)⟩
theorem InstAt.drewN {W : World} {B : Nat} {v : InV} (h : InstAt W B v) (n : Nat) : InstAt (W.drewN n) B v := h.kept (grown_drewN (World.grownBy.refl _ none) n) (by simp)
theorem InstAt.set3 {W : World} {B : Nat} {v : InV} (h : InstAt W B v) (x : Int) : InstAt (W.setCell ⟨B, 3, none⟩ (.int .i64 x)) B { v with c := x } :=
  ⟨(World.cell?_setCell_other _ _ _ _ (by simp)).trans h.c0, (World.cell?_setCell_other _ _ _ _ (by simp)).trans h.c1, (World.cell?_setCell_other _ _ _ _ (by simp)).trans h.c2, World.cell?_setCell_same _ _ _ h.c3, (World.cell?_setCell_other _ _ _ _ (by simp)).trans h.c4, (World.cell?_setCell_other _ _ _ _ (by simp)).trans h.c5, (World.cell?_setCell_other _ _ _ _ (by simp)).trans h.c6, (World.cell?_setCell_other _ _ _ _ (by simp)).trans h.c7, (World.cell?_setCell_other _ _ _ _ (by simp)).trans h.c8, fun j => (World.frozen?_setCell _ _ _ _).trans (h.fz j)⟩
theorem InstAt.set4 {W : World} {B : Nat} {v : InV} (h : InstAt W B v) (x : Int) : InstAt (W.setCell ⟨B, 4, none⟩ (.int .i64 x)) B { v with k := x } :=
  ⟨(World.cell?_setCell_other _ _ _ _ (by simp)).trans h.c0, (World.cell?_setCell_other _ _ _ _ (by simp)).trans h.c1, (World.cell?_setCell_other _ _ _ _ (by simp)).trans h.c2, (World.cell?_setCell_other _ _ _ _ (by simp)).trans h.c3, World.cell?_setCell_same _ _ _ h.c4, (World.cell?_setCell_other _ _ _ _ (by simp)).trans h.c5, (World.cell?_setCell_other _ _ _ _ (by simp)).trans h.c6, (World.cell?_setCell_other _ _ _ _ (by simp)).trans h.c7, (World.cell?_setCell_other _ _ _ _ (by simp)).trans h.c8, fun j => (World.frozen?_setCell _ _ _ _).trans (h.fz j)⟩
theorem InstAt.set5 {W : World} {B : Nat} {v : InV} (h : InstAt W B v) (x : Int) : InstAt (W.setCell ⟨B, 5, none⟩ (.int .i64 x)) B { v with sub := x } :=
  ⟨(World.cell?_setCell_other _ _ _ _ (by simp)).trans h.c0, (World.cell?_setCell_other _ _ _ _ (by simp)).trans h.c1, (World.cell?_setCell_other _ _ _ _ (by simp)).trans h.c2, (World.cell?_setCell_other _ _ _ _ (by simp)).trans h.c3, (World.cell?_setCell_other _ _ _ _ (by simp)).trans h.c4, World.cell?_setCell_same _ _ _ h.c5, (World.cell?_setCell_other _ _ _ _ (by simp)).trans h.c6, (World.cell?_setCell_other _ _ _ _ (by simp)).trans h.c7, (World.cell?_setCell_other _ _ _ _ (by simp)).trans h.c8, fun j => (World.frozen?_setCell _ _ _ _).trans (h.fz j)⟩
theorem InstAt.set7 {W : World} {B : Nat} {v : InV} (h : InstAt W B v) (x : Int) : InstAt (W.setCell ⟨B, 7, none⟩ (.int .i64 x)) B { v with imm := x } :=
  ⟨(World.cell?_setCell_other _ _ _ _ (by simp)).trans h.c0, (World.cell?_setCell_other _ _ _ _ (by simp)).trans h.c1, (World.cell?_setCell_other _ _ _ _ (by simp)).trans h.c2, (World.cell?_setCell_other _ _ _ _ (by simp)).trans h.c3, (World.cell?_setCell_other _ _ _ _ (by simp)).trans h.c4, (World.cell?_setCell_other _ _ _ _ (by simp)).trans h.c5, (World.cell?_setCell_other _ _ _ _ (by simp)).trans h.c6, World.cell?_setCell_same _ _ _ h.c7, (World.cell?_setCell_other _ _ _ _ (by simp)).trans h.c8, fun j => (World.frozen?_setCell _ _ _ _).trans (h.fz j)⟩
end Go.Proofs.YtkiockffejlnhaaGreatDoor

/- Instructions that came in: a slice of them, opened; bytes of one's own compared. -/
namespace Go.Proofs.YtkiockffejlnhaaGreatDoor
open Go.RowKit
set_option linter.unusedVariables false
structure InAt (w : World) (b o : Nat) (v : InV) : Prop where
  c0 : w.cell? ⟨b, o, none⟩ = some (.int .i64 v.op)
  c1 : w.cell? ⟨b, o + 1, none⟩ = some (.int .i64 v.a)
  c2 : w.cell? ⟨b, o + 2, none⟩ = some (.int .i64 v.b)
  c3 : w.cell? ⟨b, o + 3, none⟩ = some (.int .i64 v.c)
  c4 : w.cell? ⟨b, o + 4, none⟩ = some (.int .i64 v.k)
  c5 : w.cell? ⟨b, o + 5, none⟩ = some (.int .i64 v.sub)
  c6 : w.cell? ⟨b, o + 6, none⟩ = some (.int .i64 v.scale)
  c7 : w.cell? ⟨b, o + 7, none⟩ = some (.int .i64 v.imm)
  c8 : w.cell? ⟨b, o + 8, none⟩ = some (.int .i64 v.label)
theorem InAt.kept {w w' : World} {b o : Nat} {v : InV} {row : Option Nat} (h : InAt w b o v) (hg : w.grownBy w' row) (hne : some b ≠ row) : InAt w' b o v :=
  ⟨hg.cell h.c0 hne, hg.cell h.c1 hne, hg.cell h.c2 hne, hg.cell h.c3 hne, hg.cell h.c4 hne, hg.cell h.c5 hne, hg.cell h.c6 hne, hg.cell h.c7 hne, hg.cell h.c8 hne⟩
theorem InAt.below {w w' : World} {b o N : Nat} {v : InV} (h : InAt w b o v) (hg : Below N w w') (hb : b < N) : InAt w' b o v :=
  ⟨(hg.cell (p := ⟨b, o, none⟩) hb).trans h.c0, (hg.cell (p := ⟨b, o + 1, none⟩) hb).trans h.c1, (hg.cell (p := ⟨b, o + 2, none⟩) hb).trans h.c2, (hg.cell (p := ⟨b, o + 3, none⟩) hb).trans h.c3, (hg.cell (p := ⟨b, o + 4, none⟩) hb).trans h.c4, (hg.cell (p := ⟨b, o + 5, none⟩) hb).trans h.c5, (hg.cell (p := ⟨b, o + 6, none⟩) hb).trans h.c6, (hg.cell (p := ⟨b, o + 7, none⟩) hb).trans h.c7, (hg.cell (p := ⟨b, o + 8, none⟩) hb).trans h.c8⟩
end Go.Proofs.YtkiockffejlnhaaGreatDoor

/- Rows of bytes that came in: opened. -/
namespace Go.Proofs.YtkiockffejlnhaaGreatDoor
open Go.RowKit
set_option linter.unusedVariables false
structure BsIn (W : World) (ao : Option Addr) (len cap : Nat) (g : Nat → Int) : Prop where
  nil : ao = none → len = 0 ∧ cap = 0
  le : len ≤ cap
  max : cap ≤ maxLen
  fit : Mm.Fit g
  bs : Bs W ao len g
  lt : ∀ b off, 0 < len → ao = some ⟨b, off, none⟩ → b < W.heap.size
theorem open_bytes {H : Type} {enc : TypeId × Value → H} {W : World} {spare : Nat → Bool} {held : Bool} {fuel : Nat} {cs : List Value} {x : DataW H × List MemPlace}
    (h : DataW.trod enc Tryz.prog W 0 spare held fuel 24 cs = some x) : ∃ ao len cap g, cs = [.slice ao len cap] ∧ BsIn W ao len cap g := by
  have ce : Tryz.prog.cellsOf 5 = 1 := by kernel_rfl
  rcases Go.Deep.open_slice1 Tryz.underlying24 ce h with ⟨hcs, _⟩ | ⟨a, len, cap, m, n, V, D, Pl, hcs, hb, hl, hm, hmm, _, hx⟩
  · exact ⟨none, 0, 0, fun _ => 0, hcs, ⟨fun _ => ⟨rfl, rfl⟩, Nat.le_refl _, Nat.zero_le _, fun _ => by omega, .inl rfl, fun _ _ h => by omega⟩⟩
  · have hlm : len ≤ m := by rw [hmm]; split <;> omega
    have each : ∀ i, i < len → ∃ z : Int, V i = .int .u8 z ∧ 0 ≤ z ∧ z < 256 := by
      intro i hi
      obtain ⟨_, h2⟩ := hx i (by omega)
      obtain ⟨z, e, _, f⟩ := DataW.trod_int Tryz.underlying5 h2
      simp at e
      have f := bounds_u8 f
      exact ⟨z, e, by omega, by omega⟩
    by_cases h0 : len = 0
    · subst h0
      exact ⟨some a, 0, cap, fun _ => 0, hcs, ⟨(fun h => by cases h), hl, hm, fun _ => by omega, .inl rfl, fun _ _ h => by omega⟩⟩
    obtain ⟨b, off, spot⟩ := a
    obtain ⟨c0, _⟩ := hx 0 (by omega)
    have c0 : W.cell? ⟨b, off, spot⟩ = some (V 0) := by simpa [Addr.add] using c0
    obtain rfl : spot = none := World.cell?_spot c0
    have hlt := World.block_lt_of_cell? _ _ c0
    refine ⟨some ⟨b, off, none⟩, len, cap, fun i => if h : i < len then Classical.choose (each i h) else 0, hcs, ⟨(fun h => by cases h), hl, hm, fun i => ?_, .inr ⟨b, off, rfl, fun i hi => ?_⟩, fun b' off' _ e => ?_⟩⟩
    · by_cases h : i < len
      · simp only [dif_pos h]; exact (Classical.choose_spec (each i h)).2
      · simp only [dif_neg h]; omega
    · simp only [dif_pos hi]
      rw [← (Classical.choose_spec (each i hi)).1, ← add_none]
      exact (hx i (by omega)).1
    · injection e with e
      injection e with e
      subst e
      exact hlt
theorem BsIn.below {W W' : World} {ao : Option Addr} {n cap N : Nat} {g : Nat → Int} (h : BsIn W ao n cap g) (hg : Below N W W') (hN : N = W.heap.size) : BsIn W' ao n cap g := by
  refine ⟨h.nil, h.le, h.max, h.fit, ?_, fun b off h0 e => Nat.lt_of_lt_of_le (h.lt b off h0 e) hg.size⟩
  rcases h.bs with h0 | ⟨b, off, e, hc⟩
  · exact .inl h0
  · by_cases h0 : n = 0
    · exact .inl h0
    · exact .inr ⟨b, off, e, fun i hi => (hg.cell (p := ⟨b, off + i, none⟩) (by rw [hN]; exact h.lt b off (by omega) e)).trans (hc i hi)⟩
theorem BsIn.kept {W W' : World} {ao : Option Addr} {n cap : Nat} {g : Nat → Int} (h : BsIn W ao n cap g) (hg : W.grownBy W' none) : BsIn W' ao n cap g := by
  refine ⟨h.nil, h.le, h.max, h.fit, ?_, fun b off h0 e => Nat.lt_of_lt_of_le (h.lt b off h0 e) hg.size⟩
  rcases h.bs with h0 | ⟨b, off, e, hc⟩
  · exact .inl h0
  · exact .inr ⟨b, off, e, fun i hi => hg.cell (hc i hi) (by simp)⟩
theorem own_slice {w : World} {base n : Nat} {x : Value} {g : Nat → Int} (h : OwnB w base x n g) (hn : 0 < n) : ∃ T cap, x = .slice (some ⟨T, 0, none⟩) n cap ∧ n ≤ cap ∧ base ≤ T := by
  rcases h.2 with ⟨_, h0⟩ | ⟨T, cap, cur, rfl, hb, _, hc, _⟩
  · omega
  · exact ⟨T, cap, rfl, hc, hb⟩
theorem Bs.kept {w w' : World} {ao : Option Addr} {n : Nat} {g : Nat → Int} (h : Bs w ao n g) (hg : w.grownBy w' none) : Bs w' ao n g := by
  rcases h with h | ⟨b, off, e, hc⟩
  · exact .inl h
  · exact .inr ⟨b, off, e, fun i hi => hg.cell (hc i hi) (by simp)⟩
end Go.Proofs.YtkiockffejlnhaaGreatDoor

/- Instructions of C64 by the page's rows, as plain functions on integers: which there are, their bytes, and back. No Go here. -/
namespace Go.Proofs.YtkiockffejlnhaaGreatDoor
set_option linter.unusedVariables false
namespace Cc
def row (op : Int) : List Int :=
  if op = 1 then [110, 105] else if op = 3 ∨ op = 26 ∨ op = 27 ∨ op = 28 then [97] else if op = 4 ∨ op = 7 ∨ op = 8 then [97, 75, 83] else if op = 5 then [110, 75, 83, 105]
  else if op = 6 then [97, 75, 83, 52] else if op = 10 then [97, 99, 52] else if op = 11 ∨ op = 13 then [97, 75, 52] else if op = 12 ∨ op = 14 then [97, 99, 75, 52]
  else if op = 15 ∨ op = 18 then [97, 83] else if op = 16 then [97, 75] else if op = 17 then [110, 75, 105] else if op = 19 then [106, 105] else if op = 22 then [74, 105]
  else if op = 23 ∨ op = 25 ∨ op = 29 then [52] else if op = 24 then [45] else []
def useL (op l c : Int) : Bool :=
  if l = 97 then c == 65 || (c == 66 && op != 7 && op != 27 && op != 28 && op != 18) else if l = 110 then c == 65 else if l = 99 then c == 67 else if l = 75 then c == 75
  else if l = 83 ∨ l = 74 then c == 83 else if l = 105 ∨ l = 52 then c == 73 else false
def usesB (op c : Int) : Bool := (row op).any fun l => useL op l c
def immB (sub k n : Int) : Bool :=
  Wd.intB k && Wd.hasBinB sub k && sub != 4 && sub != 5 && Rc.smallB n && (Rc.s32 (Wd.canon (if Wd.shB sub then 9 else k) (n % 18446744073709551616)) == n)
def binB (v : InV) : Bool :=
  Wd.hasBinB v.sub v.k && (if Wd.shB v.sub then v.b == 1 && v.a != 1 else if Wd.intB v.k && (v.sub == 4 || v.sub == 5) then v.a == 0 && v.b != 0 && v.b != 2 else true)
def sclB (v : InV) : Bool := v.scale == 1 || v.scale == 2 || v.scale == 4 || v.scale == 8 || (v.scale == 0 && v.c == 0 && v.op == 10)
def kindB (v : InV) : Bool :=
  if v.op = 4 then binB v else if v.op = 5 then immB v.sub v.k v.imm else if v.op = 6 then Wd.hasBinB v.sub v.k && !Wd.shB v.sub && (!Wd.intB v.k || (v.sub != 4 && v.sub != 5))
  else if v.op = 7 then Wd.hasUnB v.sub v.k else if v.op = 8 then Wd.numB v.sub && Wd.numB v.k else if v.op = 10 then sclB v else if v.op = 12 ∨ v.op = 14 then sclB v && Wd.wordB v.k
  else if v.op = 11 ∨ v.op = 13 ∨ v.op = 16 then Wd.wordB v.k else if v.op = 17 then immB 2 v.k v.imm else if v.op = 15 ∨ v.op = 18 ∨ v.op = 22 then Wd.cmpB v.sub
  else if v.op = 25 then decide (0 ≤ v.imm) else if v.op = 29 then decide (0 < v.imm) else true
def mayB (v : InV) : Bool :=
  !(row v.op).isEmpty && v.label == 0 && Rc.regB v.a && Rc.regB v.b && Rc.regB v.c && (usesB v.op 65 || v.a == 0) && (usesB v.op 66 || v.b == 0) && (usesB v.op 67 || (v.c == 0 && v.scale == 0)) &&
  (usesB v.op 75 || v.k == 0) && (usesB v.op 83 || v.sub == 0) && (usesB v.op 73 || v.imm == 0) && (v.op == 1 || Rc.smallB v.imm) && kindB v
def size (n : Int) : Int := if -128 ≤ n ∧ n < 128 then 0 else if -2147483648 ≤ n ∧ n < 2147483648 then 1 else 2
def cnt (s : Int) : Nat := if s = 0 then 1 else if s = 1 then 4 else 8
def lg (s : Int) : Int := if s = 1 then 0 else if s = 2 then 1 else if s = 4 then 2 else if s = 8 then 3 else 15
def low (n : Int) (c : Nat) : List Int := (List.range c).map (Mm.by8 (n % 18446744073709551616))
def letB (v : InV) (l : Int) : List Int :=
  if l = 97 then [(16 * v.a + v.b) % 256] else if l = 110 then [(16 * v.a + size v.imm) % 256] else if l = 106 then [size v.imm % 256] else if l = 74 then [(16 * (v.sub - 11) + size v.imm) % 256]
  else if l = 99 then [(16 * v.c + lg v.scale) % 256] else if l = 75 then [v.k % 256] else if l = 83 then [v.sub % 256] else if l = 105 then low v.imm (cnt (size v.imm)) else if l = 52 then low v.imm 4 else []
def enc (v : InV) : List Int := v.op % 256 :: (row v.op).flatMap (letB v)
def num (g : Nat → Int) (at' c : Nat) : Int :=
  if c = 1 then (Mm.ld g at' 1 + 128) % 256 - 128 else if c = 4 then Rc.s32 (Mm.ld g at' 4) else Wd.sg (Mm.ld g at' 8)
def scl (n : Int) : Int := if n = 0 then 1 else if n = 1 then 2 else if n = 2 then 4 else if n = 3 then 8 else if n = 15 then 0 else -1
def lcnt (l s : Int) : Nat := if l = 105 then cnt s else if l = 52 then 4 else 1
def lset (l : Int) (v : InV) (x y : Int) : InV :=
  if l = 97 then { v with a := x / 16, b := x % 16 } else if l = 110 then { v with a := x / 16 } else if l = 106 then v else if l = 74 then { v with sub := x / 16 + 11 }
  else if l = 99 then { v with c := x / 16, scale := scl (x % 16) } else if l = 75 then { v with k := x } else if l = 83 then { v with sub := x } else { v with imm := y }
def lsz (l s x : Int) : Int := if l = 110 ∨ l = 74 then x % 16 else if l = 106 then x else s
def rdL (N : Nat) (g : Nat → Int) : List Int → InV → Int → Nat → InV × Int
  | [], v, _, p => (v, p)
  | l :: s, v, z, p =>
    if N < p + lcnt l z then (v, 0)
    else if 2 < lsz l z (g p) ∨ (lsz l z (g p) = 2 ∧ v.op ≠ 1) then (lset l v (g p) (num g p (lcnt l z)), -1)
    else rdL N g s (lset l v (g p) (num g p (lcnt l z))) (lsz l z (g p)) (p + lcnt l z)
def rrow (op : Int) : List Int := if op = 24 then [] else row op
def read (N : Nat) (g : Nat → Int) : InV × Int := rdL N g (rrow (g 0)) ⟨g 0, 0, 0, 0, 0, 0, 0, 0, 0⟩ 0 1
def zero : InV := ⟨0, 0, 0, 0, 0, 0, 0, 0, 0⟩
def startsB (l : List Int) (g : Nat → Int) : Bool := decide (∀ i, i < l.length → g i = l.getD i 0)
def dec (N : Nat) (g : Nat → Int) : InV × Int × Int :=
  if N = 0 then (zero, 0, 41) else if (row (g 0)).isEmpty then (zero, 0, 40) else if (read N g).2 = 0 then (zero, 0, 41)
  else if (read N g).2 < 0 ∨ mayB (read N g).1 = false ∨ (((enc (read N g).1).length : Int) ≠ (read N g).2 ∨ startsB (enc (read N g).1) g = false) then (zero, 0, 40) else ((read N g).1, (read N g).2, 0)
theorem rd_congr {N : Nat} {g g' : Nat → Int} (h : ∀ i, i < N → g i = g' i) : ∀ (s : List Int) (v : InV) (z : Int) (p : Nat), rdL N g s v z p = rdL N g' s v z p := by
  intro s
  induction s with
  | nil => intro v z p; rfl
  | cons l s ih =>
    intro v z p
    unfold rdL
    by_cases h1 : N < p + lcnt l z
    · rw [if_pos h1, if_pos h1]
    · have hl : 1 ≤ lcnt l z := by unfold lcnt cnt; repeat' split
                                   all_goals omega
      have e1 : g p = g' p := h p (by omega)
      have e2 : num g p (lcnt l z) = num g' p (lcnt l z) := by
        have hc : ∀ c, c ≤ lcnt l z → Mm.ld g p c = Mm.ld g' p c := fun c hc => Mm.ld_congr fun i hi => h _ (by omega)
        unfold num
        by_cases c1 : lcnt l z = 1
        · rw [if_pos c1, if_pos c1, hc 1 (by omega)]
        · by_cases c4 : lcnt l z = 4
          · rw [if_neg c1, if_neg c1, if_pos c4, if_pos c4, hc 4 (by omega)]
          · have : lcnt l z = 8 := by
              revert c1 c4; unfold lcnt cnt; repeat' split
              all_goals omega
            rw [if_neg c1, if_neg c1, if_neg c4, if_neg c4, hc 8 (by omega)]
      rw [if_neg h1, if_neg h1, e1, e2, ih]
theorem num_low {g : Nat → Int} {p c : Nat} {n : Int} (hc : (c = 1 ∧ -128 ≤ n ∧ n < 128) ∨ (c = 4 ∧ -2147483648 ≤ n ∧ n < 2147483648) ∨ (c = 8 ∧ -9223372036854775808 ≤ n ∧ n ≤ 9223372036854775807)) (h : ∀ i, i < c → g (p + i) = Mm.by8 (n % 18446744073709551616) i) : num g p c = n := by
  have e : Mm.ld g p c = (n % 18446744073709551616) % 256 ^ c := by
    rw [← Mm.ld_by8]
    exact Mm.ld_congr fun i hi => by rw [h i hi, Nat.zero_add]
  unfold num
  rcases hc with ⟨rfl, h1, h2⟩ | ⟨rfl, h1, h2⟩ | ⟨rfl, h1, h2⟩
  · rw [if_pos rfl, e]
    have : (256 : Int) ^ 1 = 256 := rfl
    omega
  · rw [if_neg (by decide), if_pos rfl, e]
    have : (256 : Int) ^ 4 = 4294967296 := rfl
    unfold Rc.s32; omega
  · rw [if_neg (by decide), if_neg (by decide), e]
    have : (256 : Int) ^ 8 = 18446744073709551616 := rfl
    unfold Wd.sg; omega
end Cc
end Go.Proofs.YtkiockffejlnhaaGreatDoor

/- Bytes that a call made itself, as a list. -/
namespace Go.Proofs.YtkiockffejlnhaaGreatDoor
open Go.RowKit
set_option linter.unusedVariables false
def OwnL (w : World) (base : Nat) (v : Value) (l : List Int) : Prop := w.ownsRow base 5 1 v l.length (l.map (Value.int .u8))
theorem bytesL_list (l : List Int) : bytesL l.length (fun i => l.getD i 0) = l.map (Value.int .u8) := by
  refine List.ext_getElem? fun i => ?_
  by_cases hi : i < l.length
  · rw [bytesL_at _ hi, List.getElem?_map, List.getElem?_eq_getElem hi]
    simp [List.getD_eq_getElem?_getD, List.getElem?_eq_getElem hi]
  · rw [List.getElem?_eq_none (by rw [bytesL_len]; omega), List.getElem?_eq_none (by rw [List.length_map]; omega)]
theorem OwnL.toB {w : World} {base : Nat} {v : Value} {l : List Int} (h : OwnL w base v l) : OwnB w base v l.length (fun i => l.getD i 0) := by
  unfold OwnB; rw [bytesL_list]; exact h
theorem OwnB.toL {w : World} {base n : Nat} {v : Value} {g : Nat → Int} (h : OwnB w base v n g) : OwnL w base v ((List.range n).map g) := by
  unfold OwnL
  rw [List.length_map, List.length_range, List.map_map]
  exact h
theorem OwnL.nil (w : World) (base : Nat) : OwnL w base (.slice none 0 0) [] := World.ownsRow_nil _ _ _ _
theorem OwnL.kept {w w' : World} {base : Nat} {v : Value} {l : List Int} {row : Option Nat} (h : OwnL w base v l) (hg : w.grownBy w' row) (hne : v.ownBlock = none ∨ v.ownBlock ≠ row) : OwnL w' base v l := World.ownsRow.kept h hg hne
theorem OwnL.low {w : World} {base base' : Nat} {v : Value} {l : List Int} (h : OwnL w base v l) (hb : base' ≤ base) : OwnL w base' v l := World.ownsRow.mono h hb
theorem OwnL.app {w : World} {base : Nat} {v : Value} {l m : List Int} (h : w.ownsRow base 5 1 v (l.length + m.length) (l.map (Value.int .u8) ++ m.map (Value.int .u8))) : OwnL w base v (l ++ m) := by
  unfold OwnL
  rw [List.length_append, List.map_append]
  exact h
theorem OwnL.one {w : World} {base : Nat} {v : Value} {l : List Int} {x : Int} (h : w.ownsRow base 5 1 v (l.length + 1) (l.map (Value.int .u8) ++ [.int .u8 x])) : OwnL w base v (l ++ [x]) := OwnL.app (m := [x]) h
theorem OwnL.lit (w : World) (base : Nat) (l : List Int) (hb : base ≤ w.heap.size) (hm : l.length ≤ maxLen) : OwnL (w.alloc (.cells (l.map (Value.int .u8)).toArray 5)) base (.slice (some ⟨w.heap.size, 0, none⟩) l.length l.length) l := by
  have := World.ownsRow_lit (base := base) (e := 5) (size := 1) w (l.map (Value.int .u8)).toArray l.length hb hm (by simp)
  simpa [OwnL] using this
namespace Cc
theorem low_zero (n : Int) : low n 0 = [] := rfl
theorem low_succ (n : Int) (c : Nat) : low n (c + 1) = low n c ++ [Mm.by8 (n % 18446744073709551616) c] := by
  unfold low
  rw [List.range_succ, List.map_append]; rfl
theorem low_len (n : Int) (c : Nat) : (low n c).length = c := by unfold low; simp
end Cc
end Go.Proofs.YtkiockffejlnhaaGreatDoor

/- gantryref3.May: its contract. -/
namespace Go.Proofs.YtkiockffejlnhaaGreatDoor
open Go.RowKit
set_option linter.unusedVariables false
namespace Rc
theorem fld_size (o : Int) : (fld o).size ≤ 1000 := by
  unfold fld
  repeat' split
  all_goals decide
def unB (s : ByteArray) (c n : Int) : Bool := hasS s c || n == 0
def kindC (v : InV) : Bool :=
  cond (v.op == 4) (Wd.hasBinB v.sub v.k) (cond (v.op == 7) (Wd.hasUnB v.sub v.k) (cond (v.op == 8) (Wd.numB v.sub && Wd.numB v.k) (cond (v.op == 11) (Wd.wordB v.k) (cond (v.op == 13) (Wd.wordB v.k)
  (cond (v.op == 15) (decide (0 ≤ v.imm) && decide (v.imm < 16)) (cond (v.op == 25) (decide (0 ≤ v.imm)) (cond (v.op == 29) (decide (0 < v.imm)) true)))))))
theorem kind_c (v : InV) : kindB v = kindC v := by
  unfold kindB kindC
  simp only [Bool.cond_eq_ite, beq_iff_eq]
  repeat' split
  all_goals first | rfl | omega
theorem may_un (v : InV) (h : (fld v.op).data.isEmpty = false) : mayB v = (v.scale == 0 && v.label == 0 && regB v.a && regB v.b && regB v.c && smallB v.imm &&
    unB (fld v.op) 65 v.a && unB (fld v.op) 66 v.b && unB (fld v.op) 67 v.c && unB (fld v.op) 75 v.k && unB (fld v.op) 83 v.sub && (hasS (fld v.op) 73 || v.imm == 0) && kindC v) := by
  rw [← kind_c]; unfold mayB unB; rw [h]; rfl
theorem may_no (v : InV) (h : (fld v.op).data.isEmpty = true) : mayB v = false := by
  unfold mayB; rw [h]; rfl
theorem toList_nil (s : ByteArray) : s.toList = s.data.toList := by rw [ByteArray.toList_eq]
end Rc
theorem unusedU (s : ByteArray) (c n : Int) (w : World) (hs : s.size ≤ 1000) :
    Calls Tryz.prog 96 #[.string s, .int .u8 c, .int .i64 n] w fun e w' => e = .returned (.bool (Rc.unB s c n)) ∧ w' = w := unused_any s c n w hs
set_option maxHeartbeats 8000000 in
theorem rmay_empty (v : InV) (w : World) (h1 : (Rc.fld v.op).toList = []) :
    Calls Tryz.prog 68 #[inst v] w fun e w' => e = .returned (.bool false) ∧ w' = w.alloc (Obj.cells #[.int .i64 v.op, .int .i64 v.a, .int .i64 v.b, .int .i64 v.c, .int .i64 v.k, .int .i64 v.sub, .int .i64 v.scale, .int .i64 v.imm, .int .i64 v.label] 50) := by
  unfold inst
  go_enter Tryz.func68, Tryz.ntmps68
  go_wp2_with (go_at_call 94; refine (fields_any _ _).mono ?_; rintro e w' ⟨rfl, rfl⟩)
  go_ret
  exact ⟨rfl, rfl⟩
set_option maxHeartbeats 8000000 in
theorem rmay_full (v : InV) (w : World) (h1 : ((Rc.fld v.op).toList = []) = False) (h2 : (Rc.fld v.op).toList.isEmpty = false) (h3 : ((Rc.fld v.op).toList == []) = false) (h4 : (Rc.fld v.op).data.isEmpty = false) :
    Calls Tryz.prog 68 #[inst v] w fun e w' => e = .returned (.bool (Rc.mayB v)) ∧ w' = w.alloc (Obj.cells #[.int .i64 v.op, .int .i64 v.a, .int .i64 v.b, .int .i64 v.c, .int .i64 v.k, .int .i64 v.sub, .int .i64 v.scale, .int .i64 v.imm, .int .i64 v.label] 50) := by
  have hs := Rc.fld_size v.op
  have HM : Hid (Rc.mayB v = _) := Rc.may_un v h4
  clear h4
  unfold inst
  go_enter Tryz.func68, Tryz.ntmps68
  go_wp2_with (first
    | (go_at_call 94; refine (fields_any _ _).mono ?_; rintro e w' ⟨rfl, rfl⟩)
    | (go_at_call 95; refine (rreg_any _ _).mono ?_; rintro e w' ⟨rfl, rfl⟩)
    | (go_at_call 71; refine (rsmall_any _ _).mono ?_; rintro e w' ⟨rfl, rfl⟩)
    | (go_at_call 96; refine (unusedU _ _ _ _ hs).mono ?_; rintro e w' ⟨rfl, rfl⟩)
    | (go_at_call 97; refine (has_any _ _ _ hs).mono ?_; rintro e w' ⟨rfl, rfl⟩)
    | (go_at_call 98; refine (rhasBin_any _ _ _).mono ?_; rintro e w' ⟨rfl, rfl⟩)
    | (go_at_call 99; refine (rhasUn_any _ _ _).mono ?_; rintro e w' ⟨rfl, rfl⟩)
    | (go_at_call 100; refine (rhasConv_any _ _ _).mono ?_; rintro e w' ⟨rfl, rfl⟩)
    | (go_at_call 101; refine (rword_any _ _).mono ?_; rintro e w' ⟨rfl, rfl⟩))
  all_goals
    go_ret
    refine ⟨ret_bool ?_, by first | rfl | (simp only [*]; done) | (simp [*]; done) | (simp_all; done)⟩
    rw [HM.out]
    generalize Rc.unB (Rc.fld v.op) 65 v.a = u1 at *
    generalize Rc.unB (Rc.fld v.op) 66 v.b = u2 at *
    generalize Rc.unB (Rc.fld v.op) 67 v.c = u3 at *
    generalize Rc.unB (Rc.fld v.op) 75 v.k = u4 at *
    generalize Rc.unB (Rc.fld v.op) 83 v.sub = u5 at *
    generalize Rc.hasS (Rc.fld v.op) 73 = u6 at *
    unfold Rc.kindC
    first | (simp [*]; done) | (simp_all; done) | (simp_all; omega)
theorem rmay_w (v : InV) (w : World) :
    Calls Tryz.prog 68 #[inst v] w fun e w' => e = .returned (.bool (Rc.mayB v)) ∧ w' = w.alloc (Obj.cells #[.int .i64 v.op, .int .i64 v.a, .int .i64 v.b, .int .i64 v.c, .int .i64 v.k, .int .i64 v.sub, .int .i64 v.scale, .int .i64 v.imm, .int .i64 v.label] 50) := by
  have e := Rc.toList_nil (Rc.fld v.op)
  cases h : (Rc.fld v.op).data.isEmpty
  · have h0 : (Rc.fld v.op).toList ≠ [] := by rw [e]; simpa using h
    exact rmay_full v w (eq_false h0) (by simpa using h0) (by simpa using h0) h
  · rw [Rc.may_no v h]
    exact rmay_empty v w (by rw [e]; simpa using h)
theorem rmay_any (v : InV) (w : World) :
    Calls Tryz.prog 68 #[inst v] w fun e w' => e = .returned (.bool (Rc.mayB v)) ∧ w.grownBy w' none :=
  (rmay_w v w).mono fun _ _ ⟨h1, h2⟩ => ⟨h1, h2 ▸ World.grownBy_alloc _ _ _⟩
end Go.Proofs.YtkiockffejlnhaaGreatDoor

/- What is reckoned of two ints: contracts. -/
namespace Go.Proofs.YtkiockffejlnhaaGreatDoor
open Go.RowKit
set_option maxHeartbeats 400000 in
theorem compareU_any (op a b : Int) (w : World) :
    Calls Tryz.prog 151 #[.int .i64 op, .int .u64 a, .int .u64 b] w fun e w' => e = .returned (.int .u64 (Wd.cmpI op a b)) ∧ w' = w := by
  go_enter Tryz.func151, Tryz.ntmps151
  go_wp2
  all_goals (go_ret; refine ⟨ret_u64 ?_, rfl⟩; simp only [beq_iff_eq, beq_eq_false_iff_ne] at *; unfold Wd.cmpI Wd.tr; simp_all <;> omega)
set_option maxHeartbeats 400000 in
theorem compareI_any (op a b : Int) (w : World) :
    Calls Tryz.prog 150 #[.int .i64 op, .int .i64 a, .int .i64 b] w fun e w' => e = .returned (.int .u64 (Wd.cmpI op a b)) ∧ w' = w := by
  go_enter Tryz.func150, Tryz.ntmps150
  go_wp2
  all_goals (go_ret; refine ⟨ret_u64 ?_, rfl⟩; simp only [beq_iff_eq, beq_eq_false_iff_ne] at *; unfold Wd.cmpI Wd.tr; simp_all <;> omega)
end Go.Proofs.YtkiockffejlnhaaGreatDoor
