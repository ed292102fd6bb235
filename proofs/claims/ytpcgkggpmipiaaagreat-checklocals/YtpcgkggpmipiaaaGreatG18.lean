/- What check's methods of statements find as they begin. -/
import Derived.Test.YtpcgkggpmipiaaaGreatG11
namespace Go.Proofs.YtpcgkggpmipiaaaGreat
open Go.RowKit
set_option linter.unusedVariables false
abbrev stV (op n : Int) (a1 : Option Addr) (m1 k1 : Nat) (a2 : Option Addr) (m2 k2 : Nat) (a3 : Option Addr) (m3 k3 : Nat) (a4 : Option Addr) (m4 k4 : Nat) : Value := .agg #[.int .i64 op, .int .i64 n, .slice a1 m1 k1, .slice a2 m2 k2, .slice a3 m3 k3, .slice a4 m4 k4]
structure Kg (N : Nat) (W1 : World) (SB : Nat) (c : Ck.En) (A : ScA) (loops nodes deep : Int) (B4 : Nat) (n : Int) (a2 : Option Addr) (m2 k2 : Nat) : Prop where
 k0 : ∀ W, W1.grownBy W none → W.cell? ⟨SB, 0, none⟩ = some (.slice A.ea c.n A.ec)
 k1 : ∀ W, W1.grownBy W none → W.cell? ⟨SB, 1, none⟩ = some (.slice A.va c.n A.vc)
 kf : ∀ W, W1.grownBy W none → W.cell? ⟨SB, 2, none⟩ = some (.slice A.fa c.fs.length A.fc)
 k4 : ∀ W, W1.grownBy W none → W.cell? ⟨SB, 4, none⟩ = some (.slice A.la c.f.locals.length A.lc)
 k5 : ∀ W, W1.grownBy W none → W.cell? ⟨SB, 5, none⟩ = some (.slice A.ra c.f.results.length A.rc)
 k7 : ∀ W, W1.grownBy W none → W.cell? ⟨SB, 7, none⟩ = some (.int .i64 loops)
 x1 : ∀ W, W1.grownBy W none → W.cell? ⟨B4, 1, none⟩ = some (.int .i64 n)
 x3 : ∀ W, W1.grownBy W none → W.cell? ⟨B4, 3, none⟩ = some (.slice a2 m2 k2)
 sc : ∀ W, W1.grownBy W none → Sc N W SB c A loops nodes deep
theorem ck_openS {N : Nat} {w : World} {SB : Nat} {c : Ck.En} {A : ScA} {loops nodes deep : Int} (h : Sc N w SB c A loops nodes deep) (op n : Int) (a1 : Option Addr) (m1 k1 : Nat) (a2 : Option Addr) (m2 k2 : Nat) (a3 : Option Addr) (m3 k3 : Nat) (a4 : Option Addr) (m4 k4 : Nat) :
  ∃ W1 B4, Hid (w.alloc (Obj.cells #[.int .i64 op, .int .i64 n, .slice a1 m1 k1, .slice a2 m2 k2, .slice a3 m3 k3, .slice a4 m4 k4] 51) = W1 ∧ w.heap.size = B4) ∧ Hid (w.grownBy W1 none) ∧ Hid (Kg N W1 SB c A loops nodes deep B4 n a2 m2 k2) := by
 have g1 := World.grownBy_alloc w (Obj.cells #[.int .i64 op, .int .i64 n, .slice a1 m1 k1, .slice a2 m2 k2, .slice a3 m3 k3, .slice a4 m4 k4] 51) none
 have hS := h.grow g1
 have kb : Bk (w.alloc (Obj.cells #[.int .i64 op, .int .i64 n, .slice a1 m1 k1, .slice a2 m2 k2, .slice a3 m3 k3, .slice a4 m4 k4] 51)) w.heap.size 51 [.int .i64 op, .int .i64 n, .slice a1 m1 k1, .slice a2 m2 k2, .slice a3 m3 k3, .slice a4 m4 k4] := Bk.new _ _ _
 exact ⟨_, _, ⟨rfl, rfl⟩, g1, fun W g => (hS.grow g).k.cell (i := 0) rfl, fun W g => (hS.grow g).k.cell (i := 1) rfl, fun W g => (hS.grow g).k.cell (i := 2) rfl, fun W g => (hS.grow g).k.cell (i := 4) rfl, fun W g => (hS.grow g).k.cell (i := 5) rfl, fun W g => (hS.grow g).k.cell (i := 7) rfl, fun W g => (kb.grow g).cell (i := 1) rfl, fun W g => (kb.grow g).cell (i := 3) rfl, fun W g => hS.grow g⟩
def CkS (f : FuncId) (w : World) (SB : Nat) (x : Value) (aa : Option Addr) (k ac : Nat) (r : Except Int Unit) : Prop :=
 Calls Tryz.prog f #[.pointer (some ⟨SB, 0, none⟩), x, .slice aa k ac] w fun e w' => e = ckE (fun _ => Value.tuple #[]) r ∧ w.grownBy w' none
end Go.Proofs.YtpcgkggpmipiaaaGreat
