/- What a step of the program's machine shares: an instruction's box, what lies apart from a machine. -/
import Derived.Test.YtdklaeppcjopoaaGreatG2
namespace Go.Proofs.YtdklaeppcjopoaaGreat
open Go.RowKit
set_option linter.unusedVariables false

theorem Mc.inst {h : Pd} {w W w' : World} {s : Ru.St} {K : Nat} {v : InV} (m : Mc h W w') (i : InstAt W K v) (x : IsC w h s) (hK : w.heap.size ≤ K) : InstAt w' K v := by
  have e : w'.heap[K]? = W.heap[K]? := m.block K i.lt (by have := x.hd.lt; omega) (by have := x.mm.row.lt; omega)
  have c : ∀ o, w'.cell? ⟨K, o, none⟩ = W.cell? ⟨K, o, none⟩ := fun o => World.cell?_of_block (w := W) e
  exact ⟨(c 0).trans i.c0, (c 1).trans i.c1, (c 2).trans i.c2, (c 3).trans i.c3, (c 4).trans i.c4, (c 5).trans i.c5, (c 6).trans i.c6, (c 7).trans i.c7, (c 8).trans i.c8, fun o => (World.frozen?_of_block (w := W) e).trans (i.fz o)⟩
/-- what is stored beyond stays beyond -/
theorem IsC.far {w W W' : World} {h : Pd} {s0 s : Ru.St} {K : Nat} (y : IsC W h s) (x : IsC w h s0) (g : W.grownBy W' (some K)) (hK : w.heap.size ≤ K) : IsC W' h s where
  hd := y.hd.of_block (g.block _ y.hd.lt (fun e => by have := x.hd.lt; injection e with e; omega))
  mm := y.mm.kept g (fun e => by have := x.mm.head.lt; injection e with e; omega) (fun e => by have := x.mm.row.lt; injection e with e; omega)
  cd := y.cd.grow g (fun b off h0 e hh => by have := x.cd.lt b off h0 e; injection hh with hh; omega)
  cb := y.cb
  s1 := y.s1
  s2 := y.s2
  ok := y.ok
theorem Mc.far {h : Pd} {w W W' : World} {K : Nat} (m : Mc h w W) (g : W.grownBy W' (some K)) (hK : w.heap.size ≤ K) : Mc h w W' where
  os := g.os.trans m.os
  tape := g.tape.trans m.tape
  output := g.output.trans m.output
  size := Nat.le_trans m.size g.size
  block := fun k hk h1 h2 => (g.block k (Nat.lt_of_lt_of_le hk m.size) (fun e => by injection e with e; omega)).trans (m.block k hk h1 h2)
theorem InstAt.setB {W : World} {K B o : Nat} {v : InV} (i : InstAt W K v) (h : K ≠ B) (u : Value) : InstAt (W.setCell ⟨B, o, none⟩ u) K v := i.kept (grown_setCell _ _ _ _) (fun e => h (by injection e))
end Go.Proofs.YtdklaeppcjopoaaGreat
