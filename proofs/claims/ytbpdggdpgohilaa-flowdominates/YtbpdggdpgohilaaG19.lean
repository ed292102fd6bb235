/- Programs in SSA form, as they come in. -/
import Derived.Test.YtbpdggdpgohilaaG6
import Derived.Test.YtbpdggdpgohilaaG17
namespace Go.Proofs.Ytbpdggdpgohilaa
open Go.RowKit
set_option linter.unusedVariables false
set_option maxRecDepth 100000

theorem open_vls {H : Type} {enc : TypeId × Value → H} {W : World} {spare : Nat → Bool} {held : Bool} {fuel : Nat} {cs : List Value} {x : DataW H × List MemPlace}
    (h : DataW.trod enc Try.prog W 0 spare held fuel 25 cs = some x) (hs : Fits 25 x.1) : ∃ a cap l, cs = [.slice a l.length cap] ∧ VlL (· < W.heap.size) W a cap l := by
  have k1 : Try.prog.cellsOf 3 = 1 := by kernel_rfl
  have k2 : Try.prog.cellsOf 2 = 1 := by kernel_rfl
  have k3 : Try.prog.cellsOf 24 = 1 := by kernel_rfl
  refine open_rowL (VlAt (· < W.heap.size) W) Try.underlying25 (c := 5) (by kernel_rfl) (by decide) (by kernel_rfl) hs (fun n hn cs b o y hl hb hc hy hz => ?_) h
  obtain ⟨xs, kk, hk, hxy, _, hxl, hf⟩ := DataW.trod_struct Try.underlying48 hy
  match xs, hxl, cs, hl with
  | [z0, z1, z2, z3, z4], _, [v0, v1, v2, v3, v4], _ =>
    have g0 := hf 0 _ rfl
    have g1 := hf 1 _ rfl
    have g2 := hf 2 _ rfl
    have g3 := hf 3 _ rfl
    have g4 := hf 4 _ rfl
    simp [k1, k2, k3] at g0 g1 g2 g3 g4
    obtain ⟨n0, e0, _⟩ := DataW.trod_int Try.underlying3 g0
    obtain ⟨n1, e1, _⟩ := DataW.trod_int Try.underlying3 g1
    obtain ⟨a2, c2, l2, e2, f2⟩ := open_numL g2 (hz.field Try.underlying48 hxy (i := 2) rfl rfl)
    obtain ⟨n3, e3, _, w3⟩ := DataW.trod_int Try.underlying2 g3
    obtain ⟨n4, e4, _, w4⟩ := DataW.trod_int Try.underlying3 g4
    have w3 := bounds_i64 w3
    have w4 := bounds_i64 w4
    simp at e0 e1 e2 e3 e4
    subst e0 e1 e2 e3 e4
    exact ⟨⟨n0, n1, l2, n3, n4⟩, a2, c2, hc 0 _ rfl, hc 1 _ rfl, hc 2 _ rfl, hc 3 _ rfl, hc 4 _ rfl, f2, by unfold R64; show _ ≤ n3 ∧ n3 ≤ _; omega, by unfold R64; show _ ≤ n4 ∧ n4 ≤ _; omega⟩
theorem open_bls {H : Type} {enc : TypeId × Value → H} {W : World} {spare : Nat → Bool} {held : Bool} {fuel : Nat} {cs : List Value} {x : DataW H × List MemPlace}
    (h : DataW.trod enc Try.prog W 0 spare held fuel 26 cs = some x) (hs : Fits 26 x.1) : ∃ a cap l, cs = [.slice a l.length cap] ∧ BlL (· < W.heap.size) W a cap l := by
  have k1 : Try.prog.cellsOf 3 = 1 := by kernel_rfl
  have k2 : Try.prog.cellsOf 2 = 1 := by kernel_rfl
  have k3 : Try.prog.cellsOf 24 = 1 := by kernel_rfl
  refine open_rowL (BlAt (· < W.heap.size) W) Try.underlying26 (c := 6) (by kernel_rfl) (by decide) (by kernel_rfl) hs (fun n hn cs b o y hl hb hc hy hz => ?_) h
  obtain ⟨xs, kk, hk, hxy, _, hxl, hf⟩ := DataW.trod_struct Try.underlying41 hy
  match xs, hxl, cs, hl with
  | [z0, z1, z2, z3, z4, z5], _, [v0, v1, v2, v3, v4, v5], _ =>
    have g0 := hf 0 _ rfl
    have g1 := hf 1 _ rfl
    have g2 := hf 2 _ rfl
    have g3 := hf 3 _ rfl
    have g4 := hf 4 _ rfl
    have g5 := hf 5 _ rfl
    simp [k1, k2, k3] at g0 g1 g2 g3 g4 g5
    obtain ⟨n0, e0, _⟩ := DataW.trod_int Try.underlying3 g0
    obtain ⟨n1, e1, _, w1⟩ := DataW.trod_int Try.underlying2 g1
    have w1 := bounds_i64 w1
    obtain ⟨a2, c2, l2, e2, f2⟩ := open_numL g2 (hz.field Try.underlying41 hxy (i := 2) rfl rfl)
    obtain ⟨a3, c3, l3, e3, f3⟩ := open_numL g3 (hz.field Try.underlying41 hxy (i := 3) rfl rfl)
    obtain ⟨a4, c4, l4, e4, f4⟩ := open_numL g4 (hz.field Try.underlying41 hxy (i := 4) rfl rfl)
    obtain ⟨a5, c5, l5, e5, f5⟩ := open_numL g5 (hz.field Try.underlying41 hxy (i := 5) rfl rfl)
    simp at e0 e1 e2 e3 e4 e5
    subst e0 e1 e2 e3 e4 e5
    exact ⟨⟨n0, n1, l2, l3, l4, l5⟩, a2, a3, a4, a5, c2, c3, c4, c5, hc 0 _ rfl, hc 1 _ rfl, hc 2 _ rfl, hc 3 _ rfl, hc 4 _ rfl, hc 5 _ rfl, f2, f3, f4, f5, by unfold R64; show _ ≤ n1 ∧ n1 ≤ _; omega⟩
theorem open_cds {H : Type} {enc : TypeId × Value → H} {W : World} {spare : Nat → Bool} {held : Bool} {fuel : Nat} {cs : List Value} {x : DataW H × List MemPlace}
    (h : DataW.trod enc Try.prog W 0 spare held fuel 22 cs = some x) (hs : Fits 22 x.1) : ∃ a cap l, cs = [.slice a l.length cap] ∧ CdL (· < W.heap.size) W a cap l := by
  have k1 : Try.prog.cellsOf 24 = 1 := by kernel_rfl
  have k2 : Try.prog.cellsOf 25 = 1 := by kernel_rfl
  have k3 : Try.prog.cellsOf 26 = 1 := by kernel_rfl
  refine open_rowL (CdAt (· < W.heap.size) W) Try.underlying22 (c := 4) (by kernel_rfl) (by decide) (by kernel_rfl) hs (fun n hn cs b o y hl hb hc hy hz => ?_) h
  obtain ⟨xs, kk, hk, hxy, _, hxl, hf⟩ := DataW.trod_struct Try.underlying28 hy
  match xs, hxl, cs, hl with
  | [z0, z1, z2, z3], _, [v0, v1, v2, v3], _ =>
    have g0 := hf 0 _ rfl
    have g1 := hf 1 _ rfl
    have g2 := hf 2 _ rfl
    have g3 := hf 3 _ rfl
    simp [k1, k2, k3] at g0 g1 g2 g3
    obtain ⟨a0, c0, l0, e0, f0⟩ := open_numL g0 (hz.field Try.underlying28 hxy (i := 0) rfl rfl)
    obtain ⟨a1, c1, l1, e1, f1⟩ := open_numL g1 (hz.field Try.underlying28 hxy (i := 1) rfl rfl)
    obtain ⟨a2, c2, l2, e2, f2⟩ := open_vls g2 (hz.field Try.underlying28 hxy (i := 2) rfl rfl)
    obtain ⟨a3, c3, l3, e3, f3⟩ := open_bls g3 (hz.field Try.underlying28 hxy (i := 3) rfl rfl)
    simp at e0 e1 e2 e3
    subst e0 e1 e2 e3
    exact ⟨⟨l0, l1, l2, l3⟩, a0, a1, a2, a3, c0, c1, c2, c3, hc 0 _ rfl, hc 1 _ rfl, hc 2 _ rfl, hc 3 _ rfl, ⟨f0, f1, f2, f3⟩⟩
theorem open_bytL {H : Type} {enc : TypeId × Value → H} {W : World} {spare : Nat → Bool} {held : Bool} {fuel : Nat} {cs : List Value} {x : DataW H × List MemPlace}
    (h : DataW.trod enc Try.prog W 0 spare held fuel 29 cs = some x) (hs : Fits 29 x.1) : ∃ a cap l, cs = [.slice a l.length cap] ∧ BytL (· < W.heap.size) W a cap l := by
  refine open_rowL (BytQ W) Try.underlying29 (c := 1) (by kernel_rfl) (by decide) (by kernel_rfl) hs (fun n hn cs b o y hl hb hc hy hz => ?_) h
  obtain ⟨n0, e0, _⟩ := DataW.trod_int Try.underlying5 hy
  subst e0
  exact ⟨n0, hc 0 _ rfl⟩
/-- a program that was handed over -/
theorem open_un {H : Type} {enc : TypeId × Value → H} {W : World} {spare : Nat → Bool} {held : Bool} {fuel : Nat} {v0 v1 : Value} {x : DataW H × List MemPlace}
    (h : DataW.trod enc Try.prog W 0 spare held fuel 31 [v0, v1] = some x) (hs : Fits 31 x.1) : ∃ (u : Sa.Un) (a1 a2 : Option Addr) (k1 k2 : Nat), v0 = .slice a1 u.codes.length k1 ∧ v1 = .slice a2 u.data.length k2 ∧ UnC (· < W.heap.size) W u a1 a2 k1 k2 := by
  have k1 : Try.prog.cellsOf 22 = 1 := by kernel_rfl
  have k2 : Try.prog.cellsOf 29 = 1 := by kernel_rfl
  obtain ⟨xs, kk, hk, hxy, _, hxl, hf⟩ := DataW.trod_struct Try.underlying31 h
  match xs, hxl with
  | [z0, z1], _ =>
    have g0 := hf 0 _ rfl
    have g1 := hf 1 _ rfl
    simp [k1, k2] at g0 g1
    obtain ⟨a0, c0, l0, e0, f0⟩ := open_cds g0 (hs.field Try.underlying31 hxy (i := 0) rfl rfl)
    obtain ⟨a1, c1, l1, e1, f1⟩ := open_bytL g1 (hs.field Try.underlying31 hxy (i := 1) rfl rfl)
    simp at e0 e1
    exact ⟨⟨l0, l1⟩, a0, a1, c0, c1, e0, e1, f0, f1⟩
end Go.Proofs.Ytbpdggdpgohilaa
