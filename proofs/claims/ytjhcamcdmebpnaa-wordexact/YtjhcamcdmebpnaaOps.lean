/- What a law is told of the slice of Ops that came in. -/
import Derived.Test.YtjhcamcdmebpnaaRing
import Derived.Deep.Slices
import Derived.OpenShut
namespace Go.Proofs.Ytjhcamcdmebpnaa
open Go.RowKit
set_option linter.unusedVariables false

theorem kind_rng (k : Int) : 2 ≤ wrap64 (2 + wrap64 ((IntKind.u64.wrap k).tmod 8)) ∧ wrap64 (2 + wrap64 ((IntKind.u64.wrap k).tmod 8)) ≤ 9 := by
  rw [IntKind.wrap_u64, Int.tmod_eq_emod_of_nonneg (by omega)]; unfold wrap64; omega

/-- one element: an operation, two kinds, two words -/
structure OpV where
  op : Int
  k : Int
  to : Int
  x : Int
  y : Int

/-- the element's numbers fit their kinds -/
structure OpFit (o : OpV) : Prop where
  op1 : -9223372036854775808 ≤ o.op
  op2 : o.op ≤ 9223372036854775807
  k1 : -9223372036854775808 ≤ o.k
  k2 : o.k ≤ 9223372036854775807
  to1 : -9223372036854775808 ≤ o.to
  to2 : o.to ≤ 9223372036854775807
  x1 : 0 ≤ o.x
  x2 : o.x < 18446744073709551616
  y1 : 0 ≤ o.y
  y2 : o.y < 18446744073709551616

/-- the five cells of an element -/
def OpAt (w : World) (b o : Nat) (v : OpV) : Prop :=
  w.cell? ⟨b, o, none⟩ = some (.int .i64 v.op) ∧ w.cell? ⟨b, o + 1, none⟩ = some (.int .i64 v.k) ∧ w.cell? ⟨b, o + 2, none⟩ = some (.int .i64 v.to) ∧
  w.cell? ⟨b, o + 3, none⟩ = some (.int .u64 v.x) ∧ w.cell? ⟨b, o + 4, none⟩ = some (.int .u64 v.y)

def IsOps (w : World) (a : Option Addr) (len cap : Nat) (V : Nat → OpV) : Prop :=
  len = 0 ∨ ∃ b off, a = some ⟨b, off, none⟩ ∧ len ≤ cap ∧ cap ≤ maxLen ∧ b < w.heap.size ∧ ∀ i, i < len → OpAt w b (off + i * 5) (V i) ∧ OpFit (V i)

theorem add_none (b off n : Nat) : (⟨b, off, none⟩ : Addr).add n = ⟨b, off + n, none⟩ := by
  unfold Addr.add; split <;> simp_all

/-- the slice that came in, opened -/
theorem open_ops {H : Type} {enc : TypeId × Value → H} {W : World} {spare : Nat → Bool} {held : Bool} {fuel : Nat} {a : Option Addr} {len cap : Nat} {x : DataW H × List MemPlace}
    (h : DataW.trod enc Try.prog W 0 spare held fuel 22 [.slice a len cap] = some x) : ∃ V, IsOps W a len cap V := by
  by_cases h0 : len = 0
  · exact ⟨fun _ => ⟨0, 0, 0, 0, 0⟩, .inl h0⟩
  rcases Go.Deep.open_slice Try.underlying22 h with ⟨hcs, _⟩ | ⟨a', len', cap', m, n, D, Pl, hcs, hb, hl, hm, hmm, _, hx⟩
  · simp at hcs; omega
  · simp only [List.cons.injEq, Value.slice.injEq, and_true] at hcs
    obtain ⟨rfl, rfl, rfl⟩ := hcs
    have hlm : len ≤ m := by rw [hmm]; split <;> omega
    have ce : Try.prog.cellsOf 25 = 5 := by kernel_rfl
    have c3 : Try.prog.cellsOf 3 = 1 := by kernel_rfl
    have c23 : Try.prog.cellsOf 23 = 1 := by kernel_rfl
    obtain ⟨b, off, spot⟩ := a'
    have h00 : spot = none ∧ b < W.heap.size := by
      obtain ⟨cs', h1, h2⟩ := hx 0 (by omega)
      rw [ce] at h1
      obtain ⟨_, hlen, hcell⟩ := World.cells?_some h1
      match cs', hlen with
      | [v0, v1, v2, v3, v4], _ =>
        have k0 := hcell 0 (by omega)
        have k0 : W.cell? ⟨b, off, spot⟩ = some v0 := by simpa [Addr.add] using k0
        exact ⟨World.cell?_spot k0, World.block_lt_of_cell? _ _ k0⟩
    obtain ⟨rfl, hlt⟩ := h00
    have each : ∀ i, i < len → ∃ v : OpV, OpAt W b (off + i * 5) v ∧ OpFit v := by
      intro i hi
      obtain ⟨cs', h1, h2⟩ := hx i (by omega)
      rw [ce] at h1
      obtain ⟨_, hlen, hcell⟩ := World.cells?_some h1
      obtain ⟨xs, kk, hk, hxy, _, hxl, hf⟩ := DataW.trod_struct Try.underlying25 h2
      match xs, hxl, cs', hlen with
      | [z0, z1, z2, z3, z4], _, [v0, v1, v2, v3, v4], _ =>
        have g0 := hf 0 _ rfl
        have g1 := hf 1 _ rfl
        have g2 := hf 2 _ rfl
        have g3 := hf 3 _ rfl
        have g4 := hf 4 _ rfl
        simp [c3, c23] at g0 g1 g2 g3 g4
        obtain ⟨n0, e0, _, f0⟩ := DataW.trod_int Try.underlying3 g0
        obtain ⟨n1, e1, _, f1⟩ := DataW.trod_int Try.underlying3 g1
        obtain ⟨n2, e2, _, f2⟩ := DataW.trod_int Try.underlying3 g2
        obtain ⟨n3, e3, _, f3⟩ := DataW.trod_int Try.underlying23 g3
        obtain ⟨n4, e4, _, f4⟩ := DataW.trod_int Try.underlying23 g4
        simp at e0 e1 e2 e3 e4
        subst e0 e1 e2 e3 e4
        have k0 := hcell 0 (by omega)
        have k1 := hcell 1 (by omega)
        have k2 := hcell 2 (by omega)
        have k3 := hcell 3 (by omega)
        have k4 := hcell 4 (by omega)
        rw [add_none, add_none] at k0 k1 k2 k3 k4
        have f0 := bounds_i64 f0
        have f1 := bounds_i64 f1
        have f2 := bounds_i64 f2
        have f3 := bounds_u64 f3
        have f4 := bounds_u64 f4
        exact ⟨⟨n0, n1, n2, n3, n4⟩, ⟨k0, k1, k2, k3, k4⟩, by constructor <;> dsimp only <;> omega⟩
    have : ∃ V : Nat → OpV, ∀ i, i < len → OpAt W b (off + i * 5) (V i) ∧ OpFit (V i) :=
      ⟨fun i => if hi : i < len then Classical.choose (each i hi) else ⟨0, 0, 0, 0, 0⟩, fun i hi => by simp only [dif_pos hi]; exact Classical.choose_spec (each i hi)⟩
    obtain ⟨V, hV⟩ := this
    exact ⟨V, .inr ⟨b, off, rfl, hl, hm, hlt, hV⟩⟩

end Go.Proofs.Ytjhcamcdmebpnaa
