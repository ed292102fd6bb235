/- What gantrylaw4's laws are told of the instructions that came in. -/
import Derived.Test.YtbghjlamedlchaaDoorCeWake
namespace Go.Proofs.YtbghjlamedlchaaDoor
open Go.RowKit
set_option linter.unusedVariables false

def IsInsts4 (w : World) (a : Option Addr) (len cap : Nat) (V : Nat → InV) : Prop :=
  len ≤ cap ∧ cap ≤ maxLen ∧ (len = 0 ∨ ∃ b off, a = some ⟨b, off, none⟩ ∧ b < w.heap.size ∧ ∀ i, i < len → InAt w b (off + i * 9) (V i) ∧ InRng (V i))

/-- the slice that came in, opened -/
theorem open_insts4 {H : Type} {enc : TypeId × Value → H} {W : World} {spare : Nat → Bool} {held : Bool} {fuel : Nat} {cs : List Value} {x : DataW H × List MemPlace}
    (h : DataW.trod enc Tryd.prog W 0 spare held fuel 22 cs = some x) : ∃ a len cap V, cs = [.slice a len cap] ∧ IsInsts4 W a len cap V := by
  rcases Go.Deep.open_slice Tryd.underlying22 h with ⟨hcs, _⟩ | ⟨a', len, cap, m, n, D, Pl, hcs, hb, hl, hm, hmm, _, hx⟩
  · exact ⟨none, 0, 0, fun _ => zeroI, hcs, Nat.le_refl _, Nat.zero_le _, .inl rfl⟩
  · have hlm : len ≤ m := by rw [hmm]; split <;> omega
    by_cases h0 : len = 0
    · exact ⟨_, _, _, fun _ => zeroI, hcs, hl, hm, .inl h0⟩
    have ce : Tryd.prog.cellsOf 28 = 9 := by kernel_rfl
    have c3 : Tryd.prog.cellsOf 3 = 1 := by kernel_rfl
    have c2 : Tryd.prog.cellsOf 2 = 1 := by kernel_rfl
    obtain ⟨b, off, spot⟩ := a'
    have h00 : spot = none ∧ b < W.heap.size := by
      obtain ⟨cs', h1, h2⟩ := hx 0 (by omega)
      rw [ce] at h1
      obtain ⟨_, hlen, hcell⟩ := World.cells?_some h1
      match cs', hlen with
      | [v0, v1, v2, v3, v4, v5, v6, v7, v8], _ =>
        have k0 := hcell 0 (by omega)
        have k0 : W.cell? ⟨b, off, spot⟩ = some v0 := by simpa [Addr.add] using k0
        exact ⟨World.cell?_spot k0, World.block_lt_of_cell? _ _ k0⟩
    obtain ⟨rfl, hlt⟩ := h00
    have each : ∀ i, i < len → ∃ v : InV, InAt W b (off + i * 9) v ∧ InRng v := by
      intro i hi
      obtain ⟨cs', h1, h2⟩ := hx i (by omega)
      rw [ce] at h1
      obtain ⟨_, hlen, hcell⟩ := World.cells?_some h1
      obtain ⟨xs, kk, hk, hxy, _, hxl, hf⟩ := DataW.trod_struct Tryd.underlying28 h2
      match xs, hxl, cs', hlen with
      | [z0, z1, z2, z3, z4, z5, z6, z7, z8], _, [v0, v1, v2, v3, v4, v5, v6, v7, v8], _ =>
        have g0 := hf 0 _ rfl
        have g1 := hf 1 _ rfl
        have g2 := hf 2 _ rfl
        have g3 := hf 3 _ rfl
        have g4 := hf 4 _ rfl
        have g5 := hf 5 _ rfl
        have g6 := hf 6 _ rfl
        have g7 := hf 7 _ rfl
        have g8 := hf 8 _ rfl
        simp [c3, c2] at g0 g1 g2 g3 g4 g5 g6 g7 g8
        obtain ⟨n0, e0, _, f0⟩ := DataW.trod_int Tryd.underlying3 g0
        obtain ⟨n1, e1, _, f1⟩ := DataW.trod_int Tryd.underlying3 g1
        obtain ⟨n2, e2, _, f2⟩ := DataW.trod_int Tryd.underlying3 g2
        obtain ⟨n3, e3, _, f3⟩ := DataW.trod_int Tryd.underlying3 g3
        obtain ⟨n4, e4, _, f4⟩ := DataW.trod_int Tryd.underlying3 g4
        obtain ⟨n5, e5, _, f5⟩ := DataW.trod_int Tryd.underlying3 g5
        obtain ⟨n6, e6, _, f6⟩ := DataW.trod_int Tryd.underlying3 g6
        obtain ⟨n7, e7, _, f7⟩ := DataW.trod_int Tryd.underlying2 g7
        obtain ⟨n8, e8, _, f8⟩ := DataW.trod_int Tryd.underlying3 g8
        simp at e0 e1 e2 e3 e4 e5 e6 e7 e8
        subst e0 e1 e2 e3 e4 e5 e6 e7 e8
        have k0 := hcell 0 (by omega)
        have k1 := hcell 1 (by omega)
        have k2 := hcell 2 (by omega)
        have k3 := hcell 3 (by omega)
        have k4 := hcell 4 (by omega)
        have k5 := hcell 5 (by omega)
        have k6 := hcell 6 (by omega)
        have k7 := hcell 7 (by omega)
        have k8 := hcell 8 (by omega)
        rw [add_none, add_none] at k0 k1 k2 k3 k4 k5 k6 k7 k8
        have f7 := bounds_i64 f7
        have f6 := bounds_i64 f6
        exact ⟨⟨n0, n1, n2, n3, n4, n5, n6, n7, n8⟩, ⟨k0, k1, k2, k3, k4, k5, k6, k7, k8⟩, by constructor <;> dsimp only <;> omega⟩
    have : ∃ V : Nat → InV, ∀ i, i < len → InAt W b (off + i * 9) (V i) ∧ InRng (V i) :=
      ⟨fun i => if hi : i < len then Classical.choose (each i hi) else zeroI, fun i hi => by simp only [dif_pos hi]; exact Classical.choose_spec (each i hi)⟩
    obtain ⟨V, hV⟩ := this
    exact ⟨_, _, _, V, hcs, hl, hm, .inr ⟨b, off, rfl, hlt, hV⟩⟩

end Go.Proofs.YtbghjlamedlchaaDoor
