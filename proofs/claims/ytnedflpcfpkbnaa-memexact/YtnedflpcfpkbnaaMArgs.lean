/- What gantrylaw2's laws are told of the Ops that came in; num; wakes. -/
import Derived.Test.YtnedflpcfpkbnaaMRef
import Derived.Deep.Slices
import Derived.OpenShut
namespace Go.Proofs.Ytnedflpcfpkbnaa
open Go.RowKit
set_option linter.unusedVariables false

/-- a slice of bytes that came in -/
structure BsIn (W : World) (ao : Option Addr) (len cap : Nat) (g : Nat → Int) : Prop where
  nil : ao = none → len = 0 ∧ cap = 0
  le : len ≤ cap
  max : cap ≤ maxLen
  fit : Mm.Fit g
  bs : Bs W ao len g
  lt : ∀ b off, 0 < len → ao = some ⟨b, off, none⟩ → b < W.heap.size

theorem open_bytes {H : Type} {enc : TypeId × Value → H} {W : World} {spare : Nat → Bool} {held : Bool} {fuel : Nat} {cs : List Value} {x : DataW H × List MemPlace}
    (h : DataW.trod enc Try.prog W 0 spare held fuel 36 cs = some x) : ∃ ao len cap g, cs = [.slice ao len cap] ∧ BsIn W ao len cap g := by
  have ce : Try.prog.cellsOf 5 = 1 := by kernel_rfl
  rcases Go.Deep.open_slice1 Try.underlying36 ce h with ⟨hcs, _⟩ | ⟨a, len, cap, m, n, V, D, Pl, hcs, hb, hl, hm, hmm, _, hx⟩
  · exact ⟨none, 0, 0, fun _ => 0, hcs, ⟨fun _ => ⟨rfl, rfl⟩, Nat.le_refl _, Nat.zero_le _, fun _ => by omega, .inl rfl, fun _ _ h => by omega⟩⟩
  · have hlm : len ≤ m := by rw [hmm]; split <;> omega
    have each : ∀ i, i < len → ∃ z : Int, V i = .int .u8 z ∧ 0 ≤ z ∧ z < 256 := by
      intro i hi
      obtain ⟨_, h2⟩ := hx i (by omega)
      obtain ⟨z, e, _, f⟩ := DataW.trod_int Try.underlying5 h2
      simp at e
      have f := bounds_u8 f
      exact ⟨z, e, by omega, by omega⟩
    by_cases h0 : len = 0
    · subst h0
      exact ⟨some a, 0, cap, fun _ => 0, hcs, ⟨(fun h => by cases h), hl, hm, fun _ => by omega, .inl rfl, fun _ _ h => by omega⟩⟩
    obtain ⟨b, off, spot⟩ := a
    obtain ⟨c0, _⟩ := hx 0 (by omega)
    have c0 : W.cell? ⟨b, off, spot⟩ = some (V 0) := by simpa [Addr.add] using c0
    obtain rfl : spot = none := World.cell?_spot c0
    have hlt := World.block_lt_of_cell? _ _ c0
    refine ⟨some ⟨b, off, none⟩, len, cap, fun i => if h : i < len then Classical.choose (each i h) else 0, hcs, ⟨(fun h => by cases h), hl, hm, fun i => ?_, .inr ⟨b, off, rfl, fun i hi => ?_⟩, fun b' off' _ e => ?_⟩⟩
    · by_cases h : i < len
      · simp only [dif_pos h]; exact (Classical.choose_spec (each i h)).2
      · simp only [dif_neg h]; omega
    · simp only [dif_pos hi]
      rw [← (Classical.choose_spec (each i hi)).1, ← add_none]
      exact (hx i (by omega)).1
    · injection e with e
      injection e with e
      subst e
      exact hlt

/-- one element -/
structure OpV where
  op : Int
  k : Int
  n : Int
  a : Int
  x : Int
  bo : Option Addr
  bl : Nat
  bc : Nat
  bg : Nat → Int

/-- the element's numbers fit their kinds -/
structure OpFit (o : OpV) : Prop where
  op1 : -9223372036854775808 ≤ o.op
  op2 : o.op ≤ 9223372036854775807
  k1 : -9223372036854775808 ≤ o.k
  k2 : o.k ≤ 9223372036854775807
  n1 : -9223372036854775808 ≤ o.n
  n2 : o.n ≤ 9223372036854775807
  a1 : 0 ≤ o.a
  a2 : o.a < 18446744073709551616
  x1 : 0 ≤ o.x
  x2 : o.x < 18446744073709551616

/-- the six cells of an element -/
structure OpAt (w : World) (b o : Nat) (v : OpV) : Prop where
  c0 : w.cell? ⟨b, o, none⟩ = some (.int .i64 v.op)
  c1 : w.cell? ⟨b, o + 1, none⟩ = some (.int .i64 v.k)
  c2 : w.cell? ⟨b, o + 2, none⟩ = some (.int .i64 v.n)
  c3 : w.cell? ⟨b, o + 3, none⟩ = some (.int .u64 v.a)
  c4 : w.cell? ⟨b, o + 4, none⟩ = some (.int .u64 v.x)
  c5 : w.cell? ⟨b, o + 5, none⟩ = some (.slice v.bo v.bl v.bc)
  bs : BsIn w v.bo v.bl v.bc v.bg

def IsOps (w : World) (a : Option Addr) (len cap : Nat) (V : Nat → OpV) : Prop :=
  len ≤ cap ∧ cap ≤ maxLen ∧ (len = 0 ∨ ∃ b off, a = some ⟨b, off, none⟩ ∧ b < w.heap.size ∧ ∀ i, i < len → OpAt w b (off + i * 6) (V i) ∧ OpFit (V i))

/-- the slice that came in, opened -/
theorem open_ops {H : Type} {enc : TypeId × Value → H} {W : World} {spare : Nat → Bool} {held : Bool} {fuel : Nat} {cs : List Value} {x : DataW H × List MemPlace}
    (h : DataW.trod enc Try.prog W 0 spare held fuel 22 cs = some x) : ∃ a len cap V, cs = [.slice a len cap] ∧ IsOps W a len cap V := by
  rcases Go.Deep.open_slice Try.underlying22 h with ⟨hcs, _⟩ | ⟨a', len, cap, m, n, D, Pl, hcs, hb, hl, hm, hmm, _, hx⟩
  · exact ⟨none, 0, 0, fun _ => ⟨0, 0, 0, 0, 0, none, 0, 0, fun _ => 0⟩, hcs, Nat.le_refl _, Nat.zero_le _, .inl rfl⟩
  · have hlm : len ≤ m := by rw [hmm]; split <;> omega
    by_cases h0 : len = 0
    · exact ⟨_, _, _, fun _ => ⟨0, 0, 0, 0, 0, none, 0, 0, fun _ => 0⟩, hcs, hl, hm, .inl h0⟩
    have ce : Try.prog.cellsOf 38 = 6 := by kernel_rfl
    have c3 : Try.prog.cellsOf 3 = 1 := by kernel_rfl
    have c23 : Try.prog.cellsOf 35 = 1 := by kernel_rfl
    have c36 : Try.prog.cellsOf 36 = 1 := by kernel_rfl
    obtain ⟨b, off, spot⟩ := a'
    have h00 : spot = none ∧ b < W.heap.size := by
      obtain ⟨cs', h1, h2⟩ := hx 0 (by omega)
      rw [ce] at h1
      obtain ⟨_, hlen, hcell⟩ := World.cells?_some h1
      match cs', hlen with
      | [v0, v1, v2, v3, v4, v5], _ =>
        have k0 := hcell 0 (by omega)
        have k0 : W.cell? ⟨b, off, spot⟩ = some v0 := by simpa [Addr.add] using k0
        exact ⟨World.cell?_spot k0, World.block_lt_of_cell? _ _ k0⟩
    obtain ⟨rfl, hlt⟩ := h00
    have each : ∀ i, i < len → ∃ v : OpV, OpAt W b (off + i * 6) v ∧ OpFit v := by
      intro i hi
      obtain ⟨cs', h1, h2⟩ := hx i (by omega)
      rw [ce] at h1
      obtain ⟨_, hlen, hcell⟩ := World.cells?_some h1
      obtain ⟨xs, kk, hk, hxy, _, hxl, hf⟩ := DataW.trod_struct Try.underlying38 h2
      match xs, hxl, cs', hlen with
      | [z0, z1, z2, z3, z4, z5], _, [v0, v1, v2, v3, v4, v5], _ =>
        have g0 := hf 0 _ rfl
        have g1 := hf 1 _ rfl
        have g2 := hf 2 _ rfl
        have g3 := hf 3 _ rfl
        have g4 := hf 4 _ rfl
        have g5 := hf 5 _ rfl
        simp [c3, c23, c36] at g0 g1 g2 g3 g4 g5
        obtain ⟨n0, e0, _, f0⟩ := DataW.trod_int Try.underlying3 g0
        obtain ⟨n1, e1, _, f1⟩ := DataW.trod_int Try.underlying3 g1
        obtain ⟨n2, e2, _, f2⟩ := DataW.trod_int Try.underlying3 g2
        obtain ⟨n3, e3, _, f3⟩ := DataW.trod_int Try.underlying35 g3
        obtain ⟨n4, e4, _, f4⟩ := DataW.trod_int Try.underlying35 g4
        obtain ⟨ao, bl, bc, bg, e5, hbs⟩ := open_bytes g5
        simp at e0 e1 e2 e3 e4 e5
        subst e0 e1 e2 e3 e4 e5
        have k0 := hcell 0 (by omega)
        have k1 := hcell 1 (by omega)
        have k2 := hcell 2 (by omega)
        have k3 := hcell 3 (by omega)
        have k4 := hcell 4 (by omega)
        have k5 := hcell 5 (by omega)
        rw [add_none, add_none] at k0 k1 k2 k3 k4 k5
        have f0 := bounds_i64 f0
        have f1 := bounds_i64 f1
        have f2 := bounds_i64 f2
        have f3 := bounds_u64 f3
        have f4 := bounds_u64 f4
        exact ⟨⟨n0, n1, n2, n3, n4, ao, bl, bc, bg⟩, ⟨k0, k1, k2, k3, k4, k5, hbs⟩, by constructor <;> dsimp only <;> omega⟩
    have : ∃ V : Nat → OpV, ∀ i, i < len → OpAt W b (off + i * 6) (V i) ∧ OpFit (V i) :=
      ⟨fun i => if hi : i < len then Classical.choose (each i hi) else ⟨0, 0, 0, 0, 0, none, 0, 0, fun _ => 0⟩, fun i hi => by simp only [dif_pos hi]; exact Classical.choose_spec (each i hi)⟩
    obtain ⟨V, hV⟩ := this
    exact ⟨_, _, _, V, hcs, hl, hm, .inr ⟨b, off, rfl, hlt, hV⟩⟩

set_option maxHeartbeats 400000 in
theorem num_any (x : Int) (w : World) :
    Calls Try.prog 7 #[.int .i64 x] w fun e w' => e = .returned (.int .i64 x) ∧ w' = w := by
  go_enter Try.func7, Try.ntmps7
  go_wp2
  go_ret
  exact ⟨rfl, rfl⟩

theorem wake1 : Mm.sE 8192 3 4096 18446744073709551614 = 0 := by decide
theorem wake2 : Mm.lE 8192 7 4096 = 0 := by decide
theorem wake3 : Mm.lV 8192 (Mm.sM 8192 (fun _ => 0) 3 4096 18446744073709551614) 7 4096 = 65534 := by
  rw [Mm.lV_in (by decide) (by decide), Mm.sM_in (by decide) (by decide) (by decide)]
  show Wd.canon 7 (Mm.ld (Mm.pt (fun _ => 0) 4096 2 (Mm.by8 18446744073709551614)) 4096 2) = _
  rw [Mm.ld_pt_same]
  decide

set_option maxHeartbeats 800000 in
theorem wakes_any (w : World) : Calls Try.prog 8 #[] w fun e w' => e = .returned (.bool true) ∧ w.grownBy w' none := by
  have k1 := wake1
  have k2 := wake2
  have k3 := wake3
  go_enter Try.func8, Try.ntmps8
  go_wp2_with (first
    | (go_at_call 5; refine (new_in 8192 _ (by decide) (by decide)).mono ?_; rintro e w1 ⟨rfl, hm1, hg1⟩)
    | (go_at_call 15; refine (store_any _ _ _ _ _ _ _ _ hm1 (by decide) (by decide) (by decide) (by decide) (by decide)).mono ?_; rintro e w2 ⟨rfl, hm2, hg2⟩)
    | (go_at_call 17; refine (load_any _ _ _ _ _ _ _ hm2 (by decide) (by decide) (by decide)).mono ?_; rintro e w' ⟨rfl, rfl⟩)
    | (go_at_call 9; refine (size_any _ _ _ _ _ hm2).mono ?_; rintro e w' ⟨rfl, rfl⟩)
    | (go_at_call 7; refine (num_any _ _).mono ?_; rintro e w' ⟨rfl, rfl⟩))
  go_ret
  exact ⟨rfl, grown_two hg1 hg2 (Nat.le_refl _)⟩

end Go.Proofs.Ytnedflpcfpkbnaa
