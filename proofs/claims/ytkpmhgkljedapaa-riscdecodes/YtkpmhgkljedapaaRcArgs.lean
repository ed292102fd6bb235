/- What gantrylaw3's laws are told of the instructions that came in; wakes. -/
import Derived.Test.YtkpmhgkljedapaaRcK
import Derived.Test.YtkpmhgkljedapaaRcQ
import Derived.Test.YtkpmhgkljedapaaRcD
import Derived.Deep.Slices
import Derived.OpenShut
namespace Go.Proofs.Ytkpmhgkljedapaa
open Go.RowKit
set_option linter.unusedVariables false

/-- the nine cells from o on hold the instruction v -/
structure InAt (w : World) (b o : Nat) (v : InV) : Prop where
  c0 : w.cell? ⟨b, o, none⟩ = some (.int .i64 v.op)
  c1 : w.cell? ⟨b, o + 1, none⟩ = some (.int .i64 v.a)
  c2 : w.cell? ⟨b, o + 2, none⟩ = some (.int .i64 v.b)
  c3 : w.cell? ⟨b, o + 3, none⟩ = some (.int .i64 v.c)
  c4 : w.cell? ⟨b, o + 4, none⟩ = some (.int .i64 v.k)
  c5 : w.cell? ⟨b, o + 5, none⟩ = some (.int .i64 v.sub)
  c6 : w.cell? ⟨b, o + 6, none⟩ = some (.int .i64 v.scale)
  c7 : w.cell? ⟨b, o + 7, none⟩ = some (.int .i64 v.imm)
  c8 : w.cell? ⟨b, o + 8, none⟩ = some (.int .i64 v.label)

structure InFit (v : InV) : Prop where
  i1 : -9223372036854775808 ≤ v.imm
  i2 : v.imm ≤ 9223372036854775807

theorem InAt.kept {w w' : World} {b o : Nat} {v : InV} {row : Option Nat} (h : InAt w b o v) (hg : w.grownBy w' row) (hne : some b ≠ row) : InAt w' b o v :=
  ⟨hg.cell h.c0 hne, hg.cell h.c1 hne, hg.cell h.c2 hne, hg.cell h.c3 hne, hg.cell h.c4 hne, hg.cell h.c5 hne, hg.cell h.c6 hne, hg.cell h.c7 hne, hg.cell h.c8 hne⟩
theorem InAt.below {w w' : World} {b o N : Nat} {v : InV} (h : InAt w b o v) (hg : Below N w w') (hb : b < N) : InAt w' b o v :=
  ⟨(hg.cell (p := ⟨b, o, none⟩) hb).trans h.c0, (hg.cell (p := ⟨b, o + 1, none⟩) hb).trans h.c1, (hg.cell (p := ⟨b, o + 2, none⟩) hb).trans h.c2, (hg.cell (p := ⟨b, o + 3, none⟩) hb).trans h.c3, (hg.cell (p := ⟨b, o + 4, none⟩) hb).trans h.c4, (hg.cell (p := ⟨b, o + 5, none⟩) hb).trans h.c5, (hg.cell (p := ⟨b, o + 6, none⟩) hb).trans h.c6, (hg.cell (p := ⟨b, o + 7, none⟩) hb).trans h.c7, (hg.cell (p := ⟨b, o + 8, none⟩) hb).trans h.c8⟩

def IsInsts (w : World) (a : Option Addr) (len cap : Nat) (V : Nat → InV) : Prop :=
  len ≤ cap ∧ cap ≤ maxLen ∧ (len = 0 ∨ ∃ b off, a = some ⟨b, off, none⟩ ∧ b < w.heap.size ∧ ∀ i, i < len → InAt w b (off + i * 9) (V i) ∧ InFit (V i))

/-- the slice that came in, opened -/
theorem open_insts {H : Type} {enc : TypeId × Value → H} {W : World} {spare : Nat → Bool} {held : Bool} {fuel : Nat} {cs : List Value} {x : DataW H × List MemPlace}
    (h : DataW.trod enc Try.prog W 0 spare held fuel 22 cs = some x) : ∃ a len cap V, cs = [.slice a len cap] ∧ IsInsts W a len cap V := by
  rcases Go.Deep.open_slice Try.underlying22 h with ⟨hcs, _⟩ | ⟨a', len, cap, m, n, D, Pl, hcs, hb, hl, hm, hmm, _, hx⟩
  · exact ⟨none, 0, 0, fun _ => zeroI, hcs, Nat.le_refl _, Nat.zero_le _, .inl rfl⟩
  · have hlm : len ≤ m := by rw [hmm]; split <;> omega
    by_cases h0 : len = 0
    · exact ⟨_, _, _, fun _ => zeroI, hcs, hl, hm, .inl h0⟩
    have ce : Try.prog.cellsOf 28 = 9 := by kernel_rfl
    have c3 : Try.prog.cellsOf 3 = 1 := by kernel_rfl
    have c2 : Try.prog.cellsOf 2 = 1 := by kernel_rfl
    obtain ⟨b, off, spot⟩ := a'
    have h00 : spot = none ∧ b < W.heap.size := by
      obtain ⟨cs', h1, h2⟩ := hx 0 (by omega)
      rw [ce] at h1
      obtain ⟨_, hlen, hcell⟩ := World.cells?_some h1
      match cs', hlen with
      | [v0, v1, v2, v3, v4, v5, v6, v7, v8], _ =>
        have k0 := hcell 0 (by omega)
        have k0 : W.cell? ⟨b, off, spot⟩ = some v0 := by simpa [Addr.add] using k0
        exact ⟨World.cell?_spot k0, World.block_lt_of_cell? _ _ k0⟩
    obtain ⟨rfl, hlt⟩ := h00
    have each : ∀ i, i < len → ∃ v : InV, InAt W b (off + i * 9) v ∧ InFit v := by
      intro i hi
      obtain ⟨cs', h1, h2⟩ := hx i (by omega)
      rw [ce] at h1
      obtain ⟨_, hlen, hcell⟩ := World.cells?_some h1
      obtain ⟨xs, kk, hk, hxy, _, hxl, hf⟩ := DataW.trod_struct Try.underlying28 h2
      match xs, hxl, cs', hlen with
      | [z0, z1, z2, z3, z4, z5, z6, z7, z8], _, [v0, v1, v2, v3, v4, v5, v6, v7, v8], _ =>
        have g0 := hf 0 _ rfl
        have g1 := hf 1 _ rfl
        have g2 := hf 2 _ rfl
        have g3 := hf 3 _ rfl
        have g4 := hf 4 _ rfl
        have g5 := hf 5 _ rfl
        have g6 := hf 6 _ rfl
        have g7 := hf 7 _ rfl
        have g8 := hf 8 _ rfl
        simp [c3, c2] at g0 g1 g2 g3 g4 g5 g6 g7 g8
        obtain ⟨n0, e0, _, f0⟩ := DataW.trod_int Try.underlying3 g0
        obtain ⟨n1, e1, _, f1⟩ := DataW.trod_int Try.underlying3 g1
        obtain ⟨n2, e2, _, f2⟩ := DataW.trod_int Try.underlying3 g2
        obtain ⟨n3, e3, _, f3⟩ := DataW.trod_int Try.underlying3 g3
        obtain ⟨n4, e4, _, f4⟩ := DataW.trod_int Try.underlying3 g4
        obtain ⟨n5, e5, _, f5⟩ := DataW.trod_int Try.underlying3 g5
        obtain ⟨n6, e6, _, f6⟩ := DataW.trod_int Try.underlying3 g6
        obtain ⟨n7, e7, _, f7⟩ := DataW.trod_int Try.underlying2 g7
        obtain ⟨n8, e8, _, f8⟩ := DataW.trod_int Try.underlying3 g8
        simp at e0 e1 e2 e3 e4 e5 e6 e7 e8
        subst e0 e1 e2 e3 e4 e5 e6 e7 e8
        have k0 := hcell 0 (by omega)
        have k1 := hcell 1 (by omega)
        have k2 := hcell 2 (by omega)
        have k3 := hcell 3 (by omega)
        have k4 := hcell 4 (by omega)
        have k5 := hcell 5 (by omega)
        have k6 := hcell 6 (by omega)
        have k7 := hcell 7 (by omega)
        have k8 := hcell 8 (by omega)
        rw [add_none, add_none] at k0 k1 k2 k3 k4 k5 k6 k7 k8
        have f7 := bounds_i64 f7
        exact ⟨⟨n0, n1, n2, n3, n4, n5, n6, n7, n8⟩, ⟨k0, k1, k2, k3, k4, k5, k6, k7, k8⟩, by constructor <;> dsimp only <;> omega⟩
    have : ∃ V : Nat → InV, ∀ i, i < len → InAt W b (off + i * 9) (V i) ∧ InFit (V i) :=
      ⟨fun i => if hi : i < len then Classical.choose (each i hi) else zeroI, fun i hi => by simp only [dif_pos hi]; exact Classical.choose_spec (each i hi)⟩
    obtain ⟨V, hV⟩ := this
    exact ⟨_, _, _, V, hcs, hl, hm, .inr ⟨b, off, rfl, hlt, hV⟩⟩

theorem eq_own {w : World} {b1 b2 T1 T2 n k1 k2 : Nat} {g g' : Nat → Int} (hn : (n : Int) ≤ 140737488351232) (h1 : OwnB w b1 (.slice (some ⟨T1, 0, none⟩) n k1) n g) (h2 : OwnB w b2 (.slice (some ⟨T2, 0, none⟩) n k2) n g') :
    Calls Try.prog 9 #[.slice (some ⟨T1, 0, none⟩) n k1, .slice (some ⟨T2, 0, none⟩) n k2] w fun e w' => e = .returned (.bool (eqF n g g')) ∧ ∃ d, w' = w.drewN d :=
  eq_gen n k1 k2 T1 0 T2 0 g g' w hn (fun i hi => by rw [Nat.zero_add]; exact h1.cellAt hi) (fun i hi => by rw [Nat.zero_add]; exact h2.cellAt hi)
theorem eq_own_true {w : World} {b1 b2 T1 T2 n k1 k2 : Nat} {g g' : Nat → Int} (hn : (n : Int) ≤ 140737488351232) (h1 : OwnB w b1 (.slice (some ⟨T1, 0, none⟩) n k1) n g) (h2 : OwnB w b2 (.slice (some ⟨T2, 0, none⟩) n k2) n g') (e : ∀ i, i < n → g i = g' i) :
    Calls Try.prog 9 #[.slice (some ⟨T1, 0, none⟩) n k1, .slice (some ⟨T2, 0, none⟩) n k2] w fun e w' => e = .returned (.bool true) ∧ ∃ d, w' = w.drewN d := by
  rw [← eqF_true e]; exact eq_own hn h1 h2

theorem wake_may : Rc.mayB ⟨9, 1, 15, 0, 0, 0, 0, -8, 0⟩ = true := by decide

set_option maxHeartbeats 8000000 in
theorem wakes_any (w : World) : Calls Try.prog 12 #[] w fun e w' => e = .returned (.bool true) ∧ w.grownBy w' none := by
  go_enter Try.func12, Try.ntmps12
  go_wp2_with (first
    | (go_at_call 6; refine (encode_ok ⟨9, 1, 15, 0, 0, 0, 0, -8, 0⟩ _ (by decide) (by decide) wake_may).mono ?_; rintro e w1 ⟨T, rfl, ho1, hg1⟩)
    | (go_at_call 8; refine (num_any _ _).mono ?_; rintro e w2 ⟨rfl, rfl⟩))
  have o2 := ho1.kept (World.grownBy_alloc w2 (Obj.cells #[.int .u8 9, .int .u8 1, .int .u8 15, .int .u8 0, .int .u8 248, .int .u8 255, .int .u8 255, .int .u8 255] 5) none) (.inr (by simp [Value.ownBlock]))
  have o3 := own8 (w := w2) (base := w2.heap.size) (Nat.le_refl _) (Rc.enc ⟨9, 1, 15, 0, 0, 0, 0, -8, 0⟩) 9 1 15 0 248 255 255 255 (by decide) (by decide) (by decide) (by decide) (by decide) (by decide) (by decide) (by decide)
  refine (eq_own_true (by decide) o2 o3 (fun _ _ => rfl)).mono ?_
  rintro e w3 ⟨rfl, d, rfl⟩
  go_wp2
  go_ret
  exact ⟨rfl, gn (ga hg1 _) _⟩

end Go.Proofs.Ytkpmhgkljedapaa
