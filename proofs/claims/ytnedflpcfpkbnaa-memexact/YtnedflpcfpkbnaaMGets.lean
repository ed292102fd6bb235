/- gantrylaw2.one: Get by both memories. -/
import Derived.Test.YtnedflpcfpkbnaaMOne
namespace Go.Proofs.Ytnedflpcfpkbnaa
open Go.RowKit
set_option linter.unusedVariables false

variable {N S : Nat} {w w' : World} {Bm Dm Br Dr : Nat} {f f' : Nat → Int} {row : Option Nat}

set_option maxRecDepth 100000 in
set_option maxHeartbeats 4000000 in
theorem one_get (k n a x : Int) (bo : Option Addr) (bl bc : Nat) (h : Pair N S w Bm Dm Br Dr f) (hS : (S : Int) ≤ 1048576) (a1 : 0 ≤ a) (a2 : a < 18446744073709551616) (n1 : -9223372036854775808 ≤ n) (n2 : n ≤ 9223372036854775807) :
    Calls Try.prog 11 #[.pointer (some ⟨Bm, 0, none⟩), .pointer (some ⟨Br, 0, none⟩), .agg #[.int .i64 2, .int .i64 k, .int .i64 n, .int .u64 a, .int .u64 x, .slice bo bl bc]] w fun e w' =>
      e = .returned (.bool true) ∧ (∃ f', Pair N S w' Bm Dm Br Dr f') ∧ Below N w w' := by
  obtain ⟨o, ho⟩ : ∃ o, o = Obj.cells #[.int .i64 2, .int .i64 k, .int .i64 n, .int .u64 a, .int .u64 x, .slice bo bl bc] 38 := ⟨_, rfl⟩
  have h1 := h.alloc o
  have hb1 : Below N w (w.alloc o) := (Below.refl N w).alloc h.size o
  have c2 : (w.alloc o).cell? ⟨w.heap.size, 2, none⟩ = some (.int .i64 n) := by rw [ho]; simp
  have c3 : (w.alloc o).cell? ⟨w.heap.size, 3, none⟩ = some (.int .u64 a) := by rw [ho]; simp
  subst ho
  go_enter Try.func11, Try.ntmps11
  go_wp2_with fail
  generalize w.alloc (Obj.cells #[.int .i64 2, .int .i64 k, .int .i64 n, .int .u64 a, .int .u64 x, .slice bo bl bc] 38) = W1 at *
  clear h
  have hm := h1.hm
  have hr := h1.hr
  by_cases hneg : n < 0
  · have n0 : (n == 0) = false := by simp; omega
    go_wp2_with (first
      | (go_at_call 12; refine (get_out _ _ _ _ _ _ _ hm hS a1 a2 n1 n2 n0 (.inl hneg)).mono ?_; rintro e w2 ⟨rfl, rfl⟩)
      | (go_at_call 7; refine (num_any _ _).mono ?_; rintro e w2 ⟨rfl, rfl⟩))
    go_ret
    exact ⟨rfl, ⟨_, h1⟩, hb1⟩
  · by_cases hz : n = 0
    · subst hz
      have HG : Mm.gotB S a 0 = true := rfl
      clear hneg
      refine (get_none _ _ _ _ a _ hm).mono ?_
      rintro e W2 ⟨rfl, ho2, hg2⟩
      have p2 := h1.none hg2
      have d2 : W2.cell? ⟨w.heap.size, 2, none⟩ = some (.int .i64 0) := hg2.cell c2 (by simp)
      have d3 : W2.cell? ⟨w.heap.size, 3, none⟩ = some (.int .u64 a) := hg2.cell c3 (by simp)
      have hsz := hg2.size
      have ho2 := ho2 f
      have hr2 := p2.hr
      have hb2 := hb1.grown hg2 h1.size (by simp)
      have HT : Hid (W1.heap.size ≤ W2.heap.size) := hsz
      have HLT : Hid (∀ g : World, g.grownBy g none) := fun g => World.grownBy.refl _ _
      have hlat := fun b (hb : W1.heap.size ≤ b) => h1.later hb
      have HLA : Hid (∀ b, W1.heap.size ≤ b → Bm ≠ b ∧ Dm ≠ b ∧ Br ≠ b ∧ Dr ≠ b) := hlat
      have hNT : N ≤ W1.heap.size := h1.size
      generalize W1.heap.size = T at *
      clear c2 c3 hm hr h1 hb1 hg2 hlat hsz
      go_wp2_with (first
        | (go_at_call 22; refine (rhas_any _ _ _ _ _ _ _ hr2 hS a1 a2 (by decide) (by decide)).mono ?_; rintro e w2 ⟨rfl, rfl⟩)
        | (go_at_call 7; refine (num_any _ _).mono ?_; rintro e w2 ⟨rfl, rfl⟩))
      go_quiet ((go_at_call 7; exact Calls.quiet_of_same (num_any _ _)))
      go_wp2_with (go_at_call 23; refine (spoilB T 0 (.slice (some ⟨T, 0, none⟩) 0 0) f (w2.drewN nq) (by decide) HT.out ho2).mono ?_; rintro e W3 ⟨rfl, hg3⟩)
      go_ret
      exact ⟨rfl, ⟨f, (p2.drewN nq).kept hg3 (fun b e => by have e : some T = some b := e; injection e with e; subst e; exact HLA.out T (Nat.le_refl _))⟩,
        (below_drewN hb2 nq).grown hg3 p2.size (fun b e => by have e : some T = some b := e; injection e with e; subst e; exact hNT)⟩
    · have n0 : (n == 0) = false := by simp; omega
      have npos : 0 < n := by omega
      cases h2 : Mm.hasB S a n
      · have HG : Mm.gotB S a n = false := by unfold Mm.gotB; rw [n0, h2]; simp
        have HO : Hid (a < 4096 ∨ (S : Int) < a + n) := Mm.has_out h2
        clear h2 hz
        go_wp2_with (first
          | (go_at_call 12; refine (get_out _ _ _ _ _ _ _ hm hS a1 a2 n1 n2 n0 (.inr HO.out)).mono ?_; rintro e w2 ⟨rfl, rfl⟩)
          | (go_at_call 22; refine (rhas_any _ _ _ _ _ _ _ hr hS a1 a2 n1 n2).mono ?_; rintro e w2 ⟨rfl, rfl⟩)
          | (go_at_call 7; refine (num_any _ _).mono ?_; rintro e w2 ⟨rfl, rfl⟩))
        go_ret
        exact ⟨rfl, ⟨_, h1⟩, hb1⟩
      · have HG : Mm.gotB S a n = true := by unfold Mm.gotB; rw [n0, h2]; simp; omega
        obtain ⟨ha, hs⟩ := Mm.has_in h2
        obtain ⟨A, rfl⟩ := Int.eq_ofNat_of_zero_le a1
        obtain ⟨m, rfl⟩ := Int.eq_ofNat_of_zero_le (Int.le_of_lt npos)
        have mpos : 0 < m := by omega
        have hAS : A + m ≤ S := by omega
        clear h2 hz hneg
        refine (get_in _ _ _ m _ A _ hm hS mpos ha hAS).mono ?_
        rintro e W2 ⟨rfl, ho2, hg2⟩
        have p2 := h1.none hg2
        have d2 : W2.cell? ⟨w.heap.size, 2, none⟩ = some (.int .i64 m) := hg2.cell c2 (by simp)
        have d3 : W2.cell? ⟨w.heap.size, 3, none⟩ = some (.int .u64 A) := hg2.cell c3 (by simp)
        have HT : Hid (W1.heap.size ≤ W2.heap.size) := hg2.size
        have hr2 := p2.hr
        have cr := hr2.cell
        have hb2 := hb1.grown hg2 h1.size (by simp)
        have HLA : Hid (∀ b, W1.heap.size ≤ b → Bm ≠ b ∧ Dm ≠ b ∧ Br ≠ b ∧ Dr ≠ b) := fun b hb => h1.later hb
        have hNT : N ≤ W1.heap.size := h1.size
        have HA : Hid (∀ i, i < m → W2.cell? ⟨W1.heap.size, 0 + i, none⟩ = some (.int .u8 (f (A + i)))) := fun i hi => by rw [Nat.zero_add]; exact ho2.cellAt hi
        have HB : Hid (∀ i, i < m → W2.cell? ⟨Dr, A + i, none⟩ = some (.int .u8 (f (A + i)))) := row_cells hr2.row hAS
        generalize W1.heap.size = T at *
        have HN1 : Hid (-9223372036854775808 ≤ ((m : Nat) : Int)) := n1
        have HN2 : Hid (((m : Nat) : Int) ≤ 9223372036854775807) := n2
        have HAS : Hid (A + m ≤ S) := hAS
        have HA2 : Hid (((A : Nat) : Int) < 18446744073709551616) := a2
        have HA1 : Hid (0 ≤ ((A : Nat) : Int)) := a1
        have HHA : Hid (4096 ≤ ((A : Nat) : Int)) := ha
        have HHS : Hid (((S : Nat) : Int) ≤ 1048576) := hS
        have mneg : (((m : Nat) : Int) < 0) = False := by simp
        have mneg2 : decide (((m : Nat) : Int) < 0) = false := by simp
        have HN0 : Hid ((((m : Nat) : Int) == 0) = false) := n0
        clear c2 c3 hm hr h1 hb1 hg2 n1 n2 hAS a2 a1 ha hS hs npos mpos n0
        go_wp2_with (first
          | (go_at_call 22; refine (rhas_any _ _ _ _ _ _ _ hr2 HHS.out HA1.out HA2.out HN1.out HN2.out).mono ?_; rintro e w2 ⟨rfl, rfl⟩)
          | (go_at_call 7; refine (num_any _ _).mono ?_; rintro e w2 ⟨rfl, rfl⟩))
        have n0 := HN0.out
        have a2 := HA2.out
        have hAS := HAS.out
        clear mneg mneg2
        have hS := HHS.out
        have i1 : (A : Int) ≤ (A : Int) + (m : Int) := by omega
        have i2 : (A : Int) + (m : Int) ≤ (S : Int) := by omega
        have i3 : (A : Int) + (m : Int) < 18446744073709551616 := by omega
        have i4 : A + m - A = m := by omega
        have mpos : 0 < m := by have := n0; simp at this; omega
        have i5 : (A : Int) < (S : Int) := by omega
        have wm : IntKind.u64.wrap ((m : Nat) : Int) = (m : Int) := by rw [IntKind.wrap_u64]; omega
        have wA : IntKind.u64.wrap (((A : Nat) : Int) + (m : Int)) = (A : Int) + (m : Int) := by rw [IntKind.wrap_u64]; omega
        go_big_quiet ((first
          | (go_at_call 7; exact Calls.quiet_of_same (num_any _ _))
          | (go_at_call 13; rw [i4]; exact Calls.quiet_of (eq_true m m _ T 0 Dr A (fun i => f (A + i)) (fun i => f (A + i)) _ (by omega) HA.out HB.out (fun _ _ => rfl)))
          | (go_at_call 13; exact Calls.quiet_of (eq_true m m _ T 0 Dr A (fun i => f (A + i)) (fun i => f (A + i)) _ (by omega) HA.out HB.out (fun _ _ => rfl)))))
        go_wp2_with (go_at_call 23; refine (spoilB T m (.slice (some ⟨T, 0, none⟩) m m) _ (w2.drewN nq) (by omega) HT.out ho2).mono ?_; rintro e W3 ⟨rfl, hg3⟩)
        go_ret
        exact ⟨rfl, ⟨f, (p2.drewN nq).kept hg3 (fun b e => by have e : some T = some b := e; injection e with e; subst e; exact HLA.out T (Nat.le_refl _))⟩,
          (below_drewN hb2 nq).grown hg3 p2.size (fun b e => by have e : some T = some b := e; injection e with e; subst e; exact hNT)⟩

end Go.Proofs.Ytnedflpcfpkbnaa
