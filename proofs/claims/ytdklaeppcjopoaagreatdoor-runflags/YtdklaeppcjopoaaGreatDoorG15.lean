/- Contracts and plain facts that the walks share, text by text: RuFl, CeTab. -/
import Derived.Test.YtdklaeppcjopoaaGreatDoorG14
import Derived.Test.YtdklaeppcjopoaaGreatDoorRows
import Derived.Test.YtdklaeppcjopoaaGreatDoorG2
import Derived.Deep.DeepCutAuto
import Derived.LaidMore
import Derived.Lib.LaidTab
import Derived.Stop.Joined
import Derived.Stop.LaidErr
/- RunFlags: comparisons, and what is set, chosen and jumped by them. -/
namespace Go.Proofs.YtdklaeppcjopoaaGreatDoor
open Go.RowKit
set_option linter.unusedVariables false

theorem within6 (i : Int) : ∃ q : Int, 0 ≤ q ∧ q < 6 ∧ ∀ w, Calls Tryz.prog 10 #[.int .i64 i, .int .i64 6] w fun r w' => r = .returned (.int .i64 q) ∧ w' = w := by
  have hw : ∀ w, Calls Tryz.prog 10 #[.int .i64 i, .int .i64 6] w fun r w' => r = .returned (.int .i64 (wrap64 ((IntKind.u64.wrap i).tmod 6))) ∧ w' = w := fun w => by
    go_enter Tryz.func10, Tryz.ntmps10
    go_wp2
    go_ret
    exact ⟨rfl, rfl⟩
  refine ⟨_, ?_, ?_, hw⟩
  · rw [IntKind.wrap_u64]
    have h1 := Int.emod_nonneg i (by decide : (18446744073709551616 : Int) ≠ 0)
    rw [Int.tmod_eq_emod_of_nonneg h1]
    unfold wrap64
    omega
  · rw [IntKind.wrap_u64]
    have h1 := Int.emod_nonneg i (by decide : (18446744073709551616 : Int) ≠ 0)
    rw [Int.tmod_eq_emod_of_nonneg h1]
    unfold wrap64
    omega
/-- the comparison in a block of its own -/
structure CmpR (W : World) (B : Nat) (k : Int) : Prop where
  p0 : W.cell? ⟨B, 0, none⟩ = some (.int .i64 16)
  p1 : W.cell? ⟨B, 1, none⟩ = some (.int .i64 0)
  p2 : W.cell? ⟨B, 2, none⟩ = some (.int .i64 1)
  p3 : W.cell? ⟨B, 3, none⟩ = some (.int .i64 0)
  p4 : W.cell? ⟨B, 4, none⟩ = some (.int .i64 k)
  p5 : W.cell? ⟨B, 5, none⟩ = some (.int .i64 0)
  p6 : W.cell? ⟨B, 6, none⟩ = some (.int .i64 0)
  p7 : W.cell? ⟨B, 7, none⟩ = some (.int .i64 0)
  p8 : W.cell? ⟨B, 8, none⟩ = some (.int .i64 0)
theorem CmpR.new (w : World) (k : Int) : CmpR (w.alloc (Obj.cells #[.int .i64 16, .int .i64 0, .int .i64 1, .int .i64 0, .int .i64 k, .int .i64 0, .int .i64 0, .int .i64 0, .int .i64 0] 34)) w.heap.size k := by
  constructor <;> simp
theorem CmpR.kept {w w' : World} {B : Nat} {k : Int} (h : CmpR w B k) (g : w.grownBy w' none) : CmpR w' B k :=
  ⟨g.cell h.p0 (by simp), g.cell h.p1 (by simp), g.cell h.p2 (by simp), g.cell h.p3 (by simp), g.cell h.p4 (by simp), g.cell h.p5 (by simp), g.cell h.p6 (by simp), g.cell h.p7 (by simp), g.cell h.p8 (by simp)⟩
/-- a run's result in a block of its own: one word told, and the end with it -/
structure Rs (w : World) (N gg oo cp : Nat) (x SG C : Int) : Prop where
  q0 : w.cell? ⟨N, 0, none⟩ = some (.slice (some ⟨gg, oo, none⟩) 1 cp)
  q1 : w.cell? ⟨N, 1, none⟩ = some (.slice none 0 0)
  q2 : w.cell? ⟨N, 2, none⟩ = some (.int .i64 1)
  q3 : w.cell? ⟨N, 3, none⟩ = some (.int .i64 SG)
  q4 : w.cell? ⟨N, 4, none⟩ = some (.int .i64 C)
  c : w.cell? ⟨gg, oo, none⟩ = some (.int .u64 x)
theorem Rs.kept {w w' : World} {N gg oo cp : Nat} {x SG C : Int} (h : Rs w N gg oo cp x SG C) (g : w.grownBy w' none) : Rs w' N gg oo cp x SG C :=
  ⟨g.cell h.q0 (by simp), g.cell h.q1 (by simp), g.cell h.q2 (by simp), g.cell h.q3 (by simp), g.cell h.q4 (by simp), g.cell h.c (by simp)⟩
theorem rs_of {T : Ru.St} {x : Int} (hE : Ru.Ends T x) {N : Nat} {ao : Option Addr} {cp : Nat} {C : Int} {w : World} (h : ResAt T N ao cp C w) : ∃ gg oo, Rs w N gg oo cp x (Wd.sg x) C := by
  obtain ⟨hrow, hrw⟩ := h
  obtain ⟨o1, e1, n1⟩ := hE
  rw [o1, e1, n1] at hrow
  rw [o1] at hrw
  obtain ⟨gg, oo, rfl, hc⟩ := hrw.at (by simp)
  have hc0 : w.cell? ⟨gg, oo, none⟩ = some (.int .u64 x) := by simpa using hc 0 (by simp)
  have hrow2 : w.rowIs N 38 5 (row5 (.slice (some ⟨gg, oo, none⟩) 1 cp) (.slice none 0 0) (.int .i64 1) (.int .i64 (Wd.sg x)) (.int .i64 C)) := hrow
  obtain ⟨q0, q1, q2, q3, q4, qz⟩ := rowIs_five hrow2
  exact ⟨gg, oo, q0, q1, q2, q3, q4, hc0⟩
theorem rs_told {w : World} {N gg oo cp : Nat} {x SG C : Int} (hS : SG = Wd.sg x) (h : Rs w N gg oo cp x SG C) :
    Calls Tryz.prog 13 #[.agg #[.slice (some ⟨gg, oo, none⟩) 1 cp, .slice none 0 0, .int .i64 1, .int .i64 SG, .int .i64 C], .int .u64 x] w fun r w' => r = .returned (.bool true) ∧ w.grownBy w' none := by
  subst hS
  exact told_true gg oo cp x C w h.c
def psiA (o k : Int) (b1 : Nat) (x y : Int) (L : List InV) (T : Ru.St) (base : Nat) : Nat → Value → World → Prop
  | 0 => fun z _ => z = .agg #[.int .i64 16, .int .i64 0, .int .i64 1, .int .i64 0, .int .i64 k, .int .i64 0, .int .i64 0, .int .i64 0, .int .i64 0]
  | 1 => fun z _ => z = .int .i64 o
  | 2 => fun z _ => z = .agg #[.int .i64 18, .int .i64 4, .int .i64 0, .int .i64 0, .int .i64 0, .int .i64 o, .int .i64 0, .int .i64 0, .int .i64 0]
  | 3 => fun z w => ∃ T1, z = .slice (some ⟨T1, 0, none⟩) 2 2 ∧ OwnI w base z [⟨16, 0, 1, 0, k, 0, 0, 0, 0⟩, ⟨18, 4, 0, 0, 0, o, 0, 0, 0⟩]
  | 4 => psiR 2 0 0 b1 x y L T 4 base 2
  | 5 => psiR 2 0 0 b1 x y L T 4 base 3
  | 6 => psiR 2 0 0 b1 x y L T 4 base 4
  | 7 => psiR 2 0 0 b1 x y L T 4 base 5
  | 8 => psiR 2 0 0 b1 x y L T 4 base 6
  | 9 => psiR 2 0 0 b1 x y L T 4 base 7
  | 10 => psiR 2 0 0 b1 x y L T 4 base 8
  | 11 => psiR 2 0 0 b1 x y L T 4 base 9
  | 12 => psiR 2 0 0 b1 x y L T 4 base 10
  | 13 => psiR 2 0 0 b1 x y L T 4 base 11
  | 14 => psiR 2 0 0 b1 x y L T 4 base 12
  | _ => fun _ _ => True
theorem psiA_stable {o k : Int} {b1 : Nat} {x y : Int} {L : List InV} {T : Ru.St} {base i : Nat} {z : Value} {w w' : World} (h : psiA o k b1 x y L T base i z w) (g : w.grownBy w' none) : psiA o k b1 x y L T base i z w' := by
  unfold psiA at h ⊢
  split at h
  · exact h
  · exact h
  · exact h
  · obtain ⟨T1, h1, h2⟩ := h; exact ⟨T1, h1, h2.grow g⟩
  · exact psiR_stable h g
  · exact psiR_stable h g
  · exact psiR_stable h g
  · exact psiR_stable h g
  · exact psiR_stable h g
  · exact psiR_stable h g
  · exact psiR_stable h g
  · exact psiR_stable h g
  · exact psiR_stable h g
  · exact psiR_stable h g
  · exact psiR_stable h g
  · trivial
def psiB (o k : Int) (b1 : Nat) (x y : Int) (L : List InV) (T : Ru.St) (base : Nat) : Nat → Value → World → Prop
  | 0 => fun z _ => z = .agg #[.int .i64 1, .int .i64 5, .int .i64 0, .int .i64 0, .int .i64 0, .int .i64 0, .int .i64 0, .int .i64 1, .int .i64 0]
  | 1 => fun z _ => z = .agg #[.int .i64 16, .int .i64 0, .int .i64 1, .int .i64 0, .int .i64 k, .int .i64 0, .int .i64 0, .int .i64 0, .int .i64 0]
  | 2 => fun z _ => z = .int .i64 o
  | 3 => fun z _ => z = .agg #[.int .i64 15, .int .i64 4, .int .i64 5, .int .i64 0, .int .i64 0, .int .i64 o, .int .i64 0, .int .i64 0, .int .i64 0]
  | 4 => fun z w => ∃ T1, z = .slice (some ⟨T1, 0, none⟩) 3 3 ∧ OwnI w base z [⟨1, 5, 0, 0, 0, 0, 0, 1, 0⟩, ⟨16, 0, 1, 0, k, 0, 0, 0, 0⟩, ⟨15, 4, 5, 0, 0, o, 0, 0, 0⟩]
  | 5 => psiR 2 0 0 b1 x y L T 4 base 2
  | 6 => psiR 2 0 0 b1 x y L T 4 base 3
  | 7 => psiR 2 0 0 b1 x y L T 4 base 4
  | 8 => psiR 2 0 0 b1 x y L T 4 base 5
  | 9 => psiR 2 0 0 b1 x y L T 4 base 6
  | 10 => psiR 2 0 0 b1 x y L T 4 base 7
  | 11 => psiR 2 0 0 b1 x y L T 4 base 8
  | 12 => psiR 2 0 0 b1 x y L T 4 base 9
  | 13 => psiR 2 0 0 b1 x y L T 4 base 10
  | 14 => psiR 2 0 0 b1 x y L T 4 base 11
  | 15 => psiR 2 0 0 b1 x y L T 4 base 12
  | _ => fun _ _ => True
theorem psiB_stable {o k : Int} {b1 : Nat} {x y : Int} {L : List InV} {T : Ru.St} {base i : Nat} {z : Value} {w w' : World} (h : psiB o k b1 x y L T base i z w) (g : w.grownBy w' none) : psiB o k b1 x y L T base i z w' := by
  unfold psiB at h ⊢
  split at h
  · exact h
  · exact h
  · exact h
  · exact h
  · obtain ⟨T1, h1, h2⟩ := h; exact ⟨T1, h1, h2.grow g⟩
  · exact psiR_stable h g
  · exact psiR_stable h g
  · exact psiR_stable h g
  · exact psiR_stable h g
  · exact psiR_stable h g
  · exact psiR_stable h g
  · exact psiR_stable h g
  · exact psiR_stable h g
  · exact psiR_stable h g
  · exact psiR_stable h g
  · exact psiR_stable h g
  · trivial
def psiC (o k : Int) (b1 : Nat) (x y : Int) (L : List InV) (T : Ru.St) (base : Nat) : Nat → Value → World → Prop
  | 0 => fun z _ => z = .agg #[.int .i64 1, .int .i64 4, .int .i64 0, .int .i64 0, .int .i64 0, .int .i64 0, .int .i64 0, .int .i64 1, .int .i64 0]
  | 1 => fun z _ => z = .agg #[.int .i64 16, .int .i64 0, .int .i64 1, .int .i64 0, .int .i64 k, .int .i64 0, .int .i64 0, .int .i64 0, .int .i64 0]
  | 2 => fun z _ => z = .int .i64 o
  | 3 => fun z _ => z = .agg #[.int .i64 22, .int .i64 0, .int .i64 0, .int .i64 0, .int .i64 0, .int .i64 o, .int .i64 0, .int .i64 3, .int .i64 0]
  | 4 => fun z _ => z = .agg #[.int .i64 1, .int .i64 4, .int .i64 0, .int .i64 0, .int .i64 0, .int .i64 0, .int .i64 0, .int .i64 0, .int .i64 0]
  | 5 => fun z w => ∃ T1, z = .slice (some ⟨T1, 0, none⟩) 4 4 ∧ OwnI w base z [⟨1, 4, 0, 0, 0, 0, 0, 1, 0⟩, ⟨16, 0, 1, 0, k, 0, 0, 0, 0⟩, ⟨22, 0, 0, 0, 0, o, 0, 3, 0⟩, ⟨1, 4, 0, 0, 0, 0, 0, 0, 0⟩]
  | 6 => psiR 2 0 0 b1 x y L T 4 base 2
  | 7 => psiR 2 0 0 b1 x y L T 4 base 3
  | 8 => psiR 2 0 0 b1 x y L T 4 base 4
  | 9 => psiR 2 0 0 b1 x y L T 4 base 5
  | 10 => psiR 2 0 0 b1 x y L T 4 base 6
  | 11 => psiR 2 0 0 b1 x y L T 4 base 7
  | 12 => psiR 2 0 0 b1 x y L T 4 base 8
  | 13 => psiR 2 0 0 b1 x y L T 4 base 9
  | 14 => psiR 2 0 0 b1 x y L T 4 base 10
  | 15 => psiR 2 0 0 b1 x y L T 4 base 11
  | 16 => psiR 2 0 0 b1 x y L T 4 base 12
  | _ => fun _ _ => True
theorem psiC_stable {o k : Int} {b1 : Nat} {x y : Int} {L : List InV} {T : Ru.St} {base i : Nat} {z : Value} {w w' : World} (h : psiC o k b1 x y L T base i z w) (g : w.grownBy w' none) : psiC o k b1 x y L T base i z w' := by
  unfold psiC at h ⊢
  split at h
  · exact h
  · exact h
  · exact h
  · exact h
  · exact h
  · obtain ⟨T1, h1, h2⟩ := h; exact ⟨T1, h1, h2.grow g⟩
  · exact psiR_stable h g
  · exact psiR_stable h g
  · exact psiR_stable h g
  · exact psiR_stable h g
  · exact psiR_stable h g
  · exact psiR_stable h g
  · exact psiR_stable h g
  · exact psiR_stable h g
  · exact psiR_stable h g
  · exact psiR_stable h g
  · exact psiR_stable h g
  · trivial
set_option maxRecDepth 100000 in
set_option maxHeartbeats 2500000 in
theorem runFlags_walk (a : Option Addr) (len cap : Nat) (V : Nat → O6) (w : World) (hT : TabAt w) (hl : IsO6 w a len cap V) :
    Calls Tryz.prog 4 #[.slice a len cap] w fun e w' => e = .returned (.bool true) ∧ Below w.heap.size w w' := by
  have HW : Hid (∀ W, Calls Tryz.prog 14 #[] W fun r w' => r = .returned (.bool true) ∧ W.grownBy w' none) := wakes5_any
  obtain ⟨hl1, hl2, hl3⟩ := hl
  have hlen : (len : Int) ≤ 9223372036854775807 := by
    have : maxLen ≤ 9223372036854775807 := by decide
    omega
  rcases hl3 with h0 | ⟨b, off, rfl, hlt, hV⟩
  · subst h0
    go_enter Tryz.func4, Tryz.ntmps4
    go_wp2_with fail
    refine wp_loop_once ?_
    go_wp2_with (go_at_call 14; refine (HW.out _).mono ?_; rintro r w1 ⟨rfl, g1⟩)
    go_ret
    exact ⟨rfl, below6 g1⟩
  · have HV : Hid (∀ i, i < len → O6At w b (off + i * 6) (V i)) := hV
    have HTb : Hid (TabAt w) := hT
    clear hV hT
    go_enter Tryz.func4, Tryz.ntmps4
    go_wp2_with fail
    go_loopw [3] (fun i wr => ∃ k : Nat, i = .int .i64 k ∧ k ≤ len ∧ k ≤ 40 ∧ w.grownBy wr none) (fun i _ => len - (intOf i).toNat)
    case atStart => exact ⟨0, rfl, Nat.zero_le _, Nat.zero_le _, World.grownBy.refl _ _⟩
    case round =>
      obtain ⟨k, rfl, hk, hk6, gr⟩ := hrel
      have HG0 : Hid (w.grownBy wr none) := gr
      by_cases hkl : k < len
      · have hkl' : (k : Int) < len := by omega
        by_cases h6 : k < 40
        · have h6' : (k : Int) < 40 := by omega
          have HA := (HV.out k hkl).kept gr
          obtain ⟨v, hv⟩ : ∃ v, V k = v := ⟨_, rfl⟩
          rw [hv] at HA
          obtain ⟨c0, c1, c2, c3, c4, c5, x1, x2, y1, y2⟩ := HA
          have AR : Hid (O6R (wr.alloc (Obj.cells #[.int .i64 v.op, .int .i64 v.k, .int .i64 v.tk, .int .u64 v.x, .int .u64 v.y, .int .i64 v.t] 25)) wr.heap.size v) := O6R.new wr v
          have G1 : Hid (w.grownBy (wr.alloc (Obj.cells #[.int .i64 v.op, .int .i64 v.k, .int .i64 v.tk, .int .u64 v.x, .int .u64 v.y, .int .i64 v.t] 25)) none) := grown_trans HG0.out (World.grownBy_alloc _ _ _)
          clear hv gr
          obtain ⟨q, hq1, hq2, HWi⟩ := within6 v.op
          have HO : Hid (11 ≤ 11 + q ∧ 11 + q ≤ 16) := ⟨by omega, by omega⟩
          cases hb : Wd.hasBinB (11 + q) v.k
          · go_wp2_with (first
              | (go_at_call 6; refine (rhasBin_any _ _ _).mono ?_; rw [hb]; rintro r wn ⟨rfl, hwn⟩; rw [hwn]; clear hwn wn)
              | (go_at_call 10; refine (HWi _).mono ?_; rintro r wn ⟨rfl, hwn⟩; rw [hwn]; clear hwn wn))
            go_roundw
            case rel => exact ⟨k + 1, by go_num, by omega, by omega, G1.out⟩
            case measure => simp [intOf]; omega
          · have HB : Hid (Wd.hasBinB (11 + q) v.k = true) := hb
            go_wp2_with (first
              | (go_at_call 6; refine (rhasBin_any _ _ _).mono ?_; rw [hb]; rintro r wn ⟨rfl, hwn⟩; rw [hwn]; clear hwn wn)
              | (go_at_call 10; refine (HWi _).mono ?_; rintro r wn ⟨rfl, hwn⟩; rw [hwn]; clear hwn wn))
            clear c0 c1 c2 c3 c4 c5 hb HWi
            obtain ⟨o, ho⟩ : ∃ o, o = 11 + q := ⟨_, rfl⟩
            rw [← ho] at HO HB ⊢
            clear ho hq1 hq2
            generalize wr.alloc (Obj.cells #[.int .i64 v.op, .int .i64 v.k, .int .i64 v.tk, .int .u64 v.x, .int .u64 v.y, .int .i64 v.t] 25) = w1 at *
            obtain ⟨b1, hb1⟩ : ∃ b1, b1 = wr.heap.size := ⟨_, rfl⟩
            rw [← hb1] at AR ⊢
            clear hb1
            obtain ⟨B, hB⟩ : ∃ B, B = Fl.binA o v.k (Wd.canon v.k v.x) (Wd.canon v.k v.y) := ⟨_, rfl⟩
            have HBB : Hid (B = Fl.binA o v.k (Wd.canon v.k v.x) (Wd.canon v.k v.y)) := hB
            have HX : Hid (Ru.W64 v.x) := ⟨x1, x2⟩
            have HY : Hid (Ru.W64 v.y) := ⟨y1, y2⟩
            have HC1 : Hid (∀ (x : Gw w1) (k z : Int), Hid (Ru.W64 z) → Calls Tryz.prog 9 #[.int .i64 k, .int .u64 z] x.w fun e w' => e = .returned (.int .u64 (Wd.canon k z)) ∧ x.w.grownBy w' none) := fun x k z hz => (rcanon_any k z x.w hz.out.1 hz.out.2).mono fun e w' ⟨h1, h2⟩ => ⟨h1, by rw [h2]; exact World.grownBy.refl _ _⟩
            have HBn : Hid (∀ x : Gw w1, Calls Tryz.prog 8 #[.int .i64 o, .int .i64 v.k, .int .u64 (Wd.canon v.k v.x), .int .u64 (Wd.canon v.k v.y)] x.w fun e w' => e = .returned (.tuple #[.int .u64 B.1, .int .i64 B.2]) ∧ x.w.grownBy w' none) := fun x => by
              have c1 := Wd.canon_rng v.k v.x
              have c2 := Wd.canon_rng v.k v.y
              have := rbin_any o v.k _ _ x.w c1.1 c1.2 c2.1 c2.2
              rw [← hB] at this
              exact this.mono fun e w' ⟨h1, d, h2⟩ => ⟨h1, by rw [h2]; exact grown_drewN (World.grownBy.refl _ _) d⟩
            clear hB
            go_cut [6] (fun a wx => a = .int .u64 B.1 ∧ w1.grownBy wx none)
            case first =>
              have dd1 : ∀ x : Gw w1, x.w.cell? ⟨b1, 1, none⟩ = some (.int .i64 v.k) := fun x => (AR.out.kept x.h).p1
              have dd3 : ∀ x : Gw w1, x.w.cell? ⟨b1, 3, none⟩ = some (.int .u64 v.x) := fun x => (AR.out.kept x.h).p3
              have dd4 : ∀ x : Gw w1, x.w.cell? ⟨b1, 4, none⟩ = some (.int .u64 v.y) := fun x => (AR.out.kept x.h).p4
              have ne : Nonempty (Gw w1) := ⟨⟨w1, World.grownBy.refl _ _⟩⟩
              refine region_grown (by kernel_rfl) (by kernel_rfl) ?_
              repeat (go_big_quiet_step ((first
                | (go_at_call 9; exact Gw.call (HC1.out _ _ _ (by first | exact HX | exact HY)))
                | (go_at_call 8; exact Gw.call (HBn.out _))
                | exact rfl)))
              refine wpQuiet_nil ?_
              rintro _ ⟨x, rfl⟩
              go_wp2_with fail
              go_meet
              exact ⟨rfl, x.h⟩
            case rest =>
              obtain ⟨rfl, g2⟩ := hcut
              obtain ⟨w2, hwc⟩ : ∃ x, x = wc := ⟨_, rfl⟩
              rw [← hwc] at g2 ⊢
              clear hwc
              have AR2 : Hid (O6R w2 b1 v) := AR.out.kept g2
              have G2 : Hid (w.grownBy w2 none) := grown_trans G1.out g2
              clear AR G1 g2 HC1 HBn
              have AR := AR2
              have G1 := G2
              clear AR2 G2
              have p1 := AR.out.p1
              go_wp2_with fail
              clear p1
              have CR : Hid (CmpR (w2.alloc (Obj.cells #[.int .i64 16, .int .i64 0, .int .i64 1, .int .i64 0, .int .i64 v.k, .int .i64 0, .int .i64 0, .int .i64 0, .int .i64 0] 34)) w2.heap.size v.k) := CmpR.new w2 v.k
              have AR3 : Hid (O6R (w2.alloc (Obj.cells #[.int .i64 16, .int .i64 0, .int .i64 1, .int .i64 0, .int .i64 v.k, .int .i64 0, .int .i64 0, .int .i64 0, .int .i64 0] 34)) b1 v) := AR.out.kept (World.grownBy_alloc _ _ _)
              have G3 : Hid (w.grownBy (w2.alloc (Obj.cells #[.int .i64 16, .int .i64 0, .int .i64 1, .int .i64 0, .int .i64 v.k, .int .i64 0, .int .i64 0, .int .i64 0, .int .i64 0] 34)) none) := grown_trans G1.out (World.grownBy_alloc _ _ _)
              clear AR G1
              generalize w2.alloc (Obj.cells #[.int .i64 16, .int .i64 0, .int .i64 1, .int .i64 0, .int .i64 v.k, .int .i64 0, .int .i64 0, .int .i64 0, .int .i64 0] 34) = w3 at *
              obtain ⟨cb, hcb⟩ : ∃ cb, cb = w2.heap.size := ⟨_, rfl⟩
              rw [← hcb] at CR ⊢
              clear hcb
              have AR := AR3
              have G1 := G3
              clear AR3 G3
              have HCm : Hid (Wd.cmpB o = true) := by
                show Wd.cmpB o = true
                unfold Wd.cmpB
                rw [decide_eq_true HO.out.1, decide_eq_true HO.out.2]; rfl
              obtain ⟨SG, hSG⟩ : ∃ z, z = Wd.sg B.1 := ⟨_, rfl⟩
              have HSG : Hid (SG = Wd.sg B.1) := hSG
              clear hSG
              have HL20 : Hid ((Ru.setL o v.k).length ≤ 20) := by show _ ≤ 20; unfold Ru.setL; simp
              have HG : Hid (Ru.Good 2 (Ru.setL o v.k)) := Ru.set_good (Ru.word_of_bin HB.out).1 HCm.out
              have HEnd : Hid (Ru.Ends (Ru.it (Ru.pgI 2 (Ru.setL o v.k)) 100 (Ru.pg0 v.x v.y)) B.1) := by
                have := Ru.set_end v.x v.y HB.out HO.out.1 HO.out.2
                rw [← HBB.out] at this
                exact this
              have HTw : Hid (TabAt w3) := HTb.out.kept G1.out (by simp)
              go_cut [9, 10] (fun p e wx => ∃ N ao cp C, p = .pointer (some ⟨N, 0, none⟩) ∧ e = .bool true ∧ ResAt (Ru.it (Ru.pgI 2 (Ru.setL o v.k)) 100 (Ru.pg0 v.x v.y)) N ao cp C wx ∧ w3.grownBy wx none)
              case first =>
                refine region_late 15 13 _ _ _ (psiA o v.k b1 v.x v.y (Ru.setL o v.k) (Ru.it (Ru.pgI 2 (Ru.setL o v.k)) 100 (Ru.pg0 v.x v.y)) w3.heap.size) (by kernel_rfl) (by kernel_rfl) rfl rfl rfl (by kernel_rfl) (by kernel_rfl) (fun i x w0 w1 hi h g => psiA_stable h g) ?_ ?_ ?_
                · simp only [List.take_succ_cons, List.take_zero]
                  refine ⟨?_, ?_, ?_, ?_, ?_, ?_, ?_, ?_, ?_, ?_, ?_, ?_, ?_, ?_, ?_, trivial⟩
                  · intro V W0 A g hV hs h0
                    have gD := grown_trans (grown_drew (World.grownBy.refl _ none)) g
                    have hA := AR.out.kept gD
                    have e08 := h0 8 (.pointer (some ⟨cb, 0, none⟩)) (by kernel_rfl) rfl
                    have hC := CR.out.kept gD
                    clear hV hs h0
                    refine outO_val (v := .agg #[.int .i64 16, .int .i64 0, .int .i64 1, .int .i64 0, .int .i64 v.k, .int .i64 0, .int .i64 0, .int .i64 0, .int .i64 0]) (w' := W0) ?_ (World.grownBy.refl _ _) rfl
                    simp [go_sem, e08, hC.p0, hC.p1, hC.p2, hC.p3, hC.p4, hC.p5, hC.p6, hC.p7, hC.p8]
                  · intro V W0 A g hV hs h0
                    have e05 := h0 5 (.int .i64 o) (by kernel_rfl) rfl
                    clear hV hs h0
                    refine outO_val (v := .int .i64 o) (w' := W0) ?_ (World.grownBy.refl _ _) rfl
                    simp [go_sem, e05]
                  · intro V W0 A g hV hs h0
                    have k1 : V 1 = _ := hV 1 (by kernel_rfl)
                    have e1 := hs 60 1 (by kernel_rfl) (by kernel_rfl)
                    clear hV hs h0
                    refine outO_val (v := .agg #[.int .i64 18, .int .i64 4, .int .i64 0, .int .i64 0, .int .i64 0, .int .i64 o, .int .i64 0, .int .i64 0, .int .i64 0]) (w' := W0) ?_ (World.grownBy.refl _ _) rfl
                    simp [go_sem, e1, k1]
                  · intro V W0 A g hV hs h0
                    have k0 : V 0 = _ := hV 0 (by kernel_rfl)
                    have e0 := hs 59 0 (by kernel_rfl) (by kernel_rfl)
                    have k2 : V 2 = _ := hV 2 (by kernel_rfl)
                    have e2 := hs 61 2 (by kernel_rfl) (by kernel_rfl)
                    clear hV hs h0
                    refine outO_val (v := .slice (some ⟨W0.heap.size, 0, none⟩) 2 2) (w' := W0.alloc (Obj.cells #[.int .i64 16, .int .i64 0, .int .i64 1, .int .i64 0, .int .i64 v.k, .int .i64 0, .int .i64 0, .int .i64 0, .int .i64 0, .int .i64 18, .int .i64 4, .int .i64 0, .int .i64 0, .int .i64 0, .int .i64 o, .int .i64 0, .int .i64 0, .int .i64 0] 34)) ?_ (World.grownBy_alloc _ _ _) ⟨_, rfl, OwnI.lit W0 _ [⟨16, 0, 1, 0, v.k, 0, 0, 0, 0⟩, ⟨18, 4, 0, 0, 0, o, 0, 0, 0⟩] _ rfl (by have := g.size; exact this) (by simp)⟩
                    simp [go_sem, e0, k0, e2, k2]
                  · intro V W0 A g hV hs h0
                    clear hV hs h0
                    refine outO_call (f := 12) ?_ (call_emit (t := 2) (T1 := 0) (n := 0) (b1 := b1) (x := v.x) (y := v.y) (L := (Ru.setL o v.k)) (T := (Ru.it (Ru.pgI 2 (Ru.setL o v.k)) 100 (Ru.pg0 v.x v.y))) (q := 4) (base := w3.heap.size) (by have := g.size; exact this))
                    simp [go_sem]
                  · intro V W0 A g hV hs h0
                    obtain ⟨T1, k1, i1⟩ := hV 3 (by kernel_rfl)
                    obtain ⟨T2, k2, i2⟩ := hV 4 (by kernel_rfl)
                    have e1 := hs 62 3 (by kernel_rfl) (by kernel_rfl)
                    have e2 := hs 63 4 (by kernel_rfl) (by kernel_rfl)
                    clear hV hs h0
                    rw [k1] at i1
                    rw [k2] at i2
                    obtain ⟨v', w', er, o3, g3⟩ := run_appI i1 i2 rfl rfl (by decide) (by decide)
                    obtain ⟨ao3, c3, rfl, _, hz3⟩ := o3.slice
                    obtain ⟨T3, rfl, _⟩ := hz3 (by simp)
                    exact outO_app _ _ _ rfl ((eval_of e1).trans k1) ((eval_of e2).trans k2) er g3 ⟨T3, c3, rfl, World.ownsRow.mono o3 (by have := g.size; exact this)⟩
                  · intro V W0 A g hV hs h0
                    have e04 := h0 4 (.pointer (some ⟨b1, 0, none⟩)) (by kernel_rfl) rfl
                    clear hV hs h0
                    refine outO_val (v := .pointer (some ⟨b1, 3, none⟩)) (w' := W0) ?_ (World.grownBy.refl _ _) rfl
                    simp [go_sem, e04]
                  · intro V W0 A g hV hs h0
                    have gD := grown_trans (grown_drew (World.grownBy.refl _ none)) g
                    have hA := AR.out.kept gD
                    have k6 : V 6 = _ := hV 6 (by kernel_rfl)
                    have e6 := hs 65 6 (by kernel_rfl) (by kernel_rfl)
                    clear hV hs h0
                    refine outO_val (v := .int .u64 v.x) (w' := W0) ?_ (World.grownBy.refl _ _) rfl
                    simp [go_sem, e6, k6, hA.p3]
                  · intro V W0 A g hV hs h0
                    have e04 := h0 4 (.pointer (some ⟨b1, 0, none⟩)) (by kernel_rfl) rfl
                    clear hV hs h0
                    refine outO_val (v := .pointer (some ⟨b1, 4, none⟩)) (w' := W0) ?_ (World.grownBy.refl _ _) rfl
                    simp [go_sem, e04]
                  · intro V W0 A g hV hs h0
                    have gD := grown_trans (grown_drew (World.grownBy.refl _ none)) g
                    have hA := AR.out.kept gD
                    have k8 : V 8 = _ := hV 8 (by kernel_rfl)
                    have e8 := hs 67 8 (by kernel_rfl) (by kernel_rfl)
                    clear hV hs h0
                    refine outO_val (v := .int .u64 v.y) (w' := W0) ?_ (World.grownBy.refl _ _) rfl
                    simp [go_sem, e8, k8, hA.p4]
                  · intro V W0 A g hV hs h0
                    have gD := grown_trans (grown_drew (World.grownBy.refl _ none)) g
                    have hA := AR.out.kept gD
                    obtain ⟨T3, c3, k3, i3⟩ := hV 5 (by kernel_rfl)
                    have k5 : V 7 = _ := hV 7 (by kernel_rfl)
                    have k7 : V 9 = _ := hV 9 (by kernel_rfl)
                    have e3 := hs 64 5 (by kernel_rfl) (by kernel_rfl)
                    have e5 := hs 66 7 (by kernel_rfl) (by kernel_rfl)
                    have e7 := hs 68 9 (by kernel_rfl) (by kernel_rfl)
                    clear hV hs h0
                    rw [k3] at i3
                    refine outO_call (f := 11) ?_ (call_ran (T1 := 0) (n := 0) (b1 := b1) (q := 4) (by decide) HX.out HY.out (HTw.out.kept gD (by simp)) HL20.out i3 HG.out)
                    simp [go_sem, e3, e5, e7, k3, k5, k7]
                  · intro V W0 A g hV hs h0
                    obtain ⟨r, k8, i8⟩ := hV 10 (by kernel_rfl)
                    have e8 := hs 69 10 (by kernel_rfl) (by kernel_rfl)
                    clear hV hs h0
                    exact outO_val (v := V 10) (w' := W0) (by simp [go_sem, e8]) (World.grownBy.refl _ _) ⟨r, k8, i8⟩
                  · intro V W0 A g hV hs h0
                    obtain ⟨r, k9, i9⟩ := hV 11 (by kernel_rfl)
                    have e9 := hs 58 11 (by kernel_rfl) (by kernel_rfl)
                    clear hV hs h0
                    refine outO_val (v := r) (w' := W0) ?_ (World.grownBy.refl _ _) i9
                    simp [go_sem, e9, k9]
                  · intro V W0 A g hV hs h0
                    obtain ⟨r, k9, i9⟩ := hV 11 (by kernel_rfl)
                    have e9 := hs 58 11 (by kernel_rfl) (by kernel_rfl)
                    clear hV hs h0
                    refine outO_val (v := .bool true) (w' := W0) ?_ (World.grownBy.refl _ _) rfl
                    simp [go_sem, e9, k9]
                  · intro V W0 A g hV hs h0
                    clear hV hs h0
                    refine outO_val (v := .pointer (some ⟨W0.heap.size, 0, none⟩)) (w' := W0.alloc (Obj.cells #[.slice none 0 0, .slice none 0 0, .int .i64 0, .int .i64 0, .int .i64 0] 38)) ?_ (World.grownBy_alloc _ _ _) ⟨W0.heap.size, rfl, row5_new _ _ _ _ _ _ _, by have := g.size; exact this⟩
                    simp [go_sem]
                · intro V W0 g hV
                  have h0 : V 0 = _ := hV 0 (by decide)
                  have h1 : V 1 = _ := hV 1 (by decide)
                  have h2 : V 2 = _ := hV 2 (by decide)
                  obtain ⟨T1, h3, _⟩ := hV 3 (by decide)
                  have h6 : V 6 = _ := hV 6 (by decide)
                  have h7 : V 7 = _ := hV 7 (by decide)
                  have h8 : V 8 = _ := hV 8 (by decide)
                  have h9 : V 9 = _ := hV 9 (by decide)
                  obtain ⟨T2, h4, _⟩ := hV 4 (by decide)
                  obtain ⟨T3, c3, h5, _⟩ := hV 5 (by decide)
                  obtain ⟨r8, h10, _⟩ := hV 10 (by decide)
                  obtain ⟨r9, h11, _⟩ := hV 11 (by decide)
                  obtain ⟨ao, cp, C, h12, hrw⟩ := hV 12 (by decide)
                  have h13 : V 13 = _ := hV 13 (by decide)
                  obtain ⟨N, h14, hrow, hN⟩ := hV 14 (by decide)
                  have HR2 : Hid (W0.rowIs N 38 5 (row5 (.slice none 0 0) (.slice none 0 0) (.int .i64 0) (.int .i64 0) (.int .i64 0))) := hrow
                  have HRW : Hid (RwIn .u64 W0 ao (Ru.it (Ru.pgI 2 (Ru.setL o v.k)) 100 (Ru.pg0 v.x v.y)).out.length cp (fun i => (Ru.it (Ru.pgI 2 (Ru.setL o v.k)) 100 (Ru.pg0 v.x v.y)).out.getD i 0)) := hrw
                  obtain ⟨z0, z1, z2, z3, z4, zz⟩ := rowIs_five hrow
                  simp [frV, dstOf, Act.put, h0, h1, h2, h3, h4, h5, h6, h7, h8, h9, h10, h11, h12, h13, h14]
                  clear h0 h1 h2 h3 h4 h5 h6 h7 h8 h9 h10 h11 h12 h13 h14 hV hrow hrw
                  have GR : Hid (∀ C : Int, ResAt (Ru.it (Ru.pgI 2 (Ru.setL o v.k)) 100 (Ru.pg0 v.x v.y)) N ao cp C (put5 W0 N (.slice ao (Ru.it (Ru.pgI 2 (Ru.setL o v.k)) 100 (Ru.pg0 v.x v.y)).out.length cp) (.slice none 0 0) (.int .i64 (if (Ru.it (Ru.pgI 2 (Ru.setL o v.k)) 100 (Ru.pg0 v.x v.y)).e = 0 then 3 else (Ru.it (Ru.pgI 2 (Ru.setL o v.k)) 100 (Ru.pg0 v.x v.y)).e)) (.int .i64 (Ru.it (Ru.pgI 2 (Ru.setL o v.k)) 100 (Ru.pg0 v.x v.y)).n) (.int .i64 C)) ∧ w3.grownBy (put5 W0 N (.slice ao (Ru.it (Ru.pgI 2 (Ru.setL o v.k)) 100 (Ru.pg0 v.x v.y)).out.length cp) (.slice none 0 0) (.int .i64 (if (Ru.it (Ru.pgI 2 (Ru.setL o v.k)) 100 (Ru.pg0 v.x v.y)).e = 0 then 3 else (Ru.it (Ru.pgI 2 (Ru.setL o v.k)) 100 (Ru.pg0 v.x v.y)).e)) (.int .i64 (Ru.it (Ru.pgI 2 (Ru.setL o v.k)) 100 (Ru.pg0 v.x v.y)).n) (.int .i64 C)) none) := fun C => res_put6 (grown_trans (grown_drew (World.grownBy.refl _ none)) g) hN HR2.out HRW.out
                  clear HRW
                  generalize (if (Ru.it (Ru.pgI 2 (Ru.setL o v.k)) 100 (Ru.pg0 v.x v.y)).e = 0 then 3 else (Ru.it (Ru.pgI 2 (Ru.setL o v.k)) 100 (Ru.pg0 v.x v.y)).e) = E at *
                  obtain ⟨Z, hZ⟩ : ∃ Z, Z = (Ru.it (Ru.pgI 2 (Ru.setL o v.k)) 100 (Ru.pg0 v.x v.y)).n := ⟨_, rfl⟩
                  obtain ⟨ln, hln⟩ : ∃ ln, ln = (Ru.it (Ru.pgI 2 (Ru.setL o v.k)) 100 (Ru.pg0 v.x v.y)).out.length := ⟨_, rfl⟩
                  rw [← hZ, ← hln] at GR ⊢
                  clear hZ hln
                  go_wp2_with fail
                  go_meet
                  exact ⟨N, ao, cp, C, rfl, rfl, GR.out C⟩
                · intro V W0 g hV hold
                  have h0 : V 0 = _ := hV 0 (by decide) (by decide)
                  have h1 : V 1 = _ := hV 1 (by decide) (by decide)
                  have h2 : V 2 = _ := hV 2 (by decide) (by decide)
                  obtain ⟨T1, h3, _⟩ := hV 3 (by decide) (by decide)
                  have h6 : V 6 = _ := hV 6 (by decide) (by decide)
                  have h7 : V 7 = _ := hV 7 (by decide) (by decide)
                  have h8 : V 8 = _ := hV 8 (by decide) (by decide)
                  have h9 : V 9 = _ := hV 9 (by decide) (by decide)
                  obtain ⟨T2, h4, _⟩ := hV 4 (by decide) (by decide)
                  obtain ⟨T3, c3, h5, _⟩ := hV 5 (by decide) (by decide)
                  obtain ⟨r8, h10, _⟩ := hV 10 (by decide) (by decide)
                  obtain ⟨r9, h11, _⟩ := hV 11 (by decide) (by decide)
                  obtain ⟨ao, cp, C, h12, hrw⟩ := hV 12 (by decide) (by decide)
                  obtain ⟨y, h13⟩ : ∃ y, V 13 = y := ⟨_, rfl⟩
                  obtain ⟨N, h14, hrow, hN⟩ := hV 14 (by decide) (by decide)
                  have HR2 : Hid (W0.rowIs N 38 5 (row5 (.slice none 0 0) (.slice none 0 0) (.int .i64 0) (.int .i64 0) (.int .i64 0))) := hrow
                  have HRW : Hid (RwIn .u64 W0 ao (Ru.it (Ru.pgI 2 (Ru.setL o v.k)) 100 (Ru.pg0 v.x v.y)).out.length cp (fun i => (Ru.it (Ru.pgI 2 (Ru.setL o v.k)) 100 (Ru.pg0 v.x v.y)).out.getD i 0)) := hrw
                  obtain ⟨z0, z1, z2, z3, z4, zz⟩ := rowIs_five hrow
                  simp [frV, dstOf, Act.put, h0, h1, h2, h3, h4, h5, h6, h7, h8, h9, h10, h11, h12, h13, h14]
                  clear h0 h1 h2 h3 h4 h5 h6 h7 h8 h9 h10 h11 h12 h13 h14 hV hrow hrw hold
                  have GR : Hid (∀ C : Int, ResAt (Ru.it (Ru.pgI 2 (Ru.setL o v.k)) 100 (Ru.pg0 v.x v.y)) N ao cp C (put5 W0 N (.slice ao (Ru.it (Ru.pgI 2 (Ru.setL o v.k)) 100 (Ru.pg0 v.x v.y)).out.length cp) (.slice none 0 0) (.int .i64 (if (Ru.it (Ru.pgI 2 (Ru.setL o v.k)) 100 (Ru.pg0 v.x v.y)).e = 0 then 3 else (Ru.it (Ru.pgI 2 (Ru.setL o v.k)) 100 (Ru.pg0 v.x v.y)).e)) (.int .i64 (Ru.it (Ru.pgI 2 (Ru.setL o v.k)) 100 (Ru.pg0 v.x v.y)).n) (.int .i64 C)) ∧ w3.grownBy (put5 W0 N (.slice ao (Ru.it (Ru.pgI 2 (Ru.setL o v.k)) 100 (Ru.pg0 v.x v.y)).out.length cp) (.slice none 0 0) (.int .i64 (if (Ru.it (Ru.pgI 2 (Ru.setL o v.k)) 100 (Ru.pg0 v.x v.y)).e = 0 then 3 else (Ru.it (Ru.pgI 2 (Ru.setL o v.k)) 100 (Ru.pg0 v.x v.y)).e)) (.int .i64 (Ru.it (Ru.pgI 2 (Ru.setL o v.k)) 100 (Ru.pg0 v.x v.y)).n) (.int .i64 C)) none) := fun C => res_put6 (grown_trans (grown_drew (World.grownBy.refl _ none)) g) hN HR2.out HRW.out
                  clear HRW
                  generalize (if (Ru.it (Ru.pgI 2 (Ru.setL o v.k)) 100 (Ru.pg0 v.x v.y)).e = 0 then 3 else (Ru.it (Ru.pgI 2 (Ru.setL o v.k)) 100 (Ru.pg0 v.x v.y)).e) = E at *
                  obtain ⟨Z, hZ⟩ : ∃ Z, Z = (Ru.it (Ru.pgI 2 (Ru.setL o v.k)) 100 (Ru.pg0 v.x v.y)).n := ⟨_, rfl⟩
                  obtain ⟨ln, hln⟩ : ∃ ln, ln = (Ru.it (Ru.pgI 2 (Ru.setL o v.k)) 100 (Ru.pg0 v.x v.y)).out.length := ⟨_, rfl⟩
                  rw [← hZ, ← hln] at GR ⊢
                  clear hZ hln
                  go_wp2_with fail
                  go_meet
                  exact ⟨N, ao, cp, C, rfl, rfl, GR.out C⟩
              case rest =>
                obtain ⟨N1, ao, cp1, C1, rfl, rfl, hres, g4⟩ := hcut
                obtain ⟨w4, hwc⟩ : ∃ x, x = wc := ⟨_, rfl⟩
                rw [← hwc] at hres g4 ⊢
                clear hwc
                have G4 : Hid (w.grownBy w4 none) := grown_trans G1.out g4
                have AR4 : Hid (O6R w4 b1 v) := AR.out.kept g4
                have CR4 : Hid (CmpR w4 cb v.k) := CR.out.kept g4
                obtain ⟨gg1, oo1, hR⟩ := rs_of HEnd.out hres
                rw [← HSG.out] at hR
                have R1 : Hid (Rs w4 N1 gg1 oo1 cp1 B.1 SG C1) := hR
                clear AR G1 CR g4 hR hres HEnd HG HL20 HTw
                have AR := AR4
                have G1 := G4
                have CR := CR4
                clear AR4 G4 CR4
                have HL20 : Hid ((Ru.selL o v.k).length ≤ 20) := by show _ ≤ 20; unfold Ru.selL; simp
                have HG : Hid (Ru.Good 2 (Ru.selL o v.k)) := Ru.sel_good (Ru.word_of_bin HB.out).1 HCm.out
                have HEnd : Hid (Ru.Ends (Ru.it (Ru.pgI 2 (Ru.selL o v.k)) 100 (Ru.pg0 v.x v.y)) B.1) := by
                  have := Ru.sel_end v.x v.y HB.out HO.out.1 HO.out.2
                  rw [← HBB.out] at this
                  exact this
                have HTw : Hid (TabAt w4) := HTb.out.kept G1.out (by simp)
                go_wp2_with fail
                go_cut [11, 12] (fun p e wx => ∃ N ao cp C, p = .pointer (some ⟨N, 0, none⟩) ∧ e = .bool true ∧ ResAt (Ru.it (Ru.pgI 2 (Ru.selL o v.k)) 100 (Ru.pg0 v.x v.y)) N ao cp C wx ∧ w4.grownBy wx none)
                case first =>
                  refine region_late 16 14 _ _ _ (psiB o v.k b1 v.x v.y (Ru.selL o v.k) (Ru.it (Ru.pgI 2 (Ru.selL o v.k)) 100 (Ru.pg0 v.x v.y)) w4.heap.size) (by kernel_rfl) (by kernel_rfl) rfl rfl rfl (by kernel_rfl) (by kernel_rfl) (fun i x w0 w1 hi h g => psiB_stable h g) ?_ ?_ ?_
                  · simp only [List.take_succ_cons, List.take_zero]
                    refine ⟨?_, ?_, ?_, ?_, ?_, ?_, ?_, ?_, ?_, ?_, ?_, ?_, ?_, ?_, ?_, ?_, trivial⟩
                    · intro V W0 A g hV hs h0
                      clear hV hs h0
                      refine outO_val (v := .agg #[.int .i64 1, .int .i64 5, .int .i64 0, .int .i64 0, .int .i64 0, .int .i64 0, .int .i64 0, .int .i64 1, .int .i64 0]) (w' := W0) ?_ (World.grownBy.refl _ _) rfl
                      simp [go_sem]
                    · intro V W0 A g hV hs h0
                      have gD := grown_trans (grown_drew (World.grownBy.refl _ none)) g
                      have hA := AR.out.kept gD
                      have e08 := h0 8 (.pointer (some ⟨cb, 0, none⟩)) (by kernel_rfl) rfl
                      have hC := CR.out.kept gD
                      clear hV hs h0
                      refine outO_val (v := .agg #[.int .i64 16, .int .i64 0, .int .i64 1, .int .i64 0, .int .i64 v.k, .int .i64 0, .int .i64 0, .int .i64 0, .int .i64 0]) (w' := W0) ?_ (World.grownBy.refl _ _) rfl
                      simp [go_sem, e08, hC.p0, hC.p1, hC.p2, hC.p3, hC.p4, hC.p5, hC.p6, hC.p7, hC.p8]
                    · intro V W0 A g hV hs h0
                      have e05 := h0 5 (.int .i64 o) (by kernel_rfl) rfl
                      clear hV hs h0
                      refine outO_val (v := .int .i64 o) (w' := W0) ?_ (World.grownBy.refl _ _) rfl
                      simp [go_sem, e05]
                    · intro V W0 A g hV hs h0
                      have k2 : V 2 = _ := hV 2 (by kernel_rfl)
                      have e2 := hs 75 2 (by kernel_rfl) (by kernel_rfl)
                      clear hV hs h0
                      refine outO_val (v := .agg #[.int .i64 15, .int .i64 4, .int .i64 5, .int .i64 0, .int .i64 0, .int .i64 o, .int .i64 0, .int .i64 0, .int .i64 0]) (w' := W0) ?_ (World.grownBy.refl _ _) rfl
                      simp [go_sem, e2, k2]
                    · intro V W0 A g hV hs h0
                      have k0 : V 0 = _ := hV 0 (by kernel_rfl)
                      have e0 := hs 73 0 (by kernel_rfl) (by kernel_rfl)
                      have k1 : V 1 = _ := hV 1 (by kernel_rfl)
                      have e1 := hs 74 1 (by kernel_rfl) (by kernel_rfl)
                      have k3 : V 3 = _ := hV 3 (by kernel_rfl)
                      have e3 := hs 76 3 (by kernel_rfl) (by kernel_rfl)
                      clear hV hs h0
                      refine outO_val (v := .slice (some ⟨W0.heap.size, 0, none⟩) 3 3) (w' := W0.alloc (Obj.cells #[.int .i64 1, .int .i64 5, .int .i64 0, .int .i64 0, .int .i64 0, .int .i64 0, .int .i64 0, .int .i64 1, .int .i64 0, .int .i64 16, .int .i64 0, .int .i64 1, .int .i64 0, .int .i64 v.k, .int .i64 0, .int .i64 0, .int .i64 0, .int .i64 0, .int .i64 15, .int .i64 4, .int .i64 5, .int .i64 0, .int .i64 0, .int .i64 o, .int .i64 0, .int .i64 0, .int .i64 0] 34)) ?_ (World.grownBy_alloc _ _ _) ⟨_, rfl, OwnI.lit W0 _ [⟨1, 5, 0, 0, 0, 0, 0, 1, 0⟩, ⟨16, 0, 1, 0, v.k, 0, 0, 0, 0⟩, ⟨15, 4, 5, 0, 0, o, 0, 0, 0⟩] _ rfl (by have := g.size; exact this) (by simp)⟩
                      simp [go_sem, e0, k0, e1, k1, e3, k3]
                    · intro V W0 A g hV hs h0
                      clear hV hs h0
                      refine outO_call (f := 12) ?_ (call_emit (t := 2) (T1 := 0) (n := 0) (b1 := b1) (x := v.x) (y := v.y) (L := (Ru.selL o v.k)) (T := (Ru.it (Ru.pgI 2 (Ru.selL o v.k)) 100 (Ru.pg0 v.x v.y))) (q := 4) (base := w4.heap.size) (by have := g.size; exact this))
                      simp [go_sem]
                    · intro V W0 A g hV hs h0
                      obtain ⟨T1, k1, i1⟩ := hV 4 (by kernel_rfl)
                      obtain ⟨T2, k2, i2⟩ := hV 5 (by kernel_rfl)
                      have e1 := hs 77 4 (by kernel_rfl) (by kernel_rfl)
                      have e2 := hs 78 5 (by kernel_rfl) (by kernel_rfl)
                      clear hV hs h0
                      rw [k1] at i1
                      rw [k2] at i2
                      obtain ⟨v', w', er, o3, g3⟩ := run_appI i1 i2 rfl rfl (by decide) (by decide)
                      obtain ⟨ao3, c3, rfl, _, hz3⟩ := o3.slice
                      obtain ⟨T3, rfl, _⟩ := hz3 (by simp)
                      exact outO_app _ _ _ rfl ((eval_of e1).trans k1) ((eval_of e2).trans k2) er g3 ⟨T3, c3, rfl, World.ownsRow.mono o3 (by have := g.size; exact this)⟩
                    · intro V W0 A g hV hs h0
                      have e04 := h0 4 (.pointer (some ⟨b1, 0, none⟩)) (by kernel_rfl) rfl
                      clear hV hs h0
                      refine outO_val (v := .pointer (some ⟨b1, 3, none⟩)) (w' := W0) ?_ (World.grownBy.refl _ _) rfl
                      simp [go_sem, e04]
                    · intro V W0 A g hV hs h0
                      have gD := grown_trans (grown_drew (World.grownBy.refl _ none)) g
                      have hA := AR.out.kept gD
                      have k7 : V 7 = _ := hV 7 (by kernel_rfl)
                      have e7 := hs 80 7 (by kernel_rfl) (by kernel_rfl)
                      clear hV hs h0
                      refine outO_val (v := .int .u64 v.x) (w' := W0) ?_ (World.grownBy.refl _ _) rfl
                      simp [go_sem, e7, k7, hA.p3]
                    · intro V W0 A g hV hs h0
                      have e04 := h0 4 (.pointer (some ⟨b1, 0, none⟩)) (by kernel_rfl) rfl
                      clear hV hs h0
                      refine outO_val (v := .pointer (some ⟨b1, 4, none⟩)) (w' := W0) ?_ (World.grownBy.refl _ _) rfl
                      simp [go_sem, e04]
                    · intro V W0 A g hV hs h0
                      have gD := grown_trans (grown_drew (World.grownBy.refl _ none)) g
                      have hA := AR.out.kept gD
                      have k9 : V 9 = _ := hV 9 (by kernel_rfl)
                      have e9 := hs 82 9 (by kernel_rfl) (by kernel_rfl)
                      clear hV hs h0
                      refine outO_val (v := .int .u64 v.y) (w' := W0) ?_ (World.grownBy.refl _ _) rfl
                      simp [go_sem, e9, k9, hA.p4]
                    · intro V W0 A g hV hs h0
                      have gD := grown_trans (grown_drew (World.grownBy.refl _ none)) g
                      have hA := AR.out.kept gD
                      obtain ⟨T3, c3, k3, i3⟩ := hV 6 (by kernel_rfl)
                      have k5 : V 8 = _ := hV 8 (by kernel_rfl)
                      have k7 : V 10 = _ := hV 10 (by kernel_rfl)
                      have e3 := hs 79 6 (by kernel_rfl) (by kernel_rfl)
                      have e5 := hs 81 8 (by kernel_rfl) (by kernel_rfl)
                      have e7 := hs 83 10 (by kernel_rfl) (by kernel_rfl)
                      clear hV hs h0
                      rw [k3] at i3
                      refine outO_call (f := 11) ?_ (call_ran (T1 := 0) (n := 0) (b1 := b1) (q := 4) (by decide) HX.out HY.out (HTw.out.kept gD (by simp)) HL20.out i3 HG.out)
                      simp [go_sem, e3, e5, e7, k3, k5, k7]
                    · intro V W0 A g hV hs h0
                      obtain ⟨r, k8, i8⟩ := hV 11 (by kernel_rfl)
                      have e8 := hs 84 11 (by kernel_rfl) (by kernel_rfl)
                      clear hV hs h0
                      exact outO_val (v := V 11) (w' := W0) (by simp [go_sem, e8]) (World.grownBy.refl _ _) ⟨r, k8, i8⟩
                    · intro V W0 A g hV hs h0
                      obtain ⟨r, k9, i9⟩ := hV 12 (by kernel_rfl)
                      have e9 := hs 72 12 (by kernel_rfl) (by kernel_rfl)
                      clear hV hs h0
                      refine outO_val (v := r) (w' := W0) ?_ (World.grownBy.refl _ _) i9
                      simp [go_sem, e9, k9]
                    · intro V W0 A g hV hs h0
                      obtain ⟨r, k9, i9⟩ := hV 12 (by kernel_rfl)
                      have e9 := hs 72 12 (by kernel_rfl) (by kernel_rfl)
                      clear hV hs h0
                      refine outO_val (v := .bool true) (w' := W0) ?_ (World.grownBy.refl _ _) rfl
                      simp [go_sem, e9, k9]
                    · intro V W0 A g hV hs h0
                      clear hV hs h0
                      refine outO_val (v := .pointer (some ⟨W0.heap.size, 0, none⟩)) (w' := W0.alloc (Obj.cells #[.slice none 0 0, .slice none 0 0, .int .i64 0, .int .i64 0, .int .i64 0] 38)) ?_ (World.grownBy_alloc _ _ _) ⟨W0.heap.size, rfl, row5_new _ _ _ _ _ _ _, by have := g.size; exact this⟩
                      simp [go_sem]
                  · intro V W0 g hV
                    have h0 : V 0 = _ := hV 0 (by decide)
                    have h1 : V 1 = _ := hV 1 (by decide)
                    have h2 : V 2 = _ := hV 2 (by decide)
                    have h3 : V 3 = _ := hV 3 (by decide)
                    obtain ⟨T1, h4, _⟩ := hV 4 (by decide)
                    have h7 : V 7 = _ := hV 7 (by decide)
                    have h8 : V 8 = _ := hV 8 (by decide)
                    have h9 : V 9 = _ := hV 9 (by decide)
                    have h10 : V 10 = _ := hV 10 (by decide)
                    obtain ⟨T2, h5, _⟩ := hV 5 (by decide)
                    obtain ⟨T3, c3, h6, _⟩ := hV 6 (by decide)
                    obtain ⟨r8, h11, _⟩ := hV 11 (by decide)
                    obtain ⟨r9, h12, _⟩ := hV 12 (by decide)
                    obtain ⟨ao, cp, C, h13, hrw⟩ := hV 13 (by decide)
                    have h14 : V 14 = _ := hV 14 (by decide)
                    obtain ⟨N, h15, hrow, hN⟩ := hV 15 (by decide)
                    have HR2 : Hid (W0.rowIs N 38 5 (row5 (.slice none 0 0) (.slice none 0 0) (.int .i64 0) (.int .i64 0) (.int .i64 0))) := hrow
                    have HRW : Hid (RwIn .u64 W0 ao (Ru.it (Ru.pgI 2 (Ru.selL o v.k)) 100 (Ru.pg0 v.x v.y)).out.length cp (fun i => (Ru.it (Ru.pgI 2 (Ru.selL o v.k)) 100 (Ru.pg0 v.x v.y)).out.getD i 0)) := hrw
                    obtain ⟨z0, z1, z2, z3, z4, zz⟩ := rowIs_five hrow
                    simp [frV, dstOf, Act.put, h0, h1, h2, h3, h4, h5, h6, h7, h8, h9, h10, h11, h12, h13, h14, h15]
                    clear h0 h1 h2 h3 h4 h5 h6 h7 h8 h9 h10 h11 h12 h13 h14 h15 hV hrow hrw
                    have GR : Hid (∀ C : Int, ResAt (Ru.it (Ru.pgI 2 (Ru.selL o v.k)) 100 (Ru.pg0 v.x v.y)) N ao cp C (put5 W0 N (.slice ao (Ru.it (Ru.pgI 2 (Ru.selL o v.k)) 100 (Ru.pg0 v.x v.y)).out.length cp) (.slice none 0 0) (.int .i64 (if (Ru.it (Ru.pgI 2 (Ru.selL o v.k)) 100 (Ru.pg0 v.x v.y)).e = 0 then 3 else (Ru.it (Ru.pgI 2 (Ru.selL o v.k)) 100 (Ru.pg0 v.x v.y)).e)) (.int .i64 (Ru.it (Ru.pgI 2 (Ru.selL o v.k)) 100 (Ru.pg0 v.x v.y)).n) (.int .i64 C)) ∧ w4.grownBy (put5 W0 N (.slice ao (Ru.it (Ru.pgI 2 (Ru.selL o v.k)) 100 (Ru.pg0 v.x v.y)).out.length cp) (.slice none 0 0) (.int .i64 (if (Ru.it (Ru.pgI 2 (Ru.selL o v.k)) 100 (Ru.pg0 v.x v.y)).e = 0 then 3 else (Ru.it (Ru.pgI 2 (Ru.selL o v.k)) 100 (Ru.pg0 v.x v.y)).e)) (.int .i64 (Ru.it (Ru.pgI 2 (Ru.selL o v.k)) 100 (Ru.pg0 v.x v.y)).n) (.int .i64 C)) none) := fun C => res_put6 (grown_trans (grown_drew (World.grownBy.refl _ none)) g) hN HR2.out HRW.out
                    clear HRW
                    generalize (if (Ru.it (Ru.pgI 2 (Ru.selL o v.k)) 100 (Ru.pg0 v.x v.y)).e = 0 then 3 else (Ru.it (Ru.pgI 2 (Ru.selL o v.k)) 100 (Ru.pg0 v.x v.y)).e) = E at *
                    obtain ⟨Z, hZ⟩ : ∃ Z, Z = (Ru.it (Ru.pgI 2 (Ru.selL o v.k)) 100 (Ru.pg0 v.x v.y)).n := ⟨_, rfl⟩
                    obtain ⟨ln, hln⟩ : ∃ ln, ln = (Ru.it (Ru.pgI 2 (Ru.selL o v.k)) 100 (Ru.pg0 v.x v.y)).out.length := ⟨_, rfl⟩
                    rw [← hZ, ← hln] at GR ⊢
                    clear hZ hln
                    go_wp2_with fail
                    go_meet
                    exact ⟨N, ao, cp, C, rfl, rfl, GR.out C⟩
                  · intro V W0 g hV hold
                    have h0 : V 0 = _ := hV 0 (by decide) (by decide)
                    have h1 : V 1 = _ := hV 1 (by decide) (by decide)
                    have h2 : V 2 = _ := hV 2 (by decide) (by decide)
                    have h3 : V 3 = _ := hV 3 (by decide) (by decide)
                    obtain ⟨T1, h4, _⟩ := hV 4 (by decide) (by decide)
                    have h7 : V 7 = _ := hV 7 (by decide) (by decide)
                    have h8 : V 8 = _ := hV 8 (by decide) (by decide)
                    have h9 : V 9 = _ := hV 9 (by decide) (by decide)
                    have h10 : V 10 = _ := hV 10 (by decide) (by decide)
                    obtain ⟨T2, h5, _⟩ := hV 5 (by decide) (by decide)
                    obtain ⟨T3, c3, h6, _⟩ := hV 6 (by decide) (by decide)
                    obtain ⟨r8, h11, _⟩ := hV 11 (by decide) (by decide)
                    obtain ⟨r9, h12, _⟩ := hV 12 (by decide) (by decide)
                    obtain ⟨ao, cp, C, h13, hrw⟩ := hV 13 (by decide) (by decide)
                    obtain ⟨y, h14⟩ : ∃ y, V 14 = y := ⟨_, rfl⟩
                    obtain ⟨N, h15, hrow, hN⟩ := hV 15 (by decide) (by decide)
                    have HR2 : Hid (W0.rowIs N 38 5 (row5 (.slice none 0 0) (.slice none 0 0) (.int .i64 0) (.int .i64 0) (.int .i64 0))) := hrow
                    have HRW : Hid (RwIn .u64 W0 ao (Ru.it (Ru.pgI 2 (Ru.selL o v.k)) 100 (Ru.pg0 v.x v.y)).out.length cp (fun i => (Ru.it (Ru.pgI 2 (Ru.selL o v.k)) 100 (Ru.pg0 v.x v.y)).out.getD i 0)) := hrw
                    obtain ⟨z0, z1, z2, z3, z4, zz⟩ := rowIs_five hrow
                    simp [frV, dstOf, Act.put, h0, h1, h2, h3, h4, h5, h6, h7, h8, h9, h10, h11, h12, h13, h14, h15]
                    clear h0 h1 h2 h3 h4 h5 h6 h7 h8 h9 h10 h11 h12 h13 h14 h15 hV hrow hrw hold
                    have GR : Hid (∀ C : Int, ResAt (Ru.it (Ru.pgI 2 (Ru.selL o v.k)) 100 (Ru.pg0 v.x v.y)) N ao cp C (put5 W0 N (.slice ao (Ru.it (Ru.pgI 2 (Ru.selL o v.k)) 100 (Ru.pg0 v.x v.y)).out.length cp) (.slice none 0 0) (.int .i64 (if (Ru.it (Ru.pgI 2 (Ru.selL o v.k)) 100 (Ru.pg0 v.x v.y)).e = 0 then 3 else (Ru.it (Ru.pgI 2 (Ru.selL o v.k)) 100 (Ru.pg0 v.x v.y)).e)) (.int .i64 (Ru.it (Ru.pgI 2 (Ru.selL o v.k)) 100 (Ru.pg0 v.x v.y)).n) (.int .i64 C)) ∧ w4.grownBy (put5 W0 N (.slice ao (Ru.it (Ru.pgI 2 (Ru.selL o v.k)) 100 (Ru.pg0 v.x v.y)).out.length cp) (.slice none 0 0) (.int .i64 (if (Ru.it (Ru.pgI 2 (Ru.selL o v.k)) 100 (Ru.pg0 v.x v.y)).e = 0 then 3 else (Ru.it (Ru.pgI 2 (Ru.selL o v.k)) 100 (Ru.pg0 v.x v.y)).e)) (.int .i64 (Ru.it (Ru.pgI 2 (Ru.selL o v.k)) 100 (Ru.pg0 v.x v.y)).n) (.int .i64 C)) none) := fun C => res_put6 (grown_trans (grown_drew (World.grownBy.refl _ none)) g) hN HR2.out HRW.out
                    clear HRW
                    generalize (if (Ru.it (Ru.pgI 2 (Ru.selL o v.k)) 100 (Ru.pg0 v.x v.y)).e = 0 then 3 else (Ru.it (Ru.pgI 2 (Ru.selL o v.k)) 100 (Ru.pg0 v.x v.y)).e) = E at *
                    obtain ⟨Z, hZ⟩ : ∃ Z, Z = (Ru.it (Ru.pgI 2 (Ru.selL o v.k)) 100 (Ru.pg0 v.x v.y)).n := ⟨_, rfl⟩
                    obtain ⟨ln, hln⟩ : ∃ ln, ln = (Ru.it (Ru.pgI 2 (Ru.selL o v.k)) 100 (Ru.pg0 v.x v.y)).out.length := ⟨_, rfl⟩
                    rw [← hZ, ← hln] at GR ⊢
                    clear hZ hln
                    go_wp2_with fail
                    go_meet
                    exact ⟨N, ao, cp, C, rfl, rfl, GR.out C⟩
                case rest =>
                  obtain ⟨N2, ao, cp2, C2, rfl, rfl, hres, g4⟩ := hcut
                  obtain ⟨w5, hwc⟩ : ∃ x, x = wc := ⟨_, rfl⟩
                  rw [← hwc] at hres g4 ⊢
                  clear hwc
                  have G4 : Hid (w.grownBy w5 none) := grown_trans G1.out g4
                  have AR4 : Hid (O6R w5 b1 v) := AR.out.kept g4
                  have CR4 : Hid (CmpR w5 cb v.k) := CR.out.kept g4
                  obtain ⟨gg2, oo2, hR⟩ := rs_of HEnd.out hres
                  rw [← HSG.out] at hR
                  have R2 : Hid (Rs w5 N2 gg2 oo2 cp2 B.1 SG C2) := hR
                  have X1 : Hid (Rs w5 N1 gg1 oo1 cp1 B.1 SG C1) := R1.out.kept g4
                  clear R1
                  have R1 := X1
                  clear X1
                  clear AR G1 CR g4 hR hres HEnd HG HL20 HTw
                  have AR := AR4
                  have G1 := G4
                  have CR := CR4
                  clear AR4 G4 CR4
                  have HL20 : Hid ((Ru.jccL o v.k).length ≤ 20) := by show _ ≤ 20; unfold Ru.jccL; simp
                  have HG : Hid (Ru.Good 2 (Ru.jccL o v.k)) := Ru.jcc_good (Ru.word_of_bin HB.out).1 HCm.out
                  have HEnd : Hid (Ru.Ends (Ru.it (Ru.pgI 2 (Ru.jccL o v.k)) 100 (Ru.pg0 v.x v.y)) B.1) := by
                    have := Ru.jcc_end v.x v.y HB.out HO.out.1 HO.out.2
                    rw [← HBB.out] at this
                    exact this
                  have HTw : Hid (TabAt w5) := HTb.out.kept G1.out (by simp)
                  go_wp2_with fail
                  go_cut [13, 14] (fun p e wx => ∃ N ao cp C, p = .pointer (some ⟨N, 0, none⟩) ∧ e = .bool true ∧ ResAt (Ru.it (Ru.pgI 2 (Ru.jccL o v.k)) 100 (Ru.pg0 v.x v.y)) N ao cp C wx ∧ w5.grownBy wx none)
                  case first =>
                    refine region_late 17 15 _ _ _ (psiC o v.k b1 v.x v.y (Ru.jccL o v.k) (Ru.it (Ru.pgI 2 (Ru.jccL o v.k)) 100 (Ru.pg0 v.x v.y)) w5.heap.size) (by kernel_rfl) (by kernel_rfl) rfl rfl rfl (by kernel_rfl) (by kernel_rfl) (fun i x w0 w1 hi h g => psiC_stable h g) ?_ ?_ ?_
                    · simp only [List.take_succ_cons, List.take_zero]
                      refine ⟨?_, ?_, ?_, ?_, ?_, ?_, ?_, ?_, ?_, ?_, ?_, ?_, ?_, ?_, ?_, ?_, ?_, trivial⟩
                      · intro V W0 A g hV hs h0
                        clear hV hs h0
                        refine outO_val (v := .agg #[.int .i64 1, .int .i64 4, .int .i64 0, .int .i64 0, .int .i64 0, .int .i64 0, .int .i64 0, .int .i64 1, .int .i64 0]) (w' := W0) ?_ (World.grownBy.refl _ _) rfl
                        simp [go_sem]
                      · intro V W0 A g hV hs h0
                        have gD := grown_trans (grown_drew (World.grownBy.refl _ none)) g
                        have hA := AR.out.kept gD
                        have e08 := h0 8 (.pointer (some ⟨cb, 0, none⟩)) (by kernel_rfl) rfl
                        have hC := CR.out.kept gD
                        clear hV hs h0
                        refine outO_val (v := .agg #[.int .i64 16, .int .i64 0, .int .i64 1, .int .i64 0, .int .i64 v.k, .int .i64 0, .int .i64 0, .int .i64 0, .int .i64 0]) (w' := W0) ?_ (World.grownBy.refl _ _) rfl
                        simp [go_sem, e08, hC.p0, hC.p1, hC.p2, hC.p3, hC.p4, hC.p5, hC.p6, hC.p7, hC.p8]
                      · intro V W0 A g hV hs h0
                        have e05 := h0 5 (.int .i64 o) (by kernel_rfl) rfl
                        clear hV hs h0
                        refine outO_val (v := .int .i64 o) (w' := W0) ?_ (World.grownBy.refl _ _) rfl
                        simp [go_sem, e05]
                      · intro V W0 A g hV hs h0
                        have k2 : V 2 = _ := hV 2 (by kernel_rfl)
                        have e2 := hs 90 2 (by kernel_rfl) (by kernel_rfl)
                        clear hV hs h0
                        refine outO_val (v := .agg #[.int .i64 22, .int .i64 0, .int .i64 0, .int .i64 0, .int .i64 0, .int .i64 o, .int .i64 0, .int .i64 3, .int .i64 0]) (w' := W0) ?_ (World.grownBy.refl _ _) rfl
                        simp [go_sem, e2, k2]
                      · intro V W0 A g hV hs h0
                        clear hV hs h0
                        refine outO_val (v := .agg #[.int .i64 1, .int .i64 4, .int .i64 0, .int .i64 0, .int .i64 0, .int .i64 0, .int .i64 0, .int .i64 0, .int .i64 0]) (w' := W0) ?_ (World.grownBy.refl _ _) rfl
                        simp [go_sem]
                      · intro V W0 A g hV hs h0
                        have k0 : V 0 = _ := hV 0 (by kernel_rfl)
                        have e0 := hs 88 0 (by kernel_rfl) (by kernel_rfl)
                        have k1 : V 1 = _ := hV 1 (by kernel_rfl)
                        have e1 := hs 89 1 (by kernel_rfl) (by kernel_rfl)
                        have k3 : V 3 = _ := hV 3 (by kernel_rfl)
                        have e3 := hs 91 3 (by kernel_rfl) (by kernel_rfl)
                        have k4 : V 4 = _ := hV 4 (by kernel_rfl)
                        have e4 := hs 92 4 (by kernel_rfl) (by kernel_rfl)
                        clear hV hs h0
                        refine outO_val (v := .slice (some ⟨W0.heap.size, 0, none⟩) 4 4) (w' := W0.alloc (Obj.cells #[.int .i64 1, .int .i64 4, .int .i64 0, .int .i64 0, .int .i64 0, .int .i64 0, .int .i64 0, .int .i64 1, .int .i64 0, .int .i64 16, .int .i64 0, .int .i64 1, .int .i64 0, .int .i64 v.k, .int .i64 0, .int .i64 0, .int .i64 0, .int .i64 0, .int .i64 22, .int .i64 0, .int .i64 0, .int .i64 0, .int .i64 0, .int .i64 o, .int .i64 0, .int .i64 3, .int .i64 0, .int .i64 1, .int .i64 4, .int .i64 0, .int .i64 0, .int .i64 0, .int .i64 0, .int .i64 0, .int .i64 0, .int .i64 0] 34)) ?_ (World.grownBy_alloc _ _ _) ⟨_, rfl, OwnI.lit W0 _ [⟨1, 4, 0, 0, 0, 0, 0, 1, 0⟩, ⟨16, 0, 1, 0, v.k, 0, 0, 0, 0⟩, ⟨22, 0, 0, 0, 0, o, 0, 3, 0⟩, ⟨1, 4, 0, 0, 0, 0, 0, 0, 0⟩] _ rfl (by have := g.size; exact this) (by simp)⟩
                        simp [go_sem, e0, k0, e1, k1, e3, k3, e4, k4]
                      · intro V W0 A g hV hs h0
                        clear hV hs h0
                        refine outO_call (f := 12) ?_ (call_emit (t := 2) (T1 := 0) (n := 0) (b1 := b1) (x := v.x) (y := v.y) (L := (Ru.jccL o v.k)) (T := (Ru.it (Ru.pgI 2 (Ru.jccL o v.k)) 100 (Ru.pg0 v.x v.y))) (q := 4) (base := w5.heap.size) (by have := g.size; exact this))
                        simp [go_sem]
                      · intro V W0 A g hV hs h0
                        obtain ⟨T1, k1, i1⟩ := hV 5 (by kernel_rfl)
                        obtain ⟨T2, k2, i2⟩ := hV 6 (by kernel_rfl)
                        have e1 := hs 93 5 (by kernel_rfl) (by kernel_rfl)
                        have e2 := hs 94 6 (by kernel_rfl) (by kernel_rfl)
                        clear hV hs h0
                        rw [k1] at i1
                        rw [k2] at i2
                        obtain ⟨v', w', er, o3, g3⟩ := run_appI i1 i2 rfl rfl (by decide) (by decide)
                        obtain ⟨ao3, c3, rfl, _, hz3⟩ := o3.slice
                        obtain ⟨T3, rfl, _⟩ := hz3 (by simp)
                        exact outO_app _ _ _ rfl ((eval_of e1).trans k1) ((eval_of e2).trans k2) er g3 ⟨T3, c3, rfl, World.ownsRow.mono o3 (by have := g.size; exact this)⟩
                      · intro V W0 A g hV hs h0
                        have e04 := h0 4 (.pointer (some ⟨b1, 0, none⟩)) (by kernel_rfl) rfl
                        clear hV hs h0
                        refine outO_val (v := .pointer (some ⟨b1, 3, none⟩)) (w' := W0) ?_ (World.grownBy.refl _ _) rfl
                        simp [go_sem, e04]
                      · intro V W0 A g hV hs h0
                        have gD := grown_trans (grown_drew (World.grownBy.refl _ none)) g
                        have hA := AR.out.kept gD
                        have k8 : V 8 = _ := hV 8 (by kernel_rfl)
                        have e8 := hs 96 8 (by kernel_rfl) (by kernel_rfl)
                        clear hV hs h0
                        refine outO_val (v := .int .u64 v.x) (w' := W0) ?_ (World.grownBy.refl _ _) rfl
                        simp [go_sem, e8, k8, hA.p3]
                      · intro V W0 A g hV hs h0
                        have e04 := h0 4 (.pointer (some ⟨b1, 0, none⟩)) (by kernel_rfl) rfl
                        clear hV hs h0
                        refine outO_val (v := .pointer (some ⟨b1, 4, none⟩)) (w' := W0) ?_ (World.grownBy.refl _ _) rfl
                        simp [go_sem, e04]
                      · intro V W0 A g hV hs h0
                        have gD := grown_trans (grown_drew (World.grownBy.refl _ none)) g
                        have hA := AR.out.kept gD
                        have k10 : V 10 = _ := hV 10 (by kernel_rfl)
                        have e10 := hs 98 10 (by kernel_rfl) (by kernel_rfl)
                        clear hV hs h0
                        refine outO_val (v := .int .u64 v.y) (w' := W0) ?_ (World.grownBy.refl _ _) rfl
                        simp [go_sem, e10, k10, hA.p4]
                      · intro V W0 A g hV hs h0
                        have gD := grown_trans (grown_drew (World.grownBy.refl _ none)) g
                        have hA := AR.out.kept gD
                        obtain ⟨T3, c3, k3, i3⟩ := hV 7 (by kernel_rfl)
                        have k5 : V 9 = _ := hV 9 (by kernel_rfl)
                        have k7 : V 11 = _ := hV 11 (by kernel_rfl)
                        have e3 := hs 95 7 (by kernel_rfl) (by kernel_rfl)
                        have e5 := hs 97 9 (by kernel_rfl) (by kernel_rfl)
                        have e7 := hs 99 11 (by kernel_rfl) (by kernel_rfl)
                        clear hV hs h0
                        rw [k3] at i3
                        refine outO_call (f := 11) ?_ (call_ran (T1 := 0) (n := 0) (b1 := b1) (q := 4) (by decide) HX.out HY.out (HTw.out.kept gD (by simp)) HL20.out i3 HG.out)
                        simp [go_sem, e3, e5, e7, k3, k5, k7]
                      · intro V W0 A g hV hs h0
                        obtain ⟨r, k8, i8⟩ := hV 12 (by kernel_rfl)
                        have e8 := hs 100 12 (by kernel_rfl) (by kernel_rfl)
                        clear hV hs h0
                        exact outO_val (v := V 12) (w' := W0) (by simp [go_sem, e8]) (World.grownBy.refl _ _) ⟨r, k8, i8⟩
                      · intro V W0 A g hV hs h0
                        obtain ⟨r, k9, i9⟩ := hV 13 (by kernel_rfl)
                        have e9 := hs 87 13 (by kernel_rfl) (by kernel_rfl)
                        clear hV hs h0
                        refine outO_val (v := r) (w' := W0) ?_ (World.grownBy.refl _ _) i9
                        simp [go_sem, e9, k9]
                      · intro V W0 A g hV hs h0
                        obtain ⟨r, k9, i9⟩ := hV 13 (by kernel_rfl)
                        have e9 := hs 87 13 (by kernel_rfl) (by kernel_rfl)
                        clear hV hs h0
                        refine outO_val (v := .bool true) (w' := W0) ?_ (World.grownBy.refl _ _) rfl
                        simp [go_sem, e9, k9]
                      · intro V W0 A g hV hs h0
                        clear hV hs h0
                        refine outO_val (v := .pointer (some ⟨W0.heap.size, 0, none⟩)) (w' := W0.alloc (Obj.cells #[.slice none 0 0, .slice none 0 0, .int .i64 0, .int .i64 0, .int .i64 0] 38)) ?_ (World.grownBy_alloc _ _ _) ⟨W0.heap.size, rfl, row5_new _ _ _ _ _ _ _, by have := g.size; exact this⟩
                        simp [go_sem]
                    · intro V W0 g hV
                      have h0 : V 0 = _ := hV 0 (by decide)
                      have h1 : V 1 = _ := hV 1 (by decide)
                      have h2 : V 2 = _ := hV 2 (by decide)
                      have h3 : V 3 = _ := hV 3 (by decide)
                      have h4 : V 4 = _ := hV 4 (by decide)
                      obtain ⟨T1, h5, _⟩ := hV 5 (by decide)
                      have h8 : V 8 = _ := hV 8 (by decide)
                      have h9 : V 9 = _ := hV 9 (by decide)
                      have h10 : V 10 = _ := hV 10 (by decide)
                      have h11 : V 11 = _ := hV 11 (by decide)
                      obtain ⟨T2, h6, _⟩ := hV 6 (by decide)
                      obtain ⟨T3, c3, h7, _⟩ := hV 7 (by decide)
                      obtain ⟨r8, h12, _⟩ := hV 12 (by decide)
                      obtain ⟨r9, h13, _⟩ := hV 13 (by decide)
                      obtain ⟨ao, cp, C, h14, hrw⟩ := hV 14 (by decide)
                      have h15 : V 15 = _ := hV 15 (by decide)
                      obtain ⟨N, h16, hrow, hN⟩ := hV 16 (by decide)
                      have HR2 : Hid (W0.rowIs N 38 5 (row5 (.slice none 0 0) (.slice none 0 0) (.int .i64 0) (.int .i64 0) (.int .i64 0))) := hrow
                      have HRW : Hid (RwIn .u64 W0 ao (Ru.it (Ru.pgI 2 (Ru.jccL o v.k)) 100 (Ru.pg0 v.x v.y)).out.length cp (fun i => (Ru.it (Ru.pgI 2 (Ru.jccL o v.k)) 100 (Ru.pg0 v.x v.y)).out.getD i 0)) := hrw
                      obtain ⟨z0, z1, z2, z3, z4, zz⟩ := rowIs_five hrow
                      simp [frV, dstOf, Act.put, h0, h1, h2, h3, h4, h5, h6, h7, h8, h9, h10, h11, h12, h13, h14, h15, h16]
                      clear h0 h1 h2 h3 h4 h5 h6 h7 h8 h9 h10 h11 h12 h13 h14 h15 h16 hV hrow hrw
                      have GR : Hid (∀ C : Int, ResAt (Ru.it (Ru.pgI 2 (Ru.jccL o v.k)) 100 (Ru.pg0 v.x v.y)) N ao cp C (put5 W0 N (.slice ao (Ru.it (Ru.pgI 2 (Ru.jccL o v.k)) 100 (Ru.pg0 v.x v.y)).out.length cp) (.slice none 0 0) (.int .i64 (if (Ru.it (Ru.pgI 2 (Ru.jccL o v.k)) 100 (Ru.pg0 v.x v.y)).e = 0 then 3 else (Ru.it (Ru.pgI 2 (Ru.jccL o v.k)) 100 (Ru.pg0 v.x v.y)).e)) (.int .i64 (Ru.it (Ru.pgI 2 (Ru.jccL o v.k)) 100 (Ru.pg0 v.x v.y)).n) (.int .i64 C)) ∧ w5.grownBy (put5 W0 N (.slice ao (Ru.it (Ru.pgI 2 (Ru.jccL o v.k)) 100 (Ru.pg0 v.x v.y)).out.length cp) (.slice none 0 0) (.int .i64 (if (Ru.it (Ru.pgI 2 (Ru.jccL o v.k)) 100 (Ru.pg0 v.x v.y)).e = 0 then 3 else (Ru.it (Ru.pgI 2 (Ru.jccL o v.k)) 100 (Ru.pg0 v.x v.y)).e)) (.int .i64 (Ru.it (Ru.pgI 2 (Ru.jccL o v.k)) 100 (Ru.pg0 v.x v.y)).n) (.int .i64 C)) none) := fun C => res_put6 (grown_trans (grown_drew (World.grownBy.refl _ none)) g) hN HR2.out HRW.out
                      clear HRW
                      generalize (if (Ru.it (Ru.pgI 2 (Ru.jccL o v.k)) 100 (Ru.pg0 v.x v.y)).e = 0 then 3 else (Ru.it (Ru.pgI 2 (Ru.jccL o v.k)) 100 (Ru.pg0 v.x v.y)).e) = E at *
                      obtain ⟨Z, hZ⟩ : ∃ Z, Z = (Ru.it (Ru.pgI 2 (Ru.jccL o v.k)) 100 (Ru.pg0 v.x v.y)).n := ⟨_, rfl⟩
                      obtain ⟨ln, hln⟩ : ∃ ln, ln = (Ru.it (Ru.pgI 2 (Ru.jccL o v.k)) 100 (Ru.pg0 v.x v.y)).out.length := ⟨_, rfl⟩
                      rw [← hZ, ← hln] at GR ⊢
                      clear hZ hln
                      go_wp2_with fail
                      go_meet
                      exact ⟨N, ao, cp, C, rfl, rfl, GR.out C⟩
                    · intro V W0 g hV hold
                      have h0 : V 0 = _ := hV 0 (by decide) (by decide)
                      have h1 : V 1 = _ := hV 1 (by decide) (by decide)
                      have h2 : V 2 = _ := hV 2 (by decide) (by decide)
                      have h3 : V 3 = _ := hV 3 (by decide) (by decide)
                      have h4 : V 4 = _ := hV 4 (by decide) (by decide)
                      obtain ⟨T1, h5, _⟩ := hV 5 (by decide) (by decide)
                      have h8 : V 8 = _ := hV 8 (by decide) (by decide)
                      have h9 : V 9 = _ := hV 9 (by decide) (by decide)
                      have h10 : V 10 = _ := hV 10 (by decide) (by decide)
                      have h11 : V 11 = _ := hV 11 (by decide) (by decide)
                      obtain ⟨T2, h6, _⟩ := hV 6 (by decide) (by decide)
                      obtain ⟨T3, c3, h7, _⟩ := hV 7 (by decide) (by decide)
                      obtain ⟨r8, h12, _⟩ := hV 12 (by decide) (by decide)
                      obtain ⟨r9, h13, _⟩ := hV 13 (by decide) (by decide)
                      obtain ⟨ao, cp, C, h14, hrw⟩ := hV 14 (by decide) (by decide)
                      obtain ⟨y, h15⟩ : ∃ y, V 15 = y := ⟨_, rfl⟩
                      obtain ⟨N, h16, hrow, hN⟩ := hV 16 (by decide) (by decide)
                      have HR2 : Hid (W0.rowIs N 38 5 (row5 (.slice none 0 0) (.slice none 0 0) (.int .i64 0) (.int .i64 0) (.int .i64 0))) := hrow
                      have HRW : Hid (RwIn .u64 W0 ao (Ru.it (Ru.pgI 2 (Ru.jccL o v.k)) 100 (Ru.pg0 v.x v.y)).out.length cp (fun i => (Ru.it (Ru.pgI 2 (Ru.jccL o v.k)) 100 (Ru.pg0 v.x v.y)).out.getD i 0)) := hrw
                      obtain ⟨z0, z1, z2, z3, z4, zz⟩ := rowIs_five hrow
                      simp [frV, dstOf, Act.put, h0, h1, h2, h3, h4, h5, h6, h7, h8, h9, h10, h11, h12, h13, h14, h15, h16]
                      clear h0 h1 h2 h3 h4 h5 h6 h7 h8 h9 h10 h11 h12 h13 h14 h15 h16 hV hrow hrw hold
                      have GR : Hid (∀ C : Int, ResAt (Ru.it (Ru.pgI 2 (Ru.jccL o v.k)) 100 (Ru.pg0 v.x v.y)) N ao cp C (put5 W0 N (.slice ao (Ru.it (Ru.pgI 2 (Ru.jccL o v.k)) 100 (Ru.pg0 v.x v.y)).out.length cp) (.slice none 0 0) (.int .i64 (if (Ru.it (Ru.pgI 2 (Ru.jccL o v.k)) 100 (Ru.pg0 v.x v.y)).e = 0 then 3 else (Ru.it (Ru.pgI 2 (Ru.jccL o v.k)) 100 (Ru.pg0 v.x v.y)).e)) (.int .i64 (Ru.it (Ru.pgI 2 (Ru.jccL o v.k)) 100 (Ru.pg0 v.x v.y)).n) (.int .i64 C)) ∧ w5.grownBy (put5 W0 N (.slice ao (Ru.it (Ru.pgI 2 (Ru.jccL o v.k)) 100 (Ru.pg0 v.x v.y)).out.length cp) (.slice none 0 0) (.int .i64 (if (Ru.it (Ru.pgI 2 (Ru.jccL o v.k)) 100 (Ru.pg0 v.x v.y)).e = 0 then 3 else (Ru.it (Ru.pgI 2 (Ru.jccL o v.k)) 100 (Ru.pg0 v.x v.y)).e)) (.int .i64 (Ru.it (Ru.pgI 2 (Ru.jccL o v.k)) 100 (Ru.pg0 v.x v.y)).n) (.int .i64 C)) none) := fun C => res_put6 (grown_trans (grown_drew (World.grownBy.refl _ none)) g) hN HR2.out HRW.out
                      clear HRW
                      generalize (if (Ru.it (Ru.pgI 2 (Ru.jccL o v.k)) 100 (Ru.pg0 v.x v.y)).e = 0 then 3 else (Ru.it (Ru.pgI 2 (Ru.jccL o v.k)) 100 (Ru.pg0 v.x v.y)).e) = E at *
                      obtain ⟨Z, hZ⟩ : ∃ Z, Z = (Ru.it (Ru.pgI 2 (Ru.jccL o v.k)) 100 (Ru.pg0 v.x v.y)).n := ⟨_, rfl⟩
                      obtain ⟨ln, hln⟩ : ∃ ln, ln = (Ru.it (Ru.pgI 2 (Ru.jccL o v.k)) 100 (Ru.pg0 v.x v.y)).out.length := ⟨_, rfl⟩
                      rw [← hZ, ← hln] at GR ⊢
                      clear hZ hln
                      go_wp2_with fail
                      go_meet
                      exact ⟨N, ao, cp, C, rfl, rfl, GR.out C⟩
                  case rest =>
                    obtain ⟨N3, ao, cp3, C3, rfl, rfl, hres, g4⟩ := hcut
                    obtain ⟨w6, hwc⟩ : ∃ x, x = wc := ⟨_, rfl⟩
                    rw [← hwc] at hres g4 ⊢
                    clear hwc
                    have G4 : Hid (w.grownBy w6 none) := grown_trans G1.out g4
                    have AR4 : Hid (O6R w6 b1 v) := AR.out.kept g4
                    have CR4 : Hid (CmpR w6 cb v.k) := CR.out.kept g4
                    obtain ⟨gg3, oo3, hR⟩ := rs_of HEnd.out hres
                    rw [← HSG.out] at hR
                    have R3 : Hid (Rs w6 N3 gg3 oo3 cp3 B.1 SG C3) := hR
                    have X1 : Hid (Rs w6 N1 gg1 oo1 cp1 B.1 SG C1) := R1.out.kept g4
                    clear R1
                    have R1 := X1
                    clear X1
                    have X2 : Hid (Rs w6 N2 gg2 oo2 cp2 B.1 SG C2) := R2.out.kept g4
                    clear R2
                    have R2 := X2
                    clear X2
                    clear AR G1 CR g4 hR hres HEnd HG HL20 HTw
                    have AR := AR4
                    have G1 := G4
                    have CR := CR4
                    clear AR4 G4 CR4
                    have qa := R1.out.q0
                    have qb := R1.out.q1
                    have qc := R1.out.q2
                    have qd := R1.out.q3
                    have qe := R1.out.q4
                    go_wp2_with fail
                    refine (rs_told HSG.out R1.out).mono ?_
                    rintro r w7 ⟨rfl, g7⟩
                    clear qa qb qc qd qe
                    have X2 := R2.out.kept g7
                    clear R2
                    have R2 : Hid (Rs w7 N2 gg2 oo2 cp2 B.1 SG C2) := X2
                    clear X2
                    have X3 := R3.out.kept g7
                    clear R3
                    have R3 : Hid (Rs w7 N3 gg3 oo3 cp3 B.1 SG C3) := X3
                    clear X3
                    have G7 : Hid (w.grownBy w7 none) := grown_trans G1.out g7
                    have qa := R2.out.q0
                    have qb := R2.out.q1
                    have qc := R2.out.q2
                    have qd := R2.out.q3
                    have qe := R2.out.q4
                    go_wp2_with fail
                    refine (rs_told HSG.out R2.out).mono ?_
                    rintro r w8 ⟨rfl, g8⟩
                    clear qa qb qc qd qe
                    have X3 := R3.out.kept g8
                    clear R3
                    have R3 : Hid (Rs w8 N3 gg3 oo3 cp3 B.1 SG C3) := X3
                    clear X3
                    have G8 : Hid (w.grownBy w8 none) := grown_trans G7.out g8
                    have qa := R3.out.q0
                    have qb := R3.out.q1
                    have qc := R3.out.q2
                    have qd := R3.out.q3
                    have qe := R3.out.q4
                    go_wp2_with fail
                    refine (rs_told HSG.out R3.out).mono ?_
                    rintro r w9 ⟨rfl, g9⟩
                    clear qa qb qc qd qe
                    have G9 : Hid (w.grownBy w9 none) := grown_trans G8.out g9
                    go_wp2_with fail
                    go_roundw
                    case rel => exact ⟨k + 1, by go_num, by omega, by omega, G9.out⟩
                    case measure => simp [intOf]; omega
        · have h6' : decide ((k : Int) < 40) = false := decide_eq_false (by omega)
          go_wp2_with (go_at_call 14; refine (HW.out _).mono ?_; rintro r w1 ⟨rfl, g1⟩)
          go_ret
          exact ⟨rfl, below6 (grown_trans HG0.out g1)⟩
      · have hkl' : decide ((k : Int) < len) = false := decide_eq_false (by omega)
        go_wp2_with (go_at_call 14; refine (HW.out _).mono ?_; rintro r w1 ⟨rfl, g1⟩)
        go_ret
        exact ⟨rfl, below6 (grown_trans HG0.out g1)⟩
end Go.Proofs.YtdklaeppcjopoaaGreatDoor

/- What the listed variables give the walks: the table of package math/bits. -/
namespace Go.Proofs.YtdklaeppcjopoaaGreatDoor
open Go.ChangeShapes Go.WideShapes Go.ChangeAt Go.RowKit
set_option linter.unusedVariables false

def laid2 : List (String × DataW Unit) := [("math/bits.deBruijn32tab", Rows.laid_math_bits_deBruijn32tab), ("math/bits.deBruijn64tab", Rows.laid_math_bits_deBruijn64tab)]
theorem g64 : Tryz.prog.globalNamed "math/bits.deBruijn64tab" = some 2 := by kernel_rfl
theorem t64 : (Tryz.prog.globals[2]?).map (·.type) = some 171 := by kernel_rfl
theorem cells64 : Tryz.prog.cellsOf 171 = 64 := by kernel_rfl
theorem cells8 : Tryz.prog.cellsOf 5 = 1 := by kernel_rfl
theorem data64 : (Rows.laid_math_bits_deBruijn64tab : DataW Unit) = Lib.tabData .u8 Cc.tzL := rfl
theorem tab_of_laid {W : World} (h : laidMetH Tryz.prog laid2 W) : TabAt W := by
  rw [MakeChecks.laidMetH_plain _ _ _ (by kernel_rfl)] at h
  have h2 := laidMet.tail h
  rw [data64] at h2
  have hT := Lib.tabIs_of_head g64 t64 Tryz.underlying171 Tryz.underlying5 cells8 cells64 h2
  have hc : ∀ i, i < 64 → W.cell? ⟨2, i, none⟩ = some (.int .u8 (Cc.tzL.getD i 0)) := fun i hi => hT.cell g64 i hi
  exact ⟨World.block_lt_of_cell? W ⟨2, 0, none⟩ (hc 0 (by decide)), hc⟩
/-- the door's own heap meets the condition -/
theorem door_met (os : Os) (args : Array Value) : laidMetH Tryz.prog laid2 ((World.doorLaid Tryz.prog 19 os).forCall (fun _ _ => 0) ⟨#[], args, []⟩).memory :=
  laidMetH_of_parts3 (fuel := 8) (laidMet_of_run' 8 (by kernel_rfl) (by kernel_rfl)) (by kernel_rfl) (by kernel_rfl)
end Go.Proofs.YtdklaeppcjopoaaGreatDoor
