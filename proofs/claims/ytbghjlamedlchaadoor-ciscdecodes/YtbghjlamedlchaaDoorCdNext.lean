/- cisc's reader: byte by byte; where the bytes end it panics. -/
import Derived.Test.YtbghjlamedlchaaDoorG3
import Derived.WalkLawsBesides
namespace Go.Proofs.YtbghjlamedlchaaDoor
open Go.RowKit
set_option linter.unusedVariables false

/-- a panic with an error's number -/
abbrev panics (n : Int) : Ending := .panicked [{ v := .iface 24 (.int .i64 n), recovered := false }]

/-- a reader in block B: n bytes g that lie from off on in block b; it is at p -/
structure RdAt (w : World) (B b off n cap : Nat) (g : Nat → Int) (p : Nat) : Prop where
  c0 : w.cell? ⟨B, 0, none⟩ = some (.slice (some ⟨b, off, none⟩) n cap)
  c1 : w.cell? ⟨B, 1, none⟩ = some (.int .i64 p)
  fz : ∀ k, w.frozen? ⟨B, k, none⟩ = false
  bs : ∀ i, i < n → w.cell? ⟨b, off + i, none⟩ = some (.int .u8 (g i))
  ft : Mm.Fit g
  nb : B ≠ b
  mx : n ≤ maxLen
  pn : p ≤ n

theorem RdAt.step {w : World} {B b off n cap p : Nat} {g : Nat → Int} (h : RdAt w B b off n cap g p) (hp : p < n) (d : Nat) : RdAt ((w.drewN d).setCell ⟨B, 1, none⟩ (.int .i64 (p + 1 : Nat))) B b off n cap g (p + 1) :=
  ⟨(World.cell?_setCell_other _ _ _ _ (by simp)).trans h.c0, World.cell?_setCell_same _ _ _ (show (w.drewN d).cell? ⟨B, 1, none⟩ = _ from h.c1), fun k => (World.frozen?_setCell _ _ _ _).trans (h.fz k), fun i hi => (World.cell?_setCell_other _ _ _ _ (fun e => h.nb (congrArg Addr.block e))).trans (h.bs i hi), h.ft, h.nb, h.mx, hp⟩
theorem RdAt.kept {w w' : World} {B b off n cap p : Nat} {g : Nat → Int} {row : Option Nat} (h : RdAt w B b off n cap g p) (hg : w.grownBy w' row) (h1 : some B ≠ row) (h2 : some b ≠ row) : RdAt w' B b off n cap g p :=
  ⟨hg.cell h.c0 h1, hg.cell h.c1 h1, fun k => (hg.frozen_far ⟨B, k, none⟩ (World.block_lt_of_cell? w ⟨B, 0, none⟩ h.c0) h1).trans (h.fz k), fun i hi => hg.cell (h.bs i hi) h2, h.ft, h.nb, h.mx, h.pn⟩

set_option maxHeartbeats 800000 in
theorem next_in {w : World} {B b off n cap p : Nat} {g : Nat → Int} (h : RdAt w B b off n cap g p) (hp : p < n) :
    Calls Tryd.prog 63 #[.pointer (some ⟨B, 0, none⟩)] w fun e w' => e = .returned (.int .i64 (g p)) ∧ RdAt w' B b off n cap g (p + 1) ∧ w.grownBy w' (some B) := by
  have HR : Hid (∀ d, RdAt ((w.drewN d).setCell ⟨B, 1, none⟩ (.int .i64 (p + 1 : Nat))) B b off n cap g (p + 1)) := fun d => h.step hp d
  obtain ⟨c0, c1, fz, bs, ft, nb, mx, pn⟩ := h
  have c2 := bs p hp
  have z1 := fz 1
  have f := ft p
  have hm : (n : Int) ≤ 9223372036854775807 := by unfold maxLen at mx; omega
  have hp' : (p : Int) < n := by omega
  clear bs fz ft mx
  go_enter Tryd.func63, Tryd.ntmps63
  go_wp2_with fail
  go_quiet (fail)
  go_wp2_with fail
  go_quiet (fail)
  go_wp2
  go_ret
  exact ⟨rfl, HR.out _, grown_trans (grown_drewN (World.grownBy.refl _ _) _) (grown_setCell _ _ _ _)⟩

set_option maxHeartbeats 800000 in
theorem next_out {w : World} {B n cap p : Nat} {ao : Option Addr} (c0 : w.cell? ⟨B, 0, none⟩ = some (.slice ao n cap)) (c1 : w.cell? ⟨B, 1, none⟩ = some (.int .i64 p)) (hp : n ≤ p) :
    Calls Tryd.prog 63 #[.pointer (some ⟨B, 0, none⟩)] w fun e w' => e = panics 41 ∧ w.grownBy w' (some B) := by
  have hp' : (n : Int) ≤ p := by omega
  go_enter Tryd.func63, Tryd.ntmps63
  go_wp2_with fail
  go_quiet (fail)
  go_wp2
  exact ⟨rfl, rfl, grown_drewN (World.grownBy.refl _ _) _⟩

set_option maxHeartbeats 800000 in
theorem pair_in {w : World} {B b off n cap p : Nat} {g : Nat → Int} (h : RdAt w B b off n cap g p) (hp : p < n) :
    Calls Tryd.prog 64 #[.pointer (some ⟨B, 0, none⟩)] w fun e w' => e = .returned (.tuple #[.int .i64 (g p / 16), .int .i64 (g p % 16)]) ∧ RdAt w' B b off n cap g (p + 1) ∧ w.grownBy w' (some B) := by
  have f := h.ft p
  go_enter Tryd.func64, Tryd.ntmps64
  go_wp2_with (go_at_call 63; refine (next_in h hp).mono ?_; rintro e w1 ⟨rfl, r1, g1⟩)
  go_ret2
  exact ⟨rfl, r1, g1⟩

set_option maxHeartbeats 800000 in
theorem pair_out {w : World} {B n cap p : Nat} {ao : Option Addr} (c0 : w.cell? ⟨B, 0, none⟩ = some (.slice ao n cap)) (c1 : w.cell? ⟨B, 1, none⟩ = some (.int .i64 p)) (hp : n ≤ p) :
    Calls Tryd.prog 64 #[.pointer (some ⟨B, 0, none⟩)] w fun e w' => e = panics 41 ∧ w.grownBy w' (some B) := by
  go_enter Tryd.func64, Tryd.ntmps64
  go_wp2_with (go_at_call 63; refine (next_out c0 c1 hp).mono ?_; rintro e w1 ⟨rfl, g1⟩)
  exact ⟨rfl, rfl, g1⟩

set_option maxHeartbeats 800000 in
theorem chk_ok (c z : Int) (w : World) (h : ¬ (2 < z ∨ (z = 2 ∧ c ≠ 1))) :
    Calls Tryd.prog 65 #[.int .i64 c, .int .i64 z] w fun e w' => e = .returned (.tuple #[]) ∧ w' = w := by
  have h1 : ¬ 2 < z := fun a => h (.inl a)
  have h2 : (z == 2) = true → (c != 1) = false := fun a => by
    have a : z = 2 := by simpa using a
    by_cases e : c = 1
    · simp [e]
    · exact absurd (.inr ⟨a, e⟩) h
  cases a : (z == 2)
  · go_enter Tryd.func65, Tryd.ntmps65
    go_wp2
    go_end0
    exact ⟨rfl, rfl⟩
  · have h3 := h2 a
    go_enter Tryd.func65, Tryd.ntmps65
    go_wp2
    go_end0
    exact ⟨rfl, rfl⟩
set_option maxHeartbeats 800000 in
theorem chk_no (c z : Int) (w : World) (h : 2 < z ∨ (z = 2 ∧ c ≠ 1)) :
    Calls Tryd.prog 65 #[.int .i64 c, .int .i64 z] w fun e w' => e = panics 40 ∧ w' = w := by
  rcases h with h | ⟨rfl, h⟩
  · go_enter Tryd.func65, Tryd.ntmps65
    go_wp2
    exact ⟨rfl, rfl, rfl⟩
  · have hb : (c != 1) = true := by simpa using h
    go_enter Tryd.func65, Tryd.ntmps65
    go_wp2
    exact ⟨rfl, rfl, rfl⟩

set_option maxHeartbeats 800000 in
theorem cscale_any (s : Int) (w : World) (h1 : 0 ≤ s) (h2 : s < 16) :
    Calls Tryd.prog 66 #[.int .i64 s] w fun e w' => e = .returned (.int .i64 (Cc.sclC s)) ∧ w' = w := by
  obtain h | h | h | h | h | h | h | h | h | h | h | h | h | h | h | h : s = 0 ∨ s = 1 ∨ s = 2 ∨ s = 3 ∨ s = 4 ∨ s = 5 ∨ s = 6 ∨ s = 7 ∨ s = 8 ∨ s = 9 ∨ s = 10 ∨ s = 11 ∨ s = 12 ∨ s = 13 ∨ s = 14 ∨ s = 15 := by omega
  all_goals
    subst h
    go_enter Tryd.func66, Tryd.ntmps66
    go_wp2
    go_ret
    exact ⟨rfl, rfl⟩

end Go.Proofs.YtbghjlamedlchaaDoor
