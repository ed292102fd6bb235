/- gantrylaw4.wakes; bytes of one's own compared. -/
import Derived.Test.YtbghjlamedlchaaDoorCdEnc
namespace Go.Proofs.YtbghjlamedlchaaDoor
open Go.RowKit
set_option linter.unusedVariables false

theorem eq_ownL {w : World} {b1 b2 : Nat} {v1 v2 : Value} {l : List Int} (hn : (l.length : Int) ≤ 140737488351232) (h1 : OwnL w b1 v1 l) (h2 : OwnL w b2 v2 l) :
    Calls Tryd.prog 10 #[v1, v2] w fun e w' => e = .returned (.bool true) ∧ ∃ d, w' = w.drewN d := by
  obtain ⟨a1, c1, rfl, _, _, _, s1⟩ := h1.toB.shape
  obtain ⟨a2, c2, rfl, _, _, _, s2⟩ := h2.toB.shape
  exact eqB l.length c1 c2 a1 a2 _ _ w hn s1 s2 (fun _ _ => rfl)

theorem cwake_may : Cc.mayB ⟨1, 3, 0, 0, 0, 0, 0, 128, 0⟩ = true := by decide
theorem cwake_enc : Cc.enc ⟨1, 3, 0, 0, 0, 0, 0, 128, 0⟩ = [1, 49, 128, 0, 0, 0] := by decide

set_option maxHeartbeats 8000000 in
theorem cwakes_any (w : World) (hT : TabAt w) : Calls Tryd.prog 13 #[] w fun e w' => e = .returned (.bool true) ∧ w.grownBy w' none := by
  have HE : Hid (Calls Tryd.prog 7 #[.agg #[.int .i64 1, .int .i64 3, .int .i64 0, .int .i64 0, .int .i64 0, .int .i64 0, .int .i64 0, .int .i64 128, .int .i64 0]] w fun e w' => ∃ x, e = .returned (.tuple #[x, .int .i64 0]) ∧ OwnL w' w.heap.size x [1, 49, 128, 0, 0, 0] ∧ w.grownBy w' none) := by
    have := cencode_ok ⟨1, 3, 0, 0, 0, 0, 0, 128, 0⟩ w hT ⟨by dsimp only; decide, by dsimp only; decide, by dsimp only; decide, by dsimp only; decide⟩ cwake_may
    rw [cwake_enc] at this
    exact this
  go_enter Tryd.func13, Tryd.ntmps13
  go_wp2_with (first
    | (go_at_call 7; refine Calls.mono HE.out ?_; rintro e w1 ⟨x, rfl, ho1, hg1⟩)
    | (go_at_call 9; refine (cnum_any _ _).mono ?_; rintro e w2 ⟨rfl, rfl⟩)
    | (go_at_call 10; refine (eq_ownL (by decide) (ho1.grow (World.grownBy_alloc _ _ none)) (OwnL.lit w2 0 [1, 49, 128, 0, 0, 0] (Nat.zero_le _) (by show 6 ≤ maxLen; unfold maxLen; omega))).mono ?_; rintro e w3 ⟨rfl, d, rfl⟩))
  go_ret
  exact ⟨rfl, gn (ga hg1 _) _⟩

end Go.Proofs.YtbghjlamedlchaaDoor
