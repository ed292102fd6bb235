/- What wakes RawEncodes and RawBack. -/
import Derived.Test.YtljdjkiejppenaaG10
import Derived.Test.YtljdjkiejppenaaBtPg
import Derived.Test.YtljdjkiejppenaaPgEq
namespace Go.Proofs.Ytljdjkiejppenaa
open Go.RowKit
set_option linter.unusedVariables false

theorem num8 (e : Int) (w : World) : Calls Try.prog 10 #[.int .i64 e] w fun r w' => r = .returned (.int .i64 e) ∧ w' = w := by
  go_enter Try.func10, Try.ntmps10
  go_wp2
  go_ret
  exact ⟨rfl, rfl⟩
/-- bytes of one's own are told to be equal -/
theorem eqL {w : World} {b1 b2 : Nat} {v1 v2 : Value} {l : List Int} (h1 : OwnL w b1 v1 l) (h2 : OwnL w b2 v2 l) (hn : l.length ≤ 1000000000) : Calls Try.prog 11 #[v1, v2] w fun e w' => e = .returned (.bool true) ∧ w.grownBy w' none := by
  obtain ⟨a1, c1, rfl, _, _, _, q1⟩ := h1.toB.shape
  obtain ⟨a2, c2, rfl, _, _, _, q2⟩ := h2.toB.shape
  exact (eqB l.length c1 c2 a1 a2 _ _ w (by omega) q1 q2 (fun _ _ => rfl)).mono fun e w' ⟨he, d, hd⟩ => ⟨he, by rw [hd]; exact grown_drewN (World.grownBy.refl _ _) d⟩
theorem rowL_nil {α : Type} {c by' : Nat} {B : Nat → Prop} {Q : Nat → Nat → α → Prop} : RowL c by' B Q none 0 ([] : List α) := ⟨fun _ => ⟨rfl, rfl⟩, Nat.le_refl _, Nat.zero_le _, by simp, .inl rfl⟩
theorem en_empty : (⟨[], []⟩ : Pg.Pr).dl.en = [0, 0] ∧ (⟨[], []⟩ : Pg.Pr).err = 0 ∧ Rm ⟨false, 0, 0, 0⟩ [] (⟨[], []⟩ : Pg.Pr).dl := by
  have h1 : Pg.okB 0 = true := by decide
  have h2 : Pg.dCnt 0 = ⟨true, 0, 0, [0]⟩ := by
    have : Pg.grp 0 = [0] := Pg.grp_small (by decide)
    simp [Pg.dCnt, h1, this]
  have h3 : (⟨[], []⟩ : Pg.Pr).dl = ⟨true, 0, 0, [0, 0]⟩ := by
    simp only [Pg.Pr.dl, Pg.dTs, Pg.dFs, List.length_nil, Pg.Dl.app_nil]
    rw [show ((0 : Nat) : Int) = 0 from rfl, h2]
    rfl
  refine ⟨by rw [h3], ?_, ?_⟩
  · unfold Pg.Pr.err; rw [h3]; decide
  · rw [h3]; exact ⟨by decide, by decide, by decide⟩
theorem eq_two {w1 w2 : World} {base : Nat} {ao : Option Addr} {cp : Nat} {o : Obj} (h : OwnL w1 base (.slice ao 2 cp) [0, 0]) (g : w1.grownBy w2 none) :
    Calls Try.prog 11 #[.slice ao 2 cp, .slice (some ⟨w2.heap.size + 1, 0, none⟩) 2 2] ((w2.alloc o).alloc (.cells #[.int .u8 0, .int .u8 0] 5)) fun e w' => e = .returned (.bool true) ∧ ((w2.alloc o).alloc (.cells #[.int .u8 0, .int .u8 0] 5)).grownBy w' none := by
  have h1 : OwnL ((w2.alloc o).alloc (.cells #[.int .u8 0, .int .u8 0] 5)) base (.slice ao 2 cp) [0, 0] := h.kept (grown_trans g (ga (World.grownBy_alloc _ _ _) _)) (Classical.em _)
  have h2 := OwnL.lit (w2.alloc o) 0 [0, 0] (Nat.zero_le _) (by decide)
  rw [show (w2.alloc o).heap.size = w2.heap.size + 1 from by simp] at h2
  exact eqL h1 h2 (by decide)
set_option maxRecDepth 100000 in
set_option maxHeartbeats 4000000 in
theorem wakes8 (w : World) : Calls Try.prog 15 #[] w fun e w' => e = .returned (.bool true) ∧ w.grownBy w' none := by
  obtain ⟨e1, e2, e3⟩ := en_empty
  have HC : Hid (Calls Try.prog 8 #[.agg #[.slice none 0 0, .slice none 0 0]] w fun e w' => ∃ v, e = .returned (.tuple #[v, .int .i64 0]) ∧ OwnL w' w.heap.size v [0, 0] ∧ w.grownBy w' none) := by
    have := encode_ok (w := w) (p := ⟨[], []⟩) (a1 := none) (a2 := none) (k1 := 0) (k2 := 0) ⟨rowL_nil, rowL_nil⟩ e3 e2
    rw [e1] at this
    exact this
  clear e1 e2 e3
  go_enter Try.func15, Try.ntmps15
  go_wp2_with (first
    | (go_at_call 8; refine HC.out.mono ?_; rintro e w1 ⟨v, rfl, ho, hg⟩; obtain ⟨ao, cp, rfl, _⟩ := ho.toB.shape; have O1 : Hid (OwnL w1 w.heap.size (.slice ao 2 cp) [0, 0]) := ho; have G1 : Hid (w.grownBy w1 none) := hg; have HD : Hid (Calls Try.prog 17 #[.slice (some ⟨w1.heap.size, 0, none⟩) 3 3] (w1.alloc (.cells #[.int .u8 0, .int .u8 0, .int .u8 0] 5)) fun e w' => e = .returned (.tuple #[.agg #[.slice none 0 0, .slice none 0 0], .int .i64 84]) ∧ (w1.alloc (.cells #[.int .u8 0, .int .u8 0, .int .u8 0] 5)).grownBy w' none) := (decode_wake ⟨by decide, by decide, (fun h => by cases h), (fun g off s e => by injection e with e; injection e with e1 e2 e3; subst e1; subst e2; subst e3; exact ⟨rfl, by simp, fun j z hj => by rw [Nat.zero_add, World.cell?_alloc_new]; match j, hj with | 0, hj => simp at hj; subst hj; rfl | 1, hj => simp at hj; subst hj; rfl | 2, hj => simp at hj; subst hj; rfl⟩)⟩); clear ho hg HC)
    | (go_at_call 17; refine HD.out.mono ?_; rintro e w2 ⟨rfl, hg⟩; have G2 : Hid (w1.grownBy w2 none) := grown_trans (World.grownBy_alloc _ _ _) hg; clear hg HD)
    | (go_at_call 10; refine (num8 _ _).mono ?_; rintro e w3 ⟨rfl, hw⟩; rw [hw]; clear hw w3)
    | (go_at_call 11; refine (eq_two O1.out G2.out).mono ?_; rintro e w4 ⟨rfl, hg⟩; have G4 : Hid (w2.grownBy w4 none) := grown_trans (ga (World.grownBy_alloc _ _ _) _) hg; clear hg))
  go_ret
  exact ⟨rfl, grown_trans G1.out (grown_trans G2.out G4.out)⟩
end Go.Proofs.Ytljdjkiejppenaa
