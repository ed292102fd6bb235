/- Proved: for every script (a size, a slice of Ops), the law MemExact returns true and leaves its argument as it was. No condition. -/
import Derived.Test.YtnedflpcfpkbnaaRows
import Derived.Test.YtnedflpcfpkbnaaMExact
import Derived.WalkKit
import Derived.ProofKit
import Derived.OpenShut
import Derived.ShutString
import Derived.ChangeOld
import Derived.Below
namespace Go.Proofs.Ytnedflpcfpkbnaa
namespace MemExactFrame
open Go.ChangeShapes Go.WideShapes Go.ChangeAt Go.RowKit
set_option linter.unusedVariables false

theorem own : ownKnob Try.prog.godebug = none := by kernel_rfl
theorem laidOut : laidOutB Try.prog = true := by kernel_rfl

/-- a script that came in, opened -/
theorem open_script {H : Type} {enc : TypeId × Value → H} {W : World} {spare : Nat → Bool} {held : Bool} {fuel : Nat} {cs : List Value} {x : DataW H × List MemPlace}
    (h : DataW.trod enc Try.prog W 0 spare held fuel 24 cs = some x) (hl : cs.length = 2) :
    ∃ s a len cap V, cs = [.int .i64 s, .slice a len cap] ∧ IsOps W a len cap V := by
  have c3 : Try.prog.cellsOf 3 = 1 := by kernel_rfl
  have c22 : Try.prog.cellsOf 22 = 1 := by kernel_rfl
  obtain ⟨xs, kk, hk, hxy, _, hxl, hf⟩ := DataW.trod_struct Try.underlying24 h
  match xs, hxl, cs, hl with
  | [z0, z1], _, [v0, v1], _ =>
    have g0 := hf 0 _ rfl
    have g1 := hf 1 _ rfl
    simp [c3, c22] at g0 g1
    obtain ⟨n0, e0, _, f0⟩ := DataW.trod_int Try.underlying3 g0
    obtain ⟨a, l, c, V, e1, hv⟩ := open_ops g1
    simp at e0 e1
    subst e0 e1
    exact ⟨n0, a, l, c, V, rfl, hv⟩

set_option maxRecDepth 100000 in
theorem lifted (os : Os) (started : os.Started) (H : Type) (enc : TypeId × Value → H) :
    ReturnsInHanded {} Try.checked os 3 .any (Rows.memExactSpec.pre6 enc Try.prog Try.f3 Rows.memExactRow.domain false) (Rows.memExactSpec.post enc Try.prog Try.f3 false true false false) := by
  refine returnsInHanded_of_change (C := Try.checked) own started (by kernel_rfl) Try.func3
    (ChangeSpec.witness6 (enc := enc) (C := Try.checked) false ⟨#[], #[.agg #[.int .i64 0, .slice none 0 0]], []⟩ 8 (by kernel_rfl) (by kernel_rfl) (by kernel_rfl) (by kernel_rfl)) ?_
  intro W base args ds gs before hval0 hW hcnd _
  have hval : ∀ (j : Nat) t v, Try.f3.params[j]? = some t → args[j]? = some v → Value.okWide Try.prog W .any base t v := hval0
  have hW' := hW
  obtain ⟨p, q, hA0, hV, rfl, hfz, hnd⟩ := hW
  have hA : DataW.TrodAll enc Try.prog W 0 (fun _ => true) true Try.f3.params.toList args.toList ds p := hA0
  rw [Try.params3] at hA hval
  obtain ⟨v0, d0, rfl, rfl, h0⟩ := trodAll_one hA
  obtain ⟨rfl, rfl⟩ := trodVars_none hV
  have cS : Try.prog.cellsOf 24 = 2 := by kernel_rfl
  obtain ⟨cs, rfl, hcs⟩ := okWide_struct Try.underlying24 (hval 0 24 v0 rfl rfl)
  rw [cS] at hcs
  have k0 := h0
  have lt0 : ∀ x ∈ p, x.block < W.heap.size := by obtain ⟨m, hm⟩ := k0; exact DataW.trod_lt m _ _ _ hm
  obtain ⟨s, a0, len0, cap0, V, hc, w0⟩ : ∃ s a len cap V, cs.toList = [.int .i64 s, .slice a len cap] ∧ IsOps W a len cap V := by
    obtain ⟨fuel, hf⟩ := h0
    exact open_script (by simpa [Value.cells] using hf) (by simpa using hcs)
  obtain rfl : cs = #[.int .i64 s, .slice a0 len0 cap0] := by
    apply Array.toList_inj.1
    rw [hc]
  clear hA0 hval0
  refine (memExact_walk s a0 len0 cap0 V W w0).mono fun e W' ⟨he, bel⟩ => ?_
  subst he
  exact ⟨_, rfl, _, _, _, [], _, [], hW', trodAll_mk1 (shut_bool Try.underlying4 _), trodAll_mk1 (Below.trod laidOut (by kernel_rfl) (of_decide_eq_true (by kernel_rfl)) k0 bel lt0), rfl, bel.frame _, fun h => by cases h⟩

theorem over : Rows.memExactRow.holds Try.pinned (OpenSpec.ofChange Rows.memExactSpec) :=
  OpenClaim.holds_of_wide 3 Try.f3 rfl rfl rfl rfl rfl rfl rfl ⟨rfl, rfl, rfl, rfl, rfl⟩ rfl rfl rfl rfl rfl (by kernel_rfl) Try.func3 (by kernel_rfl)
    (of_decide_eq_true (by kernel_rfl)) (by unfold Func.isWrapper; first | (rw [if_pos (by decide +kernel)]; kernel_rfl) | (rw [if_neg (by decide +kernel)]; exact ⟨rfl, rfl⟩))
    (fun os started H enc _ => lifted os started H enc)
end MemExactFrame

theorem memExact_proved : Rows.MemExactSaid := MemExactFrame.over
#print axioms memExact_proved
end Go.Proofs.Ytnedflpcfpkbnaa
