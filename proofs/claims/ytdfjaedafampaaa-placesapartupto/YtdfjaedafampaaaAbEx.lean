/- PlacesExact: the walk. -/
import Derived.Test.YtdfjaedafampaaaG11
namespace Go.Proofs.Ytdfjaedafampaaa
open Go.RowKit
set_option linter.unusedVariables false

theorem Ab.l_len (T : Nat → Ty.TyV) (n : Nat) (L : Nat → Int) (m : Nat) (R : Nat → Int) (r : Nat) : (Ab.lA T n L m R r).length ≤ 1000 ∧ (Ab.lR T n L m R r).length ≤ 1000 := by
  by_cases h : Ab.err T n L m R r = 0
  · obtain ⟨hc, h1, h2⟩ := Ab.err_zero h
    have a1 := (Ab.go_b (s0 := 0) (Ab.kw_le hc h1)).2.2.2
    have a2 := (Ab.go_b (s0 := (Ab.gA T L m).s) (Ab.kw_le hc h2)).2.2.2
    have b1 := (Ab.ok_iff.1 h1).1
    have b2 := (Ab.ok_iff.1 h2).1
    unfold Ab.lA Ab.lR Ab.gA Ab.gR
    rw [if_pos h, if_pos h]
    exact ⟨by omega, by unfold Ab.gA at a2 ⊢; omega⟩
  · unfold Ab.lA Ab.lR
    rw [if_neg h, if_neg h]
    exact ⟨by simp, by simp⟩
/-- numbers that lie somewhere -/
def numV (n : Nat) (I : Nat → Int) : Value → World → Prop := fun v w => ∃ a c N, v = .slice a n c ∧ NumIn N w a n c I
theorem stab_num (n : Nat) (I : Nat → Int) : StabV (numV n I) := fun _ _ _ ⟨a, c, N, e, h⟩ g => ⟨a, c, N, e, h.grow g⟩
/-- what Places tells, with its error -/
def asgT (base : Nat) (E : Int) (A R : List Ab.Pc) (s : Int) : Value → World → Prop := fun v w => ∃ x va vr, v = .tuple #[x, .int .i64 E] ∧ AsgO w base x A R s va vr
theorem stab_asgT (base : Nat) (E : Int) (A R : List Ab.Pc) (s : Int) : StabV (asgT base E A R s) := fun _ _ _ ⟨x, a, r, e, h⟩ g => ⟨x, a, r, e, h.grow g⟩
def asgX (base : Nat) (A R : List Ab.Pc) (s : Int) : Value → World → Prop := fun v w => ∃ va vr, AsgO w base v A R s va vr
theorem stab_asgX (base : Nat) (A R : List Ab.Pc) (s : Int) : StabV (asgX base A R s) := fun _ _ _ ⟨a, r, h⟩ g => ⟨a, r, h.grow g⟩
/-- a new Assign -/
def newA (base : Nat) : Value → World → Prop := fun v w => ∃ B, v = .pointer (some ⟨B, 0, none⟩) ∧ Bk w B 31 [.slice none 0 0, .slice none 0 0, .int .i64 0] ∧ base ≤ B
theorem stab_newA (base : Nat) : StabV (newA base) := fun _ _ _ ⟨B, e, h, hb⟩ g => ⟨B, e, h.grow g, hb⟩
/-- behind 'a, e := abi.Places(..)' -/
def CutA (base : Nat) (E : Int) (A R : List Ab.Pc) (s : Int) (W1 : World) (p e : Value) (wx : World) : Prop :=
  ∃ B va vr, p = .pointer (some ⟨B, 0, none⟩) ∧ e = .int .i64 E ∧ Bk wx B 31 [va, vr, .int .i64 s] ∧ AsgO wx base (.agg #[va, vr, .int .i64 s]) A R s va vr ∧ W1.grownBy wx none ∧ base ≤ B
theorem cutA {base B : Nat} {E : Int} {A R : List Ab.Pc} {s : Int} {W1 W0 : World} {va vr : Value} (hb : W1.heap.size ≤ base) (k : Bk W0 B 31 [.slice none 0 0, .slice none 0 0, .int .i64 0]) (h : AsgO W0 base (.agg #[va, vr, .int .i64 s]) A R s va vr) (g : W1.grownBy W0 none) (hB : base ≤ B) :
    CutA base E A R s W1 (.pointer (some ⟨B, 0, none⟩)) (.int .i64 E) (put3 W0 B va vr (.int .i64 s)) :=
  ⟨B, va, vr, rfl, rfl, k.put3 _ _ _, h.ch k (ch_put3 _ _ _ _ _), ((Ch.of (l := [B]) g).trans (ch_put3 _ _ _ _ _)).nil (fun q hq => by simp at hq; omega), hB⟩
end Go.Proofs.Ytdfjaedafampaaa
