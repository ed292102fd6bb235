/- Instructions in a row of the call's own. -/
import Derived.Test.YtbghjlamedlchaaDoorCeBack
namespace Go.Proofs.YtbghjlamedlchaaDoor
open Go.RowKit
set_option linter.unusedVariables false

/-- an instruction's nine cells -/
def cells9 (v : InV) : List Value := [.int .i64 v.op, .int .i64 v.a, .int .i64 v.b, .int .i64 v.c, .int .i64 v.k, .int .i64 v.sub, .int .i64 v.scale, .int .i64 v.imm, .int .i64 v.label]
/-- a row of the call's own whose instructions are l -/
def OwnI (w : World) (base : Nat) (v : Value) (l : List InV) : Prop := w.ownsRow base 28 9 v l.length (l.flatMap cells9)
theorem info_inst : (Tryd.prog.info? 28).map (fun i => (i.zero, i.size, i.bytes)) = some (some (.agg #[.int .i64 0, .int .i64 0, .int .i64 0, .int .i64 0, .int .i64 0, .int .i64 0, .int .i64 0, .int .i64 0, .int .i64 0]), 9, 72) := by kernel_rfl
theorem OwnI.nil (w : World) (base : Nat) : OwnI w base (.slice none 0 0) [] := World.ownsRow_nil _ _ _ _
theorem OwnI.kept {w w' : World} {base : Nat} {v : Value} {l : List InV} {row : Option Nat} (h : OwnI w base v l) (hg : w.grownBy w' row) (hne : v.ownBlock = none ∨ v.ownBlock ≠ row) : OwnI w' base v l := World.ownsRow.kept h hg hne
theorem OwnI.grow {w w' : World} {base : Nat} {v : Value} {l : List InV} (h : OwnI w base v l) (hg : w.grownBy w' none) : OwnI w' base v l := h.kept hg (Classical.em _)
theorem OwnI.base {w : World} {base : Nat} {v : Value} {l : List InV} (h : OwnI w base v l) : ∀ k, v.ownBlock = some k → base ≤ k := fun k hk => (World.ownsRow.lt h k hk).1
/-- bytes and instructions lie apart: their blocks are of two types -/
theorem own_apart {w : World} {b1 b2 : Nat} {v1 v2 : Value} {l : List Int} {m : List InV} (h1 : OwnL w b1 v1 l) (h2 : OwnI w b2 v2 m) : (v1.ownBlock = none ∨ v1.ownBlock ≠ v2.ownBlock) ∧ (v2.ownBlock = none ∨ v2.ownBlock ≠ v1.ownBlock) := by
  rcases h1.2 with ⟨rfl, _⟩ | ⟨g1, c1, cur1, rfl, _, e1, _⟩
  · refine ⟨.inl rfl, ?_⟩
    cases hv : v2.ownBlock
    · exact .inl rfl
    · exact .inr (by simp [Value.ownBlock])
  · rcases h2.2 with ⟨rfl, _⟩ | ⟨g2, c2, cur2, rfl, _, e2, _⟩
    · exact ⟨.inr (by simp [Value.ownBlock]), .inl rfl⟩
    · have hne : g1 ≠ g2 := by
        intro e
        subst e
        rw [e1] at e2
        simp at e2
      exact ⟨.inr (by simp [Value.ownBlock, hne]), .inr (by simp [Value.ownBlock]; exact fun e => hne e.symm)⟩
theorem flat9_len (l : List InV) : (l.flatMap cells9).length = l.length * 9 := by
  induction l with
  | nil => rfl
  | cons v l ih => rw [List.flatMap_cons, List.length_append, ih, List.length_cons]; simp [cells9]; omega
theorem flat9_at : ∀ (l : List InV) (i k : Nat) (hi : i < l.length), k < 9 → (l.flatMap cells9)[i * 9 + k]? = (cells9 l[i])[k]?
  | [], i, k, hi, _ => by simp at hi
  | v :: l, 0, k, _, hk => by
    rw [List.flatMap_cons, List.getElem?_append_left (by simp [cells9]; omega)]
    simp
  | v :: l, i + 1, k, hi, hk => by
    have h9 : (cells9 v).length = 9 := rfl
    rw [List.flatMap_cons, List.getElem?_append_right (by rw [h9]; omega), h9, show (i + 1) * 9 + k - 9 = i * 9 + k by omega]
    exact flat9_at l i k (by simpa using hi) hk
theorem OwnI.inAt {w : World} {base T n c : Nat} {l : List InV} (h : OwnI w base (.slice (some ⟨T, 0, none⟩) n c) l) (hn : n = l.length) {i : Nat} (hi : i < l.length) : InAt w T (0 + i * 9) l[i] := by
  subst hn
  rw [Nat.zero_add]
  have e : ∀ k, k < 9 → w.cell? ⟨T, i * 9 + k, none⟩ = (cells9 l[i])[k]? := fun k hk => (World.ownsRow.cellAt h (i * 9 + k) (by omega)).trans (flat9_at l i k hi hk)
  exact ⟨e 0 (by decide), e 1 (by decide), e 2 (by decide), e 3 (by decide), e 4 (by decide), e 5 (by decide), e 6 (by decide), e 7 (by decide), e 8 (by decide)⟩
theorem OwnI.slice {w : World} {base : Nat} {v : Value} {l : List InV} (h : OwnI w base v l) : ∃ ao c, v = .slice ao l.length c ∧ l.length ≤ c ∧ (0 < l.length → ∃ T, ao = some ⟨T, 0, none⟩ ∧ T < w.heap.size) := by
  rcases h.2 with ⟨rfl, h0⟩ | ⟨T, c, cur, rfl, _, e, hc, _⟩
  · exact ⟨none, 0, by rw [h0], by omega, fun h => by omega⟩
  · exact ⟨some ⟨T, 0, none⟩, c, rfl, hc, fun _ => ⟨T, rfl, (World.ownsRow.lt h T rfl).2⟩⟩

/-- one instruction more -/
theorem wp_appI {ops : Array Oper} {rest : List Oper} {o : Oper} {a : Act} {Q : Exit → Act → World → Prop} {W : World} (hgd : o.guard = none) (s x : Operand)
    (ho : o.op = .call { callee := .builtin .append, args := #[s, x], argTypes := #[22, 22] }) (base : Nat) (v : Value) (l : List InV) (u : InV) (hs : a.eval s = v) (hown : OwnI W base v l)
    (hx : a.eval x = .slice (some ⟨W.heap.size, 0, none⟩) 1 1) (hl : l.length ≤ 1000) (hb : base ≤ W.heap.size)
    (h : ∀ v' w', OwnI w' base v' (l ++ [u]) → W.grownBy w' v.ownBlock → wpList Tryd.prog ops Q rest (a.put o.dst v') w') : wpList Tryd.prog ops Q (o :: rest) a (W.alloc (Obj.cells #[.int .i64 u.op, .int .i64 u.a, .int .i64 u.b, .int .i64 u.c, .int .i64 u.k, .int .i64 u.sub, .int .i64 u.scale, .int .i64 u.imm, .int .i64 u.label] 28)) := by
  obtain ⟨i, hi, hz0, hz1, hz2⟩ := info_parts info_inst
  have N := InstAt.new W u
  refine wpList_append_own _ hgd s x 22 ho base 28 i _ 9 72 Tryd.underlying22 hi hz0 hz1 hz2 rfl (by decide) v l.length (l.flatMap cells9) hs (World.ownsRow.alloc hown _) ⟨W.heap.size, 0, none⟩ 1 1 (cells9 u) hx rfl
    (by intro j y hj; match j, hj with | 0, hj => exact N.c0.trans hj | 1, hj => exact N.c1.trans hj | 2, hj => exact N.c2.trans hj | 3, hj => exact N.c3.trans hj | 4, hj => exact N.c4.trans hj | 5, hj => exact N.c5.trans hj | 6, hj => exact N.c6.trans hj | 7, hj => exact N.c7.trans hj | 8, hj => exact N.c8.trans hj) (by intro y hy; simp [cells9] at hy; rcases hy with rfl | rfl | rfl | rfl | rfl | rfl | rfl | rfl | rfl <;> rfl) (by unfold maxLen; omega) (by omega) (by simp; omega) ?_
  intro v' w2 ho2 hg2 _
  refine h v' w2 ?_ (grown_trans (grown_noneR _ (World.grownBy_alloc _ _ _)) hg2)
  unfold OwnI
  rw [List.length_append, List.flatMap_append]
  simpa using ho2
/-- bytes of one's own, appended to bytes of one's own -/
theorem wp_appS {ops : Array Oper} {rest : List Oper} {o : Oper} {a : Act} {Q : Exit → Act → World → Prop} {W : World} (hgd : o.guard = none) (s x : Operand)
    (ho : o.op = .call { callee := .builtin .append, args := #[s, x], argTypes := #[23, 23] }) (base : Nat) (v : Value) (l m : List Int) (T c b2 : Nat) (hs : a.eval s = v) (hown : OwnL W base v l)
    (hx : a.eval x = .slice (some ⟨T, 0, none⟩) m.length c) (hsrc : OwnL W b2 (.slice (some ⟨T, 0, none⟩) m.length c) m) (hl : l.length ≤ 100000) (hm : m.length ≤ 1000) (hb : base ≤ W.heap.size)
    (h : ∀ v' w', OwnL w' base v' (l ++ m) → W.grownBy w' v.ownBlock → wpList Tryd.prog ops Q rest (a.put o.dst v') w') : wpList Tryd.prog ops Q (o :: rest) a W := by
  obtain ⟨i, hi, hz0, hz1, hz2⟩ := info_parts info_u8
  refine wpList_append_own _ hgd s x 23 ho base 5 i (.int .u8 0) 1 1 Tryd.underlying23 hi hz0 hz1 hz2 rfl (by decide) v l.length (l.map (Value.int .u8)) hs hown ⟨T, 0, none⟩ m.length c (m.map (Value.int .u8)) hx (by simp)
    (fun j y hj => World.ownsRow.cells hsrc rfl j y hj) (by intro y hy; obtain ⟨z, _, rfl⟩ := List.mem_map.mp hy; rfl) (by unfold maxLen; omega) (by omega) hb ?_
  intro v' w2 ho2 hg2 _
  exact h v' w2 (OwnL.app ho2) hg2
end Go.Proofs.YtbghjlamedlchaaDoor
