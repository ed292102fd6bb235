/- gantryref8.Bytes. -/
import Derived.Test.YtljdjkiejppenaaBtSt
namespace Go.Proofs.Ytljdjkiejppenaa
open Go.RowKit
set_option linter.unusedVariables false

theorem Pg.Tp.parts (x : Pg.Tp) (h : x.dl.may = true) : Pg.okB x.kind = true ∧ Pg.okB x.elem = true ∧ Pg.okB x.n = true ∧ (Pg.dNumL x.fields).may = true ∧ x.dl.en = (Pg.dCnt x.kind).en ++ (Pg.dCnt x.elem).en ++ (Pg.dCnt x.n).en ++ (Pg.dNumL x.fields).en := by
  rw [Pg.Tp.dl] at h ⊢
  simp only [Pg.Dl.app, Bool.and_eq_true] at h ⊢
  obtain ⟨h1, h2, h3, h4⟩ := h
  refine ⟨by rw [← dCnt_may]; exact h1, by rw [← dCnt_may]; exact h2, by rw [← dCnt_may]; exact h3, h4, ?_⟩
  simp only [List.append_assoc]
theorem Pg.Fn.parts (x : Pg.Fn) (h : x.dl.may = true) : Pg.okB x.params = true ∧ (Pg.dNumL x.locals).may = true ∧ (Pg.dNumL x.results).may = true ∧ (Pg.dStL x.body).may = true ∧ x.dl.en = (Pg.dCnt x.params).en ++ (Pg.dNumL x.locals).en ++ (Pg.dNumL x.results).en ++ (Pg.dStL x.body).en := by
  rw [Pg.Fn.dl] at h ⊢
  simp only [Pg.Dl.app, Bool.and_eq_true] at h ⊢
  obtain ⟨h1, h2, h3, h4⟩ := h
  refine ⟨by rw [← dCnt_may]; exact h1, h2, h3, h4, ?_⟩
  simp only [List.append_assoc]
theorem Rb.down {base : Nat} {T : List Int} {w W1 wr : World} (h : Rb base T W1 wr) (hb : base = w.heap.size) (g : w.grownBy W1 none) : w.grownBy wr none :=
  ⟨h.os.trans g.os, h.tape.trans g.tape, h.output.trans g.output, Nat.le_trans g.size h.size, fun k hk _ => by
    have h1 := g.block k hk (by simp)
    obtain ⟨o, ho⟩ : ∃ o, w.heap[k]? = some o := ⟨_, Array.getElem?_eq_getElem hk⟩
    rw [ho] at h1 ⊢
    exact h.block k o h1 (.inl (by omega))⟩
end Go.Proofs.Ytljdjkiejppenaa
