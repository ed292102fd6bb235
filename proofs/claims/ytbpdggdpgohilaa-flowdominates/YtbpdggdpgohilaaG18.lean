/- (*Mem).Get; gantryref0.EqBytes, CopyBytes; gantrylaw0.Bytes: contracts. -/
import Derived.Test.YtbpdggdpgohilaaG17
namespace Go.Proofs.Ytbpdggdpgohilaa
open Go.RowKit
set_option linter.unusedVariables false

theorem bytesL_zero (g : Nat → Int) : bytesL 0 g = [] := rfl
theorem bytesL_set (n : Nat) (g : Nat → Int) (k : Nat) (y : Int) : (bytesL n g).set k (.int .u8 y) = bytesL n (fun j => if j = k then y else g j) := by
  refine List.ext_getElem? fun i => ?_
  by_cases hi : i < n
  · rw [bytesL_at _ hi, List.getElem?_set]
    by_cases e : k = i
    · subst e; simp [bytesL_len, hi]
    · rw [if_neg e, bytesL_at _ hi, if_neg (fun h => e (Eq.symm h))]
  · rw [List.getElem?_eq_none (by rw [List.length_set, bytesL_len]; omega), List.getElem?_eq_none (by rw [bytesL_len]; omega)]

theorem bytesL_cells {w : World} {n b o' : Nat} {g : Nat → Int} (hc : ∀ i, i < n → w.cell? ⟨b, o' + i, none⟩ = some (.int .u8 (g i))) : ∀ j u, (bytesL n g)[j]? = some u → w.cell? ((⟨b, o', none⟩ : Addr).add j) = some u := by
  intro j u hu
  obtain ⟨hj, rfl⟩ := bytesL_get hu
  rw [add_none]
  exact hc j hj

theorem run_copy_out0 {w : World} :
    ∃ w1, (Instr.makeSlice 29 (.int .i64 0) (.int .i64 0)).run Try.prog w = .ok (.slice (some ⟨w.heap.size, 0, none⟩) 0 0) w1 ∧
      (Builtin.append_ #[29, 29] 29 #[.slice (some ⟨w.heap.size, 0, none⟩) 0 0, .slice none 0 0]).run Try.prog w1 = .ok (.slice (some ⟨w.heap.size, 0, none⟩) 0 0) w1 ∧
      (∀ g, OwnB w1 w.heap.size (.slice (some ⟨w.heap.size, 0, none⟩) 0 0) 0 g) ∧ w.grownBy w1 none := by
  obtain ⟨i, hi, hz0, hz1, hz2⟩ := info_parts info_u8
  obtain ⟨w1, h1, ho1, hg1⟩ := run_make_own (P := Try.prog) w w.heap.size 29 5 i (.int .u8 0) 1 Try.underlying29 hi hz0 hz1 .i64 .i64 0 (by omega) (by unfold maxLen; omega) (Nat.le_refl _)
  exact ⟨w1, h1, run_append_owned_none (P := Try.prog) w1 w.heap.size 29 29 5 i 1 Try.underlying29 hi _ 0 [] ho1, fun g => ho1, hg1⟩

theorem Bs.at {w : World} {ao : Option Addr} {n : Nat} {g : Nat → Int} (h : Bs w ao n g) (hn : 0 < n) : ∃ b off, ao = some ⟨b, off, none⟩ ∧ ∀ i, i < n → w.cell? ⟨b, off + i, none⟩ = some (.int .u8 (g i)) := by
  rcases h with h | h
  · omega
  · exact h

/-- are two rows of bytes the same? -/
def eqF (n : Nat) (g g' : Nat → Int) : Bool := decide (∀ i, i < n → g i = g' i)
theorem eqF_true {n : Nat} {g g' : Nat → Int} (h : ∀ i, i < n → g i = g' i) : eqF n g g' = true := decide_eq_true h
theorem eqF_false {n : Nat} {g g' : Nat → Int} {i : Nat} (hi : i < n) (h : g i ≠ g' i) : eqF n g g' = false := decide_eq_false fun a => h (a i hi)

theorem OwnB.store {w : World} {base n b cap : Nat} {g : Nat → Int} (h : OwnB w base (.slice (some ⟨b, 0, none⟩) n cap) n g) (k : Nat) (y : Int) :
    OwnB (w.setCell ⟨b, k, none⟩ (.int .u8 y)) base (.slice (some ⟨b, 0, none⟩) n cap) n (fun j => if j = k then y else g j) := by
  have := World.ownsRow.stored h k (.int .u8 y)
  rw [bytesL_set] at this
  exact this.1

theorem OwnB.cellAt {w : World} {base n b cap : Nat} {g : Nat → Int} (h : OwnB w base (.slice (some ⟨b, 0, none⟩) n cap) n g) {k : Nat} (hk : k < n) : w.cell? ⟨b, k, none⟩ = some (.int .u8 (g k)) :=
  (World.ownsRow.cellAt h k (by omega)).trans (bytesL_at g hk)

end Go.Proofs.Ytbpdggdpgohilaa
