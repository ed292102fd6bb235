/- Contracts and plain facts that the walks share. -/
import Derived.Test.YtbpdggdpgohilaaG20
import Derived.Laws.CopyOwn
import Derived.Laws.AppendOwnNone
namespace Go.Proofs.Ytbpdggdpgohilaa
open Go.RowKit
set_option linter.unusedVariables false
def bytesL (n : Nat) (g : Nat → Int) : List Value := (List.range n).map fun i => .int .u8 (g i)
theorem bytesL_len (n : Nat) (g : Nat → Int) : (bytesL n g).length = n := by simp [bytesL]
theorem bytesL_get {n : Nat} {g : Nat → Int} {j : Nat} {v : Value} (h : (bytesL n g)[j]? = some v) : j < n ∧ v = .int .u8 (g j) := by
  have hj : j < n := by
    rw [← bytesL_len n g]
    exact (List.getElem?_eq_some_iff.1 h).1
  refine ⟨hj, ?_⟩
  simp [bytesL, hj] at h
  exact h.symm
theorem bytesL_at {n : Nat} (g : Nat → Int) {j : Nat} (h : j < n) : (bytesL n g)[j]? = some (.int .u8 (g j)) := by simp [bytesL, h]
theorem bytesL_one (n : Nat) (g : Nat → Int) : ∀ v ∈ bytesL n g, v.oneCell' = true := by
  intro v hv
  obtain ⟨i, _, rfl⟩ := List.mem_map.1 hv
  rfl
theorem add_none (b off n : Nat) : (⟨b, off, none⟩ : Addr).add n = ⟨b, off + n, none⟩ := by
  unfold Addr.add; split <;> simp_all

/-- bytes that the call itself made -/
def OwnB (w : World) (base : Nat) (v : Value) (n : Nat) (g : Nat → Int) : Prop := w.ownsRow base 5 1 v n (bytesL n g)

theorem OwnB.kept {w w' : World} {base n : Nat} {v : Value} {g : Nat → Int} {row : Option Nat} (h : OwnB w base v n g) (hg : w.grownBy w' row) (hne : v.ownBlock = none ∨ v.ownBlock ≠ row) : OwnB w' base v n g := World.ownsRow.kept h hg hne
theorem OwnB.lt {w : World} {base n : Nat} {v : Value} {g : Nat → Int} (h : OwnB w base v n g) : ∀ k, v.ownBlock = some k → base ≤ k ∧ k < w.heap.size := World.ownsRow.lt h
theorem OwnB.shape {w : World} {base n : Nat} {v : Value} {g : Nat → Int} (h : OwnB w base v n g) : ∃ ao cap, v = .slice ao n cap ∧ (ao = none → n = 0 ∧ cap = 0) ∧ n ≤ cap ∧ cap ≤ maxLen ∧ Bs w ao n g := by
  obtain ⟨hl, h⟩ := h
  rcases h with ⟨rfl, rfl⟩ | ⟨b, cap, cur, rfl, hb, hh, hn, hc, hs, ht⟩
  · exact ⟨none, 0, rfl, fun _ => ⟨rfl, rfl⟩, Nat.le_refl _, by unfold maxLen; omega, .inl rfl⟩
  · refine ⟨some ⟨b, 0, none⟩, cap, rfl, (fun h => by cases h), hn, hc, .inr ⟨b, 0, rfl, fun i hi => ?_⟩⟩
    have h1 : (bytesL n g)[i]? = some (.int .u8 (g i)) := bytesL_at g hi
    rw [← ht, List.getElem?_take, if_pos (by omega)] at h1
    simp only [World.cell?, hh]
    simpa using h1

theorem info1 : (Try.prog.info? 5).map (·.size) = some 1 := by kernel_rfl

/-- copy of bytes into a row of the call's own -/
theorem run_copy_bytes {w : World} (D S off n dc b o' cap : Nat) (m g : Nat → Int) (hr : w.rowIs D 5 S (fun i => .int .u8 (m i))) (hfit : off + n ≤ S)
    (hc : ∀ i, i < n → w.cell? ⟨b, o' + i, none⟩ = some (.int .u8 (g i))) :
    ∃ w', (Builtin.copy_ #[29, 29] 3 #[.slice (some ⟨D, off, none⟩) n dc, .slice (some ⟨b, o', none⟩) n cap]).run Try.prog w = .ok (goInt n) w' ∧
      w'.rowIs D 5 S (fun i => .int .u8 (Mm.pt m off n g i)) ∧ w.grownBy w' (some D) := by
  obtain ⟨cur, hcur, hsz, hcc⟩ := hr
  have hrun := run_copy_row (P := Try.prog) w 29 29 3 5 D off n dc ⟨b, o', none⟩ n cap cur 5 (bytesL n g) Try.underlying29 info1 hcur (by rw [bytesL_len]; simp) (by
    intro j v hv
    obtain ⟨hj, rfl⟩ := bytesL_get hv
    rw [add_none]
    exact hc j hj) (by rw [bytesL_len]; omega) (bytesL_one n g)
  rw [bytesL_len] at hrun
  · refine ⟨_, hrun, ⟨_, setRow_heap w D _ _ _ _ hcur, ?_, ?_⟩, ⟨rfl, rfl, rfl, by simp [World.setRow], fun k hk hk2 => setRow_other w D k _ (fun e => hk2 (by rw [e]))⟩⟩
    · simp [bytesL_len]; omega
    · intro i hi
      have hci := hcc i hi
      simp only [List.getElem?_toArray, List.append_assoc]
      by_cases h1 : i < off
      · rw [List.getElem?_append_left (by simp; omega), List.getElem?_take, if_pos h1, Mm.pt_out (by omega)]
        simpa using hci
      · rw [List.getElem?_append_right (by simp; omega)]
        have hlen : (cur.toList.take off).length = off := by simp; omega
        rw [hlen]
        by_cases h2 : i < off + n
        · rw [List.getElem?_append_left (by rw [bytesL_len]; omega), bytesL_at g (by omega)]
          unfold Mm.pt; rw [if_pos (by omega)]
        · rw [List.getElem?_append_right (by rw [bytesL_len]; omega), bytesL_len, List.getElem?_drop, Mm.pt_out (by omega), show off + n + (i - off - n) = i by omega]
          simpa using hci

theorem bytesL_zero (g : Nat → Int) : bytesL 0 g = [] := rfl
theorem bytesL_set (n : Nat) (g : Nat → Int) (k : Nat) (y : Int) : (bytesL n g).set k (.int .u8 y) = bytesL n (fun j => if j = k then y else g j) := by
  refine List.ext_getElem? fun i => ?_
  by_cases hi : i < n
  · rw [bytesL_at _ hi, List.getElem?_set]
    by_cases e : k = i
    · subst e; simp [bytesL_len, hi]
    · rw [if_neg e, bytesL_at _ hi, if_neg (fun h => e (Eq.symm h))]
  · rw [List.getElem?_eq_none (by rw [List.length_set, bytesL_len]; omega), List.getElem?_eq_none (by rw [bytesL_len]; omega)]

theorem bytesL_cells {w : World} {n b o' : Nat} {g : Nat → Int} (hc : ∀ i, i < n → w.cell? ⟨b, o' + i, none⟩ = some (.int .u8 (g i))) : ∀ j u, (bytesL n g)[j]? = some u → w.cell? ((⟨b, o', none⟩ : Addr).add j) = some u := by
  intro j u hu
  obtain ⟨hj, rfl⟩ := bytesL_get hu
  rw [add_none]
  exact hc j hj

theorem run_copy_out0 {w : World} :
    ∃ w1, (Instr.makeSlice 29 (.int .i64 0) (.int .i64 0)).run Try.prog w = .ok (.slice (some ⟨w.heap.size, 0, none⟩) 0 0) w1 ∧
      (Builtin.append_ #[29, 29] 29 #[.slice (some ⟨w.heap.size, 0, none⟩) 0 0, .slice none 0 0]).run Try.prog w1 = .ok (.slice (some ⟨w.heap.size, 0, none⟩) 0 0) w1 ∧
      (∀ g, OwnB w1 w.heap.size (.slice (some ⟨w.heap.size, 0, none⟩) 0 0) 0 g) ∧ w.grownBy w1 none := by
  obtain ⟨i, hi, hz0, hz1, hz2⟩ := info_parts info_u8
  obtain ⟨w1, h1, ho1, hg1⟩ := run_make_own (P := Try.prog) w w.heap.size 29 5 i (.int .u8 0) 1 Try.underlying29 hi hz0 hz1 .i64 .i64 0 (by omega) (by unfold maxLen; omega) (Nat.le_refl _)
  exact ⟨w1, h1, run_append_owned_none (P := Try.prog) w1 w.heap.size 29 29 5 i 1 Try.underlying29 hi _ 0 [] ho1, fun g => ho1, hg1⟩

theorem Bs.at {w : World} {ao : Option Addr} {n : Nat} {g : Nat → Int} (h : Bs w ao n g) (hn : 0 < n) : ∃ b off, ao = some ⟨b, off, none⟩ ∧ ∀ i, i < n → w.cell? ⟨b, off + i, none⟩ = some (.int .u8 (g i)) := by
  rcases h with h | h
  · omega
  · exact h

/-- are two rows of bytes the same? -/
def eqF (n : Nat) (g g' : Nat → Int) : Bool := decide (∀ i, i < n → g i = g' i)
theorem eqF_true {n : Nat} {g g' : Nat → Int} (h : ∀ i, i < n → g i = g' i) : eqF n g g' = true := decide_eq_true h
theorem eqF_false {n : Nat} {g g' : Nat → Int} {i : Nat} (hi : i < n) (h : g i ≠ g' i) : eqF n g g' = false := decide_eq_false fun a => h (a i hi)

theorem OwnB.store {w : World} {base n b cap : Nat} {g : Nat → Int} (h : OwnB w base (.slice (some ⟨b, 0, none⟩) n cap) n g) (k : Nat) (y : Int) :
    OwnB (w.setCell ⟨b, k, none⟩ (.int .u8 y)) base (.slice (some ⟨b, 0, none⟩) n cap) n (fun j => if j = k then y else g j) := by
  have := World.ownsRow.stored h k (.int .u8 y)
  rw [bytesL_set] at this
  exact this.1

theorem OwnB.cellAt {w : World} {base n b cap : Nat} {g : Nat → Int} (h : OwnB w base (.slice (some ⟨b, 0, none⟩) n cap) n g) {k : Nat} (hk : k < n) : w.cell? ⟨b, k, none⟩ = some (.int .u8 (g k)) :=
  (World.ownsRow.cellAt h k (by omega)).trans (bytesL_at g hk)

end Go.Proofs.Ytbpdggdpgohilaa
