/- (*Mem).Get, Put: contracts. -/
import Derived.Test.YtkpmhgkljedapaaMStore
import Derived.Laws.CopyOwn
import Derived.Laws.AppendOwnNone
namespace Go.Proofs.Ytkpmhgkljedapaa
open Go.RowKit
set_option linter.unusedVariables false

def bytesL (n : Nat) (g : Nat → Int) : List Value := (List.range n).map fun i => .int .u8 (g i)
theorem bytesL_len (n : Nat) (g : Nat → Int) : (bytesL n g).length = n := by simp [bytesL]
theorem bytesL_get {n : Nat} {g : Nat → Int} {j : Nat} {v : Value} (h : (bytesL n g)[j]? = some v) : j < n ∧ v = .int .u8 (g j) := by
  have hj : j < n := by
    rw [← bytesL_len n g]
    exact (List.getElem?_eq_some_iff.1 h).1
  refine ⟨hj, ?_⟩
  simp [bytesL, hj] at h
  exact h.symm
theorem bytesL_at {n : Nat} (g : Nat → Int) {j : Nat} (h : j < n) : (bytesL n g)[j]? = some (.int .u8 (g j)) := by simp [bytesL, h]
theorem bytesL_one (n : Nat) (g : Nat → Int) : ∀ v ∈ bytesL n g, v.oneCell' = true := by
  intro v hv
  obtain ⟨i, _, rfl⟩ := List.mem_map.1 hv
  rfl
theorem add_none (b off n : Nat) : (⟨b, off, none⟩ : Addr).add n = ⟨b, off + n, none⟩ := by
  unfold Addr.add; split <;> simp_all

/-- bytes that the call itself made -/
def OwnB (w : World) (base : Nat) (v : Value) (n : Nat) (g : Nat → Int) : Prop := w.ownsRow base 5 1 v n (bytesL n g)

theorem OwnB.kept {w w' : World} {base n : Nat} {v : Value} {g : Nat → Int} {row : Option Nat} (h : OwnB w base v n g) (hg : w.grownBy w' row) (hne : v.ownBlock = none ∨ v.ownBlock ≠ row) : OwnB w' base v n g := World.ownsRow.kept h hg hne
theorem OwnB.lt {w : World} {base n : Nat} {v : Value} {g : Nat → Int} (h : OwnB w base v n g) : ∀ k, v.ownBlock = some k → base ≤ k ∧ k < w.heap.size := World.ownsRow.lt h
theorem OwnB.shape {w : World} {base n : Nat} {v : Value} {g : Nat → Int} (h : OwnB w base v n g) : ∃ ao cap, v = .slice ao n cap ∧ (ao = none → n = 0 ∧ cap = 0) ∧ n ≤ cap ∧ cap ≤ maxLen ∧ Bs w ao n g := by
  obtain ⟨hl, h⟩ := h
  rcases h with ⟨rfl, rfl⟩ | ⟨b, cap, cur, rfl, hb, hh, hn, hc, hs, ht⟩
  · exact ⟨none, 0, rfl, fun _ => ⟨rfl, rfl⟩, Nat.le_refl _, by unfold maxLen; omega, .inl rfl⟩
  · refine ⟨some ⟨b, 0, none⟩, cap, rfl, (fun h => by cases h), hn, hc, .inr ⟨b, 0, rfl, fun i hi => ?_⟩⟩
    have h1 : (bytesL n g)[i]? = some (.int .u8 (g i)) := bytesL_at g hi
    rw [← ht, List.getElem?_take, if_pos (by omega)] at h1
    simp only [World.cell?, hh]
    simpa using h1

theorem info1 : (Try.prog.info? 5).map (·.size) = some 1 := by kernel_rfl

/-- copy of bytes into a row of the call's own -/
theorem run_copy_bytes {w : World} (D S off n dc b o' cap : Nat) (m g : Nat → Int) (hr : w.rowIs D 5 S (fun i => .int .u8 (m i))) (hfit : off + n ≤ S)
    (hc : ∀ i, i < n → w.cell? ⟨b, o' + i, none⟩ = some (.int .u8 (g i))) :
    ∃ w', (Builtin.copy_ #[23, 23] 3 #[.slice (some ⟨D, off, none⟩) n dc, .slice (some ⟨b, o', none⟩) n cap]).run Try.prog w = .ok (goInt n) w' ∧
      w'.rowIs D 5 S (fun i => .int .u8 (Mm.pt m off n g i)) ∧ w.grownBy w' (some D) := by
  obtain ⟨cur, hcur, hsz, hcc⟩ := hr
  have hrun := run_copy_row (P := Try.prog) w 23 23 3 5 D off n dc ⟨b, o', none⟩ n cap cur 5 (bytesL n g) Try.underlying23 info1 hcur (by rw [bytesL_len]; simp) (by
    intro j v hv
    obtain ⟨hj, rfl⟩ := bytesL_get hv
    rw [add_none]
    exact hc j hj) (by rw [bytesL_len]; omega) (bytesL_one n g)
  rw [bytesL_len] at hrun
  · refine ⟨_, hrun, ⟨_, setRow_heap w D _ _ _ _ hcur, ?_, ?_⟩, ⟨rfl, rfl, rfl, by simp [World.setRow], fun k hk hk2 => setRow_other w D k _ (fun e => hk2 (by rw [e]))⟩⟩
    · simp [bytesL_len]; omega
    · intro i hi
      have hci := hcc i hi
      simp only [List.getElem?_toArray, List.append_assoc]
      by_cases h1 : i < off
      · rw [List.getElem?_append_left (by simp; omega), List.getElem?_take, if_pos h1, Mm.pt_out (by omega)]
        simpa using hci
      · rw [List.getElem?_append_right (by simp; omega)]
        have hlen : (cur.toList.take off).length = off := by simp; omega
        rw [hlen]
        by_cases h2 : i < off + n
        · rw [List.getElem?_append_left (by rw [bytesL_len]; omega), bytesL_at g (by omega)]
          unfold Mm.pt; rw [if_pos (by omega)]
        · rw [List.getElem?_append_right (by rw [bytesL_len]; omega), bytesL_len, List.getElem?_drop, Mm.pt_out (by omega), show off + n + (i - off - n) = i by omega]
          simpa using hci

end Go.Proofs.Ytkpmhgkljedapaa
