/- Contracts and plain facts that the walks share. -/
import Derived.Test.YtbpdggdpgohilaaG20
import Derived.Laws.CopyOwn
import Derived.Laws.AppendOwnNone
namespace Go.Proofs.Ytbpdggdpgohilaa
open Go.RowKit
set_option linter.unusedVariables false
namespace Mm
/-- do n bytes from a on lie in a memory of S bytes? -/
def hasB (S : Nat) (a n : Int) : Bool := decide (4096 ≤ a) && decide (a + n ≤ S)
/-- what Load, Store answer -/
def lE (S : Nat) (k a : Int) : Int := if Wd.wordB k then (if hasB S a (Wd.by' k) then 0 else 21) else 10
def lV (S : Nat) (m : Nat → Int) (k a : Int) : Int := if Wd.wordB k && hasB S a (Wd.by' k) then Wd.canon k (ld m a.toNat (Wd.by' k).toNat) else 0
def sE (S : Nat) (k a x : Int) : Int := if Wd.wordB k then (if Wd.isB k x then (if hasB S a (Wd.by' k) then 0 else 21) else 11) else 10
def sM (S : Nat) (m : Nat → Int) (k a x : Int) : Nat → Int := if Wd.wordB k && Wd.isB k x && hasB S a (Wd.by' k) then pt m a.toNat (Wd.by' k).toNat (by8 x) else m
theorem by_cases (k : Int) : (Wd.wordB k = false ∧ Wd.by' k = 0) ∨ (Wd.wordB k = true ∧ (Wd.by' k = 1 ∨ Wd.by' k = 2 ∨ Wd.by' k = 4 ∨ Wd.by' k = 8)) := by
  rcases Wd.kinds k with h | h | h | h | h | h | h | h | h | h | h | h
  all_goals first
    | (subst h; right; exact ⟨rfl, by decide⟩)
    | (left; constructor
       · unfold Wd.wordB; simp; omega
       · unfold Wd.by' Wd.wid; rw [if_neg (by omega), if_neg (by omega), if_neg (by omega), if_neg (by omega), if_neg (by omega)]; rfl)
theorem lE_no {S : Nat} {k a : Int} (h : Wd.wordB k = false) : lE S k a = 10 := by unfold lE; rw [h]; rfl
theorem lV_no {S : Nat} {m : Nat → Int} {k a : Int} (h : Wd.wordB k = false) : lV S m k a = 0 := by unfold lV; rw [h]; rfl
theorem lE_out {S : Nat} {k a : Int} (h : Wd.wordB k = true) (h2 : hasB S a (Wd.by' k) = false) : lE S k a = 21 := by unfold lE; rw [h, h2]; rfl
theorem lV_out {S : Nat} {m : Nat → Int} {k a : Int} (h2 : hasB S a (Wd.by' k) = false) : lV S m k a = 0 := by unfold lV; rw [h2, Bool.and_false]; rfl
theorem lE_in {S : Nat} {k a : Int} (h : Wd.wordB k = true) (h2 : hasB S a (Wd.by' k) = true) : lE S k a = 0 := by unfold lE; rw [h, h2]; rfl
theorem lV_in {S : Nat} {m : Nat → Int} {k a : Int} (h : Wd.wordB k = true) (h2 : hasB S a (Wd.by' k) = true) : lV S m k a = Wd.canon k (ld m a.toNat (Wd.by' k).toNat) := by unfold lV; rw [h, h2]; rfl
theorem sE_no {S : Nat} {k a x : Int} (h : Wd.wordB k = false) : sE S k a x = 10 := by unfold sE; rw [h]; rfl
theorem sM_no {S : Nat} {m : Nat → Int} {k a x : Int} (h : Wd.wordB k = false) : sM S m k a x = m := by unfold sM; rw [h]; rfl
theorem sE_form {S : Nat} {k a x : Int} (h : Wd.wordB k = true) (h1 : Wd.isB k x = false) : sE S k a x = 11 := by unfold sE; rw [h, h1]; rfl
theorem sM_form {S : Nat} {m : Nat → Int} {k a x : Int} (h1 : Wd.isB k x = false) : sM S m k a x = m := by unfold sM; rw [h1, Bool.and_false]; rfl
theorem sE_out {S : Nat} {k a x : Int} (h : Wd.wordB k = true) (h1 : Wd.isB k x = true) (h2 : hasB S a (Wd.by' k) = false) : sE S k a x = 21 := by unfold sE; rw [h, h1, h2]; rfl
theorem sM_out {S : Nat} {m : Nat → Int} {k a x : Int} (h2 : hasB S a (Wd.by' k) = false) : sM S m k a x = m := by unfold sM; rw [h2, Bool.and_false]; rfl
theorem sE_in {S : Nat} {k a x : Int} (h : Wd.wordB k = true) (h1 : Wd.isB k x = true) (h2 : hasB S a (Wd.by' k) = true) : sE S k a x = 0 := by unfold sE; rw [h, h1, h2]; rfl
theorem sM_in {S : Nat} {m : Nat → Int} {k a x : Int} (h : Wd.wordB k = true) (h1 : Wd.isB k x = true) (h2 : hasB S a (Wd.by' k) = true) : sM S m k a x = pt m a.toNat (Wd.by' k).toNat (by8 x) := by unfold sM; rw [h, h1, h2]; rfl
theorem has_in {S : Nat} {a n : Int} (h : hasB S a n = true) : 4096 ≤ a ∧ a + n ≤ S := by unfold hasB at h; simpa using h
theorem has_out {S : Nat} {a n : Int} (h : hasB S a n = false) : a < 4096 ∨ (S : Int) < a + n := by unfold hasB at h; simp at h; omega
theorem pow_le {n : Nat} (h : n = 1 ∨ n = 2 ∨ n = 4 ∨ n = 8) : (256 : Int) ^ n ≤ 18446744073709551616 := by rcases h with rfl | rfl | rfl | rfl <;> decide
end Mm

theorem row_cells {w : World} {D S a n : Nat} {m : Nat → Int} {t : TypeId} (h : w.rowIs D t S (fun i => .int .u8 (m i))) (hS : a + n ≤ S) : ∀ i, i < n → w.cell? ⟨D, a + i, none⟩ = some (.int .u8 ((fun i => m (a + i)) i)) :=
  fun i hi => h.cell (i := a + i) (by omega)

theorem tup2 {a a' : Value} {b b' : Value} (h1 : a = a') (h2 : b = b') : Ending.returned (.tuple #[a, b]) = .returned (.tuple #[a', b']) := by rw [h1, h2]

theorem IsMem.put {t : TypeId} {w w' : World} {B D S : Nat} {m m' : Nat → Int} (h : IsMem t w B D S m) (hg : w.grownBy w' (some D)) (ht : t ≠ 5) (hr : w'.rowIs D 5 S (fun i => .int .u8 (m' i))) (hf : Mm.Fit m') : IsMem t w' B D S m' := by
  refine ⟨h.head.of_block (hg.block B h.head.lt ?_), hr, hf⟩
  intro e
  injection e with e
  subst e
  obtain ⟨c, hc, _⟩ := h.head
  obtain ⟨d, hd, _⟩ := h.row
  rw [hc] at hd
  injection hd with hd
  injection hd with _ hd
  exact ht hd

theorem IsMem.apart {t : TypeId} {w : World} {B D S : Nat} {m : Nat → Int} (h : IsMem t w B D S m) (ht : t ≠ 5) : B ≠ D := by
  intro e
  subst e
  obtain ⟨c, hc, _⟩ := h.head
  obtain ⟨d, hd, _⟩ := h.row
  rw [hc] at hd
  injection hd with hd
  injection hd with _ hd
  exact ht hd

def bytesL (n : Nat) (g : Nat → Int) : List Value := (List.range n).map fun i => .int .u8 (g i)
theorem bytesL_len (n : Nat) (g : Nat → Int) : (bytesL n g).length = n := by simp [bytesL]
theorem bytesL_get {n : Nat} {g : Nat → Int} {j : Nat} {v : Value} (h : (bytesL n g)[j]? = some v) : j < n ∧ v = .int .u8 (g j) := by
  have hj : j < n := by
    rw [← bytesL_len n g]
    exact (List.getElem?_eq_some_iff.1 h).1
  refine ⟨hj, ?_⟩
  simp [bytesL, hj] at h
  exact h.symm
theorem bytesL_at {n : Nat} (g : Nat → Int) {j : Nat} (h : j < n) : (bytesL n g)[j]? = some (.int .u8 (g j)) := by simp [bytesL, h]
theorem bytesL_one (n : Nat) (g : Nat → Int) : ∀ v ∈ bytesL n g, v.oneCell' = true := by
  intro v hv
  obtain ⟨i, _, rfl⟩ := List.mem_map.1 hv
  rfl
theorem add_none (b off n : Nat) : (⟨b, off, none⟩ : Addr).add n = ⟨b, off + n, none⟩ := by
  unfold Addr.add; split <;> simp_all

/-- bytes that the call itself made -/
def OwnB (w : World) (base : Nat) (v : Value) (n : Nat) (g : Nat → Int) : Prop := w.ownsRow base 5 1 v n (bytesL n g)

theorem OwnB.kept {w w' : World} {base n : Nat} {v : Value} {g : Nat → Int} {row : Option Nat} (h : OwnB w base v n g) (hg : w.grownBy w' row) (hne : v.ownBlock = none ∨ v.ownBlock ≠ row) : OwnB w' base v n g := World.ownsRow.kept h hg hne
theorem OwnB.lt {w : World} {base n : Nat} {v : Value} {g : Nat → Int} (h : OwnB w base v n g) : ∀ k, v.ownBlock = some k → base ≤ k ∧ k < w.heap.size := World.ownsRow.lt h
theorem OwnB.shape {w : World} {base n : Nat} {v : Value} {g : Nat → Int} (h : OwnB w base v n g) : ∃ ao cap, v = .slice ao n cap ∧ (ao = none → n = 0 ∧ cap = 0) ∧ n ≤ cap ∧ cap ≤ maxLen ∧ Bs w ao n g := by
  obtain ⟨hl, h⟩ := h
  rcases h with ⟨rfl, rfl⟩ | ⟨b, cap, cur, rfl, hb, hh, hn, hc, hs, ht⟩
  · exact ⟨none, 0, rfl, fun _ => ⟨rfl, rfl⟩, Nat.le_refl _, by unfold maxLen; omega, .inl rfl⟩
  · refine ⟨some ⟨b, 0, none⟩, cap, rfl, (fun h => by cases h), hn, hc, .inr ⟨b, 0, rfl, fun i hi => ?_⟩⟩
    have h1 : (bytesL n g)[i]? = some (.int .u8 (g i)) := bytesL_at g hi
    rw [← ht, List.getElem?_take, if_pos (by omega)] at h1
    simp only [World.cell?, hh]
    simpa using h1

theorem info1 : (Try.prog.info? 5).map (·.size) = some 1 := by kernel_rfl

/-- copy of bytes into a row of the call's own -/
theorem run_copy_bytes {w : World} (D S off n dc b o' cap : Nat) (m g : Nat → Int) (hr : w.rowIs D 5 S (fun i => .int .u8 (m i))) (hfit : off + n ≤ S)
    (hc : ∀ i, i < n → w.cell? ⟨b, o' + i, none⟩ = some (.int .u8 (g i))) :
    ∃ w', (Builtin.copy_ #[29, 29] 3 #[.slice (some ⟨D, off, none⟩) n dc, .slice (some ⟨b, o', none⟩) n cap]).run Try.prog w = .ok (goInt n) w' ∧
      w'.rowIs D 5 S (fun i => .int .u8 (Mm.pt m off n g i)) ∧ w.grownBy w' (some D) := by
  obtain ⟨cur, hcur, hsz, hcc⟩ := hr
  have hrun := run_copy_row (P := Try.prog) w 29 29 3 5 D off n dc ⟨b, o', none⟩ n cap cur 5 (bytesL n g) Try.underlying29 info1 hcur (by rw [bytesL_len]; simp) (by
    intro j v hv
    obtain ⟨hj, rfl⟩ := bytesL_get hv
    rw [add_none]
    exact hc j hj) (by rw [bytesL_len]; omega) (bytesL_one n g)
  rw [bytesL_len] at hrun
  · refine ⟨_, hrun, ⟨_, setRow_heap w D _ _ _ _ hcur, ?_, ?_⟩, ⟨rfl, rfl, rfl, by simp [World.setRow], fun k hk hk2 => setRow_other w D k _ (fun e => hk2 (by rw [e]))⟩⟩
    · simp [bytesL_len]; omega
    · intro i hi
      have hci := hcc i hi
      simp only [List.getElem?_toArray, List.append_assoc]
      by_cases h1 : i < off
      · rw [List.getElem?_append_left (by simp; omega), List.getElem?_take, if_pos h1, Mm.pt_out (by omega)]
        simpa using hci
      · rw [List.getElem?_append_right (by simp; omega)]
        have hlen : (cur.toList.take off).length = off := by simp; omega
        rw [hlen]
        by_cases h2 : i < off + n
        · rw [List.getElem?_append_left (by rw [bytesL_len]; omega), bytesL_at g (by omega)]
          unfold Mm.pt; rw [if_pos (by omega)]
        · rw [List.getElem?_append_right (by rw [bytesL_len]; omega), bytesL_len, List.getElem?_drop, Mm.pt_out (by omega), show off + n + (i - off - n) = i by omega]
          simpa using hci

theorem bytesL_zero (g : Nat → Int) : bytesL 0 g = [] := rfl
theorem bytesL_set (n : Nat) (g : Nat → Int) (k : Nat) (y : Int) : (bytesL n g).set k (.int .u8 y) = bytesL n (fun j => if j = k then y else g j) := by
  refine List.ext_getElem? fun i => ?_
  by_cases hi : i < n
  · rw [bytesL_at _ hi, List.getElem?_set]
    by_cases e : k = i
    · subst e; simp [bytesL_len, hi]
    · rw [if_neg e, bytesL_at _ hi, if_neg (fun h => e (Eq.symm h))]
  · rw [List.getElem?_eq_none (by rw [List.length_set, bytesL_len]; omega), List.getElem?_eq_none (by rw [bytesL_len]; omega)]

theorem bytesL_cells {w : World} {n b o' : Nat} {g : Nat → Int} (hc : ∀ i, i < n → w.cell? ⟨b, o' + i, none⟩ = some (.int .u8 (g i))) : ∀ j u, (bytesL n g)[j]? = some u → w.cell? ((⟨b, o', none⟩ : Addr).add j) = some u := by
  intro j u hu
  obtain ⟨hj, rfl⟩ := bytesL_get hu
  rw [add_none]
  exact hc j hj

theorem run_copy_out0 {w : World} :
    ∃ w1, (Instr.makeSlice 29 (.int .i64 0) (.int .i64 0)).run Try.prog w = .ok (.slice (some ⟨w.heap.size, 0, none⟩) 0 0) w1 ∧
      (Builtin.append_ #[29, 29] 29 #[.slice (some ⟨w.heap.size, 0, none⟩) 0 0, .slice none 0 0]).run Try.prog w1 = .ok (.slice (some ⟨w.heap.size, 0, none⟩) 0 0) w1 ∧
      (∀ g, OwnB w1 w.heap.size (.slice (some ⟨w.heap.size, 0, none⟩) 0 0) 0 g) ∧ w.grownBy w1 none := by
  obtain ⟨i, hi, hz0, hz1, hz2⟩ := info_parts info_u8
  obtain ⟨w1, h1, ho1, hg1⟩ := run_make_own (P := Try.prog) w w.heap.size 29 5 i (.int .u8 0) 1 Try.underlying29 hi hz0 hz1 .i64 .i64 0 (by omega) (by unfold maxLen; omega) (Nat.le_refl _)
  exact ⟨w1, h1, run_append_owned_none (P := Try.prog) w1 w.heap.size 29 29 5 i 1 Try.underlying29 hi _ 0 [] ho1, fun g => ho1, hg1⟩

theorem Bs.at {w : World} {ao : Option Addr} {n : Nat} {g : Nat → Int} (h : Bs w ao n g) (hn : 0 < n) : ∃ b off, ao = some ⟨b, off, none⟩ ∧ ∀ i, i < n → w.cell? ⟨b, off + i, none⟩ = some (.int .u8 (g i)) := by
  rcases h with h | h
  · omega
  · exact h

/-- are two rows of bytes the same? -/
def eqF (n : Nat) (g g' : Nat → Int) : Bool := decide (∀ i, i < n → g i = g' i)
theorem eqF_true {n : Nat} {g g' : Nat → Int} (h : ∀ i, i < n → g i = g' i) : eqF n g g' = true := decide_eq_true h
theorem eqF_false {n : Nat} {g g' : Nat → Int} {i : Nat} (hi : i < n) (h : g i ≠ g' i) : eqF n g g' = false := decide_eq_false fun a => h (a i hi)

theorem OwnB.store {w : World} {base n b cap : Nat} {g : Nat → Int} (h : OwnB w base (.slice (some ⟨b, 0, none⟩) n cap) n g) (k : Nat) (y : Int) :
    OwnB (w.setCell ⟨b, k, none⟩ (.int .u8 y)) base (.slice (some ⟨b, 0, none⟩) n cap) n (fun j => if j = k then y else g j) := by
  have := World.ownsRow.stored h k (.int .u8 y)
  rw [bytesL_set] at this
  exact this.1

theorem OwnB.cellAt {w : World} {base n b cap : Nat} {g : Nat → Int} (h : OwnB w base (.slice (some ⟨b, 0, none⟩) n cap) n g) {k : Nat} (hk : k < n) : w.cell? ⟨b, k, none⟩ = some (.int .u8 (g k)) :=
  (World.ownsRow.cellAt h k (by omega)).trans (bytesL_at g hk)

end Go.Proofs.Ytbpdggdpgohilaa
