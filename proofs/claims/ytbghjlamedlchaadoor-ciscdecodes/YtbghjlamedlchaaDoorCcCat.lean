/- Instructions of C64 one behind the other: their bytes fall apart in one way. Plain. -/
import Derived.Test.YtbghjlamedlchaaDoorCcBack
namespace Go.Proofs.YtbghjlamedlchaaDoor
set_option linter.unusedVariables false

namespace Cc
/-- the bytes of the first n of V, one behind the other -/
def cat (V : Nat → InV) : Nat → List Int
  | 0 => []
  | n + 1 => cat V n ++ enc (V n)
theorem cat_zero (V : Nat → InV) : cat V 0 = [] := rfl
theorem cat_succ (V : Nat → InV) (n : Nat) : cat V (n + 1) = cat V n ++ enc (V n) := rfl
theorem cat_pre (V : Nat → InV) {i n : Nat} (h : i ≤ n) : ∃ t, cat V n = cat V i ++ t := by
  induction n with
  | zero => obtain rfl : i = 0 := by omega
            exact ⟨[], by simp⟩
  | succ n ih =>
    by_cases e : i = n + 1
    · subst e; exact ⟨[], by simp⟩
    · obtain ⟨t, ht⟩ := ih (by omega)
      exact ⟨t ++ enc (V n), by rw [cat_succ, ht, List.append_assoc]⟩
theorem cat_le (V : Nat → InV) {i n : Nat} (h : i < n) : (cat V i).length + (enc (V i)).length ≤ (cat V n).length := by
  obtain ⟨t, ht⟩ := cat_pre V (show i + 1 ≤ n from h)
  rw [ht, cat_succ, List.length_append, List.length_append]
  omega
theorem cat_at (V : Nat → InV) {i n : Nat} (h : i < n) (j : Nat) (hj : j < (enc (V i)).length) : (cat V n).getD ((cat V i).length + j) 0 = (enc (V i)).getD j 0 := by
  obtain ⟨t, ht⟩ := cat_pre V (show i + 1 ≤ n from h)
  rw [ht, cat_succ, List.append_assoc, List.getD_eq_getElem?_getD, List.getD_eq_getElem?_getD, List.getElem?_append_right (by omega), Nat.add_sub_cancel_left, List.getElem?_append_left hj]
/-- each is read where the one ahead of it ends -/
theorem cat_dec (V : Nat → InV) {i n : Nat} (h : i < n) (hm : mayB (V i) = true) (i1 : -9223372036854775808 ≤ (V i).imm) (i2 : (V i).imm ≤ 9223372036854775807) :
    dec ((cat V n).length - (cat V i).length) (fun j => (cat V n).getD ((cat V i).length + j) 0) = (V i, ((enc (V i)).length : Int), 0) := by
  have hl := cat_le V h
  exact dec_enc hm i1 i2 (by omega) fun j hj => cat_at V h j hj
/-- what is taken of bytes that agree is the same -/
theorem dec_congr {N : Nat} {g g' : Nat → Int} (h : ∀ i, i < N → g i = g' i) : dec N g = dec N g' := by
  by_cases h0 : N = 0
  · unfold dec; rw [if_pos h0, if_pos h0]
  have g0 : g 0 = g' 0 := h 0 (by omega)
  have hr : read N g = read N g' := by unfold read; rw [g0, rd_congr h]
  by_cases hs : startsB (enc (read N g').1) g = startsB (enc (read N g').1) g'
  · unfold dec; rw [hr, g0, hs]
  · by_cases hl : ((enc (read N g').1).length : Int) = (read N g').2
    · exfalso
      apply hs
      by_cases hp : 0 ≤ (read N g').2
      · have hN : (read N g').2 ≤ N := rd_N _ _ _ _ (by omega) hp
        unfold startsB
        rw [decide_eq_decide]
        exact ⟨fun a i hi => by rw [← h i (by omega)]; exact a i hi, fun a i hi => by rw [h i (by omega)]; exact a i hi⟩
      · omega
    · unfold dec
      rw [hr, g0, if_neg h0, if_neg h0]
      have x1 : ∀ (p q r : Prop), (p ∨ q ∨ (((enc (read N g').1).length : Int) ≠ (read N g').2 ∨ r)) = True := fun p q r => _root_.eq_true (.inr (.inr (.inl hl)))
      simp only [x1, if_true]
end Cc
end Go.Proofs.YtbghjlamedlchaaDoor
