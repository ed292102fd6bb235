/- gantryref4.uses, binary, scaled: contracts. -/
import Derived.Test.YtbghjlamedlchaaDoorCfLeaf
namespace Go.Proofs.YtbghjlamedlchaaDoor
open Go.RowKit
set_option linter.unusedVariables false

namespace Cc
theorem uses_true {o c : Int} {k : Nat} (hk : k < (rowS o).size) (h : useL o ((rowS o)[k].toNat : Int) c = true) : usesB o c = true := by
  unfold usesB
  rw [← lts_row, List.any_eq_true]
  exact ⟨((rowS o)[k].toNat : Int), List.mem_map.mpr ⟨(rowS o)[k], by simp [ByteArray.getElem_eq_getElem_data], rfl⟩, h⟩
theorem uses_false {o c : Int} (h : ∀ k (hk : k < (rowS o).size), useL o ((rowS o)[k].toNat : Int) c = false) : usesB o c = false := by
  unfold usesB
  rw [← lts_row, List.any_eq_false]
  intro x hx
  obtain ⟨b, hb, rfl⟩ := List.mem_map.mp hx
  obtain ⟨k, hk, rfl⟩ := List.getElem_of_mem hb
  have := h k (by simpa using hk)
  rw [ByteArray.getElem_eq_getElem_data] at this
  simp only [Array.getElem_toList]
  rw [this]; simp
theorem rowS_size (o : Int) : (rowS o).size ≤ 4 := by
  rcases ops o with h | h | h | h | h | h | h | h | h | h | h | h | h | h | h | h | h | h | h | h | h | h | h | h | h | h
  case inr.inr.inr.inr.inr.inr.inr.inr.inr.inr.inr.inr.inr.inr.inr.inr.inr.inr.inr.inr.inr.inr.inr.inr.inr =>
    rw [rowS_none h]; decide
  all_goals (rw [h]; decide)
end Cc

set_option maxRecDepth 40000 in
set_option maxHeartbeats 4000000 in
theorem ruses_any (o c : Int) (w : World) :
    Calls Tryd.prog 20 #[.int .i64 o, .int .u8 c] w fun e w' => e = .returned (.bool (Cc.usesB o c)) ∧ w' = w := by
  have hsz := Cc.rowS_size o
  have HT : Hid (∀ k (hk : k < (Cc.rowS o).size), Cc.useL o ((Cc.rowS o)[k].toNat : Int) c = true → Cc.usesB o c = true) := fun k hk h => Cc.uses_true hk h
  have HF : Hid ((∀ k (hk : k < (Cc.rowS o).size), Cc.useL o ((Cc.rowS o)[k].toNat : Int) c = false) → Cc.usesB o c = false) := Cc.uses_false
  have HR : Hid (∀ W, Calls Tryd.prog 18 #[.int .i64 o] W fun e w' => e = .returned (.string (Cc.rowS o)) ∧ w' = W) := rrow_any o
  generalize Cc.rowS o = s at *
  generalize Cc.usesB o c = U at *
  go_enter Tryd.func20, Tryd.ntmps20
  go_wp2_with (go_at_call 18; refine (HR.out _).mono ?_; rintro e w' ⟨rfl, rfl⟩)
  go_loopw [6] (fun i wr => ∃ k : Nat, k ≤ s.size ∧ i = .int .i64 k ∧ wr = w' ∧ ∀ j (hj : j < s.size), j < k → Cc.useL o (s[j].toNat : Int) c = false) (fun i _ => s.size - (intOf i).toNat)
  case atStart => exact ⟨0, Nat.zero_le _, rfl, rfl, fun _ _ h => absurd h (Nat.not_lt_zero _)⟩
  case round =>
    obtain ⟨k, hk, rfl, rfl, hf⟩ := hrel
    have HP : Hid (∀ j (hj : j < s.size), j < k → Cc.useL o (s[j].toNat : Int) c = false) := hf
    clear hf
    by_cases hlt : k < s.size
    · have HT2 : Hid (Cc.useL o (s[k].toNat : Int) c = true → U = true) := HT.out k hlt
      have HN : Hid (Cc.useL o (s[k].toNat : Int) c = false → ∀ j (hj : j < s.size), j < k + 1 → Cc.useL o (s[j].toNat : Int) c = false) := fun h j hj h2 => by
        by_cases e : j = k
        · subst e; exact h
        · exact HP.out j hj (by omega)
      clear HT HF HP HR
      generalize hl : (s[k].toNat : Int) = l at *
      have hc : l = 97 ∨ l = 110 ∨ l = 99 ∨ l = 75 ∨ l = 83 ∨ l = 74 ∨ l = 105 ∨ l = 52 ∨ ((l == 97) = false ∧ (l == 110) = false ∧ (l == 99) = false ∧ (l == 75) = false ∧ (l == 83) = false ∧ (l == 74) = false ∧ (l == 105) = false ∧ (l == 52) = false) := by
        simp only [beq_eq_false_iff_ne, ne_eq]; omega
      rcases hc with rfl | rfl | rfl | rfl | rfl | rfl | rfl | rfl | hc
      case inr.inr.inr.inr.inr.inr.inr.inr =>
        have HZ0 : Cc.useL o l c = false := by
          simp only [beq_eq_false_iff_ne, ne_eq] at hc
          unfold Cc.useL
          simp [hc]
        have HZ : Hid (Cc.useL o l c = false) := HZ0
        clear HZ0
        obtain ⟨a1, a2, a3, a4, a5, a6, a7, a8⟩ := hc
        go_wp2
        exact ⟨⟨k + 1, by omega, by go_num, trivial, HN.out HZ.out⟩, by simp [intOf]; omega⟩
      · cases e1 : (c == 65)
        case true => (go_wp2; first
          | (go_ret; refine ⟨ret_bool (HT2.out ?_).symm, rfl⟩; unfold Cc.useL; (first | (simp_all; done)))
          | (refine ⟨⟨k + 1, by omega, by go_num, trivial, HN.out ?_⟩, by simp [intOf]; omega⟩; unfold Cc.useL; simp_all))
        cases e2 : (c == 66)
        case false => (go_wp2; first
          | (go_ret; refine ⟨ret_bool (HT2.out ?_).symm, rfl⟩; unfold Cc.useL; (first | (simp_all; done)))
          | (refine ⟨⟨k + 1, by omega, by go_num, trivial, HN.out ?_⟩, by simp [intOf]; omega⟩; unfold Cc.useL; simp_all))
        cases e3 : (o != 7)
        case false => (go_wp2; first
          | (go_ret; refine ⟨ret_bool (HT2.out ?_).symm, rfl⟩; unfold Cc.useL; (first | (simp_all; done)))
          | (refine ⟨⟨k + 1, by omega, by go_num, trivial, HN.out ?_⟩, by simp [intOf]; omega⟩; unfold Cc.useL; simp_all))
        cases e4 : (o != 27)
        case false => (go_wp2; first
          | (go_ret; refine ⟨ret_bool (HT2.out ?_).symm, rfl⟩; unfold Cc.useL; (first | (simp_all; done)))
          | (refine ⟨⟨k + 1, by omega, by go_num, trivial, HN.out ?_⟩, by simp [intOf]; omega⟩; unfold Cc.useL; simp_all))
        cases e5 : (o != 28)
        case false => (go_wp2; first
          | (go_ret; refine ⟨ret_bool (HT2.out ?_).symm, rfl⟩; unfold Cc.useL; (first | (simp_all; done)))
          | (refine ⟨⟨k + 1, by omega, by go_num, trivial, HN.out ?_⟩, by simp [intOf]; omega⟩; unfold Cc.useL; simp_all))
        cases e6 : (o != 18)
        all_goals (go_wp2; first
          | (go_ret; refine ⟨ret_bool (HT2.out ?_).symm, rfl⟩; unfold Cc.useL; (first | (simp_all; done)))
          | (refine ⟨⟨k + 1, by omega, by go_num, trivial, HN.out ?_⟩, by simp [intOf]; omega⟩; unfold Cc.useL; simp_all))
      all_goals
        go_wp2
        all_goals first
          | (go_ret; refine ⟨ret_bool (HT2.out ?_).symm, rfl⟩; unfold Cc.useL; (first | (simp_all; done)))
          | (refine ⟨⟨k + 1, by omega, by go_num, trivial, HN.out ?_⟩, by simp [intOf]; omega⟩; unfold Cc.useL; simp_all)
    · have HU : Hid (U = false) := HF.out fun j hj => HP.out j hj (by omega)
      go_wp2
      go_ret
      exact ⟨ret_bool HU.out.symm, rfl⟩
end Go.Proofs.YtbghjlamedlchaaDoor
