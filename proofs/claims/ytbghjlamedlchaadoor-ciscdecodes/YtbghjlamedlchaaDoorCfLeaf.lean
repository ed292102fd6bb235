/- gantryref4.row, uses, immediate, binary, scaled: contracts. -/
import Derived.Test.YtbghjlamedlchaaDoorCdRow
import Derived.Test.YtbghjlamedlchaaDoorG3
namespace Go.Proofs.YtbghjlamedlchaaDoor
open Go.RowKit
set_option linter.unusedVariables false

namespace Cc
/-- a row as the string that gantryref4 has -/
def rowS (op : Int) : ByteArray :=
  if op = 1 then ⟨#[110, 105]⟩ else if op = 3 ∨ op = 26 ∨ op = 27 ∨ op = 28 then ⟨#[97]⟩ else if op = 4 ∨ op = 7 ∨ op = 8 then ⟨#[97, 75, 83]⟩ else if op = 5 then ⟨#[110, 75, 83, 105]⟩
  else if op = 6 then ⟨#[97, 75, 83, 52]⟩ else if op = 10 then ⟨#[97, 99, 52]⟩ else if op = 11 ∨ op = 13 then ⟨#[97, 75, 52]⟩ else if op = 12 ∨ op = 14 then ⟨#[97, 99, 75, 52]⟩
  else if op = 15 ∨ op = 18 then ⟨#[97, 83]⟩ else if op = 16 then ⟨#[97, 75]⟩ else if op = 17 then ⟨#[110, 75, 105]⟩ else if op = 19 then ⟨#[106, 105]⟩ else if op = 22 then ⟨#[74, 105]⟩
  else if op = 23 ∨ op = 25 ∨ op = 29 then ⟨#[52]⟩ else if op = 24 then ⟨#[45]⟩ else ⟨#[]⟩
/-- a string's letters -/
def lts (s : ByteArray) : List Int := s.data.toList.map fun b => (b.toNat : Int)
theorem rowS_none {o : Int} (h : (o == 1) = false ∧ (o == 3) = false ∧ (o == 4) = false ∧ (o == 5) = false ∧ (o == 6) = false ∧ (o == 7) = false ∧ (o == 8) = false ∧ (o == 10) = false ∧ (o == 11) = false ∧ (o == 12) = false ∧ (o == 13) = false ∧ (o == 14) = false ∧ (o == 15) = false ∧ (o == 16) = false ∧ (o == 17) = false ∧ (o == 18) = false ∧ (o == 19) = false ∧ (o == 22) = false ∧ (o == 23) = false ∧ (o == 24) = false ∧ (o == 25) = false ∧ (o == 26) = false ∧ (o == 27) = false ∧ (o == 28) = false ∧ (o == 29) = false) : rowS o = ⟨#[]⟩ := by
  simp only [beq_eq_false_iff_ne, ne_eq] at h
  unfold rowS
  simp [h]
theorem lts_row (o : Int) : lts (rowS o) = row o := by
  rcases ops o with h | h | h | h | h | h | h | h | h | h | h | h | h | h | h | h | h | h | h | h | h | h | h | h | h | h
  case inr.inr.inr.inr.inr.inr.inr.inr.inr.inr.inr.inr.inr.inr.inr.inr.inr.inr.inr.inr.inr.inr.inr.inr.inr =>
    rw [rowS_none h, (row_none h).1]; rfl
  all_goals (rw [h]; decide)
end Cc

set_option maxHeartbeats 4000000 in
theorem rrow_any (o : Int) (w : World) :
    Calls Tryd.prog 18 #[.int .i64 o] w fun e w' => e = .returned (.string (Cc.rowS o)) ∧ w' = w := by
  go_enter Tryd.func18, Tryd.ntmps18
  go_wp2
  all_goals (go_ret; refine ⟨?_, rfl⟩; simp only [beq_iff_eq, beq_eq_false_iff_ne] at *; unfold Cc.rowS; simp [*])

set_option maxHeartbeats 4000000 in
theorem rimm_any (s k n : Int) (w : World) (h1 : -9223372036854775808 ≤ n) (h2 : n ≤ 9223372036854775807) :
    Calls Tryd.prog 23 #[.int .i64 s, .int .i64 k, .int .i64 n] w fun e w' => e = .returned (.bool (Cc.immB s k n)) ∧ w' = w := by
  have h3 : 0 ≤ n % 18446744073709551616 := by omega
  have h4 : n % 18446744073709551616 < 18446744073709551616 := by omega
  have HW : Hid (∀ x : Int, wrap64 (wrap32 (x % 4294967296)) = Rc.s32 x) := fun x => by unfold wrap64 wrap32 Rc.s32; omega
  cases hk : Wd.intB k
  all_goals
    cases hb : Wd.hasBinB s k
    all_goals
      cases hm : Rc.smallB n
      all_goals
        cases hs : Wd.shB s
        all_goals
          go_enter Tryd.func23, Tryd.ntmps23
          go_wp2_with (first
            | (go_at_call 26; refine (rint_any _ _).mono ?_; rw [hk]; rintro e w' ⟨rfl, rfl⟩)
            | (go_at_call 24; refine (rhasBin_any _ _ _).mono ?_; rw [hb]; rintro e w' ⟨rfl, rfl⟩)
            | (go_at_call 21; refine (rsmall_any _ _).mono ?_; rw [hm]; rintro e w' ⟨rfl, rfl⟩)
            | (go_at_call 25; refine (rshift_any _ _).mono ?_; rw [hs]; rintro e w' ⟨rfl, rfl⟩)
            | (go_at_call 45; refine (rcanon_any _ _ _ h3 h4).mono ?_; rintro e w' ⟨rfl, rfl⟩))
          all_goals
            go_ret
            refine ⟨ret_bool ?_, rfl⟩
            unfold Cc.immB
            simp only [hk, hb, hm, hs]
            first | (simp_all; done) | (rw [← HW.out]; simp_all; done)
end Go.Proofs.YtbghjlamedlchaaDoor
