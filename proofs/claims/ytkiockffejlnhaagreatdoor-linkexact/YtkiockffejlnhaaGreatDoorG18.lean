/- Contracts and plain facts that the walks share. -/
import Derived.Test.YtkiockffejlnhaaGreatDoorCdRow
import Derived.Test.YtkiockffejlnhaaGreatDoorG2
namespace Go.Proofs.YtkiockffejlnhaaGreatDoor
set_option maxRecDepth 100000
set_option maxHeartbeats 32000000
open Go.RowKit
set_option linter.unusedVariables false
namespace Cc
def rowS (op : Int) : ByteArray :=
 if op = 1 then ⟨#[110, 105]⟩ else if op = 3 ∨ op = 26 ∨ op = 27 ∨ op = 28 then ⟨#[97]⟩ else if op = 4 ∨ op = 7 ∨ op = 8 then ⟨#[97, 75, 83]⟩ else if op = 5 then ⟨#[110, 75, 83, 105]⟩
 else if op = 6 then ⟨#[97, 75, 83, 52]⟩ else if op = 10 then ⟨#[97, 99, 52]⟩ else if op = 11 ∨ op = 13 then ⟨#[97, 75, 52]⟩ else if op = 12 ∨ op = 14 then ⟨#[97, 99, 75, 52]⟩
 else if op = 15 ∨ op = 18 then ⟨#[97, 83]⟩ else if op = 16 then ⟨#[97, 75]⟩ else if op = 17 then ⟨#[110, 75, 105]⟩ else if op = 19 then ⟨#[106, 105]⟩ else if op = 22 then ⟨#[74, 105]⟩
 else if op = 23 ∨ op = 25 ∨ op = 29 then ⟨#[52]⟩ else if op = 24 then ⟨#[45]⟩ else ⟨#[]⟩
def lts (s : ByteArray) : List Int := s.data.toList.map fun b => (b.toNat : Int)
theorem rowS_none {o : Int} (h : (o == 1) = false ∧ (o == 3) = false ∧ (o == 4) = false ∧ (o == 5) = false ∧ (o == 6) = false ∧ (o == 7) = false ∧ (o == 8) = false ∧ (o == 10) = false ∧ (o == 11) = false ∧ (o == 12) = false ∧ (o == 13) = false ∧ (o == 14) = false ∧ (o == 15) = false ∧ (o == 16) = false ∧ (o == 17) = false ∧ (o == 18) = false ∧ (o == 19) = false ∧ (o == 22) = false ∧ (o == 23) = false ∧ (o == 24) = false ∧ (o == 25) = false ∧ (o == 26) = false ∧ (o == 27) = false ∧ (o == 28) = false ∧ (o == 29) = false) : rowS o = ⟨#[]⟩ := by
 simp only [beq_eq_false_iff_ne, ne_eq] at h
 unfold rowS
 simp [h]
theorem lts_row (o : Int) : lts (rowS o) = row o := by
 rcases ops o with h | h | h | h | h | h | h | h | h | h | h | h | h | h | h | h | h | h | h | h | h | h | h | h | h | h
 case inr.inr.inr.inr.inr.inr.inr.inr.inr.inr.inr.inr.inr.inr.inr.inr.inr.inr.inr.inr.inr.inr.inr.inr.inr =>
  rw [rowS_none h, (row_none h).1]; rfl
 all_goals (rw [h]; decide)
end Cc
theorem rrow_any (o : Int) (w : World) :
  Calls Tryz.prog 72 #[.int .i64 o] w fun e w' => e = .returned (.string (Cc.rowS o)) ∧ w' = w := by
 go_enter Tryz.func72, Tryz.ntmps72
 go_wp2
 all_goals (go_ret; refine ⟨?_, rfl⟩; simp only [beq_iff_eq, beq_eq_false_iff_ne] at *; unfold Cc.rowS; simp [*])
theorem rimm_any (s k n : Int) (w : World) (h1 : -9223372036854775808 ≤ n) (h2 : n ≤ 9223372036854775807) :
  Calls Tryz.prog 104 #[.int .i64 s, .int .i64 k, .int .i64 n] w fun e w' => e = .returned (.bool (Cc.immB s k n)) ∧ w' = w := by
 have h3 : 0 ≤ n % 18446744073709551616 := by omega
 have h4 : n % 18446744073709551616 < 18446744073709551616 := by omega
 have HW : Hid (∀ x : Int, wrap64 (wrap32 (x % 4294967296)) = Rc.s32 x) := fun x => by unfold wrap64 wrap32 Rc.s32; omega
 cases hk : Wd.intB k
 all_goals
  cases hb : Wd.hasBinB s k
  all_goals
   cases hm : Rc.smallB n
   all_goals
    cases hs : Wd.shB s
    all_goals
     go_enter Tryz.func104, Tryz.ntmps104
     go_wp2_with (first
      | (go_at_call 106; refine (rint_any _ _).mono ?_; rw [hk]; rintro e w' ⟨rfl, rfl⟩)
      | (go_at_call 98; refine (rhasBin_any _ _ _).mono ?_; rw [hb]; rintro e w' ⟨rfl, rfl⟩)
      | (go_at_call 71; refine (rsmall_any _ _).mono ?_; rw [hm]; rintro e w' ⟨rfl, rfl⟩)
      | (go_at_call 105; refine (rshift_any _ _).mono ?_; rw [hs]; rintro e w' ⟨rfl, rfl⟩)
      | (go_at_call 129; refine (rcanon_any _ _ _ h3 h4).mono ?_; rintro e w' ⟨rfl, rfl⟩))
     all_goals
      go_ret
      refine ⟨ret_bool ?_, rfl⟩
      unfold Cc.immB
      simp only [hk, hb, hm, hs]
      first | (simp_all; done) | (rw [← HW.out]; simp_all; done)
namespace Cc
theorem uses_true {o c : Int} {k : Nat} (hk : k < (rowS o).size) (h : useL o ((rowS o)[k].toNat : Int) c = true) : usesB o c = true := by
 unfold usesB
 rw [← lts_row, List.any_eq_true]
 exact ⟨((rowS o)[k].toNat : Int), List.mem_map.mpr ⟨(rowS o)[k], by simp [ByteArray.getElem_eq_getElem_data], rfl⟩, h⟩
theorem uses_false {o c : Int} (h : ∀ k (hk : k < (rowS o).size), useL o ((rowS o)[k].toNat : Int) c = false) : usesB o c = false := by
 unfold usesB
 rw [← lts_row, List.any_eq_false]
 intro x hx
 obtain ⟨b, hb, rfl⟩ := List.mem_map.mp hx
 obtain ⟨k, hk, rfl⟩ := List.getElem_of_mem hb
 have := h k (by simpa using hk)
 rw [ByteArray.getElem_eq_getElem_data] at this
 simp only [Array.getElem_toList]
 rw [this]; simp
theorem rowS_size (o : Int) : (rowS o).size ≤ 4 := by
 rcases ops o with h | h | h | h | h | h | h | h | h | h | h | h | h | h | h | h | h | h | h | h | h | h | h | h | h | h
 case inr.inr.inr.inr.inr.inr.inr.inr.inr.inr.inr.inr.inr.inr.inr.inr.inr.inr.inr.inr.inr.inr.inr.inr.inr =>
  rw [rowS_none h]; decide
 all_goals (rw [h]; decide)
end Cc
theorem ruses_any (o c : Int) (w : World) :
  Calls Tryz.prog 102 #[.int .i64 o, .int .u8 c] w fun e w' => e = .returned (.bool (Cc.usesB o c)) ∧ w' = w := by
 have hsz := Cc.rowS_size o
 have HT : Hid (∀ k (hk : k < (Cc.rowS o).size), Cc.useL o ((Cc.rowS o)[k].toNat : Int) c = true → Cc.usesB o c = true) := fun k hk h => Cc.uses_true hk h
 have HF : Hid ((∀ k (hk : k < (Cc.rowS o).size), Cc.useL o ((Cc.rowS o)[k].toNat : Int) c = false) → Cc.usesB o c = false) := Cc.uses_false
 have HR : Hid (∀ W, Calls Tryz.prog 72 #[.int .i64 o] W fun e w' => e = .returned (.string (Cc.rowS o)) ∧ w' = W) := rrow_any o
 generalize Cc.rowS o = s at *
 generalize Cc.usesB o c = U at *
 go_enter Tryz.func102, Tryz.ntmps102
 go_wp2_with (go_at_call 72; refine (HR.out _).mono ?_; rintro e w' ⟨rfl, rfl⟩)
 go_loopw [6] (fun i wr => ∃ k : Nat, k ≤ s.size ∧ i = .int .i64 k ∧ wr = w' ∧ ∀ j (hj : j < s.size), j < k → Cc.useL o (s[j].toNat : Int) c = false) (fun i _ => s.size - (intOf i).toNat)
 case atStart => exact ⟨0, Nat.zero_le _, rfl, rfl, fun _ _ h => absurd h (Nat.not_lt_zero _)⟩
 case round =>
  obtain ⟨k, hk, rfl, rfl, hf⟩ := hrel
  have HP : Hid (∀ j (hj : j < s.size), j < k → Cc.useL o (s[j].toNat : Int) c = false) := hf
  clear hf
  by_cases hlt : k < s.size
  ·have HT2 : Hid (Cc.useL o (s[k].toNat : Int) c = true → U = true) := HT.out k hlt
   have HN : Hid (Cc.useL o (s[k].toNat : Int) c = false → ∀ j (hj : j < s.size), j < k + 1 → Cc.useL o (s[j].toNat : Int) c = false) := fun h j hj h2 => by
    by_cases e : j = k
    ·subst e; exact h
    ·exact HP.out j hj (by omega)
   clear HT HF HP HR
   generalize hl : (s[k].toNat : Int) = l at *
   have hc : l = 97 ∨ l = 110 ∨ l = 99 ∨ l = 75 ∨ l = 83 ∨ l = 74 ∨ l = 105 ∨ l = 52 ∨ ((l == 97) = false ∧ (l == 110) = false ∧ (l == 99) = false ∧ (l == 75) = false ∧ (l == 83) = false ∧ (l == 74) = false ∧ (l == 105) = false ∧ (l == 52) = false) := by
    simp only [beq_eq_false_iff_ne, ne_eq]; omega
   rcases hc with rfl | rfl | rfl | rfl | rfl | rfl | rfl | rfl | hc
   case inr.inr.inr.inr.inr.inr.inr.inr =>
    have HZ0 : Cc.useL o l c = false := by
     simp only [beq_eq_false_iff_ne, ne_eq] at hc
     unfold Cc.useL
     simp [hc]
    have HZ : Hid (Cc.useL o l c = false) := HZ0
    clear HZ0
    obtain ⟨a1, a2, a3, a4, a5, a6, a7, a8⟩ := hc
    go_wp2
    exact ⟨⟨k + 1, by omega, by go_num, trivial, HN.out HZ.out⟩, by simp [intOf]; omega⟩
   ·cases e1 : (c == 65)
    case true => (go_wp2; first
     | (go_ret; refine ⟨ret_bool (HT2.out ?_).symm, rfl⟩; unfold Cc.useL; (first | (simp_all; done)))
     | (refine ⟨⟨k + 1, by omega, by go_num, trivial, HN.out ?_⟩, by simp [intOf]; omega⟩; unfold Cc.useL; simp_all))
    cases e2 : (c == 66)
    case false => (go_wp2; first
     | (go_ret; refine ⟨ret_bool (HT2.out ?_).symm, rfl⟩; unfold Cc.useL; (first | (simp_all; done)))
     | (refine ⟨⟨k + 1, by omega, by go_num, trivial, HN.out ?_⟩, by simp [intOf]; omega⟩; unfold Cc.useL; simp_all))
    cases e3 : (o != 7)
    case false => (go_wp2; first
     | (go_ret; refine ⟨ret_bool (HT2.out ?_).symm, rfl⟩; unfold Cc.useL; (first | (simp_all; done)))
     | (refine ⟨⟨k + 1, by omega, by go_num, trivial, HN.out ?_⟩, by simp [intOf]; omega⟩; unfold Cc.useL; simp_all))
    cases e4 : (o != 27)
    case false => (go_wp2; first
     | (go_ret; refine ⟨ret_bool (HT2.out ?_).symm, rfl⟩; unfold Cc.useL; (first | (simp_all; done)))
     | (refine ⟨⟨k + 1, by omega, by go_num, trivial, HN.out ?_⟩, by simp [intOf]; omega⟩; unfold Cc.useL; simp_all))
    cases e5 : (o != 28)
    case false => (go_wp2; first
     | (go_ret; refine ⟨ret_bool (HT2.out ?_).symm, rfl⟩; unfold Cc.useL; (first | (simp_all; done)))
     | (refine ⟨⟨k + 1, by omega, by go_num, trivial, HN.out ?_⟩, by simp [intOf]; omega⟩; unfold Cc.useL; simp_all))
    cases e6 : (o != 18)
    all_goals (go_wp2; first
     | (go_ret; refine ⟨ret_bool (HT2.out ?_).symm, rfl⟩; unfold Cc.useL; (first | (simp_all; done)))
     | (refine ⟨⟨k + 1, by omega, by go_num, trivial, HN.out ?_⟩, by simp [intOf]; omega⟩; unfold Cc.useL; simp_all))
   all_goals
    go_wp2
    all_goals first
     | (go_ret; refine ⟨ret_bool (HT2.out ?_).symm, rfl⟩; unfold Cc.useL; (first | (simp_all; done)))
     | (refine ⟨⟨k + 1, by omega, by go_num, trivial, HN.out ?_⟩, by simp [intOf]; omega⟩; unfold Cc.useL; simp_all)
  ·have HU : Hid (U = false) := HF.out fun j hj => HP.out j hj (by omega)
   go_wp2
   go_ret
   exact ⟨ret_bool HU.out.symm, rfl⟩
theorem rbinary_any (v : InV) (w : World) :
  Calls Tryz.prog 103 #[inst v] w fun e w' => e = .returned (.bool (Cc.binB v)) ∧ w.grownBy w' none := by
 unfold inst
 cases hb : Wd.hasBinB v.sub v.k
 all_goals
  cases hs : Wd.shB v.sub
  all_goals
   cases hk : Wd.intB v.k
   all_goals
    go_enter Tryz.func103, Tryz.ntmps103
    go_wp2_with (first
     | (go_at_call 106; refine (rint_any _ _).mono ?_; rw [hk]; rintro e w' ⟨rfl, rfl⟩)
     | (go_at_call 98; refine (rhasBin_any _ _ _).mono ?_; rw [hb]; rintro e w' ⟨rfl, rfl⟩)
     | (go_at_call 105; refine (rshift_any _ _).mono ?_; rw [hs]; rintro e w' ⟨rfl, rfl⟩))
    all_goals
     go_ret
     refine ⟨ret_bool ?_, gal⟩
     unfold Cc.binB
     simp only [hb, hs, hk]
     first | rfl | (simp_all; done)
theorem rscaled_any (v : InV) (w : World) :
  Calls Tryz.prog 107 #[inst v] w fun e w' => e = .returned (.bool (Cc.sclB v)) ∧ w.grownBy w' none := by
 unfold inst
 go_enter Tryz.func107, Tryz.ntmps107
 go_wp2
 all_goals
  go_ret
  refine ⟨ret_bool ?_, gal⟩
  unfold Cc.sclB
  first | rfl | (simp_all; done)
theorem rbinary_at (op a b c k sub sc imm lb : Int) (w : World) :
  Calls Tryz.prog 103 #[.agg #[.int .i64 op, .int .i64 a, .int .i64 b, .int .i64 c, .int .i64 k, .int .i64 sub, .int .i64 sc, .int .i64 imm, .int .i64 lb]] w fun e w' => e = .returned (.bool (Cc.binB ⟨op, a, b, c, k, sub, sc, imm, lb⟩)) ∧ w.grownBy w' none := rbinary_any ⟨op, a, b, c, k, sub, sc, imm, lb⟩ w
theorem rscaled_at (op a b c k sub sc imm lb : Int) (w : World) :
  Calls Tryz.prog 107 #[.agg #[.int .i64 op, .int .i64 a, .int .i64 b, .int .i64 c, .int .i64 k, .int .i64 sub, .int .i64 sc, .int .i64 imm, .int .i64 lb]] w fun e w' => e = .returned (.bool (Cc.sclB ⟨op, a, b, c, k, sub, sc, imm, lb⟩)) ∧ w.grownBy w' none := rscaled_any ⟨op, a, b, c, k, sub, sc, imm, lb⟩ w
end Go.Proofs.YtkiockffejlnhaaGreatDoor
