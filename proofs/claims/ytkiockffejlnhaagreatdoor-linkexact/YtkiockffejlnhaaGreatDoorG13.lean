/- An instruction's bytes by its target's encoder; the laws' table of bits kept; numbers appended to numbers. -/
import Derived.Test.YtkiockffejlnhaaGreatDoorG12
import Derived.Laws.AppendOwnNone
namespace Go.Proofs.YtkiockffejlnhaaGreatDoor
open Go.RowKit
set_option linter.unusedVariables false
theorem TabAt.ch {w w' : World} {l : List Nat} (h : TabAt w) (hg : Ch w w' l) (hl : 2 ∉ l) : TabAt w' := ⟨Nat.lt_of_lt_of_le h.1 hg.size, fun i hi => hg.cell (h.2 i hi) hl⟩
theorem enc_r (v : InV) (W : World) (hr : InRng v) (hm : Ru.mayT 1 v = true) :
  Calls Tryz.prog 60 #[.agg #[.int .i64 v.op, .int .i64 v.a, .int .i64 v.b, .int .i64 v.c, .int .i64 v.k, .int .i64 v.sub, .int .i64 v.scale, .int .i64 v.imm, .int .i64 v.label]] W fun e w' => ∃ T' c', e = .returned (.tuple #[.slice (some ⟨T', 0, none⟩) (Ru.encT 1 v).length c', .int .i64 0]) ∧ OwnL w' W.heap.size (.slice (some ⟨T', 0, none⟩) (Ru.encT 1 v).length c') (Ru.encT 1 v) ∧ W.grownBy w' none := by
 unfold Ru.mayT at hm
 rw [if_pos rfl] at hm
 have e1 : Ru.encT 1 v = (List.range 8).map (Rc.enc v) := by unfold Ru.encT; rw [if_pos rfl]
 have el : (Ru.encT 1 v).length = 8 := by rw [e1]; simp
 refine (encode_ok v W hr.i1 hr.i2 hm).mono ?_
 rintro e w' ⟨T, rfl, ho, hg⟩
 rw [el]
 refine ⟨T, 8, rfl, ?_, hg⟩
 rw [e1]
 exact ho.toL
theorem enc_c (v : InV) (W : World) (hT : TabAt W) (hr : InRng v) (hm : Ru.mayT 2 v = true) :
  Calls Tryz.prog 61 #[.agg #[.int .i64 v.op, .int .i64 v.a, .int .i64 v.b, .int .i64 v.c, .int .i64 v.k, .int .i64 v.sub, .int .i64 v.scale, .int .i64 v.imm, .int .i64 v.label]] W fun e w' => ∃ T' c', e = .returned (.tuple #[.slice (some ⟨T', 0, none⟩) (Ru.encT 2 v).length c', .int .i64 0]) ∧ OwnL w' W.heap.size (.slice (some ⟨T', 0, none⟩) (Ru.encT 2 v).length c') (Ru.encT 2 v) ∧ W.grownBy w' none := by
 have hpos := (Ru.encT_len 2 v).1
 unfold Ru.mayT at hm
 rw [if_neg (by decide)] at hm
 have e1 : Ru.encT 2 v = Cc.enc v := by unfold Ru.encT; rw [if_neg (by decide)]
 refine (cencode_ok v W hT hr hm).mono ?_
 rintro e w' ⟨x, rfl, ho, hg⟩
 rw [e1] at hpos ⊢
 obtain ⟨T, c, rfl, _, _⟩ := own_slice ho.toB hpos
 exact ⟨T, c, rfl, ho, hg⟩
theorem enc_rn (v : InV) (W : World) (hr : InRng v) (hm : Ru.mayT 1 v = false) :
  Calls Tryz.prog 60 #[.agg #[.int .i64 v.op, .int .i64 v.a, .int .i64 v.b, .int .i64 v.c, .int .i64 v.k, .int .i64 v.sub, .int .i64 v.scale, .int .i64 v.imm, .int .i64 v.label]] W fun e w' => e = .returned (.tuple #[.slice none 0 0, .int .i64 30]) ∧ W.grownBy w' none := by
 unfold Ru.mayT at hm
 rw [if_pos rfl] at hm
 exact encode_no v W hr.i1 hr.i2 hm
theorem enc_cn (v : InV) (W : World) (hT : TabAt W) (hr : InRng v) (hm : Ru.mayT 2 v = false) :
  Calls Tryz.prog 61 #[.agg #[.int .i64 v.op, .int .i64 v.a, .int .i64 v.b, .int .i64 v.c, .int .i64 v.k, .int .i64 v.sub, .int .i64 v.scale, .int .i64 v.imm, .int .i64 v.label]] W fun e w' => e = .returned (.tuple #[.slice none 0 0, .int .i64 40]) ∧ W.grownBy w' none := by
 unfold Ru.mayT at hm
 rw [if_neg (by decide)] at hm
 exact cencode_no v W hT hr hm
end Go.Proofs.YtkiockffejlnhaaGreatDoor
