/- risc.Encode: its contract. -/
import Derived.Test.YtkpmhgkljedapaaRcJ
import Derived.Deep.Onto
namespace Go.Proofs.Ytkpmhgkljedapaa
open Go.RowKit
set_option linter.unusedVariables false

theorem pack_x (v : InV) (w : World) : Calls Try.prog 16 #[inst v] w fun e w' => e = .returned (.agg #[.int .i64 (Rc.pk v).code, .int .i64 (Rc.pk v).a, .int .i64 (Rc.pk v).b, .int .i64 (Rc.pk v).c, .int .i64 (Rc.pk v).n]) ∧ w.grownBy w' none := pack_any v w
theorem OwnB.congr {w : World} {base n : Nat} {v : Value} {g g' : Nat → Int} (h : OwnB w base v n g) (e : ∀ i, i < n → g i = g' i) : OwnB w base v n g' := by
  have : bytesL n g = bytesL n g' := by
    unfold bytesL
    exact List.map_congr_left fun i hi => by rw [e i (List.mem_range.1 hi)]
  unfold OwnB at *
  rw [← this]; exact h

set_option maxHeartbeats 8000000 in
theorem encode_no (v : InV) (w : World) (h1 : -9223372036854775808 ≤ v.imm) (h2 : v.imm ≤ 9223372036854775807) (hm : Rc.mayB v = false) :
    Calls Try.prog 6 #[inst v] w fun e w' => e = .returned (.tuple #[.slice none 0 0, .int .i64 30]) ∧ w.grownBy w' none := by
  have r := Rc.pk_rng h1 h2
  have HA : Hid (false = true ↔ Rc.Ag v (Rc.pk v)) := by
    show _ ↔ _
    rw [← hm]; exact Rc.ag_may v
  have c0 : (w.alloc (Obj.cells #[.int .i64 v.op, .int .i64 v.a, .int .i64 v.b, .int .i64 v.c, .int .i64 v.k, .int .i64 v.sub, .int .i64 v.scale, .int .i64 v.imm, .int .i64 v.label] 28)).cell? ⟨w.heap.size, 0, none⟩ = some (.int .i64 v.op) := by simp
  have c1 : (w.alloc (Obj.cells #[.int .i64 v.op, .int .i64 v.a, .int .i64 v.b, .int .i64 v.c, .int .i64 v.k, .int .i64 v.sub, .int .i64 v.scale, .int .i64 v.imm, .int .i64 v.label] 28)).cell? ⟨w.heap.size, 1, none⟩ = some (.int .i64 v.a) := by simp
  have c2 : (w.alloc (Obj.cells #[.int .i64 v.op, .int .i64 v.a, .int .i64 v.b, .int .i64 v.c, .int .i64 v.k, .int .i64 v.sub, .int .i64 v.scale, .int .i64 v.imm, .int .i64 v.label] 28)).cell? ⟨w.heap.size, 2, none⟩ = some (.int .i64 v.b) := by simp
  have c3 : (w.alloc (Obj.cells #[.int .i64 v.op, .int .i64 v.a, .int .i64 v.b, .int .i64 v.c, .int .i64 v.k, .int .i64 v.sub, .int .i64 v.scale, .int .i64 v.imm, .int .i64 v.label] 28)).cell? ⟨w.heap.size, 3, none⟩ = some (.int .i64 v.c) := by simp
  have c4 : (w.alloc (Obj.cells #[.int .i64 v.op, .int .i64 v.a, .int .i64 v.b, .int .i64 v.c, .int .i64 v.k, .int .i64 v.sub, .int .i64 v.scale, .int .i64 v.imm, .int .i64 v.label] 28)).cell? ⟨w.heap.size, 4, none⟩ = some (.int .i64 v.k) := by simp
  have c5 : (w.alloc (Obj.cells #[.int .i64 v.op, .int .i64 v.a, .int .i64 v.b, .int .i64 v.c, .int .i64 v.k, .int .i64 v.sub, .int .i64 v.scale, .int .i64 v.imm, .int .i64 v.label] 28)).cell? ⟨w.heap.size, 5, none⟩ = some (.int .i64 v.sub) := by simp
  have c6 : (w.alloc (Obj.cells #[.int .i64 v.op, .int .i64 v.a, .int .i64 v.b, .int .i64 v.c, .int .i64 v.k, .int .i64 v.sub, .int .i64 v.scale, .int .i64 v.imm, .int .i64 v.label] 28)).cell? ⟨w.heap.size, 6, none⟩ = some (.int .i64 v.scale) := by simp
  have c7 : (w.alloc (Obj.cells #[.int .i64 v.op, .int .i64 v.a, .int .i64 v.b, .int .i64 v.c, .int .i64 v.k, .int .i64 v.sub, .int .i64 v.scale, .int .i64 v.imm, .int .i64 v.label] 28)).cell? ⟨w.heap.size, 7, none⟩ = some (.int .i64 v.imm) := by simp
  have c8 : (w.alloc (Obj.cells #[.int .i64 v.op, .int .i64 v.a, .int .i64 v.b, .int .i64 v.c, .int .i64 v.k, .int .i64 v.sub, .int .i64 v.scale, .int .i64 v.imm, .int .i64 v.label] 28)).cell? ⟨w.heap.size, 8, none⟩ = some (.int .i64 v.label) := by simp
  have hb0 := World.grownBy_alloc w (Obj.cells #[.int .i64 v.op, .int .i64 v.a, .int .i64 v.b, .int .i64 v.c, .int .i64 v.k, .int .i64 v.sub, .int .i64 v.scale, .int .i64 v.imm, .int .i64 v.label] 28) none
  unfold inst
  go_enter Try.func6, Try.ntmps6
  go_wp2_with (first
    | (go_at_call 16; refine (pack_x v _).mono ?_; rintro e w1 ⟨rfl, hg1⟩; have i0 := (World.grownBy_alloc w1 (Obj.cells #[.int .i64 (Rc.pk v).code, .int .i64 (Rc.pk v).a, .int .i64 (Rc.pk v).b, .int .i64 (Rc.pk v).c, .int .i64 (Rc.pk v).n] 44) none).cell (hg1.cell c0 (by simp)) (by simp); have i1 := (World.grownBy_alloc w1 (Obj.cells #[.int .i64 (Rc.pk v).code, .int .i64 (Rc.pk v).a, .int .i64 (Rc.pk v).b, .int .i64 (Rc.pk v).c, .int .i64 (Rc.pk v).n] 44) none).cell (hg1.cell c1 (by simp)) (by simp); have i2 := (World.grownBy_alloc w1 (Obj.cells #[.int .i64 (Rc.pk v).code, .int .i64 (Rc.pk v).a, .int .i64 (Rc.pk v).b, .int .i64 (Rc.pk v).c, .int .i64 (Rc.pk v).n] 44) none).cell (hg1.cell c2 (by simp)) (by simp); have i3 := (World.grownBy_alloc w1 (Obj.cells #[.int .i64 (Rc.pk v).code, .int .i64 (Rc.pk v).a, .int .i64 (Rc.pk v).b, .int .i64 (Rc.pk v).c, .int .i64 (Rc.pk v).n] 44) none).cell (hg1.cell c3 (by simp)) (by simp); have i4 := (World.grownBy_alloc w1 (Obj.cells #[.int .i64 (Rc.pk v).code, .int .i64 (Rc.pk v).a, .int .i64 (Rc.pk v).b, .int .i64 (Rc.pk v).c, .int .i64 (Rc.pk v).n] 44) none).cell (hg1.cell c4 (by simp)) (by simp); have i5 := (World.grownBy_alloc w1 (Obj.cells #[.int .i64 (Rc.pk v).code, .int .i64 (Rc.pk v).a, .int .i64 (Rc.pk v).b, .int .i64 (Rc.pk v).c, .int .i64 (Rc.pk v).n] 44) none).cell (hg1.cell c5 (by simp)) (by simp); have i6 := (World.grownBy_alloc w1 (Obj.cells #[.int .i64 (Rc.pk v).code, .int .i64 (Rc.pk v).a, .int .i64 (Rc.pk v).b, .int .i64 (Rc.pk v).c, .int .i64 (Rc.pk v).n] 44) none).cell (hg1.cell c6 (by simp)) (by simp); have i7 := (World.grownBy_alloc w1 (Obj.cells #[.int .i64 (Rc.pk v).code, .int .i64 (Rc.pk v).a, .int .i64 (Rc.pk v).b, .int .i64 (Rc.pk v).c, .int .i64 (Rc.pk v).n] 44) none).cell (hg1.cell c7 (by simp)) (by simp); have i8 := (World.grownBy_alloc w1 (Obj.cells #[.int .i64 (Rc.pk v).code, .int .i64 (Rc.pk v).a, .int .i64 (Rc.pk v).b, .int .i64 (Rc.pk v).c, .int .i64 (Rc.pk v).n] 44) none).cell (hg1.cell c8 (by simp)) (by simp))
    | (go_at_call 17; refine (agree_any v (Rc.pk v) _ r.1 r.2 false HA.out).mono ?_; rintro e w2 ⟨rfl, hg2⟩))
  go_ret2
  exact ⟨rfl, grown_trans (grown_trans (grown_trans hb0 hg1) (World.grownBy_alloc _ _ _)) hg2⟩

set_option maxHeartbeats 8000000 in
theorem encode_ok (v : InV) (w : World) (h1 : -9223372036854775808 ≤ v.imm) (h2 : v.imm ≤ 9223372036854775807) (hm : Rc.mayB v = true) :
    Calls Try.prog 6 #[inst v] w fun e w' => ∃ T, e = .returned (.tuple #[.slice (some ⟨T, 0, none⟩) 8 8, .int .i64 0]) ∧ OwnB w' w.heap.size (.slice (some ⟨T, 0, none⟩) 8 8) 8 (Rc.enc v) ∧ w.grownBy w' none := by
  have r := Rc.pk_rng h1 h2
  have HA : Hid (Rc.Ag v (Rc.pk v)) := (Rc.ag_may v).1 hm
  have HE : Hid (∀ i, i < 8 → Rc.fb (Rc.pk v) i = Rc.enc v i) := Rc.fb_enc hm
  have c0 : (w.alloc (Obj.cells #[.int .i64 v.op, .int .i64 v.a, .int .i64 v.b, .int .i64 v.c, .int .i64 v.k, .int .i64 v.sub, .int .i64 v.scale, .int .i64 v.imm, .int .i64 v.label] 28)).cell? ⟨w.heap.size, 0, none⟩ = some (.int .i64 v.op) := by simp
  have c1 : (w.alloc (Obj.cells #[.int .i64 v.op, .int .i64 v.a, .int .i64 v.b, .int .i64 v.c, .int .i64 v.k, .int .i64 v.sub, .int .i64 v.scale, .int .i64 v.imm, .int .i64 v.label] 28)).cell? ⟨w.heap.size, 1, none⟩ = some (.int .i64 v.a) := by simp
  have c2 : (w.alloc (Obj.cells #[.int .i64 v.op, .int .i64 v.a, .int .i64 v.b, .int .i64 v.c, .int .i64 v.k, .int .i64 v.sub, .int .i64 v.scale, .int .i64 v.imm, .int .i64 v.label] 28)).cell? ⟨w.heap.size, 2, none⟩ = some (.int .i64 v.b) := by simp
  have c3 : (w.alloc (Obj.cells #[.int .i64 v.op, .int .i64 v.a, .int .i64 v.b, .int .i64 v.c, .int .i64 v.k, .int .i64 v.sub, .int .i64 v.scale, .int .i64 v.imm, .int .i64 v.label] 28)).cell? ⟨w.heap.size, 3, none⟩ = some (.int .i64 v.c) := by simp
  have c4 : (w.alloc (Obj.cells #[.int .i64 v.op, .int .i64 v.a, .int .i64 v.b, .int .i64 v.c, .int .i64 v.k, .int .i64 v.sub, .int .i64 v.scale, .int .i64 v.imm, .int .i64 v.label] 28)).cell? ⟨w.heap.size, 4, none⟩ = some (.int .i64 v.k) := by simp
  have c5 : (w.alloc (Obj.cells #[.int .i64 v.op, .int .i64 v.a, .int .i64 v.b, .int .i64 v.c, .int .i64 v.k, .int .i64 v.sub, .int .i64 v.scale, .int .i64 v.imm, .int .i64 v.label] 28)).cell? ⟨w.heap.size, 5, none⟩ = some (.int .i64 v.sub) := by simp
  have c6 : (w.alloc (Obj.cells #[.int .i64 v.op, .int .i64 v.a, .int .i64 v.b, .int .i64 v.c, .int .i64 v.k, .int .i64 v.sub, .int .i64 v.scale, .int .i64 v.imm, .int .i64 v.label] 28)).cell? ⟨w.heap.size, 6, none⟩ = some (.int .i64 v.scale) := by simp
  have c7 : (w.alloc (Obj.cells #[.int .i64 v.op, .int .i64 v.a, .int .i64 v.b, .int .i64 v.c, .int .i64 v.k, .int .i64 v.sub, .int .i64 v.scale, .int .i64 v.imm, .int .i64 v.label] 28)).cell? ⟨w.heap.size, 7, none⟩ = some (.int .i64 v.imm) := by simp
  have c8 : (w.alloc (Obj.cells #[.int .i64 v.op, .int .i64 v.a, .int .i64 v.b, .int .i64 v.c, .int .i64 v.k, .int .i64 v.sub, .int .i64 v.scale, .int .i64 v.imm, .int .i64 v.label] 28)).cell? ⟨w.heap.size, 8, none⟩ = some (.int .i64 v.label) := by simp
  have hb0 := World.grownBy_alloc w (Obj.cells #[.int .i64 v.op, .int .i64 v.a, .int .i64 v.b, .int .i64 v.c, .int .i64 v.k, .int .i64 v.sub, .int .i64 v.scale, .int .i64 v.imm, .int .i64 v.label] 28) none
  unfold inst
  go_enter Try.func6, Try.ntmps6
  go_wp2_with (first
    | (go_at_call 16; refine (pack_x v _).mono ?_; rintro e w1 ⟨rfl, hg1⟩; have i0 := (World.grownBy_alloc w1 (Obj.cells #[.int .i64 (Rc.pk v).code, .int .i64 (Rc.pk v).a, .int .i64 (Rc.pk v).b, .int .i64 (Rc.pk v).c, .int .i64 (Rc.pk v).n] 44) none).cell (hg1.cell c0 (by simp)) (by simp); have i1 := (World.grownBy_alloc w1 (Obj.cells #[.int .i64 (Rc.pk v).code, .int .i64 (Rc.pk v).a, .int .i64 (Rc.pk v).b, .int .i64 (Rc.pk v).c, .int .i64 (Rc.pk v).n] 44) none).cell (hg1.cell c1 (by simp)) (by simp); have i2 := (World.grownBy_alloc w1 (Obj.cells #[.int .i64 (Rc.pk v).code, .int .i64 (Rc.pk v).a, .int .i64 (Rc.pk v).b, .int .i64 (Rc.pk v).c, .int .i64 (Rc.pk v).n] 44) none).cell (hg1.cell c2 (by simp)) (by simp); have i3 := (World.grownBy_alloc w1 (Obj.cells #[.int .i64 (Rc.pk v).code, .int .i64 (Rc.pk v).a, .int .i64 (Rc.pk v).b, .int .i64 (Rc.pk v).c, .int .i64 (Rc.pk v).n] 44) none).cell (hg1.cell c3 (by simp)) (by simp); have i4 := (World.grownBy_alloc w1 (Obj.cells #[.int .i64 (Rc.pk v).code, .int .i64 (Rc.pk v).a, .int .i64 (Rc.pk v).b, .int .i64 (Rc.pk v).c, .int .i64 (Rc.pk v).n] 44) none).cell (hg1.cell c4 (by simp)) (by simp); have i5 := (World.grownBy_alloc w1 (Obj.cells #[.int .i64 (Rc.pk v).code, .int .i64 (Rc.pk v).a, .int .i64 (Rc.pk v).b, .int .i64 (Rc.pk v).c, .int .i64 (Rc.pk v).n] 44) none).cell (hg1.cell c5 (by simp)) (by simp); have i6 := (World.grownBy_alloc w1 (Obj.cells #[.int .i64 (Rc.pk v).code, .int .i64 (Rc.pk v).a, .int .i64 (Rc.pk v).b, .int .i64 (Rc.pk v).c, .int .i64 (Rc.pk v).n] 44) none).cell (hg1.cell c6 (by simp)) (by simp); have i7 := (World.grownBy_alloc w1 (Obj.cells #[.int .i64 (Rc.pk v).code, .int .i64 (Rc.pk v).a, .int .i64 (Rc.pk v).b, .int .i64 (Rc.pk v).c, .int .i64 (Rc.pk v).n] 44) none).cell (hg1.cell c7 (by simp)) (by simp); have i8 := (World.grownBy_alloc w1 (Obj.cells #[.int .i64 (Rc.pk v).code, .int .i64 (Rc.pk v).a, .int .i64 (Rc.pk v).b, .int .i64 (Rc.pk v).c, .int .i64 (Rc.pk v).n] 44) none).cell (hg1.cell c8 (by simp)) (by simp))
    | (go_at_call 17; refine (agree_any v (Rc.pk v) _ r.1 r.2 true ⟨fun _ => HA.out, fun _ => rfl⟩).mono ?_; rintro e w2 ⟨rfl, hg2⟩; have j0 : w2.cell? ⟨w1.heap.size, 0, none⟩ = some (.int .i64 (Rc.pk v).code) := hg2.cell (by simp) (by simp); have j1 : w2.cell? ⟨w1.heap.size, 1, none⟩ = some (.int .i64 (Rc.pk v).a) := hg2.cell (by simp) (by simp); have j2 : w2.cell? ⟨w1.heap.size, 2, none⟩ = some (.int .i64 (Rc.pk v).b) := hg2.cell (by simp) (by simp); have j3 : w2.cell? ⟨w1.heap.size, 3, none⟩ = some (.int .i64 (Rc.pk v).c) := hg2.cell (by simp) (by simp); have j4 : w2.cell? ⟨w1.heap.size, 4, none⟩ = some (.int .i64 (Rc.pk v).n) := hg2.cell (by simp) (by simp))
    | (go_at_call 18; refine (fbytes_any (Rc.pk v) _).mono ?_; rintro e w3 ⟨T, rfl, ho3, hg3⟩))
  go_ret2
  have g2 := grown_trans (grown_trans (grown_trans hb0 hg1) (World.grownBy_alloc _ _ _)) hg2
  exact ⟨T, rfl, World.ownsRow.mono (ho3.congr HE.out) g2.size, grown_trans g2 hg3⟩

end Go.Proofs.Ytkpmhgkljedapaa
