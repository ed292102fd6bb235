/- Contracts and plain facts that the walks share, text by text: RcL, LkFar, CeWake, LkWake. -/
import Derived.Test.YtkiockffejlnhaaGreatDoorG15
import Derived.Test.YtkiockffejlnhaaGreatDoorLkLink
import Derived.Test.YtkiockffejlnhaaGreatDoorG14
import Derived.Deep.AppendLies
/- risc.Decode: its contract. -/
namespace Go.Proofs.YtkiockffejlnhaaGreatDoor
open Go.RowKit
set_option linter.unusedVariables false
theorem formOf_x (b off n cap : Nat) (g : Nat → Int) (w : World) (hn : 8 ≤ n) (hnc : n ≤ cap) (hg : Mm.Fit g) (hc : ∀ i, i < n → w.cell? ⟨b, off + i, none⟩ = some (.int .u8 (g i))) :
    Calls Tryz.prog 55 #[.slice (some ⟨b, off, none⟩) n cap] w fun e w' => e = .returned (.agg #[.int .i64 (Rc.fo g).code, .int .i64 (Rc.fo g).a, .int .i64 (Rc.fo g).b, .int .i64 (Rc.fo g).c, .int .i64 (Rc.fo g).n]) ∧ w.grownBy w' none := formOf_any b off n cap g w hn hnc hg hc
theorem unpack_x (g : Nat → Int) (w : World) :
    Calls Tryz.prog 56 #[formv (Rc.fo g)] w fun e w' => e = .returned (.agg #[.int .i64 (Rc.unpk (Rc.fo g)).op, .int .i64 (Rc.unpk (Rc.fo g)).a, .int .i64 (Rc.unpk (Rc.fo g)).b, .int .i64 (Rc.unpk (Rc.fo g)).c, .int .i64 (Rc.unpk (Rc.fo g)).k, .int .i64 (Rc.unpk (Rc.fo g)).sub, .int .i64 (Rc.unpk (Rc.fo g)).scale, .int .i64 (Rc.unpk (Rc.fo g)).imm, .int .i64 (Rc.unpk (Rc.fo g)).label]) ∧ w.grownBy w' none := by
  have r := Rc.s32_rng (Mm.ld g 4 4)
  exact unpack_any (Rc.fo g) w (by show _ ≤ Rc.s32 _; omega) (by show Rc.s32 _ ≤ _; omega)
theorem agree_x (g : Nat → Int) (hg : Mm.Fit g) (w : World) :
    Calls Tryz.prog 57 #[inst (Rc.unpk (Rc.fo g)), formv (Rc.fo g)] w fun e w' => e = .returned (.bool (Rc.okB g)) ∧ w.grownBy w' none := by
  have r := Rc.s32_rng (Mm.ld g 4 4)
  exact agree_any _ _ w (by show _ ≤ Rc.s32 _; omega) (by show Rc.s32 _ ≤ _; omega) (Rc.okB g) (Rc.ag_ok hg)
set_option maxHeartbeats 8000000 in
theorem decode_ok (b off n cap : Nat) (g : Nat → Int) (w : World) (hn : 8 ≤ n) (hnc : n ≤ cap) (hg : Mm.Fit g) (hc : ∀ i, i < n → w.cell? ⟨b, off + i, none⟩ = some (.int .u8 (g i))) (ho : Rc.okB g = true) :
    Calls Tryz.prog 34 #[.slice (some ⟨b, off, none⟩) n cap] w fun e w' => e = .returned (.tuple #[inst (Rc.rd g), .int .i64 8, .int .i64 0]) ∧ w.grownBy w' none := by
  have HC : Hid (∀ i, i < n → (w.alloc (Obj.cells #[.int .i64 0, .int .i64 0, .int .i64 0, .int .i64 0, .int .i64 0, .int .i64 0, .int .i64 0, .int .i64 0, .int .i64 0] 50)).cell? ⟨b, off + i, none⟩ = some (.int .u8 (g i))) := fun i hi => (World.grownBy_alloc w (Obj.cells #[.int .i64 0, .int .i64 0, .int .i64 0, .int .i64 0, .int .i64 0, .int .i64 0, .int .i64 0, .int .i64 0, .int .i64 0] 50) none).cell (hc i hi) (by simp)
  have c0 : (w.alloc (Obj.cells #[.int .i64 0, .int .i64 0, .int .i64 0, .int .i64 0, .int .i64 0, .int .i64 0, .int .i64 0, .int .i64 0, .int .i64 0] 50)).cell? ⟨w.heap.size, 0, none⟩ = some (.int .i64 0) := by simp
  have c1 : (w.alloc (Obj.cells #[.int .i64 0, .int .i64 0, .int .i64 0, .int .i64 0, .int .i64 0, .int .i64 0, .int .i64 0, .int .i64 0, .int .i64 0] 50)).cell? ⟨w.heap.size, 1, none⟩ = some (.int .i64 0) := by simp
  have c2 : (w.alloc (Obj.cells #[.int .i64 0, .int .i64 0, .int .i64 0, .int .i64 0, .int .i64 0, .int .i64 0, .int .i64 0, .int .i64 0, .int .i64 0] 50)).cell? ⟨w.heap.size, 2, none⟩ = some (.int .i64 0) := by simp
  have c3 : (w.alloc (Obj.cells #[.int .i64 0, .int .i64 0, .int .i64 0, .int .i64 0, .int .i64 0, .int .i64 0, .int .i64 0, .int .i64 0, .int .i64 0] 50)).cell? ⟨w.heap.size, 3, none⟩ = some (.int .i64 0) := by simp
  have c4 : (w.alloc (Obj.cells #[.int .i64 0, .int .i64 0, .int .i64 0, .int .i64 0, .int .i64 0, .int .i64 0, .int .i64 0, .int .i64 0, .int .i64 0] 50)).cell? ⟨w.heap.size, 4, none⟩ = some (.int .i64 0) := by simp
  have c5 : (w.alloc (Obj.cells #[.int .i64 0, .int .i64 0, .int .i64 0, .int .i64 0, .int .i64 0, .int .i64 0, .int .i64 0, .int .i64 0, .int .i64 0] 50)).cell? ⟨w.heap.size, 5, none⟩ = some (.int .i64 0) := by simp
  have c6 : (w.alloc (Obj.cells #[.int .i64 0, .int .i64 0, .int .i64 0, .int .i64 0, .int .i64 0, .int .i64 0, .int .i64 0, .int .i64 0, .int .i64 0] 50)).cell? ⟨w.heap.size, 6, none⟩ = some (.int .i64 0) := by simp
  have c7 : (w.alloc (Obj.cells #[.int .i64 0, .int .i64 0, .int .i64 0, .int .i64 0, .int .i64 0, .int .i64 0, .int .i64 0, .int .i64 0, .int .i64 0] 50)).cell? ⟨w.heap.size, 7, none⟩ = some (.int .i64 0) := by simp
  have c8 : (w.alloc (Obj.cells #[.int .i64 0, .int .i64 0, .int .i64 0, .int .i64 0, .int .i64 0, .int .i64 0, .int .i64 0, .int .i64 0, .int .i64 0] 50)).cell? ⟨w.heap.size, 8, none⟩ = some (.int .i64 0) := by simp
  have q0 : (w.alloc (Obj.cells #[.int .i64 0, .int .i64 0, .int .i64 0, .int .i64 0, .int .i64 0, .int .i64 0, .int .i64 0, .int .i64 0, .int .i64 0] 50)).frozen? ⟨w.heap.size, 0, none⟩ = false := by simp
  have q1 : (w.alloc (Obj.cells #[.int .i64 0, .int .i64 0, .int .i64 0, .int .i64 0, .int .i64 0, .int .i64 0, .int .i64 0, .int .i64 0, .int .i64 0] 50)).frozen? ⟨w.heap.size, 1, none⟩ = false := by simp
  have q2 : (w.alloc (Obj.cells #[.int .i64 0, .int .i64 0, .int .i64 0, .int .i64 0, .int .i64 0, .int .i64 0, .int .i64 0, .int .i64 0, .int .i64 0] 50)).frozen? ⟨w.heap.size, 2, none⟩ = false := by simp
  have q3 : (w.alloc (Obj.cells #[.int .i64 0, .int .i64 0, .int .i64 0, .int .i64 0, .int .i64 0, .int .i64 0, .int .i64 0, .int .i64 0, .int .i64 0] 50)).frozen? ⟨w.heap.size, 3, none⟩ = false := by simp
  have q4 : (w.alloc (Obj.cells #[.int .i64 0, .int .i64 0, .int .i64 0, .int .i64 0, .int .i64 0, .int .i64 0, .int .i64 0, .int .i64 0, .int .i64 0] 50)).frozen? ⟨w.heap.size, 4, none⟩ = false := by simp
  have q5 : (w.alloc (Obj.cells #[.int .i64 0, .int .i64 0, .int .i64 0, .int .i64 0, .int .i64 0, .int .i64 0, .int .i64 0, .int .i64 0, .int .i64 0] 50)).frozen? ⟨w.heap.size, 5, none⟩ = false := by simp
  have q6 : (w.alloc (Obj.cells #[.int .i64 0, .int .i64 0, .int .i64 0, .int .i64 0, .int .i64 0, .int .i64 0, .int .i64 0, .int .i64 0, .int .i64 0] 50)).frozen? ⟨w.heap.size, 6, none⟩ = false := by simp
  have q7 : (w.alloc (Obj.cells #[.int .i64 0, .int .i64 0, .int .i64 0, .int .i64 0, .int .i64 0, .int .i64 0, .int .i64 0, .int .i64 0, .int .i64 0] 50)).frozen? ⟨w.heap.size, 7, none⟩ = false := by simp
  have q8 : (w.alloc (Obj.cells #[.int .i64 0, .int .i64 0, .int .i64 0, .int .i64 0, .int .i64 0, .int .i64 0, .int .i64 0, .int .i64 0, .int .i64 0] 50)).frozen? ⟨w.heap.size, 8, none⟩ = false := by simp
  have hz : w.heap.size < (w.alloc (Obj.cells #[.int .i64 0, .int .i64 0, .int .i64 0, .int .i64 0, .int .i64 0, .int .i64 0, .int .i64 0, .int .i64 0, .int .i64 0] 50)).heap.size := by rw [size_alloc]; omega
  have l8 : ¬ ((n : Int) < 8) := by omega
  have hb0 := World.grownBy_alloc w (Obj.cells #[.int .i64 0, .int .i64 0, .int .i64 0, .int .i64 0, .int .i64 0, .int .i64 0, .int .i64 0, .int .i64 0, .int .i64 0] 50) none
  clear hc
  go_enter Tryz.func34, Tryz.ntmps34
  go_wp2_with fail
  generalize w.alloc (Obj.cells #[.int .i64 0, .int .i64 0, .int .i64 0, .int .i64 0, .int .i64 0, .int .i64 0, .int .i64 0, .int .i64 0, .int .i64 0] 50) = W0 at *
  refine (formOf_x b off n cap g _ hn hnc hg HC.out).mono ?_
  rintro e w1 ⟨rfl, hg1⟩
  clear HC
  have hA := World.grownBy_alloc w1 (Obj.cells #[.int .i64 (Rc.fo g).code, .int .i64 (Rc.fo g).a, .int .i64 (Rc.fo g).b, .int .i64 (Rc.fo g).c, .int .i64 (Rc.fo g).n] 97) none
  go_wp2_with (go_at_call 56; refine (unpack_x g _).mono ?_; rintro e w2 ⟨rfl, hg2⟩; have f0 := (World.grownBy_alloc w2 (Obj.cells #[.int .i64 (Rc.unpk (Rc.fo g)).op, .int .i64 (Rc.unpk (Rc.fo g)).a, .int .i64 (Rc.unpk (Rc.fo g)).b, .int .i64 (Rc.unpk (Rc.fo g)).c, .int .i64 (Rc.unpk (Rc.fo g)).k, .int .i64 (Rc.unpk (Rc.fo g)).sub, .int .i64 (Rc.unpk (Rc.fo g)).scale, .int .i64 (Rc.unpk (Rc.fo g)).imm, .int .i64 (Rc.unpk (Rc.fo g)).label] 50) none).cell (hg2.cell (a := ⟨w1.heap.size, 0, none⟩) (v := .int .i64 (Rc.fo g).code) (by simp) (by simp)) (by simp); have f1 := (World.grownBy_alloc w2 (Obj.cells #[.int .i64 (Rc.unpk (Rc.fo g)).op, .int .i64 (Rc.unpk (Rc.fo g)).a, .int .i64 (Rc.unpk (Rc.fo g)).b, .int .i64 (Rc.unpk (Rc.fo g)).c, .int .i64 (Rc.unpk (Rc.fo g)).k, .int .i64 (Rc.unpk (Rc.fo g)).sub, .int .i64 (Rc.unpk (Rc.fo g)).scale, .int .i64 (Rc.unpk (Rc.fo g)).imm, .int .i64 (Rc.unpk (Rc.fo g)).label] 50) none).cell (hg2.cell (a := ⟨w1.heap.size, 1, none⟩) (v := .int .i64 (Rc.fo g).a) (by simp) (by simp)) (by simp); have f2 := (World.grownBy_alloc w2 (Obj.cells #[.int .i64 (Rc.unpk (Rc.fo g)).op, .int .i64 (Rc.unpk (Rc.fo g)).a, .int .i64 (Rc.unpk (Rc.fo g)).b, .int .i64 (Rc.unpk (Rc.fo g)).c, .int .i64 (Rc.unpk (Rc.fo g)).k, .int .i64 (Rc.unpk (Rc.fo g)).sub, .int .i64 (Rc.unpk (Rc.fo g)).scale, .int .i64 (Rc.unpk (Rc.fo g)).imm, .int .i64 (Rc.unpk (Rc.fo g)).label] 50) none).cell (hg2.cell (a := ⟨w1.heap.size, 2, none⟩) (v := .int .i64 (Rc.fo g).b) (by simp) (by simp)) (by simp); have f3 := (World.grownBy_alloc w2 (Obj.cells #[.int .i64 (Rc.unpk (Rc.fo g)).op, .int .i64 (Rc.unpk (Rc.fo g)).a, .int .i64 (Rc.unpk (Rc.fo g)).b, .int .i64 (Rc.unpk (Rc.fo g)).c, .int .i64 (Rc.unpk (Rc.fo g)).k, .int .i64 (Rc.unpk (Rc.fo g)).sub, .int .i64 (Rc.unpk (Rc.fo g)).scale, .int .i64 (Rc.unpk (Rc.fo g)).imm, .int .i64 (Rc.unpk (Rc.fo g)).label] 50) none).cell (hg2.cell (a := ⟨w1.heap.size, 3, none⟩) (v := .int .i64 (Rc.fo g).c) (by simp) (by simp)) (by simp); have f4 := (World.grownBy_alloc w2 (Obj.cells #[.int .i64 (Rc.unpk (Rc.fo g)).op, .int .i64 (Rc.unpk (Rc.fo g)).a, .int .i64 (Rc.unpk (Rc.fo g)).b, .int .i64 (Rc.unpk (Rc.fo g)).c, .int .i64 (Rc.unpk (Rc.fo g)).k, .int .i64 (Rc.unpk (Rc.fo g)).sub, .int .i64 (Rc.unpk (Rc.fo g)).scale, .int .i64 (Rc.unpk (Rc.fo g)).imm, .int .i64 (Rc.unpk (Rc.fo g)).label] 50) none).cell (hg2.cell (a := ⟨w1.heap.size, 4, none⟩) (v := .int .i64 (Rc.fo g).n) (by simp) (by simp)) (by simp))
  refine (agree_x g hg _).mono ?_
  rw [ho]
  rintro e w3 ⟨rfl, hg3⟩
  have G : W0.grownBy w3 none := grown_trans (grown_trans (grown_trans (grown_trans hg1 hA) hg2) (World.grownBy_alloc _ _ _)) hg3
  have r0 := G.cell c0 (by simp)
  have s0 := (G.frozen_far ⟨w.heap.size, 0, none⟩ hz (by simp)).trans q0
  have r1 := G.cell c1 (by simp)
  have s1 := (G.frozen_far ⟨w.heap.size, 1, none⟩ hz (by simp)).trans q1
  have r2 := G.cell c2 (by simp)
  have s2 := (G.frozen_far ⟨w.heap.size, 2, none⟩ hz (by simp)).trans q2
  have r3 := G.cell c3 (by simp)
  have s3 := (G.frozen_far ⟨w.heap.size, 3, none⟩ hz (by simp)).trans q3
  have r4 := G.cell c4 (by simp)
  have s4 := (G.frozen_far ⟨w.heap.size, 4, none⟩ hz (by simp)).trans q4
  have r5 := G.cell c5 (by simp)
  have s5 := (G.frozen_far ⟨w.heap.size, 5, none⟩ hz (by simp)).trans q5
  have r6 := G.cell c6 (by simp)
  have s6 := (G.frozen_far ⟨w.heap.size, 6, none⟩ hz (by simp)).trans q6
  have r7 := G.cell c7 (by simp)
  have s7 := (G.frozen_far ⟨w.heap.size, 7, none⟩ hz (by simp)).trans q7
  have r8 := G.cell c8 (by simp)
  have s8 := (G.frozen_far ⟨w.heap.size, 8, none⟩ hz (by simp)).trans q8
  have i0 : w3.cell? ⟨w2.heap.size, 0, none⟩ = some (.int .i64 (Rc.unpk (Rc.fo g)).op) := hg3.cell (by simp) (by simp)
  have i1 : w3.cell? ⟨w2.heap.size, 1, none⟩ = some (.int .i64 (Rc.unpk (Rc.fo g)).a) := hg3.cell (by simp) (by simp)
  have i2 : w3.cell? ⟨w2.heap.size, 2, none⟩ = some (.int .i64 (Rc.unpk (Rc.fo g)).b) := hg3.cell (by simp) (by simp)
  have i3 : w3.cell? ⟨w2.heap.size, 3, none⟩ = some (.int .i64 (Rc.unpk (Rc.fo g)).c) := hg3.cell (by simp) (by simp)
  have i4 : w3.cell? ⟨w2.heap.size, 4, none⟩ = some (.int .i64 (Rc.unpk (Rc.fo g)).k) := hg3.cell (by simp) (by simp)
  have i5 : w3.cell? ⟨w2.heap.size, 5, none⟩ = some (.int .i64 (Rc.unpk (Rc.fo g)).sub) := hg3.cell (by simp) (by simp)
  have i6 : w3.cell? ⟨w2.heap.size, 6, none⟩ = some (.int .i64 (Rc.unpk (Rc.fo g)).scale) := hg3.cell (by simp) (by simp)
  have i7 : w3.cell? ⟨w2.heap.size, 7, none⟩ = some (.int .i64 (Rc.unpk (Rc.fo g)).imm) := hg3.cell (by simp) (by simp)
  have i8 : w3.cell? ⟨w2.heap.size, 8, none⟩ = some (.int .i64 (Rc.unpk (Rc.fo g)).label) := hg3.cell (by simp) (by simp)
  have HG : Hid (w.grownBy w3 none) := grown_trans hb0 G
  clear G hg1 hg2 hg3 hA hb0 hz f0 f1 f2 f3 f4 c0 q0 c1 q1 c2 q2 c3 q3 c4 q4 c5 q5 c6 q6 c7 q7 c8 q8
  go_wp2_with fail
  refine bodyPost_ret (by simp [results, Tryz.results34, go_sem, r0, r1, r2, r3, r4, r5, r6, r7, r8]; try rfl) rfl ?_
  refine ⟨(by rw [← Rc.unpk_ok ho]; rfl), ?_⟩
  repeat (refine gs ?_ _ _ (Nat.le_refl _))
  exact HG.out
end Go.Proofs.YtkiockffejlnhaaGreatDoor

/- Pieces of one jump and n returns: how long they are when linked. -/
namespace Go.Proofs.YtkiockffejlnhaaGreatDoor
open Go.RowKit
set_option linter.unusedVariables false
namespace Lk
def retV : InV := ⟨24, 0, 0, 0, 0, 0, 0, 0, 0⟩
def jmpV : InV := ⟨19, 0, 0, 0, 0, 0, 0, 0, 0⟩
theorem ret_may1 : Ru.mayT 1 (bare retV) = true := by decide
theorem ret_may2 : Ru.mayT 2 (bare retV) = true := by decide
theorem jmp_may1 : Ru.mayT 1 (bare jmpV) = true := by decide
theorem jmp_may2 : Ru.mayT 2 (bare jmpV) = true := by decide
theorem inst_ret {t : Int} (ht : t = 1 ∨ t = 2) (m p : Int) : instB t m p retV = true := by
  unfold instB
  have e : labB m p retV = true := by
    unfold labB
    rw [if_neg (by decide), if_neg (by decide)]
    rfl
  rw [e]
  rcases ht with rfl | rfl
  · rw [ret_may1]; rfl
  · rw [ret_may2]; rfl
theorem inst_jmp {t : Int} (ht : t = 1 ∨ t = 2) (p : Int) : instB t 1 p jmpV = true := by
  unfold instB
  have e : labB 1 p jmpV = true := by
    unfold labB
    rw [if_pos (by decide)]
    rfl
  rw [e]
  rcases ht with rfl | rfl
  · rw [jmp_may1]; rfl
  · rw [jmp_may2]; rfl
end Lk
end Go.Proofs.YtkiockffejlnhaaGreatDoor

/- gantrylaw4.wakes; bytes of one's own compared. -/
namespace Go.Proofs.YtkiockffejlnhaaGreatDoor
open Go.RowKit
set_option linter.unusedVariables false
theorem eq_ownL {w : World} {b1 b2 : Nat} {v1 v2 : Value} {l : List Int} (hn : (l.length : Int) ≤ 140737488351232) (h1 : OwnL w b1 v1 l) (h2 : OwnL w b2 v2 l) :
    Calls Tryz.prog 10 #[v1, v2] w fun e w' => e = .returned (.bool true) ∧ ∃ d, w' = w.drewN d := by
  obtain ⟨a1, c1, rfl, _, _, _, s1⟩ := h1.toB.shape
  obtain ⟨a2, c2, rfl, _, _, _, s2⟩ := h2.toB.shape
  exact eqB l.length c1 c2 a1 a2 _ _ w hn s1 s2 (fun _ _ => rfl)
end Go.Proofs.YtkiockffejlnhaaGreatDoor

/- gantrylaw6.wakes, num. -/
namespace Go.Proofs.YtkiockffejlnhaaGreatDoor
open Go.RowKit
set_option linter.unusedVariables false
theorem num6_any (e : Int) (w : World) : Calls Tryz.prog 12 #[.int .i64 e] w fun r w' => r = .returned (.int .i64 e) ∧ w' = w := by
  go_enter Tryz.func12, Tryz.ntmps12
  go_wp2
  go_ret
  exact ⟨rfl, rfl⟩
namespace Lk
def wakeP : PcV := ⟨2, fun i => if i = 0 then jmpV else retV, 1, fun _ => 1⟩
theorem wake_ok : marksB wakeP = true ∧ instsB 2 1 wakeP = true := by
  refine ⟨marksB_iff.2 fun i hi => ?_, instsB_iff.2 fun i hi => ?_⟩
  · show 0 ≤ (1 : Int) ∧ (1 : Int) ≤ ((2 : Nat) : Int)
    decide
  · show instB 2 ((1 : Nat) : Int) 1 (if i = 0 then jmpV else retV) = true
    split
    · exact inst_jmp (.inr rfl) 1
    · exact inst_ret (.inr rfl) _ 1
theorem wake_code (S : Nat → Nat → Int) : codeA 2 (fun _ => wakeP) S 1 = [19, 0, 0, 24] := by
  have e0 : Lk.fin 2 (fun _ => wakeP) S 0 0 = lead jmpV 0 := by
    unfold Lk.fin
    rw [if_pos (by rfl)]
    show lead jmpV (pos (S 0) 1 - pos (S 0) 1) = lead jmpV 0
    rw [Int.sub_self]
  have e1 : Lk.fin 2 (fun _ => wakeP) S 0 1 = retV := by
    unfold Lk.fin
    rw [if_neg (by decide), if_neg (by decide)]
    rfl
  show ([] : List Int) ++ (([] ++ Ru.encT 2 (Lk.fin 2 (fun _ => wakeP) S 0 0)) ++ Ru.encT 2 (Lk.fin 2 (fun _ => wakeP) S 0 1)) = _
  rw [e0, e1]
  decide
theorem rng0 (v : InV) (h1 : v.imm = 0) (h2 : v.scale = 0) : InRng v := ⟨by rw [h1]; decide, by rw [h1]; decide, by rw [h2]; decide, by rw [h2]; decide⟩
end Lk
theorem heap_old (w : World) (o : Obj) {k : Nat} (hk : k < w.heap.size) : (w.alloc o).heap[k]? = w.heap[k]? := (World.grownBy_alloc w o none).block k hk (by simp)
theorem heap_at (w : World) (o : Obj) {k : Nat} (hk : k = w.heap.size) : (w.alloc o).heap[k]? = some o := by rw [hk]; exact heap_alloc_new _ _
theorem heap5 (w : World) (a b c d e : Obj) : (((((w.alloc a).alloc b).alloc c).alloc d).alloc e).heap[w.heap.size]? = some a ∧ (((((w.alloc a).alloc b).alloc c).alloc d).alloc e).heap[w.heap.size + 1]? = some b ∧ (((((w.alloc a).alloc b).alloc c).alloc d).alloc e).heap[w.heap.size + 1 + 1 + 1]? = some d ∧ (((((w.alloc a).alloc b).alloc c).alloc d).alloc e).heap[w.heap.size + 1 + 1 + 1 + 1]? = some e := by
  refine ⟨?_, ?_, ?_, ?_⟩
  · rw [heap_old _ _ (by simp; omega), heap_old _ _ (by simp; omega), heap_old _ _ (by simp; omega), heap_old _ _ (by simp)]
    exact heap_at _ _ rfl
  · rw [heap_old _ _ (by simp), heap_old _ _ (by simp), heap_old _ _ (by simp)]
    exact heap_at _ _ (by simp)
  · rw [heap_old _ _ (by simp)]
    exact heap_at _ _ (by simp)
  · exact heap_at _ _ (by simp)
set_option maxRecDepth 100000 in
set_option maxHeartbeats 8000000 in
theorem wakes6_any (w : World) (hT : TabAt w) : Calls Tryz.prog 16 #[] w fun e w' => e = .returned (.bool true) ∧ w.grownBy w' none := by
  have HL : Hid (∀ W : World, TabAt W → ∀ T0 T1 T2 T3, W.heap[T0]? = some (.cells #[.int .i64 19, .int .i64 0, .int .i64 0, .int .i64 0, .int .i64 0, .int .i64 0, .int .i64 0, .int .i64 0, .int .i64 0, .int .i64 24, .int .i64 0, .int .i64 0, .int .i64 0, .int .i64 0, .int .i64 0, .int .i64 0, .int .i64 0, .int .i64 0] 50 (0, 0)) → W.heap[T1]? = some (.cells #[.int .i64 1] 3 (0, 0)) →
      W.heap[T2]? = some (.cells #[.slice (some ⟨T0, 0, none⟩) 2 2, .slice (some ⟨T1, 0, none⟩) 1 1, .int .i64 0] 48 (0, 0)) → W.heap[T3]? = some (.cells #[.int .u8 5] 5 (0, 0)) →
      Calls Tryz.prog 8 #[.int .i64 2, .slice (some ⟨T2, 0, none⟩) 1 1, .slice (some ⟨T3, 0, none⟩) 1 1, .int .i64 0] W fun e w' => ∃ cv dv TF, e = .returned (.tuple #[.agg #[.int .i64 2, cv, dv, .int .i64 0, .slice (some ⟨TF, 0, none⟩) 1 1], .int .i64 0]) ∧ OwnL w' W.heap.size cv [19, 0, 0, 24] ∧ OwnL w' W.heap.size dv [5] ∧ W.grownBy w' none) := by
    intro W hW T0 T1 T2 T3 h0 h1 h2 h3
    have l0 : T0 < W.heap.size := (Array.getElem?_eq_some_iff.1 h0).1
    have l1 : T1 < W.heap.size := (Array.getElem?_eq_some_iff.1 h1).1
    have l2 : T2 < W.heap.size := (Array.getElem?_eq_some_iff.1 h2).1
    have l3 : T3 < W.heap.size := (Array.getElem?_eq_some_iff.1 h3).1
    have hp : PcsIn W.heap.size W (some ⟨T2, 0, none⟩) 1 1 (fun _ => Lk.wakeP) (fun _ => ⟨some ⟨T0, 0, none⟩, 2, some ⟨T1, 0, none⟩, 1, 0⟩) := by
      refine ⟨Nat.le_refl _, by unfold maxLen; omega, .inr ⟨T2, 0, rfl, l2, fun k hk => ?_⟩⟩
      obtain rfl : k = 0 := by omega
      refine ⟨by simp [World.cell?, h2]; rfl, by simp [World.cell?, h2]; rfl, by simp [World.cell?, h2], ?_, ?_⟩
      · refine ⟨Nat.le_refl _, by show (2 : Nat) ≤ maxLen; unfold maxLen; omega, .inr ⟨T0, 0, rfl, l0, fun i hi => ?_⟩, fun i hi => ?_⟩
        · have : i = 0 ∨ i = 1 := by have : i < 2 := hi; omega
          rcases this with rfl | rfl
          · constructor <;> simp [World.cell?, h0, Lk.wakeP, Lk.jmpV]
          · constructor <;> simp [World.cell?, h0, Lk.wakeP, Lk.retV]
        · show InRng (if i = 0 then Lk.jmpV else Lk.retV)
          split <;> exact Lk.rng0 _ rfl rfl
      · refine ⟨Nat.le_refl _, by show (1 : Nat) ≤ maxLen; unfold maxLen; omega, .inr ⟨T1, 0, rfl, l1, fun i hi => ?_⟩⟩
        obtain rfl : i = 0 := by have : i < 1 := hi; omega
        simp [World.cell?, h1, Lk.wakeP]
    have hB : Lk.piecesB 2 1 (fun _ => Lk.wakeP) = true := Lk.piecesB_iff.2 fun k hk => Lk.wake_ok
    have hd : Bs W (some ⟨T3, 0, none⟩) 1 (fun _ => 5) := .inr ⟨T3, 0, rfl, fun i hi => by
      obtain rfl : i = 0 := by omega
      simp [World.cell?, h3]⟩
    refine (link_c (en := 0) (dg := fun _ => 5) hp hW (by decide) (by decide) (fun k hk => by show ((2 : Nat) : Int) ≤ _; decide) hB (by decide) (fun h => by cases h) hd (fun b off _ e => by injection e with e; injection e with e; subst e; exact l3) (by decide)).mono ?_
    rintro e w' ⟨g, Ls, hLs, hr⟩
    rcases hr with ⟨hbig, _⟩ | ⟨_, _, cv, dv, TF, rfl, oc, od, _⟩
    · exfalso
      rcases hbig with hb | hb
      · omega
      · have h6 := pos_lim (n := 1) (s := ends (fun _ => Lk.wakeP) (Lk.SS 2 (fun _ => Lk.wakeP) Ls)) (B := 80) (fun j hj => by
          obtain rfl : j = 0 := by omega
          have := pos_lim (n := 2) (s := Lk.SS 2 (fun _ => Lk.wakeP) Ls 0) (B := 40) (fun i hi => by
            have := Lk.size_le (Lk.PcV.ok_of Lk.wake_ok.1 Lk.wake_ok.2) (Ls 0) (i := i) hi
            show 0 ≤ (Lk.wakeP.sh 2).size (Ls 0) i ∧ (Lk.wakeP.sh 2).size (Ls 0) i ≤ 40
            omega)
          show 0 ≤ Lk.pos (Lk.SS 2 (fun _ => Lk.wakeP) Ls 0) 2 ∧ Lk.pos (Lk.SS 2 (fun _ => Lk.wakeP) Ls 0) 2 ≤ 80
          omega)
        omega
    · rw [Lk.wake_code] at oc
      exact ⟨cv, dv, TF, rfl, oc, OwnB.toL od, g⟩
  have HT : Hid (TabAt w) := hT
  clear hT
  have HE1 : Hid (∀ (W : World) ac cc, OwnL W 0 (.slice ac 4 cc) [19, 0, 0, 24] → Calls Tryz.prog 10 #[.slice ac 4 cc, .slice (some ⟨W.heap.size, 0, none⟩) 4 4] (W.alloc (.cells #[.int .u8 19, .int .u8 0, .int .u8 0, .int .u8 24] 5)) fun e w' => e = .returned (.bool true) ∧ W.grownBy w' none) := fun W ac cc h =>
    (eq_ownL (by decide) (OwnL.grow h (World.grownBy_alloc _ _ none)) (OwnL.lit W 0 [19, 0, 0, 24] (Nat.zero_le _) (by show 4 ≤ maxLen; unfold maxLen; omega))).mono (by rintro e w' ⟨rfl, d, rfl⟩; exact ⟨rfl, gn (World.grownBy_alloc _ _ _) _⟩)
  have HE2 : Hid (∀ (W : World) ac cc, OwnL W 0 (.slice ac 1 cc) [5] → Calls Tryz.prog 10 #[.slice ac 1 cc, .slice (some ⟨W.heap.size, 0, none⟩) 1 1] (W.alloc (.cells #[.int .u8 5] 5)) fun e w' => e = .returned (.bool true) ∧ W.grownBy w' none) := fun W ac cc h =>
    (eq_ownL (by decide) (OwnL.grow h (World.grownBy_alloc _ _ none)) (OwnL.lit W 0 [5] (Nat.zero_le _) (by show 1 ≤ maxLen; unfold maxLen; omega))).mono (by rintro e w' ⟨rfl, d, rfl⟩; exact ⟨rfl, gn (World.grownBy_alloc _ _ _) _⟩)
  go_enter Tryz.func16, Tryz.ntmps16
  go_wp2_with (first
    | (go_at_call 8; refine (HL.out _ (((((HT.out.kept (World.grownBy_alloc _ _ none) (by simp)).kept (World.grownBy_alloc _ _ none) (by simp)).kept (World.grownBy_alloc _ _ none) (by simp)).kept (World.grownBy_alloc _ _ none) (by simp)).kept (World.grownBy_alloc _ _ none) (by simp)) w.heap.size (w.heap.size + 1) (w.heap.size + 1 + 1 + 1) (w.heap.size + 1 + 1 + 1 + 1) (heap5 w _ _ _ _ _).1 (heap5 w _ _ _ _ _).2.1 (heap5 w _ _ _ _ _).2.2.1 (heap5 w _ _ _ _ _).2.2.2).mono ?_; rintro e w1 ⟨cv, dv, TF, rfl, oc, od, g1⟩; obtain ⟨ac, cc, rfl, _⟩ := oc.toB.shape; obtain ⟨ad, cd, rfl, _⟩ := od.toB.shape; have G1 : Hid (w.grownBy w1 none) := grown_trans (ga (ga (ga (ga (World.grownBy_alloc _ _ _) _) _) _) _) g1; have OC : Hid (OwnL w1 0 (.slice ac 4 cc) [19, 0, 0, 24]) := OwnL.low oc (Nat.zero_le _); have OD : Hid (OwnL w1 0 (.slice ad 1 cd) [5]) := OwnL.low od (Nat.zero_le _); clear g1 oc od)
    | (go_at_call 12; refine (num6_any _ _).mono ?_; rintro e w2 ⟨rfl, hw2⟩; rw [hw2]; clear hw2 w2))
  have C2 : (w1.alloc (.cells #[.int .i64 2, .slice ac 4 cc, .slice ad 1 cd, .int .i64 0, .slice (some ⟨TF, 0, none⟩) 1 1] 32)).cell? ⟨w1.heap.size, 2, none⟩ = some (.slice ad 1 cd) := by simp
  have GB := World.grownBy_alloc w1 (.cells #[.int .i64 2, .slice ac 4 cc, .slice ad 1 cd, .int .i64 0, .slice (some ⟨TF, 0, none⟩) 1 1] 32) none
  have OC2 := OwnL.grow OC.out GB
  have OD2 := OwnL.grow OD.out GB
  have G2 : Hid (w.grownBy (w1.alloc (.cells #[.int .i64 2, .slice ac 4 cc, .slice ad 1 cd, .int .i64 0, .slice (some ⟨TF, 0, none⟩) 1 1] 32)) none) := grown_trans G1.out GB
  have hs : (w1.alloc (.cells #[.int .i64 2, .slice ac 4 cc, .slice ad 1 cd, .int .i64 0, .slice (some ⟨TF, 0, none⟩) 1 1] 32)).heap.size = w1.heap.size + 1 := by simp
  obtain ⟨WB, hWB⟩ : ∃ WB, WB = w1.alloc (.cells #[.int .i64 2, .slice ac 4 cc, .slice ad 1 cd, .int .i64 0, .slice (some ⟨TF, 0, none⟩) 1 1] 32) := ⟨_, rfl⟩
  rw [← hWB] at C2 OC2 OD2 G2 hs ⊢
  clear hWB GB OC OD G1
  have h1 := HE1.out WB ac cc OC2
  rw [hs] at h1
  refine h1.mono ?_
  rintro e w3 ⟨rfl, g3⟩
  have C3 := g3.cell C2 (by simp)
  have OD3 : Hid (OwnL w3 0 (.slice ad 1 cd) [5]) := OwnL.grow OD2 g3
  have G3 : Hid (w.grownBy w3 none) := grown_trans G2.out g3
  clear h1 hs C2 OC2 OD2 G2 g3
  go_wp2_with (go_at_call 10; refine (HE2.out w3 ad cd OD3.out).mono ?_; rintro e w4 ⟨rfl, g4⟩)
  go_ret
  exact ⟨rfl, grown_trans G3.out g4⟩
end Go.Proofs.YtkiockffejlnhaaGreatDoor
