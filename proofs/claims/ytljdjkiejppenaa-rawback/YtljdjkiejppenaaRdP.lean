/- The reader's entries, functions and programs. -/
import Derived.Test.YtljdjkiejppenaaRdS
namespace Go.Proofs.Ytljdjkiejppenaa
open Go.RowKit
set_option linter.unusedVariables false

def EntRd (x : Pg.Tp) : Prop := ∀ (lim : Nat) (w : World) (B : Nat) (R : List Int) (n d : Nat), Rd lim w B (x.dl.en ++ R) n d → lim ≤ w.heap.size → n + x.dl.nd ≤ 2048 → d + x.dl.dp ≤ 32 →
  Calls Try.prog 78 #[.pointer (some ⟨B, 0, none⟩)] w fun e w' => ∃ a1 k1, e = .returned (.agg #[.int .i64 x.kind, .int .i64 x.elem, .int .i64 x.n, .slice a1 x.fields.length k1]) ∧ NumL (Fresh w w') w' a1 k1 x.fields ∧ Rd lim w' B R (n + x.dl.nd) d ∧ w.grownBy w' (some B)
def EntCut (x : Pg.Tp) : Prop := ∀ (lim : Nat) (w : World) (B : Nat) (M : List Int) (n d : Nat), Rd lim w B M n d → Cut M x.dl.en → lim ≤ w.heap.size → n + x.dl.nd ≤ 2048 → d + x.dl.dp ≤ 32 →
  Calls Try.prog 78 #[.pointer (some ⟨B, 0, none⟩)] w fun e w' => e = faults 80 ∧ w.grownBy w' (some B)
theorem Pg.Tp.parts2 (x : Pg.Tp) (h : x.dl.may = true) : Pg.okB x.kind = true ∧ Pg.okB x.elem = true ∧ Pg.okB x.n = true ∧ (Pg.dNumL x.fields).may = true ∧ x.dl.en = (Pg.dCnt x.kind).en ++ ((Pg.dCnt x.elem).en ++ ((Pg.dCnt x.n).en ++ ((Pg.dCnt (x.fields.length : Int)).en ++ (Pg.dCat Pg.dCnt x.fields).en))) := by
  obtain ⟨h1, h2, h3, h4, h5⟩ := Pg.Tp.parts x h
  refine ⟨h1, h2, h3, h4, ?_⟩
  rw [h5]
  simp only [Pg.dNumL, Pg.dNums_cat, Pg.Dl.app, List.append_assoc]
theorem Pg.Tp.nd_eq (x : Pg.Tp) : x.dl.nd = 0 ∧ x.dl.dp = 0 := by simp [Pg.Tp.dl, Pg.Dl.app, Pg.dCnt, Pg.dNumL_nd]
theorem tp_pos (y : Pg.Tp) (h : y.dl.may = true) : 1 ≤ y.dl.en.length := by
  have hy1 := Pg.Tp.parts2 y h
  have := Pg.cnt_pos (n := y.kind) (by rw [dCnt_may]; exact hy1.1)
  rw [hy1.2.2.2.2, List.length_append]
  omega
set_option maxRecDepth 100000 in
set_option maxHeartbeats 16000000 in
theorem ent_rd (x : Pg.Tp) (hx : x.dl.may = true) : EntRd x := by
  intro lim w B R n d h hlim hn hd
  obtain ⟨q1, q2, q3, g4, q7⟩ := Pg.Tp.parts2 x hx
  have HN : Hid (Pg.okB (x.fields.length : Int) = true ∧ (∀ y, y ∈ x.fields → 1 ≤ (Pg.dCnt y).en.length) ∧ (∀ y, y ∈ x.fields → IntRd y ∧ IntCut y)) := nums_rd g4
  obtain ⟨en, ed⟩ := Pg.Tp.nd_eq x
  rw [en] at hn
  rw [ed] at hd
  have ZD : Hid ((Pg.dCat Pg.dCnt x.fields).nd = 0 ∧ (Pg.dCat Pg.dCnt x.fields).dp = 0) := Pg.nums0 x.fields
  have EN : Hid (x.dl.nd = 0) := en
  clear hx en ed g4
  have hB := h.lt
  have hPB : w.heap.size ≠ B := by omega
  have g1 : w.grownBy (w.alloc (.cells #[.int .i64 0, .int .i64 0, .int .i64 0, .slice none 0 0] 51)) none := World.grownBy_alloc _ _ _
  have HG1 : Hid (w.grownBy (w.alloc (.cells #[.int .i64 0, .int .i64 0, .int .i64 0, .slice none 0 0] 51)) none) := g1
  have Q : Hid ((w.alloc (.cells #[.int .i64 0, .int .i64 0, .int .i64 0, .slice none 0 0] 51)).heap[w.heap.size]? = some (.cells #[.int .i64 0, .int .i64 0, .int .i64 0, .slice none 0 0] 51)) := heap_alloc_new w _
  rw [show x.dl.en ++ R = ((Pg.dCnt x.kind).en) ++ (((Pg.dCnt x.elem).en) ++ (((Pg.dCnt x.n).en) ++ (((Pg.dCnt (x.fields.length : Int)).en ++ (Pg.dCat Pg.dCnt x.fields).en) ++ (R)))) from by rw [q7]; simp only [List.append_assoc]] at h
  have Q0 : Hid ((w.alloc (.cells #[.int .i64 0, .int .i64 0, .int .i64 0, .slice none 0 0] 51)).heap[w.heap.size]? = some (.cells #[.int .i64 0, .int .i64 0, .int .i64 0, .slice none 0 0] 51)) := Q.out
  have G0 : Hid (Ch w (w.alloc (.cells #[.int .i64 0, .int .i64 0, .int .i64 0, .slice none 0 0] 51)) [B]) := Ch.of g1
  have HC0 : Hid (Calls Try.prog 92 #[.pointer (some ⟨B, 0, none⟩)] (w.alloc (.cells #[.int .i64 0, .int .i64 0, .int .i64 0, .slice none 0 0] 51)) fun e w' => e = .returned (.int .i64 x.kind) ∧ Rd lim w' B (((Pg.dCnt x.elem).en) ++ (((Pg.dCnt x.n).en) ++ (((Pg.dCnt (x.fields.length : Int)).en ++ (Pg.dCat Pg.dCnt x.fields).en) ++ (R)))) (n) (d) ∧ (w.alloc (.cells #[.int .i64 0, .int .i64 0, .int .i64 0, .slice none 0 0] 51)).grownBy w' (some B)) := (by have hh := h.grow g1; have hs9 := g1.size; exact rcount_ok q1 hh)
  clear h g1
  go_enter Try.func78, Try.ntmps78
  go_wp2_with (first
    | (go_at_call 92; refine HC0.out.mono ?_; rintro e w1 ⟨rfl, hh, gg⟩; have T1 : Hid (w1.heap[w.heap.size]? = some (.cells #[.int .i64 0, .int .i64 0, .int .i64 0, .slice none 0 0] 51)) := ((gg.block _ (Array.getElem?_eq_some_iff.1 Q0.out).1 (by simp; omega)).trans Q0.out); have S1 : Hid ((w1.setCell ⟨w.heap.size, 0, none⟩ (.int .i64 x.kind)).heap[w.heap.size]? = some (.cells #[.int .i64 x.kind, .int .i64 0, .int .i64 0, .slice none 0 0] 51)) := rset T1.out 0 (.int .i64 x.kind); have m0 : w1.cell? ⟨w.heap.size, 0, none⟩ = some (.int .i64 0) := rcell T1.out 0; have f0 : w1.frozen? ⟨w.heap.size, 0, none⟩ = false := rfrozen T1.out 0; have G1 : Hid (Ch w (w1.setCell ⟨w.heap.size, 0, none⟩ (.int .i64 x.kind)) [B]) := ((G0.out.trans (Ch.one gg (by simp))).new (Nat.le_refl _) (grown_setCell w1 w.heap.size 0 (.int .i64 x.kind))); have hk1 := hh.kept (grown_setCell w1 w.heap.size 0 (.int .i64 x.kind)) hlim hPB; have HC1 : Hid (Calls Try.prog 92 #[.pointer (some ⟨B, 0, none⟩)] (w1.setCell ⟨w.heap.size, 0, none⟩ (.int .i64 x.kind)) fun e w' => e = .returned (.int .i64 x.elem) ∧ Rd lim w' B (((Pg.dCnt x.n).en) ++ (((Pg.dCnt (x.fields.length : Int)).en ++ (Pg.dCat Pg.dCnt x.fields).en) ++ (R))) (n) (d) ∧ (w1.setCell ⟨w.heap.size, 0, none⟩ (.int .i64 x.kind)).grownBy w' (some B)) := (by have hh := hk1; have hs9 := (G1.out : Ch w (w1.setCell ⟨w.heap.size, 0, none⟩ (.int .i64 x.kind)) [B]).size; exact rcount_ok q2 hh); clear hh gg hk1 HC0)
    | (go_at_call 92; refine HC1.out.mono ?_; rintro e w2 ⟨rfl, hh, gg⟩; have T2 : Hid (w2.heap[w.heap.size]? = some (.cells #[.int .i64 x.kind, .int .i64 0, .int .i64 0, .slice none 0 0] 51)) := ((gg.block _ (Array.getElem?_eq_some_iff.1 S1.out).1 (by simp; omega)).trans S1.out); have S2 : Hid ((w2.setCell ⟨w.heap.size, 1, none⟩ (.int .i64 x.elem)).heap[w.heap.size]? = some (.cells #[.int .i64 x.kind, .int .i64 x.elem, .int .i64 0, .slice none 0 0] 51)) := rset T2.out 1 (.int .i64 x.elem); have m1 : w2.cell? ⟨w.heap.size, 1, none⟩ = some (.int .i64 0) := rcell T2.out 1; have f1 : w2.frozen? ⟨w.heap.size, 1, none⟩ = false := rfrozen T2.out 1; have G2 : Hid (Ch w (w2.setCell ⟨w.heap.size, 1, none⟩ (.int .i64 x.elem)) [B]) := ((G1.out.trans (Ch.one gg (by simp))).new (Nat.le_refl _) (grown_setCell w2 w.heap.size 1 (.int .i64 x.elem))); have hk2 := hh.kept (grown_setCell w2 w.heap.size 1 (.int .i64 x.elem)) hlim hPB; have HC2 : Hid (Calls Try.prog 92 #[.pointer (some ⟨B, 0, none⟩)] (w2.setCell ⟨w.heap.size, 1, none⟩ (.int .i64 x.elem)) fun e w' => e = .returned (.int .i64 x.n) ∧ Rd lim w' B (((Pg.dCnt (x.fields.length : Int)).en ++ (Pg.dCat Pg.dCnt x.fields).en) ++ (R)) (n) (d) ∧ (w2.setCell ⟨w.heap.size, 1, none⟩ (.int .i64 x.elem)).grownBy w' (some B)) := (by have hh := hk2; have hs9 := (G2.out : Ch w (w2.setCell ⟨w.heap.size, 1, none⟩ (.int .i64 x.elem)) [B]).size; exact rcount_ok q3 hh); clear hh gg hk2 HC1)
    | (go_at_call 92; refine HC2.out.mono ?_; rintro e w3 ⟨rfl, hh, gg⟩; have T3 : Hid (w3.heap[w.heap.size]? = some (.cells #[.int .i64 x.kind, .int .i64 x.elem, .int .i64 0, .slice none 0 0] 51)) := ((gg.block _ (Array.getElem?_eq_some_iff.1 S2.out).1 (by simp; omega)).trans S2.out); have S3 : Hid ((w3.setCell ⟨w.heap.size, 2, none⟩ (.int .i64 x.n)).heap[w.heap.size]? = some (.cells #[.int .i64 x.kind, .int .i64 x.elem, .int .i64 x.n, .slice none 0 0] 51)) := rset T3.out 2 (.int .i64 x.n); have m2 : w3.cell? ⟨w.heap.size, 2, none⟩ = some (.int .i64 0) := rcell T3.out 2; have f2 : w3.frozen? ⟨w.heap.size, 2, none⟩ = false := rfrozen T3.out 2; have G3 : Hid (Ch w (w3.setCell ⟨w.heap.size, 2, none⟩ (.int .i64 x.n)) [B]) := ((G2.out.trans (Ch.one gg (by simp))).new (Nat.le_refl _) (grown_setCell w3 w.heap.size 2 (.int .i64 x.n))); have hk3 := hh.kept (grown_setCell w3 w.heap.size 2 (.int .i64 x.n)) hlim hPB; have HC3 : Hid (Calls Try.prog 93 #[.pointer (some ⟨B, 0, none⟩), .func (.func 92) #[.pointer (some ⟨B, 0, none⟩)] #[]] (w3.setCell ⟨w.heap.size, 2, none⟩ (.int .i64 x.n)) fun e w' => ∃ a1 k1, e = .returned (.slice a1 x.fields.length k1) ∧ NumL (Fresh (w3.setCell ⟨w.heap.size, 2, none⟩ (.int .i64 x.n)) w') w' a1 k1 x.fields ∧ Rd lim w' B (R) (n + (Pg.dCat Pg.dCnt x.fields).nd) (d) ∧ (w3.setCell ⟨w.heap.size, 2, none⟩ (.int .i64 x.n)).grownBy w' (some B)) := (by have hh := hk3; have hs9 := (G3.out : Ch w (w3.setCell ⟨w.heap.size, 2, none⟩ (.int .i64 x.n)) [B]).size; exact rNums_ok hh (by omega) (by have := ZD.out; omega) (by have := ZD.out; omega) HN.out.1 HN.out.2.1 (fun y hy => (HN.out.2.2 y hy).1)); clear hh gg hk3 HC2)
    | (go_at_call 93; refine HC3.out.mono ?_; rintro e w4 ⟨a1, k1, rfl, hrow, hh, gg⟩; have T4 : Hid (w4.heap[w.heap.size]? = some (.cells #[.int .i64 x.kind, .int .i64 x.elem, .int .i64 x.n, .slice none 0 0] 51)) := ((gg.block _ (Array.getElem?_eq_some_iff.1 S3.out).1 (by simp; omega)).trans S3.out); have S4 : Hid ((w4.setCell ⟨w.heap.size, 3, none⟩ (.slice a1 x.fields.length k1)).heap[w.heap.size]? = some (.cells #[.int .i64 x.kind, .int .i64 x.elem, .int .i64 x.n, .slice a1 x.fields.length k1] 51)) := rset T4.out 3 (.slice a1 x.fields.length k1); have m3 : w4.cell? ⟨w.heap.size, 3, none⟩ = some (.slice none 0 0) := rcell T4.out 3; have f3 : w4.frozen? ⟨w.heap.size, 3, none⟩ = false := rfrozen T4.out 3; have G4 : Hid (Ch w (w4.setCell ⟨w.heap.size, 3, none⟩ (.slice a1 x.fields.length k1)) [B]) := ((G3.out.trans (Ch.one gg (by simp))).new (Nat.le_refl _) (grown_setCell w4 w.heap.size 3 (.slice a1 x.fields.length k1))); have hk4 := hh.kept (grown_setCell w4 w.heap.size 3 (.slice a1 x.fields.length k1)) hlim hPB; have RW3 : Hid (NumL (Fresh (w3.setCell ⟨w.heap.size, 2, none⟩ (.int .i64 x.n)) w4) w4 a1 k1 x.fields) := hrow; have sz3 : w.heap.size + 1 ≤ (w3.setCell ⟨w.heap.size, 2, none⟩ (.int .i64 x.n)).heap.size := (by have := (Array.getElem?_eq_some_iff.1 S3.out).1; omega); have CB3 : Hid (Ch w4 (w4.setCell ⟨w.heap.size, 3, none⟩ (.slice a1 x.fields.length k1)) [B, w.heap.size]) := Ch.one (grown_setCell w4 w.heap.size 3 (.slice a1 x.fields.length k1)) (by simp); have e0 : w4.cell? ⟨w.heap.size, 0, none⟩ = some (.int .i64 x.kind) := rcell T4.out 0; have z0 : w4.frozen? ⟨w.heap.size, 0, none⟩ = false := rfrozen T4.out 0; have e1 : w4.cell? ⟨w.heap.size, 1, none⟩ = some (.int .i64 x.elem) := rcell T4.out 1; have z1 : w4.frozen? ⟨w.heap.size, 1, none⟩ = false := rfrozen T4.out 1; have e2 : w4.cell? ⟨w.heap.size, 2, none⟩ = some (.int .i64 x.n) := rcell T4.out 2; have z2 : w4.frozen? ⟨w.heap.size, 2, none⟩ = false := rfrozen T4.out 2; have HKN : Hid (Rd lim (w4.setCell ⟨w.heap.size, 3, none⟩ (.slice a1 x.fields.length k1)) B (R) (n + (Pg.dCat Pg.dCnt x.fields).nd) d) := hk4; clear hh gg hk4 HC3 hrow))
  have P7 := (rset (rset (rset (rset S4.out 0 (.int .i64 x.kind)) 1 (.int .i64 x.elem)) 2 (.int .i64 x.n)) 3 (.slice a1 x.fields.length k1))
  have G7 := ((((G4.out.new (Nat.le_refl _) (grown_setCell (w4.setCell ⟨w.heap.size, 3, none⟩ (.slice a1 x.fields.length k1)) w.heap.size 0 (.int .i64 x.kind))).new (Nat.le_refl _) (grown_setCell ((w4.setCell ⟨w.heap.size, 3, none⟩ (.slice a1 x.fields.length k1)).setCell ⟨w.heap.size, 0, none⟩ (.int .i64 x.kind)) w.heap.size 1 (.int .i64 x.elem))).new (Nat.le_refl _) (grown_setCell (((w4.setCell ⟨w.heap.size, 3, none⟩ (.slice a1 x.fields.length k1)).setCell ⟨w.heap.size, 0, none⟩ (.int .i64 x.kind)).setCell ⟨w.heap.size, 1, none⟩ (.int .i64 x.elem)) w.heap.size 2 (.int .i64 x.n))).new (Nat.le_refl _) (grown_setCell ((((w4.setCell ⟨w.heap.size, 3, none⟩ (.slice a1 x.fields.length k1)).setCell ⟨w.heap.size, 0, none⟩ (.int .i64 x.kind)).setCell ⟨w.heap.size, 1, none⟩ (.int .i64 x.elem)).setCell ⟨w.heap.size, 2, none⟩ (.int .i64 x.n)) w.heap.size 3 (.slice a1 x.fields.length k1)))
  have R7 := ((((HKN.out.kept (grown_setCell (w4.setCell ⟨w.heap.size, 3, none⟩ (.slice a1 x.fields.length k1)) w.heap.size 0 (.int .i64 x.kind)) hlim hPB).kept (grown_setCell ((w4.setCell ⟨w.heap.size, 3, none⟩ (.slice a1 x.fields.length k1)).setCell ⟨w.heap.size, 0, none⟩ (.int .i64 x.kind)) w.heap.size 1 (.int .i64 x.elem)) hlim hPB).kept (grown_setCell (((w4.setCell ⟨w.heap.size, 3, none⟩ (.slice a1 x.fields.length k1)).setCell ⟨w.heap.size, 0, none⟩ (.int .i64 x.kind)).setCell ⟨w.heap.size, 1, none⟩ (.int .i64 x.elem)) w.heap.size 2 (.int .i64 x.n)) hlim hPB).kept (grown_setCell ((((w4.setCell ⟨w.heap.size, 3, none⟩ (.slice a1 x.fields.length k1)).setCell ⟨w.heap.size, 0, none⟩ (.int .i64 x.kind)).setCell ⟨w.heap.size, 1, none⟩ (.int .i64 x.elem)).setCell ⟨w.heap.size, 2, none⟩ (.int .i64 x.n)) w.heap.size 3 (.slice a1 x.fields.length k1)) hlim hPB)
  have B7 := (((((Ch.refl (w4.setCell ⟨w.heap.size, 3, none⟩ (.slice a1 x.fields.length k1)) [B, w.heap.size]).trans (Ch.one (grown_setCell (w4.setCell ⟨w.heap.size, 3, none⟩ (.slice a1 x.fields.length k1)) w.heap.size 0 (.int .i64 x.kind)) (by simp))).trans (Ch.one (grown_setCell ((w4.setCell ⟨w.heap.size, 3, none⟩ (.slice a1 x.fields.length k1)).setCell ⟨w.heap.size, 0, none⟩ (.int .i64 x.kind)) w.heap.size 1 (.int .i64 x.elem)) (by simp))).trans (Ch.one (grown_setCell (((w4.setCell ⟨w.heap.size, 3, none⟩ (.slice a1 x.fields.length k1)).setCell ⟨w.heap.size, 0, none⟩ (.int .i64 x.kind)).setCell ⟨w.heap.size, 1, none⟩ (.int .i64 x.elem)) w.heap.size 2 (.int .i64 x.n)) (by simp))).trans (Ch.one (grown_setCell ((((w4.setCell ⟨w.heap.size, 3, none⟩ (.slice a1 x.fields.length k1)).setCell ⟨w.heap.size, 0, none⟩ (.int .i64 x.kind)).setCell ⟨w.heap.size, 1, none⟩ (.int .i64 x.elem)).setCell ⟨w.heap.size, 2, none⟩ (.int .i64 x.n)) w.heap.size 3 (.slice a1 x.fields.length k1)) (by simp)))
  have X3 : NumL (Fresh w (((((w4.setCell ⟨w.heap.size, 3, none⟩ (.slice a1 x.fields.length k1)).setCell ⟨w.heap.size, 0, none⟩ (.int .i64 x.kind)).setCell ⟨w.heap.size, 1, none⟩ (.int .i64 x.elem)).setCell ⟨w.heap.size, 2, none⟩ (.int .i64 x.n)).setCell ⟨w.heap.size, 3, none⟩ (.slice a1 x.fields.length k1))) (((((w4.setCell ⟨w.heap.size, 3, none⟩ (.slice a1 x.fields.length k1)).setCell ⟨w.heap.size, 0, none⟩ (.int .i64 x.kind)).setCell ⟨w.heap.size, 1, none⟩ (.int .i64 x.elem)).setCell ⟨w.heap.size, 2, none⟩ (.int .i64 x.n)).setCell ⟨w.heap.size, 3, none⟩ (.slice a1 x.fields.length k1)) a1 k1 x.fields := NumL.ch RW3.out (CB3.out.trans B7) (fun q hq => by have h1 := hq.1; have h2 := sz3; simp; omega) (fun q hq => ⟨by have h1 := hq.1; have h2 := sz3; omega, by have h1 := hq.2; have h2 := (CB3.out.trans B7).size; omega⟩)
  generalize (((((w4.setCell ⟨w.heap.size, 3, none⟩ (.slice a1 x.fields.length k1)).setCell ⟨w.heap.size, 0, none⟩ (.int .i64 x.kind)).setCell ⟨w.heap.size, 1, none⟩ (.int .i64 x.elem)).setCell ⟨w.heap.size, 2, none⟩ (.int .i64 x.n)).setCell ⟨w.heap.size, 3, none⟩ (.slice a1 x.fields.length k1)) = W9 at *
  have r0 : W9.cell? ⟨w.heap.size, 0, none⟩ = some (.int .i64 x.kind) := rcell P7 0
  have r1 : W9.cell? ⟨w.heap.size, 1, none⟩ = some (.int .i64 x.elem) := rcell P7 1
  have r2 : W9.cell? ⟨w.heap.size, 2, none⟩ = some (.int .i64 x.n) := rcell P7 2
  have r3 : W9.cell? ⟨w.heap.size, 3, none⟩ = some (.slice a1 x.fields.length k1) := rcell P7 3
  refine bodyPost_ret (by simp [results, Try.results78, go_sem, r0, r1, r2, r3]; try rfl) rfl ?_
  exact ⟨a1, k1, rfl, X3, by rw [EN.out]; have := R7; rw [show n + (Pg.dCat Pg.dCnt x.fields).nd = n + 0 from by have := ZD.out; omega] at this; exact this, ⟨G7.os, G7.tape, G7.output, G7.size, fun k hk hne => G7.block k hk (by simpa using hne)⟩⟩
set_option maxRecDepth 100000 in
set_option maxHeartbeats 16000000 in
theorem ent_cut (x : Pg.Tp) (hx : x.dl.may = true) : EntCut x := by
  intro lim w B M n d h hc hlim hn hd
  obtain ⟨q1, q2, q3, g4, q7⟩ := Pg.Tp.parts2 x hx
  have HN : Hid (Pg.okB (x.fields.length : Int) = true ∧ (∀ y, y ∈ x.fields → 1 ≤ (Pg.dCnt y).en.length) ∧ (∀ y, y ∈ x.fields → IntRd y ∧ IntCut y)) := nums_rd g4
  obtain ⟨en, ed⟩ := Pg.Tp.nd_eq x
  rw [en] at hn
  rw [ed] at hd
  have ZD : Hid ((Pg.dCat Pg.dCnt x.fields).nd = 0 ∧ (Pg.dCat Pg.dCnt x.fields).dp = 0) := Pg.nums0 x.fields
  have EN : Hid (x.dl.nd = 0) := en
  clear hx en ed g4
  have hB := h.lt
  have hPB : w.heap.size ≠ B := by omega
  have g1 : w.grownBy (w.alloc (.cells #[.int .i64 0, .int .i64 0, .int .i64 0, .slice none 0 0] 51)) none := World.grownBy_alloc _ _ _
  have HG1 : Hid (w.grownBy (w.alloc (.cells #[.int .i64 0, .int .i64 0, .int .i64 0, .slice none 0 0] 51)) none) := g1
  have Q : Hid ((w.alloc (.cells #[.int .i64 0, .int .i64 0, .int .i64 0, .slice none 0 0] 51)).heap[w.heap.size]? = some (.cells #[.int .i64 0, .int .i64 0, .int .i64 0, .slice none 0 0] 51)) := heap_alloc_new w _
  rw [q7] at hc
  rcases cut_cases hc with hcut | ⟨M1, eM1, hc⟩
  · have HCUT : Hid (Cut M ((Pg.dCnt x.kind).en)) := hcut
    have Q0 : Hid ((w.alloc (.cells #[.int .i64 0, .int .i64 0, .int .i64 0, .slice none 0 0] 51)).heap[w.heap.size]? = some (.cells #[.int .i64 0, .int .i64 0, .int .i64 0, .slice none 0 0] 51)) := Q.out
    have G0 : Hid (Ch w (w.alloc (.cells #[.int .i64 0, .int .i64 0, .int .i64 0, .slice none 0 0] 51)) [B]) := Ch.of g1
    have HC0 : Hid (Calls Try.prog 92 #[.pointer (some ⟨B, 0, none⟩)] (w.alloc (.cells #[.int .i64 0, .int .i64 0, .int .i64 0, .slice none 0 0] 51)) fun e w' => e = faults 80 ∧ (w.alloc (.cells #[.int .i64 0, .int .i64 0, .int .i64 0, .slice none 0 0] 51)).grownBy w' (some B)) := (by have hh := h.grow g1; have hs9 := g1.size; exact rcount_cut q1 HCUT.out hh)
    clear h g1 hcut
    go_enter Try.func78, Try.ntmps78
    go_wp2_with (first
      | (go_at_call 92; refine HC0.out.mono ?_; rintro e w9 ⟨rfl, gg⟩; have G9 : Hid (Ch w w9 [B]) := (G0.out.trans (Ch.one gg (by simp))); clear gg HC0))
    exact ⟨rfl, rfl, ⟨G9.out.os, G9.out.tape, G9.out.output, G9.out.size, fun k hk hne => G9.out.block k hk (by simpa using hne)⟩⟩
  rcases cut_cases hc with hcut | ⟨M2, eM2, hc⟩
  · rw [eM1] at h
    have HCUT : Hid (Cut M1 ((Pg.dCnt x.elem).en)) := hcut
    have Q0 : Hid ((w.alloc (.cells #[.int .i64 0, .int .i64 0, .int .i64 0, .slice none 0 0] 51)).heap[w.heap.size]? = some (.cells #[.int .i64 0, .int .i64 0, .int .i64 0, .slice none 0 0] 51)) := Q.out
    have G0 : Hid (Ch w (w.alloc (.cells #[.int .i64 0, .int .i64 0, .int .i64 0, .slice none 0 0] 51)) [B]) := Ch.of g1
    have HC0 : Hid (Calls Try.prog 92 #[.pointer (some ⟨B, 0, none⟩)] (w.alloc (.cells #[.int .i64 0, .int .i64 0, .int .i64 0, .slice none 0 0] 51)) fun e w' => e = .returned (.int .i64 x.kind) ∧ Rd lim w' B (M1) (n) (d) ∧ (w.alloc (.cells #[.int .i64 0, .int .i64 0, .int .i64 0, .slice none 0 0] 51)).grownBy w' (some B)) := (by have hh := h.grow g1; have hs9 := g1.size; exact rcount_ok q1 hh)
    clear h g1 hcut
    go_enter Try.func78, Try.ntmps78
    go_wp2_with (first
      | (go_at_call 92; refine HC0.out.mono ?_; rintro e w1 ⟨rfl, hh, gg⟩; have T1 : Hid (w1.heap[w.heap.size]? = some (.cells #[.int .i64 0, .int .i64 0, .int .i64 0, .slice none 0 0] 51)) := ((gg.block _ (Array.getElem?_eq_some_iff.1 Q0.out).1 (by simp; omega)).trans Q0.out); have S1 : Hid ((w1.setCell ⟨w.heap.size, 0, none⟩ (.int .i64 x.kind)).heap[w.heap.size]? = some (.cells #[.int .i64 x.kind, .int .i64 0, .int .i64 0, .slice none 0 0] 51)) := rset T1.out 0 (.int .i64 x.kind); have m0 : w1.cell? ⟨w.heap.size, 0, none⟩ = some (.int .i64 0) := rcell T1.out 0; have f0 : w1.frozen? ⟨w.heap.size, 0, none⟩ = false := rfrozen T1.out 0; have G1 : Hid (Ch w (w1.setCell ⟨w.heap.size, 0, none⟩ (.int .i64 x.kind)) [B]) := ((G0.out.trans (Ch.one gg (by simp))).new (Nat.le_refl _) (grown_setCell w1 w.heap.size 0 (.int .i64 x.kind))); have hk1 := hh.kept (grown_setCell w1 w.heap.size 0 (.int .i64 x.kind)) hlim hPB; have HC1 : Hid (Calls Try.prog 92 #[.pointer (some ⟨B, 0, none⟩)] (w1.setCell ⟨w.heap.size, 0, none⟩ (.int .i64 x.kind)) fun e w' => e = faults 80 ∧ (w1.setCell ⟨w.heap.size, 0, none⟩ (.int .i64 x.kind)).grownBy w' (some B)) := (by have hh := hk1; have hs9 := (G1.out : Ch w (w1.setCell ⟨w.heap.size, 0, none⟩ (.int .i64 x.kind)) [B]).size; exact rcount_cut q2 HCUT.out hh); clear hh gg hk1 HC0)
      | (go_at_call 92; refine HC1.out.mono ?_; rintro e w9 ⟨rfl, gg⟩; have G9 : Hid (Ch w w9 [B]) := (G1.out.trans (Ch.one gg (by simp))); clear gg HC1))
    exact ⟨rfl, rfl, ⟨G9.out.os, G9.out.tape, G9.out.output, G9.out.size, fun k hk hne => G9.out.block k hk (by simpa using hne)⟩⟩
  rcases cut_cases hc with hcut | ⟨M3, eM3, hc⟩
  · rw [eM1, eM2] at h
    have HCUT : Hid (Cut M2 ((Pg.dCnt x.n).en)) := hcut
    have Q0 : Hid ((w.alloc (.cells #[.int .i64 0, .int .i64 0, .int .i64 0, .slice none 0 0] 51)).heap[w.heap.size]? = some (.cells #[.int .i64 0, .int .i64 0, .int .i64 0, .slice none 0 0] 51)) := Q.out
    have G0 : Hid (Ch w (w.alloc (.cells #[.int .i64 0, .int .i64 0, .int .i64 0, .slice none 0 0] 51)) [B]) := Ch.of g1
    have HC0 : Hid (Calls Try.prog 92 #[.pointer (some ⟨B, 0, none⟩)] (w.alloc (.cells #[.int .i64 0, .int .i64 0, .int .i64 0, .slice none 0 0] 51)) fun e w' => e = .returned (.int .i64 x.kind) ∧ Rd lim w' B (((Pg.dCnt x.elem).en) ++ (M2)) (n) (d) ∧ (w.alloc (.cells #[.int .i64 0, .int .i64 0, .int .i64 0, .slice none 0 0] 51)).grownBy w' (some B)) := (by have hh := h.grow g1; have hs9 := g1.size; exact rcount_ok q1 hh)
    clear h g1 hcut
    go_enter Try.func78, Try.ntmps78
    go_wp2_with (first
      | (go_at_call 92; refine HC0.out.mono ?_; rintro e w1 ⟨rfl, hh, gg⟩; have T1 : Hid (w1.heap[w.heap.size]? = some (.cells #[.int .i64 0, .int .i64 0, .int .i64 0, .slice none 0 0] 51)) := ((gg.block _ (Array.getElem?_eq_some_iff.1 Q0.out).1 (by simp; omega)).trans Q0.out); have S1 : Hid ((w1.setCell ⟨w.heap.size, 0, none⟩ (.int .i64 x.kind)).heap[w.heap.size]? = some (.cells #[.int .i64 x.kind, .int .i64 0, .int .i64 0, .slice none 0 0] 51)) := rset T1.out 0 (.int .i64 x.kind); have m0 : w1.cell? ⟨w.heap.size, 0, none⟩ = some (.int .i64 0) := rcell T1.out 0; have f0 : w1.frozen? ⟨w.heap.size, 0, none⟩ = false := rfrozen T1.out 0; have G1 : Hid (Ch w (w1.setCell ⟨w.heap.size, 0, none⟩ (.int .i64 x.kind)) [B]) := ((G0.out.trans (Ch.one gg (by simp))).new (Nat.le_refl _) (grown_setCell w1 w.heap.size 0 (.int .i64 x.kind))); have hk1 := hh.kept (grown_setCell w1 w.heap.size 0 (.int .i64 x.kind)) hlim hPB; have HC1 : Hid (Calls Try.prog 92 #[.pointer (some ⟨B, 0, none⟩)] (w1.setCell ⟨w.heap.size, 0, none⟩ (.int .i64 x.kind)) fun e w' => e = .returned (.int .i64 x.elem) ∧ Rd lim w' B (M2) (n) (d) ∧ (w1.setCell ⟨w.heap.size, 0, none⟩ (.int .i64 x.kind)).grownBy w' (some B)) := (by have hh := hk1; have hs9 := (G1.out : Ch w (w1.setCell ⟨w.heap.size, 0, none⟩ (.int .i64 x.kind)) [B]).size; exact rcount_ok q2 hh); clear hh gg hk1 HC0)
      | (go_at_call 92; refine HC1.out.mono ?_; rintro e w2 ⟨rfl, hh, gg⟩; have T2 : Hid (w2.heap[w.heap.size]? = some (.cells #[.int .i64 x.kind, .int .i64 0, .int .i64 0, .slice none 0 0] 51)) := ((gg.block _ (Array.getElem?_eq_some_iff.1 S1.out).1 (by simp; omega)).trans S1.out); have S2 : Hid ((w2.setCell ⟨w.heap.size, 1, none⟩ (.int .i64 x.elem)).heap[w.heap.size]? = some (.cells #[.int .i64 x.kind, .int .i64 x.elem, .int .i64 0, .slice none 0 0] 51)) := rset T2.out 1 (.int .i64 x.elem); have m1 : w2.cell? ⟨w.heap.size, 1, none⟩ = some (.int .i64 0) := rcell T2.out 1; have f1 : w2.frozen? ⟨w.heap.size, 1, none⟩ = false := rfrozen T2.out 1; have G2 : Hid (Ch w (w2.setCell ⟨w.heap.size, 1, none⟩ (.int .i64 x.elem)) [B]) := ((G1.out.trans (Ch.one gg (by simp))).new (Nat.le_refl _) (grown_setCell w2 w.heap.size 1 (.int .i64 x.elem))); have hk2 := hh.kept (grown_setCell w2 w.heap.size 1 (.int .i64 x.elem)) hlim hPB; have HC2 : Hid (Calls Try.prog 92 #[.pointer (some ⟨B, 0, none⟩)] (w2.setCell ⟨w.heap.size, 1, none⟩ (.int .i64 x.elem)) fun e w' => e = faults 80 ∧ (w2.setCell ⟨w.heap.size, 1, none⟩ (.int .i64 x.elem)).grownBy w' (some B)) := (by have hh := hk2; have hs9 := (G2.out : Ch w (w2.setCell ⟨w.heap.size, 1, none⟩ (.int .i64 x.elem)) [B]).size; exact rcount_cut q3 HCUT.out hh); clear hh gg hk2 HC1)
      | (go_at_call 92; refine HC2.out.mono ?_; rintro e w9 ⟨rfl, gg⟩; have G9 : Hid (Ch w w9 [B]) := (G2.out.trans (Ch.one gg (by simp))); clear gg HC2))
    exact ⟨rfl, rfl, ⟨G9.out.os, G9.out.tape, G9.out.output, G9.out.size, fun k hk hne => G9.out.block k hk (by simpa using hne)⟩⟩
  · have hcut := hc
    rw [eM1, eM2, eM3] at h
    have HCUT : Hid (Cut M3 ((Pg.dCnt (x.fields.length : Int)).en ++ (Pg.dCat Pg.dCnt x.fields).en)) := hcut
    have Q0 : Hid ((w.alloc (.cells #[.int .i64 0, .int .i64 0, .int .i64 0, .slice none 0 0] 51)).heap[w.heap.size]? = some (.cells #[.int .i64 0, .int .i64 0, .int .i64 0, .slice none 0 0] 51)) := Q.out
    have G0 : Hid (Ch w (w.alloc (.cells #[.int .i64 0, .int .i64 0, .int .i64 0, .slice none 0 0] 51)) [B]) := Ch.of g1
    have HC0 : Hid (Calls Try.prog 92 #[.pointer (some ⟨B, 0, none⟩)] (w.alloc (.cells #[.int .i64 0, .int .i64 0, .int .i64 0, .slice none 0 0] 51)) fun e w' => e = .returned (.int .i64 x.kind) ∧ Rd lim w' B (((Pg.dCnt x.elem).en) ++ (((Pg.dCnt x.n).en) ++ (M3))) (n) (d) ∧ (w.alloc (.cells #[.int .i64 0, .int .i64 0, .int .i64 0, .slice none 0 0] 51)).grownBy w' (some B)) := (by have hh := h.grow g1; have hs9 := g1.size; exact rcount_ok q1 hh)
    clear h g1 hc hcut
    go_enter Try.func78, Try.ntmps78
    go_wp2_with (first
      | (go_at_call 92; refine HC0.out.mono ?_; rintro e w1 ⟨rfl, hh, gg⟩; have T1 : Hid (w1.heap[w.heap.size]? = some (.cells #[.int .i64 0, .int .i64 0, .int .i64 0, .slice none 0 0] 51)) := ((gg.block _ (Array.getElem?_eq_some_iff.1 Q0.out).1 (by simp; omega)).trans Q0.out); have S1 : Hid ((w1.setCell ⟨w.heap.size, 0, none⟩ (.int .i64 x.kind)).heap[w.heap.size]? = some (.cells #[.int .i64 x.kind, .int .i64 0, .int .i64 0, .slice none 0 0] 51)) := rset T1.out 0 (.int .i64 x.kind); have m0 : w1.cell? ⟨w.heap.size, 0, none⟩ = some (.int .i64 0) := rcell T1.out 0; have f0 : w1.frozen? ⟨w.heap.size, 0, none⟩ = false := rfrozen T1.out 0; have G1 : Hid (Ch w (w1.setCell ⟨w.heap.size, 0, none⟩ (.int .i64 x.kind)) [B]) := ((G0.out.trans (Ch.one gg (by simp))).new (Nat.le_refl _) (grown_setCell w1 w.heap.size 0 (.int .i64 x.kind))); have hk1 := hh.kept (grown_setCell w1 w.heap.size 0 (.int .i64 x.kind)) hlim hPB; have HC1 : Hid (Calls Try.prog 92 #[.pointer (some ⟨B, 0, none⟩)] (w1.setCell ⟨w.heap.size, 0, none⟩ (.int .i64 x.kind)) fun e w' => e = .returned (.int .i64 x.elem) ∧ Rd lim w' B (((Pg.dCnt x.n).en) ++ (M3)) (n) (d) ∧ (w1.setCell ⟨w.heap.size, 0, none⟩ (.int .i64 x.kind)).grownBy w' (some B)) := (by have hh := hk1; have hs9 := (G1.out : Ch w (w1.setCell ⟨w.heap.size, 0, none⟩ (.int .i64 x.kind)) [B]).size; exact rcount_ok q2 hh); clear hh gg hk1 HC0)
      | (go_at_call 92; refine HC1.out.mono ?_; rintro e w2 ⟨rfl, hh, gg⟩; have T2 : Hid (w2.heap[w.heap.size]? = some (.cells #[.int .i64 x.kind, .int .i64 0, .int .i64 0, .slice none 0 0] 51)) := ((gg.block _ (Array.getElem?_eq_some_iff.1 S1.out).1 (by simp; omega)).trans S1.out); have S2 : Hid ((w2.setCell ⟨w.heap.size, 1, none⟩ (.int .i64 x.elem)).heap[w.heap.size]? = some (.cells #[.int .i64 x.kind, .int .i64 x.elem, .int .i64 0, .slice none 0 0] 51)) := rset T2.out 1 (.int .i64 x.elem); have m1 : w2.cell? ⟨w.heap.size, 1, none⟩ = some (.int .i64 0) := rcell T2.out 1; have f1 : w2.frozen? ⟨w.heap.size, 1, none⟩ = false := rfrozen T2.out 1; have G2 : Hid (Ch w (w2.setCell ⟨w.heap.size, 1, none⟩ (.int .i64 x.elem)) [B]) := ((G1.out.trans (Ch.one gg (by simp))).new (Nat.le_refl _) (grown_setCell w2 w.heap.size 1 (.int .i64 x.elem))); have hk2 := hh.kept (grown_setCell w2 w.heap.size 1 (.int .i64 x.elem)) hlim hPB; have HC2 : Hid (Calls Try.prog 92 #[.pointer (some ⟨B, 0, none⟩)] (w2.setCell ⟨w.heap.size, 1, none⟩ (.int .i64 x.elem)) fun e w' => e = .returned (.int .i64 x.n) ∧ Rd lim w' B (M3) (n) (d) ∧ (w2.setCell ⟨w.heap.size, 1, none⟩ (.int .i64 x.elem)).grownBy w' (some B)) := (by have hh := hk2; have hs9 := (G2.out : Ch w (w2.setCell ⟨w.heap.size, 1, none⟩ (.int .i64 x.elem)) [B]).size; exact rcount_ok q3 hh); clear hh gg hk2 HC1)
      | (go_at_call 92; refine HC2.out.mono ?_; rintro e w3 ⟨rfl, hh, gg⟩; have T3 : Hid (w3.heap[w.heap.size]? = some (.cells #[.int .i64 x.kind, .int .i64 x.elem, .int .i64 0, .slice none 0 0] 51)) := ((gg.block _ (Array.getElem?_eq_some_iff.1 S2.out).1 (by simp; omega)).trans S2.out); have S3 : Hid ((w3.setCell ⟨w.heap.size, 2, none⟩ (.int .i64 x.n)).heap[w.heap.size]? = some (.cells #[.int .i64 x.kind, .int .i64 x.elem, .int .i64 x.n, .slice none 0 0] 51)) := rset T3.out 2 (.int .i64 x.n); have m2 : w3.cell? ⟨w.heap.size, 2, none⟩ = some (.int .i64 0) := rcell T3.out 2; have f2 : w3.frozen? ⟨w.heap.size, 2, none⟩ = false := rfrozen T3.out 2; have G3 : Hid (Ch w (w3.setCell ⟨w.heap.size, 2, none⟩ (.int .i64 x.n)) [B]) := ((G2.out.trans (Ch.one gg (by simp))).new (Nat.le_refl _) (grown_setCell w3 w.heap.size 2 (.int .i64 x.n))); have hk3 := hh.kept (grown_setCell w3 w.heap.size 2 (.int .i64 x.n)) hlim hPB; have HC3 : Hid (Calls Try.prog 93 #[.pointer (some ⟨B, 0, none⟩), .func (.func 92) #[.pointer (some ⟨B, 0, none⟩)] #[]] (w3.setCell ⟨w.heap.size, 2, none⟩ (.int .i64 x.n)) fun e w' => e = faults 80 ∧ (w3.setCell ⟨w.heap.size, 2, none⟩ (.int .i64 x.n)).grownBy w' (some B)) := (by have hh := hk3; have hs9 := (G3.out : Ch w (w3.setCell ⟨w.heap.size, 2, none⟩ (.int .i64 x.n)) [B]).size; exact rNums_cut hh HCUT.out (by omega) (by have := ZD.out; omega) (by have := ZD.out; omega) HN.out.1 HN.out.2.2); clear hh gg hk3 HC2)
      | (go_at_call 93; refine HC3.out.mono ?_; rintro e w9 ⟨rfl, gg⟩; have G9 : Hid (Ch w w9 [B]) := (G3.out.trans (Ch.one gg (by simp))); clear gg HC3))
    exact ⟨rfl, rfl, ⟨G9.out.os, G9.out.tape, G9.out.output, G9.out.size, fun k hk hne => G9.out.block k hk (by simpa using hne)⟩⟩
set_option maxRecDepth 100000 in
set_option maxHeartbeats 8000000 in
theorem rTs_ok {lim : Nat} {w : World} {B : Nat} {z : List Pg.Tp} {R : List Int} {n d : Nat} (h : Rd lim w B (((Pg.dCnt (z.length : Int)).en ++ (Pg.dCat Pg.Tp.dl z).en) ++ R) n d) (hlim : lim ≤ w.heap.size) (hn : n + (Pg.dCat Pg.Tp.dl z).nd ≤ 2048) (hd : d + (Pg.dCat Pg.Tp.dl z).dp ≤ 32) (hok : Pg.okB (z.length : Int) = true) (hpos : ∀ x, x ∈ z → 1 ≤ (Pg.Tp.dl x).en.length) (ih : ∀ x, x ∈ z → EntRd x) :
    Calls Try.prog 77 #[.pointer (some ⟨B, 0, none⟩), .func (.func 78) #[.pointer (some ⟨B, 0, none⟩)] #[]] w fun e w' => ∃ a c, e = .returned (.slice a z.length c) ∧ TpL (Fresh w w') w' a c z ∧ Rd lim w' B R (n + (Pg.dCat Pg.Tp.dl z).nd) d ∧ w.grownBy w' (some B) := by
  have hB := h.lt
  have hlz : z.length < 2147483648 := by have := (cnt_en hok).2.2; omega
  have HLn : Hid (Calls Try.prog 91 #[.pointer (some ⟨B, 0, none⟩)] w fun e w' => e = .returned (.int .i64 (z.length : Int)) ∧ Rd lim w' B ((Pg.dCat Pg.Tp.dl z).en ++ R) n d ∧ w.grownBy w' (some B)) := rlength_ok hok (by have := Pg.dCat_len Pg.Tp.dl z hpos; rw [List.length_append]; omega) (by rw [List.append_assoc] at h; exact h)
  have HI : Hid (∀ x, x ∈ z → EntRd x) := ih
  clear h ih hok hpos
  go_enter Try.func77, Try.ntmps77
  go_wp2_with (go_at_call 91; refine HLn.out.mono ?_; rintro e w4 ⟨rfl, h4, g4⟩; have R4 : Hid (Rd lim w4 B ((Pg.dCat Pg.Tp.dl z).en ++ R) n d) := h4; have G4 : Hid (w.grownBy w4 (some B)) := g4; clear h4 g4 HLn)
  go_loopw [4, 7] (fun v ix wr => ∃ (k : Nat) (L : List TE) (a' : Option Addr) (c' : Nat), v = .slice a' k c' ∧ ix = .int .i64 k ∧ k ≤ z.length ∧ L.map TE.x = z.take k ∧ CopR 51 4 cellsTE InTE w wr B k (.slice a' k c') L ∧ Rd lim wr B ((Pg.dCat Pg.Tp.dl (z.drop k)).en ++ R) (n + (Pg.dCat Pg.Tp.dl (z.take k)).nd) d) (fun _ ix _ => z.length - (intOf ix).toNat)
  case atStart => exact ⟨0, [], none, 0, rfl, rfl, Nat.zero_le _, rfl, CopR.start _ _ _ _ G4.out, R4.out⟩
  case round =>
    obtain ⟨k, L, a', c', rfl, rfl, hk, hm, hc, hr⟩ := hrel
    have HC : Hid (CopR 51 4 cellsTE InTE w wr B k (.slice a' k c') L) := hc
    have HM : Hid (L.map TE.x = z.take k) := hm
    have HRd : Hid (Rd lim wr B ((Pg.dCat Pg.Tp.dl (z.drop k)).en ++ R) (n + (Pg.dCat Pg.Tp.dl (z.take k)).nd) d) := hr
    clear hm
    by_cases hkn : k < z.length
    case neg =>
      obtain rfl : k = z.length := by omega
      obtain ⟨a1, c1, e1, hT1⟩ := CopR.row (cells := cellsTE) (In := InTE) (by' := 48) (fun e => rfl) hc (by show z.length * 48 ≤ 140737488351232; omega) TE.x (TpAt (Fresh w wr) wr) (fun b o e hcc hin => ⟨e.a1, e.k1, hcc 0 _ rfl, hcc 1 _ rfl, hcc 2 _ rfl, hcc 3 _ rfl, hin⟩) (fun e he => @inTE_ch _ _ _ _ [] _ he (Ch.refl _ _) (by simp) (fun q hq => ⟨hq.1, hq.2.1⟩))
      rw [HM.out, List.take_length] at hT1
      injection e1 with e1 _ e3
      subst e1
      subst e3
      have HT1 : Hid (TpL (Fresh w wr) wr a' c' z) := hT1
      have HG : Hid (w.grownBy wr (some B)) := hc.gr
      clear hc hT1 hr
      go_wp2
      go_ret
      refine ⟨a', c', rfl, HT1.out, ?_, HG.out⟩
      have := HRd.out
      rw [List.take_length, List.drop_length] at this
      simpa [Pg.dCat, Pg.Dl.nil] using this
    have hkn' : (k : Int) < z.length := by omega
    have hlen := hc.len
    have hsz := hc.gr.size
    obtain ⟨y1, y2, _, _⟩ := Pg.dCat_le Pg.Tp.dl z (k + 1)
    have hsc := Pg.dCat_succ Pg.Tp.dl hkn
    rw [hsc] at y1 y2
    simp only [Pg.Dl.app] at y1 y2
    have HS : Hid (n + (Pg.dCat Pg.Tp.dl (z.take (k + 1))).nd = n + (Pg.dCat Pg.Tp.dl (z.take k)).nd + (Pg.Tp.dl z[k]).nd) := by show _ = _; rw [hsc]; simp only [Pg.Dl.app]; omega
    have HT : Hid (z.take (k + 1) = z.take k ++ [z[k]]) := List.take_succ_eq_append_getElem hkn
    have hdr := Pg.dCat_drop Pg.Tp.dl hkn
    rw [hdr] at hr
    simp only [Pg.Dl.app, List.append_assoc] at hr
    have HE := HI.out z[k] (List.getElem_mem hkn) lim wr B ((Pg.dCat Pg.Tp.dl (z.drop (k + 1))).en ++ R) (n + (Pg.dCat Pg.Tp.dl (z.take k)).nd) d hr (by omega) (by omega) (by omega)
    clear hc hr hsc hdr y1 y2
    generalize z[k] = x at *
    have HE : Hid (Calls Try.prog 78 #[.pointer (some ⟨B, 0, none⟩)] wr fun e w' => ∃ a1 k1, e = .returned (.agg #[.int .i64 x.kind, .int .i64 x.elem, .int .i64 x.n, .slice a1 x.fields.length k1]) ∧ NumL (Fresh wr w') w' a1 k1 x.fields ∧ Rd lim w' B ((Pg.dCat Pg.Tp.dl (z.drop (k + 1))).en ++ R) (n + (Pg.dCat Pg.Tp.dl (z.take k)).nd + (Pg.Tp.dl x).nd) d ∧ wr.grownBy w' (some B)) := HE
    go_wp2_with (first
      | (go_at_call 78; refine HE.out.mono ?_; rintro e w5 ⟨p1, l1, rfl, n1, h5, g5⟩; have N5 : Hid (InTE (fun q => wr.heap.size ≤ q ∧ q < w5.heap.size) w5 ⟨x, p1, l1⟩) := n1; have R5 : Hid (Rd lim w5 B ((Pg.dCat Pg.Tp.dl (z.drop (k + 1))).en ++ R) (n + (Pg.dCat Pg.Tp.dl (z.take k)).nd + (Pg.Tp.dl x).nd) d) := h5; have G5 : Hid (wr.grownBy w5 (some B)) := g5; have hs5 := g5.size; clear h5 g5 HE n1)
      | (at_builtin; refine wp_appTE rfl _ _ rfl w.heap.size (.slice a' k c') L ⟨x, p1, l1⟩ (by rw [← hlen]; rfl) (World.ownsRow.kept HC.out.own G5.out (by rw [← hlen]; rcases HC.out.own.2 with ⟨e, _⟩ | ⟨g, cap, cur, e, hb, _⟩; exact .inl (by rw [hlen, e]; rfl); exact .inr (by rw [hlen, e]; simp [Value.ownBlock]; omega))) rfl rfl (by omega) (by omega) ?_; intro v6 w6 o6 g6 b6; have K6' := CopR.step (In := InTE) @inTE_ch HC.out hB G5.out N5.out o6 g6 b6; obtain ⟨a6, c6, rfl⟩ := K6'.slice; have K6 : Hid (CopR 51 4 cellsTE InTE w w6 B (k + 1) (.slice a6 (k + 1) c6) (L ++ [⟨x, p1, l1⟩])) := K6'; have R6 : Hid (Rd lim w6 B ((Pg.dCat Pg.Tp.dl (z.drop (k + 1))).en ++ R) (n + (Pg.dCat Pg.Tp.dl (z.take k)).nd + (Pg.Tp.dl x).nd) d) := (R5.out.app g6 (fun q hq => (by have := World.ownsRow.lt HC.out.own q hq; exact ⟨by omega, by omega⟩))); clear o6 g6 b6 K6'))
    go_roundw
    case rel => exact ⟨k + 1, L ++ [⟨x, p1, l1⟩], a6, c6, rfl, by go_num, by omega, by rw [List.map_append, HM.out, HT.out]; rfl, K6.out, by rw [HS.out]; exact R6.out⟩
    case measure => simp [intOf]; omega
set_option maxRecDepth 100000 in
set_option maxHeartbeats 8000000 in
theorem rTs_cut {lim : Nat} {w : World} {B : Nat} {z : List Pg.Tp} {M0 : List Int} {n d : Nat} (h : Rd lim w B M0 n d) (hcut : Cut M0 ((Pg.dCnt (z.length : Int)).en ++ (Pg.dCat Pg.Tp.dl z).en)) (hlim : lim ≤ w.heap.size) (hn : n + (Pg.dCat Pg.Tp.dl z).nd ≤ 2048) (hd : d + (Pg.dCat Pg.Tp.dl z).dp ≤ 32) (hok : Pg.okB (z.length : Int) = true) (ih : ∀ x, x ∈ z → EntRd x ∧ EntCut x) :
    Calls Try.prog 77 #[.pointer (some ⟨B, 0, none⟩), .func (.func 78) #[.pointer (some ⟨B, 0, none⟩)] #[]] w fun e w' => e = faults 80 ∧ w.grownBy w' (some B) := by
  have hB := h.lt
  have hlz : z.length < 2147483648 := by have := (cnt_en hok).2.2; omega
  have hcases : (Calls Try.prog 91 #[.pointer (some ⟨B, 0, none⟩)] w fun e w' => e = faults 80 ∧ w.grownBy w' (some B)) ∨ ∃ M, Cut M (Pg.dCat Pg.Tp.dl z).en ∧ (Calls Try.prog 91 #[.pointer (some ⟨B, 0, none⟩)] w fun e w' => e = .returned (.int .i64 (z.length : Int)) ∧ Rd lim w' B M n d ∧ w.grownBy w' (some B)) := by
    rcases cut_cases hcut with h1 | ⟨M, hM, h2⟩
    · exact .inl (rlength_cut (k := z.length) hok h1 h)
    · rw [hM] at h
      by_cases hlt : M.length < z.length
      · exact .inl (rlength_more (k := z.length) hok hlt h)
      · exact .inr ⟨M, h2, rlength_ok (k := z.length) hok (by omega) h⟩
  rcases hcases with HL1 | ⟨M, hM, HL2⟩
  · have HLn : Hid (Calls Try.prog 91 #[.pointer (some ⟨B, 0, none⟩)] w fun e w' => e = faults 80 ∧ w.grownBy w' (some B)) := HL1
    clear h ih hok hcut HL1
    go_enter Try.func77, Try.ntmps77
    go_wp2_with (go_at_call 91; refine HLn.out.mono ?_; rintro e w4 ⟨rfl, g4⟩; have G4 : Hid (w.grownBy w4 (some B)) := g4; clear g4 HLn)
    exact ⟨rfl, rfl, G4.out⟩
  have HLn : Hid (Calls Try.prog 91 #[.pointer (some ⟨B, 0, none⟩)] w fun e w' => e = .returned (.int .i64 (z.length : Int)) ∧ Rd lim w' B M n d ∧ w.grownBy w' (some B)) := HL2
  have HM0 : Hid (Cut M (Pg.dCat Pg.Tp.dl z).en) := hM
  have HI : Hid (∀ x, x ∈ z → EntRd x ∧ EntCut x) := ih
  clear h ih hok hcut HL2 hM
  go_enter Try.func77, Try.ntmps77
  go_wp2_with (go_at_call 91; refine HLn.out.mono ?_; rintro e w4 ⟨rfl, h4, g4⟩; have R4 : Hid (Rd lim w4 B M n d) := h4; have G4 : Hid (w.grownBy w4 (some B)) := g4; clear h4 g4 HLn)
  go_loopw [4, 7] (fun v ix wr => ∃ (k : Nat) (L : List TE) (a' : Option Addr) (c' : Nat) (M : List Int), v = .slice a' k c' ∧ ix = .int .i64 k ∧ k ≤ z.length ∧ L.map TE.x = z.take k ∧ CopR 51 4 cellsTE InTE w wr B k (.slice a' k c') L ∧ Cut M (Pg.dCat Pg.Tp.dl (z.drop k)).en ∧ Rd lim wr B M (n + (Pg.dCat Pg.Tp.dl (z.take k)).nd) d) (fun _ ix _ => z.length - (intOf ix).toNat)
  case atStart => exact ⟨0, [], none, 0, M, rfl, rfl, Nat.zero_le _, rfl, CopR.start _ _ _ _ G4.out, HM0.out, R4.out⟩
  case round =>
    obtain ⟨k, L, a', c', M1, rfl, rfl, hk, hm, hc, hcM, hr⟩ := hrel
    have HC : Hid (CopR 51 4 cellsTE InTE w wr B k (.slice a' k c') L) := hc
    have HM : Hid (L.map TE.x = z.take k) := hm
    clear hm
    have hkn : k < z.length := by
      by_cases hkn : k < z.length
      · exact hkn
      · obtain rfl : k = z.length := by omega
        rw [List.drop_length] at hcM
        exact (cut_nil hcM).elim
    have hkn' : (k : Int) < z.length := by omega
    have hlen := hc.len
    have hsz := hc.gr.size
    obtain ⟨y1, y2, _, _⟩ := Pg.dCat_le Pg.Tp.dl z (k + 1)
    have hsc := Pg.dCat_succ Pg.Tp.dl hkn
    rw [hsc] at y1 y2
    simp only [Pg.Dl.app] at y1 y2
    have HS : Hid (n + (Pg.dCat Pg.Tp.dl (z.take (k + 1))).nd = n + (Pg.dCat Pg.Tp.dl (z.take k)).nd + (Pg.Tp.dl z[k]).nd) := by show _ = _; rw [hsc]; simp only [Pg.Dl.app]; omega
    have HT : Hid (z.take (k + 1) = z.take k ++ [z[k]]) := List.take_succ_eq_append_getElem hkn
    have hdr := Pg.dCat_drop Pg.Tp.dl hkn
    rw [hdr] at hcM
    simp only [Pg.Dl.app] at hcM
    rcases cut_cases hcM with h1 | ⟨M2, hM2, h2⟩
    · have HE : Hid (Calls Try.prog 78 #[.pointer (some ⟨B, 0, none⟩)] wr fun e w' => e = faults 80 ∧ wr.grownBy w' (some B)) := (HI.out z[k] (List.getElem_mem hkn)).2 lim wr B M1 (n + (Pg.dCat Pg.Tp.dl (z.take k)).nd) d hr h1 (by omega) (by omega) (by omega)
      have HG : Hid (w.grownBy wr (some B)) := hc.gr
      clear hc hr hsc hdr y1 y2 hcM h1 HS HT
      go_wp2_with (go_at_call 78; refine HE.out.mono ?_; rintro e w5 ⟨rfl, g5⟩; have G5 : Hid (wr.grownBy w5 (some B)) := g5; clear g5 HE)
      exact ⟨rfl, rfl, grown_trans HG.out G5.out⟩
    · rw [hM2] at hr
      have HE := (HI.out z[k] (List.getElem_mem hkn)).1 lim wr B M2 (n + (Pg.dCat Pg.Tp.dl (z.take k)).nd) d hr (by omega) (by omega) (by omega)
      have HCM : Hid (Cut M2 (Pg.dCat Pg.Tp.dl (z.drop (k + 1))).en) := h2
      clear hc hr hsc hdr y1 y2 hcM h2 hM2
      generalize z[k] = x at *
      have HE : Hid (Calls Try.prog 78 #[.pointer (some ⟨B, 0, none⟩)] wr fun e w' => ∃ a1 k1, e = .returned (.agg #[.int .i64 x.kind, .int .i64 x.elem, .int .i64 x.n, .slice a1 x.fields.length k1]) ∧ NumL (Fresh wr w') w' a1 k1 x.fields ∧ Rd lim w' B (M2) (n + (Pg.dCat Pg.Tp.dl (z.take k)).nd + (Pg.Tp.dl x).nd) d ∧ wr.grownBy w' (some B)) := HE
      go_wp2_with (first
        | (go_at_call 78; refine HE.out.mono ?_; rintro e w5 ⟨p1, l1, rfl, n1, h5, g5⟩; have N5 : Hid (InTE (fun q => wr.heap.size ≤ q ∧ q < w5.heap.size) w5 ⟨x, p1, l1⟩) := n1; have R5 : Hid (Rd lim w5 B (M2) (n + (Pg.dCat Pg.Tp.dl (z.take k)).nd + (Pg.Tp.dl x).nd) d) := h5; have G5 : Hid (wr.grownBy w5 (some B)) := g5; have hs5 := g5.size; clear h5 g5 HE n1)
        | (at_builtin; refine wp_appTE rfl _ _ rfl w.heap.size (.slice a' k c') L ⟨x, p1, l1⟩ (by rw [← hlen]; rfl) (World.ownsRow.kept HC.out.own G5.out (by rw [← hlen]; rcases HC.out.own.2 with ⟨e, _⟩ | ⟨g, cap, cur, e, hb, _⟩; exact .inl (by rw [hlen, e]; rfl); exact .inr (by rw [hlen, e]; simp [Value.ownBlock]; omega))) rfl rfl (by omega) (by omega) ?_; intro v6 w6 o6 g6 b6; have K6' := CopR.step (In := InTE) @inTE_ch HC.out hB G5.out N5.out o6 g6 b6; obtain ⟨a6, c6, rfl⟩ := K6'.slice; have K6 : Hid (CopR 51 4 cellsTE InTE w w6 B (k + 1) (.slice a6 (k + 1) c6) (L ++ [⟨x, p1, l1⟩])) := K6'; have R6 : Hid (Rd lim w6 B (M2) (n + (Pg.dCat Pg.Tp.dl (z.take k)).nd + (Pg.Tp.dl x).nd) d) := (R5.out.app g6 (fun q hq => (by have := World.ownsRow.lt HC.out.own q hq; exact ⟨by omega, by omega⟩))); clear o6 g6 b6 K6'))
      go_roundw
      case rel => exact ⟨k + 1, L ++ [⟨x, p1, l1⟩], a6, c6, M2, rfl, by go_num, by omega, by rw [List.map_append, HM.out, HT.out]; rfl, K6.out, HCM.out, by rw [HS.out]; exact R6.out⟩
      case measure => simp [intOf]; omega
def FunRd (x : Pg.Fn) : Prop := ∀ (lim : Nat) (w : World) (B : Nat) (R : List Int) (n d : Nat), Rd lim w B (x.dl.en ++ R) n d → lim ≤ w.heap.size → n + x.dl.nd ≤ 2048 → d + x.dl.dp ≤ 32 →
  Calls Try.prog 80 #[.pointer (some ⟨B, 0, none⟩)] w fun e w' => ∃ a1 k1 a2 k2 a3 k3, e = .returned (.agg #[.int .i64 x.params, .slice a1 x.locals.length k1, .slice a2 x.results.length k2, .slice a3 x.body.length k3]) ∧ NumL (Fresh w w') w' a1 k1 x.locals ∧ NumL (Fresh w w') w' a2 k2 x.results ∧ StL (Fresh w w') w' a3 k3 x.body ∧ Rd lim w' B R (n + x.dl.nd) d ∧ w.grownBy w' (some B)
def FunCut (x : Pg.Fn) : Prop := ∀ (lim : Nat) (w : World) (B : Nat) (M : List Int) (n d : Nat), Rd lim w B M n d → Cut M x.dl.en → lim ≤ w.heap.size → n + x.dl.nd ≤ 2048 → d + x.dl.dp ≤ 32 →
  Calls Try.prog 80 #[.pointer (some ⟨B, 0, none⟩)] w fun e w' => e = faults 80 ∧ w.grownBy w' (some B)
theorem Pg.Fn.parts2 (x : Pg.Fn) (h : x.dl.may = true) : Pg.okB x.params = true ∧ (Pg.dNumL x.locals).may = true ∧ (Pg.dNumL x.results).may = true ∧ (Pg.dStL x.body).may = true ∧ x.dl.en = (Pg.dCnt x.params).en ++ (((Pg.dCnt (x.locals.length : Int)).en ++ (Pg.dCat Pg.dCnt x.locals).en) ++ (((Pg.dCnt (x.results.length : Int)).en ++ (Pg.dCat Pg.dCnt x.results).en) ++ ((Pg.dCnt (x.body.length : Int)).en ++ (Pg.dCat Pg.St.dl x.body).en))) := by
  obtain ⟨h1, h2, h3, h4, h5⟩ := Pg.Fn.parts x h
  refine ⟨h1, h2, h3, h4, ?_⟩
  rw [h5]
  simp only [Pg.dNumL, Pg.dNums_cat, Pg.dStL, Pg.dSs_cat, Pg.Dl.app, List.append_assoc]
theorem fn_pos (y : Pg.Fn) (h : y.dl.may = true) : 1 ≤ y.dl.en.length := by
  have hy1 := Pg.Fn.parts2 y h
  have := Pg.cnt_pos (n := y.params) (by rw [dCnt_may]; exact hy1.1)
  rw [hy1.2.2.2.2, List.length_append]
  omega
set_option maxRecDepth 100000 in
set_option maxHeartbeats 16000000 in
theorem fun_rd (x : Pg.Fn) (hx : x.dl.may = true) (hr : ∀ y, y ∈ x.body → StR y) : FunRd x := by
  intro lim w B R n d h hlim hn hd
  obtain ⟨q1, g2, g3, g4, q7⟩ := Pg.Fn.parts2 x hx
  have HL : Hid (Pg.okB (x.locals.length : Int) = true ∧ (∀ y, y ∈ x.locals → 1 ≤ (Pg.dCnt y).en.length) ∧ (∀ y, y ∈ x.locals → IntRd y ∧ IntCut y)) := nums_rd g2
  have HR : Hid (Pg.okB (x.results.length : Int) = true ∧ (∀ y, y ∈ x.results → 1 ≤ (Pg.dCnt y).en.length) ∧ (∀ y, y ∈ x.results → IntRd y ∧ IntCut y)) := nums_rd g3
  obtain ⟨q5, ma⟩ := sts_ok g4
  have HA : Hid ((∀ y, y ∈ x.body → R64 y.n) ∧ (∀ y, y ∈ x.body → 1 ≤ y.dl.en.length) ∧ (∀ y, y ∈ x.body → StmtRd y ∧ StmtCut y)) := ⟨fun y hy => (StR.parts (hr y hy)).1, fun y hy => st_pos y (Pg.dCat_mem Pg.St.dl hy ma), fun y hy => stmt_both y ⟨Pg.dCat_mem Pg.St.dl hy ma, hr y hy⟩⟩
  obtain ⟨en, ed⟩ := Pg.Fn.nd_eq x
  rw [en] at hn
  rw [ed] at hd
  have ZD : Hid (((Pg.dCat Pg.dCnt x.locals).nd = 0 ∧ (Pg.dCat Pg.dCnt x.locals).dp = 0) ∧ ((Pg.dCat Pg.dCnt x.results).nd = 0 ∧ (Pg.dCat Pg.dCnt x.results).dp = 0)) := ⟨Pg.nums0 x.locals, Pg.nums0 x.results⟩
  have EN : Hid (x.dl.nd = (Pg.dCat Pg.St.dl x.body).nd) := en
  clear hx hr en ed g2 g3 g4 ma
  have hB := h.lt
  have hPB : w.heap.size ≠ B := by omega
  have g1 : w.grownBy (w.alloc (.cells #[.int .i64 0, .slice none 0 0, .slice none 0 0, .slice none 0 0] 55)) none := World.grownBy_alloc _ _ _
  have HG1 : Hid (w.grownBy (w.alloc (.cells #[.int .i64 0, .slice none 0 0, .slice none 0 0, .slice none 0 0] 55)) none) := g1
  have Q : Hid ((w.alloc (.cells #[.int .i64 0, .slice none 0 0, .slice none 0 0, .slice none 0 0] 55)).heap[w.heap.size]? = some (.cells #[.int .i64 0, .slice none 0 0, .slice none 0 0, .slice none 0 0] 55)) := heap_alloc_new w _
  rw [show x.dl.en ++ R = ((Pg.dCnt x.params).en) ++ (((Pg.dCnt (x.locals.length : Int)).en ++ (Pg.dCat Pg.dCnt x.locals).en) ++ (((Pg.dCnt (x.results.length : Int)).en ++ (Pg.dCat Pg.dCnt x.results).en) ++ (((Pg.dCnt (x.body.length : Int)).en ++ (Pg.dCat Pg.St.dl x.body).en) ++ (R)))) from by rw [q7]; simp only [List.append_assoc]] at h
  have Q0 : Hid ((w.alloc (.cells #[.int .i64 0, .slice none 0 0, .slice none 0 0, .slice none 0 0] 55)).heap[w.heap.size]? = some (.cells #[.int .i64 0, .slice none 0 0, .slice none 0 0, .slice none 0 0] 55)) := Q.out
  have G0 : Hid (Ch w (w.alloc (.cells #[.int .i64 0, .slice none 0 0, .slice none 0 0, .slice none 0 0] 55)) [B]) := Ch.of g1
  have HC0 : Hid (Calls Try.prog 92 #[.pointer (some ⟨B, 0, none⟩)] (w.alloc (.cells #[.int .i64 0, .slice none 0 0, .slice none 0 0, .slice none 0 0] 55)) fun e w' => e = .returned (.int .i64 x.params) ∧ Rd lim w' B (((Pg.dCnt (x.locals.length : Int)).en ++ (Pg.dCat Pg.dCnt x.locals).en) ++ (((Pg.dCnt (x.results.length : Int)).en ++ (Pg.dCat Pg.dCnt x.results).en) ++ (((Pg.dCnt (x.body.length : Int)).en ++ (Pg.dCat Pg.St.dl x.body).en) ++ (R)))) (n) (d) ∧ (w.alloc (.cells #[.int .i64 0, .slice none 0 0, .slice none 0 0, .slice none 0 0] 55)).grownBy w' (some B)) := (by have hh := h.grow g1; have hs9 := g1.size; exact rcount_ok q1 hh)
  clear h g1
  go_enter Try.func80, Try.ntmps80
  go_wp2_with (first
    | (go_at_call 92; refine HC0.out.mono ?_; rintro e w1 ⟨rfl, hh, gg⟩; have T1 : Hid (w1.heap[w.heap.size]? = some (.cells #[.int .i64 0, .slice none 0 0, .slice none 0 0, .slice none 0 0] 55)) := ((gg.block _ (Array.getElem?_eq_some_iff.1 Q0.out).1 (by simp; omega)).trans Q0.out); have S1 : Hid ((w1.setCell ⟨w.heap.size, 0, none⟩ (.int .i64 x.params)).heap[w.heap.size]? = some (.cells #[.int .i64 x.params, .slice none 0 0, .slice none 0 0, .slice none 0 0] 55)) := rset T1.out 0 (.int .i64 x.params); have m0 : w1.cell? ⟨w.heap.size, 0, none⟩ = some (.int .i64 0) := rcell T1.out 0; have f0 : w1.frozen? ⟨w.heap.size, 0, none⟩ = false := rfrozen T1.out 0; have G1 : Hid (Ch w (w1.setCell ⟨w.heap.size, 0, none⟩ (.int .i64 x.params)) [B]) := ((G0.out.trans (Ch.one gg (by simp))).new (Nat.le_refl _) (grown_setCell w1 w.heap.size 0 (.int .i64 x.params))); have hk1 := hh.kept (grown_setCell w1 w.heap.size 0 (.int .i64 x.params)) hlim hPB; have HC1 : Hid (Calls Try.prog 93 #[.pointer (some ⟨B, 0, none⟩), .func (.func 92) #[.pointer (some ⟨B, 0, none⟩)] #[]] (w1.setCell ⟨w.heap.size, 0, none⟩ (.int .i64 x.params)) fun e w' => ∃ a1 k1, e = .returned (.slice a1 x.locals.length k1) ∧ NumL (Fresh (w1.setCell ⟨w.heap.size, 0, none⟩ (.int .i64 x.params)) w') w' a1 k1 x.locals ∧ Rd lim w' B (((Pg.dCnt (x.results.length : Int)).en ++ (Pg.dCat Pg.dCnt x.results).en) ++ (((Pg.dCnt (x.body.length : Int)).en ++ (Pg.dCat Pg.St.dl x.body).en) ++ (R))) (n + (Pg.dCat Pg.dCnt x.locals).nd) (d) ∧ (w1.setCell ⟨w.heap.size, 0, none⟩ (.int .i64 x.params)).grownBy w' (some B)) := (by have hh := hk1; have hs9 := (G1.out : Ch w (w1.setCell ⟨w.heap.size, 0, none⟩ (.int .i64 x.params)) [B]).size; exact rNums_ok hh (by omega) (by have := ZD.out; omega) (by have := ZD.out; omega) HL.out.1 HL.out.2.1 (fun y hy => (HL.out.2.2 y hy).1)); clear hh gg hk1 HC0)
    | (go_at_call 93; refine HC1.out.mono ?_; rintro e w2 ⟨a1, k1, rfl, hrow, hh, gg⟩; have T2 : Hid (w2.heap[w.heap.size]? = some (.cells #[.int .i64 x.params, .slice none 0 0, .slice none 0 0, .slice none 0 0] 55)) := ((gg.block _ (Array.getElem?_eq_some_iff.1 S1.out).1 (by simp; omega)).trans S1.out); have S2 : Hid ((w2.setCell ⟨w.heap.size, 1, none⟩ (.slice a1 x.locals.length k1)).heap[w.heap.size]? = some (.cells #[.int .i64 x.params, .slice a1 x.locals.length k1, .slice none 0 0, .slice none 0 0] 55)) := rset T2.out 1 (.slice a1 x.locals.length k1); have m1 : w2.cell? ⟨w.heap.size, 1, none⟩ = some (.slice none 0 0) := rcell T2.out 1; have f1 : w2.frozen? ⟨w.heap.size, 1, none⟩ = false := rfrozen T2.out 1; have G2 : Hid (Ch w (w2.setCell ⟨w.heap.size, 1, none⟩ (.slice a1 x.locals.length k1)) [B]) := ((G1.out.trans (Ch.one gg (by simp))).new (Nat.le_refl _) (grown_setCell w2 w.heap.size 1 (.slice a1 x.locals.length k1))); have hk2 := hh.kept (grown_setCell w2 w.heap.size 1 (.slice a1 x.locals.length k1)) hlim hPB; have RW1 : Hid (NumL (Fresh (w1.setCell ⟨w.heap.size, 0, none⟩ (.int .i64 x.params)) w2) w2 a1 k1 x.locals) := hrow; have sz1 : w.heap.size + 1 ≤ (w1.setCell ⟨w.heap.size, 0, none⟩ (.int .i64 x.params)).heap.size := (by have := (Array.getElem?_eq_some_iff.1 S1.out).1; omega); have CB1 : Hid (Ch w2 (w2.setCell ⟨w.heap.size, 1, none⟩ (.slice a1 x.locals.length k1)) [B, w.heap.size]) := Ch.one (grown_setCell w2 w.heap.size 1 (.slice a1 x.locals.length k1)) (by simp); have HC2 : Hid (Calls Try.prog 93 #[.pointer (some ⟨B, 0, none⟩), .func (.func 92) #[.pointer (some ⟨B, 0, none⟩)] #[]] (w2.setCell ⟨w.heap.size, 1, none⟩ (.slice a1 x.locals.length k1)) fun e w' => ∃ a2 k2, e = .returned (.slice a2 x.results.length k2) ∧ NumL (Fresh (w2.setCell ⟨w.heap.size, 1, none⟩ (.slice a1 x.locals.length k1)) w') w' a2 k2 x.results ∧ Rd lim w' B (((Pg.dCnt (x.body.length : Int)).en ++ (Pg.dCat Pg.St.dl x.body).en) ++ (R)) (n + (Pg.dCat Pg.dCnt x.locals).nd + (Pg.dCat Pg.dCnt x.results).nd) (d) ∧ (w2.setCell ⟨w.heap.size, 1, none⟩ (.slice a1 x.locals.length k1)).grownBy w' (some B)) := (by have hh := hk2; have hs9 := (G2.out : Ch w (w2.setCell ⟨w.heap.size, 1, none⟩ (.slice a1 x.locals.length k1)) [B]).size; exact rNums_ok hh (by omega) (by have := ZD.out; omega) (by have := ZD.out; omega) HR.out.1 HR.out.2.1 (fun y hy => (HR.out.2.2 y hy).1)); clear hh gg hk2 HC1 hrow)
    | (go_at_call 93; refine HC2.out.mono ?_; rintro e w3 ⟨a2, k2, rfl, hrow, hh, gg⟩; have T3 : Hid (w3.heap[w.heap.size]? = some (.cells #[.int .i64 x.params, .slice a1 x.locals.length k1, .slice none 0 0, .slice none 0 0] 55)) := ((gg.block _ (Array.getElem?_eq_some_iff.1 S2.out).1 (by simp; omega)).trans S2.out); have S3 : Hid ((w3.setCell ⟨w.heap.size, 2, none⟩ (.slice a2 x.results.length k2)).heap[w.heap.size]? = some (.cells #[.int .i64 x.params, .slice a1 x.locals.length k1, .slice a2 x.results.length k2, .slice none 0 0] 55)) := rset T3.out 2 (.slice a2 x.results.length k2); have m2 : w3.cell? ⟨w.heap.size, 2, none⟩ = some (.slice none 0 0) := rcell T3.out 2; have f2 : w3.frozen? ⟨w.heap.size, 2, none⟩ = false := rfrozen T3.out 2; have G3 : Hid (Ch w (w3.setCell ⟨w.heap.size, 2, none⟩ (.slice a2 x.results.length k2)) [B]) := ((G2.out.trans (Ch.one gg (by simp))).new (Nat.le_refl _) (grown_setCell w3 w.heap.size 2 (.slice a2 x.results.length k2))); have hk3 := hh.kept (grown_setCell w3 w.heap.size 2 (.slice a2 x.results.length k2)) hlim hPB; have RW2 : Hid (NumL (Fresh (w2.setCell ⟨w.heap.size, 1, none⟩ (.slice a1 x.locals.length k1)) w3) w3 a2 k2 x.results) := hrow; have sz2 : w.heap.size + 1 ≤ (w2.setCell ⟨w.heap.size, 1, none⟩ (.slice a1 x.locals.length k1)).heap.size := (by have := (Array.getElem?_eq_some_iff.1 S2.out).1; omega); have CB2 : Hid (Ch w3 (w3.setCell ⟨w.heap.size, 2, none⟩ (.slice a2 x.results.length k2)) [B, w.heap.size]) := Ch.one (grown_setCell w3 w.heap.size 2 (.slice a2 x.results.length k2)) (by simp); have CB1 : Hid (Ch w2 (w3.setCell ⟨w.heap.size, 2, none⟩ (.slice a2 x.results.length k2)) [B, w.heap.size]) := (CB1.out.trans ((Ch.one gg (by simp)).trans (Ch.one (grown_setCell w3 w.heap.size 2 (.slice a2 x.results.length k2)) (by simp)))); have HC3 : Hid (Calls Try.prog 94 #[.pointer (some ⟨B, 0, none⟩), .func (.func 95) #[.pointer (some ⟨B, 0, none⟩)] #[]] (w3.setCell ⟨w.heap.size, 2, none⟩ (.slice a2 x.results.length k2)) fun e w' => ∃ a3 k3, e = .returned (.slice a3 x.body.length k3) ∧ StL (Fresh (w3.setCell ⟨w.heap.size, 2, none⟩ (.slice a2 x.results.length k2)) w') w' a3 k3 x.body ∧ Rd lim w' B (R) (n + (Pg.dCat Pg.dCnt x.locals).nd + (Pg.dCat Pg.dCnt x.results).nd + (Pg.dCat Pg.St.dl x.body).nd) (d) ∧ (w3.setCell ⟨w.heap.size, 2, none⟩ (.slice a2 x.results.length k2)).grownBy w' (some B)) := (by have hh := hk3; have hs9 := (G3.out : Ch w (w3.setCell ⟨w.heap.size, 2, none⟩ (.slice a2 x.results.length k2)) [B]).size; exact rSs_ok hh (by omega) (by have := ZD.out; omega) (by have := ZD.out; omega) q5 HA.out.2.1 HA.out.1 (fun y hy => (HA.out.2.2 y hy).1)); clear hh gg hk3 HC2 hrow)
    | (go_at_call 94; refine HC3.out.mono ?_; rintro e w4 ⟨a3, k3, rfl, hrow, hh, gg⟩; have T4 : Hid (w4.heap[w.heap.size]? = some (.cells #[.int .i64 x.params, .slice a1 x.locals.length k1, .slice a2 x.results.length k2, .slice none 0 0] 55)) := ((gg.block _ (Array.getElem?_eq_some_iff.1 S3.out).1 (by simp; omega)).trans S3.out); have S4 : Hid ((w4.setCell ⟨w.heap.size, 3, none⟩ (.slice a3 x.body.length k3)).heap[w.heap.size]? = some (.cells #[.int .i64 x.params, .slice a1 x.locals.length k1, .slice a2 x.results.length k2, .slice a3 x.body.length k3] 55)) := rset T4.out 3 (.slice a3 x.body.length k3); have m3 : w4.cell? ⟨w.heap.size, 3, none⟩ = some (.slice none 0 0) := rcell T4.out 3; have f3 : w4.frozen? ⟨w.heap.size, 3, none⟩ = false := rfrozen T4.out 3; have G4 : Hid (Ch w (w4.setCell ⟨w.heap.size, 3, none⟩ (.slice a3 x.body.length k3)) [B]) := ((G3.out.trans (Ch.one gg (by simp))).new (Nat.le_refl _) (grown_setCell w4 w.heap.size 3 (.slice a3 x.body.length k3))); have hk4 := hh.kept (grown_setCell w4 w.heap.size 3 (.slice a3 x.body.length k3)) hlim hPB; have RW3 : Hid (StL (Fresh (w3.setCell ⟨w.heap.size, 2, none⟩ (.slice a2 x.results.length k2)) w4) w4 a3 k3 x.body) := hrow; have sz3 : w.heap.size + 1 ≤ (w3.setCell ⟨w.heap.size, 2, none⟩ (.slice a2 x.results.length k2)).heap.size := (by have := (Array.getElem?_eq_some_iff.1 S3.out).1; omega); have CB3 : Hid (Ch w4 (w4.setCell ⟨w.heap.size, 3, none⟩ (.slice a3 x.body.length k3)) [B, w.heap.size]) := Ch.one (grown_setCell w4 w.heap.size 3 (.slice a3 x.body.length k3)) (by simp); have CB1 : Hid (Ch w2 (w4.setCell ⟨w.heap.size, 3, none⟩ (.slice a3 x.body.length k3)) [B, w.heap.size]) := (CB1.out.trans ((Ch.one gg (by simp)).trans (Ch.one (grown_setCell w4 w.heap.size 3 (.slice a3 x.body.length k3)) (by simp)))); have CB2 : Hid (Ch w3 (w4.setCell ⟨w.heap.size, 3, none⟩ (.slice a3 x.body.length k3)) [B, w.heap.size]) := (CB2.out.trans ((Ch.one gg (by simp)).trans (Ch.one (grown_setCell w4 w.heap.size 3 (.slice a3 x.body.length k3)) (by simp)))); have e0 : w4.cell? ⟨w.heap.size, 0, none⟩ = some (.int .i64 x.params) := rcell T4.out 0; have z0 : w4.frozen? ⟨w.heap.size, 0, none⟩ = false := rfrozen T4.out 0; have e1 : w4.cell? ⟨w.heap.size, 1, none⟩ = some (.slice a1 x.locals.length k1) := rcell T4.out 1; have z1 : w4.frozen? ⟨w.heap.size, 1, none⟩ = false := rfrozen T4.out 1; have e2 : w4.cell? ⟨w.heap.size, 2, none⟩ = some (.slice a2 x.results.length k2) := rcell T4.out 2; have z2 : w4.frozen? ⟨w.heap.size, 2, none⟩ = false := rfrozen T4.out 2; have HKN : Hid (Rd lim (w4.setCell ⟨w.heap.size, 3, none⟩ (.slice a3 x.body.length k3)) B (R) (n + (Pg.dCat Pg.dCnt x.locals).nd + (Pg.dCat Pg.dCnt x.results).nd + (Pg.dCat Pg.St.dl x.body).nd) d) := hk4; clear hh gg hk4 HC3 hrow))
  have P7 := (rset (rset (rset (rset S4.out 0 (.int .i64 x.params)) 1 (.slice a1 x.locals.length k1)) 2 (.slice a2 x.results.length k2)) 3 (.slice a3 x.body.length k3))
  have G7 := ((((G4.out.new (Nat.le_refl _) (grown_setCell (w4.setCell ⟨w.heap.size, 3, none⟩ (.slice a3 x.body.length k3)) w.heap.size 0 (.int .i64 x.params))).new (Nat.le_refl _) (grown_setCell ((w4.setCell ⟨w.heap.size, 3, none⟩ (.slice a3 x.body.length k3)).setCell ⟨w.heap.size, 0, none⟩ (.int .i64 x.params)) w.heap.size 1 (.slice a1 x.locals.length k1))).new (Nat.le_refl _) (grown_setCell (((w4.setCell ⟨w.heap.size, 3, none⟩ (.slice a3 x.body.length k3)).setCell ⟨w.heap.size, 0, none⟩ (.int .i64 x.params)).setCell ⟨w.heap.size, 1, none⟩ (.slice a1 x.locals.length k1)) w.heap.size 2 (.slice a2 x.results.length k2))).new (Nat.le_refl _) (grown_setCell ((((w4.setCell ⟨w.heap.size, 3, none⟩ (.slice a3 x.body.length k3)).setCell ⟨w.heap.size, 0, none⟩ (.int .i64 x.params)).setCell ⟨w.heap.size, 1, none⟩ (.slice a1 x.locals.length k1)).setCell ⟨w.heap.size, 2, none⟩ (.slice a2 x.results.length k2)) w.heap.size 3 (.slice a3 x.body.length k3)))
  have R7 := ((((HKN.out.kept (grown_setCell (w4.setCell ⟨w.heap.size, 3, none⟩ (.slice a3 x.body.length k3)) w.heap.size 0 (.int .i64 x.params)) hlim hPB).kept (grown_setCell ((w4.setCell ⟨w.heap.size, 3, none⟩ (.slice a3 x.body.length k3)).setCell ⟨w.heap.size, 0, none⟩ (.int .i64 x.params)) w.heap.size 1 (.slice a1 x.locals.length k1)) hlim hPB).kept (grown_setCell (((w4.setCell ⟨w.heap.size, 3, none⟩ (.slice a3 x.body.length k3)).setCell ⟨w.heap.size, 0, none⟩ (.int .i64 x.params)).setCell ⟨w.heap.size, 1, none⟩ (.slice a1 x.locals.length k1)) w.heap.size 2 (.slice a2 x.results.length k2)) hlim hPB).kept (grown_setCell ((((w4.setCell ⟨w.heap.size, 3, none⟩ (.slice a3 x.body.length k3)).setCell ⟨w.heap.size, 0, none⟩ (.int .i64 x.params)).setCell ⟨w.heap.size, 1, none⟩ (.slice a1 x.locals.length k1)).setCell ⟨w.heap.size, 2, none⟩ (.slice a2 x.results.length k2)) w.heap.size 3 (.slice a3 x.body.length k3)) hlim hPB)
  have B7 := (((((Ch.refl (w4.setCell ⟨w.heap.size, 3, none⟩ (.slice a3 x.body.length k3)) [B, w.heap.size]).trans (Ch.one (grown_setCell (w4.setCell ⟨w.heap.size, 3, none⟩ (.slice a3 x.body.length k3)) w.heap.size 0 (.int .i64 x.params)) (by simp))).trans (Ch.one (grown_setCell ((w4.setCell ⟨w.heap.size, 3, none⟩ (.slice a3 x.body.length k3)).setCell ⟨w.heap.size, 0, none⟩ (.int .i64 x.params)) w.heap.size 1 (.slice a1 x.locals.length k1)) (by simp))).trans (Ch.one (grown_setCell (((w4.setCell ⟨w.heap.size, 3, none⟩ (.slice a3 x.body.length k3)).setCell ⟨w.heap.size, 0, none⟩ (.int .i64 x.params)).setCell ⟨w.heap.size, 1, none⟩ (.slice a1 x.locals.length k1)) w.heap.size 2 (.slice a2 x.results.length k2)) (by simp))).trans (Ch.one (grown_setCell ((((w4.setCell ⟨w.heap.size, 3, none⟩ (.slice a3 x.body.length k3)).setCell ⟨w.heap.size, 0, none⟩ (.int .i64 x.params)).setCell ⟨w.heap.size, 1, none⟩ (.slice a1 x.locals.length k1)).setCell ⟨w.heap.size, 2, none⟩ (.slice a2 x.results.length k2)) w.heap.size 3 (.slice a3 x.body.length k3)) (by simp)))
  have X1 : NumL (Fresh w (((((w4.setCell ⟨w.heap.size, 3, none⟩ (.slice a3 x.body.length k3)).setCell ⟨w.heap.size, 0, none⟩ (.int .i64 x.params)).setCell ⟨w.heap.size, 1, none⟩ (.slice a1 x.locals.length k1)).setCell ⟨w.heap.size, 2, none⟩ (.slice a2 x.results.length k2)).setCell ⟨w.heap.size, 3, none⟩ (.slice a3 x.body.length k3))) (((((w4.setCell ⟨w.heap.size, 3, none⟩ (.slice a3 x.body.length k3)).setCell ⟨w.heap.size, 0, none⟩ (.int .i64 x.params)).setCell ⟨w.heap.size, 1, none⟩ (.slice a1 x.locals.length k1)).setCell ⟨w.heap.size, 2, none⟩ (.slice a2 x.results.length k2)).setCell ⟨w.heap.size, 3, none⟩ (.slice a3 x.body.length k3)) a1 k1 x.locals := NumL.ch RW1.out (CB1.out.trans B7) (fun q hq => by have h1 := hq.1; have h2 := sz1; simp; omega) (fun q hq => ⟨by have h1 := hq.1; have h2 := sz1; omega, by have h1 := hq.2; have h2 := (CB1.out.trans B7).size; omega⟩)
  have X2 : NumL (Fresh w (((((w4.setCell ⟨w.heap.size, 3, none⟩ (.slice a3 x.body.length k3)).setCell ⟨w.heap.size, 0, none⟩ (.int .i64 x.params)).setCell ⟨w.heap.size, 1, none⟩ (.slice a1 x.locals.length k1)).setCell ⟨w.heap.size, 2, none⟩ (.slice a2 x.results.length k2)).setCell ⟨w.heap.size, 3, none⟩ (.slice a3 x.body.length k3))) (((((w4.setCell ⟨w.heap.size, 3, none⟩ (.slice a3 x.body.length k3)).setCell ⟨w.heap.size, 0, none⟩ (.int .i64 x.params)).setCell ⟨w.heap.size, 1, none⟩ (.slice a1 x.locals.length k1)).setCell ⟨w.heap.size, 2, none⟩ (.slice a2 x.results.length k2)).setCell ⟨w.heap.size, 3, none⟩ (.slice a3 x.body.length k3)) a2 k2 x.results := NumL.ch RW2.out (CB2.out.trans B7) (fun q hq => by have h1 := hq.1; have h2 := sz2; simp; omega) (fun q hq => ⟨by have h1 := hq.1; have h2 := sz2; omega, by have h1 := hq.2; have h2 := (CB2.out.trans B7).size; omega⟩)
  have X3 : StL (Fresh w (((((w4.setCell ⟨w.heap.size, 3, none⟩ (.slice a3 x.body.length k3)).setCell ⟨w.heap.size, 0, none⟩ (.int .i64 x.params)).setCell ⟨w.heap.size, 1, none⟩ (.slice a1 x.locals.length k1)).setCell ⟨w.heap.size, 2, none⟩ (.slice a2 x.results.length k2)).setCell ⟨w.heap.size, 3, none⟩ (.slice a3 x.body.length k3))) (((((w4.setCell ⟨w.heap.size, 3, none⟩ (.slice a3 x.body.length k3)).setCell ⟨w.heap.size, 0, none⟩ (.int .i64 x.params)).setCell ⟨w.heap.size, 1, none⟩ (.slice a1 x.locals.length k1)).setCell ⟨w.heap.size, 2, none⟩ (.slice a2 x.results.length k2)).setCell ⟨w.heap.size, 3, none⟩ (.slice a3 x.body.length k3)) a3 k3 x.body := StL.ch RW3.out (CB3.out.trans B7) (fun q hq => by have h1 := hq.1; have h2 := sz3; simp; omega) (fun q hq => ⟨by have h1 := hq.1; have h2 := sz3; omega, by have h1 := hq.2; have h2 := (CB3.out.trans B7).size; omega⟩)
  generalize (((((w4.setCell ⟨w.heap.size, 3, none⟩ (.slice a3 x.body.length k3)).setCell ⟨w.heap.size, 0, none⟩ (.int .i64 x.params)).setCell ⟨w.heap.size, 1, none⟩ (.slice a1 x.locals.length k1)).setCell ⟨w.heap.size, 2, none⟩ (.slice a2 x.results.length k2)).setCell ⟨w.heap.size, 3, none⟩ (.slice a3 x.body.length k3)) = W9 at *
  have r0 : W9.cell? ⟨w.heap.size, 0, none⟩ = some (.int .i64 x.params) := rcell P7 0
  have r1 : W9.cell? ⟨w.heap.size, 1, none⟩ = some (.slice a1 x.locals.length k1) := rcell P7 1
  have r2 : W9.cell? ⟨w.heap.size, 2, none⟩ = some (.slice a2 x.results.length k2) := rcell P7 2
  have r3 : W9.cell? ⟨w.heap.size, 3, none⟩ = some (.slice a3 x.body.length k3) := rcell P7 3
  refine bodyPost_ret (by simp [results, Try.results80, go_sem, r0, r1, r2, r3]; try rfl) rfl ?_
  exact ⟨a1, k1, a2, k2, a3, k3, rfl, X1, X2, X3, by rw [EN.out]; have := R7; rw [show n + (Pg.dCat Pg.dCnt x.locals).nd + (Pg.dCat Pg.dCnt x.results).nd + (Pg.dCat Pg.St.dl x.body).nd = n + (Pg.dCat Pg.St.dl x.body).nd from by have := ZD.out; omega] at this; exact this, ⟨G7.os, G7.tape, G7.output, G7.size, fun k hk hne => G7.block k hk (by simpa using hne)⟩⟩
set_option maxRecDepth 100000 in
set_option maxHeartbeats 16000000 in
theorem fun_cut (x : Pg.Fn) (hx : x.dl.may = true) (hr : ∀ y, y ∈ x.body → StR y) : FunCut x := by
  intro lim w B M n d h hc hlim hn hd
  obtain ⟨q1, g2, g3, g4, q7⟩ := Pg.Fn.parts2 x hx
  have HL : Hid (Pg.okB (x.locals.length : Int) = true ∧ (∀ y, y ∈ x.locals → 1 ≤ (Pg.dCnt y).en.length) ∧ (∀ y, y ∈ x.locals → IntRd y ∧ IntCut y)) := nums_rd g2
  have HR : Hid (Pg.okB (x.results.length : Int) = true ∧ (∀ y, y ∈ x.results → 1 ≤ (Pg.dCnt y).en.length) ∧ (∀ y, y ∈ x.results → IntRd y ∧ IntCut y)) := nums_rd g3
  obtain ⟨q5, ma⟩ := sts_ok g4
  have HA : Hid ((∀ y, y ∈ x.body → R64 y.n) ∧ (∀ y, y ∈ x.body → 1 ≤ y.dl.en.length) ∧ (∀ y, y ∈ x.body → StmtRd y ∧ StmtCut y)) := ⟨fun y hy => (StR.parts (hr y hy)).1, fun y hy => st_pos y (Pg.dCat_mem Pg.St.dl hy ma), fun y hy => stmt_both y ⟨Pg.dCat_mem Pg.St.dl hy ma, hr y hy⟩⟩
  obtain ⟨en, ed⟩ := Pg.Fn.nd_eq x
  rw [en] at hn
  rw [ed] at hd
  have ZD : Hid (((Pg.dCat Pg.dCnt x.locals).nd = 0 ∧ (Pg.dCat Pg.dCnt x.locals).dp = 0) ∧ ((Pg.dCat Pg.dCnt x.results).nd = 0 ∧ (Pg.dCat Pg.dCnt x.results).dp = 0)) := ⟨Pg.nums0 x.locals, Pg.nums0 x.results⟩
  have EN : Hid (x.dl.nd = (Pg.dCat Pg.St.dl x.body).nd) := en
  clear hx hr en ed g2 g3 g4 ma
  have hB := h.lt
  have hPB : w.heap.size ≠ B := by omega
  have g1 : w.grownBy (w.alloc (.cells #[.int .i64 0, .slice none 0 0, .slice none 0 0, .slice none 0 0] 55)) none := World.grownBy_alloc _ _ _
  have HG1 : Hid (w.grownBy (w.alloc (.cells #[.int .i64 0, .slice none 0 0, .slice none 0 0, .slice none 0 0] 55)) none) := g1
  have Q : Hid ((w.alloc (.cells #[.int .i64 0, .slice none 0 0, .slice none 0 0, .slice none 0 0] 55)).heap[w.heap.size]? = some (.cells #[.int .i64 0, .slice none 0 0, .slice none 0 0, .slice none 0 0] 55)) := heap_alloc_new w _
  rw [q7] at hc
  rcases cut_cases hc with hcut | ⟨M1, eM1, hc⟩
  · have HCUT : Hid (Cut M ((Pg.dCnt x.params).en)) := hcut
    have Q0 : Hid ((w.alloc (.cells #[.int .i64 0, .slice none 0 0, .slice none 0 0, .slice none 0 0] 55)).heap[w.heap.size]? = some (.cells #[.int .i64 0, .slice none 0 0, .slice none 0 0, .slice none 0 0] 55)) := Q.out
    have G0 : Hid (Ch w (w.alloc (.cells #[.int .i64 0, .slice none 0 0, .slice none 0 0, .slice none 0 0] 55)) [B]) := Ch.of g1
    have HC0 : Hid (Calls Try.prog 92 #[.pointer (some ⟨B, 0, none⟩)] (w.alloc (.cells #[.int .i64 0, .slice none 0 0, .slice none 0 0, .slice none 0 0] 55)) fun e w' => e = faults 80 ∧ (w.alloc (.cells #[.int .i64 0, .slice none 0 0, .slice none 0 0, .slice none 0 0] 55)).grownBy w' (some B)) := (by have hh := h.grow g1; have hs9 := g1.size; exact rcount_cut q1 HCUT.out hh)
    clear h g1 hcut
    go_enter Try.func80, Try.ntmps80
    go_wp2_with (first
      | (go_at_call 92; refine HC0.out.mono ?_; rintro e w9 ⟨rfl, gg⟩; have G9 : Hid (Ch w w9 [B]) := (G0.out.trans (Ch.one gg (by simp))); clear gg HC0))
    exact ⟨rfl, rfl, ⟨G9.out.os, G9.out.tape, G9.out.output, G9.out.size, fun k hk hne => G9.out.block k hk (by simpa using hne)⟩⟩
  rcases cut_cases hc with hcut | ⟨M2, eM2, hc⟩
  · rw [eM1] at h
    have HCUT : Hid (Cut M1 ((Pg.dCnt (x.locals.length : Int)).en ++ (Pg.dCat Pg.dCnt x.locals).en)) := hcut
    have Q0 : Hid ((w.alloc (.cells #[.int .i64 0, .slice none 0 0, .slice none 0 0, .slice none 0 0] 55)).heap[w.heap.size]? = some (.cells #[.int .i64 0, .slice none 0 0, .slice none 0 0, .slice none 0 0] 55)) := Q.out
    have G0 : Hid (Ch w (w.alloc (.cells #[.int .i64 0, .slice none 0 0, .slice none 0 0, .slice none 0 0] 55)) [B]) := Ch.of g1
    have HC0 : Hid (Calls Try.prog 92 #[.pointer (some ⟨B, 0, none⟩)] (w.alloc (.cells #[.int .i64 0, .slice none 0 0, .slice none 0 0, .slice none 0 0] 55)) fun e w' => e = .returned (.int .i64 x.params) ∧ Rd lim w' B (M1) (n) (d) ∧ (w.alloc (.cells #[.int .i64 0, .slice none 0 0, .slice none 0 0, .slice none 0 0] 55)).grownBy w' (some B)) := (by have hh := h.grow g1; have hs9 := g1.size; exact rcount_ok q1 hh)
    clear h g1 hcut
    go_enter Try.func80, Try.ntmps80
    go_wp2_with (first
      | (go_at_call 92; refine HC0.out.mono ?_; rintro e w1 ⟨rfl, hh, gg⟩; have T1 : Hid (w1.heap[w.heap.size]? = some (.cells #[.int .i64 0, .slice none 0 0, .slice none 0 0, .slice none 0 0] 55)) := ((gg.block _ (Array.getElem?_eq_some_iff.1 Q0.out).1 (by simp; omega)).trans Q0.out); have S1 : Hid ((w1.setCell ⟨w.heap.size, 0, none⟩ (.int .i64 x.params)).heap[w.heap.size]? = some (.cells #[.int .i64 x.params, .slice none 0 0, .slice none 0 0, .slice none 0 0] 55)) := rset T1.out 0 (.int .i64 x.params); have m0 : w1.cell? ⟨w.heap.size, 0, none⟩ = some (.int .i64 0) := rcell T1.out 0; have f0 : w1.frozen? ⟨w.heap.size, 0, none⟩ = false := rfrozen T1.out 0; have G1 : Hid (Ch w (w1.setCell ⟨w.heap.size, 0, none⟩ (.int .i64 x.params)) [B]) := ((G0.out.trans (Ch.one gg (by simp))).new (Nat.le_refl _) (grown_setCell w1 w.heap.size 0 (.int .i64 x.params))); have hk1 := hh.kept (grown_setCell w1 w.heap.size 0 (.int .i64 x.params)) hlim hPB; have HC1 : Hid (Calls Try.prog 93 #[.pointer (some ⟨B, 0, none⟩), .func (.func 92) #[.pointer (some ⟨B, 0, none⟩)] #[]] (w1.setCell ⟨w.heap.size, 0, none⟩ (.int .i64 x.params)) fun e w' => e = faults 80 ∧ (w1.setCell ⟨w.heap.size, 0, none⟩ (.int .i64 x.params)).grownBy w' (some B)) := (by have hh := hk1; have hs9 := (G1.out : Ch w (w1.setCell ⟨w.heap.size, 0, none⟩ (.int .i64 x.params)) [B]).size; exact rNums_cut hh HCUT.out (by omega) (by have := ZD.out; omega) (by have := ZD.out; omega) HL.out.1 HL.out.2.2); clear hh gg hk1 HC0)
      | (go_at_call 93; refine HC1.out.mono ?_; rintro e w9 ⟨rfl, gg⟩; have G9 : Hid (Ch w w9 [B]) := (G1.out.trans (Ch.one gg (by simp))); clear gg HC1))
    exact ⟨rfl, rfl, ⟨G9.out.os, G9.out.tape, G9.out.output, G9.out.size, fun k hk hne => G9.out.block k hk (by simpa using hne)⟩⟩
  rcases cut_cases hc with hcut | ⟨M3, eM3, hc⟩
  · rw [eM1, eM2] at h
    have HCUT : Hid (Cut M2 ((Pg.dCnt (x.results.length : Int)).en ++ (Pg.dCat Pg.dCnt x.results).en)) := hcut
    have Q0 : Hid ((w.alloc (.cells #[.int .i64 0, .slice none 0 0, .slice none 0 0, .slice none 0 0] 55)).heap[w.heap.size]? = some (.cells #[.int .i64 0, .slice none 0 0, .slice none 0 0, .slice none 0 0] 55)) := Q.out
    have G0 : Hid (Ch w (w.alloc (.cells #[.int .i64 0, .slice none 0 0, .slice none 0 0, .slice none 0 0] 55)) [B]) := Ch.of g1
    have HC0 : Hid (Calls Try.prog 92 #[.pointer (some ⟨B, 0, none⟩)] (w.alloc (.cells #[.int .i64 0, .slice none 0 0, .slice none 0 0, .slice none 0 0] 55)) fun e w' => e = .returned (.int .i64 x.params) ∧ Rd lim w' B (((Pg.dCnt (x.locals.length : Int)).en ++ (Pg.dCat Pg.dCnt x.locals).en) ++ (M2)) (n) (d) ∧ (w.alloc (.cells #[.int .i64 0, .slice none 0 0, .slice none 0 0, .slice none 0 0] 55)).grownBy w' (some B)) := (by have hh := h.grow g1; have hs9 := g1.size; exact rcount_ok q1 hh)
    clear h g1 hcut
    go_enter Try.func80, Try.ntmps80
    go_wp2_with (first
      | (go_at_call 92; refine HC0.out.mono ?_; rintro e w1 ⟨rfl, hh, gg⟩; have T1 : Hid (w1.heap[w.heap.size]? = some (.cells #[.int .i64 0, .slice none 0 0, .slice none 0 0, .slice none 0 0] 55)) := ((gg.block _ (Array.getElem?_eq_some_iff.1 Q0.out).1 (by simp; omega)).trans Q0.out); have S1 : Hid ((w1.setCell ⟨w.heap.size, 0, none⟩ (.int .i64 x.params)).heap[w.heap.size]? = some (.cells #[.int .i64 x.params, .slice none 0 0, .slice none 0 0, .slice none 0 0] 55)) := rset T1.out 0 (.int .i64 x.params); have m0 : w1.cell? ⟨w.heap.size, 0, none⟩ = some (.int .i64 0) := rcell T1.out 0; have f0 : w1.frozen? ⟨w.heap.size, 0, none⟩ = false := rfrozen T1.out 0; have G1 : Hid (Ch w (w1.setCell ⟨w.heap.size, 0, none⟩ (.int .i64 x.params)) [B]) := ((G0.out.trans (Ch.one gg (by simp))).new (Nat.le_refl _) (grown_setCell w1 w.heap.size 0 (.int .i64 x.params))); have hk1 := hh.kept (grown_setCell w1 w.heap.size 0 (.int .i64 x.params)) hlim hPB; have HC1 : Hid (Calls Try.prog 93 #[.pointer (some ⟨B, 0, none⟩), .func (.func 92) #[.pointer (some ⟨B, 0, none⟩)] #[]] (w1.setCell ⟨w.heap.size, 0, none⟩ (.int .i64 x.params)) fun e w' => ∃ a1 k1, e = .returned (.slice a1 x.locals.length k1) ∧ NumL (Fresh (w1.setCell ⟨w.heap.size, 0, none⟩ (.int .i64 x.params)) w') w' a1 k1 x.locals ∧ Rd lim w' B (M2) (n + (Pg.dCat Pg.dCnt x.locals).nd) (d) ∧ (w1.setCell ⟨w.heap.size, 0, none⟩ (.int .i64 x.params)).grownBy w' (some B)) := (by have hh := hk1; have hs9 := (G1.out : Ch w (w1.setCell ⟨w.heap.size, 0, none⟩ (.int .i64 x.params)) [B]).size; exact rNums_ok hh (by omega) (by have := ZD.out; omega) (by have := ZD.out; omega) HL.out.1 HL.out.2.1 (fun y hy => (HL.out.2.2 y hy).1)); clear hh gg hk1 HC0)
      | (go_at_call 93; refine HC1.out.mono ?_; rintro e w2 ⟨a1, k1, rfl, hrow, hh, gg⟩; have T2 : Hid (w2.heap[w.heap.size]? = some (.cells #[.int .i64 x.params, .slice none 0 0, .slice none 0 0, .slice none 0 0] 55)) := ((gg.block _ (Array.getElem?_eq_some_iff.1 S1.out).1 (by simp; omega)).trans S1.out); have S2 : Hid ((w2.setCell ⟨w.heap.size, 1, none⟩ (.slice a1 x.locals.length k1)).heap[w.heap.size]? = some (.cells #[.int .i64 x.params, .slice a1 x.locals.length k1, .slice none 0 0, .slice none 0 0] 55)) := rset T2.out 1 (.slice a1 x.locals.length k1); have m1 : w2.cell? ⟨w.heap.size, 1, none⟩ = some (.slice none 0 0) := rcell T2.out 1; have f1 : w2.frozen? ⟨w.heap.size, 1, none⟩ = false := rfrozen T2.out 1; have G2 : Hid (Ch w (w2.setCell ⟨w.heap.size, 1, none⟩ (.slice a1 x.locals.length k1)) [B]) := ((G1.out.trans (Ch.one gg (by simp))).new (Nat.le_refl _) (grown_setCell w2 w.heap.size 1 (.slice a1 x.locals.length k1))); have hk2 := hh.kept (grown_setCell w2 w.heap.size 1 (.slice a1 x.locals.length k1)) hlim hPB; have RW1 : Hid (NumL (Fresh (w1.setCell ⟨w.heap.size, 0, none⟩ (.int .i64 x.params)) w2) w2 a1 k1 x.locals) := hrow; have sz1 : w.heap.size + 1 ≤ (w1.setCell ⟨w.heap.size, 0, none⟩ (.int .i64 x.params)).heap.size := (by have := (Array.getElem?_eq_some_iff.1 S1.out).1; omega); have CB1 : Hid (Ch w2 (w2.setCell ⟨w.heap.size, 1, none⟩ (.slice a1 x.locals.length k1)) [B, w.heap.size]) := Ch.one (grown_setCell w2 w.heap.size 1 (.slice a1 x.locals.length k1)) (by simp); have HC2 : Hid (Calls Try.prog 93 #[.pointer (some ⟨B, 0, none⟩), .func (.func 92) #[.pointer (some ⟨B, 0, none⟩)] #[]] (w2.setCell ⟨w.heap.size, 1, none⟩ (.slice a1 x.locals.length k1)) fun e w' => e = faults 80 ∧ (w2.setCell ⟨w.heap.size, 1, none⟩ (.slice a1 x.locals.length k1)).grownBy w' (some B)) := (by have hh := hk2; have hs9 := (G2.out : Ch w (w2.setCell ⟨w.heap.size, 1, none⟩ (.slice a1 x.locals.length k1)) [B]).size; exact rNums_cut hh HCUT.out (by omega) (by have := ZD.out; omega) (by have := ZD.out; omega) HR.out.1 HR.out.2.2); clear hh gg hk2 HC1 hrow)
      | (go_at_call 93; refine HC2.out.mono ?_; rintro e w9 ⟨rfl, gg⟩; have G9 : Hid (Ch w w9 [B]) := (G2.out.trans (Ch.one gg (by simp))); clear gg HC2))
    exact ⟨rfl, rfl, ⟨G9.out.os, G9.out.tape, G9.out.output, G9.out.size, fun k hk hne => G9.out.block k hk (by simpa using hne)⟩⟩
  · have hcut := hc
    rw [eM1, eM2, eM3] at h
    have HCUT : Hid (Cut M3 ((Pg.dCnt (x.body.length : Int)).en ++ (Pg.dCat Pg.St.dl x.body).en)) := hcut
    have Q0 : Hid ((w.alloc (.cells #[.int .i64 0, .slice none 0 0, .slice none 0 0, .slice none 0 0] 55)).heap[w.heap.size]? = some (.cells #[.int .i64 0, .slice none 0 0, .slice none 0 0, .slice none 0 0] 55)) := Q.out
    have G0 : Hid (Ch w (w.alloc (.cells #[.int .i64 0, .slice none 0 0, .slice none 0 0, .slice none 0 0] 55)) [B]) := Ch.of g1
    have HC0 : Hid (Calls Try.prog 92 #[.pointer (some ⟨B, 0, none⟩)] (w.alloc (.cells #[.int .i64 0, .slice none 0 0, .slice none 0 0, .slice none 0 0] 55)) fun e w' => e = .returned (.int .i64 x.params) ∧ Rd lim w' B (((Pg.dCnt (x.locals.length : Int)).en ++ (Pg.dCat Pg.dCnt x.locals).en) ++ (((Pg.dCnt (x.results.length : Int)).en ++ (Pg.dCat Pg.dCnt x.results).en) ++ (M3))) (n) (d) ∧ (w.alloc (.cells #[.int .i64 0, .slice none 0 0, .slice none 0 0, .slice none 0 0] 55)).grownBy w' (some B)) := (by have hh := h.grow g1; have hs9 := g1.size; exact rcount_ok q1 hh)
    clear h g1 hc hcut
    go_enter Try.func80, Try.ntmps80
    go_wp2_with (first
      | (go_at_call 92; refine HC0.out.mono ?_; rintro e w1 ⟨rfl, hh, gg⟩; have T1 : Hid (w1.heap[w.heap.size]? = some (.cells #[.int .i64 0, .slice none 0 0, .slice none 0 0, .slice none 0 0] 55)) := ((gg.block _ (Array.getElem?_eq_some_iff.1 Q0.out).1 (by simp; omega)).trans Q0.out); have S1 : Hid ((w1.setCell ⟨w.heap.size, 0, none⟩ (.int .i64 x.params)).heap[w.heap.size]? = some (.cells #[.int .i64 x.params, .slice none 0 0, .slice none 0 0, .slice none 0 0] 55)) := rset T1.out 0 (.int .i64 x.params); have m0 : w1.cell? ⟨w.heap.size, 0, none⟩ = some (.int .i64 0) := rcell T1.out 0; have f0 : w1.frozen? ⟨w.heap.size, 0, none⟩ = false := rfrozen T1.out 0; have G1 : Hid (Ch w (w1.setCell ⟨w.heap.size, 0, none⟩ (.int .i64 x.params)) [B]) := ((G0.out.trans (Ch.one gg (by simp))).new (Nat.le_refl _) (grown_setCell w1 w.heap.size 0 (.int .i64 x.params))); have hk1 := hh.kept (grown_setCell w1 w.heap.size 0 (.int .i64 x.params)) hlim hPB; have HC1 : Hid (Calls Try.prog 93 #[.pointer (some ⟨B, 0, none⟩), .func (.func 92) #[.pointer (some ⟨B, 0, none⟩)] #[]] (w1.setCell ⟨w.heap.size, 0, none⟩ (.int .i64 x.params)) fun e w' => ∃ a1 k1, e = .returned (.slice a1 x.locals.length k1) ∧ NumL (Fresh (w1.setCell ⟨w.heap.size, 0, none⟩ (.int .i64 x.params)) w') w' a1 k1 x.locals ∧ Rd lim w' B (((Pg.dCnt (x.results.length : Int)).en ++ (Pg.dCat Pg.dCnt x.results).en) ++ (M3)) (n + (Pg.dCat Pg.dCnt x.locals).nd) (d) ∧ (w1.setCell ⟨w.heap.size, 0, none⟩ (.int .i64 x.params)).grownBy w' (some B)) := (by have hh := hk1; have hs9 := (G1.out : Ch w (w1.setCell ⟨w.heap.size, 0, none⟩ (.int .i64 x.params)) [B]).size; exact rNums_ok hh (by omega) (by have := ZD.out; omega) (by have := ZD.out; omega) HL.out.1 HL.out.2.1 (fun y hy => (HL.out.2.2 y hy).1)); clear hh gg hk1 HC0)
      | (go_at_call 93; refine HC1.out.mono ?_; rintro e w2 ⟨a1, k1, rfl, hrow, hh, gg⟩; have T2 : Hid (w2.heap[w.heap.size]? = some (.cells #[.int .i64 x.params, .slice none 0 0, .slice none 0 0, .slice none 0 0] 55)) := ((gg.block _ (Array.getElem?_eq_some_iff.1 S1.out).1 (by simp; omega)).trans S1.out); have S2 : Hid ((w2.setCell ⟨w.heap.size, 1, none⟩ (.slice a1 x.locals.length k1)).heap[w.heap.size]? = some (.cells #[.int .i64 x.params, .slice a1 x.locals.length k1, .slice none 0 0, .slice none 0 0] 55)) := rset T2.out 1 (.slice a1 x.locals.length k1); have m1 : w2.cell? ⟨w.heap.size, 1, none⟩ = some (.slice none 0 0) := rcell T2.out 1; have f1 : w2.frozen? ⟨w.heap.size, 1, none⟩ = false := rfrozen T2.out 1; have G2 : Hid (Ch w (w2.setCell ⟨w.heap.size, 1, none⟩ (.slice a1 x.locals.length k1)) [B]) := ((G1.out.trans (Ch.one gg (by simp))).new (Nat.le_refl _) (grown_setCell w2 w.heap.size 1 (.slice a1 x.locals.length k1))); have hk2 := hh.kept (grown_setCell w2 w.heap.size 1 (.slice a1 x.locals.length k1)) hlim hPB; have RW1 : Hid (NumL (Fresh (w1.setCell ⟨w.heap.size, 0, none⟩ (.int .i64 x.params)) w2) w2 a1 k1 x.locals) := hrow; have sz1 : w.heap.size + 1 ≤ (w1.setCell ⟨w.heap.size, 0, none⟩ (.int .i64 x.params)).heap.size := (by have := (Array.getElem?_eq_some_iff.1 S1.out).1; omega); have CB1 : Hid (Ch w2 (w2.setCell ⟨w.heap.size, 1, none⟩ (.slice a1 x.locals.length k1)) [B, w.heap.size]) := Ch.one (grown_setCell w2 w.heap.size 1 (.slice a1 x.locals.length k1)) (by simp); have HC2 : Hid (Calls Try.prog 93 #[.pointer (some ⟨B, 0, none⟩), .func (.func 92) #[.pointer (some ⟨B, 0, none⟩)] #[]] (w2.setCell ⟨w.heap.size, 1, none⟩ (.slice a1 x.locals.length k1)) fun e w' => ∃ a2 k2, e = .returned (.slice a2 x.results.length k2) ∧ NumL (Fresh (w2.setCell ⟨w.heap.size, 1, none⟩ (.slice a1 x.locals.length k1)) w') w' a2 k2 x.results ∧ Rd lim w' B (M3) (n + (Pg.dCat Pg.dCnt x.locals).nd + (Pg.dCat Pg.dCnt x.results).nd) (d) ∧ (w2.setCell ⟨w.heap.size, 1, none⟩ (.slice a1 x.locals.length k1)).grownBy w' (some B)) := (by have hh := hk2; have hs9 := (G2.out : Ch w (w2.setCell ⟨w.heap.size, 1, none⟩ (.slice a1 x.locals.length k1)) [B]).size; exact rNums_ok hh (by omega) (by have := ZD.out; omega) (by have := ZD.out; omega) HR.out.1 HR.out.2.1 (fun y hy => (HR.out.2.2 y hy).1)); clear hh gg hk2 HC1 hrow)
      | (go_at_call 93; refine HC2.out.mono ?_; rintro e w3 ⟨a2, k2, rfl, hrow, hh, gg⟩; have T3 : Hid (w3.heap[w.heap.size]? = some (.cells #[.int .i64 x.params, .slice a1 x.locals.length k1, .slice none 0 0, .slice none 0 0] 55)) := ((gg.block _ (Array.getElem?_eq_some_iff.1 S2.out).1 (by simp; omega)).trans S2.out); have S3 : Hid ((w3.setCell ⟨w.heap.size, 2, none⟩ (.slice a2 x.results.length k2)).heap[w.heap.size]? = some (.cells #[.int .i64 x.params, .slice a1 x.locals.length k1, .slice a2 x.results.length k2, .slice none 0 0] 55)) := rset T3.out 2 (.slice a2 x.results.length k2); have m2 : w3.cell? ⟨w.heap.size, 2, none⟩ = some (.slice none 0 0) := rcell T3.out 2; have f2 : w3.frozen? ⟨w.heap.size, 2, none⟩ = false := rfrozen T3.out 2; have G3 : Hid (Ch w (w3.setCell ⟨w.heap.size, 2, none⟩ (.slice a2 x.results.length k2)) [B]) := ((G2.out.trans (Ch.one gg (by simp))).new (Nat.le_refl _) (grown_setCell w3 w.heap.size 2 (.slice a2 x.results.length k2))); have hk3 := hh.kept (grown_setCell w3 w.heap.size 2 (.slice a2 x.results.length k2)) hlim hPB; have RW2 : Hid (NumL (Fresh (w2.setCell ⟨w.heap.size, 1, none⟩ (.slice a1 x.locals.length k1)) w3) w3 a2 k2 x.results) := hrow; have sz2 : w.heap.size + 1 ≤ (w2.setCell ⟨w.heap.size, 1, none⟩ (.slice a1 x.locals.length k1)).heap.size := (by have := (Array.getElem?_eq_some_iff.1 S2.out).1; omega); have CB2 : Hid (Ch w3 (w3.setCell ⟨w.heap.size, 2, none⟩ (.slice a2 x.results.length k2)) [B, w.heap.size]) := Ch.one (grown_setCell w3 w.heap.size 2 (.slice a2 x.results.length k2)) (by simp); have CB1 : Hid (Ch w2 (w3.setCell ⟨w.heap.size, 2, none⟩ (.slice a2 x.results.length k2)) [B, w.heap.size]) := (CB1.out.trans ((Ch.one gg (by simp)).trans (Ch.one (grown_setCell w3 w.heap.size 2 (.slice a2 x.results.length k2)) (by simp)))); have HC3 : Hid (Calls Try.prog 94 #[.pointer (some ⟨B, 0, none⟩), .func (.func 95) #[.pointer (some ⟨B, 0, none⟩)] #[]] (w3.setCell ⟨w.heap.size, 2, none⟩ (.slice a2 x.results.length k2)) fun e w' => e = faults 80 ∧ (w3.setCell ⟨w.heap.size, 2, none⟩ (.slice a2 x.results.length k2)).grownBy w' (some B)) := (by have hh := hk3; have hs9 := (G3.out : Ch w (w3.setCell ⟨w.heap.size, 2, none⟩ (.slice a2 x.results.length k2)) [B]).size; exact rSs_cut hh HCUT.out (by omega) (by have := ZD.out; omega) (by have := ZD.out; omega) q5 HA.out.1 HA.out.2.2); clear hh gg hk3 HC2 hrow)
      | (go_at_call 94; refine HC3.out.mono ?_; rintro e w9 ⟨rfl, gg⟩; have G9 : Hid (Ch w w9 [B]) := (G3.out.trans (Ch.one gg (by simp))); clear gg HC3))
    exact ⟨rfl, rfl, ⟨G9.out.os, G9.out.tape, G9.out.output, G9.out.size, fun k hk hne => G9.out.block k hk (by simpa using hne)⟩⟩
set_option maxRecDepth 100000 in
set_option maxHeartbeats 8000000 in
theorem rFs_ok {lim : Nat} {w : World} {B : Nat} {z : List Pg.Fn} {R : List Int} {n d : Nat} (h : Rd lim w B (((Pg.dCnt (z.length : Int)).en ++ (Pg.dCat Pg.Fn.dl z).en) ++ R) n d) (hlim : lim ≤ w.heap.size) (hn : n + (Pg.dCat Pg.Fn.dl z).nd ≤ 2048) (hd : d + (Pg.dCat Pg.Fn.dl z).dp ≤ 32) (hok : Pg.okB (z.length : Int) = true) (hpos : ∀ x, x ∈ z → 1 ≤ (Pg.Fn.dl x).en.length) (ih : ∀ x, x ∈ z → FunRd x) :
    Calls Try.prog 79 #[.pointer (some ⟨B, 0, none⟩), .func (.func 80) #[.pointer (some ⟨B, 0, none⟩)] #[]] w fun e w' => ∃ a c, e = .returned (.slice a z.length c) ∧ FnL (Fresh w w') w' a c z ∧ Rd lim w' B R (n + (Pg.dCat Pg.Fn.dl z).nd) d ∧ w.grownBy w' (some B) := by
  have hB := h.lt
  have hlz : z.length < 2147483648 := by have := (cnt_en hok).2.2; omega
  have HLn : Hid (Calls Try.prog 91 #[.pointer (some ⟨B, 0, none⟩)] w fun e w' => e = .returned (.int .i64 (z.length : Int)) ∧ Rd lim w' B ((Pg.dCat Pg.Fn.dl z).en ++ R) n d ∧ w.grownBy w' (some B)) := rlength_ok hok (by have := Pg.dCat_len Pg.Fn.dl z hpos; rw [List.length_append]; omega) (by rw [List.append_assoc] at h; exact h)
  have HI : Hid (∀ x, x ∈ z → FunRd x) := ih
  clear h ih hok hpos
  go_enter Try.func79, Try.ntmps79
  go_wp2_with (go_at_call 91; refine HLn.out.mono ?_; rintro e w4 ⟨rfl, h4, g4⟩; have R4 : Hid (Rd lim w4 B ((Pg.dCat Pg.Fn.dl z).en ++ R) n d) := h4; have G4 : Hid (w.grownBy w4 (some B)) := g4; clear h4 g4 HLn)
  go_loopw [4, 7] (fun v ix wr => ∃ (k : Nat) (L : List FE) (a' : Option Addr) (c' : Nat), v = .slice a' k c' ∧ ix = .int .i64 k ∧ k ≤ z.length ∧ L.map FE.x = z.take k ∧ CopR 55 4 cellsFE InFE w wr B k (.slice a' k c') L ∧ Rd lim wr B ((Pg.dCat Pg.Fn.dl (z.drop k)).en ++ R) (n + (Pg.dCat Pg.Fn.dl (z.take k)).nd) d) (fun _ ix _ => z.length - (intOf ix).toNat)
  case atStart => exact ⟨0, [], none, 0, rfl, rfl, Nat.zero_le _, rfl, CopR.start _ _ _ _ G4.out, R4.out⟩
  case round =>
    obtain ⟨k, L, a', c', rfl, rfl, hk, hm, hc, hr⟩ := hrel
    have HC : Hid (CopR 55 4 cellsFE InFE w wr B k (.slice a' k c') L) := hc
    have HM : Hid (L.map FE.x = z.take k) := hm
    have HRd : Hid (Rd lim wr B ((Pg.dCat Pg.Fn.dl (z.drop k)).en ++ R) (n + (Pg.dCat Pg.Fn.dl (z.take k)).nd) d) := hr
    clear hm
    by_cases hkn : k < z.length
    case neg =>
      obtain rfl : k = z.length := by omega
      obtain ⟨a1, c1, e1, hT1⟩ := CopR.row (cells := cellsFE) (In := InFE) (by' := 80) (fun e => rfl) hc (by show z.length * 80 ≤ 140737488351232; omega) FE.x (FnAt (Fresh w wr) wr) (fun b o e hcc hin => ⟨e.a1, e.a2, e.a3, e.k1, e.k2, e.k3, hcc 0 _ rfl, hcc 1 _ rfl, hcc 2 _ rfl, hcc 3 _ rfl, hin.1, hin.2.1, hin.2.2⟩) (fun e he => @inFE_ch _ _ _ _ [] _ he (Ch.refl _ _) (by simp) (fun q hq => ⟨hq.1, hq.2.1⟩))
      rw [HM.out, List.take_length] at hT1
      injection e1 with e1 _ e3
      subst e1
      subst e3
      have HT1 : Hid (FnL (Fresh w wr) wr a' c' z) := hT1
      have HG : Hid (w.grownBy wr (some B)) := hc.gr
      clear hc hT1 hr
      go_wp2
      go_ret
      refine ⟨a', c', rfl, HT1.out, ?_, HG.out⟩
      have := HRd.out
      rw [List.take_length, List.drop_length] at this
      simpa [Pg.dCat, Pg.Dl.nil] using this
    have hkn' : (k : Int) < z.length := by omega
    have hlen := hc.len
    have hsz := hc.gr.size
    obtain ⟨y1, y2, _, _⟩ := Pg.dCat_le Pg.Fn.dl z (k + 1)
    have hsc := Pg.dCat_succ Pg.Fn.dl hkn
    rw [hsc] at y1 y2
    simp only [Pg.Dl.app] at y1 y2
    have HS : Hid (n + (Pg.dCat Pg.Fn.dl (z.take (k + 1))).nd = n + (Pg.dCat Pg.Fn.dl (z.take k)).nd + (Pg.Fn.dl z[k]).nd) := by show _ = _; rw [hsc]; simp only [Pg.Dl.app]; omega
    have HT : Hid (z.take (k + 1) = z.take k ++ [z[k]]) := List.take_succ_eq_append_getElem hkn
    have hdr := Pg.dCat_drop Pg.Fn.dl hkn
    rw [hdr] at hr
    simp only [Pg.Dl.app, List.append_assoc] at hr
    have HE := HI.out z[k] (List.getElem_mem hkn) lim wr B ((Pg.dCat Pg.Fn.dl (z.drop (k + 1))).en ++ R) (n + (Pg.dCat Pg.Fn.dl (z.take k)).nd) d hr (by omega) (by omega) (by omega)
    clear hc hr hsc hdr y1 y2
    generalize z[k] = x at *
    have HE : Hid (Calls Try.prog 80 #[.pointer (some ⟨B, 0, none⟩)] wr fun e w' => ∃ a1 k1 a2 k2 a3 k3, e = .returned (.agg #[.int .i64 x.params, .slice a1 x.locals.length k1, .slice a2 x.results.length k2, .slice a3 x.body.length k3]) ∧ NumL (Fresh wr w') w' a1 k1 x.locals ∧ NumL (Fresh wr w') w' a2 k2 x.results ∧ StL (Fresh wr w') w' a3 k3 x.body ∧ Rd lim w' B ((Pg.dCat Pg.Fn.dl (z.drop (k + 1))).en ++ R) (n + (Pg.dCat Pg.Fn.dl (z.take k)).nd + (Pg.Fn.dl x).nd) d ∧ wr.grownBy w' (some B)) := HE
    go_wp2_with (first
      | (go_at_call 80; refine HE.out.mono ?_; rintro e w5 ⟨p1, l1, p2, l2, p3, l3, rfl, n1, n2, n3, h5, g5⟩; have N5 : Hid (InFE (fun q => wr.heap.size ≤ q ∧ q < w5.heap.size) w5 ⟨x, p1, l1, p2, l2, p3, l3⟩) := ⟨n1, n2, n3⟩; have R5 : Hid (Rd lim w5 B ((Pg.dCat Pg.Fn.dl (z.drop (k + 1))).en ++ R) (n + (Pg.dCat Pg.Fn.dl (z.take k)).nd + (Pg.Fn.dl x).nd) d) := h5; have G5 : Hid (wr.grownBy w5 (some B)) := g5; have hs5 := g5.size; clear h5 g5 HE n1 n2 n3)
      | (at_builtin; refine wp_appFE rfl _ _ rfl w.heap.size (.slice a' k c') L ⟨x, p1, l1, p2, l2, p3, l3⟩ (by rw [← hlen]; rfl) (World.ownsRow.kept HC.out.own G5.out (by rw [← hlen]; rcases HC.out.own.2 with ⟨e, _⟩ | ⟨g, cap, cur, e, hb, _⟩; exact .inl (by rw [hlen, e]; rfl); exact .inr (by rw [hlen, e]; simp [Value.ownBlock]; omega))) rfl rfl (by omega) (by omega) ?_; intro v6 w6 o6 g6 b6; have K6' := CopR.step (In := InFE) @inFE_ch HC.out hB G5.out N5.out o6 g6 b6; obtain ⟨a6, c6, rfl⟩ := K6'.slice; have K6 : Hid (CopR 55 4 cellsFE InFE w w6 B (k + 1) (.slice a6 (k + 1) c6) (L ++ [⟨x, p1, l1, p2, l2, p3, l3⟩])) := K6'; have R6 : Hid (Rd lim w6 B ((Pg.dCat Pg.Fn.dl (z.drop (k + 1))).en ++ R) (n + (Pg.dCat Pg.Fn.dl (z.take k)).nd + (Pg.Fn.dl x).nd) d) := (R5.out.app g6 (fun q hq => (by have := World.ownsRow.lt HC.out.own q hq; exact ⟨by omega, by omega⟩))); clear o6 g6 b6 K6'))
    go_roundw
    case rel => exact ⟨k + 1, L ++ [⟨x, p1, l1, p2, l2, p3, l3⟩], a6, c6, rfl, by go_num, by omega, by rw [List.map_append, HM.out, HT.out]; rfl, K6.out, by rw [HS.out]; exact R6.out⟩
    case measure => simp [intOf]; omega
set_option maxRecDepth 100000 in
set_option maxHeartbeats 8000000 in
theorem rFs_cut {lim : Nat} {w : World} {B : Nat} {z : List Pg.Fn} {M0 : List Int} {n d : Nat} (h : Rd lim w B M0 n d) (hcut : Cut M0 ((Pg.dCnt (z.length : Int)).en ++ (Pg.dCat Pg.Fn.dl z).en)) (hlim : lim ≤ w.heap.size) (hn : n + (Pg.dCat Pg.Fn.dl z).nd ≤ 2048) (hd : d + (Pg.dCat Pg.Fn.dl z).dp ≤ 32) (hok : Pg.okB (z.length : Int) = true) (ih : ∀ x, x ∈ z → FunRd x ∧ FunCut x) :
    Calls Try.prog 79 #[.pointer (some ⟨B, 0, none⟩), .func (.func 80) #[.pointer (some ⟨B, 0, none⟩)] #[]] w fun e w' => e = faults 80 ∧ w.grownBy w' (some B) := by
  have hB := h.lt
  have hlz : z.length < 2147483648 := by have := (cnt_en hok).2.2; omega
  have hcases : (Calls Try.prog 91 #[.pointer (some ⟨B, 0, none⟩)] w fun e w' => e = faults 80 ∧ w.grownBy w' (some B)) ∨ ∃ M, Cut M (Pg.dCat Pg.Fn.dl z).en ∧ (Calls Try.prog 91 #[.pointer (some ⟨B, 0, none⟩)] w fun e w' => e = .returned (.int .i64 (z.length : Int)) ∧ Rd lim w' B M n d ∧ w.grownBy w' (some B)) := by
    rcases cut_cases hcut with h1 | ⟨M, hM, h2⟩
    · exact .inl (rlength_cut (k := z.length) hok h1 h)
    · rw [hM] at h
      by_cases hlt : M.length < z.length
      · exact .inl (rlength_more (k := z.length) hok hlt h)
      · exact .inr ⟨M, h2, rlength_ok (k := z.length) hok (by omega) h⟩
  rcases hcases with HL1 | ⟨M, hM, HL2⟩
  · have HLn : Hid (Calls Try.prog 91 #[.pointer (some ⟨B, 0, none⟩)] w fun e w' => e = faults 80 ∧ w.grownBy w' (some B)) := HL1
    clear h ih hok hcut HL1
    go_enter Try.func79, Try.ntmps79
    go_wp2_with (go_at_call 91; refine HLn.out.mono ?_; rintro e w4 ⟨rfl, g4⟩; have G4 : Hid (w.grownBy w4 (some B)) := g4; clear g4 HLn)
    exact ⟨rfl, rfl, G4.out⟩
  have HLn : Hid (Calls Try.prog 91 #[.pointer (some ⟨B, 0, none⟩)] w fun e w' => e = .returned (.int .i64 (z.length : Int)) ∧ Rd lim w' B M n d ∧ w.grownBy w' (some B)) := HL2
  have HM0 : Hid (Cut M (Pg.dCat Pg.Fn.dl z).en) := hM
  have HI : Hid (∀ x, x ∈ z → FunRd x ∧ FunCut x) := ih
  clear h ih hok hcut HL2 hM
  go_enter Try.func79, Try.ntmps79
  go_wp2_with (go_at_call 91; refine HLn.out.mono ?_; rintro e w4 ⟨rfl, h4, g4⟩; have R4 : Hid (Rd lim w4 B M n d) := h4; have G4 : Hid (w.grownBy w4 (some B)) := g4; clear h4 g4 HLn)
  go_loopw [4, 7] (fun v ix wr => ∃ (k : Nat) (L : List FE) (a' : Option Addr) (c' : Nat) (M : List Int), v = .slice a' k c' ∧ ix = .int .i64 k ∧ k ≤ z.length ∧ L.map FE.x = z.take k ∧ CopR 55 4 cellsFE InFE w wr B k (.slice a' k c') L ∧ Cut M (Pg.dCat Pg.Fn.dl (z.drop k)).en ∧ Rd lim wr B M (n + (Pg.dCat Pg.Fn.dl (z.take k)).nd) d) (fun _ ix _ => z.length - (intOf ix).toNat)
  case atStart => exact ⟨0, [], none, 0, M, rfl, rfl, Nat.zero_le _, rfl, CopR.start _ _ _ _ G4.out, HM0.out, R4.out⟩
  case round =>
    obtain ⟨k, L, a', c', M1, rfl, rfl, hk, hm, hc, hcM, hr⟩ := hrel
    have HC : Hid (CopR 55 4 cellsFE InFE w wr B k (.slice a' k c') L) := hc
    have HM : Hid (L.map FE.x = z.take k) := hm
    clear hm
    have hkn : k < z.length := by
      by_cases hkn : k < z.length
      · exact hkn
      · obtain rfl : k = z.length := by omega
        rw [List.drop_length] at hcM
        exact (cut_nil hcM).elim
    have hkn' : (k : Int) < z.length := by omega
    have hlen := hc.len
    have hsz := hc.gr.size
    obtain ⟨y1, y2, _, _⟩ := Pg.dCat_le Pg.Fn.dl z (k + 1)
    have hsc := Pg.dCat_succ Pg.Fn.dl hkn
    rw [hsc] at y1 y2
    simp only [Pg.Dl.app] at y1 y2
    have HS : Hid (n + (Pg.dCat Pg.Fn.dl (z.take (k + 1))).nd = n + (Pg.dCat Pg.Fn.dl (z.take k)).nd + (Pg.Fn.dl z[k]).nd) := by show _ = _; rw [hsc]; simp only [Pg.Dl.app]; omega
    have HT : Hid (z.take (k + 1) = z.take k ++ [z[k]]) := List.take_succ_eq_append_getElem hkn
    have hdr := Pg.dCat_drop Pg.Fn.dl hkn
    rw [hdr] at hcM
    simp only [Pg.Dl.app] at hcM
    rcases cut_cases hcM with h1 | ⟨M2, hM2, h2⟩
    · have HE : Hid (Calls Try.prog 80 #[.pointer (some ⟨B, 0, none⟩)] wr fun e w' => e = faults 80 ∧ wr.grownBy w' (some B)) := (HI.out z[k] (List.getElem_mem hkn)).2 lim wr B M1 (n + (Pg.dCat Pg.Fn.dl (z.take k)).nd) d hr h1 (by omega) (by omega) (by omega)
      have HG : Hid (w.grownBy wr (some B)) := hc.gr
      clear hc hr hsc hdr y1 y2 hcM h1 HS HT
      go_wp2_with (go_at_call 80; refine HE.out.mono ?_; rintro e w5 ⟨rfl, g5⟩; have G5 : Hid (wr.grownBy w5 (some B)) := g5; clear g5 HE)
      exact ⟨rfl, rfl, grown_trans HG.out G5.out⟩
    · rw [hM2] at hr
      have HE := (HI.out z[k] (List.getElem_mem hkn)).1 lim wr B M2 (n + (Pg.dCat Pg.Fn.dl (z.take k)).nd) d hr (by omega) (by omega) (by omega)
      have HCM : Hid (Cut M2 (Pg.dCat Pg.Fn.dl (z.drop (k + 1))).en) := h2
      clear hc hr hsc hdr y1 y2 hcM h2 hM2
      generalize z[k] = x at *
      have HE : Hid (Calls Try.prog 80 #[.pointer (some ⟨B, 0, none⟩)] wr fun e w' => ∃ a1 k1 a2 k2 a3 k3, e = .returned (.agg #[.int .i64 x.params, .slice a1 x.locals.length k1, .slice a2 x.results.length k2, .slice a3 x.body.length k3]) ∧ NumL (Fresh wr w') w' a1 k1 x.locals ∧ NumL (Fresh wr w') w' a2 k2 x.results ∧ StL (Fresh wr w') w' a3 k3 x.body ∧ Rd lim w' B (M2) (n + (Pg.dCat Pg.Fn.dl (z.take k)).nd + (Pg.Fn.dl x).nd) d ∧ wr.grownBy w' (some B)) := HE
      go_wp2_with (first
        | (go_at_call 80; refine HE.out.mono ?_; rintro e w5 ⟨p1, l1, p2, l2, p3, l3, rfl, n1, n2, n3, h5, g5⟩; have N5 : Hid (InFE (fun q => wr.heap.size ≤ q ∧ q < w5.heap.size) w5 ⟨x, p1, l1, p2, l2, p3, l3⟩) := ⟨n1, n2, n3⟩; have R5 : Hid (Rd lim w5 B (M2) (n + (Pg.dCat Pg.Fn.dl (z.take k)).nd + (Pg.Fn.dl x).nd) d) := h5; have G5 : Hid (wr.grownBy w5 (some B)) := g5; have hs5 := g5.size; clear h5 g5 HE n1 n2 n3)
        | (at_builtin; refine wp_appFE rfl _ _ rfl w.heap.size (.slice a' k c') L ⟨x, p1, l1, p2, l2, p3, l3⟩ (by rw [← hlen]; rfl) (World.ownsRow.kept HC.out.own G5.out (by rw [← hlen]; rcases HC.out.own.2 with ⟨e, _⟩ | ⟨g, cap, cur, e, hb, _⟩; exact .inl (by rw [hlen, e]; rfl); exact .inr (by rw [hlen, e]; simp [Value.ownBlock]; omega))) rfl rfl (by omega) (by omega) ?_; intro v6 w6 o6 g6 b6; have K6' := CopR.step (In := InFE) @inFE_ch HC.out hB G5.out N5.out o6 g6 b6; obtain ⟨a6, c6, rfl⟩ := K6'.slice; have K6 : Hid (CopR 55 4 cellsFE InFE w w6 B (k + 1) (.slice a6 (k + 1) c6) (L ++ [⟨x, p1, l1, p2, l2, p3, l3⟩])) := K6'; have R6 : Hid (Rd lim w6 B (M2) (n + (Pg.dCat Pg.Fn.dl (z.take k)).nd + (Pg.Fn.dl x).nd) d) := (R5.out.app g6 (fun q hq => (by have := World.ownsRow.lt HC.out.own q hq; exact ⟨by omega, by omega⟩))); clear o6 g6 b6 K6'))
      go_roundw
      case rel => exact ⟨k + 1, L ++ [⟨x, p1, l1, p2, l2, p3, l3⟩], a6, c6, M2, rfl, by go_num, by omega, by rw [List.map_append, HM.out, HT.out]; rfl, K6.out, HCM.out, by rw [HS.out]; exact R6.out⟩
      case measure => simp [intOf]; omega
def ProgRd (x : Pg.Pr) : Prop := ∀ (lim : Nat) (w : World) (B : Nat) (R : List Int) (n d : Nat), Rd lim w B (x.dl.en ++ R) n d → lim ≤ w.heap.size → n + x.dl.nd ≤ 2048 → d + x.dl.dp ≤ 32 →
  Calls Try.prog 60 #[.pointer (some ⟨B, 0, none⟩)] w fun e w' => ∃ a1 k1 a2 k2, e = .returned (.agg #[.slice a1 x.types.length k1, .slice a2 x.funcs.length k2]) ∧ TpL (Fresh w w') w' a1 k1 x.types ∧ FnL (Fresh w w') w' a2 k2 x.funcs ∧ Rd lim w' B R (n + x.dl.nd) d ∧ w.grownBy w' (some B)
def ProgCut (x : Pg.Pr) : Prop := ∀ (lim : Nat) (w : World) (B : Nat) (M : List Int) (n d : Nat), Rd lim w B M n d → Cut M x.dl.en → lim ≤ w.heap.size → n + x.dl.nd ≤ 2048 → d + x.dl.dp ≤ 32 →
  Calls Try.prog 60 #[.pointer (some ⟨B, 0, none⟩)] w fun e w' => e = faults 80 ∧ w.grownBy w' (some B)
theorem Pg.Pr.parts2 (x : Pg.Pr) (h : x.dl.may = true) : Pg.okB (x.types.length : Int) = true ∧ (Pg.dCat Pg.Tp.dl x.types).may = true ∧ Pg.okB (x.funcs.length : Int) = true ∧ (Pg.dCat Pg.Fn.dl x.funcs).may = true ∧ x.dl.en = ((Pg.dCnt (x.types.length : Int)).en ++ (Pg.dCat Pg.Tp.dl x.types).en) ++ ((Pg.dCnt (x.funcs.length : Int)).en ++ (Pg.dCat Pg.Fn.dl x.funcs).en) := by
  rw [Pg.Pr.dl] at h ⊢
  simp only [Pg.Dl.app, Pg.dTs_cat, Pg.dFs_cat, Bool.and_eq_true] at h ⊢
  exact ⟨by rw [← dCnt_may]; exact h.1.1, h.1.2, by rw [← dCnt_may]; exact h.2.1, h.2.2, trivial⟩
set_option maxRecDepth 100000 in
set_option maxHeartbeats 16000000 in
theorem prog_rd (x : Pg.Pr) (hx : x.dl.may = true) (hr : ∀ f, f ∈ x.funcs → ∀ y, y ∈ f.body → StR y) : ProgRd x := by
  intro lim w B R n d h hlim hn hd
  obtain ⟨q1, m1, q2, m2, q7⟩ := Pg.Pr.parts2 x hx
  have HT : Hid ((∀ y, y ∈ x.types → 1 ≤ y.dl.en.length) ∧ (∀ y, y ∈ x.types → EntRd y ∧ EntCut y)) := ⟨fun y hy => tp_pos y (Pg.dCat_mem Pg.Tp.dl hy m1), fun y hy => ⟨ent_rd y (Pg.dCat_mem Pg.Tp.dl hy m1), ent_cut y (Pg.dCat_mem Pg.Tp.dl hy m1)⟩⟩
  have HF : Hid ((∀ y, y ∈ x.funcs → 1 ≤ y.dl.en.length) ∧ (∀ y, y ∈ x.funcs → FunRd y ∧ FunCut y)) := ⟨fun y hy => fn_pos y (Pg.dCat_mem Pg.Fn.dl hy m2), fun y hy => ⟨fun_rd y (Pg.dCat_mem Pg.Fn.dl hy m2) (hr y hy), fun_cut y (Pg.dCat_mem Pg.Fn.dl hy m2) (hr y hy)⟩⟩
  obtain ⟨en, ed⟩ := Pg.Pr.nd_eq x
  rw [en] at hn
  rw [ed] at hd
  have ZD : Hid ((Pg.dCat Pg.Tp.dl x.types).nd = 0 ∧ (Pg.dCat Pg.Tp.dl x.types).dp = 0) := by rw [← Pg.dTs_cat]; exact Pg.dTs_nd x.types
  have EN : Hid (x.dl.nd = (Pg.dCat Pg.Fn.dl x.funcs).nd) := en
  clear hx hr en ed m1 m2
  have hB := h.lt
  have hPB : w.heap.size ≠ B := by omega
  have g1 : w.grownBy (w.alloc (.cells #[.slice none 0 0, .slice none 0 0] 27)) none := World.grownBy_alloc _ _ _
  have HG1 : Hid (w.grownBy (w.alloc (.cells #[.slice none 0 0, .slice none 0 0] 27)) none) := g1
  have Q : Hid ((w.alloc (.cells #[.slice none 0 0, .slice none 0 0] 27)).heap[w.heap.size]? = some (.cells #[.slice none 0 0, .slice none 0 0] 27)) := heap_alloc_new w _
  rw [show x.dl.en ++ R = ((Pg.dCnt (x.types.length : Int)).en ++ (Pg.dCat Pg.Tp.dl x.types).en) ++ (((Pg.dCnt (x.funcs.length : Int)).en ++ (Pg.dCat Pg.Fn.dl x.funcs).en) ++ (R)) from by rw [q7]; simp only [List.append_assoc]] at h
  have Q0 : Hid ((w.alloc (.cells #[.slice none 0 0, .slice none 0 0] 27)).heap[w.heap.size]? = some (.cells #[.slice none 0 0, .slice none 0 0] 27)) := Q.out
  have G0 : Hid (Ch w (w.alloc (.cells #[.slice none 0 0, .slice none 0 0] 27)) [B]) := Ch.of g1
  have HC0 : Hid (Calls Try.prog 77 #[.pointer (some ⟨B, 0, none⟩), .func (.func 78) #[.pointer (some ⟨B, 0, none⟩)] #[]] (w.alloc (.cells #[.slice none 0 0, .slice none 0 0] 27)) fun e w' => ∃ a1 k1, e = .returned (.slice a1 x.types.length k1) ∧ TpL (Fresh (w.alloc (.cells #[.slice none 0 0, .slice none 0 0] 27)) w') w' a1 k1 x.types ∧ Rd lim w' B (((Pg.dCnt (x.funcs.length : Int)).en ++ (Pg.dCat Pg.Fn.dl x.funcs).en) ++ (R)) (n + (Pg.dCat Pg.Tp.dl x.types).nd) (d) ∧ (w.alloc (.cells #[.slice none 0 0, .slice none 0 0] 27)).grownBy w' (some B)) := (by have hh := h.grow g1; have hs9 := g1.size; exact rTs_ok hh (by omega) (by have := ZD.out; omega) (by have := ZD.out; omega) q1 HT.out.1 (fun y hy => (HT.out.2 y hy).1))
  clear h g1
  go_enter Try.func60, Try.ntmps60
  go_wp2_with (first
    | (go_at_call 77; refine HC0.out.mono ?_; rintro e w1 ⟨a1, k1, rfl, hrow, hh, gg⟩; have T1 : Hid (w1.heap[w.heap.size]? = some (.cells #[.slice none 0 0, .slice none 0 0] 27)) := ((gg.block _ (Array.getElem?_eq_some_iff.1 Q0.out).1 (by simp; omega)).trans Q0.out); have S1 : Hid ((w1.setCell ⟨w.heap.size, 0, none⟩ (.slice a1 x.types.length k1)).heap[w.heap.size]? = some (.cells #[.slice a1 x.types.length k1, .slice none 0 0] 27)) := rset T1.out 0 (.slice a1 x.types.length k1); have m0 : w1.cell? ⟨w.heap.size, 0, none⟩ = some (.slice none 0 0) := rcell T1.out 0; have f0 : w1.frozen? ⟨w.heap.size, 0, none⟩ = false := rfrozen T1.out 0; have G1 : Hid (Ch w (w1.setCell ⟨w.heap.size, 0, none⟩ (.slice a1 x.types.length k1)) [B]) := ((G0.out.trans (Ch.one gg (by simp))).new (Nat.le_refl _) (grown_setCell w1 w.heap.size 0 (.slice a1 x.types.length k1))); have hk1 := hh.kept (grown_setCell w1 w.heap.size 0 (.slice a1 x.types.length k1)) hlim hPB; have RW0 : Hid (TpL (Fresh (w.alloc (.cells #[.slice none 0 0, .slice none 0 0] 27)) w1) w1 a1 k1 x.types) := hrow; have sz0 : w.heap.size + 1 ≤ (w.alloc (.cells #[.slice none 0 0, .slice none 0 0] 27)).heap.size := (by have := (Array.getElem?_eq_some_iff.1 Q0.out).1; omega); have CB0 : Hid (Ch w1 (w1.setCell ⟨w.heap.size, 0, none⟩ (.slice a1 x.types.length k1)) [B, w.heap.size]) := Ch.one (grown_setCell w1 w.heap.size 0 (.slice a1 x.types.length k1)) (by simp); have HC1 : Hid (Calls Try.prog 79 #[.pointer (some ⟨B, 0, none⟩), .func (.func 80) #[.pointer (some ⟨B, 0, none⟩)] #[]] (w1.setCell ⟨w.heap.size, 0, none⟩ (.slice a1 x.types.length k1)) fun e w' => ∃ a2 k2, e = .returned (.slice a2 x.funcs.length k2) ∧ FnL (Fresh (w1.setCell ⟨w.heap.size, 0, none⟩ (.slice a1 x.types.length k1)) w') w' a2 k2 x.funcs ∧ Rd lim w' B (R) (n + (Pg.dCat Pg.Tp.dl x.types).nd + (Pg.dCat Pg.Fn.dl x.funcs).nd) (d) ∧ (w1.setCell ⟨w.heap.size, 0, none⟩ (.slice a1 x.types.length k1)).grownBy w' (some B)) := (by have hh := hk1; have hs9 := (G1.out : Ch w (w1.setCell ⟨w.heap.size, 0, none⟩ (.slice a1 x.types.length k1)) [B]).size; exact rFs_ok hh (by omega) (by have := ZD.out; omega) (by have := ZD.out; omega) q2 HF.out.1 (fun y hy => (HF.out.2 y hy).1)); clear hh gg hk1 HC0 hrow)
    | (go_at_call 79; refine HC1.out.mono ?_; rintro e w2 ⟨a2, k2, rfl, hrow, hh, gg⟩; have T2 : Hid (w2.heap[w.heap.size]? = some (.cells #[.slice a1 x.types.length k1, .slice none 0 0] 27)) := ((gg.block _ (Array.getElem?_eq_some_iff.1 S1.out).1 (by simp; omega)).trans S1.out); have S2 : Hid ((w2.setCell ⟨w.heap.size, 1, none⟩ (.slice a2 x.funcs.length k2)).heap[w.heap.size]? = some (.cells #[.slice a1 x.types.length k1, .slice a2 x.funcs.length k2] 27)) := rset T2.out 1 (.slice a2 x.funcs.length k2); have m1 : w2.cell? ⟨w.heap.size, 1, none⟩ = some (.slice none 0 0) := rcell T2.out 1; have f1 : w2.frozen? ⟨w.heap.size, 1, none⟩ = false := rfrozen T2.out 1; have G2 : Hid (Ch w (w2.setCell ⟨w.heap.size, 1, none⟩ (.slice a2 x.funcs.length k2)) [B]) := ((G1.out.trans (Ch.one gg (by simp))).new (Nat.le_refl _) (grown_setCell w2 w.heap.size 1 (.slice a2 x.funcs.length k2))); have hk2 := hh.kept (grown_setCell w2 w.heap.size 1 (.slice a2 x.funcs.length k2)) hlim hPB; have RW1 : Hid (FnL (Fresh (w1.setCell ⟨w.heap.size, 0, none⟩ (.slice a1 x.types.length k1)) w2) w2 a2 k2 x.funcs) := hrow; have sz1 : w.heap.size + 1 ≤ (w1.setCell ⟨w.heap.size, 0, none⟩ (.slice a1 x.types.length k1)).heap.size := (by have := (Array.getElem?_eq_some_iff.1 S1.out).1; omega); have CB1 : Hid (Ch w2 (w2.setCell ⟨w.heap.size, 1, none⟩ (.slice a2 x.funcs.length k2)) [B, w.heap.size]) := Ch.one (grown_setCell w2 w.heap.size 1 (.slice a2 x.funcs.length k2)) (by simp); have CB0 : Hid (Ch w1 (w2.setCell ⟨w.heap.size, 1, none⟩ (.slice a2 x.funcs.length k2)) [B, w.heap.size]) := (CB0.out.trans ((Ch.one gg (by simp)).trans (Ch.one (grown_setCell w2 w.heap.size 1 (.slice a2 x.funcs.length k2)) (by simp)))); have e0 : w2.cell? ⟨w.heap.size, 0, none⟩ = some (.slice a1 x.types.length k1) := rcell T2.out 0; have z0 : w2.frozen? ⟨w.heap.size, 0, none⟩ = false := rfrozen T2.out 0; have HKN : Hid (Rd lim (w2.setCell ⟨w.heap.size, 1, none⟩ (.slice a2 x.funcs.length k2)) B (R) (n + (Pg.dCat Pg.Tp.dl x.types).nd + (Pg.dCat Pg.Fn.dl x.funcs).nd) d) := hk2; clear hh gg hk2 HC1 hrow))
  have P7 := (rset (rset S2.out 0 (.slice a1 x.types.length k1)) 1 (.slice a2 x.funcs.length k2))
  have G7 := ((G2.out.new (Nat.le_refl _) (grown_setCell (w2.setCell ⟨w.heap.size, 1, none⟩ (.slice a2 x.funcs.length k2)) w.heap.size 0 (.slice a1 x.types.length k1))).new (Nat.le_refl _) (grown_setCell ((w2.setCell ⟨w.heap.size, 1, none⟩ (.slice a2 x.funcs.length k2)).setCell ⟨w.heap.size, 0, none⟩ (.slice a1 x.types.length k1)) w.heap.size 1 (.slice a2 x.funcs.length k2)))
  have R7 := ((HKN.out.kept (grown_setCell (w2.setCell ⟨w.heap.size, 1, none⟩ (.slice a2 x.funcs.length k2)) w.heap.size 0 (.slice a1 x.types.length k1)) hlim hPB).kept (grown_setCell ((w2.setCell ⟨w.heap.size, 1, none⟩ (.slice a2 x.funcs.length k2)).setCell ⟨w.heap.size, 0, none⟩ (.slice a1 x.types.length k1)) w.heap.size 1 (.slice a2 x.funcs.length k2)) hlim hPB)
  have B7 := (((Ch.refl (w2.setCell ⟨w.heap.size, 1, none⟩ (.slice a2 x.funcs.length k2)) [B, w.heap.size]).trans (Ch.one (grown_setCell (w2.setCell ⟨w.heap.size, 1, none⟩ (.slice a2 x.funcs.length k2)) w.heap.size 0 (.slice a1 x.types.length k1)) (by simp))).trans (Ch.one (grown_setCell ((w2.setCell ⟨w.heap.size, 1, none⟩ (.slice a2 x.funcs.length k2)).setCell ⟨w.heap.size, 0, none⟩ (.slice a1 x.types.length k1)) w.heap.size 1 (.slice a2 x.funcs.length k2)) (by simp)))
  have X0 : TpL (Fresh w (((w2.setCell ⟨w.heap.size, 1, none⟩ (.slice a2 x.funcs.length k2)).setCell ⟨w.heap.size, 0, none⟩ (.slice a1 x.types.length k1)).setCell ⟨w.heap.size, 1, none⟩ (.slice a2 x.funcs.length k2))) (((w2.setCell ⟨w.heap.size, 1, none⟩ (.slice a2 x.funcs.length k2)).setCell ⟨w.heap.size, 0, none⟩ (.slice a1 x.types.length k1)).setCell ⟨w.heap.size, 1, none⟩ (.slice a2 x.funcs.length k2)) a1 k1 x.types := TpL.ch RW0.out (CB0.out.trans B7) (fun q hq => by have h1 := hq.1; have h2 := sz0; simp; omega) (fun q hq => ⟨by have h1 := hq.1; have h2 := sz0; omega, by have h1 := hq.2; have h2 := (CB0.out.trans B7).size; omega⟩)
  have X1 : FnL (Fresh w (((w2.setCell ⟨w.heap.size, 1, none⟩ (.slice a2 x.funcs.length k2)).setCell ⟨w.heap.size, 0, none⟩ (.slice a1 x.types.length k1)).setCell ⟨w.heap.size, 1, none⟩ (.slice a2 x.funcs.length k2))) (((w2.setCell ⟨w.heap.size, 1, none⟩ (.slice a2 x.funcs.length k2)).setCell ⟨w.heap.size, 0, none⟩ (.slice a1 x.types.length k1)).setCell ⟨w.heap.size, 1, none⟩ (.slice a2 x.funcs.length k2)) a2 k2 x.funcs := FnL.ch RW1.out (CB1.out.trans B7) (fun q hq => by have h1 := hq.1; have h2 := sz1; simp; omega) (fun q hq => ⟨by have h1 := hq.1; have h2 := sz1; omega, by have h1 := hq.2; have h2 := (CB1.out.trans B7).size; omega⟩)
  generalize (((w2.setCell ⟨w.heap.size, 1, none⟩ (.slice a2 x.funcs.length k2)).setCell ⟨w.heap.size, 0, none⟩ (.slice a1 x.types.length k1)).setCell ⟨w.heap.size, 1, none⟩ (.slice a2 x.funcs.length k2)) = W9 at *
  have r0 : W9.cell? ⟨w.heap.size, 0, none⟩ = some (.slice a1 x.types.length k1) := rcell P7 0
  have r1 : W9.cell? ⟨w.heap.size, 1, none⟩ = some (.slice a2 x.funcs.length k2) := rcell P7 1
  refine bodyPost_ret (by simp [results, Try.results60, go_sem, r0, r1]; try rfl) rfl ?_
  exact ⟨a1, k1, a2, k2, rfl, X0, X1, by rw [EN.out]; have := R7; rw [show n + (Pg.dCat Pg.Tp.dl x.types).nd + (Pg.dCat Pg.Fn.dl x.funcs).nd = n + (Pg.dCat Pg.Fn.dl x.funcs).nd from by have := ZD.out; omega] at this; exact this, ⟨G7.os, G7.tape, G7.output, G7.size, fun k hk hne => G7.block k hk (by simpa using hne)⟩⟩
set_option maxRecDepth 100000 in
set_option maxHeartbeats 16000000 in
theorem prog_cut (x : Pg.Pr) (hx : x.dl.may = true) (hr : ∀ f, f ∈ x.funcs → ∀ y, y ∈ f.body → StR y) : ProgCut x := by
  intro lim w B M n d h hc hlim hn hd
  obtain ⟨q1, m1, q2, m2, q7⟩ := Pg.Pr.parts2 x hx
  have HT : Hid ((∀ y, y ∈ x.types → 1 ≤ y.dl.en.length) ∧ (∀ y, y ∈ x.types → EntRd y ∧ EntCut y)) := ⟨fun y hy => tp_pos y (Pg.dCat_mem Pg.Tp.dl hy m1), fun y hy => ⟨ent_rd y (Pg.dCat_mem Pg.Tp.dl hy m1), ent_cut y (Pg.dCat_mem Pg.Tp.dl hy m1)⟩⟩
  have HF : Hid ((∀ y, y ∈ x.funcs → 1 ≤ y.dl.en.length) ∧ (∀ y, y ∈ x.funcs → FunRd y ∧ FunCut y)) := ⟨fun y hy => fn_pos y (Pg.dCat_mem Pg.Fn.dl hy m2), fun y hy => ⟨fun_rd y (Pg.dCat_mem Pg.Fn.dl hy m2) (hr y hy), fun_cut y (Pg.dCat_mem Pg.Fn.dl hy m2) (hr y hy)⟩⟩
  obtain ⟨en, ed⟩ := Pg.Pr.nd_eq x
  rw [en] at hn
  rw [ed] at hd
  have ZD : Hid ((Pg.dCat Pg.Tp.dl x.types).nd = 0 ∧ (Pg.dCat Pg.Tp.dl x.types).dp = 0) := by rw [← Pg.dTs_cat]; exact Pg.dTs_nd x.types
  have EN : Hid (x.dl.nd = (Pg.dCat Pg.Fn.dl x.funcs).nd) := en
  clear hx hr en ed m1 m2
  have hB := h.lt
  have hPB : w.heap.size ≠ B := by omega
  have g1 : w.grownBy (w.alloc (.cells #[.slice none 0 0, .slice none 0 0] 27)) none := World.grownBy_alloc _ _ _
  have HG1 : Hid (w.grownBy (w.alloc (.cells #[.slice none 0 0, .slice none 0 0] 27)) none) := g1
  have Q : Hid ((w.alloc (.cells #[.slice none 0 0, .slice none 0 0] 27)).heap[w.heap.size]? = some (.cells #[.slice none 0 0, .slice none 0 0] 27)) := heap_alloc_new w _
  rw [q7] at hc
  rcases cut_cases hc with hcut | ⟨M1, eM1, hc⟩
  · have HCUT : Hid (Cut M ((Pg.dCnt (x.types.length : Int)).en ++ (Pg.dCat Pg.Tp.dl x.types).en)) := hcut
    have Q0 : Hid ((w.alloc (.cells #[.slice none 0 0, .slice none 0 0] 27)).heap[w.heap.size]? = some (.cells #[.slice none 0 0, .slice none 0 0] 27)) := Q.out
    have G0 : Hid (Ch w (w.alloc (.cells #[.slice none 0 0, .slice none 0 0] 27)) [B]) := Ch.of g1
    have HC0 : Hid (Calls Try.prog 77 #[.pointer (some ⟨B, 0, none⟩), .func (.func 78) #[.pointer (some ⟨B, 0, none⟩)] #[]] (w.alloc (.cells #[.slice none 0 0, .slice none 0 0] 27)) fun e w' => e = faults 80 ∧ (w.alloc (.cells #[.slice none 0 0, .slice none 0 0] 27)).grownBy w' (some B)) := (by have hh := h.grow g1; have hs9 := g1.size; exact rTs_cut hh HCUT.out (by omega) (by have := ZD.out; omega) (by have := ZD.out; omega) q1 HT.out.2)
    clear h g1 hcut
    go_enter Try.func60, Try.ntmps60
    go_wp2_with (first
      | (go_at_call 77; refine HC0.out.mono ?_; rintro e w9 ⟨rfl, gg⟩; have G9 : Hid (Ch w w9 [B]) := (G0.out.trans (Ch.one gg (by simp))); clear gg HC0))
    exact ⟨rfl, rfl, ⟨G9.out.os, G9.out.tape, G9.out.output, G9.out.size, fun k hk hne => G9.out.block k hk (by simpa using hne)⟩⟩
  · have hcut := hc
    rw [eM1] at h
    have HCUT : Hid (Cut M1 ((Pg.dCnt (x.funcs.length : Int)).en ++ (Pg.dCat Pg.Fn.dl x.funcs).en)) := hcut
    have Q0 : Hid ((w.alloc (.cells #[.slice none 0 0, .slice none 0 0] 27)).heap[w.heap.size]? = some (.cells #[.slice none 0 0, .slice none 0 0] 27)) := Q.out
    have G0 : Hid (Ch w (w.alloc (.cells #[.slice none 0 0, .slice none 0 0] 27)) [B]) := Ch.of g1
    have HC0 : Hid (Calls Try.prog 77 #[.pointer (some ⟨B, 0, none⟩), .func (.func 78) #[.pointer (some ⟨B, 0, none⟩)] #[]] (w.alloc (.cells #[.slice none 0 0, .slice none 0 0] 27)) fun e w' => ∃ a1 k1, e = .returned (.slice a1 x.types.length k1) ∧ TpL (Fresh (w.alloc (.cells #[.slice none 0 0, .slice none 0 0] 27)) w') w' a1 k1 x.types ∧ Rd lim w' B (M1) (n + (Pg.dCat Pg.Tp.dl x.types).nd) (d) ∧ (w.alloc (.cells #[.slice none 0 0, .slice none 0 0] 27)).grownBy w' (some B)) := (by have hh := h.grow g1; have hs9 := g1.size; exact rTs_ok hh (by omega) (by have := ZD.out; omega) (by have := ZD.out; omega) q1 HT.out.1 (fun y hy => (HT.out.2 y hy).1))
    clear h g1 hc hcut
    go_enter Try.func60, Try.ntmps60
    go_wp2_with (first
      | (go_at_call 77; refine HC0.out.mono ?_; rintro e w1 ⟨a1, k1, rfl, hrow, hh, gg⟩; have T1 : Hid (w1.heap[w.heap.size]? = some (.cells #[.slice none 0 0, .slice none 0 0] 27)) := ((gg.block _ (Array.getElem?_eq_some_iff.1 Q0.out).1 (by simp; omega)).trans Q0.out); have S1 : Hid ((w1.setCell ⟨w.heap.size, 0, none⟩ (.slice a1 x.types.length k1)).heap[w.heap.size]? = some (.cells #[.slice a1 x.types.length k1, .slice none 0 0] 27)) := rset T1.out 0 (.slice a1 x.types.length k1); have m0 : w1.cell? ⟨w.heap.size, 0, none⟩ = some (.slice none 0 0) := rcell T1.out 0; have f0 : w1.frozen? ⟨w.heap.size, 0, none⟩ = false := rfrozen T1.out 0; have G1 : Hid (Ch w (w1.setCell ⟨w.heap.size, 0, none⟩ (.slice a1 x.types.length k1)) [B]) := ((G0.out.trans (Ch.one gg (by simp))).new (Nat.le_refl _) (grown_setCell w1 w.heap.size 0 (.slice a1 x.types.length k1))); have hk1 := hh.kept (grown_setCell w1 w.heap.size 0 (.slice a1 x.types.length k1)) hlim hPB; have RW0 : Hid (TpL (Fresh (w.alloc (.cells #[.slice none 0 0, .slice none 0 0] 27)) w1) w1 a1 k1 x.types) := hrow; have sz0 : w.heap.size + 1 ≤ (w.alloc (.cells #[.slice none 0 0, .slice none 0 0] 27)).heap.size := (by have := (Array.getElem?_eq_some_iff.1 Q0.out).1; omega); have CB0 : Hid (Ch w1 (w1.setCell ⟨w.heap.size, 0, none⟩ (.slice a1 x.types.length k1)) [B, w.heap.size]) := Ch.one (grown_setCell w1 w.heap.size 0 (.slice a1 x.types.length k1)) (by simp); have HC1 : Hid (Calls Try.prog 79 #[.pointer (some ⟨B, 0, none⟩), .func (.func 80) #[.pointer (some ⟨B, 0, none⟩)] #[]] (w1.setCell ⟨w.heap.size, 0, none⟩ (.slice a1 x.types.length k1)) fun e w' => e = faults 80 ∧ (w1.setCell ⟨w.heap.size, 0, none⟩ (.slice a1 x.types.length k1)).grownBy w' (some B)) := (by have hh := hk1; have hs9 := (G1.out : Ch w (w1.setCell ⟨w.heap.size, 0, none⟩ (.slice a1 x.types.length k1)) [B]).size; exact rFs_cut hh HCUT.out (by omega) (by have := ZD.out; omega) (by have := ZD.out; omega) q2 HF.out.2); clear hh gg hk1 HC0 hrow)
      | (go_at_call 79; refine HC1.out.mono ?_; rintro e w9 ⟨rfl, gg⟩; have G9 : Hid (Ch w w9 [B]) := (G1.out.trans (Ch.one gg (by simp))); clear gg HC1))
    exact ⟨rfl, rfl, ⟨G9.out.os, G9.out.tape, G9.out.output, G9.out.size, fun k hk hne => G9.out.block k hk (by simpa using hne)⟩⟩
end Go.Proofs.Ytljdjkiejppenaa
