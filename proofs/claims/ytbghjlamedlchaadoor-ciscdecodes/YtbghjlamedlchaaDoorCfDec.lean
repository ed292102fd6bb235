/- gantryref4.Decode: its contract. -/
import Derived.Test.YtbghjlamedlchaaDoorCfRead
import Derived.Test.YtbghjlamedlchaaDoorCfRd24
import Derived.Test.YtbghjlamedlchaaDoorCfM
import Derived.Test.YtbghjlamedlchaaDoorCeBack
namespace Go.Proofs.YtbghjlamedlchaaDoor
open Go.RowKit
set_option linter.unusedVariables false

namespace Cc
theorem rd_top {N : Nat} {g : Nat → Int} : ∀ (s : List Int) (v : InV) (z : Int) (p : Nat), p ≤ N → (rdL N g s v z p).2 ≤ N ∧ ((rdL N g s v z p).2 < 0 ∨ ∃ T : Nat, (rdL N g s v z p).2 = T) := by
  intro s
  induction s with
  | nil => intro v z p h; unfold rdL; dsimp only; exact ⟨by omega, .inr ⟨p, rfl⟩⟩
  | cons l s ih =>
    intro v z p h
    unfold rdL
    split
    · exact ⟨by dsimp only; omega, .inr ⟨0, rfl⟩⟩
    · split
      · exact ⟨by dsimp only; omega, .inl (by dsimp only; omega)⟩
      · exact ih _ _ _ (by omega)
theorem rowS_nil (o : Int) : ((rowS o).toList == []) = (row o).isEmpty := by
  rw [ByteArray.toList_eq]
  rcases ops o with e | e | e | e | e | e | e | e | e | e | e | e | e | e | e | e | e | e | e | e | e | e | e | e | e | e
  case inr.inr.inr.inr.inr.inr.inr.inr.inr.inr.inr.inr.inr.inr.inr.inr.inr.inr.inr.inr.inr.inr.inr.inr.inr =>
    rw [rowS_none e, (row_none e).1]; rfl
  all_goals (rw [e]; rfl)
end Cc
set_option maxHeartbeats 800000 in
theorem eq_len {n m ca cb : Nat} {ao bo : Option Addr} (w : World) (h : n ≠ m) :
    Calls Tryd.prog 10 #[.slice ao n ca, .slice bo m cb] w fun e w' => e = .returned (.bool false) ∧ w' = w := by
  have h1 : ((n : Int) != (m : Int)) = true := by simp; omega
  go_enter Tryd.func10, Tryd.ntmps10
  go_wp2
  go_ret
  exact ⟨rfl, rfl⟩
theorem eq_end {w : World} {base b off T cap : Nat} {x : Value} {l : List Int} {g : Nat → Int} (h : OwnL w base x l) (hl : 1 ≤ l.length) (hm : l.length ≤ 33) (hc : ∀ i, i < T → w.cell? ⟨b, off + i, none⟩ = some (.int .u8 (g i))) :
    Calls Tryd.prog 10 #[x, .slice (some ⟨b, off, none⟩) T cap] w fun e w' => e = .returned (.bool (decide (l.length = T) && Cc.startsB l g)) ∧ w.grownBy w' none := by
  have hB := h.toB
  obtain ⟨t, c, rfl, _, _⟩ := own_slice hB hl
  by_cases e : l.length = T
  · subst e
    refine (eq_gen l.length c cap t 0 b off (fun i => l.getD i 0) g w (by omega) (fun i hi => by rw [Nat.zero_add]; exact hB.cellAt hi) hc).mono ?_
    rintro e w' ⟨rfl, d, rfl⟩
    refine ⟨ret_bool ?_, grown_drewN (World.grownBy.refl _ _) d⟩
    rw [decide_eq_true rfl, Bool.true_and]
    unfold eqF Cc.startsB
    exact decide_eq_decide.mpr ⟨fun a i hi => (a i hi).symm, fun a i hi => (a i hi).symm⟩
  · refine (eq_len w e).mono ?_
    rintro e' w' ⟨rfl, rfl⟩
    exact ⟨ret_bool (by rw [decide_eq_false e]; rfl), World.grownBy.refl _ _⟩
theorem rread4_any {w : World} {b off n cap : Nat} {g : Nat → Int} (hn : 0 < n) (hm : (n : Int) ≤ 4000) (hg : Mm.Fit g) (hb : b < w.heap.size) (hc : ∀ i, i < n → w.cell? ⟨b, off + i, none⟩ = some (.int .u8 (g i))) :
    Calls Tryd.prog 38 #[.slice (some ⟨b, off, none⟩) n cap] w fun e w' => e = .returned (.tuple #[.agg #[.int .i64 (Cc.read n g).1.op, .int .i64 (Cc.read n g).1.a, .int .i64 (Cc.read n g).1.b, .int .i64 (Cc.read n g).1.c, .int .i64 (Cc.read n g).1.k, .int .i64 (Cc.read n g).1.sub, .int .i64 (Cc.read n g).1.scale, .int .i64 (Cc.read n g).1.imm, .int .i64 (Cc.read n g).1.label], .int .i64 (Cc.read n g).2]) ∧ w.grownBy w' none := by
  by_cases h : g 0 = 24
  · have e : Cc.read n g = (⟨24, 0, 0, 0, 0, 0, 0, 0, 0⟩, 1) := by unfold Cc.read Cc.rrow; rw [h]; rfl
    rw [e]
    exact rread_24 (g := g) hn hb (by rw [← h]; exact hc 0 hn)
  · exact rread_any hn hm hg hb hc h

set_option maxRecDepth 100000 in
set_option maxHeartbeats 8000000 in
theorem rdecode4_any {w : World} {ao : Option Addr} {n cap : Nat} {g : Nat → Int} (h : BsIn w ao n cap g) (hm : (n : Int) ≤ 4000) :
    Calls Tryd.prog 16 #[.slice ao n cap] w fun e w' => e = .returned (.tuple #[.agg #[.int .i64 (Cc.dec n g).1.op, .int .i64 (Cc.dec n g).1.a, .int .i64 (Cc.dec n g).1.b, .int .i64 (Cc.dec n g).1.c, .int .i64 (Cc.dec n g).1.k, .int .i64 (Cc.dec n g).1.sub, .int .i64 (Cc.dec n g).1.scale, .int .i64 (Cc.dec n g).1.imm, .int .i64 (Cc.dec n g).1.label], .int .i64 (Cc.dec n g).2.1, .int .i64 (Cc.dec n g).2.2]) ∧ w.grownBy w' none := by
  by_cases h0 : n = 0
  · subst h0
    have e : Cc.dec 0 g = (Cc.zero, 0, 41) := rfl
    rw [e]
    go_enter Tryd.func16, Tryd.ntmps16
    go_wp2
    have P9 : InstAt (w.alloc (Obj.cells #[.int .i64 0, .int .i64 0, .int .i64 0, .int .i64 0, .int .i64 0, .int .i64 0, .int .i64 0, .int .i64 0, .int .i64 0] 28)) w.heap.size Cc.zero := InstAt.new w Cc.zero
    have G9 := World.grownBy_alloc w (Obj.cells #[.int .i64 0, .int .i64 0, .int .i64 0, .int .i64 0, .int .i64 0, .int .i64 0, .int .i64 0, .int .i64 0, .int .i64 0] 28) none
    generalize w.alloc (Obj.cells #[.int .i64 0, .int .i64 0, .int .i64 0, .int .i64 0, .int .i64 0, .int .i64 0, .int .i64 0, .int .i64 0, .int .i64 0] 28) = W9 at *
    obtain ⟨x0, x1, x2, x3, x4, x5, x6, x7, x8, xz⟩ := P9
    refine bodyPost_ret (by simp [results, Tryd.results16, go_sem, x0, x1, x2, x3, x4, x5, x6, x7, x8]; try rfl) rfl ?_
    exact ⟨rfl, G9⟩
  obtain ⟨b, off, rfl, hcells⟩ := h.bs.resolve_left h0
  have hn : 0 < n := by omega
  have hn0 : (0 : Int) < n := by omega
  have hb := h.lt b off hn rfl
  have HF : Hid (Mm.Fit g) := h.fit
  have c0 : w.cell? ⟨b, off, none⟩ = some (.int .u8 (g 0)) := hcells 0 hn
  have f0 := h.fit 0
  have HC : Hid (∀ i, i < n → w.cell? ⟨b, off + i, none⟩ = some (.int .u8 (g i))) := hcells
  have HRD : Hid (∀ W, w.grownBy W none → Calls Tryd.prog 38 #[.slice (some ⟨b, off, none⟩) n cap] W fun e w' => e = .returned (.tuple #[.agg #[.int .i64 (Cc.read n g).1.op, .int .i64 (Cc.read n g).1.a, .int .i64 (Cc.read n g).1.b, .int .i64 (Cc.read n g).1.c, .int .i64 (Cc.read n g).1.k, .int .i64 (Cc.read n g).1.sub, .int .i64 (Cc.read n g).1.scale, .int .i64 (Cc.read n g).1.imm, .int .i64 (Cc.read n g).1.label], .int .i64 (Cc.read n g).2]) ∧ W.grownBy w' none) := fun W hW => rread4_any hn hm HF.out (Nat.lt_of_lt_of_le hb hW.size) (fun i hi => hW.cell (HC.out i hi) (by simp))
  have HR : Hid (∀ W, Calls Tryd.prog 18 #[.int .i64 (g 0)] W fun e w' => e = .returned (.string (Cc.rowS (g 0))) ∧ w' = W) := rrow_any (g 0)
  have hs := Cc.rowS_nil (g 0)
  have hcap : (n : Int) ≤ cap := by have := h.le; omega
  clear h hcells
  cases hr : (Cc.row (g 0)).isEmpty
  case true =>
    have e : Cc.dec n g = (Cc.zero, 0, 40) := by unfold Cc.dec; rw [if_neg h0, if_pos hr]
    rw [e]
    rw [hr] at hs
    clear e hr HRD
    generalize Cc.rowS (g 0) = s at *
    go_enter Tryd.func16, Tryd.ntmps16
    go_wp2_with (go_at_call 18; refine (HR.out _).mono ?_; rintro e w1 ⟨rfl, rfl⟩)
    have P9 : InstAt (w.alloc (Obj.cells #[.int .i64 0, .int .i64 0, .int .i64 0, .int .i64 0, .int .i64 0, .int .i64 0, .int .i64 0, .int .i64 0, .int .i64 0] 28)) w.heap.size Cc.zero := InstAt.new w Cc.zero
    have G9 := World.grownBy_alloc w (Obj.cells #[.int .i64 0, .int .i64 0, .int .i64 0, .int .i64 0, .int .i64 0, .int .i64 0, .int .i64 0, .int .i64 0, .int .i64 0] 28) none
    generalize w.alloc (Obj.cells #[.int .i64 0, .int .i64 0, .int .i64 0, .int .i64 0, .int .i64 0, .int .i64 0, .int .i64 0, .int .i64 0, .int .i64 0] 28) = W9 at *
    obtain ⟨x0, x1, x2, x3, x4, x5, x6, x7, x8, xz⟩ := P9
    refine bodyPost_ret (by simp [results, Tryd.results16, go_sem, x0, x1, x2, x3, x4, x5, x6, x7, x8]; try rfl) rfl ?_
    exact ⟨rfl, G9⟩
  case false =>
    rw [hr] at hs
    have TP : (Cc.read n g).2 ≤ n ∧ ((Cc.read n g).2 < 0 ∨ ∃ T : Nat, (Cc.read n g).2 = T) := Cc.rd_top (N := n) (g := g) (Cc.rrow (g 0)) ⟨g 0, 0, 0, 0, 0, 0, 0, 0, 0⟩ 0 1 hn
    have IM : -9223372036854775808 ≤ (Cc.read n g).1.imm ∧ (Cc.read n g).1.imm ≤ 9223372036854775807 := Cc.rd_imm (N := n) HF.out (Cc.rrow (g 0)) ⟨g 0, 0, 0, 0, 0, 0, 0, 0, 0⟩ 0 1 ⟨(by omega : (-9223372036854775808 : Int) ≤ 0), (by omega : (0 : Int) ≤ 9223372036854775807)⟩
    have ED : Cc.dec n g = if (Cc.read n g).2 = 0 then (Cc.zero, 0, 41) else if (Cc.read n g).2 < 0 ∨ Cc.mayB (Cc.read n g).1 = false ∨ (((Cc.enc (Cc.read n g).1).length : Int) ≠ (Cc.read n g).2 ∨ Cc.startsB (Cc.enc (Cc.read n g).1) g = false) then (Cc.zero, 0, 40) else ((Cc.read n g).1, (Cc.read n g).2, 0) := by
      unfold Cc.dec; rw [if_neg h0, if_neg (by rw [hr]; simp)]
    rw [ED]
    clear ED hr
    generalize Cc.read n g = F at *
    obtain ⟨v, z⟩ := F
    dsimp only at TP IM HRD ⊢
    generalize Cc.rowS (g 0) = s at *
    obtain ⟨TP1, TP2⟩ := TP
    by_cases z0 : z = 0
    · subst z0
      rw [if_pos rfl]
      go_enter Tryd.func16, Tryd.ntmps16
      go_wp2_with (go_at_call 18; refine (HR.out _).mono ?_; rintro e w1 ⟨rfl, rfl⟩)
      refine (HRD.out _ (World.grownBy_alloc _ _ _)).mono ?_
      rintro e w2 ⟨rfl, hg2⟩
      have G2 := grown_trans (World.grownBy_alloc w (Obj.cells #[.int .i64 0, .int .i64 0, .int .i64 0, .int .i64 0, .int .i64 0, .int .i64 0, .int .i64 0, .int .i64 0, .int .i64 0] 28) none) hg2
      have Z2 : InstAt w2 w.heap.size Cc.zero := (InstAt.new w Cc.zero).kept hg2 (by simp)
      have G3 := grown_trans G2 (World.grownBy_alloc w2 (Obj.cells #[.int .i64 v.op, .int .i64 v.a, .int .i64 v.b, .int .i64 v.c, .int .i64 v.k, .int .i64 v.sub, .int .i64 v.scale, .int .i64 v.imm, .int .i64 v.label] 28) none)
      have Z3 : InstAt (w2.alloc (Obj.cells #[.int .i64 v.op, .int .i64 v.a, .int .i64 v.b, .int .i64 v.c, .int .i64 v.k, .int .i64 v.sub, .int .i64 v.scale, .int .i64 v.imm, .int .i64 v.label] 28)) w.heap.size Cc.zero := Z2.kept (World.grownBy_alloc w2 (Obj.cells #[.int .i64 v.op, .int .i64 v.a, .int .i64 v.b, .int .i64 v.c, .int .i64 v.k, .int .i64 v.sub, .int .i64 v.scale, .int .i64 v.imm, .int .i64 v.label] 28) none) (by simp)
      have HZ : Hid (InstAt (w2.alloc (Obj.cells #[.int .i64 v.op, .int .i64 v.a, .int .i64 v.b, .int .i64 v.c, .int .i64 v.k, .int .i64 v.sub, .int .i64 v.scale, .int .i64 v.imm, .int .i64 v.label] 28)) w.heap.size Cc.zero) := Z3
      have I3 : InstAt (w2.alloc (Obj.cells #[.int .i64 v.op, .int .i64 v.a, .int .i64 v.b, .int .i64 v.c, .int .i64 v.k, .int .i64 v.sub, .int .i64 v.scale, .int .i64 v.imm, .int .i64 v.label] 28)) w2.heap.size v := InstAt.new w2 v
      have HI : Hid (InstAt (w2.alloc (Obj.cells #[.int .i64 v.op, .int .i64 v.a, .int .i64 v.b, .int .i64 v.c, .int .i64 v.k, .int .i64 v.sub, .int .i64 v.scale, .int .i64 v.imm, .int .i64 v.label] 28)) w2.heap.size v) := I3
      clear HR HRD Z2
      clear I3 HI
      obtain ⟨e0, e1, e2, e3, e4, e5, e6, e7, e8, ez⟩ := Z3
      have ey0 := ez 0
      have ey1 := ez 1
      have ey2 := ez 2
      have ey3 := ez 3
      have ey4 := ez 4
      have ey5 := ez 5
      have ey6 := ez 6
      have ey7 := ez 7
      have ey8 := ez 8
      clear ez
      go_wp2_with fail
      have P9 := HZ.out.put9 Cc.zero
      have G9 := grown_newR G3 (grown_put9 (w2.alloc (Obj.cells #[.int .i64 v.op, .int .i64 v.a, .int .i64 v.b, .int .i64 v.c, .int .i64 v.k, .int .i64 v.sub, .int .i64 v.scale, .int .i64 v.imm, .int .i64 v.label] 28)) w.heap.size Cc.zero) (Nat.le_refl _)
      change bodyPost _ _ _ _ _ (put9 (w2.alloc (Obj.cells #[.int .i64 v.op, .int .i64 v.a, .int .i64 v.b, .int .i64 v.c, .int .i64 v.k, .int .i64 v.sub, .int .i64 v.scale, .int .i64 v.imm, .int .i64 v.label] 28)) w.heap.size Cc.zero)
      generalize put9 (w2.alloc (Obj.cells #[.int .i64 v.op, .int .i64 v.a, .int .i64 v.b, .int .i64 v.c, .int .i64 v.k, .int .i64 v.sub, .int .i64 v.scale, .int .i64 v.imm, .int .i64 v.label] 28)) w.heap.size Cc.zero = W9 at *
      obtain ⟨x0, x1, x2, x3, x4, x5, x6, x7, x8, xz⟩ := P9
      refine bodyPost_ret (by simp [results, Tryd.results16, go_sem, x0, x1, x2, x3, x4, x5, x6, x7, x8]; try rfl) rfl ?_
      exact ⟨rfl, G9⟩
    rw [if_neg z0]
    have z0' : (z == 0) = false := by simp; exact z0
    by_cases z1 : z < 0
    · rw [if_pos (.inl z1)]
      have z1' : decide (z < 0) = true := decide_eq_true z1
      go_enter Tryd.func16, Tryd.ntmps16
      go_wp2_with (go_at_call 18; refine (HR.out _).mono ?_; rintro e w1 ⟨rfl, rfl⟩)
      refine (HRD.out _ (World.grownBy_alloc _ _ _)).mono ?_
      rintro e w2 ⟨rfl, hg2⟩
      have G2 := grown_trans (World.grownBy_alloc w (Obj.cells #[.int .i64 0, .int .i64 0, .int .i64 0, .int .i64 0, .int .i64 0, .int .i64 0, .int .i64 0, .int .i64 0, .int .i64 0] 28) none) hg2
      have Z2 : InstAt w2 w.heap.size Cc.zero := (InstAt.new w Cc.zero).kept hg2 (by simp)
      have G3 := grown_trans G2 (World.grownBy_alloc w2 (Obj.cells #[.int .i64 v.op, .int .i64 v.a, .int .i64 v.b, .int .i64 v.c, .int .i64 v.k, .int .i64 v.sub, .int .i64 v.scale, .int .i64 v.imm, .int .i64 v.label] 28) none)
      have Z3 : InstAt (w2.alloc (Obj.cells #[.int .i64 v.op, .int .i64 v.a, .int .i64 v.b, .int .i64 v.c, .int .i64 v.k, .int .i64 v.sub, .int .i64 v.scale, .int .i64 v.imm, .int .i64 v.label] 28)) w.heap.size Cc.zero := Z2.kept (World.grownBy_alloc w2 (Obj.cells #[.int .i64 v.op, .int .i64 v.a, .int .i64 v.b, .int .i64 v.c, .int .i64 v.k, .int .i64 v.sub, .int .i64 v.scale, .int .i64 v.imm, .int .i64 v.label] 28) none) (by simp)
      have HZ : Hid (InstAt (w2.alloc (Obj.cells #[.int .i64 v.op, .int .i64 v.a, .int .i64 v.b, .int .i64 v.c, .int .i64 v.k, .int .i64 v.sub, .int .i64 v.scale, .int .i64 v.imm, .int .i64 v.label] 28)) w.heap.size Cc.zero) := Z3
      have I3 : InstAt (w2.alloc (Obj.cells #[.int .i64 v.op, .int .i64 v.a, .int .i64 v.b, .int .i64 v.c, .int .i64 v.k, .int .i64 v.sub, .int .i64 v.scale, .int .i64 v.imm, .int .i64 v.label] 28)) w2.heap.size v := InstAt.new w2 v
      have HI : Hid (InstAt (w2.alloc (Obj.cells #[.int .i64 v.op, .int .i64 v.a, .int .i64 v.b, .int .i64 v.c, .int .i64 v.k, .int .i64 v.sub, .int .i64 v.scale, .int .i64 v.imm, .int .i64 v.label] 28)) w2.heap.size v) := I3
      clear HR HRD Z2
      go_wp2_with fail
      generalize (w2.alloc (Obj.cells #[.int .i64 v.op, .int .i64 v.a, .int .i64 v.b, .int .i64 v.c, .int .i64 v.k, .int .i64 v.sub, .int .i64 v.scale, .int .i64 v.imm, .int .i64 v.label] 28)) = W3 at *
      refine region_grown (by kernel_rfl) (by kernel_rfl) ?_
      have HZI : True := trivial
      repeat (go_big_quiet_step (exact rfl))
      refine wpQuiet_nil ?_
      rintro W4 ⟨x4, hx4⟩
      have G4 : W3.grownBy W4 none := by rw [hx4]; exact x4.h
      clear hx4 x4
      clear HZI
      have HZ4 : Hid (InstAt W4 w.heap.size Cc.zero) := HZ.out.kept G4 (by simp)
      have Z4 := HZ4.out
      obtain ⟨e0, e1, e2, e3, e4, e5, e6, e7, e8, ez⟩ := Z4
      have ey0 := ez 0
      have ey1 := ez 1
      have ey2 := ez 2
      have ey3 := ez 3
      have ey4 := ez 4
      have ey5 := ez 5
      have ey6 := ez 6
      have ey7 := ez 7
      have ey8 := ez 8
      clear ez
      go_wp2_with fail
      have P9 := HZ4.out.put9 Cc.zero
      have G9 := grown_newR (grown_trans G3 G4) (grown_put9 W4 w.heap.size Cc.zero) (Nat.le_refl _)
      change bodyPost _ _ _ _ _ (put9 W4 w.heap.size Cc.zero)
      generalize put9 W4 w.heap.size Cc.zero = W9 at *
      obtain ⟨x0, x1, x2, x3, x4, x5, x6, x7, x8, xz⟩ := P9
      refine bodyPost_ret (by simp [results, Tryd.results16, go_sem, x0, x1, x2, x3, x4, x5, x6, x7, x8]; try rfl) rfl ?_
      exact ⟨rfl, G9⟩
    obtain ⟨T, rfl⟩ := TP2.resolve_left z1
    clear TP2
    have HM : Hid (∀ W, Calls Tryd.prog 8 #[.agg #[.int .i64 v.op, .int .i64 v.a, .int .i64 v.b, .int .i64 v.c, .int .i64 v.k, .int .i64 v.sub, .int .i64 v.scale, .int .i64 v.imm, .int .i64 v.label]] W fun e w' => e = .returned (.bool (Cc.mayB v)) ∧ W.grownBy w' none) := fun W => rmay4_any v W IM.1 IM.2
    have HE : Hid (∀ W : World, Calls Tryd.prog 11 #[.agg #[.int .i64 v.op, .int .i64 v.a, .int .i64 v.b, .int .i64 v.c, .int .i64 v.k, .int .i64 v.sub, .int .i64 v.scale, .int .i64 v.imm, .int .i64 v.label]] W fun e w' => ∃ x, e = .returned x ∧ OwnL w' W.heap.size x (Cc.enc v) ∧ W.grownBy w' none) := fun W => rencode4_any v W
    have z1' : decide ((T : Int) < 0) = false := decide_eq_false z1
    cases hmay : Cc.mayB v
    case false =>
      rw [if_pos (.inr (.inl rfl))]
      rw [hmay] at HM
      go_enter Tryd.func16, Tryd.ntmps16
      go_wp2_with (go_at_call 18; refine (HR.out _).mono ?_; rintro e w1 ⟨rfl, rfl⟩)
      refine (HRD.out _ (World.grownBy_alloc _ _ _)).mono ?_
      rintro e w2 ⟨rfl, hg2⟩
      have G2 := grown_trans (World.grownBy_alloc w (Obj.cells #[.int .i64 0, .int .i64 0, .int .i64 0, .int .i64 0, .int .i64 0, .int .i64 0, .int .i64 0, .int .i64 0, .int .i64 0] 28) none) hg2
      have Z2 : InstAt w2 w.heap.size Cc.zero := (InstAt.new w Cc.zero).kept hg2 (by simp)
      have G3 := grown_trans G2 (World.grownBy_alloc w2 (Obj.cells #[.int .i64 v.op, .int .i64 v.a, .int .i64 v.b, .int .i64 v.c, .int .i64 v.k, .int .i64 v.sub, .int .i64 v.scale, .int .i64 v.imm, .int .i64 v.label] 28) none)
      have Z3 : InstAt (w2.alloc (Obj.cells #[.int .i64 v.op, .int .i64 v.a, .int .i64 v.b, .int .i64 v.c, .int .i64 v.k, .int .i64 v.sub, .int .i64 v.scale, .int .i64 v.imm, .int .i64 v.label] 28)) w.heap.size Cc.zero := Z2.kept (World.grownBy_alloc w2 (Obj.cells #[.int .i64 v.op, .int .i64 v.a, .int .i64 v.b, .int .i64 v.c, .int .i64 v.k, .int .i64 v.sub, .int .i64 v.scale, .int .i64 v.imm, .int .i64 v.label] 28) none) (by simp)
      have HZ : Hid (InstAt (w2.alloc (Obj.cells #[.int .i64 v.op, .int .i64 v.a, .int .i64 v.b, .int .i64 v.c, .int .i64 v.k, .int .i64 v.sub, .int .i64 v.scale, .int .i64 v.imm, .int .i64 v.label] 28)) w.heap.size Cc.zero) := Z3
      have I3 : InstAt (w2.alloc (Obj.cells #[.int .i64 v.op, .int .i64 v.a, .int .i64 v.b, .int .i64 v.c, .int .i64 v.k, .int .i64 v.sub, .int .i64 v.scale, .int .i64 v.imm, .int .i64 v.label] 28)) w2.heap.size v := InstAt.new w2 v
      have HI : Hid (InstAt (w2.alloc (Obj.cells #[.int .i64 v.op, .int .i64 v.a, .int .i64 v.b, .int .i64 v.c, .int .i64 v.k, .int .i64 v.sub, .int .i64 v.scale, .int .i64 v.imm, .int .i64 v.label] 28)) w2.heap.size v) := I3
      clear HR HRD Z2
      go_wp2_with fail
      generalize (w2.alloc (Obj.cells #[.int .i64 v.op, .int .i64 v.a, .int .i64 v.b, .int .i64 v.c, .int .i64 v.k, .int .i64 v.sub, .int .i64 v.scale, .int .i64 v.imm, .int .i64 v.label] 28)) = W3 at *
      have HZI : ∀ x : Gw W3, InstAt x.w w2.heap.size v := fun x => HI.out.kept x.h (by simp)
      have d0 := fun x => (HZI x).c0
      have d1 := fun x => (HZI x).c1
      have d2 := fun x => (HZI x).c2
      have d3 := fun x => (HZI x).c3
      have d4 := fun x => (HZI x).c4
      have d5 := fun x => (HZI x).c5
      have d6 := fun x => (HZI x).c6
      have d7 := fun x => (HZI x).c7
      have d8 := fun x => (HZI x).c8
      refine region_grown (by kernel_rfl) (by kernel_rfl) ?_
      repeat (go_big_quiet_step (first | exact rfl | (go_at_call 8; exact Gw.call (HM.out _))))
      refine wpQuiet_nil ?_
      rintro W4 ⟨x4, hx4⟩
      have G4 : W3.grownBy W4 none := by rw [hx4]; exact x4.h
      clear hx4 x4
      clear HZI d0 d1 d2 d3 d4 d5 d6 d7 d8
      have HZ4 : Hid (InstAt W4 w.heap.size Cc.zero) := HZ.out.kept G4 (by simp)
      have Z4 := HZ4.out
      obtain ⟨e0, e1, e2, e3, e4, e5, e6, e7, e8, ez⟩ := Z4
      have ey0 := ez 0
      have ey1 := ez 1
      have ey2 := ez 2
      have ey3 := ez 3
      have ey4 := ez 4
      have ey5 := ez 5
      have ey6 := ez 6
      have ey7 := ez 7
      have ey8 := ez 8
      clear ez
      go_wp2_with fail
      have P9 := HZ4.out.put9 Cc.zero
      have G9 := grown_newR (grown_trans G3 G4) (grown_put9 W4 w.heap.size Cc.zero) (Nat.le_refl _)
      change bodyPost _ _ _ _ _ (put9 W4 w.heap.size Cc.zero)
      generalize put9 W4 w.heap.size Cc.zero = W9 at *
      obtain ⟨x0, x1, x2, x3, x4, x5, x6, x7, x8, xz⟩ := P9
      refine bodyPost_ret (by simp [results, Tryd.results16, go_sem, x0, x1, x2, x3, x4, x5, x6, x7, x8]; try rfl) rfl ?_
      exact ⟨rfl, G9⟩
    case true =>
      rw [hmay] at HM
      have hTc : (T : Int) ≤ cap := by omega
      have HQ : Hid (∀ (W : World) (base : Nat) (x : Value), w.grownBy W none → OwnL W base x (Cc.enc v) → Calls Tryd.prog 10 #[x, .slice (some ⟨b, off, none⟩) T cap] W fun e w' => e = .returned (.bool (decide ((Cc.enc v).length = T) && Cc.startsB (Cc.enc v) g)) ∧ W.grownBy w' none) :=
        fun W base x hW hx => eq_end hx (Cc.enc_pos v) (Cc.enc_len v) (fun i hi => hW.cell (HC.out i (by omega)) (by simp))
      cases hq : (decide ((Cc.enc v).length = T) && Cc.startsB (Cc.enc v) g)
      case false =>
        have hc : ((Cc.enc v).length : Int) ≠ T ∨ Cc.startsB (Cc.enc v) g = false := by
          rcases Bool.and_eq_false_iff.mp hq with h | h
          · exact .inl (by have := of_decide_eq_false h; omega)
          · exact .inr h
        rw [if_pos (.inr (.inr hc))]
        rw [hq] at HQ
        clear hc hq hmay
        go_enter Tryd.func16, Tryd.ntmps16
        go_wp2_with (go_at_call 18; refine (HR.out _).mono ?_; rintro e w1 ⟨rfl, rfl⟩)
        refine (HRD.out _ (World.grownBy_alloc _ _ _)).mono ?_
        rintro e w2 ⟨rfl, hg2⟩
        have G2 := grown_trans (World.grownBy_alloc w (Obj.cells #[.int .i64 0, .int .i64 0, .int .i64 0, .int .i64 0, .int .i64 0, .int .i64 0, .int .i64 0, .int .i64 0, .int .i64 0] 28) none) hg2
        have Z2 : InstAt w2 w.heap.size Cc.zero := (InstAt.new w Cc.zero).kept hg2 (by simp)
        have G3 := grown_trans G2 (World.grownBy_alloc w2 (Obj.cells #[.int .i64 v.op, .int .i64 v.a, .int .i64 v.b, .int .i64 v.c, .int .i64 v.k, .int .i64 v.sub, .int .i64 v.scale, .int .i64 v.imm, .int .i64 v.label] 28) none)
        have Z3 : InstAt (w2.alloc (Obj.cells #[.int .i64 v.op, .int .i64 v.a, .int .i64 v.b, .int .i64 v.c, .int .i64 v.k, .int .i64 v.sub, .int .i64 v.scale, .int .i64 v.imm, .int .i64 v.label] 28)) w.heap.size Cc.zero := Z2.kept (World.grownBy_alloc w2 (Obj.cells #[.int .i64 v.op, .int .i64 v.a, .int .i64 v.b, .int .i64 v.c, .int .i64 v.k, .int .i64 v.sub, .int .i64 v.scale, .int .i64 v.imm, .int .i64 v.label] 28) none) (by simp)
        have HZ : Hid (InstAt (w2.alloc (Obj.cells #[.int .i64 v.op, .int .i64 v.a, .int .i64 v.b, .int .i64 v.c, .int .i64 v.k, .int .i64 v.sub, .int .i64 v.scale, .int .i64 v.imm, .int .i64 v.label] 28)) w.heap.size Cc.zero) := Z3
        have I3 : InstAt (w2.alloc (Obj.cells #[.int .i64 v.op, .int .i64 v.a, .int .i64 v.b, .int .i64 v.c, .int .i64 v.k, .int .i64 v.sub, .int .i64 v.scale, .int .i64 v.imm, .int .i64 v.label] 28)) w2.heap.size v := InstAt.new w2 v
        have HI : Hid (InstAt (w2.alloc (Obj.cells #[.int .i64 v.op, .int .i64 v.a, .int .i64 v.b, .int .i64 v.c, .int .i64 v.k, .int .i64 v.sub, .int .i64 v.scale, .int .i64 v.imm, .int .i64 v.label] 28)) w2.heap.size v) := I3
        clear HR HRD Z2
        go_wp2_with fail
        generalize (w2.alloc (Obj.cells #[.int .i64 v.op, .int .i64 v.a, .int .i64 v.b, .int .i64 v.c, .int .i64 v.k, .int .i64 v.sub, .int .i64 v.scale, .int .i64 v.imm, .int .i64 v.label] 28)) = W3 at *
        have HI4 : Hid (InstAt W3.drew w2.heap.size v) := HI.out.kept (grown_drew (World.grownBy.refl _ none)) (by simp)
        have G4 : w.grownBy W3.drew none := grown_drew G3
        have I4 := HI4.out
        obtain ⟨d0, d1, d2, d3, d4, d5, d6, d7, d8, dz⟩ := I4
        clear dz I3 Z3
        go_region_with (first
          | (go_at_call 8; refine (HM.out _).mono ?_; rintro e w4 ⟨rfl, hg4⟩; obtain ⟨f0, f1, f2, f3, f4, f5, f6, f7, f8, fz⟩ := HI4.out.kept hg4 (by simp); clear fz)
          | (go_at_call 11; refine (HE.out _).mono ?_; rintro e w5 ⟨x5, rfl, ho5, hg5⟩)
          | (go_at_call 10; refine (HQ.out _ _ _ (grown_trans (grown_trans G4 hg4) hg5) ho5).mono ?_; rintro e w6 ⟨rfl, hg6⟩))
        clear d0 d1 d2 d3 d4 d5 d6 d7 d8 f0 f1 f2 f3 f4 f5 f6 f7 f8 ho5
        have G6 : W3.grownBy w6 none := grown_trans (grown_trans (grown_drew (World.grownBy.refl _ none)) hg4) (grown_trans hg5 hg6)
        have HZ6 : Hid (InstAt w6 w.heap.size Cc.zero) := HZ.out.kept G6 (by simp)
        have Z6 := HZ6.out
        obtain ⟨e0, e1, e2, e3, e4, e5, e6, e7, e8, ez⟩ := Z6
        have ey0 := ez 0
        have ey1 := ez 1
        have ey2 := ez 2
        have ey3 := ez 3
        have ey4 := ez 4
        have ey5 := ez 5
        have ey6 := ez 6
        have ey7 := ez 7
        have ey8 := ez 8
        clear ez
        go_wp2_with fail
        have P9 := HZ6.out.put9 Cc.zero
        have G9 := grown_newR (grown_trans G3 G6) (grown_put9 w6 w.heap.size Cc.zero) (Nat.le_refl _)
        change bodyPost _ _ _ _ _ (put9 w6 w.heap.size Cc.zero)
        generalize put9 w6 w.heap.size Cc.zero = W9 at *
        obtain ⟨x0, x1, x2, x3, x4, x5, x6, x7, x8, xz⟩ := P9
        refine bodyPost_ret (by simp [results, Tryd.results16, go_sem, x0, x1, x2, x3, x4, x5, x6, x7, x8]; try rfl) rfl ?_
        exact ⟨rfl, G9⟩
      case true =>
        rw [Bool.and_eq_true] at hq
        have hl := of_decide_eq_true hq.1
        rw [if_neg (by exact fun h => h.elim z1 fun h => h.elim (fun h => Bool.noConfusion h) fun h => h.elim (fun h => h (by rw [hl])) fun h => Bool.noConfusion (hq.2.symm.trans h))]
        clear TP1
        have hQ : (decide ((Cc.enc v).length = T) && Cc.startsB (Cc.enc v) g) = true := by rw [Bool.and_eq_true]; exact hq
        rw [hQ] at HQ
        clear hQ hq hl hmay
        go_enter Tryd.func16, Tryd.ntmps16
        go_wp2_with (go_at_call 18; refine (HR.out _).mono ?_; rintro e w1 ⟨rfl, rfl⟩)
        refine (HRD.out _ (World.grownBy_alloc _ _ _)).mono ?_
        rintro e w2 ⟨rfl, hg2⟩
        have G2 := grown_trans (World.grownBy_alloc w (Obj.cells #[.int .i64 0, .int .i64 0, .int .i64 0, .int .i64 0, .int .i64 0, .int .i64 0, .int .i64 0, .int .i64 0, .int .i64 0] 28) none) hg2
        have Z2 : InstAt w2 w.heap.size Cc.zero := (InstAt.new w Cc.zero).kept hg2 (by simp)
        have G3 := grown_trans G2 (World.grownBy_alloc w2 (Obj.cells #[.int .i64 v.op, .int .i64 v.a, .int .i64 v.b, .int .i64 v.c, .int .i64 v.k, .int .i64 v.sub, .int .i64 v.scale, .int .i64 v.imm, .int .i64 v.label] 28) none)
        have Z3 : InstAt (w2.alloc (Obj.cells #[.int .i64 v.op, .int .i64 v.a, .int .i64 v.b, .int .i64 v.c, .int .i64 v.k, .int .i64 v.sub, .int .i64 v.scale, .int .i64 v.imm, .int .i64 v.label] 28)) w.heap.size Cc.zero := Z2.kept (World.grownBy_alloc w2 (Obj.cells #[.int .i64 v.op, .int .i64 v.a, .int .i64 v.b, .int .i64 v.c, .int .i64 v.k, .int .i64 v.sub, .int .i64 v.scale, .int .i64 v.imm, .int .i64 v.label] 28) none) (by simp)
        have HZ : Hid (InstAt (w2.alloc (Obj.cells #[.int .i64 v.op, .int .i64 v.a, .int .i64 v.b, .int .i64 v.c, .int .i64 v.k, .int .i64 v.sub, .int .i64 v.scale, .int .i64 v.imm, .int .i64 v.label] 28)) w.heap.size Cc.zero) := Z3
        have I3 : InstAt (w2.alloc (Obj.cells #[.int .i64 v.op, .int .i64 v.a, .int .i64 v.b, .int .i64 v.c, .int .i64 v.k, .int .i64 v.sub, .int .i64 v.scale, .int .i64 v.imm, .int .i64 v.label] 28)) w2.heap.size v := InstAt.new w2 v
        have HI : Hid (InstAt (w2.alloc (Obj.cells #[.int .i64 v.op, .int .i64 v.a, .int .i64 v.b, .int .i64 v.c, .int .i64 v.k, .int .i64 v.sub, .int .i64 v.scale, .int .i64 v.imm, .int .i64 v.label] 28)) w2.heap.size v) := I3
        clear HR HRD Z2
        go_wp2_with fail
        generalize (w2.alloc (Obj.cells #[.int .i64 v.op, .int .i64 v.a, .int .i64 v.b, .int .i64 v.c, .int .i64 v.k, .int .i64 v.sub, .int .i64 v.scale, .int .i64 v.imm, .int .i64 v.label] 28)) = W3 at *
        have HI4 : Hid (InstAt W3.drew w2.heap.size v) := HI.out.kept (grown_drew (World.grownBy.refl _ none)) (by simp)
        have G4 : w.grownBy W3.drew none := grown_drew G3
        have I4 := HI4.out
        obtain ⟨d0, d1, d2, d3, d4, d5, d6, d7, d8, dz⟩ := I4
        clear dz I3 Z3
        go_region_with (first
          | (go_at_call 8; refine (HM.out _).mono ?_; rintro e w4 ⟨rfl, hg4⟩; obtain ⟨f0, f1, f2, f3, f4, f5, f6, f7, f8, fz⟩ := HI4.out.kept hg4 (by simp); clear fz)
          | (go_at_call 11; refine (HE.out _).mono ?_; rintro e w5 ⟨x5, rfl, ho5, hg5⟩)
          | (go_at_call 10; refine (HQ.out _ _ _ (grown_trans (grown_trans G4 hg4) hg5) ho5).mono ?_; rintro e w6 ⟨rfl, hg6⟩))
        clear d0 d1 d2 d3 d4 d5 d6 d7 d8 f0 f1 f2 f3 f4 f5 f6 f7 f8 ho5
        have G6 : W3.grownBy w6 none := grown_trans (grown_trans (grown_drew (World.grownBy.refl _ none)) hg4) (grown_trans hg5 hg6)
        have HZ6 : Hid (InstAt w6 w.heap.size Cc.zero) := HZ.out.kept G6 (by simp)
        have Z6 := HZ6.out
        obtain ⟨e0, e1, e2, e3, e4, e5, e6, e7, e8, ez⟩ := Z6
        have ey0 := ez 0
        have ey1 := ez 1
        have ey2 := ez 2
        have ey3 := ez 3
        have ey4 := ez 4
        have ey5 := ez 5
        have ey6 := ez 6
        have ey7 := ez 7
        have ey8 := ez 8
        clear ez
        obtain ⟨d0, d1, d2, d3, d4, d5, d6, d7, d8, dz⟩ := HI.out.kept G6 (by simp)
        clear dz
        go_wp2_with fail
        have P9 := HZ6.out.put9 v
        have G9 := grown_newR (grown_trans G3 G6) (grown_put9 w6 w.heap.size v) (Nat.le_refl _)
        change bodyPost _ _ _ _ _ (put9 w6 w.heap.size v)
        generalize put9 w6 w.heap.size v = W9 at *
        obtain ⟨x0, x1, x2, x3, x4, x5, x6, x7, x8, xz⟩ := P9
        refine bodyPost_ret (by simp [results, Tryd.results16, go_sem, x0, x1, x2, x3, x4, x5, x6, x7, x8]; try rfl) rfl ?_
        exact ⟨rfl, G9⟩
end Go.Proofs.YtbghjlamedlchaaDoor
