/- run.Run without places. -/
import Derived.Test.YtdklaeppcjopoaaGreatDoorG11
import Derived.Test.YtdklaeppcjopoaaGreatDoorRuP
import Derived.Test.YtdklaeppcjopoaaGreatDoorG13
import Derived.BigRegion
namespace Go.Proofs.YtdklaeppcjopoaaGreatDoor
open Go.RowKit
set_option linter.unusedVariables false

/-- may a run begin? -/
def mayRun (I : Ig) (S : Int) (an : Nat) : Bool := I.mayB && decide ((an : Int) ≤ 6) && decide (8192 ≤ S) && decide (S ≤ 1048576) && decide (4096 + (I.dn : Int) ≤ S - 4096)
theorem mayB_parts {I : Ig} (h : I.mayB = true) : (I.t = 1 ∨ I.t = 2) ∧ I.cn ≤ 1048576 ∧ I.dn ≤ 1048576 ∧ 0 ≤ I.en ∧ I.en ≤ I.cn := by
  unfold Ig.mayB inB at h
  simp only [Bool.and_eq_true, Bool.or_eq_true, decide_eq_true_eq, beq_iff_eq] at h
  omega
/-- how many steps a watch has told -/
def stepsAt (w : World) (V : Nat) : Nat := match w.cell? ⟨V, 7, none⟩ with
  | some (.int _ x) => x.toNat
  | _ => 0
theorem stepsAt_of {w : World} {V : Nat} {j : Nat} (h : w.cell? ⟨V, 7, none⟩ = some (.int .i64 j)) : stepsAt w V = j := by
  unfold stepsAt
  rw [h]
  exact Int.toNat_natCast j
/-- a watch of no calls, made -/
theorem watch_made (v : Value) (w : World) : Calls Tryz.prog 34 #[.slice none 0 0, v] w fun r w' => r = .returned (.pointer (some ⟨w.heap.size + 1, 0, none⟩)) ∧ IsWn w' (w.heap.size + 1) w.heap.size (.slice none 0 0) 0 ∧ w'.heap.size = w.heap.size + 2 ∧ w.grownBy w' none := by
  refine (watch_nil v 0 none w).mono ?_
  rintro r w' ⟨rfl, rfl⟩
  have hs : (w.alloc (.map #[] 0)).heap.size = w.heap.size + 1 := size_alloc _ _
  refine ⟨rfl, ⟨⟨.slice none 0 0, ?_⟩, ?_⟩, ?_, ga (World.grownBy_alloc _ _ _) _⟩
  · refine ⟨#[.slice none 0 0, .map (some w.heap.size), .slice none 0 0, .slice none 0 0, .slice none 0 0, .int .i64 0, .int .i64 0, .int .i64 0], ?_, rfl, fun i hi => ?_⟩
    · rw [← hs]; exact heap_alloc_new _ _
    · have hc : i = 0 ∨ i = 1 ∨ i = 2 ∨ i = 3 ∨ i = 4 ∨ i = 5 ∨ i = 6 ∨ i = 7 := by omega
      rcases hc with rfl | rfl | rfl | rfl | rfl | rfl | rfl | rfl <;> rfl
  · exact ((World.grownBy_alloc (w.alloc (.map #[] 0)) _ none).block w.heap.size (by rw [hs]; omega) (by simp)).trans (heap_alloc_new _ _)
  · rw [size_alloc, hs]
/-- a run that has come to step j -/
structure RnIn (h : Pd) (s0 : Ru.St) (K N F : Nat) (w0 : World) (j : Nat) (wr : World) : Prop where
  le : j ≤ F
  go : ∀ i, i < j → (Ru.it h.im i s0).e = 0
  x : ∃ s', IsC wr h s' ∧ s'.e = (Ru.it h.im j s0).e ∧ s'.n = (Ru.it h.im j s0).n ∧ ((Ru.it h.im j s0).e ≠ 5 → s' = Ru.it h.im j s0)
  w : ∃ tr, IsWn wr (K + 1) K tr j ∧ OwnW wr (K + 2) tr (Ru.it h.im j s0).out
  n : wr.cell? ⟨N, 0, none⟩ = some h.mi
  b : K + 2 ≤ wr.heap.size
  g : w0.grownBy wr none
/-- the same, in the midst of a round: a step was taken and counted -/
structure Rm (h : Pd) (s0 : Ru.St) (K N F : Nat) (w0 : World) (j : Nat) (s4 : Ru.St) (tr : Value) (W : World) : Prop where
  x : IsC W h s4
  iw : IsWn W (K + 1) K tr (j + 1)
  ow : OwnW W (K + 2) tr (Ru.it h.im j s0).out
  n : W.cell? ⟨N, 0, none⟩ = some h.mi
  b : K + 2 ≤ W.heap.size
  g : w0.grownBy W none
theorem rn_mid {h : Pd} {s0 : Ru.St} {K N F : Nat} {w0 wr w4 : World} {j : Nat} {s4 : Ru.St} {tr : Value} (A : Ahead h K (K + 2)) (hN : N < K) (hNB : N ≠ h.B) (hND : N ≠ h.D) (hB0 : w0.heap.size ≤ h.B) (hD0 : w0.heap.size ≤ h.D) (hK0 : w0.heap.size ≤ K)
    (iw : IsWn wr (K + 1) K tr j) (ow : OwnW wr (K + 2) tr (Ru.it h.im j s0).out) (n : wr.cell? ⟨N, 0, none⟩ = some h.mi) (b : K + 2 ≤ wr.heap.size) (g : w0.grownBy wr none) (x4 : IsC w4 h s4) (m : Mc h wr w4) (o : Obj) :
    Rm h s0 K N F w0 j s4 tr ((w4.alloc o).setCell ⟨K + 1, 7, none⟩ (.int .i64 ((j : Int) + 1))) := by
  have hb := A.b
  have hd := A.d
  have gA := World.grownBy_alloc w4 o none
  have gS := grown_setCell (w4.alloc o) (K + 1) 7 (.int .i64 ((j : Int) + 1))
  have hsz := m.size
  have i4 : IsWn w4 (K + 1) K tr j := iw.kept (m.block _ (by omega) (by omega) (by omega)) (m.block _ (by omega) (by omega) (by omega))
  have i5 : IsWn (w4.alloc o) (K + 1) K tr j := i4.kept (gA.block _ (by omega) (by simp)) (gA.block _ (by omega) (by simp))
  refine ⟨(x4.kept gA).wk A (Wk.of gS (fun k hk => .inr (by injection hk with hk; exact hk.symm))), ⟨?_, ?_⟩, (World.ownsRow.alloc (ow.mc m A) o |> fun h => OwnW.set h (by omega)), ?_, ?_, ?_⟩
  · obtain ⟨c0, hr⟩ := i5.hd
    refine ⟨c0, (hr.set 7 _).congr fun k hk => ?_⟩
    have hc : k = 0 ∨ k = 1 ∨ k = 2 ∨ k = 3 ∨ k = 4 ∨ k = 5 ∨ k = 6 ∨ k = 7 := by omega
    rcases hc with rfl | rfl | rfl | rfl | rfl | rfl | rfl | rfl <;> rfl
  · exact (gS.block K (by have := gA.size; omega) (by simp)).trans i5.mp
  · have n4 : w4.cell? ⟨N, 0, none⟩ = some h.mi := (World.cell?_of_block (w := wr) (m.block N (by omega) hNB hND)).trans n
    exact gS.cell (gA.cell n4 (by simp)) (by simp; omega)
  · have := gA.size
    have := gS.size
    omega
  · refine ⟨gS.os.trans (gA.os.trans (m.os.trans g.os)), gS.tape.trans (gA.tape.trans (m.tape.trans g.tape)), gS.output.trans (gA.output.trans (m.output.trans g.output)), ?_, fun k hk _ => ?_⟩
    · have := gA.size
      have := gS.size
      have := g.size
      omega
    · have h1 := g.size
      have h2 := gA.size
      rw [gS.block k (by omega) (by simp; omega), gA.block k (by omega) (by simp), m.block k (by omega) (by omega) (by omega)]
      exact g.block k hk (by simp)
theorem it_going {I : Ru.Im} {s0 : Ru.St} {j : Nat} (hg : ∀ i, i < j → (Ru.it I i s0).e = 0) (he : (Ru.it I j s0).e = 0) : ∀ i, i < j + 1 → (Ru.it I i s0).e = 0 := fun i hi => by
  rcases Nat.lt_or_ge i j with h | h
  · exact hg i h
  · rw [show i = j from by omega]; exact he
/-- a watch ahead of its count -/
theorem rn_pre {h : Pd} {K : Nat} {wr w4 : World} {j : Nat} {tr : Value} (A : Ahead h K (K + 2)) (iw : IsWn wr (K + 1) K tr j) (b : K + 2 ≤ wr.heap.size) (m : Mc h wr w4) (o : Obj) : IsWn (w4.alloc o) (K + 1) K tr j := by
  have hb := A.b
  have hd := A.d
  have gA := World.grownBy_alloc w4 o none
  have hsz := m.size
  have i4 : IsWn w4 (K + 1) K tr j := iw.kept (m.block _ (by omega) (by omega) (by omega)) (m.block _ (by omega) (by omega) (by omega))
  exact i4.kept (gA.block _ (by omega) (by simp)) (gA.block _ (by omega) (by simp))
/-- eight cells of a watch -/
structure W8 (W : World) (V : Nat) (tr : Value) (a b c : Int) : Prop where
  c3 : W.cell? ⟨V, 3, none⟩ = some tr
  c4 : W.cell? ⟨V, 4, none⟩ = some (.slice none 0 0)
  c5 : W.cell? ⟨V, 5, none⟩ = some (.int .i64 a)
  c6 : W.cell? ⟨V, 6, none⟩ = some (.int .i64 b)
  c7 : W.cell? ⟨V, 7, none⟩ = some (.int .i64 c)
  fz : ∀ k, W.frozen? ⟨V, k, none⟩ = false
theorem W8.of {W : World} {V K : Nat} {tr : Value} {st : Int} (h : IsWn W V K tr st) : W8 W V tr 0 0 st := by
  obtain ⟨c0, r⟩ := h.hd
  exact ⟨h.c3, r.cell (i := 4) (by decide), r.cell (i := 5) (by decide), r.cell (i := 6) (by decide), h.c7, h.fz⟩
theorem W8.set5 {W : World} {V : Nat} {tr : Value} {a b c : Int} (h : W8 W V tr a b c) (x : Int) : W8 (W.setCell ⟨V, 5, none⟩ (.int .i64 x)) V tr x b c :=
  ⟨(World.cell?_setCell_other _ _ _ _ (by simp)).trans h.c3, (World.cell?_setCell_other _ _ _ _ (by simp)).trans h.c4, World.cell?_setCell_same _ _ _ h.c5, (World.cell?_setCell_other _ _ _ _ (by simp)).trans h.c6, (World.cell?_setCell_other _ _ _ _ (by simp)).trans h.c7, fun j => (World.frozen?_setCell _ _ _ _).trans (h.fz j)⟩
theorem W8.set6 {W : World} {V : Nat} {tr : Value} {a b c : Int} (h : W8 W V tr a b c) (x : Int) : W8 (W.setCell ⟨V, 6, none⟩ (.int .i64 x)) V tr a x c :=
  ⟨(World.cell?_setCell_other _ _ _ _ (by simp)).trans h.c3, (World.cell?_setCell_other _ _ _ _ (by simp)).trans h.c4, (World.cell?_setCell_other _ _ _ _ (by simp)).trans h.c5, World.cell?_setCell_same _ _ _ h.c6, (World.cell?_setCell_other _ _ _ _ (by simp)).trans h.c7, fun j => (World.frozen?_setCell _ _ _ _).trans (h.fz j)⟩
/-- a round that ends the run -/
theorem rn_end {h : Pd} {s0 : Ru.St} {K N F : Nat} {w0 W : World} {j : Nat} {s4 : Ru.St} {tr : Value} (hj : j < F) (hg : ∀ i, i < j → (Ru.it h.im i s0).e = 0) (he : (Ru.it h.im j s0).e = 0) (ht : (Ru.step h.im (Ru.it h.im j s0)).e ≠ 0)
    (d1 : s4.e = (Ru.step h.im (Ru.it h.im j s0)).e) (d2 : s4.n = (Ru.step h.im (Ru.it h.im j s0)).n) (d3 : (Ru.step h.im (Ru.it h.im j s0)).e ≠ 5 → s4 = Ru.step h.im (Ru.it h.im j s0)) (m : Rm h s0 K N F w0 j s4 tr W) : RnIn h s0 K N F w0 (j + 1) W where
  le := hj
  go := it_going hg he
  x := ⟨s4, m.x, d1, d2, d3⟩
  w := ⟨tr, by have := m.iw; simpa using this, by
    have e : (Ru.it h.im (j + 1) s0).out = (Ru.it h.im j s0).out := by
      show (Ru.step h.im (Ru.it h.im j s0)).out = _
      rw [Ru.step_out _ _ he]
      have : Ru.tells h.im (Ru.it h.im j s0) = [] := Decidable.byContradiction fun hh => ht (Ru.tells_going _ _ he hh)
      rw [this, List.append_nil]
    rw [e]; exact m.ow⟩
  n := m.n
  b := m.b
  g := m.g
/-- a round behind which the run goes on -/
theorem rn_on {h : Pd} {s0 : Ru.St} {K N F : Nat} {w0 W w7 : World} {j : Nat} {tr tr' : Value} (A : Ahead h K (K + 2)) (hK0 : w0.heap.size ≤ K) (hN : N < K) (hj : j < F) (hg : ∀ i, i < j → (Ru.it h.im i s0).e = 0) (he : (Ru.it h.im j s0).e = 0) (htt : h.t = 1 ∨ h.t = 2) (ht : (Ru.step h.im (Ru.it h.im j s0)).e = 0)
    (m : Rm h s0 K N F w0 j (Ru.step h.im (Ru.it h.im j s0)) tr W) (wk : Wk (K + 1) (K + 2) W w7) (iw : IsWn w7 (K + 1) K tr' ((j : Int) + 1)) (ow : OwnW w7 (K + 2) tr' ((Ru.it h.im j s0).out ++ if (Ru.next h.im (Ru.it h.im j s0).pl).1.op = 27 then [(Ru.step h.im (Ru.it h.im j s0)).reg (Ru.next h.im (Ru.it h.im j s0).pl).1.a] else [])) : RnIn h s0 K N F w0 (j + 1) w7 where
  le := hj
  go := it_going hg he
  x := ⟨_, m.x.wk A wk, rfl, rfl, fun _ => rfl⟩
  w := ⟨tr', by simpa using iw, by
    have hn : (Ru.next h.im (Ru.it h.im j s0).pl).2.2 = true := by
      cases hh : (Ru.next h.im (Ru.it h.im j s0).pl).2.2
      · exfalso
        unfold Ru.step at ht
        rw [if_pos he, hh, if_neg (by decide), Ru.stop_e he] at ht
        exact absurd (show (5 : Int) = 0 from ht) (by decide)
      · rfl
    have e : (Ru.it h.im (j + 1) s0).out = (Ru.it h.im j s0).out ++ if (Ru.next h.im (Ru.it h.im j s0).pl).1.op = 27 then [(Ru.step h.im (Ru.it h.im j s0)).reg (Ru.next h.im (Ru.it h.im j s0).pl).1.a] else [] := by
      show (Ru.step h.im (Ru.it h.im j s0)).out = _
      rw [Ru.step_out _ _ he]
      unfold Ru.tells
      by_cases h27 : (Ru.next h.im (Ru.it h.im j s0).pl).1.op = 27
      · rw [if_pos ⟨hn, h27⟩, if_pos h27]
        have : (Ru.step h.im (Ru.it h.im j s0)).reg (Ru.next h.im (Ru.it h.im j s0).pl).1.a = (Ru.it h.im j s0).reg (Ru.next h.im (Ru.it h.im j s0).pl).1.a := by
          unfold Ru.step
          rw [if_pos he, if_pos hn, Ru.exec_emit _ _ _ h27]
          rfl
        rw [this]
      · rw [if_neg (fun h => h27 h.2), if_neg h27]
    rw [e]; exact ow⟩
  n := (World.cell?_of_block (w := W) (wk.block N (by have := m.b; omega) (by omega) (by omega))).trans m.n
  b := by have := m.b; have := wk.size; omega
  g := ⟨wk.os.trans m.g.os, wk.tape.trans m.g.tape, wk.output.trans m.g.output, Nat.le_trans m.g.size wk.size, fun k hk _ => by
    have := m.b
    rw [wk.block k (by omega) (by omega) (by omega)]
    exact m.g.block k hk (by simp)⟩
/-- what a run tells -/
def runV (tr : Value) (T : Ru.St) (c : Nat) : Value := .agg #[tr, .slice none 0 0, .int .i64 (if T.e = 0 then 3 else T.e), .int .i64 T.n, .int .i64 c]
set_option maxRecDepth 100000 in
set_option maxHeartbeats 4000000 in
theorem run_nil {I : Ig} {w : World} (hI : I.In w) (S : Nat) (aa : Option Addr) (an ac : Nat) (ag : Nat → Int) (hA : RwIn .u64 w aa an ac ag) (hag : ∀ i, i < an → Ru.W64 (ag i)) (F : Nat) (f1 : (F : Int) ≤ 1048576) (hm : mayRun I S an = true) :
    Calls Tryz.prog 27 #[I.val, .int .i64 S, .slice aa an ac, .slice none 0 0, .int .i64 F] w fun r w' => ∃ tr, r = .returned (.tuple #[runV tr (Ru.it ⟨I.t, I.cn, I.cg, S⟩ F (Ru.init I S an ag)) (Ru.cnt ⟨I.t, I.cn, I.cg, S⟩ F (Ru.init I S an ag)), .int .i64 0]) ∧ OwnW w' w.heap.size tr (Ru.it ⟨I.t, I.cn, I.cg, S⟩ F (Ru.init I S an ag)).out ∧ w.grownBy w' none := by
  have hm' : I.mayB = true ∧ (an : Int) ≤ 6 ∧ (8192 : Int) ≤ S ∧ (S : Int) ≤ 1048576 ∧ 4096 + (I.dn : Int) ≤ (S : Int) - 4096 := by
    unfold mayRun at hm
    simp only [Bool.and_eq_true, decide_eq_true_eq] at hm
    exact ⟨hm.1.1.1.1, hm.1.1.1.2, hm.1.1.2, hm.1.2, hm.2⟩
  obtain ⟨m1, m2, m3, m4, m5⟩ := hm'
  have mp := mayB_parts m1
  have HN : Hid (∀ W, w.grownBy W none → Calls Tryz.prog 33 #[I.val, .int .i64 S, .slice aa an ac] W fun r w' => ∃ (h : Pd) (N : Nat), r = .returned (.tuple #[.pointer (some ⟨N, 0, none⟩), .int .i64 0]) ∧ NewOk I S an ag W w' h N) := fun W g => new_ok (hI.kept g) m1 S aa an ac ag (hA.grow g (fun _ _ _ _ => by simp)) m2 hag m3 m4 mp.2.2.1 m5 ⟨mp.2.2.2.1, by omega⟩
  have HT : Hid (I.t = 1 ∨ I.t = 2) := mp.1
  obtain ⟨s0, hs0⟩ : ∃ s0, Ru.init I S an ag = s0 := ⟨_, rfl⟩
  have z0 : Hid (s0.e = 0 ∧ s0.out = [] ∧ s0.Fc) := by
    subst hs0
    exact ⟨rfl, rfl, by show Wd.canon 0 0 = 0 ∧ Wd.canon 0 0 = 0; decide⟩
  rw [hs0]
  obtain ⟨J, hJ⟩ : ∃ J : Ru.Im, (⟨I.t, I.cn, I.cg, S⟩ : Ru.Im) = J := ⟨_, rfl⟩
  have HR : Hid (∀ {W w' : World} {h : Pd} {N : Nat}, NewOk I S an ag W w' h N → IsC w' h s0 ∧ w'.cell? ⟨N, 0, none⟩ = some h.mi ∧ h.im = J ∧ (h.t = 1 ∨ h.t = 2) ∧ h.At ∧ W.heap.size ≤ h.B ∧ W.heap.size ≤ h.D ∧ W.heap.size ≤ N ∧ N ≠ h.B ∧ N ≠ h.D ∧ W.grownBy w' none) := fun {W w' h N} o => by
    refine ⟨by rw [← hs0]; exact o.x, o.c, o.im.trans hJ, ?_, o.at', o.b0, o.d0, o.n0, o.nb, o.nd, o.g⟩
    have : h.im.t = I.t := by rw [o.im]
    have : h.t = I.t := this
    rw [this]; exact HT.out
  rw [hJ]
  obtain ⟨t, ca, cn, cc, cg, da, dn, dc, dg, en, fa, fn, fc, fg⟩ := I
  unfold Ig.val at HN ⊢
  dsimp only at HN ⊢
  have G : w.grownBy ((w.alloc (Obj.cells #[.int .i64 t, .slice ca cn cc, .slice da dn dc, .int .i64 en, .slice fa fn fc] 64)).alloc (Obj.cells #[.slice none 0 0, .slice none 0 0, .int .i64 0, .int .i64 0, .int .i64 0] 38)) none := ga (World.grownBy_alloc _ _ _) _
  have RZ : Hid (((w.alloc (Obj.cells #[.int .i64 t, .slice ca cn cc, .slice da dn dc, .int .i64 en, .slice fa fn fc] 64)).alloc (Obj.cells #[.slice none 0 0, .slice none 0 0, .int .i64 0, .int .i64 0, .int .i64 0] 38)).rowIs (w.heap.size + 1) 38 5 (row5 (.slice none 0 0) (.slice none 0 0) (.int .i64 0) (.int .i64 0) (.int .i64 0))) := by
    have := row5_new (w.alloc (Obj.cells #[.int .i64 t, .slice ca cn cc, .slice da dn dc, .int .i64 en, .slice fa fn fc] 64)) (.slice none 0 0) (.slice none 0 0) (.int .i64 0) (.int .i64 0) (.int .i64 0) 38
    rw [size_alloc] at this
    exact this
  have B4 : ((w.alloc (Obj.cells #[.int .i64 t, .slice ca cn cc, .slice da dn dc, .int .i64 en, .slice fa fn fc] 64)).alloc (Obj.cells #[.slice none 0 0, .slice none 0 0, .int .i64 0, .int .i64 0, .int .i64 0] 38)).cell? ⟨w.heap.size, 4, none⟩ = some (.slice fa fn fc) := by simp
  have g0 : decide ((F : Int) < 0) = false := decide_eq_false (by omega)
  have g1 : decide ((1048576 : Int) < F) = false := decide_eq_false (by omega)
  clear hI hm hA hag m1 m2 m3 m4 m5 mp hs0 hJ
  go_enter Tryz.func27, Tryz.ntmps27
  go_wp2_with (first
    | (go_at_call 32; refine (calls_nil _ _ _ _).mono ?_; rintro r w1 ⟨rfl, rfl⟩)
    | (go_at_call 33; refine (HN.out _ G).mono ?_; rintro r w1 ⟨h, N, rfl, no⟩; obtain ⟨x1, cN1, him, ht, hAt, hB0, hD0, hN0, hNB, hND, gN⟩ := HR.out no; clear no; have b4 := gN.cell B4 (by simp))
    | (go_at_call 34; refine (watch_made _ _).mono ?_; rintro r w2 ⟨rfl, iw2, hsz2, g2⟩; have cN2 := g2.cell cN1 (by simp))
    | (go_at_call 35; refine (core_any h _).mono ?_; rintro r w3 ⟨rfl, rfl⟩))
  have X2 : Hid (IsC w3 h s0) := x1.kept g2
  have HA : Hid (Ahead h w1.heap.size (w1.heap.size + 2)) := ⟨x1.hd.lt, x1.mm.head.lt, x1.mm.row.lt, fun b off h0 e => x1.cd.lt b off h0 e, Nat.le_refl _⟩
  obtain ⟨W0, hW0⟩ : ∃ W0, ((w.alloc (Obj.cells #[.int .i64 t, .slice ca cn cc, .slice da dn dc, .int .i64 en, .slice fa fn fc] 64)).alloc (Obj.cells #[.slice none 0 0, .slice none 0 0, .int .i64 0, .int .i64 0, .int .i64 0] 38)) = W0 := ⟨_, rfl⟩
  have hws : W0.heap.size = w.heap.size + 2 := by rw [← hW0, size_alloc, size_alloc]
  rw [hW0] at RZ G gN hB0 hD0 hN0
  have G3 : Hid (W0.grownBy w3 none) := grown_trans gN g2
  have GW : Hid (w.grownBy W0 none) := G
  have hNK : N < w1.heap.size := World.block_lt_of_cell? _ _ cN1
  have hwK : W0.heap.size ≤ w1.heap.size := gN.size
  have HI2 : Hid (IsWn w3 (w1.heap.size + 1) w1.heap.size (.slice none 0 0) 0) := iw2
  have HF0 : Hid (s0.e = 0 ∧ s0.out = [] ∧ s0.Fc) := z0
  have hK2 : Hid (w3.heap.size = w1.heap.size + 2) := hsz2
  clear x1 g2 gN G B4 b4 cN1 HN HR HT z0 iw2 hsz2 g0 g1 hW0
  obtain ⟨K, hK⟩ : ∃ K, w1.heap.size = K := ⟨_, rfl⟩
  rw [hK] at HA HI2 hK2 hNK hwK ⊢
  clear hK
  obtain ⟨b0, hb0⟩ : ∃ b0, w.heap.size = b0 := ⟨_, rfl⟩
  rw [hb0] at RZ hws ⊢
  have Hb0 : Hid (w.heap.size = b0) := hb0
  clear hb0
  have R0 : Hid (RnIn h s0 K N F W0 0 w3) := ⟨Nat.zero_le _, fun i hi => absurd hi (Nat.not_lt_zero i), ⟨s0, X2.out, rfl, rfl, fun _ => rfl⟩, ⟨.slice none 0 0, HI2.out, by rw [show (Ru.it h.im 0 s0).out = [] from HF0.out.2.1]; exact World.ownsRow_nil _ _ _ _⟩, cN2, by rw [hK2.out]; exact Nat.le_refl _, G3.out⟩
  clear X2 HI2 cN2 hK2 G3
  go_loopw [] (fun wr => ∃ j, RnIn h s0 K N F W0 j wr) (fun wr => F - stepsAt wr (K + 1))
  case atStart => exact ⟨0, R0.out⟩
  case round =>
    obtain ⟨j, R⟩ := hrel
    clear R0
    obtain ⟨s', x, e1, e2, e3⟩ := R.x
    obtain ⟨tr, iw, ow⟩ := R.w
    have HR : Hid (RnIn h s0 K N F W0 j wr) := R
    have hle := R.le
    have cN := R.n
    have c7 := iw.c7
    clear R
    by_cases he : (Ru.it h.im j s0).e = 0
    · have c21 : wr.cell? ⟨h.B, 21, none⟩ = some (.int .i64 0) := by rw [← he, ← e1]; exact x.c21
      by_cases hj : j < F
      · obtain rfl : s' = Ru.it h.im j s0 := e3 (by rw [he]; decide)
        have hj' : (j : Int) < F := by omega
        have HFC : Hid ((Ru.it h.im j s0).Fc) := Ru.it_fc _ _ _ HF0.out.2.2
        have HX : Hid (IsC wr h (Ru.it h.im j s0)) := x
        have HIW : Hid (IsWn wr (K + 1) K tr j) := iw
        have HOW : Hid (OwnW wr (K + 2) tr (Ru.it h.im j s0).out) := ow
        have HE : Hid ((Ru.it h.im j s0).e = 0) := he
        clear x iw ow e1 e2 e3
        have HM : Hid (∀ {w4 : World} {s4 : Ru.St} (o : Obj), IsC w4 h s4 → Mc h wr w4 → Rm h s0 K N F W0 j s4 tr ((w4.alloc o).setCell ⟨K + 1, 7, none⟩ (.int .i64 ((j : Int) + 1)))) := fun o x4 m4 => rn_mid HA.out hNK hNB hND hB0 hD0 hwK HIW.out HOW.out HR.out.n HR.out.b HR.out.g x4 m4 o
        go_wp2_with fail
        by_cases hgo : (Ru.step h.im (Ru.it h.im j s0)).e = 0
        · refine (goOn_any HX.out HE.out HFC.out ht hAt).mono ?_
          rintro r w4 ⟨⟨s4, x4, d1, d2, d3⟩, _, m4⟩
          obtain ⟨hs4, rfl⟩ := d3 (by rw [hgo]; decide)
          subst hs4
          obtain ⟨v, hv⟩ : ∃ v, (Ru.next h.im (Ru.it h.im j s0).pl).1 = v := ⟨_, rfl⟩
          rw [hv]
          unfold inst'
          have HV : Hid ((Ru.next h.im (Ru.it h.im j s0).pl).1 = v) := hv
          have HGO : Hid ((Ru.step h.im (Ru.it h.im j s0)).e = 0) := hgo
          have hr : Hid (0 ≤ v.a ∧ v.a < 16) := by
            show _ ∧ _
            rw [← hv]
            refine next_rng ht ?_
            cases hh : (Ru.next h.im (Ru.it h.im j s0).pl).2.2
            · exfalso
              unfold Ru.step at hgo
              rw [if_pos HE.out, hh, if_neg (by decide), Ru.stop_e HE.out] at hgo
              exact absurd (show (5 : Int) = 0 from hgo) (by decide)
            · rfl
          have M6 := HM.out (Obj.cells #[.int .i64 v.op, .int .i64 v.a, .int .i64 v.b, .int .i64 v.c, .int .i64 v.k, .int .i64 v.sub, .int .i64 v.scale, .int .i64 v.imm, .int .i64 v.label] 34) x4 m4
          have i5 := rn_pre HA.out HIW.out HR.out.b m4 (Obj.cells #[.int .i64 v.op, .int .i64 v.a, .int .i64 v.b, .int .i64 v.c, .int .i64 v.k, .int .i64 v.sub, .int .i64 v.scale, .int .i64 v.imm, .int .i64 v.label] 34)
          have p7 := i5.c7
          have pz := i5.fz 7
          have q21 := M6.x.c21
          rw [hgo] at q21
          have hw4 : K + 2 ≤ w4.heap.size := Nat.le_trans HR.out.b m4.size
          have I6 := (InstAt.new w4 v).setB (B := K + 1) (o := 7) (by omega) (.int .i64 ((j : Int) + 1))
          obtain ⟨y0, y1, y2, y3, y4, y5, y6, y7, y8, yz⟩ := I6
          have HM6 : Hid _ := M6
          clear M6 i5 x4 m4 d1 d2 d3 hv hgo cN c7 c21 hw4
          go_wp2_with fail
          refine (see_any HM6.out.x HA.out HM6.out.iw HM6.out.ow (by have := Ru.it_len h.im s0 j; rw [HF0.out.2.1] at this; simp at this; omega) HM6.out.b v hr.out).mono ?_
          rintro r w7 ⟨rfl, wk, tr', iw', ow'⟩
          rw [← HV.out] at ow'
          have R7 : Hid (RnIn h s0 K N F W0 (j + 1) w7) := rn_on HA.out hwK hNK hj HR.out.go HE.out ht HGO.out HM6.out wk iw' ow'
          have s7 : Hid (stepsAt w7 (K + 1) = j + 1) := stepsAt_of (j := j + 1) (by have := iw'.c7; simpa using this)
          have s0' : Hid (stepsAt wr (K + 1) = j) := stepsAt_of HIW.out.c7
          clear wk iw' ow' q21 p7 pz y0 y1 y2 y3 y4 y5 y6 y7 y8 yz HM6
          go_wp2
          go_roundw
          case rel => exact ⟨j + 1, R7.out⟩
          case measure => rw [s7.out, s0'.out]; omega
        · refine (goOn_any HX.out HE.out HFC.out ht hAt).mono ?_
          rintro r w4 ⟨⟨s4, x4, d1, d2, d3⟩, ⟨u, rfl⟩, m4⟩
          unfold inst'
          have M6 := HM.out (Obj.cells #[.int .i64 u.op, .int .i64 u.a, .int .i64 u.b, .int .i64 u.c, .int .i64 u.k, .int .i64 u.sub, .int .i64 u.scale, .int .i64 u.imm, .int .i64 u.label] 34) x4 m4
          have i5 := rn_pre HA.out HIW.out HR.out.b m4 (Obj.cells #[.int .i64 u.op, .int .i64 u.a, .int .i64 u.b, .int .i64 u.c, .int .i64 u.k, .int .i64 u.sub, .int .i64 u.scale, .int .i64 u.imm, .int .i64 u.label] 34)
          have p7 := i5.c7
          have pz := i5.fz 7
          have q21 := M6.x.c21
          have hz : (s4.e == 0) = false := by rw [d1]; simpa using hgo
          have R7 : Hid (RnIn h s0 K N F W0 (j + 1) ((w4.alloc (Obj.cells #[.int .i64 u.op, .int .i64 u.a, .int .i64 u.b, .int .i64 u.c, .int .i64 u.k, .int .i64 u.sub, .int .i64 u.scale, .int .i64 u.imm, .int .i64 u.label] 34)).setCell ⟨K + 1, 7, none⟩ (.int .i64 ((j : Int) + 1)))) := rn_end hj HR.out.go HE.out hgo d1 d2 (fun h => (d3 h).1) M6
          have s7 : Hid (stepsAt ((w4.alloc (Obj.cells #[.int .i64 u.op, .int .i64 u.a, .int .i64 u.b, .int .i64 u.c, .int .i64 u.k, .int .i64 u.sub, .int .i64 u.scale, .int .i64 u.imm, .int .i64 u.label] 34)).setCell ⟨K + 1, 7, none⟩ (.int .i64 ((j : Int) + 1))) (K + 1) = j + 1) := stepsAt_of (j := j + 1) (by have := M6.iw.c7; simpa using this)
          have s0' : Hid (stepsAt wr (K + 1) = j) := stepsAt_of HIW.out.c7
          clear M6 i5 x4 m4 d1 d2 d3 hgo cN c7 c21
          go_wp2
          go_roundw
          case rel => exact ⟨j + 1, R7.out⟩
          case measure => rw [s7.out, s0'.out]; omega
      · obtain ⟨ao, L, cp, rfl⟩ : ∃ ao L cp, tr = .slice ao L cp := by obtain ⟨ao, cp, e⟩ := ow.slice; exact ⟨ao, _, cp, e⟩
        have hjF : j = F := by omega
        have hj' : decide ((j : Int) < F) = false := decide_eq_false (by omega)
        have c22 : wr.cell? ⟨h.B, 22, none⟩ = some (.int .i64 (Ru.it h.im j s0).n) := by rw [← e2]; exact x.c22
        have HIW : Hid (IsWn wr (K + 1) K (.slice ao L cp) j) := iw
        have HOW : Hid (OwnW wr (K + 2) (.slice ao L cp) (Ru.it h.im j s0).out) := ow
        have HE : Hid ((Ru.it h.im j s0).e = 0) := he
        have hBK := HA.out.b
        clear x iw ow e1 e2 e3
        obtain ⟨E, hE⟩ : ∃ E : Int, E = 0 := ⟨0, rfl⟩
        rw [← hE] at c21
        obtain ⟨Z, hZ0⟩ : ∃ Z : Int, Z = (Ru.it h.im j s0).n := ⟨_, rfl⟩
        rw [← hZ0] at c22
        have hE' : (E == 0) = true := by rw [hE]; rfl
        have HE0 : Hid (E = 0) := hE
        have HZ0 : Hid (Z = (Ru.it h.im j s0).n) := hZ0
        have HjF : Hid (j = F) := hjF
        clear hE hZ0 hjF he

        have D8 : Hid (W8 wr (K + 1) (.slice ao L cp) 0 0 j) := W8.of HIW.out
        have A8 := D8.out.set5 E
        have B8 := A8.set6 Z
        have gS5 := grown_setCell wr (K + 1) 5 (.int .i64 E)
        have gS6 := grown_setCell (wr.setCell ⟨K + 1, 5, none⟩ (.int .i64 E)) (K + 1) 6 (.int .i64 Z)
        have f21 := gS6.cell (gS5.cell c21 (by simp; omega)) (by simp; omega)
        have hZ := rowIs_grown RZ.out HR.out.g
        have z5 := hZ.setOther (a := ⟨K + 1, 5, none⟩) (by simp; omega) (.int .i64 E)
        have z6 := z5.setOther (a := ⟨K + 1, 6, none⟩) (by simp; omega) (.int .i64 Z)
        have a5 := D8.out.c5
        have a6 := D8.out.c6
        have az5 := D8.out.fz 5
        have az6 := D8.out.fz 6
        go_wp2_with fail
        go_region
        have D4 : Hid (W8 ((wr.setCell ⟨K + 1, 5, none⟩ (.int .i64 E)).setCell ⟨K + 1, 6, none⟩ (.int .i64 Z)).drew (K + 1) (.slice ao L cp) E Z j) := ⟨B8.c3, B8.c4, B8.c5, B8.c6, B8.c7, B8.fz⟩
        have f4 : ((wr.setCell ⟨K + 1, 5, none⟩ (.int .i64 E)).setCell ⟨K + 1, 6, none⟩ (.int .i64 Z)).drew.cell? ⟨h.B, 21, none⟩ = some (.int .i64 E) := f21
        have Z4 : Hid (((wr.setCell ⟨K + 1, 5, none⟩ (.int .i64 E)).setCell ⟨K + 1, 6, none⟩ (.int .i64 Z)).drew.rowIs (b0 + 1) 38 5 (row5 (.slice none 0 0) (.slice none 0 0) (.int .i64 0) (.int .i64 0) (.int .i64 0))) := z6
        have O4 : Hid (OwnW ((wr.setCell ⟨K + 1, 5, none⟩ (.int .i64 E)).setCell ⟨K + 1, 6, none⟩ (.int .i64 Z)).drew (K + 2) (.slice ao L cp) (Ru.it h.im j s0).out) := (HOW.out.set (k := 5) (by omega)).set (k := 6) (by omega)
        have G4 : Hid (W0.grownBy ((wr.setCell ⟨K + 1, 5, none⟩ (.int .i64 E)).setCell ⟨K + 1, 6, none⟩ (.int .i64 Z)).drew none) := grown_drew (grown_two (grown_two HR.out.g gS5 (by omega)) gS6 (by omega))
        clear c21 c22 cN c7 a5 a6 az5 az6 f21 z5 z6 A8 B8 hZ gS5 gS6
        generalize ((wr.setCell ⟨K + 1, 5, none⟩ (.int .i64 E)).setCell ⟨K + 1, 6, none⟩ (.int .i64 Z)).drew = W4 at *
        have E8 := D4.out.set5 3
        have Z5 : Hid ((W4.setCell ⟨K + 1, 5, none⟩ (.int .i64 3)).rowIs (b0 + 1) 38 5 (row5 (.slice none 0 0) (.slice none 0 0) (.int .i64 0) (.int .i64 0) (.int .i64 0))) := Z4.out.setOther (a := ⟨K + 1, 5, none⟩) (by simp; omega) (.int .i64 3)
        have O5 : Hid (OwnW (W4.setCell ⟨K + 1, 5, none⟩ (.int .i64 3)) (K + 2) (.slice ao L cp) (Ru.it h.im j s0).out) := O4.out.set (by omega)
        have G5 : Hid (W0.grownBy (W4.setCell ⟨K + 1, 5, none⟩ (.int .i64 3)) none) := grown_two G4.out (grown_setCell _ _ _ _) (by omega)
        obtain ⟨z0, z1, z2, z3, z4, zz⟩ := rowIs_five Z5.out
        obtain ⟨v3, v4, v5, v6, v7, vz⟩ := E8
        have a5 := D4.out.c5
        have az5 := D4.out.fz 5
        have zz4 := (rowIs_five Z4.out).2.2.2.2.2
        have zz0 := zz4 0
        have zz1 := zz4 1
        have zz2 := zz4 2
        have zz3 := zz4 3
        have zz5 := zz4 4
        go_wp2
        change bodyPost _ _ _ _ _ (put5 (W4.setCell ⟨K + 1, 5, none⟩ (.int .i64 3)) (b0 + 1) (.slice ao L cp) (.slice none 0 0) (.int .i64 3) (.int .i64 Z) (.int .i64 j))
        have gP : Hid ((W4.setCell ⟨K + 1, 5, none⟩ (.int .i64 3)).grownBy (put5 (W4.setCell ⟨K + 1, 5, none⟩ (.int .i64 3)) (b0 + 1) (.slice ao L cp) (.slice none 0 0) (.int .i64 3) (.int .i64 Z) (.int .i64 j)) (some (b0 + 1))) := grown_put5 _ _ _ _ _ _ _
        have hR := rowIs_five (row5_put Z5.out (.slice ao L cp) (.slice none 0 0) (.int .i64 3) (.int .i64 Z) (.int .i64 j))
        generalize put5 (W4.setCell ⟨K + 1, 5, none⟩ (.int .i64 3)) (b0 + 1) (.slice ao L cp) (.slice none 0 0) (.int .i64 3) (.int .i64 Z) (.int .i64 j) = W6 at *
        obtain ⟨q0, q1, q2, q3, q4, qz⟩ := hR
        refine bodyPost_ret (by simp [results, Tryz.results27, go_sem, q0, q1, q2, q3, q4]; try rfl) rfl ?_
        refine ⟨(.slice ao L cp), ?_, ?_, ?_⟩
        · have hi := Ru.it_stop h.im s0 j F hle HR.out.go (.inr HjF.out)
          rw [him] at hi
          unfold runV
          rw [hi.1, hi.2, ← him, if_pos HE.out, ← HZ0.out]
        · have hi := Ru.it_stop h.im s0 j F hle HR.out.go (.inr HjF.out)
          rw [him] at hi
          rw [hi.1, ← him]
          exact (World.ownsRow.kept O5.out gP.out (.inr (fun e => by have := (World.ownsRow.lt O5.out _ e).1; omega))).mono (by have := Hb0.out; omega)
        · exact grown_two (grown_trans GW.out G5.out) gP.out (by have := Hb0.out; omega)
    · obtain ⟨ao, L, cp, rfl⟩ : ∃ ao L cp, tr = .slice ao L cp := by obtain ⟨ao, cp, e⟩ := ow.slice; exact ⟨ao, _, cp, e⟩
      have hE' : ((Ru.it h.im j s0).e == 0) = false := by simpa using he
      have c21 : wr.cell? ⟨h.B, 21, none⟩ = some (.int .i64 (Ru.it h.im j s0).e) := by rw [← e1]; exact x.c21
      have c22 : wr.cell? ⟨h.B, 22, none⟩ = some (.int .i64 (Ru.it h.im j s0).n) := by rw [← e2]; exact x.c22
      have HIW : Hid (IsWn wr (K + 1) K (.slice ao L cp) j) := iw
      have HOW : Hid (OwnW wr (K + 2) (.slice ao L cp) (Ru.it h.im j s0).out) := ow
      have HE : Hid (¬ (Ru.it h.im j s0).e = 0) := he
      have hBK := HA.out.b
      clear x iw ow e1 e2 e3
      obtain ⟨E, hE⟩ : ∃ E : Int, E = (Ru.it h.im j s0).e := ⟨_, rfl⟩
      rw [← hE] at c21 hE'
      obtain ⟨Z, hZ0⟩ : ∃ Z : Int, Z = (Ru.it h.im j s0).n := ⟨_, rfl⟩
      rw [← hZ0] at c22
      have HE0 : Hid (E = (Ru.it h.im j s0).e) := hE
      have HZ0 : Hid (Z = (Ru.it h.im j s0).n) := hZ0
      clear hE hZ0 he
      · have D8 : Hid (W8 wr (K + 1) (.slice ao L cp) 0 0 j) := W8.of HIW.out
        have A8 := D8.out.set5 E
        have B8 := A8.set6 Z
        have gS5 := grown_setCell wr (K + 1) 5 (.int .i64 E)
        have gS6 := grown_setCell (wr.setCell ⟨K + 1, 5, none⟩ (.int .i64 E)) (K + 1) 6 (.int .i64 Z)
        have f21 := gS6.cell (gS5.cell c21 (by simp; omega)) (by simp; omega)
        have hZ := rowIs_grown RZ.out HR.out.g
        have z5 := hZ.setOther (a := ⟨K + 1, 5, none⟩) (by simp; omega) (.int .i64 E)
        have z6 := z5.setOther (a := ⟨K + 1, 6, none⟩) (by simp; omega) (.int .i64 Z)
        have a5 := D8.out.c5
        have a6 := D8.out.c6
        have az5 := D8.out.fz 5
        have az6 := D8.out.fz 6
        go_wp2_with fail
        go_region
        have D4 : Hid (W8 ((wr.setCell ⟨K + 1, 5, none⟩ (.int .i64 E)).setCell ⟨K + 1, 6, none⟩ (.int .i64 Z)).drew (K + 1) (.slice ao L cp) E Z j) := ⟨B8.c3, B8.c4, B8.c5, B8.c6, B8.c7, B8.fz⟩
        have f4 : ((wr.setCell ⟨K + 1, 5, none⟩ (.int .i64 E)).setCell ⟨K + 1, 6, none⟩ (.int .i64 Z)).drew.cell? ⟨h.B, 21, none⟩ = some (.int .i64 E) := f21
        have Z4 : Hid (((wr.setCell ⟨K + 1, 5, none⟩ (.int .i64 E)).setCell ⟨K + 1, 6, none⟩ (.int .i64 Z)).drew.rowIs (b0 + 1) 38 5 (row5 (.slice none 0 0) (.slice none 0 0) (.int .i64 0) (.int .i64 0) (.int .i64 0))) := z6
        have O4 : Hid (OwnW ((wr.setCell ⟨K + 1, 5, none⟩ (.int .i64 E)).setCell ⟨K + 1, 6, none⟩ (.int .i64 Z)).drew (K + 2) (.slice ao L cp) (Ru.it h.im j s0).out) := (HOW.out.set (k := 5) (by omega)).set (k := 6) (by omega)
        have G4 : Hid (W0.grownBy ((wr.setCell ⟨K + 1, 5, none⟩ (.int .i64 E)).setCell ⟨K + 1, 6, none⟩ (.int .i64 Z)).drew none) := grown_drew (grown_two (grown_two HR.out.g gS5 (by omega)) gS6 (by omega))
        clear c21 c22 cN c7 a5 a6 az5 az6 f21 z5 z6 A8 B8 hZ gS5 gS6
        generalize ((wr.setCell ⟨K + 1, 5, none⟩ (.int .i64 E)).setCell ⟨K + 1, 6, none⟩ (.int .i64 Z)).drew = W4 at *
        have Z5 := Z4
        obtain ⟨z0, z1, z2, z3, z4, zz⟩ := rowIs_five Z4.out
        obtain ⟨v3, v4, v5, v6, v7, vz⟩ := D4.out
        go_wp2
        change bodyPost _ _ _ _ _ (put5 W4 (b0 + 1) (.slice ao L cp) (.slice none 0 0) (.int .i64 E) (.int .i64 Z) (.int .i64 j))
        have gP : Hid (W4.grownBy (put5 W4 (b0 + 1) (.slice ao L cp) (.slice none 0 0) (.int .i64 E) (.int .i64 Z) (.int .i64 j)) (some (b0 + 1))) := grown_put5 _ _ _ _ _ _ _
        have hR := rowIs_five (row5_put Z5.out (.slice ao L cp) (.slice none 0 0) (.int .i64 E) (.int .i64 Z) (.int .i64 j))
        generalize put5 W4 (b0 + 1) (.slice ao L cp) (.slice none 0 0) (.int .i64 E) (.int .i64 Z) (.int .i64 j) = W6 at *
        obtain ⟨q0, q1, q2, q3, q4, qz⟩ := hR
        refine bodyPost_ret (by simp [results, Tryz.results27, go_sem, q0, q1, q2, q3, q4]; try rfl) rfl ?_
        refine ⟨(.slice ao L cp), ?_, ?_, ?_⟩
        · have hi := Ru.it_stop h.im s0 j F hle HR.out.go (.inl HE.out)
          rw [him] at hi
          unfold runV
          rw [hi.1, hi.2, ← him, if_neg HE.out, ← HZ0.out, ← HE0.out]
        · have hi := Ru.it_stop h.im s0 j F hle HR.out.go (.inl HE.out)
          rw [him] at hi
          rw [hi.1, ← him]
          exact (World.ownsRow.kept O4.out gP.out (.inr (fun e => by have := (World.ownsRow.lt O4.out _ e).1; omega))).mono (by have := Hb0.out; omega)
        · exact grown_two (grown_trans GW.out G4.out) gP.out (by have := Hb0.out; omega)
end Go.Proofs.YtdklaeppcjopoaaGreatDoor
