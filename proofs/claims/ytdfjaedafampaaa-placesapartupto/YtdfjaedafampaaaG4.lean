/- Contracts and plain facts that the walks share. -/
import Derived.Test.YtdfjaedafampaaaTyFind
import Derived.Laws.EntriesVeiled
namespace Go.Proofs.Ytdfjaedafampaaa
open Go.RowKit
set_option linter.unusedVariables false
/-- a world in which the asker has gone on out of W -/
structure Kw (N : Nat) (T : Nat → Ty.TyV) (n : Nat) (a : Option Addr) (c bf bt ba F : Nat) (W : World) where
  w : World
  hA : Ak N w T n a c bf bt ba F
  hC : Ch W w [F]
theorem Kw.call {P : Program} {f : FuncId} {args : Array Value} {N : Nat} {T : Nat → Ty.TyV} {n : Nat} {a : Option Addr} {c bf bt ba F : Nat} {W : World} {x : Kw N T n a c bf bt ba F W} {v : Value}
    (h : Calls P f args x.w fun e w' => e = .returned v ∧ Ak N w' T n a c bf bt ba F ∧ Ch x.w w' [F]) : Calls P f args x.w fun e w'' => e = .returned v ∧ ∃ y : Kw N T n a c bf bt ba F W, w'' = y.w :=
  h.mono fun _ w'' ⟨he, hA, hg⟩ => ⟨he, ⟨w'', hA, x.hC.trans hg⟩, rfl⟩
/-- four cells laid -/
def put4 (w : World) (F o : Nat) (l : Ty.Li) : World := (((w.setCell ⟨F, o, none⟩ (.int .i64 l.size)).setCell ⟨F, o + 1, none⟩ (.int .i64 l.align)).setCell ⟨F, o + 2, none⟩ (.int .i64 l.words)).setCell ⟨F, o + 3, none⟩ (.bool l.arr)
theorem put4_same {w : World} {F o : Nat} {l l0 : Ty.Li} (h : LiAt w F o l0) : LiAt (put4 w F o l) F o l := by
  have a0 : (w.setCell ⟨F, o, none⟩ (.int .i64 l.size)).cell? ⟨F, o, none⟩ = some (.int .i64 l.size) := World.cell?_setCell_same _ _ _ h.c0
  have a1 : ((w.setCell ⟨F, o, none⟩ (.int .i64 l.size)).setCell ⟨F, o + 1, none⟩ (.int .i64 l.align)).cell? ⟨F, o + 1, none⟩ = some (.int .i64 l.align) := World.cell?_setCell_same _ _ _ ((World.cell?_setCell_other _ _ _ _ (by simp)).trans h.c1)
  have a2 : (((w.setCell ⟨F, o, none⟩ (.int .i64 l.size)).setCell ⟨F, o + 1, none⟩ (.int .i64 l.align)).setCell ⟨F, o + 2, none⟩ (.int .i64 l.words)).cell? ⟨F, o + 2, none⟩ = some (.int .i64 l.words) :=
    World.cell?_setCell_same _ _ _ (((World.cell?_setCell_other _ _ _ _ (by simp)).trans (World.cell?_setCell_other _ _ _ _ (by simp))).trans h.c2)
  refine ⟨?_, ?_, ?_, ?_⟩
  · exact (World.cell?_setCell_other _ _ _ _ (by simp)).trans ((World.cell?_setCell_other _ _ _ _ (by simp)).trans ((World.cell?_setCell_other _ _ _ _ (by simp)).trans a0))
  · exact (World.cell?_setCell_other _ _ _ _ (by simp)).trans ((World.cell?_setCell_other _ _ _ _ (by simp)).trans a1)
  · exact (World.cell?_setCell_other _ _ _ _ (by simp)).trans a2
  · exact World.cell?_setCell_same _ _ _ (((World.cell?_setCell_other _ _ _ _ (by simp)).trans ((World.cell?_setCell_other _ _ _ _ (by simp)).trans (World.cell?_setCell_other _ _ _ _ (by simp)))).trans h.c3)
theorem put4_far {w : World} {F o : Nat} {l : Ty.Li} {q : Nat} (h : q < o ∨ o + 4 ≤ q) : (put4 w F o l).cell? ⟨F, q, none⟩ = w.cell? ⟨F, q, none⟩ := by
  have e : ∀ d, d < 4 → (⟨F, o + d, none⟩ : Addr) ≠ ⟨F, q, none⟩ := fun d hd he => by injection he with h1 h2; omega
  unfold put4
  rw [World.cell?_setCell_other _ _ _ _ (e 3 (by omega)), World.cell?_setCell_other _ _ _ _ (e 2 (by omega)), World.cell?_setCell_other _ _ _ _ (e 1 (by omega)), World.cell?_setCell_other _ _ _ _ (show (⟨F, o, none⟩ : Addr) ≠ ⟨F, q, none⟩ from e 0 (by omega))]
theorem put4_grown (w : World) (F o : Nat) (l : Ty.Li) : w.grownBy (put4 w F o l) (some F) :=
  grown_trans (grown_trans (grown_trans (grown_set _ _ _ _) (grown_set _ _ _ _)) (grown_set _ _ _ _)) (grown_set _ _ _ _)
theorem Ak.put {N : Nat} {w : World} {T : Nat → Ty.TyV} {n : Nat} {a : Option Addr} {c bf bt ba F : Nat} (h : Ak N w T n a c bf bt ba F) {k : Nat} (hk : k < n) : Ak N (put4 w F (k * 4) (Ty.lie T k)) T n a c bf bt ba F := by
  have hg : Ch w (put4 w F (k * 4) (Ty.lie T k)) [F] := Ch.one (put4_grown _ _ _ _) (by simp)
  refine ⟨hg.cell h.cf (by simp; exact fun e => h.n1 e.symm), hg.cell h.ct (by simp; exact fun e => h.n2 e.symm), hg.cell h.ca (by simp; exact fun e => h.n3 e.symm), fun q => ?_, Nat.lt_of_lt_of_le h.lt hg.size, fun i hi => ?_, h.ty.ch hg (by simp; exact h.nF), h.nF, h.n1, h.n2, h.n3⟩
  · unfold put4
    simp only [World.frozen?_setCell]
    exact h.fz q
  · by_cases e : i = k
    · subst e
      obtain ⟨l0, hl, _⟩ := h.lie i hi
      exact ⟨_, put4_same hl, .inr rfl⟩
    · obtain ⟨l0, hl, e0⟩ := h.lie i hi
      exact ⟨l0, ⟨(put4_far (by omega)).trans hl.c0, (put4_far (by omega)).trans hl.c1, (put4_far (by omega)).trans hl.c2, (put4_far (by omega)).trans hl.c3⟩, e0⟩
set_option maxRecDepth 100000 in
set_option maxHeartbeats 4000000 in
/-- one more -/
theorem ask_step {N : Nat} {T : Nat → Ty.TyV} {n : Nat} {a : Option Addr} {c bf bt ba F K : Nat} (hO : AskOk N T n a c bf bt ba F K) (hK : Ty.Fine T n K) (hn : K < n) (hok : Ty.okB (T K) K n = true) : AskOk N T n a c bf bt ba F (K + 1) := by
  intro j hj
  by_cases hjK : j < K
  · exact hO j hjK
  obtain rfl : j = K := by omega
  clear hj hjK
  intro w hA
  obtain ⟨hgd, _⟩ := hK.next hok
  obtain ⟨L, hL⟩ : ∃ L, L = Ty.lie T j := ⟨_, rfl⟩
  have hn' : (j : Int) < n := by omega
  have hFlt := hA.lt
  have HA : Hid (Ak N w T n a c bf bt ba F) := hA
  have cf := (hA.grow (World.grownBy_alloc w (.cells #[.int .i64 0, .int .i64 0, .int .i64 0, .bool false] 86) none)).cf
  have HN : Hid (N ≤ w.heap.size) := by have := hA.nF; show N ≤ _; omega
  obtain ⟨l, hl, hcase⟩ := hA.lie j hn
  rw [← hL] at hgd hcase ⊢
  by_cases h0 : l.align = 0
  · clear hcase
    have f1 := (hl.ch (l := []) (Ch.of (World.grownBy_alloc w (.cells #[.int .i64 0, .int .i64 0, .int .i64 0, .bool false] 86) none)) (by simp)).c1
    rw [h0] at f1
    obtain ⟨b, off, fa, fc, rfl, hb, hty⟩ := hA.ty.at hn
    have HO : Hid (∀ W, Ak N W T n (some ⟨b, off, none⟩) c bf bt ba F → NumIn N W fa (T j).nf fc (T j).F → Calls Try.prog 50 #[.agg #[.int .i64 (T j).kind, .int .i64 (T j).elem, .int .i64 (T j).n, .slice fa (T j).nf fc], .func (.func 49) #[] #[.pointer (some ⟨bf, 0, none⟩), .pointer (some ⟨bt, 0, none⟩), .pointer (some ⟨ba, 0, none⟩)]] W fun e w' =>
      e = .returned (.agg #[.int .i64 L.size, .int .i64 L.align, .int .i64 L.words, .bool L.arr]) ∧ Ak N w' T n (some ⟨b, off, none⟩) c bf bt ba F ∧ Ch W w' [F]) := fun W h1 h2 => by
        have := find_any h1 hO (by have := h1.nF; have := h1.lt; omega) hK h2 hok
        rw [← Ty.lie_eq hok, ← hL] at this
        exact this
    have HT : Hid (TyC N w b (off + j * 4) (T j) fa fc) := hty
    have HLL : Hid (L = Ty.lie T j) := hL
    generalize T j = x at *
    obtain ⟨W, hW⟩ : ∃ W, W = w.alloc (.cells #[.int .i64 0, .int .i64 0, .int .i64 0, .bool false] 86) := ⟨_, rfl⟩
    have HW : Hid (w.grownBy W none) := by show World.grownBy _ _ _; rw [hW]; exact World.grownBy_alloc _ _ _
    have HL2 : Hid (LiAt W w.heap.size 0 ⟨0, 0, 0, false⟩) := by rw [hW]; exact ⟨by simp, by simp, by simp, by simp⟩
    have HZ2 : Hid (∀ q, W.frozen? ⟨w.heap.size, q, none⟩ = false) := fun q => by rw [hW]; simp
    have HWW : Hid (W = w.alloc (.cells #[.int .i64 0, .int .i64 0, .int .i64 0, .bool false] 86)) := hW
    clear hA hO hK hok hL hty hgd hl hW
    go_enter Try.func49, Try.ntmps49
    go_wp2_with fail
    rw [← HWW.out]
    refine tail_class (fun w' => ∃ y : Kw N T n (some ⟨b, off, none⟩) c bf bt ba F W, w' = y.w) 9 (by kernel_rfl) (by kernel_rfl) ⟨⟨W.drew, (HA.out.grow HW.out).grow (grown_drew (World.grownBy.refl _ _)), Ch.of (grown_drew (World.grownBy.refl _ _))⟩, rfl⟩ ?_
    have ne : Nonempty (Kw N T n (some ⟨b, off, none⟩) c bf bt ba F W) := ⟨⟨W, HA.out.grow HW.out, Ch.refl _ _⟩⟩
    have d0 := fun y : Kw N T n (some ⟨b, off, none⟩) c bf bt ba F W => y.hA.cf
    have d1 := fun y : Kw N T n (some ⟨b, off, none⟩) c bf bt ba F W => y.hA.ct
    have d2 := fun y : Kw N T n (some ⟨b, off, none⟩) c bf bt ba F W => y.hA.ca
    have hty := fun y : Kw N T n (some ⟨b, off, none⟩) c bf bt ba F W => (HT.out.ch (l := []) (Ch.of HW.out) (by simp) (by simp)).ch y.hC (by simp; exact HA.out.nF) (by simp; have := HA.out.nF; omega)
    have HTY : Hid (∀ y : Kw N T n (some ⟨b, off, none⟩) c bf bt ba F W, TyC N y.w b (off + j * 4) x fa fc) := hty
    have e0 := fun y : Kw N T n (some ⟨b, off, none⟩) c bf bt ba F W => (HTY.out y).c0
    have e1 := fun y : Kw N T n (some ⟨b, off, none⟩) c bf bt ba F W => (HTY.out y).c1
    have e2 := fun y : Kw N T n (some ⟨b, off, none⟩) c bf bt ba F W => (HTY.out y).c2
    have e3 := fun y : Kw N T n (some ⟨b, off, none⟩) c bf bt ba F W => (HTY.out y).c3
    clear hty
    simp only [List.take_succ_cons, List.take_zero, List.drop_succ_cons, List.drop_zero]
    repeat (go_big_quiet_step (first | exact rfl | (go_at_call 50; exact Kw.call (HO.out _ (Kw.hA _) (HTY.out _).f))))
    refine wpQuiet_nil ?_
    rintro W5 ⟨y5, hy5⟩
    have hA5 : Ak N W5 T n (some ⟨b, off, none⟩) c bf bt ba F := by rw [hy5]; exact y5.hA
    have hC5 : Ch W W5 [F] := by rw [hy5]; exact y5.hC
    clear hy5 y5 d0 d1 d2 e0 e1 e2 e3 ne HTY
    have HA5 : Hid (Ak N W5 T n (some ⟨b, off, none⟩) c bf bt ba F) := hA5
    have HC5 : Hid (Ch W W5 [F]) := hC5
    have hBF : w.heap.size ∉ [F] := by simp; omega
    have hsW : W.heap.size = w.heap.size + 1 := by rw [HWW.out]; simp
    have hs5 := hC5.size
    have HL5 := HL2.out.ch hC5 hBF
    have HZ5 : ∀ q, W5.frozen? ⟨w.heap.size, q, none⟩ = false := fun q => frozen_ch hC5 (by omega) hBF (HZ2.out q)
    obtain ⟨l5, hl5, _⟩ := hA5.lie j hn
    have g0 := hl5.c0
    have g1 := hl5.c1
    have g2 := hl5.c2
    have g3 := hl5.c3
    have y0 := hA5.fz (j * 4)
    have y1 := hA5.fz (j * 4 + 1)
    have y2 := hA5.fz (j * 4 + 2)
    have y3 := hA5.fz (j * 4 + 3)
    obtain ⟨W6, hW6⟩ : ∃ W6, W6 = put4 W5 F (j * 4) L := ⟨_, rfl⟩
    have hA6 : Ak N W6 T n (some ⟨b, off, none⟩) c bf bt ba F := by rw [hW6, HLL.out]; exact hA5.put hn
    have hl6 : LiAt W6 F (j * 4) L := by rw [hW6]; exact put4_same hl5
    have hC6 : Ch W5 W6 [F] := by rw [hW6]; exact Ch.one (put4_grown _ _ _ _) (by simp)
    have HA6 : Hid (Ak N W6 T n (some ⟨b, off, none⟩) c bf bt ba F) := hA6
    have HC6 : Hid (Ch W5 W6 [F]) := hC6
    have HL6 := HL5.ch hC6 hBF
    have HZ6 : ∀ q, W6.frozen? ⟨w.heap.size, q, none⟩ = false := fun q => frozen_ch hC6 (by omega) hBF (HZ5 q)
    have q0 := hl6.c0
    have q1 := hl6.c1
    have q2 := hl6.c2
    have q3 := hl6.c3
    have q4 := hA6.cf
    have r0 := HL6.c0
    have r1 := HL6.c1
    have r2 := HL6.c2
    have r3 := HL6.c3
    have t0 := HZ6 0
    have t1 := HZ6 1
    have t2 := HZ6 2
    have t3 := HZ6 3
    have HW6 : Hid (W6 = put4 W5 F (j * 4) L) := hW6
    unfold put4 at hW6
    rw [hW6] at q0 q1 q2 q3 q4 r0 r1 r2 r3 t0 t1 t2 t3
    clear hl6 hA6 hC6 HL6 HZ6 hl5 hA5 hC5 HL5 HZ5 hW6
    go_wp2
    refine bodyPost_ret (by simp [results, Try.results49, go_sem, r0, r1, r2, r3]; try rfl) rfl ?_
    have e6 := HW6.out
    unfold put4 at e6
    rw [← e6]
    refine ⟨rfl, ?_, ?_⟩
    · exact ((((HA6.out.new HA.out HN.out (Nat.le_refl _) (grown_set _ _ _ _)).new HA.out HN.out (Nat.le_refl _) (grown_set _ _ _ _)).new HA.out HN.out (Nat.le_refl _) (grown_set _ _ _ _)).new HA.out HN.out (Nat.le_refl _) (grown_set _ _ _ _))
    · exact (((((((Ch.of HW.out).trans HC5.out).trans HC6.out).new (Nat.le_refl _) (grown_set _ _ _ _)).new (Nat.le_refl _) (grown_set _ _ _ _)).new (Nat.le_refl _) (grown_set _ _ _ _)).new (Nat.le_refl _) (grown_set _ _ _ _))
  · have e : l = L := by
      rcases hcase with h | h
      · exact absurd h h0
      · exact h
    subst e
    have hal := hgd.al.pos
    have g := hl.ch (l := []) (Ch.of (World.grownBy_alloc w (.cells #[.int .i64 0, .int .i64 0, .int .i64 0, .bool false] 86) none)) (by simp)
    have g0 := g.c0
    have g1 := g.c1
    have g2 := g.c2
    have g3 := g.c3
    have h0' : (l.align == 0) = false := by simpa using h0
    clear hO hK hok hL hgd hl hcase hA g
    go_enter Try.func49, Try.ntmps49
    go_wp2
    refine bodyPost_ret (by simp [results, Try.results49, go_sem]; try rfl) rfl ?_
    refine ⟨rfl, ?_, ?_⟩
    · exact HA.out.grow (World.grownBy_alloc _ _ _)
    · exact Ch.of (World.grownBy_alloc _ _ _)
namespace Ty
def tabB (T : Nat → TyV) (n : Nat) : Bool := decide (n ≤ 64) && (List.range n).all fun i => okB (T i) i n
theorem tabB_iff {T : Nat → TyV} {n : Nat} : tabB T n = true ↔ n ≤ 64 ∧ ∀ i, i < n → okB (T i) i n = true := by
  unfold tabB
  simp only [Bool.and_eq_true, decide_eq_true_eq, List.all_eq_true, List.mem_range]
/-- a table's error, or 0 -/
def chk (T : Nat → TyV) (n : Nat) : Int := if tabB T n = true then (if ∀ i, i < n → (lie T i).size ≤ 65536 then 0 else 71) else 70
theorem chk_form {T : Nat → TyV} {n : Nat} (h : tabB T n = false) : chk T n = 70 := by unfold chk; rw [if_neg (by simp [h])]
theorem chk_ok {T : Nat → TyV} {n : Nat} (h : chk T n = 0) : n ≤ 64 ∧ Fine T n n := by
  unfold chk at h
  split at h
  · rename_i ht
    split at h
    · rename_i hs
      exact ⟨(tabB_iff.1 ht).1, fun j hj => ⟨(tabB_iff.1 ht).2 j hj, hs j hj⟩⟩
    · omega
  · omega
theorem least_large {T : Nat → TyV} : ∀ {n : Nat}, ¬ (∀ i, i < n → (lie T i).size ≤ 65536) → ∃ p, p < n ∧ 65536 < (lie T p).size ∧ ∀ j, j < p → (lie T j).size ≤ 65536
  | 0, h => absurd (fun i hi => by omega) h
  | n + 1, h => by
    by_cases h1 : ∀ i, i < n → (lie T i).size ≤ 65536
    · by_cases h2 : (lie T n).size ≤ 65536
      · exact absurd (fun i hi => by by_cases e : i = n; (subst e; exact h2); exact h1 i (by omega)) h
      · exact ⟨n, by omega, by omega, h1⟩
    · obtain ⟨p, a, b, c⟩ := least_large h1
      exact ⟨p, by omega, b, c⟩
theorem chk_large {T : Nat → TyV} {n : Nat} (h : tabB T n = true) (h0 : chk T n ≠ 0) : chk T n = 71 ∧ ∃ p, p < n ∧ 65536 < (lie T p).size ∧ Fine T n p := by
  unfold chk at *
  rw [if_pos h] at *
  by_cases h1 : ∀ i, i < n → (lie T i).size ≤ 65536
  · rw [if_pos h1] at h0; exact absurd rfl h0
  · rw [if_neg h1]
    obtain ⟨p, a, b, c⟩ := least_large h1
    exact ⟨rfl, p, a, b, fun j hj => ⟨(tabB_iff.1 h).2 j (by omega), c j hj⟩⟩
end Ty
theorem info_li : (Try.prog.info? 86).map (fun i => (i.zero, i.size, i.bytes)) = some (some (.agg #[.int .i64 0, .int .i64 0, .int .i64 0, .bool false]), 4, 32) := by kernel_rfl
theorem run_make_li (w : World) (n : Nat) (hn : n ≤ 64) : ∃ w1, (Instr.makeSlice 94 (.int .i64 n) (.int .i64 n)).run Try.prog w = .ok (.slice (some ⟨w.heap.size, 0, none⟩) n n) w1 ∧ (∀ i, i < n → LiAt w1 w.heap.size (i * 4) Ty.li0) ∧ (∀ q, w1.frozen? ⟨w.heap.size, q, none⟩ = false) ∧ w1.heap.size = w.heap.size + 1 ∧ w.grownBy w1 none := by
  obtain ⟨i, hi, hz0, hz1, hz2⟩ := info_parts info_li
  have := run_make (P := Try.prog) w 94 86 i (.agg #[.int .i64 0, .int .i64 0, .int .i64 0, .bool false]) Try.underlying94 hi hz0 .i64 .i64 n n (by omega) (by omega) (by rw [hz2]; omega) (by omega)
  rw [hz1] at this
  simp only [Int.toNat_natCast] at this
  refine ⟨_, this, ?_, fun q => by simp, by simp, World.grownBy_alloc _ _ _⟩
  have hcell : ∀ q, q < n * 4 → (w.alloc (.cells (madeCells (Value.agg #[.int .i64 0, .int .i64 0, .int .i64 0, .bool false]).cells (n * 4)) 86)).cell? ⟨w.heap.size, q, none⟩ = some (#[Value.int .i64 0, .int .i64 0, .int .i64 0, .bool false].getD (q % 4) undef) := by
    intro q hq
    rw [World.cell?_alloc_new]
    simp [madeCells, Value.cells, hq]
    have h4 : q % 4 = 0 ∨ q % 4 = 1 ∨ q % 4 = 2 ∨ q % 4 = 3 := by omega
    rcases h4 with h | h | h | h <;> simp [h]
  intro k hk
  exact ⟨by rw [hcell _ (by omega)]; simp [Ty.li0], by rw [hcell _ (by omega)]; simp [Ty.li0], by rw [hcell _ (by omega)]; simp [Ty.li0], by rw [hcell _ (by omega)]; simp [Ty.li0]⟩
set_option maxRecDepth 100000 in
set_option maxHeartbeats 4000000 in
theorem newAsker_any {N : Nat} {w : World} {T : Nat → Ty.TyV} {n : Nat} {a : Option Addr} {c : Nat} (h : TysIn N w a n c T) (hN : N ≤ w.heap.size) (hn : n ≤ 64) :
    Calls Try.prog 38 #[.slice a n c] w fun e w' => ∃ bf bt ba F, e = .returned (.func (.func 49) #[] #[.pointer (some ⟨bf, 0, none⟩), .pointer (some ⟨bt, 0, none⟩), .pointer (some ⟨ba, 0, none⟩)]) ∧
      Ak N w' T n a c bf bt ba F ∧ w.heap.size ≤ F ∧ w.grownBy w' none := by
  have hmx := h.max
  have hle := h.le
  unfold maxLen at hmx
  have hn' : (n : Int) ≤ 64 := by omega
  obtain ⟨W2, hW2⟩ : ∃ W2, W2 = (w.alloc (.cells #[.slice a n c] 23)).alloc (.cells #[.nilFunc] 65) := ⟨_, rfl⟩
  have hg2 : w.grownBy W2 none := by rw [hW2]; exact ga (World.grownBy_alloc _ _ _) _
  have hs2 : W2.heap.size = w.heap.size + 2 := by rw [hW2]; simp
  have k0 : W2.cell? ⟨w.heap.size, 0, none⟩ = some (.slice a n c) := by rw [hW2]; simp
  have k1 : W2.cell? ⟨w.heap.size + 1, 0, none⟩ = some .nilFunc := by rw [hW2]; simp
  have z1 : W2.frozen? ⟨w.heap.size + 1, 0, none⟩ = false := by rw [hW2]; simp
  obtain ⟨w1, hmk, hli, hfz, hs1, hg1⟩ := run_make_li W2 n hn
  have j0 := (Ch.of (l := []) hg1).cell k0 (by simp)
  have j1 := (Ch.of (l := []) hg1).cell k1 (by simp)
  have y1 := frozen_ch (l := []) (Ch.of hg1) (by omega) (by simp) z1
  obtain ⟨B, hB⟩ : ∃ B, B = W2.heap.size := ⟨_, rfl⟩
  rw [← hB] at hmk hli hfz hs1 hs2
  rw [hW2] at hmk
  have HL : Hid (∀ i, i < n → LiAt w1 B (i * 4) Ty.li0) := hli
  have HZ : Hid (∀ q, w1.frozen? ⟨B, q, none⟩ = false) := hfz
  have HG : Hid (w.grownBy w1 none) := grown_trans hg2 hg1
  have HT : Hid (TysIn N w a n c T) := h
  have HN : Hid (N ≤ w.heap.size) := hN
  have HS : Hid (B = w.heap.size + 2 ∧ w1.heap.size = w.heap.size + 3) := ⟨hs2, by omega⟩
  have j0' := (Ch.of (l := []) (World.grownBy_alloc w1 (.cells #[.slice (some ⟨B, 0, none⟩) n n] 94) none)).cell j0 (by simp)
  have j1' := (Ch.of (l := []) (World.grownBy_alloc w1 (.cells #[.slice (some ⟨B, 0, none⟩) n n] 94) none)).cell j1 (by simp)
  have y1' := frozen_ch (l := []) (Ch.of (World.grownBy_alloc w1 (.cells #[.slice (some ⟨B, 0, none⟩) n n] 94) none)) (by omega) (by simp) y1
  clear h hli hfz hg2 hg1 hW2 hs2 hs1 hB k0 k1 z1
  go_enter Try.func38, Try.ntmps38
  go_wp2
  refine bodyPost_ret (by simp [results, Try.results38, go_sem, j1']; try rfl) rfl ?_
  have hS := HS.out
  have hg : w.grownBy (w1.alloc (.cells #[.slice (some ⟨B, 0, none⟩) n n] 94)) none := ga HG.out _
  have hg4 := gs (gs hg (b := w.heap.size + 1) 0 (.func (.func 49) #[] #[.pointer (some ⟨w1.heap.size, 0, none⟩), .pointer (some ⟨w.heap.size, 0, none⟩), .pointer (some ⟨w.heap.size + 1, 0, none⟩)]) (by omega)) (b := w.heap.size + 1) 0 (.func (.func 49) #[] #[.pointer (some ⟨w1.heap.size, 0, none⟩), .pointer (some ⟨w.heap.size, 0, none⟩), .pointer (some ⟨w.heap.size + 1, 0, none⟩)]) (by omega)
  have hc4 : Ch w1 (((w1.alloc (.cells #[.slice (some ⟨B, 0, none⟩) n n] 94)).setCell ⟨w.heap.size + 1, 0, none⟩ (.func (.func 49) #[] #[.pointer (some ⟨w1.heap.size, 0, none⟩), .pointer (some ⟨w.heap.size, 0, none⟩), .pointer (some ⟨w.heap.size + 1, 0, none⟩)])).setCell ⟨w.heap.size + 1, 0, none⟩ (.func (.func 49) #[] #[.pointer (some ⟨w1.heap.size, 0, none⟩), .pointer (some ⟨w.heap.size, 0, none⟩), .pointer (some ⟨w.heap.size + 1, 0, none⟩)])) [w.heap.size + 1] :=
    ((Ch.of (World.grownBy_alloc _ _ _)).trans (Ch.one (grown_set _ _ _ _) (by simp))).trans (Ch.one (grown_set _ _ _ _) (by simp))
  have hc5 : Ch (w1.alloc (.cells #[.slice (some ⟨B, 0, none⟩) n n] 94)) (((w1.alloc (.cells #[.slice (some ⟨B, 0, none⟩) n n] 94)).setCell ⟨w.heap.size + 1, 0, none⟩ (.func (.func 49) #[] #[.pointer (some ⟨w1.heap.size, 0, none⟩), .pointer (some ⟨w.heap.size, 0, none⟩), .pointer (some ⟨w.heap.size + 1, 0, none⟩)])).setCell ⟨w.heap.size + 1, 0, none⟩ (.func (.func 49) #[] #[.pointer (some ⟨w1.heap.size, 0, none⟩), .pointer (some ⟨w.heap.size, 0, none⟩), .pointer (some ⟨w.heap.size + 1, 0, none⟩)])) [w.heap.size + 1] :=
    (Ch.one (grown_set _ _ _ _) (by simp)).trans (Ch.one (grown_set _ _ _ _) (by simp))
  have hN := HN.out
  refine ⟨_, _, _, B, rfl, ⟨?_, ?_, ?_, ?_, ?_, ?_, ?_, ?_, ?_, ?_, ?_⟩, by omega, hg4⟩
  · exact hc5.cell (by simp) (by simp; omega)
  · exact hc4.cell j0 (by simp)
  · exact World.cell?_setCell_same _ _ _ (World.cell?_setCell_same _ _ _ j1')
  · exact fun q => frozen_ch hc4 (by omega) (by simp; omega) (HZ.out q)
  · have := hc4.size; omega
  · exact fun i hi => ⟨Ty.li0, (HL.out i hi).ch hc4 (by simp; omega), .inl rfl⟩
  · exact HT.out.ch (l := []) (Ch.of hg4) (by simp)
  · omega
  · omega
  · omega
  · omega
set_option maxRecDepth 100000 in
set_option maxHeartbeats 4000000 in
theorem isTable_any {N : Nat} {w : World} {T : Nat → Ty.TyV} {n : Nat} {a : Option Addr} {c : Nat} (h : TysIn N w a n c T) (hN : N ≤ w.heap.size) :
    Calls Try.prog 37 #[.slice a n c] w fun e w' => e = .returned (.bool (Ty.tabB T n)) ∧ w.grownBy w' none := by
  have hmx := h.max
  have hle := h.le
  unfold maxLen at hmx
  by_cases h64 : n ≤ 64
  · have h64' : (n : Int) ≤ 64 := by omega
    have HT : Hid (TysIn N w a n c T) := h
    obtain ⟨R, hR⟩ : ∃ R, R = Ty.tabB T n := ⟨_, rfl⟩
    rw [← hR]
    have HR : Hid (R = Ty.tabB T n) := hR
    clear hR h
    go_enter Try.func37, Try.ntmps37
    go_wp2_with fail
    go_loopw [10] (fun ix wr => ∃ k : Nat, ix = .int .i64 k ∧ k ≤ n ∧ (∀ j, j < k → Ty.okB (T j) j n = true) ∧ w.grownBy wr none) (fun ix _ => n - (intOf ix).toNat)
    case atStart => exact ⟨0, rfl, Nat.zero_le _, fun j hj => by omega, World.grownBy.refl _ _⟩
    case round =>
      obtain ⟨k, rfl, hk, hj, hg⟩ := hrel
      have HJ : Hid (∀ j, j < k → Ty.okB (T j) j n = true) := hj
      have HG : Hid (w.grownBy wr none) := hg
      clear hj hg
      by_cases hkn : k < n
      · have hkn' : (k : Int) < n := by omega
        obtain ⟨b, off, fa, fc, rfl, hb, hc⟩ := (HT.out.ch (l := []) (Ch.of HG.out) (by simp)).at hkn
        have c0 := hc.c0
        have c1 := hc.c1
        have c2 := hc.c2
        have c3 := hc.c3
        have HC : Hid (∀ W, wr.grownBy W none → Calls Try.prog 48 #[.agg #[.int .i64 (T k).kind, .int .i64 (T k).elem, .int .i64 (T k).n, .slice fa (T k).nf fc], .int .i64 k, .int .i64 n] W fun e w' => e = .returned (.bool (Ty.okB (T k) k n)) ∧ W.grownBy w' none) := fun W hW => entry_any (hc.f.ch (l := []) (Ch.of hW) (by simp)) k n
        clear hc
        have HX : Hid (wr.grownBy (wr.alloc (.cells #[.int .i64 (T k).kind, .int .i64 (T k).elem, .int .i64 (T k).n, .slice fa (T k).nf fc] 50)) none) := World.grownBy_alloc _ _ _
        cases hm : Ty.okB (T k) k n
        · have e : R = false := by
            rw [HR.out]
            cases hh : Ty.tabB T n
            · rfl
            · rw [(Ty.tabB_iff.1 hh).2 k hkn] at hm; cases hm
          rw [hm] at HC
          generalize T k = x at *
          go_wp2_with (go_at_call 48; refine (HC.out _ HX.out).mono ?_; rintro e w3 ⟨rfl, hg3⟩)
          go_ret
          exact ⟨by rw [e]; rfl, grown_trans (grown_trans HG.out HX.out) hg3⟩
        · have HJ2 : Hid (∀ j, j < k + 1 → Ty.okB (T j) j n = true) := fun j hj' => by
            by_cases e : j = k
            · subst e; exact hm
            · exact HJ.out j (by omega)
          rw [hm] at HC
          clear hm
          generalize T k = x at c0 c1 c2 c3 HC HX
          go_wp2_with (go_at_call 48; refine (HC.out _ HX.out).mono ?_; rintro e w3 ⟨rfl, hg3⟩)
          go_roundw
          case rel => exact ⟨k + 1, by go_num, by omega, HJ2.out, grown_trans (grown_trans HG.out HX.out) hg3⟩
          case measure => simp [intOf]; omega
      · obtain rfl : k = n := by omega
        have e : R = true := HR.out.trans (Ty.tabB_iff.2 ⟨h64, HJ.out⟩)
        go_wp2
        go_ret
        exact ⟨by rw [e]; rfl, HG.out⟩
  · have h64' : (64 : Int) < n := by omega
    have e : Ty.tabB T n = false := by
      cases hh : Ty.tabB T n
      · rfl
      · have := (Ty.tabB_iff.1 hh).1; omega
    rw [e]
    clear e h
    go_enter Try.func37, Try.ntmps37
    go_wp2
    go_ret
    exact ⟨rfl, World.grownBy.refl _ _⟩
theorem ask_all {N : Nat} {T : Nat → Ty.TyV} {n : Nat} {a : Option Addr} {c bf bt ba F : Nat} : ∀ {K : Nat}, Ty.Fine T n K → K ≤ n → AskOk N T n a c bf bt ba F K
  | 0, _, _ => fun j hj => by omega
  | K + 1, hK, hn => ask_step (ask_all (hK.mono (by omega)) (by omega)) (hK.mono (by omega)) (by omega) (hK K (by omega)).1
theorem Ak.up {N M : Nat} {w : World} {T : Nat → Ty.TyV} {n : Nat} {a : Option Addr} {c bf bt ba F : Nat} (h : Ak N w T n a c bf bt ba F) (hM : N ≤ M) (hF : M ≤ F) : Ak M w T n a c bf bt ba F :=
  ⟨h.cf, h.ct, h.ca, h.fz, h.lt, h.lie, h.ty.up hM, hF, h.n1, h.n2, h.n3⟩
theorem Ch.fresh {w w1 w2 : World} {F : Nat} (h1 : w.grownBy w1 none) (hF : w.heap.size ≤ F) (h2 : Ch w1 w2 [F]) : w.grownBy w2 none :=
  ((Ch.of (l := [F]) h1).trans h2).nil (by simp; exact hF)
set_option maxRecDepth 100000 in
set_option maxHeartbeats 4000000 in
theorem takeTable_form {N : Nat} {w : World} {T : Nat → Ty.TyV} {n : Nat} {a : Option Addr} {c : Nat} (h : TysIn N w a n c T) (hN : N ≤ w.heap.size) (ht : Ty.tabB T n = false) :
    Calls Try.prog 28 #[.slice a n c] w fun e w' => e = .returned (.tuple #[.nilFunc, .int .i64 70]) ∧ w.grownBy w' none := by
  have HC : Hid (Calls Try.prog 37 #[.slice a n c] w fun e w' => e = .returned (.bool false) ∧ w.grownBy w' none) := by rw [← ht]; exact isTable_any h hN
  clear h ht
  go_enter Try.func28, Try.ntmps28
  go_wp2_with (go_at_call 37; refine HC.out.mono ?_; rintro e w3 ⟨rfl, hg3⟩)
  go_ret2
  exact ⟨rfl, hg3⟩
set_option maxRecDepth 100000 in
set_option maxHeartbeats 4000000 in
theorem takeTable_large {N : Nat} {w : World} {T : Nat → Ty.TyV} {n : Nat} {a : Option Addr} {c : Nat} (h : TysIn N w a n c T) (hN : N ≤ w.heap.size) (ht : Ty.tabB T n = true) {p : Nat} (hp : p < n) (hl : 65536 < (Ty.lie T p).size) (hf : Ty.Fine T n p) :
    Calls Try.prog 28 #[.slice a n c] w fun e w' => e = .returned (.tuple #[.nilFunc, .int .i64 71]) ∧ w.grownBy w' none := by
  have hmx := h.max
  have hle := h.le
  unfold maxLen at hmx
  have h64 := (Ty.tabB_iff.1 ht).1
  have HC : Hid (Calls Try.prog 37 #[.slice a n c] w fun e w' => e = .returned (.bool true) ∧ w.grownBy w' none) := by rw [← ht]; exact isTable_any h hN
  have HA : Hid (∀ W, w.grownBy W none → Calls Try.prog 38 #[.slice a n c] W fun e w' => ∃ bf bt ba F, e = .returned (.func (.func 49) #[] #[.pointer (some ⟨bf, 0, none⟩), .pointer (some ⟨bt, 0, none⟩), .pointer (some ⟨ba, 0, none⟩)]) ∧
      Ak N w' T n a c bf bt ba F ∧ W.heap.size ≤ F ∧ W.grownBy w' none) := fun W hg => newAsker_any (h.ch (l := []) (Ch.of hg) (by simp)) (Nat.le_trans hN hg.size) h64
  have HO : Hid (∀ bf bt ba F, AskOk N T n a c bf bt ba F (p + 1)) := fun bf bt ba F => ask_step (ask_all hf (by omega)) hf hp ((Ty.tabB_iff.1 ht).2 p hp)
  have HL : Hid (∀ (l : Ty.Li) W, Calls Try.prog 39 #[.agg #[.int .i64 l.size, .int .i64 l.align, .int .i64 l.words, .bool l.arr]] W fun e w' => e = .returned (.bool (decide (65536 < l.size))) ∧ W.grownBy w' none) := fun l W => large_any l W
  have HS : Hid (∀ j, j < p → (Ty.lie T j).size ≤ 65536) := fun j hj => (hf j hj).2
  have Hl : Hid (65536 < (Ty.lie T p).size) := hl
  clear h ht hf hl
  go_enter Try.func28, Try.ntmps28
  go_wp2_with (first
    | (go_at_call 37; refine HC.out.mono ?_; rintro e w3 ⟨rfl, hg3⟩)
    | (go_at_call 38; refine (HA.out _ hg3).mono ?_; rintro e w4 ⟨bf, bt, ba, F, rfl, hA4, hF4, hg4⟩))
  have HA4 : Hid (Ak N w4 T n a c bf bt ba F) := hA4
  have HG4 : Hid (w.grownBy w4 none) := grown_trans hg3 hg4
  have hF : w.heap.size ≤ F := Nat.le_trans hg3.size hF4
  clear hA4 hg4 hg3 hF4
  go_loopw [2, 12] (fun fv ix wr => ∃ k : Nat, fv = .func (.func 49) #[] #[.pointer (some ⟨bf, 0, none⟩), .pointer (some ⟨bt, 0, none⟩), .pointer (some ⟨ba, 0, none⟩)] ∧ ix = .int .i64 k ∧ k ≤ p ∧ Ak N wr T n a c bf bt ba F ∧ Ch w4 wr [F]) (fun _ ix _ => n - (intOf ix).toNat)
  case atStart => exact ⟨0, rfl, rfl, Nat.zero_le _, HA4.out, Ch.refl _ _⟩
  case round =>
    obtain ⟨k, rfl, rfl, hk, hA, hg⟩ := hrel
    have HAr : Hid (Ak N wr T n a c bf bt ba F) := hA
    have HG : Hid (Ch w4 wr [F]) := hg
    clear hA hg
    have hkn : k < n := by omega
    have hkn' : (k : Int) < n := by omega
    have HK : Hid (∀ W, Ak N W T n a c bf bt ba F → Calls Try.prog 49 #[.int .i64 k, .pointer (some ⟨bf, 0, none⟩), .pointer (some ⟨bt, 0, none⟩), .pointer (some ⟨ba, 0, none⟩)] W fun e w' =>
        e = .returned (.agg #[.int .i64 (Ty.lie T k).size, .int .i64 (Ty.lie T k).align, .int .i64 (Ty.lie T k).words, .bool (Ty.lie T k).arr]) ∧ Ak N w' T n a c bf bt ba F ∧ Ch W w' [F]) := HO.out bf bt ba F k (by omega)
    have HLk := HL.out (Ty.lie T k)
    by_cases hkp : k = p
    · subst hkp
      have e := Hl.out
      generalize Ty.lie T k = L at *
      have HL2 : Hid (∀ W, Calls Try.prog 39 #[.agg #[.int .i64 L.size, .int .i64 L.align, .int .i64 L.words, .bool L.arr]] W fun e w' => e = .returned (.bool true) ∧ W.grownBy w' none) := by intro W; have := HLk W; rw [decide_eq_true e] at this; exact this
      clear HLk
      go_wp2_with (first
        | (go_at_call 49; refine (HK.out _ HAr.out).mono ?_; rintro e w5 ⟨rfl, hA5, hg5⟩)
        | (go_at_call 39; refine (HL2.out _).mono ?_; rintro e w6 ⟨rfl, hg6⟩))
      go_ret2
      exact ⟨rfl, Ch.fresh HG4.out hF ((HG.out.trans hg5).trans (Ch.of hg6))⟩
    · have e : ¬ 65536 < (Ty.lie T k).size := by have := HS.out k (by omega); omega
      generalize Ty.lie T k = L at HLk HK e
      have HL2 : Hid (∀ W, Calls Try.prog 39 #[.agg #[.int .i64 L.size, .int .i64 L.align, .int .i64 L.words, .bool L.arr]] W fun e w' => e = .returned (.bool false) ∧ W.grownBy w' none) := by intro W; have := HLk W; rw [decide_eq_false e] at this; exact this
      clear HLk e
      go_wp2_with (first
        | (go_at_call 49; refine (HK.out _ HAr.out).mono ?_; rintro e w5 ⟨rfl, hA5, hg5⟩)
        | (go_at_call 39; refine (HL2.out _).mono ?_; rintro e w6 ⟨rfl, hg6⟩))
      go_roundw
      case rel => exact ⟨k + 1, rfl, by go_num, by omega, hA5.grow hg6, (HG.out.trans hg5).trans (Ch.of hg6)⟩
      case measure => simp [intOf]; omega
set_option maxRecDepth 100000 in
set_option maxHeartbeats 4000000 in
theorem takeTable_ok {N : Nat} {w : World} {T : Nat → Ty.TyV} {n : Nat} {a : Option Addr} {c : Nat} (h : TysIn N w a n c T) (hN : N ≤ w.heap.size) (hc : Ty.chk T n = 0) :
    Calls Try.prog 28 #[.slice a n c] w fun e w' => ∃ bf bt ba F, e = .returned (.tuple #[.func (.func 49) #[] #[.pointer (some ⟨bf, 0, none⟩), .pointer (some ⟨bt, 0, none⟩), .pointer (some ⟨ba, 0, none⟩)], .int .i64 0]) ∧
      Ak N w' T n a c bf bt ba F ∧ w.heap.size ≤ F ∧ w.grownBy w' none := by
  have hmx := h.max
  have hle := h.le
  unfold maxLen at hmx
  obtain ⟨h64, hf⟩ := Ty.chk_ok hc
  have ht : Ty.tabB T n = true := Ty.tabB_iff.2 ⟨h64, fun i hi => (hf i hi).1⟩
  have HC : Hid (Calls Try.prog 37 #[.slice a n c] w fun e w' => e = .returned (.bool true) ∧ w.grownBy w' none) := by rw [← ht]; exact isTable_any h hN
  have HA : Hid (∀ W, w.grownBy W none → Calls Try.prog 38 #[.slice a n c] W fun e w' => ∃ bf bt ba F, e = .returned (.func (.func 49) #[] #[.pointer (some ⟨bf, 0, none⟩), .pointer (some ⟨bt, 0, none⟩), .pointer (some ⟨ba, 0, none⟩)]) ∧
      Ak N w' T n a c bf bt ba F ∧ W.heap.size ≤ F ∧ W.grownBy w' none) := fun W hg => newAsker_any (h.ch (l := []) (Ch.of hg) (by simp)) (Nat.le_trans hN hg.size) h64
  have HO : Hid (∀ bf bt ba F, AskOk N T n a c bf bt ba F n) := fun bf bt ba F => ask_all hf (Nat.le_refl _)
  have HL : Hid (∀ (l : Ty.Li) W, Calls Try.prog 39 #[.agg #[.int .i64 l.size, .int .i64 l.align, .int .i64 l.words, .bool l.arr]] W fun e w' => e = .returned (.bool (decide (65536 < l.size))) ∧ W.grownBy w' none) := fun l W => large_any l W
  have HS : Hid (∀ j, j < n → (Ty.lie T j).size ≤ 65536) := fun j hj => (hf j hj).2
  clear h ht hf hc
  go_enter Try.func28, Try.ntmps28
  go_wp2_with (first
    | (go_at_call 37; refine HC.out.mono ?_; rintro e w3 ⟨rfl, hg3⟩)
    | (go_at_call 38; refine (HA.out _ hg3).mono ?_; rintro e w4 ⟨bf, bt, ba, F, rfl, hA4, hF4, hg4⟩))
  have HA4 : Hid (Ak N w4 T n a c bf bt ba F) := hA4
  have HG4 : Hid (w.grownBy w4 none) := grown_trans hg3 hg4
  have hF : w.heap.size ≤ F := Nat.le_trans hg3.size hF4
  clear hA4 hg4 hg3 hF4
  go_loopw [2, 12] (fun fv ix wr => ∃ k : Nat, fv = .func (.func 49) #[] #[.pointer (some ⟨bf, 0, none⟩), .pointer (some ⟨bt, 0, none⟩), .pointer (some ⟨ba, 0, none⟩)] ∧ ix = .int .i64 k ∧ k ≤ n ∧ Ak N wr T n a c bf bt ba F ∧ Ch w4 wr [F]) (fun _ ix _ => n - (intOf ix).toNat)
  case atStart => exact ⟨0, rfl, rfl, Nat.zero_le _, HA4.out, Ch.refl _ _⟩
  case round =>
    obtain ⟨k, rfl, rfl, hk, hA, hg⟩ := hrel
    have HAr : Hid (Ak N wr T n a c bf bt ba F) := hA
    have HG : Hid (Ch w4 wr [F]) := hg
    clear hA hg
    by_cases hkn : k < n
    · have hkn' : (k : Int) < n := by omega
      have HK : Hid (∀ W, Ak N W T n a c bf bt ba F → Calls Try.prog 49 #[.int .i64 k, .pointer (some ⟨bf, 0, none⟩), .pointer (some ⟨bt, 0, none⟩), .pointer (some ⟨ba, 0, none⟩)] W fun e w' =>
        e = .returned (.agg #[.int .i64 (Ty.lie T k).size, .int .i64 (Ty.lie T k).align, .int .i64 (Ty.lie T k).words, .bool (Ty.lie T k).arr]) ∧ Ak N w' T n a c bf bt ba F ∧ Ch W w' [F]) := HO.out bf bt ba F k (by omega)
      have HLk := HL.out (Ty.lie T k)
      have e : ¬ 65536 < (Ty.lie T k).size := by have := HS.out k (by omega); omega
      generalize Ty.lie T k = L at HLk HK e
      have HL2 : Hid (∀ W, Calls Try.prog 39 #[.agg #[.int .i64 L.size, .int .i64 L.align, .int .i64 L.words, .bool L.arr]] W fun e w' => e = .returned (.bool false) ∧ W.grownBy w' none) := by intro W; have := HLk W; rw [decide_eq_false e] at this; exact this
      clear HLk e
      go_wp2_with (first
        | (go_at_call 49; refine (HK.out _ HAr.out).mono ?_; rintro e w5 ⟨rfl, hA5, hg5⟩)
        | (go_at_call 39; refine (HL2.out _).mono ?_; rintro e w6 ⟨rfl, hg6⟩))
      go_roundw
      case rel => exact ⟨k + 1, rfl, by go_num, by omega, hA5.grow hg6, (HG.out.trans hg5).trans (Ch.of hg6)⟩
      case measure => simp [intOf]; omega
    · obtain rfl : k = n := by omega
      go_wp2
      go_ret2
      exact ⟨bf, bt, ba, F, rfl, HAr.out, hF, Ch.fresh HG4.out hF HG.out⟩
/-- what is no table -/
theorem takeTable_no {N : Nat} {w : World} {T : Nat → Ty.TyV} {n : Nat} {a : Option Addr} {c : Nat} (h : TysIn N w a n c T) (hN : N ≤ w.heap.size) (hc : Ty.chk T n ≠ 0) :
    Calls Try.prog 28 #[.slice a n c] w fun e w' => e = .returned (.tuple #[.nilFunc, .int .i64 (Ty.chk T n)]) ∧ w.grownBy w' none := by
  cases ht : Ty.tabB T n
  · rw [Ty.chk_form ht]
    exact takeTable_form h hN ht
  · obtain ⟨e, p, hp, hl, hf⟩ := Ty.chk_large ht hc
    rw [e]
    exact takeTable_large h hN ht hp hl hf
/-- what a call on an entry tells first -/
def Ty.cod (T : Nat → Ty.TyV) (n : Nat) (i : Int) : Int := if Ty.chk T n = 0 then (if Ty.nmB n i = true then 0 else 70) else Ty.chk T n
theorem Ty.cod_ok {T : Nat → Ty.TyV} {n : Nat} {i : Int} (h : Ty.cod T n i = 0) : Ty.chk T n = 0 ∧ 0 ≤ i ∧ i < n := by
  unfold Ty.cod at h
  split at h
  · rename_i hc
    split at h
    · rename_i hn
      have := Ty.nmB_iff.1 hn
      exact ⟨hc, this.1, this.2⟩
    · omega
  · contradiction
theorem field_words (L : Ty.Li) (w : World) : (Instr.field 86 (.agg #[.int .i64 L.size, .int .i64 L.align, .int .i64 L.words, .bool L.arr]) 2).run Try.prog w = .ok (.int .i64 L.words) w := by kernel_rfl
set_option maxRecDepth 100000 in
set_option maxHeartbeats 4000000 in
theorem check_any {N : Nat} {w : World} {T : Nat → Ty.TyV} {n : Nat} {a : Option Addr} {c : Nat} (h : TysIn N w a n c T) (hN : N ≤ w.heap.size) :
    Calls Try.prog 19 #[.slice a n c] w fun e w' => e = .returned (.int .i64 (Ty.chk T n)) ∧ w.grownBy w' none := by
  by_cases hc : Ty.chk T n = 0
  · have HC : Hid (Calls Try.prog 28 #[.slice a n c] w fun e w' => ∃ bf bt ba F, e = .returned (.tuple #[.func (.func 49) #[] #[.pointer (some ⟨bf, 0, none⟩), .pointer (some ⟨bt, 0, none⟩), .pointer (some ⟨ba, 0, none⟩)], .int .i64 0]) ∧
      Ak N w' T n a c bf bt ba F ∧ w.heap.size ≤ F ∧ w.grownBy w' none) := takeTable_ok h hN hc
    rw [hc]
    clear h hc
    go_enter Try.func19, Try.ntmps19
    go_wp2_with (go_at_call 28; refine HC.out.mono ?_; rintro e w3 ⟨bf, bt, ba, F, rfl, hA3, hF3, hg3⟩)
    go_ret
    exact ⟨rfl, hg3⟩
  · have HC : Hid (Calls Try.prog 28 #[.slice a n c] w fun e w' => e = .returned (.tuple #[.nilFunc, .int .i64 (Ty.chk T n)]) ∧ w.grownBy w' none) := takeTable_no h hN hc
    generalize Ty.chk T n = z at *
    clear h hc
    go_enter Try.func19, Try.ntmps19
    go_wp2_with (go_at_call 28; refine HC.out.mono ?_; rintro e w3 ⟨rfl, hg3⟩)
    go_ret
    exact ⟨rfl, hg3⟩
set_option maxRecDepth 100000 in
set_option maxHeartbeats 4000000 in
theorem takeEntry_no {N : Nat} {w : World} {T : Nat → Ty.TyV} {n : Nat} {a : Option Addr} {c : Nat} (h : TysIn N w a n c T) (hN : N ≤ w.heap.size) {i : Int} (hi : Ty.cod T n i ≠ 0) :
    Calls Try.prog 40 #[.slice a n c, .int .i64 i] w fun e w' => e = .returned (.tuple #[.nilFunc, .int .i64 (Ty.cod T n i)]) ∧ w.grownBy w' none := by
  by_cases hc : Ty.chk T n = 0
  · have HC : Hid (Calls Try.prog 28 #[.slice a n c] w fun e w' => ∃ bf bt ba F, e = .returned (.tuple #[.func (.func 49) #[] #[.pointer (some ⟨bf, 0, none⟩), .pointer (some ⟨bt, 0, none⟩), .pointer (some ⟨ba, 0, none⟩)], .int .i64 0]) ∧
      Ak N w' T n a c bf bt ba F ∧ w.heap.size ≤ F ∧ w.grownBy w' none) := takeTable_ok h hN hc
    have hm : Ty.nmB n i = false := by
      cases hh : Ty.nmB n i
      · rfl
      · exact absurd (by unfold Ty.cod; rw [if_pos hc, if_pos hh]) hi
    have e : Ty.cod T n i = 70 := by unfold Ty.cod; rw [if_pos hc, if_neg (by simp [hm])]
    have HM : Hid (∀ W, Calls Try.prog 51 #[.int .i64 n, .int .i64 i] W fun e w' => e = .returned (.bool false) ∧ w' = W) := fun W => by rw [← hm]; exact nm_any _ _ _
    rw [e]
    have hle := h.le
    have hmx := h.max
    unfold maxLen at hmx
    clear h hc hi hm e
    go_enter Try.func40, Try.ntmps40
    go_wp2_with (first
      | (go_at_call 28; refine HC.out.mono ?_; rintro e w3 ⟨bf, bt, ba, F, rfl, hA3, hF3, hg3⟩)
      | (go_at_call 51; refine (HM.out _).mono ?_; rintro e w4 ⟨rfl, rfl⟩))
    go_ret2
    exact ⟨rfl, hg3⟩
  · have HC : Hid (Calls Try.prog 28 #[.slice a n c] w fun e w' => e = .returned (.tuple #[.nilFunc, .int .i64 (Ty.chk T n)]) ∧ w.grownBy w' none) := takeTable_no h hN hc
    have e : Ty.cod T n i = Ty.chk T n := by unfold Ty.cod; rw [if_neg hc]
    rw [e]
    have hz : (Ty.chk T n == 0) = false := by simpa using hc
    generalize Ty.chk T n = z at *
    clear h hc hi e
    go_enter Try.func40, Try.ntmps40
    go_wp2_with (go_at_call 28; refine HC.out.mono ?_; rintro e w3 ⟨rfl, hg3⟩)
    go_ret2
    exact ⟨rfl, hg3⟩
set_option maxRecDepth 100000 in
set_option maxHeartbeats 4000000 in
theorem takeEntry_ok {N : Nat} {w : World} {T : Nat → Ty.TyV} {n : Nat} {a : Option Addr} {c : Nat} (h : TysIn N w a n c T) (hN : N ≤ w.heap.size) (hc : Ty.chk T n = 0) {i : Nat} (hi : i < n) :
    Calls Try.prog 40 #[.slice a n c, .int .i64 i] w fun e w' => ∃ bf bt ba F, e = .returned (.tuple #[.func (.func 49) #[] #[.pointer (some ⟨bf, 0, none⟩), .pointer (some ⟨bt, 0, none⟩), .pointer (some ⟨ba, 0, none⟩)], .int .i64 0]) ∧
      Ak N w' T n a c bf bt ba F ∧ w.heap.size ≤ F ∧ w.grownBy w' none := by
  have HC : Hid (Calls Try.prog 28 #[.slice a n c] w fun e w' => ∃ bf bt ba F, e = .returned (.tuple #[.func (.func 49) #[] #[.pointer (some ⟨bf, 0, none⟩), .pointer (some ⟨bt, 0, none⟩), .pointer (some ⟨ba, 0, none⟩)], .int .i64 0]) ∧
    Ak N w' T n a c bf bt ba F ∧ w.heap.size ≤ F ∧ w.grownBy w' none) := takeTable_ok h hN hc
  have hm : Ty.nmB n i = true := Ty.nmB_iff.2 ⟨by omega, by omega⟩
  have HM : Hid (∀ W, Calls Try.prog 51 #[.int .i64 n, .int .i64 i] W fun e w' => e = .returned (.bool true) ∧ w' = W) := fun W => by rw [← hm]; exact nm_any _ _ _
  have hle := h.le
  have hmx := h.max
  unfold maxLen at hmx
  clear h hc hm
  go_enter Try.func40, Try.ntmps40
  go_wp2_with (first
    | (go_at_call 28; refine HC.out.mono ?_; rintro e w3 ⟨bf, bt, ba, F, rfl, hA3, hF3, hg3⟩)
    | (go_at_call 51; refine (HM.out _).mono ?_; rintro e w4 ⟨rfl, rfl⟩))
  go_ret2
  exact ⟨bf, bt, ba, F, rfl, hA3, hF3, hg3⟩
namespace Ty
/-- words so much further on -/
def sh (d : Int) (l : List (Int × Int)) : List (Int × Int) := l.map fun p => (p.1, d + p.2)
/-- the words of the first so many fields -/
def cat (x : TyV) (L : Nat → Li) (V : Nat → List (Int × Int)) : Nat → List (Int × Int)
  | 0 => []
  | k + 1 => cat x L V k ++ sh (bg x L k) (V (x.F k).toNat)
def wkOf (x : TyV) (L : Nat → Li) (V : Nat → List (Int × Int)) : List (Int × Int) :=
  if x.kind = 12 then [] else if x.kind = 13 then cat x L V x.nf else if x.kind = 14 ∨ x.kind = 15 then [(11, 0), (5, 8)] else [(x.kind, 0)]
def wks (T : Nat → TyV) : Nat → Nat → List (Int × Int)
  | 0 => fun _ => []
  | n + 1 => fun i => if i = n then wkOf (T n) (lie T) (wks T n) else wks T n i
/-- an entry's words: their kinds, where they begin -/
def wk (T : Nat → TyV) (i : Nat) : List (Int × Int) := wks T (i + 1) i
theorem wks_wk (T : Nat → TyV) : ∀ {n i : Nat}, i < n → wks T n i = wk T i
  | n + 1, i, h => by
    by_cases e : i = n
    · subst e; rfl
    · show (if i = n then _ else _) = _
      rw [if_neg e]
      exact wks_wk T (by omega)
theorem cat_congr {x : TyV} {L : Nat → Li} {V U : Nat → List (Int × Int)} : ∀ {k : Nat}, (∀ j, j < k → V (x.F j).toNat = U (x.F j).toNat) → cat x L V k = cat x L U k
  | 0, _ => rfl
  | k + 1, h => by rw [cat, cat, cat_congr fun j hj => h j (by omega), h k (by omega)]
theorem wk_eq {T : Nat → TyV} {i n : Nat} (h : okB (T i) i n = true) : wk T i = wkOf (T i) (lie T) (wk T) := by
  show (if i = i then _ else _) = _
  rw [if_pos rfl]
  unfold wkOf
  rcases ok_cases h with ⟨hk, h1, h2, _⟩ | ⟨hk, _, _, _, hf⟩ | ⟨hk, _⟩ | ⟨h1, h2, _⟩
  · rw [if_pos hk, if_pos hk]
  · have h12 : ¬ (T i).kind = 12 := by omega
    rw [if_neg h12, if_neg h12, if_pos hk, if_pos hk]
    exact cat_congr fun j hj => wks_wk T (by have := hf j hj; omega)
  · have h12 : ¬ (T i).kind = 12 := by omega
    have h13 : ¬ (T i).kind = 13 := by omega
    rw [if_neg h12, if_neg h12, if_neg h13, if_neg h13]
  · have h12 : ¬ (T i).kind = 12 := by omega
    have h13 : ¬ (T i).kind = 13 := by omega
    rw [if_neg h12, if_neg h12, if_neg h13, if_neg h13]
theorem sh_len (d : Int) (l : List (Int × Int)) : (sh d l).length = l.length := by simp [sh]
theorem cat_len {x : TyV} {L : Nat → Li} {V : Nat → List (Int × Int)} : ∀ {k : Nat}, (∀ j, j < k → ((V (x.F j).toNat).length : Int) = (fl x L j).words) → ((cat x L V k).length : Int) = ws x L k
  | 0, _ => rfl
  | k + 1, h => by
    have h1 := cat_len (k := k) fun j hj => h j (by omega)
    have h2 := h k (by omega)
    rw [cat, ws, List.length_append, sh_len]
    push_cast
    omega
/-- as many as were told -/
theorem wk_len {T : Nat → TyV} {n : Nat} : ∀ {i : Nat}, (∀ j, j ≤ i → okB (T j) j n = true) → ((wk T i).length : Int) = (lie T i).words := by
  intro i
  induction i using Nat.strongRecOn with
  | ind i ih =>
    intro h
    have hi := h i (Nat.le_refl _)
    rw [wk_eq hi, lie_eq hi]
    unfold wkOf lieOf
    rcases ok_cases hi with ⟨hk, h1, h2, _⟩ | ⟨hk, _, _, _, hf⟩ | ⟨hk, _⟩ | ⟨h1, h2, _⟩
    · rw [if_pos hk, if_pos hk]; rfl
    · have h12 : ¬ (T i).kind = 12 := by omega
      rw [if_neg h12, if_neg h12, if_pos hk, if_pos hk]
      exact cat_len fun j hj => ih _ (by have := hf j hj; omega) fun k hk' => h k (by have := hf j hj; omega)
    · have h12 : ¬ (T i).kind = 12 := by omega
      have h13 : ¬ (T i).kind = 13 := by omega
      rw [if_neg h12, if_neg h12, if_neg h13, if_neg h13, if_pos hk, if_pos hk]
      rfl
    · have h12 : ¬ (T i).kind = 12 := by omega
      have h13 : ¬ (T i).kind = 13 := by omega
      have h14 : ¬ ((T i).kind = 14 ∨ (T i).kind = 15) := by omega
      rw [if_neg h12, if_neg h12, if_neg h13, if_neg h13, if_neg h14, if_neg h14]
      rfl
theorem sh_sh (d e : Int) (l : List (Int × Int)) : sh d (sh e l) = sh (d + e) l := by
  unfold sh
  rw [List.map_map]
  refine List.map_congr_left fun p _ => ?_
  simp only [Function.comp]
  rw [Int.add_assoc]
theorem sh_app (d : Int) (l m : List (Int × Int)) : sh d (l ++ m) = sh d l ++ sh d m := List.map_append
/-- fields end one behind the other -/
theorem en_mono {x : TyV} {L : Nat → Li} : ∀ {k m : Nat}, k ≤ m → (∀ j, j < m → Good (fl x L j)) → en x L k ≤ en x L m
  | k, 0, h, _ => by obtain rfl : k = 0 := by omega
                     exact Int.le_refl _
  | k, m + 1, h, hg => by
    by_cases e : k = m + 1
    · subst e; exact Int.le_refl _
    · have h1 := en_mono (k := k) (m := m) (by omega) fun j hj => hg j (by omega)
      have h2 := hg m (by omega)
      have := (up_spec (n := en x L m) h2.al).1
      have := h2.w0
      have := h2.ws
      rw [en]
      omega
theorem flds_in {x : TyV} {i n : Nat} (h : okB x i n = true) : x.nf ≤ 16 ∧ ∀ k, k < x.nf → 0 ≤ x.F k ∧ x.F k < i := by
  rcases ok_cases h with ⟨_, _, _, _, _, h0⟩ | ⟨_, _, _, h16, hf⟩ | ⟨_, _, h0⟩ | ⟨_, _, _, h0⟩
  · exact ⟨by omega, fun k hk => by omega⟩
  · exact ⟨h16, hf⟩
  · exact ⟨by omega, fun k hk => by omega⟩
  · exact ⟨by omega, fun k hk => by omega⟩
/-- a field begins and ends within its struct -/
theorem bg_in {T : Nat → TyV} {n i k : Nat} (hF : Fine T n i) (ho : okB (T i) i n = true) (hk : (T i).kind = 13) (hkn : k < (T i).nf) : 0 ≤ bg (T i) (lie T) k ∧ bg (T i) (lie T) k + (fl (T i) (lie T) k).size ≤ (lie T i).size := by
  have hf := (flds_in ho).2
  have hg : ∀ j, j < (T i).nf → Good (fl (T i) (lie T) j) ∧ (fl (T i) (lie T) j).size ≤ 65536 := fun j hj => hF.good _ (by have := hf j hj; omega)
  have h1 := en_spec (k := k) fun j hj => hg j (by omega)
  have h2 := up_spec (n := en (T i) (lie T) k) (hg k hkn).1.al
  have h3 := en_mono (x := T i) (L := lie T) (k := k + 1) (m := (T i).nf) hkn fun j hj => (hg j hj).1
  have h4 := up_spec (n := en (T i) (lie T) (T i).nf) (al_al fun j hj => (hg j hj).1)
  have e : (lie T i).size = up (en (T i) (lie T) (T i).nf) (al (T i) (lie T) (T i).nf) := by
    rw [lie_eq ho]; unfold lieOf; rw [if_neg (by omega), if_pos hk]
  rw [en] at h3
  unfold bg
  rw [e]
  omega
end Ty
end Go.Proofs.Ytdfjaedafampaaa
