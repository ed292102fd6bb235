/- Contracts and plain facts that the walks share. -/
import Derived.Test.YtpcgkggpmipiaaaGreatG8
import Derived.Test.YtpcgkggpmipiaaaGreatG4
import Derived.Test.YtpcgkggpmipiaaaGreatG1
import Derived.Laws.EntriesVeiled
namespace Go.Proofs.YtpcgkggpmipiaaaGreat
set_option maxRecDepth 100000
set_option maxHeartbeats 32000000
open Go.RowKit
set_option linter.unusedVariables false
namespace Ty
def tabB (T : Nat → TyV) (n : Nat) : Bool := decide (n ≤ 64) && (List.range n).all fun i => okB (T i) i n
theorem tabB_iff {T : Nat → TyV} {n : Nat} : tabB T n = true ↔ n ≤ 64 ∧ ∀ i, i < n → okB (T i) i n = true := by
 unfold tabB
 simp only [Bool.and_eq_true, decide_eq_true_eq, List.all_eq_true, List.mem_range]
def chk (T : Nat → TyV) (n : Nat) : Int := if tabB T n = true then (if ∀ i, i < n → (lie T i).size ≤ 65536 then 0 else 71) else 70
theorem chk_form {T : Nat → TyV} {n : Nat} (h : tabB T n = false) : chk T n = 70 := by unfold chk; rw [if_neg (by simp [h])]
theorem chk_ok {T : Nat → TyV} {n : Nat} (h : chk T n = 0) : n ≤ 64 ∧ Fine T n n := by
 unfold chk at h
 split at h
 ·rename_i ht
  split at h
  ·rename_i hs
   exact ⟨(tabB_iff.1 ht).1, fun j hj => ⟨(tabB_iff.1 ht).2 j hj, hs j hj⟩⟩
  ·omega
 ·omega
theorem least_large {T : Nat → TyV} : ∀ {n : Nat}, ¬ (∀ i, i < n → (lie T i).size ≤ 65536) → ∃ p, p < n ∧ 65536 < (lie T p).size ∧ ∀ j, j < p → (lie T j).size ≤ 65536
 | 0, h => absurd (fun i hi => by omega) h
 | n + 1, h => by
  by_cases h1 : ∀ i, i < n → (lie T i).size ≤ 65536
  ·by_cases h2 : (lie T n).size ≤ 65536
   ·exact absurd (fun i hi => by by_cases e : i = n; (subst e; exact h2); exact h1 i (by omega)) h
   ·exact ⟨n, by omega, by omega, h1⟩
  ·obtain ⟨p, a, b, c⟩ := least_large h1
   exact ⟨p, by omega, b, c⟩
theorem chk_large {T : Nat → TyV} {n : Nat} (h : tabB T n = true) (h0 : chk T n ≠ 0) : chk T n = 71 ∧ ∃ p, p < n ∧ 65536 < (lie T p).size ∧ Fine T n p := by
 unfold chk at *
 rw [if_pos h] at *
 by_cases h1 : ∀ i, i < n → (lie T i).size ≤ 65536
 ·rw [if_pos h1] at h0; exact absurd rfl h0
 ·rw [if_neg h1]
  obtain ⟨p, a, b, c⟩ := least_large h1
  exact ⟨rfl, p, a, b, fun j hj => ⟨(tabB_iff.1 h).2 j (by omega), c j hj⟩⟩
end Ty
theorem info_li : (Tryz.prog.info? 165).map (fun i => (i.zero, i.size, i.bytes)) = some (some (.agg #[.int .i64 0, .int .i64 0, .int .i64 0, .bool false]), 4, 32) := by kernel_rfl
theorem run_make_li (w : World) (n : Nat) (hn : n ≤ 64) : ∃ w1, (Instr.makeSlice 197 (.int .i64 n) (.int .i64 n)).run Tryz.prog w = .ok (.slice (some ⟨w.heap.size, 0, none⟩) n n) w1 ∧ (∀ i, i < n → LiAt w1 w.heap.size (i * 4) Ty.li0) ∧ (∀ q, w1.frozen? ⟨w.heap.size, q, none⟩ = false) ∧ w1.heap.size = w.heap.size + 1 ∧ w.grownBy w1 none := by
 obtain ⟨i, hi, hz0, hz1, hz2⟩ := info_parts info_li
 have := run_make (P := Tryz.prog) w 197 165 i (.agg #[.int .i64 0, .int .i64 0, .int .i64 0, .bool false]) Tryz.underlying197 hi hz0 .i64 .i64 n n (by omega) (by omega) (by rw [hz2]; omega) (by omega)
 rw [hz1] at this
 simp only [Int.toNat_natCast] at this
 refine ⟨_, this, ?_, fun q => by simp, by simp, World.grownBy_alloc _ _ _⟩
 have hcell : ∀ q, q < n * 4 → (w.alloc (.cells (madeCells (Value.agg #[.int .i64 0, .int .i64 0, .int .i64 0, .bool false]).cells (n * 4)) 165)).cell? ⟨w.heap.size, q, none⟩ = some (#[Value.int .i64 0, .int .i64 0, .int .i64 0, .bool false].getD (q % 4) undef) := by
  intro q hq
  rw [World.cell?_alloc_new]
  simp [madeCells, Value.cells, hq]
  have h4 : q % 4 = 0 ∨ q % 4 = 1 ∨ q % 4 = 2 ∨ q % 4 = 3 := by omega
  rcases h4 with h | h | h | h <;> simp [h]
 intro k hk
 exact ⟨by rw [hcell _ (by omega)]; simp [Ty.li0], by rw [hcell _ (by omega)]; simp [Ty.li0], by rw [hcell _ (by omega)]; simp [Ty.li0], by rw [hcell _ (by omega)]; simp [Ty.li0]⟩
theorem newAsker_any {N : Nat} {w : World} {T : Nat → Ty.TyV} {n : Nat} {a : Option Addr} {c : Nat} (h : TysIn N w a n c T) (hN : N ≤ w.heap.size) (hn : n ≤ 64) :
  Calls Tryz.prog 185 #[.slice a n c] w fun e w' => ∃ bf bt ba F, e = .returned (.func (.func 216) #[] #[.pointer (some ⟨bf, 0, none⟩), .pointer (some ⟨bt, 0, none⟩), .pointer (some ⟨ba, 0, none⟩)]) ∧
   Ak N w' T n a c bf bt ba F ∧ w.heap.size ≤ F ∧ w.grownBy w' none := by
 have hmx := h.max
 have hle := h.le
 unfold maxLen at hmx
 have hn' : (n : Int) ≤ 64 := by omega
 obtain ⟨W2, hW2⟩ : ∃ W2, W2 = (w.alloc (.cells #[.slice a n c] 24)).alloc (.cells #[.nilFunc] 160) := ⟨_, rfl⟩
 have hg2 : w.grownBy W2 none := by rw [hW2]; exact ga (World.grownBy_alloc _ _ _) _
 have hs2 : W2.heap.size = w.heap.size + 2 := by rw [hW2]; simp
 have k0 : W2.cell? ⟨w.heap.size, 0, none⟩ = some (.slice a n c) := by rw [hW2]; simp
 have k1 : W2.cell? ⟨w.heap.size + 1, 0, none⟩ = some .nilFunc := by rw [hW2]; simp
 have z1 : W2.frozen? ⟨w.heap.size + 1, 0, none⟩ = false := by rw [hW2]; simp
 obtain ⟨w1, hmk, hli, hfz, hs1, hg1⟩ := run_make_li W2 n hn
 have j0 := (Ch.of (l := []) hg1).cell k0 (by simp)
 have j1 := (Ch.of (l := []) hg1).cell k1 (by simp)
 have y1 := frozen_ch (l := []) (Ch.of hg1) (by omega) (by simp) z1
 obtain ⟨B, hB⟩ : ∃ B, B = W2.heap.size := ⟨_, rfl⟩
 rw [← hB] at hmk hli hfz hs1 hs2
 rw [hW2] at hmk
 have HL : Hid (∀ i, i < n → LiAt w1 B (i * 4) Ty.li0) := hli
 have HZ : Hid (∀ q, w1.frozen? ⟨B, q, none⟩ = false) := hfz
 have HG : Hid (w.grownBy w1 none) := grown_trans hg2 hg1
 have HT : Hid (TysIn N w a n c T) := h
 have HN : Hid (N ≤ w.heap.size) := hN
 have HS : Hid (B = w.heap.size + 2 ∧ w1.heap.size = w.heap.size + 3) := ⟨hs2, by omega⟩
 have j0' := (Ch.of (l := []) (World.grownBy_alloc w1 (.cells #[.slice (some ⟨B, 0, none⟩) n n] 197) none)).cell j0 (by simp)
 have j1' := (Ch.of (l := []) (World.grownBy_alloc w1 (.cells #[.slice (some ⟨B, 0, none⟩) n n] 197) none)).cell j1 (by simp)
 have y1' := frozen_ch (l := []) (Ch.of (World.grownBy_alloc w1 (.cells #[.slice (some ⟨B, 0, none⟩) n n] 197) none)) (by omega) (by simp) y1
 clear h hli hfz hg2 hg1 hW2 hs2 hs1 hB k0 k1 z1
 go_enter Tryz.func185, Tryz.ntmps185
 go_wp2
 refine bodyPost_ret (by simp [results, Tryz.results185, go_sem, j1']; try rfl) rfl ?_
 have hS := HS.out
 have hg : w.grownBy (w1.alloc (.cells #[.slice (some ⟨B, 0, none⟩) n n] 197)) none := ga HG.out _
 have hg4 := gs (gs hg (b := w.heap.size + 1) 0 (.func (.func 216) #[] #[.pointer (some ⟨w1.heap.size, 0, none⟩), .pointer (some ⟨w.heap.size, 0, none⟩), .pointer (some ⟨w.heap.size + 1, 0, none⟩)]) (by omega)) (b := w.heap.size + 1) 0 (.func (.func 216) #[] #[.pointer (some ⟨w1.heap.size, 0, none⟩), .pointer (some ⟨w.heap.size, 0, none⟩), .pointer (some ⟨w.heap.size + 1, 0, none⟩)]) (by omega)
 have hc4 : Ch w1 (((w1.alloc (.cells #[.slice (some ⟨B, 0, none⟩) n n] 197)).setCell ⟨w.heap.size + 1, 0, none⟩ (.func (.func 216) #[] #[.pointer (some ⟨w1.heap.size, 0, none⟩), .pointer (some ⟨w.heap.size, 0, none⟩), .pointer (some ⟨w.heap.size + 1, 0, none⟩)])).setCell ⟨w.heap.size + 1, 0, none⟩ (.func (.func 216) #[] #[.pointer (some ⟨w1.heap.size, 0, none⟩), .pointer (some ⟨w.heap.size, 0, none⟩), .pointer (some ⟨w.heap.size + 1, 0, none⟩)])) [w.heap.size + 1] :=
  ((Ch.of (World.grownBy_alloc _ _ _)).trans (Ch.one (grown_set _ _ _ _) (by simp))).trans (Ch.one (grown_set _ _ _ _) (by simp))
 have hc5 : Ch (w1.alloc (.cells #[.slice (some ⟨B, 0, none⟩) n n] 197)) (((w1.alloc (.cells #[.slice (some ⟨B, 0, none⟩) n n] 197)).setCell ⟨w.heap.size + 1, 0, none⟩ (.func (.func 216) #[] #[.pointer (some ⟨w1.heap.size, 0, none⟩), .pointer (some ⟨w.heap.size, 0, none⟩), .pointer (some ⟨w.heap.size + 1, 0, none⟩)])).setCell ⟨w.heap.size + 1, 0, none⟩ (.func (.func 216) #[] #[.pointer (some ⟨w1.heap.size, 0, none⟩), .pointer (some ⟨w.heap.size, 0, none⟩), .pointer (some ⟨w.heap.size + 1, 0, none⟩)])) [w.heap.size + 1] :=
  (Ch.one (grown_set _ _ _ _) (by simp)).trans (Ch.one (grown_set _ _ _ _) (by simp))
 have hN := HN.out
 refine ⟨_, _, _, B, rfl, ⟨?_, ?_, ?_, ?_, ?_, ?_, ?_, ?_, ?_, ?_, ?_⟩, by omega, hg4⟩
 ·exact hc5.cell (by simp) (by simp; omega)
 ·exact hc4.cell j0 (by simp)
 ·exact World.cell?_setCell_same _ _ _ (World.cell?_setCell_same _ _ _ j1')
 ·exact fun q => frozen_ch hc4 (by omega) (by simp; omega) (HZ.out q)
 ·have := hc4.size; omega
 ·exact fun i hi => ⟨Ty.li0, (HL.out i hi).ch hc4 (by simp; omega), .inl rfl⟩
 ·exact HT.out.ch (l := []) (Ch.of hg4) (by simp)
 ·omega
 ·omega
 ·omega
 ·omega
theorem isTable_any {N : Nat} {w : World} {T : Nat → Ty.TyV} {n : Nat} {a : Option Addr} {c : Nat} (h : TysIn N w a n c T) (hN : N ≤ w.heap.size) :
  Calls Tryz.prog 184 #[.slice a n c] w fun e w' => e = .returned (.bool (Ty.tabB T n)) ∧ w.grownBy w' none := by
 have hmx := h.max
 have hle := h.le
 unfold maxLen at hmx
 by_cases h64 : n ≤ 64
 ·have h64' : (n : Int) ≤ 64 := by omega
  have HT : Hid (TysIn N w a n c T) := h
  obtain ⟨R, hR⟩ : ∃ R, R = Ty.tabB T n := ⟨_, rfl⟩
  rw [← hR]
  have HR : Hid (R = Ty.tabB T n) := hR
  clear hR h
  go_enter Tryz.func184, Tryz.ntmps184
  go_wp2_with fail
  go_loopw [10] (fun ix wr => ∃ k : Nat, ix = .int .i64 k ∧ k ≤ n ∧ (∀ j, j < k → Ty.okB (T j) j n = true) ∧ w.grownBy wr none) (fun ix _ => n - (intOf ix).toNat)
  case atStart => exact ⟨0, rfl, Nat.zero_le _, fun j hj => by omega, World.grownBy.refl _ _⟩
  case round =>
   obtain ⟨k, rfl, hk, hj, hg⟩ := hrel
   have HJ : Hid (∀ j, j < k → Ty.okB (T j) j n = true) := hj
   have HG : Hid (w.grownBy wr none) := hg
   clear hj hg
   by_cases hkn : k < n
   ·have hkn' : (k : Int) < n := by omega
    obtain ⟨b, off, fa, fc, rfl, hb, hc⟩ := (HT.out.ch (l := []) (Ch.of HG.out) (by simp)).at hkn
    have c0 := hc.c0
    have c1 := hc.c1
    have c2 := hc.c2
    have c3 := hc.c3
    have HC : Hid (∀ W, wr.grownBy W none → Calls Tryz.prog 215 #[.agg #[.int .i64 (T k).kind, .int .i64 (T k).elem, .int .i64 (T k).n, .slice fa (T k).nf fc], .int .i64 k, .int .i64 n] W fun e w' => e = .returned (.bool (Ty.okB (T k) k n)) ∧ W.grownBy w' none) := fun W hW => entry_any (hc.f.ch (l := []) (Ch.of hW) (by simp)) k n
    clear hc
    have HX : Hid (wr.grownBy (wr.alloc (.cells #[.int .i64 (T k).kind, .int .i64 (T k).elem, .int .i64 (T k).n, .slice fa (T k).nf fc] 61)) none) := World.grownBy_alloc _ _ _
    cases hm : Ty.okB (T k) k n
    ·have e : R = false := by
      rw [HR.out]
      cases hh : Ty.tabB T n
      ·rfl
      ·rw [(Ty.tabB_iff.1 hh).2 k hkn] at hm; cases hm
     rw [hm] at HC
     generalize T k = x at *
     go_wp2_with (go_at_call 215; refine (HC.out _ HX.out).mono ?_; rintro e w3 ⟨rfl, hg3⟩)
     go_ret
     exact ⟨by rw [e]; rfl, grown_trans (grown_trans HG.out HX.out) hg3⟩
    ·have HJ2 : Hid (∀ j, j < k + 1 → Ty.okB (T j) j n = true) := fun j hj' => by
      by_cases e : j = k
      ·subst e; exact hm
      ·exact HJ.out j (by omega)
     rw [hm] at HC
     clear hm
     generalize T k = x at c0 c1 c2 c3 HC HX
     go_wp2_with (go_at_call 215; refine (HC.out _ HX.out).mono ?_; rintro e w3 ⟨rfl, hg3⟩)
     go_roundw
     case rel => exact ⟨k + 1, by go_num, by omega, HJ2.out, grown_trans (grown_trans HG.out HX.out) hg3⟩
     case measure => simp [intOf]; omega
   ·obtain rfl : k = n := by omega
    have e : R = true := HR.out.trans (Ty.tabB_iff.2 ⟨h64, HJ.out⟩)
    go_wp2
    go_ret
    exact ⟨by rw [e]; rfl, HG.out⟩
 ·have h64' : (64 : Int) < n := by omega
  have e : Ty.tabB T n = false := by
   cases hh : Ty.tabB T n
   ·rfl
   ·have := (Ty.tabB_iff.1 hh).1; omega
  rw [e]
  clear e h
  go_enter Tryz.func184, Tryz.ntmps184
  go_wp2
  go_ret
  exact ⟨rfl, World.grownBy.refl _ _⟩
theorem ask_all {N : Nat} {T : Nat → Ty.TyV} {n : Nat} {a : Option Addr} {c bf bt ba F : Nat} : ∀ {K : Nat}, Ty.Fine T n K → K ≤ n → AskOk N T n a c bf bt ba F K
 | 0, _, _ => fun j hj => by omega
 | K + 1, hK, hn => ask_step (ask_all (hK.mono (by omega)) (by omega)) (hK.mono (by omega)) (by omega) (hK K (by omega)).1
theorem Ch.fresh {w w1 w2 : World} {F : Nat} (h1 : w.grownBy w1 none) (hF : w.heap.size ≤ F) (h2 : Ch w1 w2 [F]) : w.grownBy w2 none :=
 ((Ch.of (l := [F]) h1).trans h2).nil (by simp; exact hF)
theorem takeTable_form {N : Nat} {w : World} {T : Nat → Ty.TyV} {n : Nat} {a : Option Addr} {c : Nat} (h : TysIn N w a n c T) (hN : N ≤ w.heap.size) (ht : Ty.tabB T n = false) :
  Calls Tryz.prog 144 #[.slice a n c] w fun e w' => e = .returned (.tuple #[.nilFunc, .int .i64 70]) ∧ w.grownBy w' none := by
 have HC : Hid (Calls Tryz.prog 184 #[.slice a n c] w fun e w' => e = .returned (.bool false) ∧ w.grownBy w' none) := by rw [← ht]; exact isTable_any h hN
 clear h ht
 go_enter Tryz.func144, Tryz.ntmps144
 go_wp2_with (go_at_call 184; refine HC.out.mono ?_; rintro e w3 ⟨rfl, hg3⟩)
 go_ret2
 exact ⟨rfl, hg3⟩
theorem takeTable_large {N : Nat} {w : World} {T : Nat → Ty.TyV} {n : Nat} {a : Option Addr} {c : Nat} (h : TysIn N w a n c T) (hN : N ≤ w.heap.size) (ht : Ty.tabB T n = true) {p : Nat} (hp : p < n) (hl : 65536 < (Ty.lie T p).size) (hf : Ty.Fine T n p) :
  Calls Tryz.prog 144 #[.slice a n c] w fun e w' => e = .returned (.tuple #[.nilFunc, .int .i64 71]) ∧ w.grownBy w' none := by
 have hmx := h.max
 have hle := h.le
 unfold maxLen at hmx
 have h64 := (Ty.tabB_iff.1 ht).1
 have HC : Hid (Calls Tryz.prog 184 #[.slice a n c] w fun e w' => e = .returned (.bool true) ∧ w.grownBy w' none) := by rw [← ht]; exact isTable_any h hN
 have HA : Hid (∀ W, w.grownBy W none → Calls Tryz.prog 185 #[.slice a n c] W fun e w' => ∃ bf bt ba F, e = .returned (.func (.func 216) #[] #[.pointer (some ⟨bf, 0, none⟩), .pointer (some ⟨bt, 0, none⟩), .pointer (some ⟨ba, 0, none⟩)]) ∧
   Ak N w' T n a c bf bt ba F ∧ W.heap.size ≤ F ∧ W.grownBy w' none) := fun W hg => newAsker_any (h.ch (l := []) (Ch.of hg) (by simp)) (Nat.le_trans hN hg.size) h64
 have HO : Hid (∀ bf bt ba F, AskOk N T n a c bf bt ba F (p + 1)) := fun bf bt ba F => ask_step (ask_all hf (by omega)) hf hp ((Ty.tabB_iff.1 ht).2 p hp)
 have HL : Hid (∀ (l : Ty.Li) W, Calls Tryz.prog 186 #[.agg #[.int .i64 l.size, .int .i64 l.align, .int .i64 l.words, .bool l.arr]] W fun e w' => e = .returned (.bool (decide (65536 < l.size))) ∧ W.grownBy w' none) := fun l W => large_any l W
 have HS : Hid (∀ j, j < p → (Ty.lie T j).size ≤ 65536) := fun j hj => (hf j hj).2
 have Hl : Hid (65536 < (Ty.lie T p).size) := hl
 clear h ht hf hl
 go_enter Tryz.func144, Tryz.ntmps144
 go_wp2_with (first
  | (go_at_call 184; refine HC.out.mono ?_; rintro e w3 ⟨rfl, hg3⟩)
  | (go_at_call 185; refine (HA.out _ hg3).mono ?_; rintro e w4 ⟨bf, bt, ba, F, rfl, hA4, hF4, hg4⟩))
 have HA4 : Hid (Ak N w4 T n a c bf bt ba F) := hA4
 have HG4 : Hid (w.grownBy w4 none) := grown_trans hg3 hg4
 have hF : w.heap.size ≤ F := Nat.le_trans hg3.size hF4
 clear hA4 hg4 hg3 hF4
 go_loopw [2, 12] (fun fv ix wr => ∃ k : Nat, fv = .func (.func 216) #[] #[.pointer (some ⟨bf, 0, none⟩), .pointer (some ⟨bt, 0, none⟩), .pointer (some ⟨ba, 0, none⟩)] ∧ ix = .int .i64 k ∧ k ≤ p ∧ Ak N wr T n a c bf bt ba F ∧ Ch w4 wr [F]) (fun _ ix _ => n - (intOf ix).toNat)
 case atStart => exact ⟨0, rfl, rfl, Nat.zero_le _, HA4.out, Ch.refl _ _⟩
 case round =>
  obtain ⟨k, rfl, rfl, hk, hA, hg⟩ := hrel
  have HAr : Hid (Ak N wr T n a c bf bt ba F) := hA
  have HG : Hid (Ch w4 wr [F]) := hg
  clear hA hg
  have hkn : k < n := by omega
  have hkn' : (k : Int) < n := by omega
  have HK : Hid (∀ W, Ak N W T n a c bf bt ba F → Calls Tryz.prog 216 #[.int .i64 k, .pointer (some ⟨bf, 0, none⟩), .pointer (some ⟨bt, 0, none⟩), .pointer (some ⟨ba, 0, none⟩)] W fun e w' =>
    e = .returned (.agg #[.int .i64 (Ty.lie T k).size, .int .i64 (Ty.lie T k).align, .int .i64 (Ty.lie T k).words, .bool (Ty.lie T k).arr]) ∧ Ak N w' T n a c bf bt ba F ∧ Ch W w' [F]) := HO.out bf bt ba F k (by omega)
  have HLk := HL.out (Ty.lie T k)
  by_cases hkp : k = p
  ·subst hkp
   have e := Hl.out
   generalize Ty.lie T k = L at *
   have HL2 : Hid (∀ W, Calls Tryz.prog 186 #[.agg #[.int .i64 L.size, .int .i64 L.align, .int .i64 L.words, .bool L.arr]] W fun e w' => e = .returned (.bool true) ∧ W.grownBy w' none) := by intro W; have := HLk W; rw [decide_eq_true e] at this; exact this
   clear HLk
   go_wp2_with (first
    | (go_at_call 216; refine (HK.out _ HAr.out).mono ?_; rintro e w5 ⟨rfl, hA5, hg5⟩)
    | (go_at_call 186; refine (HL2.out _).mono ?_; rintro e w6 ⟨rfl, hg6⟩))
   go_ret2
   exact ⟨rfl, Ch.fresh HG4.out hF ((HG.out.trans hg5).trans (Ch.of hg6))⟩
  ·have e : ¬ 65536 < (Ty.lie T k).size := by have := HS.out k (by omega); omega
   generalize Ty.lie T k = L at HLk HK e
   have HL2 : Hid (∀ W, Calls Tryz.prog 186 #[.agg #[.int .i64 L.size, .int .i64 L.align, .int .i64 L.words, .bool L.arr]] W fun e w' => e = .returned (.bool false) ∧ W.grownBy w' none) := by intro W; have := HLk W; rw [decide_eq_false e] at this; exact this
   clear HLk e
   go_wp2_with (first
    | (go_at_call 216; refine (HK.out _ HAr.out).mono ?_; rintro e w5 ⟨rfl, hA5, hg5⟩)
    | (go_at_call 186; refine (HL2.out _).mono ?_; rintro e w6 ⟨rfl, hg6⟩))
   go_roundw
   case rel => exact ⟨k + 1, rfl, by go_num, by omega, hA5.grow hg6, (HG.out.trans hg5).trans (Ch.of hg6)⟩
   case measure => simp [intOf]; omega
theorem takeTable_ok {N : Nat} {w : World} {T : Nat → Ty.TyV} {n : Nat} {a : Option Addr} {c : Nat} (h : TysIn N w a n c T) (hN : N ≤ w.heap.size) (hc : Ty.chk T n = 0) :
  Calls Tryz.prog 144 #[.slice a n c] w fun e w' => ∃ bf bt ba F, e = .returned (.tuple #[.func (.func 216) #[] #[.pointer (some ⟨bf, 0, none⟩), .pointer (some ⟨bt, 0, none⟩), .pointer (some ⟨ba, 0, none⟩)], .int .i64 0]) ∧
   Ak N w' T n a c bf bt ba F ∧ w.heap.size ≤ F ∧ w.grownBy w' none := by
 have hmx := h.max
 have hle := h.le
 unfold maxLen at hmx
 obtain ⟨h64, hf⟩ := Ty.chk_ok hc
 have ht : Ty.tabB T n = true := Ty.tabB_iff.2 ⟨h64, fun i hi => (hf i hi).1⟩
 have HC : Hid (Calls Tryz.prog 184 #[.slice a n c] w fun e w' => e = .returned (.bool true) ∧ w.grownBy w' none) := by rw [← ht]; exact isTable_any h hN
 have HA : Hid (∀ W, w.grownBy W none → Calls Tryz.prog 185 #[.slice a n c] W fun e w' => ∃ bf bt ba F, e = .returned (.func (.func 216) #[] #[.pointer (some ⟨bf, 0, none⟩), .pointer (some ⟨bt, 0, none⟩), .pointer (some ⟨ba, 0, none⟩)]) ∧
   Ak N w' T n a c bf bt ba F ∧ W.heap.size ≤ F ∧ W.grownBy w' none) := fun W hg => newAsker_any (h.ch (l := []) (Ch.of hg) (by simp)) (Nat.le_trans hN hg.size) h64
 have HO : Hid (∀ bf bt ba F, AskOk N T n a c bf bt ba F n) := fun bf bt ba F => ask_all hf (Nat.le_refl _)
 have HL : Hid (∀ (l : Ty.Li) W, Calls Tryz.prog 186 #[.agg #[.int .i64 l.size, .int .i64 l.align, .int .i64 l.words, .bool l.arr]] W fun e w' => e = .returned (.bool (decide (65536 < l.size))) ∧ W.grownBy w' none) := fun l W => large_any l W
 have HS : Hid (∀ j, j < n → (Ty.lie T j).size ≤ 65536) := fun j hj => (hf j hj).2
 clear h ht hf hc
 go_enter Tryz.func144, Tryz.ntmps144
 go_wp2_with (first
  | (go_at_call 184; refine HC.out.mono ?_; rintro e w3 ⟨rfl, hg3⟩)
  | (go_at_call 185; refine (HA.out _ hg3).mono ?_; rintro e w4 ⟨bf, bt, ba, F, rfl, hA4, hF4, hg4⟩))
 have HA4 : Hid (Ak N w4 T n a c bf bt ba F) := hA4
 have HG4 : Hid (w.grownBy w4 none) := grown_trans hg3 hg4
 have hF : w.heap.size ≤ F := Nat.le_trans hg3.size hF4
 clear hA4 hg4 hg3 hF4
 go_loopw [2, 12] (fun fv ix wr => ∃ k : Nat, fv = .func (.func 216) #[] #[.pointer (some ⟨bf, 0, none⟩), .pointer (some ⟨bt, 0, none⟩), .pointer (some ⟨ba, 0, none⟩)] ∧ ix = .int .i64 k ∧ k ≤ n ∧ Ak N wr T n a c bf bt ba F ∧ Ch w4 wr [F]) (fun _ ix _ => n - (intOf ix).toNat)
 case atStart => exact ⟨0, rfl, rfl, Nat.zero_le _, HA4.out, Ch.refl _ _⟩
 case round =>
  obtain ⟨k, rfl, rfl, hk, hA, hg⟩ := hrel
  have HAr : Hid (Ak N wr T n a c bf bt ba F) := hA
  have HG : Hid (Ch w4 wr [F]) := hg
  clear hA hg
  by_cases hkn : k < n
  ·have hkn' : (k : Int) < n := by omega
   have HK : Hid (∀ W, Ak N W T n a c bf bt ba F → Calls Tryz.prog 216 #[.int .i64 k, .pointer (some ⟨bf, 0, none⟩), .pointer (some ⟨bt, 0, none⟩), .pointer (some ⟨ba, 0, none⟩)] W fun e w' =>
    e = .returned (.agg #[.int .i64 (Ty.lie T k).size, .int .i64 (Ty.lie T k).align, .int .i64 (Ty.lie T k).words, .bool (Ty.lie T k).arr]) ∧ Ak N w' T n a c bf bt ba F ∧ Ch W w' [F]) := HO.out bf bt ba F k (by omega)
   have HLk := HL.out (Ty.lie T k)
   have e : ¬ 65536 < (Ty.lie T k).size := by have := HS.out k (by omega); omega
   generalize Ty.lie T k = L at HLk HK e
   have HL2 : Hid (∀ W, Calls Tryz.prog 186 #[.agg #[.int .i64 L.size, .int .i64 L.align, .int .i64 L.words, .bool L.arr]] W fun e w' => e = .returned (.bool false) ∧ W.grownBy w' none) := by intro W; have := HLk W; rw [decide_eq_false e] at this; exact this
   clear HLk e
   go_wp2_with (first
    | (go_at_call 216; refine (HK.out _ HAr.out).mono ?_; rintro e w5 ⟨rfl, hA5, hg5⟩)
    | (go_at_call 186; refine (HL2.out _).mono ?_; rintro e w6 ⟨rfl, hg6⟩))
   go_roundw
   case rel => exact ⟨k + 1, rfl, by go_num, by omega, hA5.grow hg6, (HG.out.trans hg5).trans (Ch.of hg6)⟩
   case measure => simp [intOf]; omega
  ·obtain rfl : k = n := by omega
   go_wp2
   go_ret2
   exact ⟨bf, bt, ba, F, rfl, HAr.out, hF, Ch.fresh HG4.out hF HG.out⟩
theorem takeTable_no {N : Nat} {w : World} {T : Nat → Ty.TyV} {n : Nat} {a : Option Addr} {c : Nat} (h : TysIn N w a n c T) (hN : N ≤ w.heap.size) (hc : Ty.chk T n ≠ 0) :
  Calls Tryz.prog 144 #[.slice a n c] w fun e w' => e = .returned (.tuple #[.nilFunc, .int .i64 (Ty.chk T n)]) ∧ w.grownBy w' none := by
 cases ht : Ty.tabB T n
 ·rw [Ty.chk_form ht]
  exact takeTable_form h hN ht
 ·obtain ⟨e, p, hp, hl, hf⟩ := Ty.chk_large ht hc
  rw [e]
  exact takeTable_large h hN ht hp hl hf
theorem check_any {N : Nat} {w : World} {T : Nat → Ty.TyV} {n : Nat} {a : Option Addr} {c : Nat} (h : TysIn N w a n c T) (hN : N ≤ w.heap.size) :
    Calls Tryz.prog 89 #[.slice a n c] w fun e w' => e = .returned (.int .i64 (Ty.chk T n)) ∧ w.grownBy w' none := by
  by_cases hc : Ty.chk T n = 0
  · have HC : Hid (Calls Tryz.prog 144 #[.slice a n c] w fun e w' => ∃ bf bt ba F, e = .returned (.tuple #[.func (.func 216) #[] #[.pointer (some ⟨bf, 0, none⟩), .pointer (some ⟨bt, 0, none⟩), .pointer (some ⟨ba, 0, none⟩)], .int .i64 0]) ∧
      Ak N w' T n a c bf bt ba F ∧ w.heap.size ≤ F ∧ w.grownBy w' none) := takeTable_ok h hN hc
    rw [hc]
    clear h hc
    go_enter Tryz.func89, Tryz.ntmps89
    go_wp2_with (go_at_call 144; refine HC.out.mono ?_; rintro e w3 ⟨bf, bt, ba, F, rfl, hA3, hF3, hg3⟩)
    go_ret
    exact ⟨rfl, hg3⟩
  · have HC : Hid (Calls Tryz.prog 144 #[.slice a n c] w fun e w' => e = .returned (.tuple #[.nilFunc, .int .i64 (Ty.chk T n)]) ∧ w.grownBy w' none) := takeTable_no h hN hc
    generalize Ty.chk T n = z at *
    clear h hc
    go_enter Tryz.func89, Tryz.ntmps89
    go_wp2_with (go_at_call 144; refine HC.out.mono ?_; rintro e w3 ⟨rfl, hg3⟩)
    go_ret
    exact ⟨rfl, hg3⟩
theorem takeEntry_ok {N : Nat} {w : World} {T : Nat → Ty.TyV} {n : Nat} {a : Option Addr} {c : Nat} (h : TysIn N w a n c T) (hN : N ≤ w.heap.size) (hc : Ty.chk T n = 0) {i : Nat} (hi : i < n) :
    Calls Tryz.prog 145 #[.slice a n c, .int .i64 i] w fun e w' => ∃ bf bt ba F, e = .returned (.tuple #[.func (.func 216) #[] #[.pointer (some ⟨bf, 0, none⟩), .pointer (some ⟨bt, 0, none⟩), .pointer (some ⟨ba, 0, none⟩)], .int .i64 0]) ∧
      Ak N w' T n a c bf bt ba F ∧ w.heap.size ≤ F ∧ w.grownBy w' none := by
  have HC : Hid (Calls Tryz.prog 144 #[.slice a n c] w fun e w' => ∃ bf bt ba F, e = .returned (.tuple #[.func (.func 216) #[] #[.pointer (some ⟨bf, 0, none⟩), .pointer (some ⟨bt, 0, none⟩), .pointer (some ⟨ba, 0, none⟩)], .int .i64 0]) ∧
    Ak N w' T n a c bf bt ba F ∧ w.heap.size ≤ F ∧ w.grownBy w' none) := takeTable_ok h hN hc
  have hm : Ty.nmB n i = true := Ty.nmB_iff.2 ⟨by omega, by omega⟩
  have HM : Hid (∀ W, Calls Tryz.prog 187 #[.int .i64 n, .int .i64 i] W fun e w' => e = .returned (.bool true) ∧ w' = W) := fun W => by rw [← hm]; exact nm_any _ _ _
  have hle := h.le
  have hmx := h.max
  unfold maxLen at hmx
  clear h hc hm
  go_enter Tryz.func145, Tryz.ntmps145
  go_wp2_with (first
    | (go_at_call 144; refine HC.out.mono ?_; rintro e w3 ⟨bf, bt, ba, F, rfl, hA3, hF3, hg3⟩)
    | (go_at_call 187; refine (HM.out _).mono ?_; rintro e w4 ⟨rfl, rfl⟩))
  go_ret2
  exact ⟨bf, bt, ba, F, rfl, hA3, hF3, hg3⟩
theorem value7_ok {N : Nat} {w : World} {T : Nat → Ty.TyV} {n : Nat} {a : Option Addr} {c : Nat} (h : TysIn N w a n c T) (hN : N ≤ w.heap.size) (hc : Ty.chk T n = 0) {i : Nat} (hi : i < n) :
    Calls Tryz.prog 90 #[.slice a n c, .int .i64 i] w fun e w' => e = .returned (.tuple #[.bool (Ty.valB (Ty.lie T i)), .int .i64 0]) ∧ w.grownBy w' none := by
  have HC : Hid (Calls Tryz.prog 145 #[.slice a n c, .int .i64 i] w fun e w' => ∃ bf bt ba F, e = .returned (.tuple #[.func (.func 216) #[] #[.pointer (some ⟨bf, 0, none⟩), .pointer (some ⟨bt, 0, none⟩), .pointer (some ⟨ba, 0, none⟩)], .int .i64 0]) ∧
      Ak N w' T n a c bf bt ba F ∧ w.heap.size ≤ F ∧ w.grownBy w' none) := takeEntry_ok h hN hc hi
  have HO : Hid (∀ bf bt ba F, ∀ W, Ak N W T n a c bf bt ba F → Calls Tryz.prog 216 #[.int .i64 i, .pointer (some ⟨bf, 0, none⟩), .pointer (some ⟨bt, 0, none⟩), .pointer (some ⟨ba, 0, none⟩)] W fun e w' =>
        e = .returned (.agg #[.int .i64 (Ty.lie T i).size, .int .i64 (Ty.lie T i).align, .int .i64 (Ty.lie T i).words, .bool (Ty.lie T i).arr]) ∧ Ak N w' T n a c bf bt ba F ∧ Ch W w' [F]) := fun bf bt ba F => ask_all (Ty.chk_ok hc).2 (Nat.le_refl _) i hi
  have HV : Hid (∀ (l : Ty.Li) W, Calls Tryz.prog 146 #[.agg #[.int .i64 l.size, .int .i64 l.align, .int .i64 l.words, .bool l.arr]] W fun e w' => e = .returned (.bool (Ty.valB l)) ∧ W.grownBy w' none) := value_any
  generalize Ty.lie T i = L at *
  clear h hc
  go_enter Tryz.func90, Tryz.ntmps90
  go_wp2_with (first
    | (go_at_call 145; refine HC.out.mono ?_; rintro e w3 ⟨bf, bt, ba, F, rfl, hA3, hF3, hg3⟩; have HA3 : Hid (Ak N w3 T n a c bf bt ba F) := hA3; have HG3 : Hid (w.heap.size ≤ F ∧ w.grownBy w3 none) := ⟨hF3, hg3⟩; clear hA3 hF3 hg3)
    | (go_at_call 216; refine (HO.out bf bt ba F _ HA3.out).mono ?_; rintro e w5 ⟨rfl, hA5, hg5⟩)
    | (go_at_call 146; refine (HV.out L _).mono ?_; rintro e w6 ⟨rfl, hg6⟩))
  go_ret2
  exact ⟨rfl, grown_trans (Ch.fresh HG3.out.2 HG3.out.1 hg5) hg6⟩
abbrev ckF (n : Int) : Ending := .panicked [{ v := .iface 102 (.agg #[.int .i64 n]), recovered := false }]
theorem ckMust_ok (e : Int) (w : World) : Calls Tryz.prog 42 #[.bool true, .int .i64 e] w fun r w' => r = .returned (.tuple #[]) ∧ w' = w := by
 go_enter Tryz.func42, Tryz.ntmps42
 go_wp2
 go_end0
 exact ⟨rfl, rfl⟩
theorem ckMust_no (e : Int) (w : World) : Calls Tryz.prog 42 #[.bool false, .int .i64 e] w fun r w' => r = ckF e ∧ w' = w := by
 go_enter Tryz.func42, Tryz.ntmps42
 go_wp2
 exact ⟨rfl, rfl, rfl⟩
theorem ckNum_any (many x : Int) (w : World) : Calls Tryz.prog 43 #[.int .i64 many, .int .i64 x] w fun r w' => r = .returned (.bool (Ty.nmB many x)) ∧ w' = w := by
 unfold Ty.nmB
 by_cases h1 : 0 ≤ x <;> by_cases h2 : x < many
 all_goals
  go_enter Tryz.func43, Tryz.ntmps43
  go_wp2
  go_ret
  exact ⟨by simp [h1, h2], rfl⟩
theorem ckNum64_any (many x : Int) (w : World) (hm : -9223372036854775808 ≤ many ∧ many ≤ 9223372036854775807) : Calls Tryz.prog 160 #[.int .i64 many, .int .i64 x] w fun r w' => r = .returned (.bool (Ty.nmB many x)) ∧ w' = w := by
 unfold Ty.nmB
 by_cases h1 : 0 ≤ x <;> by_cases h2 : x < many
 all_goals
  go_enter Tryz.func160, Tryz.ntmps160
  go_wp2
  go_ret
  exact ⟨by simp [h1, h2], rfl⟩
theorem ckFit_any (want have' : Int) (w : World) : Calls Tryz.prog 77 #[.int .i64 want, .int .i64 have'] w fun r w' => r = .returned (.bool (want == -1 || want == have')) ∧ w' = w := by
 by_cases h1 : want = -1 <;> by_cases h2 : want = have'
 all_goals
  go_enter Tryz.func77, Tryz.ntmps77
  go_wp2
  go_ret
  exact ⟨by simp [h1, h2], rfl⟩
theorem ckPart_any (p : Int) (b : Bool) (w : World) : Calls Tryz.prog 131 #[.int .i64 p, .bool b] w fun r w' => r = .returned (.int .i64 (if b then p else 0)) ∧ w' = w := by
 cases b
 all_goals
  go_enter Tryz.func131, Tryz.ntmps131
  go_wp2
  go_ret
  exact ⟨rfl, rfl⟩
theorem TysIn.grow9 {N : Nat} {w w' : World} {a : Option Addr} {n c : Nat} {T : Nat → Ty.TyV} (h : TysIn N w a n c T) (hg : w.grownBy w' none) : TysIn N w' a n c T := h.ch (l := []) (Ch.of hg) (by simp)
structure Tb (N : Nat) (w : World) (ea : Option Addr) (ec : Nat) (va : Option Addr) (vc : Nat) (T : Nat → Ty.TyV) (n : Nat) : Prop where
 t : TysIn N w ea n ec T
 v : n = 0 ∨ ∃ b, va = some ⟨b, 0, none⟩ ∧ b < N ∧ ∀ i, i < n → w.cell? ⟨b, i, none⟩ = some (.bool (Ty.valB (Ty.lie T i)))
 le : n ≤ vc
 sm : n ≤ 64
theorem Tb.ch {N : Nat} {w w' : World} {ea va : Option Addr} {ec vc n : Nat} {T : Nat → Ty.TyV} {l : List Nat} (h : Tb N w ea ec va vc T n) (g : Ch w w' l) (hl : ∀ k, k ∈ l → N ≤ k) : Tb N w' ea ec va vc T n :=
 ⟨h.t.ch g hl, by
  rcases h.v with h0 | ⟨b, e, hb, hc⟩
  ·exact .inl h0
  ·exact .inr ⟨b, e, hb, fun i hi => g.cell (hc i hi) (fun hm => by have := hl b hm; omega)⟩, h.le, h.sm⟩
theorem Tb.grow {N : Nat} {w w' : World} {ea va : Option Addr} {ec vc n : Nat} {T : Nat → Ty.TyV} (h : Tb N w ea ec va vc T n) (g : w.grownBy w' none) : Tb N w' ea ec va vc T n := h.ch (l := []) (Ch.of g) (by simp)
theorem ckEntry_any (ea va : Option Addr) (n ec vc : Nat) (i : Int) (w : World) : Calls Tryz.prog 78 #[.agg #[.slice ea n ec, .slice va n vc], .int .i64 i] w fun r w' => r = .returned (.bool (Ty.nmB n i)) ∧ w.grownBy w' none := by
 have HN : Hid (∀ many x W, Calls Tryz.prog 43 #[.int .i64 many, .int .i64 x] W fun r w' => r = .returned (.bool (Ty.nmB many x)) ∧ w' = W) := ckNum_any
 go_enter Tryz.func78, Tryz.ntmps78
 go_wp2_with (go_at_call 43; refine (HN.out _ _ _).mono ?_; rintro e w3 ⟨rfl, hw3⟩; rw [hw3]; clear hw3 w3)
 go_ret
 exact ⟨rfl, World.grownBy_alloc _ _ _⟩
theorem ckKind_any {N : Nat} {w : World} {ea va : Option Addr} {ec vc n : Nat} {T : Nat → Ty.TyV} (h : Tb N w ea ec va vc T n) {i : Nat} (hi : i < n) : Calls Tryz.prog 93 #[.agg #[.slice ea n ec, .slice va n vc], .int .i64 (i : Int)] w fun r w' => r = .returned (.int .i64 (T i).kind) ∧ w.grownBy w' none := by
 have hle := h.t.le
 have hi' : (i : Int) < n := by omega
 obtain ⟨b, off, fa, fc, rfl, hb, hty⟩ := (h.t.grow9 (World.grownBy_alloc w (Obj.cells #[.slice ea n ec, .slice va n vc] 74) none)).at hi
 have c0 := hty.c0
 clear hty h
 generalize T i = x at *
 go_enter Tryz.func93, Tryz.ntmps93
 go_wp2
 go_ret
 exact ⟨rfl, World.grownBy_alloc _ _ _⟩
theorem ckBool_any {N : Nat} {w : World} {ea va : Option Addr} {ec vc n : Nat} {T : Nat → Ty.TyV} (h : Tb N w ea ec va vc T n) {i : Nat} (hi : i < n) : Calls Tryz.prog 165 #[.agg #[.slice ea n ec, .slice va n vc], .int .i64 (i : Int)] w fun r w' => r = .returned (.bool ((T i).kind == 1)) ∧ w.grownBy w' none := by
 have HK : Hid (∀ W, w.grownBy W none → Calls Tryz.prog 93 #[.agg #[.slice ea n ec, .slice va n vc], .int .i64 (i : Int)] W fun r w' => r = .returned (.int .i64 (T i).kind) ∧ W.grownBy w' none) := fun W g => ckKind_any (h.grow g) hi
 clear h
 generalize T i = x at *
 have hA := World.grownBy_alloc w (Obj.cells #[.slice ea n ec, .slice va n vc] 74) none
 have HA : Hid (w.grownBy (w.alloc (Obj.cells #[.slice ea n ec, .slice va n vc] 74)) none) := hA
 have b0 : (w.alloc (Obj.cells #[.slice ea n ec, .slice va n vc] 74)).cell? ⟨w.heap.size, 0, none⟩ = some (.slice ea n ec) := by simp
 have b1 : (w.alloc (Obj.cells #[.slice ea n ec, .slice va n vc] 74)).cell? ⟨w.heap.size, 1, none⟩ = some (.slice va n vc) := by simp
 have HB0 : Hid ((w.alloc (Obj.cells #[.slice ea n ec, .slice va n vc] 74)).cell? ⟨w.heap.size, 0, none⟩ = some (.slice ea n ec)) := b0
 have HB1 : Hid ((w.alloc (Obj.cells #[.slice ea n ec, .slice va n vc] 74)).cell? ⟨w.heap.size, 1, none⟩ = some (.slice va n vc)) := b1
 clear hA b0 b1
 go_enter Tryz.func165, Tryz.ntmps165
 go_wp2_with (first
   | (go_at_call 93; refine (HK.out _ HA.out).mono ?_; rintro e w3 ⟨rfl, hg3⟩; have HG3 : Hid (w.grownBy w3 none) := grown_trans HA.out hg3; have b0 := (Ch.of (l := []) hg3).cell HB0.out (by simp); have b1 := (Ch.of (l := []) hg3).cell HB1.out (by simp); clear hg3 HA)
   | (go_at_call 93; refine (HK.out _ HG3.out).mono ?_; rintro e w4 ⟨rfl, hg4⟩; have HG3 : Hid (w.grownBy w4 none) := grown_trans HG3.out hg4; clear hg4))
 all_goals go_ret
 all_goals exact ⟨by simp [*] <;> omega, HG3.out⟩
theorem ckInt_any {N : Nat} {w : World} {ea va : Option Addr} {ec vc n : Nat} {T : Nat → Ty.TyV} (h : Tb N w ea ec va vc T n) {i : Nat} (hi : i < n) : Calls Tryz.prog 172 #[.agg #[.slice ea n ec, .slice va n vc], .int .i64 (i : Int)] w fun r w' => r = .returned (.bool (decide (2 ≤ (T i).kind) && decide ((T i).kind ≤ 9))) ∧ w.grownBy w' none := by
 have HK : Hid (∀ W, w.grownBy W none → Calls Tryz.prog 93 #[.agg #[.slice ea n ec, .slice va n vc], .int .i64 (i : Int)] W fun r w' => r = .returned (.int .i64 (T i).kind) ∧ W.grownBy w' none) := fun W g => ckKind_any (h.grow g) hi
 clear h
 generalize T i = x at *
 have hA := World.grownBy_alloc w (Obj.cells #[.slice ea n ec, .slice va n vc] 74) none
 have HA : Hid (w.grownBy (w.alloc (Obj.cells #[.slice ea n ec, .slice va n vc] 74)) none) := hA
 have b0 : (w.alloc (Obj.cells #[.slice ea n ec, .slice va n vc] 74)).cell? ⟨w.heap.size, 0, none⟩ = some (.slice ea n ec) := by simp
 have b1 : (w.alloc (Obj.cells #[.slice ea n ec, .slice va n vc] 74)).cell? ⟨w.heap.size, 1, none⟩ = some (.slice va n vc) := by simp
 have HB0 : Hid ((w.alloc (Obj.cells #[.slice ea n ec, .slice va n vc] 74)).cell? ⟨w.heap.size, 0, none⟩ = some (.slice ea n ec)) := b0
 have HB1 : Hid ((w.alloc (Obj.cells #[.slice ea n ec, .slice va n vc] 74)).cell? ⟨w.heap.size, 1, none⟩ = some (.slice va n vc)) := b1
 clear hA b0 b1
 go_enter Tryz.func172, Tryz.ntmps172
 go_wp2_with (first
   | (go_at_call 93; refine (HK.out _ HA.out).mono ?_; rintro e w3 ⟨rfl, hg3⟩; have HG3 : Hid (w.grownBy w3 none) := grown_trans HA.out hg3; have b0 := (Ch.of (l := []) hg3).cell HB0.out (by simp); have b1 := (Ch.of (l := []) hg3).cell HB1.out (by simp); clear hg3 HA)
   | (go_at_call 93; refine (HK.out _ HG3.out).mono ?_; rintro e w4 ⟨rfl, hg4⟩; have HG3 : Hid (w.grownBy w4 none) := grown_trans HG3.out hg4; clear hg4))
 all_goals go_ret
 all_goals exact ⟨by simp [*] <;> omega, HG3.out⟩
theorem ckPlain_any {N : Nat} {w : World} {ea va : Option Addr} {ec vc n : Nat} {T : Nat → Ty.TyV} (h : Tb N w ea ec va vc T n) {i : Nat} (hi : i < n) : Calls Tryz.prog 94 #[.agg #[.slice ea n ec, .slice va n vc], .int .i64 (i : Int)] w fun r w' => r = .returned (.bool (decide (1 ≤ (T i).kind) && decide ((T i).kind ≤ 10))) ∧ w.grownBy w' none := by
 have HK : Hid (∀ W, w.grownBy W none → Calls Tryz.prog 93 #[.agg #[.slice ea n ec, .slice va n vc], .int .i64 (i : Int)] W fun r w' => r = .returned (.int .i64 (T i).kind) ∧ W.grownBy w' none) := fun W g => ckKind_any (h.grow g) hi
 clear h
 generalize T i = x at *
 have hA := World.grownBy_alloc w (Obj.cells #[.slice ea n ec, .slice va n vc] 74) none
 have HA : Hid (w.grownBy (w.alloc (Obj.cells #[.slice ea n ec, .slice va n vc] 74)) none) := hA
 have b0 : (w.alloc (Obj.cells #[.slice ea n ec, .slice va n vc] 74)).cell? ⟨w.heap.size, 0, none⟩ = some (.slice ea n ec) := by simp
 have b1 : (w.alloc (Obj.cells #[.slice ea n ec, .slice va n vc] 74)).cell? ⟨w.heap.size, 1, none⟩ = some (.slice va n vc) := by simp
 have HB0 : Hid ((w.alloc (Obj.cells #[.slice ea n ec, .slice va n vc] 74)).cell? ⟨w.heap.size, 0, none⟩ = some (.slice ea n ec)) := b0
 have HB1 : Hid ((w.alloc (Obj.cells #[.slice ea n ec, .slice va n vc] 74)).cell? ⟨w.heap.size, 1, none⟩ = some (.slice va n vc)) := b1
 clear hA b0 b1
 go_enter Tryz.func94, Tryz.ntmps94
 go_wp2_with (first
   | (go_at_call 93; refine (HK.out _ HA.out).mono ?_; rintro e w3 ⟨rfl, hg3⟩; have HG3 : Hid (w.grownBy w3 none) := grown_trans HA.out hg3; have b0 := (Ch.of (l := []) hg3).cell HB0.out (by simp); have b1 := (Ch.of (l := []) hg3).cell HB1.out (by simp); clear hg3 HA)
   | (go_at_call 93; refine (HK.out _ HG3.out).mono ?_; rintro e w4 ⟨rfl, hg4⟩; have HG3 : Hid (w.grownBy w4 none) := grown_trans HG3.out hg4; clear hg4))
 all_goals go_ret
 all_goals exact ⟨by simp [*] <;> omega, HG3.out⟩
theorem ckList_any {N : Nat} {w : World} {ea va : Option Addr} {ec vc n : Nat} {T : Nat → Ty.TyV} (h : Tb N w ea ec va vc T n) {i : Nat} (hi : i < n) : Calls Tryz.prog 173 #[.agg #[.slice ea n ec, .slice va n vc], .int .i64 (i : Int)] w fun r w' => r = .returned (.bool ((T i).kind == 14 || (T i).kind == 15)) ∧ w.grownBy w' none := by
 have HK : Hid (∀ W, w.grownBy W none → Calls Tryz.prog 93 #[.agg #[.slice ea n ec, .slice va n vc], .int .i64 (i : Int)] W fun r w' => r = .returned (.int .i64 (T i).kind) ∧ W.grownBy w' none) := fun W g => ckKind_any (h.grow g) hi
 clear h
 generalize T i = x at *
 have hA := World.grownBy_alloc w (Obj.cells #[.slice ea n ec, .slice va n vc] 74) none
 have HA : Hid (w.grownBy (w.alloc (Obj.cells #[.slice ea n ec, .slice va n vc] 74)) none) := hA
 have b0 : (w.alloc (Obj.cells #[.slice ea n ec, .slice va n vc] 74)).cell? ⟨w.heap.size, 0, none⟩ = some (.slice ea n ec) := by simp
 have b1 : (w.alloc (Obj.cells #[.slice ea n ec, .slice va n vc] 74)).cell? ⟨w.heap.size, 1, none⟩ = some (.slice va n vc) := by simp
 have HB0 : Hid ((w.alloc (Obj.cells #[.slice ea n ec, .slice va n vc] 74)).cell? ⟨w.heap.size, 0, none⟩ = some (.slice ea n ec)) := b0
 have HB1 : Hid ((w.alloc (Obj.cells #[.slice ea n ec, .slice va n vc] 74)).cell? ⟨w.heap.size, 1, none⟩ = some (.slice va n vc)) := b1
 clear hA b0 b1
 go_enter Tryz.func173, Tryz.ntmps173
 go_wp2_with (first
   | (go_at_call 93; refine (HK.out _ HA.out).mono ?_; rintro e w3 ⟨rfl, hg3⟩; have HG3 : Hid (w.grownBy w3 none) := grown_trans HA.out hg3; have b0 := (Ch.of (l := []) hg3).cell HB0.out (by simp); have b1 := (Ch.of (l := []) hg3).cell HB1.out (by simp); clear hg3 HA)
   | (go_at_call 93; refine (HK.out _ HG3.out).mono ?_; rintro e w4 ⟨rfl, hg4⟩; have HG3 : Hid (w.grownBy w4 none) := grown_trans HG3.out hg4; clear hg4))
 all_goals go_ret
 all_goals exact ⟨by simp [*] <;> omega, HG3.out⟩
theorem ckValue_any {N : Nat} {w : World} {ea va : Option Addr} {ec vc n : Nat} {T : Nat → Ty.TyV} (h : Tb N w ea ec va vc T n) (i : Int) : Calls Tryz.prog 92 #[.agg #[.slice ea n ec, .slice va n vc], .int .i64 i] w fun r w' => r = .returned (.bool (Ty.nmB n i && Ty.valB (Ty.lie T i.toNat))) ∧ w.grownBy w' none := by
 have HE : Hid (∀ W, Calls Tryz.prog 78 #[.agg #[.slice ea n ec, .slice va n vc], .int .i64 i] W fun r w' => r = .returned (.bool (Ty.nmB n i)) ∧ W.grownBy w' none) := fun W => ckEntry_any ea va n ec vc i W
 have hle := h.le
 by_cases hi : 0 ≤ i ∧ i < n
 ·obtain ⟨j, rfl⟩ : ∃ j : Nat, i = j := ⟨i.toNat, by omega⟩
  have hn : Ty.nmB n (j : Int) = true := Ty.nmB_iff.2 hi
  rw [hn] at HE ⊢
  rw [Bool.true_and, Int.toNat_natCast]
  have HV : Hid (∀ W, w.grownBy W none → ∃ b, va = some ⟨b, 0, none⟩ ∧ W.cell? ⟨b, j, none⟩ = some (.bool (Ty.valB (Ty.lie T j)))) := fun W g => by
   rcases (h.grow g).v with h0 | ⟨b, e, _, hc⟩
   ·omega
   ·exact ⟨b, e, hc j (by omega)⟩
  obtain ⟨b, rfl, _⟩ := HV.out w (World.grownBy.refl _ _)
  clear h hn
  have HB0 : Hid ((w.alloc (Obj.cells #[.slice ea n ec, .slice (some ⟨b, 0, none⟩) n vc] 74)).cell? ⟨w.heap.size, 1, none⟩ = some (.slice (some ⟨b, 0, none⟩) n vc)) := by
   have b0 : (w.alloc (Obj.cells #[.slice ea n ec, .slice (some ⟨b, 0, none⟩) n vc] 74)).cell? ⟨w.heap.size, 1, none⟩ = some (.slice (some ⟨b, 0, none⟩) n vc) := by simp
   exact b0
  have HA : Hid (w.grownBy (w.alloc (Obj.cells #[.slice ea n ec, .slice (some ⟨b, 0, none⟩) n vc] 74)) none) := World.grownBy_alloc _ _ _
  generalize Ty.valB (Ty.lie T j) = z at *
  go_enter Tryz.func92, Tryz.ntmps92
  go_wp2_with (go_at_call 78; refine (HE.out _).mono ?_; rintro e w3 ⟨rfl, hg3⟩; have HG3 : Hid (w.grownBy w3 none) := grown_trans HA.out hg3; have b1 := (Ch.of (l := []) hg3).cell HB0.out (by simp); obtain ⟨b', hb', c1⟩ := HV.out _ HG3.out; injection hb' with hb'; injection hb' with hb'; subst hb'; clear hg3)
  go_ret
  exact ⟨rfl, HG3.out⟩
 ·have hn : Ty.nmB n i = false := by rw [← Bool.not_eq_true, Ty.nmB_iff]; exact hi
  rw [hn] at HE ⊢
  rw [Bool.false_and]
  clear h hn
  have HB0 : Hid ((w.alloc (Obj.cells #[.slice ea n ec, .slice va n vc] 74)).cell? ⟨w.heap.size, 1, none⟩ = some (.slice va n vc)) := by
   have b0 : (w.alloc (Obj.cells #[.slice ea n ec, .slice va n vc] 74)).cell? ⟨w.heap.size, 1, none⟩ = some (.slice va n vc) := by simp
   exact b0
  have HA : Hid (w.grownBy (w.alloc (Obj.cells #[.slice ea n ec, .slice va n vc] 74)) none) := World.grownBy_alloc _ _ _
  go_enter Tryz.func92, Tryz.ntmps92
  go_wp2_with (go_at_call 78; refine (HE.out _).mono ?_; rintro e w3 ⟨rfl, hg3⟩; have HG3 : Hid (w.grownBy w3 none) := grown_trans HA.out hg3; clear hg3)
  go_ret
  exact ⟨rfl, HG3.out⟩
theorem ckPoints_any {N : Nat} {w : World} {ea va : Option Addr} {ec vc n : Nat} {T : Nat → Ty.TyV} (h : Tb N w ea ec va vc T n) {i : Nat} (hi : i < n) (to : Int) : Calls Tryz.prog 170 #[.agg #[.slice ea n ec, .slice va n vc], .int .i64 (i : Int), .int .i64 to] w fun r w' => r = .returned (.bool ((T i).kind == 11 && (T i).elem == to)) ∧ w.grownBy w' none := by
 have HK : Hid (∀ W, w.grownBy W none → Calls Tryz.prog 93 #[.agg #[.slice ea n ec, .slice va n vc], .int .i64 (i : Int)] W fun r w' => r = .returned (.int .i64 (T i).kind) ∧ W.grownBy w' none) := fun W g => ckKind_any (h.grow g) hi
 have hle := h.t.le
 have hi' : (i : Int) < n := by omega
 have HT : Hid (∀ W, w.grownBy W none → ∃ b off, ea = some ⟨b, off, none⟩ ∧ W.cell? ⟨b, off + i * 4 + 1, none⟩ = some (.int .i64 (T i).elem)) := fun W g => by
  obtain ⟨b, off, fa, fc, e, hb, hty⟩ := (h.t.grow9 g).at hi
  exact ⟨b, off, e, hty.c1⟩
 obtain ⟨b, off, rfl, _⟩ := HT.out w (World.grownBy.refl _ _)
 have b0 : (w.alloc (Obj.cells #[.slice (some ⟨b, off, none⟩) n ec, .slice va n vc] 74)).cell? ⟨w.heap.size, 0, none⟩ = some (.slice (some ⟨b, off, none⟩) n ec) := by simp
 have HB0 : Hid ((w.alloc (Obj.cells #[.slice (some ⟨b, off, none⟩) n ec, .slice va n vc] 74)).cell? ⟨w.heap.size, 0, none⟩ = some (.slice (some ⟨b, off, none⟩) n ec)) := b0
 have HA : Hid (w.grownBy (w.alloc (Obj.cells #[.slice (some ⟨b, off, none⟩) n ec, .slice va n vc] 74)) none) := World.grownBy_alloc _ _ _
 clear h b0
 generalize T i = x at *
 go_enter Tryz.func170, Tryz.ntmps170
 go_wp2_with (go_at_call 93; refine (HK.out _ HA.out).mono ?_; rintro e w3 ⟨rfl, hg3⟩; have HG3 : Hid (w.grownBy w3 none) := grown_trans HA.out hg3; have b1 := (Ch.of (l := []) hg3).cell HB0.out (by simp); obtain ⟨b', off', hb', c1⟩ := HT.out _ HG3.out; injection hb' with hb'; injection hb' with hb' ho'; subst hb' ho'; clear hg3)
 all_goals go_ret
 all_goals exact ⟨by simp [*], HG3.out⟩
end Go.Proofs.YtpcgkggpmipiaaaGreat
namespace Go.Proofs.YtpcgkggpmipiaaaGreat
open Go.RowKit
set_option linter.unusedVariables false
def Bk (w : World) (B : Nat) (t : TypeId) (l : List Value) : Prop := w.heap[B]? = some (.cells l.toArray t)
theorem Bk.cell {w : World} {B : Nat} {t : TypeId} {l : List Value} (h : Bk w B t l) {i : Nat} {v : Value} (hv : l[i]? = some v) : w.cell? ⟨B, i, none⟩ = some v := by
 unfold Bk at h
 simp [World.cell?, h, hv]
theorem Bk.frozen {w : World} {B : Nat} {t : TypeId} {l : List Value} (h : Bk w B t l) (i : Nat) : w.frozen? ⟨B, i, none⟩ = false := by
 unfold Bk at h
 simp [World.frozen?, h]
theorem Bk.lt {w : World} {B : Nat} {t : TypeId} {l : List Value} (h : Bk w B t l) : B < w.heap.size := (Array.getElem?_eq_some_iff.1 h).1
theorem Bk.ch {w w' : World} {B : Nat} {t : TypeId} {l : List Value} {m : List Nat} (h : Bk w B t l) (g : Ch w w' m) (hB : B ∉ m) : Bk w' B t l := (g.block B h.lt hB).trans h
theorem Bk.grow {w w' : World} {B : Nat} {t : TypeId} {l : List Value} (h : Bk w B t l) (g : w.grownBy w' none) : Bk w' B t l := h.ch (m := []) (Ch.of g) (by simp)
theorem Bk.new (w : World) (t : TypeId) (l : List Value) : Bk (w.alloc (.cells l.toArray t)) w.heap.size t l := by
 show (w.heap.push _)[w.heap.size]? = _
 simp
theorem Bk.set {w : World} {B : Nat} {t : TypeId} {l : List Value} (h : Bk w B t l) (i : Nat) (v : Value) : Bk (w.setCell ⟨B, i, none⟩ v) B t (l.set i v) := by
 unfold Bk at h ⊢
 simp [World.setCell, Array.getElem?_modify, h]
def put3 (w : World) (B : Nat) (x y z : Value) : World := ((w.setCell ⟨B, 0, none⟩ x).setCell ⟨B, 1, none⟩ y).setCell ⟨B, 2, none⟩ z
theorem Bk.put3 {w : World} {B : Nat} {t : TypeId} {a b c : Value} (h : Bk w B t [a, b, c]) (x y z : Value) : Bk (put3 w B x y z) B t [x, y, z] := ((h.set 0 x).set 1 y).set 2 z
theorem ch_put3 (w : World) (B : Nat) (x y z : Value) : Ch w (put3 w B x y z) [B] := ((Ch.one (grown_set _ _ _ _) (by simp)).trans (Ch.one (grown_set _ _ _ _) (by simp))).trans (Ch.one (grown_set _ _ _ _) (by simp))
end Go.Proofs.YtpcgkggpmipiaaaGreat
