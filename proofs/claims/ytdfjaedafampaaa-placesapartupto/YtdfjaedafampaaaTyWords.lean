/- An entry's words told: words, Words. -/
import Derived.Test.YtdfjaedafampaaaTyWalk
namespace Go.Proofs.Ytdfjaedafampaaa
open Go.RowKit
set_option linter.unusedVariables false

theorem walk_all {N : Nat} {T : Nat → Ty.TyV} {n : Nat} {a : Option Addr} {c bf bt ba F M : Nat} (hF : Ty.Fine T n n) : ∀ {K : Nat}, K ≤ n → WalkOk N T n a c bf bt ba F M K
  | 0, _ => fun j hj => by omega
  | K + 1, hn => walk_step (walk_all hF (by omega)) hF (by omega)
theorem cell_new {w : World} (v : Value) (t : TypeId) {b : Nat} (hb : b = w.heap.size) : (w.alloc (.cells #[v] t)).cell? ⟨b, 0, none⟩ = some v := by subst hb; simp
theorem cell_old {w : World} {b : Nat} {v : Value} (h : w.cell? ⟨b, 0, none⟩ = some v) (o : Obj) : (w.alloc o).cell? ⟨b, 0, none⟩ = some v := (Ch.of (l := []) (World.grownBy_alloc w o none)).cell h (by simp)
theorem fz_new {w : World} (v : Value) (t : TypeId) {b : Nat} (hb : b = w.heap.size) : (w.alloc (.cells #[v] t)).frozen? ⟨b, 0, none⟩ = false := by subst hb; simp
theorem fz_old {w : World} {b : Nat} (h : w.frozen? ⟨b, 0, none⟩ = false) (hb : b < w.heap.size) (o : Obj) : (w.alloc o).frozen? ⟨b, 0, none⟩ = false := frozen_ch (l := []) (Ch.of (World.grownBy_alloc w o none)) hb (by simp) h
set_option maxRecDepth 100000 in
set_option maxHeartbeats 8000000 in
theorem words7_in {N : Nat} {w : World} {T : Nat → Ty.TyV} {n : Nat} {a : Option Addr} {c bf bt ba F : Nat} (hA : Ak N w T n a c bf bt ba F) (hF : Ty.Fine T n n) {i : Nat} (hi : i < n) :
    Calls Try.prog 42 #[.slice a n c, .func (.func 49) #[] #[.pointer (some ⟨bf, 0, none⟩), .pointer (some ⟨bt, 0, none⟩), .pointer (some ⟨ba, 0, none⟩)], .int .i64 i] w fun e w' =>
      ∃ vK vO, e = .returned (.tuple #[vK, vO]) ∧ OwnZ w' w.heap.size vK (Ty.k1 (Ty.wk T i)) ∧ OwnZ w' w.heap.size vO (Ty.k2 (Ty.wk T i)) ∧ (∀ q, vK.ownBlock = some q → vO.ownBlock ≠ some q) ∧ Ch w w' [F] := by
  obtain ⟨hgd, hsz⟩ := hF.good i hi
  obtain ⟨b1, b2, b3⟩ := hA.bl
  have b4 := hA.lt
  have hw0 := hgd.w0
  have hws := hgd.ws
  obtain ⟨W5, hW5⟩ : ∃ W5, W5 = ((((w.alloc (.cells #[.slice a n c] 23)).alloc (.cells #[.func (.func 49) #[] #[.pointer (some ⟨bf, 0, none⟩), .pointer (some ⟨bt, 0, none⟩), .pointer (some ⟨ba, 0, none⟩)]] 65)).alloc (.cells #[.slice none 0 0] 24)).alloc (.cells #[.slice none 0 0] 24)).alloc (.cells #[.func (.func 52) #[] #[.pointer (some ⟨w.heap.size, 0, none⟩), .pointer (some ⟨w.heap.size + 1, 0, none⟩), .pointer (some ⟨w.heap.size + 1 + 1 + 1 + 1, 0, none⟩), .pointer (some ⟨w.heap.size + 1 + 1, 0, none⟩), .pointer (some ⟨w.heap.size + 1 + 1 + 1, 0, none⟩)]] 97) := ⟨_, rfl⟩
  have hg5 : w.grownBy W5 none := by rw [hW5]; exact ga (ga (ga (ga (World.grownBy_alloc _ _ _) _) _) _) _
  have hs5 : W5.heap.size = w.heap.size + 5 := by rw [hW5]; simp
  have hS5 : Ws N W5 T n a c bf bt ba F w.heap.size (.slice none 0 0) (.slice none 0 0) [] [] := by
    refine ⟨hA.grow hg5, b1, b2, b3, b4, ?_, ?_, ?_, ?_, ?_, ?_, ?_, ownZ_nil _ _, ownZ_nil _ _, fun q hq => by cases hq⟩
    all_goals rw [hW5]
    · exact cell_old (cell_old (cell_old (cell_old (cell_new _ _ rfl) _) _) _) _
    · exact cell_old (cell_old (cell_old (cell_new _ _ (by simp)) _) _) _
    · exact cell_old (cell_old (cell_new _ _ (by simp)) _) _
    · exact cell_old (cell_new _ _ (by simp)) _
    · exact cell_new _ _ (by simp)
    · exact fz_old (fz_old (fz_new _ _ (by simp)) (by simp) _) (by simp) _
    · exact fz_old (fz_new _ _ (by simp)) (by simp) _
  have hC := walk_all (N := N) (a := a) (c := c) (bf := bf) (bt := bt) (ba := ba) (F := F) (M := w.heap.size) hF (Nat.le_refl _) i hi 0 W5 _ _ _ _ hS5 (Int.le_refl _) (by omega) (by simp; omega) (by simp; omega)
  rw [hW5] at hC
  have HC : Hid (Calls Try.prog _ _ _ _) := hC
  have HG5 : Hid (w.grownBy W5 none) := hg5
  have HW5 : Hid (W5 = _) := hW5
  clear hA hF hgd hS5 hg5 hW5 hC
  go_enter Try.func42, Try.ntmps42
  go_wp2_with (go_at_call 52; refine HC.out.mono ?_; rintro e w6 ⟨rfl, vK, vO, hS6, hM6⟩)
  have HS6 : Hid (Ws N w6 T n a c bf bt ba F w.heap.size vK vO ([] ++ Ty.k1 (Ty.wk T i)) ([] ++ Ty.k2 (Ty.sh 0 (Ty.wk T i)))) := hS6
  have HM6 : Hid (Wm F w.heap.size W5 w6 (.slice none 0 0) (.slice none 0 0) vK vO) := by rw [HW5.out]; exact hM6
  have cK : w6.cell? ⟨w.heap.size + 1 + 1, 0, none⟩ = some vK := hS6.cK
  have cO : w6.cell? ⟨w.heap.size + 1 + 1 + 1, 0, none⟩ = some vO := hS6.cO
  have zK : w6.frozen? ⟨w.heap.size + 1 + 1, 0, none⟩ = false := hS6.zK
  have zO : w6.frozen? ⟨w.heap.size + 1 + 1 + 1, 0, none⟩ = false := hS6.zO
  obtain ⟨aK, pK, hvK, _⟩ := hS6.oK.slice
  obtain ⟨aO, pO, hvO, _⟩ := hS6.oO.slice
  generalize ([] ++ Ty.k1 (Ty.wk T i)).length = lK at hvK
  generalize ([] ++ Ty.k2 (Ty.sh 0 (Ty.wk T i))).length = lO at hvO
  subst hvK hvO
  obtain ⟨sK, hsK⟩ : ∃ s, s = w.heap.size + 1 + 1 := ⟨_, rfl⟩
  obtain ⟨sO, hsO⟩ : ∃ s, s = w.heap.size + 1 + 1 + 1 := ⟨_, rfl⟩
  rw [← hsO, ← hsK]
  rw [← hsK] at cK zK
  rw [← hsO] at cO zO
  have hne : ¬ sK = sO := by omega
  have HsK : Hid (sK = w.heap.size + 2) := hsK
  have HsO : Hid (sO = w.heap.size + 3) := hsO
  clear hS6 hM6 hsK hsO HC
  go_region
  all_goals (try go_wp2)
  have r0 : ((w6.setCell ⟨sK, 0, none⟩ (.slice aK lK pK)).setCell ⟨sO, 0, none⟩ (.slice aO lO pO)).drew.cell? ⟨sK, 0, none⟩ = some (.slice aK lK pK) := (World.cell?_setCell_other _ _ _ _ (fun e => by injection e with e; omega)).trans (World.cell?_setCell_same _ _ _ cK)
  have r1 : ((w6.setCell ⟨sK, 0, none⟩ (.slice aK lK pK)).setCell ⟨sO, 0, none⟩ (.slice aO lO pO)).drew.cell? ⟨sO, 0, none⟩ = some (.slice aO lO pO) := World.cell?_setCell_same _ _ _ ((World.cell?_setCell_other _ _ _ _ (fun e => by injection e with e; omega)).trans cO)
  obtain ⟨W9, hW9⟩ : ∃ W9, W9 = ((w6.setCell ⟨sK, 0, none⟩ (.slice aK lK pK)).setCell ⟨sO, 0, none⟩ (.slice aO lO pO)).drew := ⟨_, rfl⟩
  rw [← hW9] at r0 r1 ⊢
  refine bodyPost_ret (by simp [results, Try.results42, go_sem, r0, r1]; try rfl) rfl ?_
  have hS := HS6.out
  have hsK := HsK.out
  have hsO := HsO.out
  have hb1 := hS.oK.base
  have hb2 := hS.oO.base
  have g9 : Ch w6 W9 [sK, sO] := by
    rw [hW9]
    exact ((Ch.one (grown_set _ _ _ _) (by simp)).trans (Ch.one (grown_set _ _ _ _) (by simp))).trans (Ch.of (grown_drew (World.grownBy.refl _ _)))
  refine ⟨_, _, rfl, ?_, ?_, hS.ap, ?_⟩
  · exact (hS.oK.ch g9 (fun q hq => by have := hb1 q hq; simp; omega)).low (by omega)
  · have e : Ty.k2 (Ty.wk T i) = [] ++ Ty.k2 (Ty.sh 0 (Ty.wk T i)) := by simp [Ty.k2, Ty.sh]
    rw [e]
    exact (hS.oO.ch g9 (fun q hq => by have := hb2 q hq; simp; omega)).low (by omega)
  · have h1 := (Ch.of (l := F :: [sK, sO]) HG5.out).trans ((HM6.out.ch.mono (fun k _ hk => ?_)).trans (g9.mono (fun k _ hk => List.mem_cons_of_mem _ hk)))
    · exact h1.mono (fun k hk hm => by simp at hm ⊢; omega)
    · rw [wl_mem] at hk
      rcases hk with e | e | e | e | e
      · simp [e]
      · simp [e, hsK]
      · simp [e, hsO]
      · cases e
      · cases e
set_option maxRecDepth 100000 in
set_option maxHeartbeats 4000000 in
theorem words7_no {N : Nat} {w : World} {T : Nat → Ty.TyV} {n : Nat} {a : Option Addr} {c : Nat} (h : TysIn N w a n c T) (hN : N ≤ w.heap.size) {i : Int} (hi : Ty.cod T n i ≠ 0) :
    Calls Try.prog 29 #[.slice a n c, .int .i64 i] w fun e w' => e = .returned (.tuple #[.slice none 0 0, .slice none 0 0, .int .i64 (Ty.cod T n i)]) ∧ w.grownBy w' none := by
  have HC : Hid (Calls Try.prog 40 #[.slice a n c, .int .i64 i] w fun e w' => e = .returned (.tuple #[.nilFunc, .int .i64 (Ty.cod T n i)]) ∧ w.grownBy w' none) := takeEntry_no h hN hi
  have hz : (Ty.cod T n i != 0) = true := by simpa using hi
  generalize Ty.cod T n i = z at *
  clear h hi
  go_enter Try.func29, Try.ntmps29
  go_wp2_with (go_at_call 40; refine HC.out.mono ?_; rintro e w3 ⟨rfl, hg3⟩)
  refine bodyPost_ret (by simp [results, Try.results29, go_sem]; try rfl) rfl ?_
  exact ⟨rfl, hg3⟩
set_option maxRecDepth 100000 in
set_option maxHeartbeats 4000000 in
theorem words7_none {N : Nat} {w : World} {T : Nat → Ty.TyV} {n : Nat} {a : Option Addr} {c : Nat} (h : TysIn N w a n c T) (hN : N ≤ w.heap.size) (hc : Ty.chk T n = 0) {i : Nat} (hi : i < n) (hv : Ty.valB (Ty.lie T i) = false) :
    Calls Try.prog 29 #[.slice a n c, .int .i64 i] w fun e w' => e = .returned (.tuple #[.slice none 0 0, .slice none 0 0, .int .i64 70]) ∧ w.grownBy w' none := by
  have HC : Hid (Calls Try.prog 40 #[.slice a n c, .int .i64 i] w fun e w' => ∃ bf bt ba F, e = .returned (.tuple #[.func (.func 49) #[] #[.pointer (some ⟨bf, 0, none⟩), .pointer (some ⟨bt, 0, none⟩), .pointer (some ⟨ba, 0, none⟩)], .int .i64 0]) ∧
      Ak N w' T n a c bf bt ba F ∧ w.heap.size ≤ F ∧ w.grownBy w' none) := takeEntry_ok h hN hc hi
  have HO : Hid (∀ bf bt ba F, ∀ W, Ak N W T n a c bf bt ba F → Calls Try.prog 49 #[.int .i64 i, .pointer (some ⟨bf, 0, none⟩), .pointer (some ⟨bt, 0, none⟩), .pointer (some ⟨ba, 0, none⟩)] W fun e w' =>
        e = .returned (.agg #[.int .i64 (Ty.lie T i).size, .int .i64 (Ty.lie T i).align, .int .i64 (Ty.lie T i).words, .bool (Ty.lie T i).arr]) ∧ Ak N w' T n a c bf bt ba F ∧ Ch W w' [F]) := fun bf bt ba F => ask_all (Ty.chk_ok hc).2 (Nat.le_refl _) i hi
  generalize Ty.lie T i = L at *
  have HV : Hid (∀ W, Calls Try.prog 41 #[.agg #[.int .i64 L.size, .int .i64 L.align, .int .i64 L.words, .bool L.arr]] W fun e w' => e = .returned (.bool false) ∧ W.grownBy w' none) := fun W => by rw [← hv]; exact value_any L W
  clear h hc hv
  go_enter Try.func29, Try.ntmps29
  go_wp2_with (first
    | (go_at_call 40; refine HC.out.mono ?_; rintro e w3 ⟨bf, bt, ba, F, rfl, hA3, hF3, hg3⟩; have HA3 : Hid (Ak N w3 T n a c bf bt ba F) := hA3; have HG3 : Hid (w.heap.size ≤ F ∧ w.grownBy w3 none) := ⟨hF3, hg3⟩; clear hA3 hF3 hg3)
    | (go_at_call 49; refine (HO.out bf bt ba F _ HA3.out).mono ?_; rintro e w5 ⟨rfl, hA5, hg5⟩)
    | (go_at_call 41; refine (HV.out _).mono ?_; rintro e w6 ⟨rfl, hg6⟩))
  refine bodyPost_ret (by simp [results, Try.results29, go_sem]; try rfl) rfl ?_
  exact ⟨rfl, grown_trans (Ch.fresh HG3.out.2 HG3.out.1 hg5) hg6⟩
set_option maxRecDepth 100000 in
set_option maxHeartbeats 4000000 in
theorem words7_ok {N : Nat} {w : World} {T : Nat → Ty.TyV} {n : Nat} {a : Option Addr} {c : Nat} (h : TysIn N w a n c T) (hN : N ≤ w.heap.size) (hc : Ty.chk T n = 0) {i : Nat} (hi : i < n) (hv : Ty.valB (Ty.lie T i) = true) :
    Calls Try.prog 29 #[.slice a n c, .int .i64 i] w fun e w' => ∃ vK vO, e = .returned (.tuple #[vK, vO, .int .i64 0]) ∧ OwnZ w' w.heap.size vK (Ty.k1 (Ty.wk T i)) ∧ OwnZ w' w.heap.size vO (Ty.k2 (Ty.wk T i)) ∧ (∀ q, vK.ownBlock = some q → vO.ownBlock ≠ some q) ∧ w.grownBy w' none := by
  have HC : Hid (Calls Try.prog 40 #[.slice a n c, .int .i64 i] w fun e w' => ∃ bf bt ba F, e = .returned (.tuple #[.func (.func 49) #[] #[.pointer (some ⟨bf, 0, none⟩), .pointer (some ⟨bt, 0, none⟩), .pointer (some ⟨ba, 0, none⟩)], .int .i64 0]) ∧
      Ak N w' T n a c bf bt ba F ∧ w.heap.size ≤ F ∧ w.grownBy w' none) := takeEntry_ok h hN hc hi
  have HO : Hid (∀ bf bt ba F, ∀ W, Ak N W T n a c bf bt ba F → Calls Try.prog 49 #[.int .i64 i, .pointer (some ⟨bf, 0, none⟩), .pointer (some ⟨bt, 0, none⟩), .pointer (some ⟨ba, 0, none⟩)] W fun e w' =>
        e = .returned (.agg #[.int .i64 (Ty.lie T i).size, .int .i64 (Ty.lie T i).align, .int .i64 (Ty.lie T i).words, .bool (Ty.lie T i).arr]) ∧ Ak N w' T n a c bf bt ba F ∧ Ch W w' [F]) := fun bf bt ba F => ask_all (Ty.chk_ok hc).2 (Nat.le_refl _) i hi
  have HWd : Hid (∀ bf bt ba F W, Ak N W T n a c bf bt ba F → Calls Try.prog 42 #[.slice a n c, .func (.func 49) #[] #[.pointer (some ⟨bf, 0, none⟩), .pointer (some ⟨bt, 0, none⟩), .pointer (some ⟨ba, 0, none⟩)], .int .i64 i] W fun e w' =>
      ∃ vK vO, e = .returned (.tuple #[vK, vO]) ∧ OwnZ w' W.heap.size vK (Ty.k1 (Ty.wk T i)) ∧ OwnZ w' W.heap.size vO (Ty.k2 (Ty.wk T i)) ∧ (∀ q, vK.ownBlock = some q → vO.ownBlock ≠ some q) ∧ Ch W w' [F]) := fun bf bt ba F W hA' => words7_in hA' (Ty.chk_ok hc).2 hi
  generalize Ty.k1 (Ty.wk T i) = Z1 at *
  generalize Ty.k2 (Ty.wk T i) = Z2 at *
  generalize Ty.lie T i = L at *
  have HV : Hid (∀ W, Calls Try.prog 41 #[.agg #[.int .i64 L.size, .int .i64 L.align, .int .i64 L.words, .bool L.arr]] W fun e w' => e = .returned (.bool true) ∧ W.grownBy w' none) := fun W => by rw [← hv]; exact value_any L W
  clear h hc hv
  go_enter Try.func29, Try.ntmps29
  go_wp2_with (first
    | (go_at_call 40; refine HC.out.mono ?_; rintro e w3 ⟨bf, bt, ba, F, rfl, hA3, hF3, hg3⟩; have HA3 : Hid (Ak N w3 T n a c bf bt ba F) := hA3; have HG3 : Hid (w.heap.size ≤ F ∧ w.grownBy w3 none) := ⟨hF3, hg3⟩; clear hA3 hF3 hg3)
    | (go_at_call 49; refine (HO.out bf bt ba F _ HA3.out).mono ?_; rintro e w5 ⟨rfl, hA5, hg5⟩; have HA5 : Hid (Ak N w5 T n a c bf bt ba F) := hA5; have HG5 : Hid (Ch w3 w5 [F]) := hg5; clear hA5 hg5)
    | (go_at_call 41; refine (HV.out _).mono ?_; rintro e w6 ⟨rfl, hg6⟩; have HG6 : Hid (w5.grownBy w6 none) := hg6; clear hg6)
    | (go_at_call 42; refine (HWd.out bf bt ba F _ (HA5.out.grow HG6.out)).mono ?_; rintro e w7 ⟨vK, vO, rfl, oK, oO, hap, hg7⟩))
  refine bodyPost_ret (by simp [results, Try.results29, go_sem]; try rfl) rfl ?_
  have hs3 := HG3.out.2.size
  have hs5 := HG5.out.size
  have hs6 := HG6.out.size
  exact ⟨vK, vO, rfl, oK.low (by omega), oO.low (by omega), hap, Ch.fresh HG3.out.2 HG3.out.1 ((HG5.out.trans (Ch.of HG6.out)).trans hg7)⟩
end Go.Proofs.Ytdfjaedafampaaa
