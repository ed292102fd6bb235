/- Contracts and plain facts that the walks share, text by text: TyTake, TyAns, TyWk, TyWs, TyWalk, TyWords, TyOpen, TyCopy, TyHv, TyLf, TyLie. -/
import Derived.Test.YtlkldehapkgdaaaG1
/- A table taken; an entry taken; Check, Size, Align, Value, Offset. -/
namespace Go.Proofs.Ytlkldehapkgdaaa
open Go.RowKit
set_option linter.unusedVariables false

theorem ask_all {N : Nat} {T : Nat → Ty.TyV} {n : Nat} {a : Option Addr} {c bf bt ba F : Nat} : ∀ {K : Nat}, Ty.Fine T n K → K ≤ n → AskOk N T n a c bf bt ba F K
  | 0, _, _ => fun j hj => by omega
  | K + 1, hK, hn => ask_step (ask_all (hK.mono (by omega)) (by omega)) (hK.mono (by omega)) (by omega) (hK K (by omega)).1
theorem Ak.up {N M : Nat} {w : World} {T : Nat → Ty.TyV} {n : Nat} {a : Option Addr} {c bf bt ba F : Nat} (h : Ak N w T n a c bf bt ba F) (hM : N ≤ M) (hF : M ≤ F) : Ak M w T n a c bf bt ba F :=
  ⟨h.cf, h.ct, h.ca, h.fz, h.lt, h.lie, h.ty.up hM, hF, h.n1, h.n2, h.n3⟩
theorem Ch.fresh {w w1 w2 : World} {F : Nat} (h1 : w.grownBy w1 none) (hF : w.heap.size ≤ F) (h2 : Ch w1 w2 [F]) : w.grownBy w2 none :=
  ((Ch.of (l := [F]) h1).trans h2).nil (by simp; exact hF)
set_option maxRecDepth 100000 in
set_option maxHeartbeats 4000000 in
theorem takeTable_form {N : Nat} {w : World} {T : Nat → Ty.TyV} {n : Nat} {a : Option Addr} {c : Nat} (h : TysIn N w a n c T) (hN : N ≤ w.heap.size) (ht : Ty.tabB T n = false) :
    Calls Try.prog 20 #[.slice a n c] w fun e w' => e = .returned (.tuple #[.nilFunc, .int .i64 70]) ∧ w.grownBy w' none := by
  have HC : Hid (Calls Try.prog 35 #[.slice a n c] w fun e w' => e = .returned (.bool false) ∧ w.grownBy w' none) := by rw [← ht]; exact isTable_any h hN
  clear h ht
  go_enter Try.func20, Try.ntmps20
  go_wp2_with (go_at_call 35; refine HC.out.mono ?_; rintro e w3 ⟨rfl, hg3⟩)
  go_ret2
  exact ⟨rfl, hg3⟩
set_option maxRecDepth 100000 in
set_option maxHeartbeats 4000000 in
theorem takeTable_large {N : Nat} {w : World} {T : Nat → Ty.TyV} {n : Nat} {a : Option Addr} {c : Nat} (h : TysIn N w a n c T) (hN : N ≤ w.heap.size) (ht : Ty.tabB T n = true) {p : Nat} (hp : p < n) (hl : 65536 < (Ty.lie T p).size) (hf : Ty.Fine T n p) :
    Calls Try.prog 20 #[.slice a n c] w fun e w' => e = .returned (.tuple #[.nilFunc, .int .i64 71]) ∧ w.grownBy w' none := by
  have hmx := h.max
  have hle := h.le
  unfold maxLen at hmx
  have h64 := (Ty.tabB_iff.1 ht).1
  have HC : Hid (Calls Try.prog 35 #[.slice a n c] w fun e w' => e = .returned (.bool true) ∧ w.grownBy w' none) := by rw [← ht]; exact isTable_any h hN
  have HA : Hid (∀ W, w.grownBy W none → Calls Try.prog 36 #[.slice a n c] W fun e w' => ∃ bf bt ba F, e = .returned (.func (.func 48) #[] #[.pointer (some ⟨bf, 0, none⟩), .pointer (some ⟨bt, 0, none⟩), .pointer (some ⟨ba, 0, none⟩)]) ∧
      Ak N w' T n a c bf bt ba F ∧ W.heap.size ≤ F ∧ W.grownBy w' none) := fun W hg => newAsker_any (h.ch (l := []) (Ch.of hg) (by simp)) (Nat.le_trans hN hg.size) h64
  have HO : Hid (∀ bf bt ba F, AskOk N T n a c bf bt ba F (p + 1)) := fun bf bt ba F => ask_step (ask_all hf (by omega)) hf hp ((Ty.tabB_iff.1 ht).2 p hp)
  have HL : Hid (∀ (l : Ty.Li) W, Calls Try.prog 37 #[.agg #[.int .i64 l.size, .int .i64 l.align, .int .i64 l.words, .bool l.arr]] W fun e w' => e = .returned (.bool (decide (65536 < l.size))) ∧ W.grownBy w' none) := fun l W => large_any l W
  have HS : Hid (∀ j, j < p → (Ty.lie T j).size ≤ 65536) := fun j hj => (hf j hj).2
  have Hl : Hid (65536 < (Ty.lie T p).size) := hl
  clear h ht hf hl
  go_enter Try.func20, Try.ntmps20
  go_wp2_with (first
    | (go_at_call 35; refine HC.out.mono ?_; rintro e w3 ⟨rfl, hg3⟩)
    | (go_at_call 36; refine (HA.out _ hg3).mono ?_; rintro e w4 ⟨bf, bt, ba, F, rfl, hA4, hF4, hg4⟩))
  have HA4 : Hid (Ak N w4 T n a c bf bt ba F) := hA4
  have HG4 : Hid (w.grownBy w4 none) := grown_trans hg3 hg4
  have hF : w.heap.size ≤ F := Nat.le_trans hg3.size hF4
  clear hA4 hg4 hg3 hF4
  go_loopw [2, 12] (fun fv ix wr => ∃ k : Nat, fv = .func (.func 48) #[] #[.pointer (some ⟨bf, 0, none⟩), .pointer (some ⟨bt, 0, none⟩), .pointer (some ⟨ba, 0, none⟩)] ∧ ix = .int .i64 k ∧ k ≤ p ∧ Ak N wr T n a c bf bt ba F ∧ Ch w4 wr [F]) (fun _ ix _ => n - (intOf ix).toNat)
  case atStart => exact ⟨0, rfl, rfl, Nat.zero_le _, HA4.out, Ch.refl _ _⟩
  case round =>
    obtain ⟨k, rfl, rfl, hk, hA, hg⟩ := hrel
    have HAr : Hid (Ak N wr T n a c bf bt ba F) := hA
    have HG : Hid (Ch w4 wr [F]) := hg
    clear hA hg
    have hkn : k < n := by omega
    have hkn' : (k : Int) < n := by omega
    have HK : Hid (∀ W, Ak N W T n a c bf bt ba F → Calls Try.prog 48 #[.int .i64 k, .pointer (some ⟨bf, 0, none⟩), .pointer (some ⟨bt, 0, none⟩), .pointer (some ⟨ba, 0, none⟩)] W fun e w' =>
        e = .returned (.agg #[.int .i64 (Ty.lie T k).size, .int .i64 (Ty.lie T k).align, .int .i64 (Ty.lie T k).words, .bool (Ty.lie T k).arr]) ∧ Ak N w' T n a c bf bt ba F ∧ Ch W w' [F]) := HO.out bf bt ba F k (by omega)
    have HLk := HL.out (Ty.lie T k)
    by_cases hkp : k = p
    · subst hkp
      have e := Hl.out
      generalize Ty.lie T k = L at *
      have HL2 : Hid (∀ W, Calls Try.prog 37 #[.agg #[.int .i64 L.size, .int .i64 L.align, .int .i64 L.words, .bool L.arr]] W fun e w' => e = .returned (.bool true) ∧ W.grownBy w' none) := by intro W; have := HLk W; rw [decide_eq_true e] at this; exact this
      clear HLk
      go_wp2_with (first
        | (go_at_call 48; refine (HK.out _ HAr.out).mono ?_; rintro e w5 ⟨rfl, hA5, hg5⟩)
        | (go_at_call 37; refine (HL2.out _).mono ?_; rintro e w6 ⟨rfl, hg6⟩))
      go_ret2
      exact ⟨rfl, Ch.fresh HG4.out hF ((HG.out.trans hg5).trans (Ch.of hg6))⟩
    · have e : ¬ 65536 < (Ty.lie T k).size := by have := HS.out k (by omega); omega
      generalize Ty.lie T k = L at HLk HK e
      have HL2 : Hid (∀ W, Calls Try.prog 37 #[.agg #[.int .i64 L.size, .int .i64 L.align, .int .i64 L.words, .bool L.arr]] W fun e w' => e = .returned (.bool false) ∧ W.grownBy w' none) := by intro W; have := HLk W; rw [decide_eq_false e] at this; exact this
      clear HLk e
      go_wp2_with (first
        | (go_at_call 48; refine (HK.out _ HAr.out).mono ?_; rintro e w5 ⟨rfl, hA5, hg5⟩)
        | (go_at_call 37; refine (HL2.out _).mono ?_; rintro e w6 ⟨rfl, hg6⟩))
      go_roundw
      case rel => exact ⟨k + 1, rfl, by go_num, by omega, hA5.grow hg6, (HG.out.trans hg5).trans (Ch.of hg6)⟩
      case measure => simp [intOf]; omega
set_option maxRecDepth 100000 in
set_option maxHeartbeats 4000000 in
theorem takeTable_ok {N : Nat} {w : World} {T : Nat → Ty.TyV} {n : Nat} {a : Option Addr} {c : Nat} (h : TysIn N w a n c T) (hN : N ≤ w.heap.size) (hc : Ty.chk T n = 0) :
    Calls Try.prog 20 #[.slice a n c] w fun e w' => ∃ bf bt ba F, e = .returned (.tuple #[.func (.func 48) #[] #[.pointer (some ⟨bf, 0, none⟩), .pointer (some ⟨bt, 0, none⟩), .pointer (some ⟨ba, 0, none⟩)], .int .i64 0]) ∧
      Ak N w' T n a c bf bt ba F ∧ w.heap.size ≤ F ∧ w.grownBy w' none := by
  have hmx := h.max
  have hle := h.le
  unfold maxLen at hmx
  obtain ⟨h64, hf⟩ := Ty.chk_ok hc
  have ht : Ty.tabB T n = true := Ty.tabB_iff.2 ⟨h64, fun i hi => (hf i hi).1⟩
  have HC : Hid (Calls Try.prog 35 #[.slice a n c] w fun e w' => e = .returned (.bool true) ∧ w.grownBy w' none) := by rw [← ht]; exact isTable_any h hN
  have HA : Hid (∀ W, w.grownBy W none → Calls Try.prog 36 #[.slice a n c] W fun e w' => ∃ bf bt ba F, e = .returned (.func (.func 48) #[] #[.pointer (some ⟨bf, 0, none⟩), .pointer (some ⟨bt, 0, none⟩), .pointer (some ⟨ba, 0, none⟩)]) ∧
      Ak N w' T n a c bf bt ba F ∧ W.heap.size ≤ F ∧ W.grownBy w' none) := fun W hg => newAsker_any (h.ch (l := []) (Ch.of hg) (by simp)) (Nat.le_trans hN hg.size) h64
  have HO : Hid (∀ bf bt ba F, AskOk N T n a c bf bt ba F n) := fun bf bt ba F => ask_all hf (Nat.le_refl _)
  have HL : Hid (∀ (l : Ty.Li) W, Calls Try.prog 37 #[.agg #[.int .i64 l.size, .int .i64 l.align, .int .i64 l.words, .bool l.arr]] W fun e w' => e = .returned (.bool (decide (65536 < l.size))) ∧ W.grownBy w' none) := fun l W => large_any l W
  have HS : Hid (∀ j, j < n → (Ty.lie T j).size ≤ 65536) := fun j hj => (hf j hj).2
  clear h ht hf hc
  go_enter Try.func20, Try.ntmps20
  go_wp2_with (first
    | (go_at_call 35; refine HC.out.mono ?_; rintro e w3 ⟨rfl, hg3⟩)
    | (go_at_call 36; refine (HA.out _ hg3).mono ?_; rintro e w4 ⟨bf, bt, ba, F, rfl, hA4, hF4, hg4⟩))
  have HA4 : Hid (Ak N w4 T n a c bf bt ba F) := hA4
  have HG4 : Hid (w.grownBy w4 none) := grown_trans hg3 hg4
  have hF : w.heap.size ≤ F := Nat.le_trans hg3.size hF4
  clear hA4 hg4 hg3 hF4
  go_loopw [2, 12] (fun fv ix wr => ∃ k : Nat, fv = .func (.func 48) #[] #[.pointer (some ⟨bf, 0, none⟩), .pointer (some ⟨bt, 0, none⟩), .pointer (some ⟨ba, 0, none⟩)] ∧ ix = .int .i64 k ∧ k ≤ n ∧ Ak N wr T n a c bf bt ba F ∧ Ch w4 wr [F]) (fun _ ix _ => n - (intOf ix).toNat)
  case atStart => exact ⟨0, rfl, rfl, Nat.zero_le _, HA4.out, Ch.refl _ _⟩
  case round =>
    obtain ⟨k, rfl, rfl, hk, hA, hg⟩ := hrel
    have HAr : Hid (Ak N wr T n a c bf bt ba F) := hA
    have HG : Hid (Ch w4 wr [F]) := hg
    clear hA hg
    by_cases hkn : k < n
    · have hkn' : (k : Int) < n := by omega
      have HK : Hid (∀ W, Ak N W T n a c bf bt ba F → Calls Try.prog 48 #[.int .i64 k, .pointer (some ⟨bf, 0, none⟩), .pointer (some ⟨bt, 0, none⟩), .pointer (some ⟨ba, 0, none⟩)] W fun e w' =>
        e = .returned (.agg #[.int .i64 (Ty.lie T k).size, .int .i64 (Ty.lie T k).align, .int .i64 (Ty.lie T k).words, .bool (Ty.lie T k).arr]) ∧ Ak N w' T n a c bf bt ba F ∧ Ch W w' [F]) := HO.out bf bt ba F k (by omega)
      have HLk := HL.out (Ty.lie T k)
      have e : ¬ 65536 < (Ty.lie T k).size := by have := HS.out k (by omega); omega
      generalize Ty.lie T k = L at HLk HK e
      have HL2 : Hid (∀ W, Calls Try.prog 37 #[.agg #[.int .i64 L.size, .int .i64 L.align, .int .i64 L.words, .bool L.arr]] W fun e w' => e = .returned (.bool false) ∧ W.grownBy w' none) := by intro W; have := HLk W; rw [decide_eq_false e] at this; exact this
      clear HLk e
      go_wp2_with (first
        | (go_at_call 48; refine (HK.out _ HAr.out).mono ?_; rintro e w5 ⟨rfl, hA5, hg5⟩)
        | (go_at_call 37; refine (HL2.out _).mono ?_; rintro e w6 ⟨rfl, hg6⟩))
      go_roundw
      case rel => exact ⟨k + 1, rfl, by go_num, by omega, hA5.grow hg6, (HG.out.trans hg5).trans (Ch.of hg6)⟩
      case measure => simp [intOf]; omega
    · obtain rfl : k = n := by omega
      go_wp2
      go_ret2
      exact ⟨bf, bt, ba, F, rfl, HAr.out, hF, Ch.fresh HG4.out hF HG.out⟩
/-- what is no table -/
theorem takeTable_no {N : Nat} {w : World} {T : Nat → Ty.TyV} {n : Nat} {a : Option Addr} {c : Nat} (h : TysIn N w a n c T) (hN : N ≤ w.heap.size) (hc : Ty.chk T n ≠ 0) :
    Calls Try.prog 20 #[.slice a n c] w fun e w' => e = .returned (.tuple #[.nilFunc, .int .i64 (Ty.chk T n)]) ∧ w.grownBy w' none := by
  cases ht : Ty.tabB T n
  · rw [Ty.chk_form ht]
    exact takeTable_form h hN ht
  · obtain ⟨e, p, hp, hl, hf⟩ := Ty.chk_large ht hc
    rw [e]
    exact takeTable_large h hN ht hp hl hf
end Go.Proofs.Ytlkldehapkgdaaa

/- An entry taken; Check, Size, Align, Value, Offset. -/
namespace Go.Proofs.Ytlkldehapkgdaaa
open Go.RowKit
set_option linter.unusedVariables false

/-- what a call on an entry tells first -/
def Ty.cod (T : Nat → Ty.TyV) (n : Nat) (i : Int) : Int := if Ty.chk T n = 0 then (if Ty.nmB n i = true then 0 else 70) else Ty.chk T n
theorem Ty.cod_ok {T : Nat → Ty.TyV} {n : Nat} {i : Int} (h : Ty.cod T n i = 0) : Ty.chk T n = 0 ∧ 0 ≤ i ∧ i < n := by
  unfold Ty.cod at h
  split at h
  · rename_i hc
    split at h
    · rename_i hn
      have := Ty.nmB_iff.1 hn
      exact ⟨hc, this.1, this.2⟩
    · omega
  · contradiction
theorem field_size (L : Ty.Li) (w : World) : (Instr.field 63 (.agg #[.int .i64 L.size, .int .i64 L.align, .int .i64 L.words, .bool L.arr]) 0).run Try.prog w = .ok (.int .i64 L.size) w := by kernel_rfl
theorem field_align (L : Ty.Li) (w : World) : (Instr.field 63 (.agg #[.int .i64 L.size, .int .i64 L.align, .int .i64 L.words, .bool L.arr]) 1).run Try.prog w = .ok (.int .i64 L.align) w := by kernel_rfl
theorem field_words (L : Ty.Li) (w : World) : (Instr.field 63 (.agg #[.int .i64 L.size, .int .i64 L.align, .int .i64 L.words, .bool L.arr]) 2).run Try.prog w = .ok (.int .i64 L.words) w := by kernel_rfl
set_option maxRecDepth 100000 in
set_option maxHeartbeats 4000000 in
theorem check_any {N : Nat} {w : World} {T : Nat → Ty.TyV} {n : Nat} {a : Option Addr} {c : Nat} (h : TysIn N w a n c T) (hN : N ≤ w.heap.size) :
    Calls Try.prog 9 #[.slice a n c] w fun e w' => e = .returned (.int .i64 (Ty.chk T n)) ∧ w.grownBy w' none := by
  by_cases hc : Ty.chk T n = 0
  · have HC : Hid (Calls Try.prog 20 #[.slice a n c] w fun e w' => ∃ bf bt ba F, e = .returned (.tuple #[.func (.func 48) #[] #[.pointer (some ⟨bf, 0, none⟩), .pointer (some ⟨bt, 0, none⟩), .pointer (some ⟨ba, 0, none⟩)], .int .i64 0]) ∧
      Ak N w' T n a c bf bt ba F ∧ w.heap.size ≤ F ∧ w.grownBy w' none) := takeTable_ok h hN hc
    rw [hc]
    clear h hc
    go_enter Try.func9, Try.ntmps9
    go_wp2_with (go_at_call 20; refine HC.out.mono ?_; rintro e w3 ⟨bf, bt, ba, F, rfl, hA3, hF3, hg3⟩)
    go_ret
    exact ⟨rfl, hg3⟩
  · have HC : Hid (Calls Try.prog 20 #[.slice a n c] w fun e w' => e = .returned (.tuple #[.nilFunc, .int .i64 (Ty.chk T n)]) ∧ w.grownBy w' none) := takeTable_no h hN hc
    generalize Ty.chk T n = z at *
    clear h hc
    go_enter Try.func9, Try.ntmps9
    go_wp2_with (go_at_call 20; refine HC.out.mono ?_; rintro e w3 ⟨rfl, hg3⟩)
    go_ret
    exact ⟨rfl, hg3⟩
set_option maxRecDepth 100000 in
set_option maxHeartbeats 4000000 in
theorem takeEntry_no {N : Nat} {w : World} {T : Nat → Ty.TyV} {n : Nat} {a : Option Addr} {c : Nat} (h : TysIn N w a n c T) (hN : N ≤ w.heap.size) {i : Int} (hi : Ty.cod T n i ≠ 0) :
    Calls Try.prog 30 #[.slice a n c, .int .i64 i] w fun e w' => e = .returned (.tuple #[.nilFunc, .int .i64 (Ty.cod T n i)]) ∧ w.grownBy w' none := by
  by_cases hc : Ty.chk T n = 0
  · have HC : Hid (Calls Try.prog 20 #[.slice a n c] w fun e w' => ∃ bf bt ba F, e = .returned (.tuple #[.func (.func 48) #[] #[.pointer (some ⟨bf, 0, none⟩), .pointer (some ⟨bt, 0, none⟩), .pointer (some ⟨ba, 0, none⟩)], .int .i64 0]) ∧
      Ak N w' T n a c bf bt ba F ∧ w.heap.size ≤ F ∧ w.grownBy w' none) := takeTable_ok h hN hc
    have hm : Ty.nmB n i = false := by
      cases hh : Ty.nmB n i
      · rfl
      · exact absurd (by unfold Ty.cod; rw [if_pos hc, if_pos hh]) hi
    have e : Ty.cod T n i = 70 := by unfold Ty.cod; rw [if_pos hc, if_neg (by simp [hm])]
    have HM : Hid (∀ W, Calls Try.prog 42 #[.int .i64 n, .int .i64 i] W fun e w' => e = .returned (.bool false) ∧ w' = W) := fun W => by rw [← hm]; exact nm_any _ _ _
    rw [e]
    have hle := h.le
    have hmx := h.max
    unfold maxLen at hmx
    clear h hc hi hm e
    go_enter Try.func30, Try.ntmps30
    go_wp2_with (first
      | (go_at_call 20; refine HC.out.mono ?_; rintro e w3 ⟨bf, bt, ba, F, rfl, hA3, hF3, hg3⟩)
      | (go_at_call 42; refine (HM.out _).mono ?_; rintro e w4 ⟨rfl, rfl⟩))
    go_ret2
    exact ⟨rfl, hg3⟩
  · have HC : Hid (Calls Try.prog 20 #[.slice a n c] w fun e w' => e = .returned (.tuple #[.nilFunc, .int .i64 (Ty.chk T n)]) ∧ w.grownBy w' none) := takeTable_no h hN hc
    have e : Ty.cod T n i = Ty.chk T n := by unfold Ty.cod; rw [if_neg hc]
    rw [e]
    have hz : (Ty.chk T n == 0) = false := by simpa using hc
    generalize Ty.chk T n = z at *
    clear h hc hi e
    go_enter Try.func30, Try.ntmps30
    go_wp2_with (go_at_call 20; refine HC.out.mono ?_; rintro e w3 ⟨rfl, hg3⟩)
    go_ret2
    exact ⟨rfl, hg3⟩
set_option maxRecDepth 100000 in
set_option maxHeartbeats 4000000 in
theorem takeEntry_ok {N : Nat} {w : World} {T : Nat → Ty.TyV} {n : Nat} {a : Option Addr} {c : Nat} (h : TysIn N w a n c T) (hN : N ≤ w.heap.size) (hc : Ty.chk T n = 0) {i : Nat} (hi : i < n) :
    Calls Try.prog 30 #[.slice a n c, .int .i64 i] w fun e w' => ∃ bf bt ba F, e = .returned (.tuple #[.func (.func 48) #[] #[.pointer (some ⟨bf, 0, none⟩), .pointer (some ⟨bt, 0, none⟩), .pointer (some ⟨ba, 0, none⟩)], .int .i64 0]) ∧
      Ak N w' T n a c bf bt ba F ∧ w.heap.size ≤ F ∧ w.grownBy w' none := by
  have HC : Hid (Calls Try.prog 20 #[.slice a n c] w fun e w' => ∃ bf bt ba F, e = .returned (.tuple #[.func (.func 48) #[] #[.pointer (some ⟨bf, 0, none⟩), .pointer (some ⟨bt, 0, none⟩), .pointer (some ⟨ba, 0, none⟩)], .int .i64 0]) ∧
    Ak N w' T n a c bf bt ba F ∧ w.heap.size ≤ F ∧ w.grownBy w' none) := takeTable_ok h hN hc
  have hm : Ty.nmB n i = true := Ty.nmB_iff.2 ⟨by omega, by omega⟩
  have HM : Hid (∀ W, Calls Try.prog 42 #[.int .i64 n, .int .i64 i] W fun e w' => e = .returned (.bool true) ∧ w' = W) := fun W => by rw [← hm]; exact nm_any _ _ _
  have hle := h.le
  have hmx := h.max
  unfold maxLen at hmx
  clear h hc hm
  go_enter Try.func30, Try.ntmps30
  go_wp2_with (first
    | (go_at_call 20; refine HC.out.mono ?_; rintro e w3 ⟨bf, bt, ba, F, rfl, hA3, hF3, hg3⟩)
    | (go_at_call 42; refine (HM.out _).mono ?_; rintro e w4 ⟨rfl, rfl⟩))
  go_ret2
  exact ⟨bf, bt, ba, F, rfl, hA3, hF3, hg3⟩
set_option maxRecDepth 100000 in
set_option maxHeartbeats 4000000 in
theorem size7_no {N : Nat} {w : World} {T : Nat → Ty.TyV} {n : Nat} {a : Option Addr} {c : Nat} (h : TysIn N w a n c T) (hN : N ≤ w.heap.size) {i : Int} (hi : Ty.cod T n i ≠ 0) :
    Calls Try.prog 14 #[.slice a n c, .int .i64 i] w fun e w' => e = .returned (.tuple #[.int .i64 0, .int .i64 (Ty.cod T n i)]) ∧ w.grownBy w' none := by
  have HC : Hid (Calls Try.prog 30 #[.slice a n c, .int .i64 i] w fun e w' => e = .returned (.tuple #[.nilFunc, .int .i64 (Ty.cod T n i)]) ∧ w.grownBy w' none) := takeEntry_no h hN hi
  have hz : (Ty.cod T n i != 0) = true := by simpa using hi
  generalize Ty.cod T n i = z at *
  clear h hi
  go_enter Try.func14, Try.ntmps14
  go_wp2_with (go_at_call 30; refine HC.out.mono ?_; rintro e w3 ⟨rfl, hg3⟩)
  go_ret2
  exact ⟨rfl, hg3⟩
set_option maxRecDepth 100000 in
set_option maxHeartbeats 4000000 in
theorem size7_ok {N : Nat} {w : World} {T : Nat → Ty.TyV} {n : Nat} {a : Option Addr} {c : Nat} (h : TysIn N w a n c T) (hN : N ≤ w.heap.size) (hc : Ty.chk T n = 0) {i : Nat} (hi : i < n) :
    Calls Try.prog 14 #[.slice a n c, .int .i64 i] w fun e w' => e = .returned (.tuple #[.int .i64 (Ty.lie T i).size, .int .i64 0]) ∧ w.grownBy w' none := by
  have HC : Hid (Calls Try.prog 30 #[.slice a n c, .int .i64 i] w fun e w' => ∃ bf bt ba F, e = .returned (.tuple #[.func (.func 48) #[] #[.pointer (some ⟨bf, 0, none⟩), .pointer (some ⟨bt, 0, none⟩), .pointer (some ⟨ba, 0, none⟩)], .int .i64 0]) ∧
      Ak N w' T n a c bf bt ba F ∧ w.heap.size ≤ F ∧ w.grownBy w' none) := takeEntry_ok h hN hc hi
  have HO : Hid (∀ bf bt ba F, ∀ W, Ak N W T n a c bf bt ba F → Calls Try.prog 48 #[.int .i64 i, .pointer (some ⟨bf, 0, none⟩), .pointer (some ⟨bt, 0, none⟩), .pointer (some ⟨ba, 0, none⟩)] W fun e w' =>
        e = .returned (.agg #[.int .i64 (Ty.lie T i).size, .int .i64 (Ty.lie T i).align, .int .i64 (Ty.lie T i).words, .bool (Ty.lie T i).arr]) ∧ Ak N w' T n a c bf bt ba F ∧ Ch W w' [F]) := fun bf bt ba F => ask_all (Ty.chk_ok hc).2 (Nat.le_refl _) i hi
  have hfd := field_size (Ty.lie T i)
  generalize Ty.lie T i = L at *
  clear h hc
  go_enter Try.func14, Try.ntmps14
  go_wp2_with (first
    | (go_at_call 30; refine HC.out.mono ?_; rintro e w3 ⟨bf, bt, ba, F, rfl, hA3, hF3, hg3⟩; have HA3 : Hid (Ak N w3 T n a c bf bt ba F) := hA3; have HG3 : Hid (w.heap.size ≤ F ∧ w.grownBy w3 none) := ⟨hF3, hg3⟩; clear hA3 hF3 hg3)
    | (go_at_call 48; refine (HO.out bf bt ba F _ HA3.out).mono ?_; rintro e w5 ⟨rfl, hA5, hg5⟩))
  go_ret2
  exact ⟨rfl, Ch.fresh HG3.out.2 HG3.out.1 hg5⟩
set_option maxRecDepth 100000 in
set_option maxHeartbeats 4000000 in
theorem align7_no {N : Nat} {w : World} {T : Nat → Ty.TyV} {n : Nat} {a : Option Addr} {c : Nat} (h : TysIn N w a n c T) (hN : N ≤ w.heap.size) {i : Int} (hi : Ty.cod T n i ≠ 0) :
    Calls Try.prog 15 #[.slice a n c, .int .i64 i] w fun e w' => e = .returned (.tuple #[.int .i64 0, .int .i64 (Ty.cod T n i)]) ∧ w.grownBy w' none := by
  have HC : Hid (Calls Try.prog 30 #[.slice a n c, .int .i64 i] w fun e w' => e = .returned (.tuple #[.nilFunc, .int .i64 (Ty.cod T n i)]) ∧ w.grownBy w' none) := takeEntry_no h hN hi
  have hz : (Ty.cod T n i != 0) = true := by simpa using hi
  generalize Ty.cod T n i = z at *
  clear h hi
  go_enter Try.func15, Try.ntmps15
  go_wp2_with (go_at_call 30; refine HC.out.mono ?_; rintro e w3 ⟨rfl, hg3⟩)
  go_ret2
  exact ⟨rfl, hg3⟩
set_option maxRecDepth 100000 in
set_option maxHeartbeats 4000000 in
theorem align7_ok {N : Nat} {w : World} {T : Nat → Ty.TyV} {n : Nat} {a : Option Addr} {c : Nat} (h : TysIn N w a n c T) (hN : N ≤ w.heap.size) (hc : Ty.chk T n = 0) {i : Nat} (hi : i < n) :
    Calls Try.prog 15 #[.slice a n c, .int .i64 i] w fun e w' => e = .returned (.tuple #[.int .i64 (Ty.lie T i).align, .int .i64 0]) ∧ w.grownBy w' none := by
  have HC : Hid (Calls Try.prog 30 #[.slice a n c, .int .i64 i] w fun e w' => ∃ bf bt ba F, e = .returned (.tuple #[.func (.func 48) #[] #[.pointer (some ⟨bf, 0, none⟩), .pointer (some ⟨bt, 0, none⟩), .pointer (some ⟨ba, 0, none⟩)], .int .i64 0]) ∧
      Ak N w' T n a c bf bt ba F ∧ w.heap.size ≤ F ∧ w.grownBy w' none) := takeEntry_ok h hN hc hi
  have HO : Hid (∀ bf bt ba F, ∀ W, Ak N W T n a c bf bt ba F → Calls Try.prog 48 #[.int .i64 i, .pointer (some ⟨bf, 0, none⟩), .pointer (some ⟨bt, 0, none⟩), .pointer (some ⟨ba, 0, none⟩)] W fun e w' =>
        e = .returned (.agg #[.int .i64 (Ty.lie T i).size, .int .i64 (Ty.lie T i).align, .int .i64 (Ty.lie T i).words, .bool (Ty.lie T i).arr]) ∧ Ak N w' T n a c bf bt ba F ∧ Ch W w' [F]) := fun bf bt ba F => ask_all (Ty.chk_ok hc).2 (Nat.le_refl _) i hi
  have hfd := field_align (Ty.lie T i)
  generalize Ty.lie T i = L at *
  clear h hc
  go_enter Try.func15, Try.ntmps15
  go_wp2_with (first
    | (go_at_call 30; refine HC.out.mono ?_; rintro e w3 ⟨bf, bt, ba, F, rfl, hA3, hF3, hg3⟩; have HA3 : Hid (Ak N w3 T n a c bf bt ba F) := hA3; have HG3 : Hid (w.heap.size ≤ F ∧ w.grownBy w3 none) := ⟨hF3, hg3⟩; clear hA3 hF3 hg3)
    | (go_at_call 48; refine (HO.out bf bt ba F _ HA3.out).mono ?_; rintro e w5 ⟨rfl, hA5, hg5⟩))
  go_ret2
  exact ⟨rfl, Ch.fresh HG3.out.2 HG3.out.1 hg5⟩
set_option maxRecDepth 100000 in
set_option maxHeartbeats 4000000 in
theorem value7_no {N : Nat} {w : World} {T : Nat → Ty.TyV} {n : Nat} {a : Option Addr} {c : Nat} (h : TysIn N w a n c T) (hN : N ≤ w.heap.size) {i : Int} (hi : Ty.cod T n i ≠ 0) :
    Calls Try.prog 21 #[.slice a n c, .int .i64 i] w fun e w' => e = .returned (.tuple #[.bool false, .int .i64 (Ty.cod T n i)]) ∧ w.grownBy w' none := by
  have HC : Hid (Calls Try.prog 30 #[.slice a n c, .int .i64 i] w fun e w' => e = .returned (.tuple #[.nilFunc, .int .i64 (Ty.cod T n i)]) ∧ w.grownBy w' none) := takeEntry_no h hN hi
  have hz : (Ty.cod T n i != 0) = true := by simpa using hi
  generalize Ty.cod T n i = z at *
  clear h hi
  go_enter Try.func21, Try.ntmps21
  go_wp2_with (go_at_call 30; refine HC.out.mono ?_; rintro e w3 ⟨rfl, hg3⟩)
  go_ret2
  exact ⟨rfl, hg3⟩
set_option maxRecDepth 100000 in
set_option maxHeartbeats 4000000 in
theorem value7_ok {N : Nat} {w : World} {T : Nat → Ty.TyV} {n : Nat} {a : Option Addr} {c : Nat} (h : TysIn N w a n c T) (hN : N ≤ w.heap.size) (hc : Ty.chk T n = 0) {i : Nat} (hi : i < n) :
    Calls Try.prog 21 #[.slice a n c, .int .i64 i] w fun e w' => e = .returned (.tuple #[.bool (Ty.valB (Ty.lie T i)), .int .i64 0]) ∧ w.grownBy w' none := by
  have HC : Hid (Calls Try.prog 30 #[.slice a n c, .int .i64 i] w fun e w' => ∃ bf bt ba F, e = .returned (.tuple #[.func (.func 48) #[] #[.pointer (some ⟨bf, 0, none⟩), .pointer (some ⟨bt, 0, none⟩), .pointer (some ⟨ba, 0, none⟩)], .int .i64 0]) ∧
      Ak N w' T n a c bf bt ba F ∧ w.heap.size ≤ F ∧ w.grownBy w' none) := takeEntry_ok h hN hc hi
  have HO : Hid (∀ bf bt ba F, ∀ W, Ak N W T n a c bf bt ba F → Calls Try.prog 48 #[.int .i64 i, .pointer (some ⟨bf, 0, none⟩), .pointer (some ⟨bt, 0, none⟩), .pointer (some ⟨ba, 0, none⟩)] W fun e w' =>
        e = .returned (.agg #[.int .i64 (Ty.lie T i).size, .int .i64 (Ty.lie T i).align, .int .i64 (Ty.lie T i).words, .bool (Ty.lie T i).arr]) ∧ Ak N w' T n a c bf bt ba F ∧ Ch W w' [F]) := fun bf bt ba F => ask_all (Ty.chk_ok hc).2 (Nat.le_refl _) i hi
  have HV : Hid (∀ (l : Ty.Li) W, Calls Try.prog 38 #[.agg #[.int .i64 l.size, .int .i64 l.align, .int .i64 l.words, .bool l.arr]] W fun e w' => e = .returned (.bool (Ty.valB l)) ∧ W.grownBy w' none) := value_any
  generalize Ty.lie T i = L at *
  clear h hc
  go_enter Try.func21, Try.ntmps21
  go_wp2_with (first
    | (go_at_call 30; refine HC.out.mono ?_; rintro e w3 ⟨bf, bt, ba, F, rfl, hA3, hF3, hg3⟩; have HA3 : Hid (Ak N w3 T n a c bf bt ba F) := hA3; have HG3 : Hid (w.heap.size ≤ F ∧ w.grownBy w3 none) := ⟨hF3, hg3⟩; clear hA3 hF3 hg3)
    | (go_at_call 48; refine (HO.out bf bt ba F _ HA3.out).mono ?_; rintro e w5 ⟨rfl, hA5, hg5⟩)
    | (go_at_call 38; refine (HV.out L _).mono ?_; rintro e w6 ⟨rfl, hg6⟩))
  go_ret2
  exact ⟨rfl, grown_trans (Ch.fresh HG3.out.2 HG3.out.1 hg5) hg6⟩
end Go.Proofs.Ytlkldehapkgdaaa

/- An entry's words: plain. -/
namespace Go.Proofs.Ytlkldehapkgdaaa
open Go.RowKit
set_option linter.unusedVariables false

namespace Ty
/-- words so much further on -/
def sh (d : Int) (l : List (Int × Int)) : List (Int × Int) := l.map fun p => (p.1, d + p.2)
/-- the words of the first so many fields -/
def cat (x : TyV) (L : Nat → Li) (V : Nat → List (Int × Int)) : Nat → List (Int × Int)
  | 0 => []
  | k + 1 => cat x L V k ++ sh (bg x L k) (V (x.F k).toNat)
def wkOf (x : TyV) (L : Nat → Li) (V : Nat → List (Int × Int)) : List (Int × Int) :=
  if x.kind = 12 then [] else if x.kind = 13 then cat x L V x.nf else if x.kind = 14 ∨ x.kind = 15 then [(11, 0), (5, 8)] else [(x.kind, 0)]
def wks (T : Nat → TyV) : Nat → Nat → List (Int × Int)
  | 0 => fun _ => []
  | n + 1 => fun i => if i = n then wkOf (T n) (lie T) (wks T n) else wks T n i
/-- an entry's words: their kinds, where they begin -/
def wk (T : Nat → TyV) (i : Nat) : List (Int × Int) := wks T (i + 1) i
theorem wks_wk (T : Nat → TyV) : ∀ {n i : Nat}, i < n → wks T n i = wk T i
  | n + 1, i, h => by
    by_cases e : i = n
    · subst e; rfl
    · show (if i = n then _ else _) = _
      rw [if_neg e]
      exact wks_wk T (by omega)
theorem cat_congr {x : TyV} {L : Nat → Li} {V U : Nat → List (Int × Int)} : ∀ {k : Nat}, (∀ j, j < k → V (x.F j).toNat = U (x.F j).toNat) → cat x L V k = cat x L U k
  | 0, _ => rfl
  | k + 1, h => by rw [cat, cat, cat_congr fun j hj => h j (by omega), h k (by omega)]
theorem wk_eq {T : Nat → TyV} {i n : Nat} (h : okB (T i) i n = true) : wk T i = wkOf (T i) (lie T) (wk T) := by
  show (if i = i then _ else _) = _
  rw [if_pos rfl]
  unfold wkOf
  rcases ok_cases h with ⟨hk, h1, h2, _⟩ | ⟨hk, _, _, _, hf⟩ | ⟨hk, _⟩ | ⟨h1, h2, _⟩
  · rw [if_pos hk, if_pos hk]
  · have h12 : ¬ (T i).kind = 12 := by omega
    rw [if_neg h12, if_neg h12, if_pos hk, if_pos hk]
    exact cat_congr fun j hj => wks_wk T (by have := hf j hj; omega)
  · have h12 : ¬ (T i).kind = 12 := by omega
    have h13 : ¬ (T i).kind = 13 := by omega
    rw [if_neg h12, if_neg h12, if_neg h13, if_neg h13]
  · have h12 : ¬ (T i).kind = 12 := by omega
    have h13 : ¬ (T i).kind = 13 := by omega
    rw [if_neg h12, if_neg h12, if_neg h13, if_neg h13]
theorem sh_len (d : Int) (l : List (Int × Int)) : (sh d l).length = l.length := by simp [sh]
theorem cat_len {x : TyV} {L : Nat → Li} {V : Nat → List (Int × Int)} : ∀ {k : Nat}, (∀ j, j < k → ((V (x.F j).toNat).length : Int) = (fl x L j).words) → ((cat x L V k).length : Int) = ws x L k
  | 0, _ => rfl
  | k + 1, h => by
    have h1 := cat_len (k := k) fun j hj => h j (by omega)
    have h2 := h k (by omega)
    rw [cat, ws, List.length_append, sh_len]
    push_cast
    omega
/-- as many as were told -/
theorem wk_len {T : Nat → TyV} {n : Nat} : ∀ {i : Nat}, (∀ j, j ≤ i → okB (T j) j n = true) → ((wk T i).length : Int) = (lie T i).words := by
  intro i
  induction i using Nat.strongRecOn with
  | ind i ih =>
    intro h
    have hi := h i (Nat.le_refl _)
    rw [wk_eq hi, lie_eq hi]
    unfold wkOf lieOf
    rcases ok_cases hi with ⟨hk, h1, h2, _⟩ | ⟨hk, _, _, _, hf⟩ | ⟨hk, _⟩ | ⟨h1, h2, _⟩
    · rw [if_pos hk, if_pos hk]; rfl
    · have h12 : ¬ (T i).kind = 12 := by omega
      rw [if_neg h12, if_neg h12, if_pos hk, if_pos hk]
      exact cat_len fun j hj => ih _ (by have := hf j hj; omega) fun k hk' => h k (by have := hf j hj; omega)
    · have h12 : ¬ (T i).kind = 12 := by omega
      have h13 : ¬ (T i).kind = 13 := by omega
      rw [if_neg h12, if_neg h12, if_neg h13, if_neg h13, if_pos hk, if_pos hk]
      rfl
    · have h12 : ¬ (T i).kind = 12 := by omega
      have h13 : ¬ (T i).kind = 13 := by omega
      have h14 : ¬ ((T i).kind = 14 ∨ (T i).kind = 15) := by omega
      rw [if_neg h12, if_neg h12, if_neg h13, if_neg h13, if_neg h14, if_neg h14]
      rfl
theorem sh_sh (d e : Int) (l : List (Int × Int)) : sh d (sh e l) = sh (d + e) l := by
  unfold sh
  rw [List.map_map]
  refine List.map_congr_left fun p _ => ?_
  simp only [Function.comp]
  rw [Int.add_assoc]
theorem sh_app (d : Int) (l m : List (Int × Int)) : sh d (l ++ m) = sh d l ++ sh d m := List.map_append
/-- fields end one behind the other -/
theorem en_mono {x : TyV} {L : Nat → Li} : ∀ {k m : Nat}, k ≤ m → (∀ j, j < m → Good (fl x L j)) → en x L k ≤ en x L m
  | k, 0, h, _ => by obtain rfl : k = 0 := by omega
                     exact Int.le_refl _
  | k, m + 1, h, hg => by
    by_cases e : k = m + 1
    · subst e; exact Int.le_refl _
    · have h1 := en_mono (k := k) (m := m) (by omega) fun j hj => hg j (by omega)
      have h2 := hg m (by omega)
      have := (up_spec (n := en x L m) h2.al).1
      have := h2.w0
      have := h2.ws
      rw [en]
      omega
theorem flds_in {x : TyV} {i n : Nat} (h : okB x i n = true) : x.nf ≤ 16 ∧ ∀ k, k < x.nf → 0 ≤ x.F k ∧ x.F k < i := by
  rcases ok_cases h with ⟨_, _, _, _, _, h0⟩ | ⟨_, _, _, h16, hf⟩ | ⟨_, _, h0⟩ | ⟨_, _, _, h0⟩
  · exact ⟨by omega, fun k hk => by omega⟩
  · exact ⟨h16, hf⟩
  · exact ⟨by omega, fun k hk => by omega⟩
  · exact ⟨by omega, fun k hk => by omega⟩
/-- a field begins and ends within its struct -/
theorem bg_in {T : Nat → TyV} {n i k : Nat} (hF : Fine T n i) (ho : okB (T i) i n = true) (hk : (T i).kind = 13) (hkn : k < (T i).nf) : 0 ≤ bg (T i) (lie T) k ∧ bg (T i) (lie T) k + (fl (T i) (lie T) k).size ≤ (lie T i).size := by
  have hf := (flds_in ho).2
  have hg : ∀ j, j < (T i).nf → Good (fl (T i) (lie T) j) ∧ (fl (T i) (lie T) j).size ≤ 65536 := fun j hj => hF.good _ (by have := hf j hj; omega)
  have h1 := en_spec (k := k) fun j hj => hg j (by omega)
  have h2 := up_spec (n := en (T i) (lie T) k) (hg k hkn).1.al
  have h3 := en_mono (x := T i) (L := lie T) (k := k + 1) (m := (T i).nf) hkn fun j hj => (hg j hj).1
  have h4 := up_spec (n := en (T i) (lie T) (T i).nf) (al_al fun j hj => (hg j hj).1)
  have e : (lie T i).size = up (en (T i) (lie T) (T i).nf) (al (T i) (lie T) (T i).nf) := by
    rw [lie_eq ho]; unfold lieOf; rw [if_neg (by omega), if_pos hk]
  rw [en] at h3
  unfold bg
  rw [e]
  omega
end Ty
set_option maxRecDepth 100000 in
set_option maxHeartbeats 4000000 in
theorem offset7_no {N : Nat} {w : World} {T : Nat → Ty.TyV} {n : Nat} {a : Option Addr} {c : Nat} (h : TysIn N w a n c T) (hN : N ≤ w.heap.size) {i f : Int} (hi : Ty.cod T n i ≠ 0) :
    Calls Try.prog 27 #[.slice a n c, .int .i64 i, .int .i64 f] w fun e w' => e = .returned (.tuple #[.int .i64 0, .int .i64 (Ty.cod T n i)]) ∧ w.grownBy w' none := by
  have HC : Hid (Calls Try.prog 30 #[.slice a n c, .int .i64 i] w fun e w' => e = .returned (.tuple #[.nilFunc, .int .i64 (Ty.cod T n i)]) ∧ w.grownBy w' none) := takeEntry_no h hN hi
  have hz : (Ty.cod T n i != 0) = true := by simpa using hi
  generalize Ty.cod T n i = z at *
  clear h hi
  go_enter Try.func27, Try.ntmps27
  go_wp2_with (go_at_call 30; refine HC.out.mono ?_; rintro e w3 ⟨rfl, hg3⟩)
  go_ret2
  exact ⟨rfl, hg3⟩
def Ty.offV (x : Ty.TyV) (L : Nat → Ty.Li) (f : Int) : Int := if Ty.nmB x.nf f = true then Ty.bg x L f.toNat else 0
def Ty.offE (x : Ty.TyV) (f : Int) : Int := if Ty.nmB x.nf f = true then 0 else 70
set_option maxRecDepth 100000 in
set_option maxHeartbeats 4000000 in
theorem offset7_ok {N : Nat} {w : World} {T : Nat → Ty.TyV} {n : Nat} {a : Option Addr} {c : Nat} (h : TysIn N w a n c T) (hN : N ≤ w.heap.size) (hc : Ty.chk T n = 0) {i : Nat} (hi : i < n) (f : Int) :
    Calls Try.prog 27 #[.slice a n c, .int .i64 i, .int .i64 f] w fun e w' => e = .returned (.tuple #[.int .i64 (Ty.offV (T i) (Ty.lie T) f), .int .i64 (Ty.offE (T i) f)]) ∧ w.grownBy w' none := by
  have hmx := h.max
  have hle := h.le
  unfold maxLen at hmx
  have hi' : (i : Int) < n := by omega
  obtain ⟨h64, hF⟩ := Ty.chk_ok hc
  obtain ⟨h16, hf⟩ := Ty.flds_in (hF i hi).1
  have HC : Hid (Calls Try.prog 30 #[.slice a n c, .int .i64 i] w fun e w' => ∃ bf bt ba F, e = .returned (.tuple #[.func (.func 48) #[] #[.pointer (some ⟨bf, 0, none⟩), .pointer (some ⟨bt, 0, none⟩), .pointer (some ⟨ba, 0, none⟩)], .int .i64 0]) ∧
      Ak N w' T n a c bf bt ba F ∧ w.heap.size ≤ F ∧ w.grownBy w' none) := takeEntry_ok h hN hc hi
  obtain ⟨b, off, fa, fc, rfl, hb, hty⟩ := h.at hi
  have HT : Hid (TyC N w b (off + i * 4) (T i) fa fc) := hty
  have HP : Hid (∀ bf bt ba F W, Ak N W T n (some ⟨b, off, none⟩) c bf bt ba F → N ≤ W.heap.size → NumIn N W fa (T i).nf fc (T i).F → Calls Try.prog 41 #[.slice fa (T i).nf fc, .func (.func 48) #[] #[.pointer (some ⟨bf, 0, none⟩), .pointer (some ⟨bt, 0, none⟩), .pointer (some ⟨ba, 0, none⟩)]] W fun e w' =>
      ∃ v, e = .returned (.tuple #[v, .int .i64 (Ty.en (T i) (Ty.lie T) (T i).nf)]) ∧ OwnZ w' W.heap.size v ((List.range (T i).nf).map (Ty.bg (T i) (Ty.lie T))) ∧ Ak N w' T n (some ⟨b, off, none⟩) c bf bt ba F ∧ Ch W w' [F]) := fun bf bt ba F W hA' hN' hx' => places7_any hA' (ask_all (hF.mono (Nat.le_of_lt hi)) (Nat.le_of_lt hi)) hN' (hF.mono (Nat.le_of_lt hi)) hx' h16 hf
  have HM : Hid (∀ W, Calls Try.prog 42 #[.int .i64 (T i).nf, .int .i64 f] W fun e w' => e = .returned (.bool (Ty.nmB (T i).nf f)) ∧ w' = W) := fun W => nm_any _ _ _
  have HN : Hid (N ≤ w.heap.size) := hN
  have HB : Hid (∀ k, k < (T i).nf → Ty.bg (T i) (Ty.lie T) k = ((List.range (T i).nf).map (Ty.bg (T i) (Ty.lie T))).getD k 0) := fun k hk => by simp [List.getD_eq_getElem?_getD, hk]
  have hl : ((List.range (T i).nf).map (Ty.bg (T i) (Ty.lie T))).length = (T i).nf := by simp
  unfold Ty.offV Ty.offE
  clear h hc hF hf hty
  obtain ⟨x, hx⟩ : ∃ x, x = T i := ⟨_, rfl⟩
  rw [← hx] at HT HP HM HB hl h16 ⊢
  generalize (List.range x.nf).map (Ty.bg x (Ty.lie T)) = Z at *
  generalize Ty.en x (Ty.lie T) x.nf = E at *
  clear hx
  cases hm : Ty.nmB x.nf f
  · rw [hm] at HM
    rw [if_neg (by simp), if_neg (by simp)]
    clear HB hm
    go_enter Try.func27, Try.ntmps27
    go_wp2_with (first
      | (go_at_call 30; refine HC.out.mono ?_; rintro e w3 ⟨bf, bt, ba, F, rfl, hA3, hF3, hg3⟩; have HA3 : Hid (Ak N w3 T n (some ⟨b, off, none⟩) c bf bt ba F) := hA3; have HG3 : Hid (w.heap.size ≤ F ∧ w.grownBy w3 none) := ⟨hF3, hg3⟩; have HT3 : Hid (TyC N w3 b (off + i * 4) x fa fc) := HT.out.ch (l := []) (Ch.of hg3) (by simp) (by simp); have c3 := HT3.out.c3; clear hA3 hF3 hg3)
      | (go_at_call 41; refine (HP.out bf bt ba F _ HA3.out (by have := HG3.out.2.size; have := HN.out; omega) HT3.out.f).mono ?_; rintro e w4 ⟨v4, rfl, ho4, hA4, hg4⟩; have HG4 : Hid (Ch w3 w4 [F]) := hg4; obtain ⟨av, cv, rfl, hcv, hcm, hav⟩ := ho4.slice; rw [hl]; clear ho4 hA4 hg4 hav)
      | (go_at_call 42; refine (HM.out _).mono ?_; rintro e w5 ⟨rfl, rfl⟩))
    go_ret2
    exact ⟨rfl, Ch.fresh HG3.out.2 HG3.out.1 HG4.out⟩
  · rw [hm] at HM
    rw [if_pos rfl, if_pos rfl]
    obtain ⟨f0, f1⟩ := Ty.nmB_iff.1 hm
    obtain ⟨k, rfl⟩ : ∃ k : Nat, f = k := ⟨f.toNat, by omega⟩
    have hk : k < x.nf := by omega
    have HBk : Hid (Ty.bg x (Ty.lie T) k = Z.getD k 0) := HB.out k hk
    rw [Int.toNat_natCast, HBk.out]
    clear HB HBk hm
    go_enter Try.func27, Try.ntmps27
    go_wp2_with (first
      | (go_at_call 30; refine HC.out.mono ?_; rintro e w3 ⟨bf, bt, ba, F, rfl, hA3, hF3, hg3⟩; have HA3 : Hid (Ak N w3 T n (some ⟨b, off, none⟩) c bf bt ba F) := hA3; have HG3 : Hid (w.heap.size ≤ F ∧ w.grownBy w3 none) := ⟨hF3, hg3⟩; have HT3 : Hid (TyC N w3 b (off + i * 4) x fa fc) := HT.out.ch (l := []) (Ch.of hg3) (by simp) (by simp); have c3 := HT3.out.c3; clear hA3 hF3 hg3)
      | (go_at_call 41; refine (HP.out bf bt ba F _ HA3.out (by have := HG3.out.2.size; have := HN.out; omega) HT3.out.f).mono ?_; rintro e w4 ⟨v4, rfl, ho4, hA4, hg4⟩; have HG4 : Hid (Ch w3 w4 [F]) := hg4; obtain ⟨av, cv, rfl, hcv, hcm, hav⟩ := ho4.slice; obtain ⟨T4, rfl, _⟩ := hav (by omega); have hcl := ho4.n.cell (i := k) (by omega); rw [hl] at *; clear ho4 hA4 hg4 hav)
      | (go_at_call 42; refine (HM.out _).mono ?_; rintro e w5 ⟨rfl, rfl⟩))
    go_ret2
    exact ⟨rfl, Ch.fresh HG3.out.2 HG3.out.1 HG4.out⟩
end Go.Proofs.Ytlkldehapkgdaaa

/- What the walk over an entry's words keeps. -/
namespace Go.Proofs.Ytlkldehapkgdaaa
open Go.RowKit
set_option linter.unusedVariables false

/-- a row that was appended to lies where it lay, or is new -/
theorem app_block {w : World} {base : Nat} {v : Value} {l : List Int} (hown : OwnZ w base v l) (ad : Addr) (m : List Int) (c : Nat) (hm : 0 < m.length) (hnews : ∀ j u, (m.map (Value.int .i64))[j]? = some u → w.cell? (ad.add j) = some u)
    (hl : l.length ≤ 2000000) (hml : m.length ≤ 2000000) (ty : TypeId) {v' : Value} {w' : World} (hr : (Builtin.append_ #[25, 25] ty #[v, .slice (some ad) m.length c]).run Try.prog w = .ok v' w') : v'.ownBlock = v.ownBlock ∨ v'.ownBlock = some w.heap.size := by
  obtain ⟨i, hi, hz0, hz1, hz2⟩ := info_parts info_int
  have h1 : ∀ u ∈ m.map (Value.int .i64), u.oneCell' = true := by intro y hy; obtain ⟨z, _, rfl⟩ := List.mem_map.mp hy; rfl
  rcases hown.2 with ⟨rfl, h0⟩ | ⟨g, cap, cur, rfl, hbg, hg, hnc, hcm, hcs, htake⟩
  · have := run_append_nil (P := Try.prog) w 25 ty 3 i (.int .i64 0) Try.underlying25 hi hz0 ad m.length c (m.map (Value.int .i64)) (by rw [hz1]; simp) hnews (by omega) (by omega) (by rw [hz2]; omega)
    rw [hr] at this
    injection this with e1 e2
    subst e1
    exact .inr rfl
  · by_cases hroom : l.length + m.length ≤ cap
    · have := run_append_room (P := Try.prog) w 25 ty 3 i Try.underlying25 hi g l.length cap cur hg ad m.length c (m.map (Value.int .i64)) (by rw [hz1]; simp) hnews h1 hroom (by rw [hz1, hcs]; simp; omega)
      rw [hr] at this
      injection this with e1 e2
      subst e1
      exact .inl rfl
    · have := run_append_grow (P := Try.prog) w 25 ty 3 i (.int .i64 0) Try.underlying25 hi hz0 ⟨g, 0, none⟩ l.length cap (l.map (Value.int .i64)) (by rw [hz1]; simp) (hown.cells (g := g) rfl) ad m.length c (m.map (Value.int .i64)) (by rw [hz1]; simp) hnews (by omega) (by omega) (by rw [hz2]; exact growslice_fits (by omega) (by omega))
      rw [hr] at this
      injection this with e1 e2
      subst e1
      exact .inr rfl
/-- numbers appended that lie in a row of their own, and where the row lies then -/
theorem wp_appZx {ops : Array Oper} {rest : List Oper} {o : Oper} {a : Act} {Q : Exit → Act → World → Prop} {W : World} (hgd : o.guard = none) (s x : Operand)
    (ho : o.op = .call { callee := .builtin .append, args := #[s, x], argTypes := #[25, 25] }) (base : Nat) (v : Value) (l m : List Int) (T c b2 : Nat) (hs : a.eval s = v) (hown : OwnZ W base v l)
    (hx : a.eval x = .slice (some ⟨T, 0, none⟩) m.length c) (hsrc : OwnZ W b2 (.slice (some ⟨T, 0, none⟩) m.length c) m) (h0 : 0 < m.length) (hl : l.length ≤ 2000000) (hm : m.length ≤ 2000000) (hb : base ≤ W.heap.size)
    (h : ∀ v' w', OwnZ w' base v' (l ++ m) → W.grownBy w' v.ownBlock → (v'.ownBlock = v.ownBlock ∨ v'.ownBlock = some W.heap.size) → wpList Try.prog ops Q rest (a.put o.dst v') w') : wpList Try.prog ops Q (o :: rest) a W := by
  obtain ⟨i, hi, hz0, hz1, hz2⟩ := info_parts info_int
  have hn : ∀ j u, (m.map (Value.int .i64))[j]? = some u → W.cell? ((⟨T, 0, none⟩ : Addr).add j) = some u := fun j y hj => World.ownsRow.cells hsrc rfl j y hj
  obtain ⟨v', w', hr, h2, h3, h4⟩ := run_append_own (P := Try.prog) W base 25 o.type 3 i (.int .i64 0) 1 8 Try.underlying25 hi hz0 hz1 hz2 rfl (by decide) v l.length (l.map (Value.int .i64)) hown ⟨T, 0, none⟩ m.length c (m.map (Value.int .i64)) (by simp) hn
    (by intro y hy; obtain ⟨z, _, rfl⟩ := List.mem_map.mp hy; rfl) (by unfold maxLen; omega) (by omega) hb
  have hbk := app_block hown ⟨T, 0, none⟩ m c h0 hn hl hm o.type hr
  refine wpList_plain hgd fun K hK => ?_
  unfold Oper.wp execOp
  simp only [ho, resolve, invoke, builtin, Sem.run_bind, Sem.run_pure, Result.andThen_ok, List.map_toArray, List.map_cons, List.map_nil, hs, hx, hr]
  refine hK _ _ (h v' w' ?_ h3 hbk)
  unfold OwnZ
  rw [List.length_append, List.map_append]
  exact h2
/-- one appended -/
theorem wp_appY1 {ops : Array Oper} {rest : List Oper} {o : Oper} {a : Act} {Q : Exit → Act → World → Prop} {W : World} (hgd : o.guard = none) (s x : Operand)
    (ho : o.op = .call { callee := .builtin .append, args := #[s, x], argTypes := #[25, 25] }) (base : Nat) (v : Value) (l : List Int) (X : Int) (hs : a.eval s = v) (hown : OwnZ W base v l)
    {nb : Nat} (hx : a.eval x = .slice (some ⟨nb, 0, none⟩) 1 1) (hnb : nb = W.heap.size) (hl : l.length ≤ 2000000) (hb : base ≤ W.heap.size)
    (h : ∀ v' w', OwnZ w' base v' (l ++ [X]) → W.grownBy w' v.ownBlock → (∀ q, v'.ownBlock = some q → v.ownBlock = some q ∨ W.heap.size ≤ q) → wpList Try.prog ops Q rest (a.put o.dst v') w') : wpList Try.prog ops Q (o :: rest) a (W.alloc (Obj.cells #[.int .i64 X] 3)) := by
  subst hnb
  have hl1 : OwnZ (W.alloc (Obj.cells #[.int .i64 X] 3)) W.heap.size (.slice (some ⟨W.heap.size, 0, none⟩) 1 1) [X] := World.ownsRow_lit (base := W.heap.size) (e := 3) (size := 1) W #[.int .i64 X] 1 (Nat.le_refl _) (by decide) rfl
  refine wp_appZx hgd s x ho base v l [X] W.heap.size 1 _ hs (hown.grow (World.grownBy_alloc _ _ _)) hx hl1 (by simp) hl (by simp) (by simp; omega) ?_
  intro v' w' ho' hg' hq
  refine h v' w' ho' (grown_trans (grown_noneR _ (World.grownBy_alloc _ _ _)) hg') (fun q hv => ?_)
  rcases hq with e | e
  · exact .inl (e ▸ hv)
  · rw [e] at hv; simp at hv; exact .inr (by omega)
/-- two appended -/
theorem wp_appY2 {ops : Array Oper} {rest : List Oper} {o : Oper} {a : Act} {Q : Exit → Act → World → Prop} {W : World} (hgd : o.guard = none) (s x : Operand)
    (ho : o.op = .call { callee := .builtin .append, args := #[s, x], argTypes := #[25, 25] }) (base : Nat) (v : Value) (l : List Int) (X Y : Int) (hs : a.eval s = v) (hown : OwnZ W base v l)
    {nb : Nat} (hx : a.eval x = .slice (some ⟨nb, 0, none⟩) 2 2) (hnb : nb = W.heap.size) (hl : l.length ≤ 2000000) (hb : base ≤ W.heap.size)
    (h : ∀ v' w', OwnZ w' base v' (l ++ [X, Y]) → W.grownBy w' v.ownBlock → (∀ q, v'.ownBlock = some q → v.ownBlock = some q ∨ W.heap.size ≤ q) → wpList Try.prog ops Q rest (a.put o.dst v') w') : wpList Try.prog ops Q (o :: rest) a (W.alloc (Obj.cells #[.int .i64 X, .int .i64 Y] 3)) := by
  subst hnb
  have hl1 : OwnZ (W.alloc (Obj.cells #[.int .i64 X, .int .i64 Y] 3)) W.heap.size (.slice (some ⟨W.heap.size, 0, none⟩) 2 2) [X, Y] := World.ownsRow_lit (base := W.heap.size) (e := 3) (size := 1) W #[.int .i64 X, .int .i64 Y] 2 (Nat.le_refl _) (by decide) rfl
  refine wp_appZx hgd s x ho base v l [X, Y] W.heap.size 2 _ hs (hown.grow (World.grownBy_alloc _ _ _)) hx hl1 (by simp) hl (by simp) (by simp; omega) ?_
  intro v' w' ho' hg' hq
  refine h v' w' ho' (grown_trans (grown_noneR _ (World.grownBy_alloc _ _ _)) hg') (fun q hv => ?_)
  rcases hq with e | e
  · exact .inl (e ▸ hv)
  · rw [e] at hv; simp at hv; exact .inr (by omega)
/-- the five variables of the walk lie from M on: the table, the asker, kinds, offsets, the walk itself -/
structure Ws (N : Nat) (w : World) (T : Nat → Ty.TyV) (n : Nat) (a : Option Addr) (c bf bt ba F M : Nat) (vK vO : Value) (ks os : List Int) : Prop where
  A : Ak N w T n a c bf bt ba F
  l1 : bf < M
  l2 : bt < M
  l3 : ba < M
  l4 : F < M
  ct : w.cell? ⟨M, 0, none⟩ = some (.slice a n c)
  ck : w.cell? ⟨M + 1, 0, none⟩ = some (.func (.func 48) #[] #[.pointer (some ⟨bf, 0, none⟩), .pointer (some ⟨bt, 0, none⟩), .pointer (some ⟨ba, 0, none⟩)])
  cK : w.cell? ⟨M + 2, 0, none⟩ = some vK
  cO : w.cell? ⟨M + 3, 0, none⟩ = some vO
  cw : w.cell? ⟨M + 4, 0, none⟩ = some (.func (.func 50) #[] #[.pointer (some ⟨M, 0, none⟩), .pointer (some ⟨M + 1, 0, none⟩), .pointer (some ⟨M + 4, 0, none⟩), .pointer (some ⟨M + 2, 0, none⟩), .pointer (some ⟨M + 3, 0, none⟩)])
  zK : w.frozen? ⟨M + 2, 0, none⟩ = false
  zO : w.frozen? ⟨M + 3, 0, none⟩ = false
  oK : OwnZ w (M + 5) vK ks
  oO : OwnZ w (M + 5) vO os
  ap : ∀ q, vK.ownBlock = some q → vO.ownBlock ≠ some q
theorem Ws.sz {N : Nat} {w : World} {T : Nat → Ty.TyV} {n : Nat} {a : Option Addr} {c bf bt ba F M : Nat} {vK vO : Value} {ks os : List Int} (h : Ws N w T n a c bf bt ba F M vK vO ks os) : M + 4 < w.heap.size := World.block_lt_of_cell? _ _ h.cw
/-- the asker has gone on -/
theorem Ws.asked {N : Nat} {w w' : World} {T : Nat → Ty.TyV} {n : Nat} {a : Option Addr} {c bf bt ba F M : Nat} {vK vO : Value} {ks os : List Int} (h : Ws N w T n a c bf bt ba F M vK vO ks os) (hA : Ak N w' T n a c bf bt ba F) (hg : Ch w w' [F]) : Ws N w' T n a c bf bt ba F M vK vO ks os := by
  have l4 := h.l4
  have hs := h.sz
  exact ⟨hA, h.l1, h.l2, h.l3, h.l4, hg.cell h.ct (by simp; omega), hg.cell h.ck (by simp; omega), hg.cell h.cK (by simp; omega), hg.cell h.cO (by simp; omega), hg.cell h.cw (by simp; omega), frozen_ch hg (by omega) (by simp; omega) h.zK, frozen_ch hg (by omega) (by simp; omega) h.zO,
    h.oK.ch hg (fun q hq => by have := h.oK.base q hq; simp; omega), h.oO.ch hg (fun q hq => by have := h.oO.base q hq; simp; omega), h.ap⟩
theorem Ws.grow {N : Nat} {w w' : World} {T : Nat → Ty.TyV} {n : Nat} {a : Option Addr} {c bf bt ba F M : Nat} {vK vO : Value} {ks os : List Int} (h : Ws N w T n a c bf bt ba F M vK vO ks os) (hg : w.grownBy w' none) : Ws N w' T n a c bf bt ba F M vK vO ks os :=
  h.asked (h.A.grow hg) (Ch.of hg)
/-- which blocks the walk turns -/
def wl (F M : Nat) (vK vO : Value) : List Nat := F :: (M + 2) :: (M + 3) :: (vK.ownBlock.toList ++ vO.ownBlock.toList)
theorem wl_mem {F M : Nat} {vK vO : Value} {q : Nat} : q ∈ wl F M vK vO ↔ q = F ∨ q = M + 2 ∨ q = M + 3 ∨ vK.ownBlock = some q ∨ vO.ownBlock = some q := by
  unfold wl
  simp only [List.mem_cons, List.mem_append, Option.mem_toList]
/-- how the walk goes on -/
structure Wm (F M : Nat) (w w' : World) (vK vO vK' vO' : Value) : Prop where
  ch : Ch w w' (wl F M vK vO)
  nk : ∀ q, vK'.ownBlock = some q → vK.ownBlock = some q ∨ w.heap.size ≤ q
  no : ∀ q, vO'.ownBlock = some q → vO.ownBlock = some q ∨ w.heap.size ≤ q
theorem Wm.refl (F M : Nat) (w : World) (vK vO : Value) : Wm F M w w vK vO vK vO := ⟨Ch.refl _ _, fun _ h => .inl h, fun _ h => .inl h⟩
theorem Wm.trans {F M : Nat} {w w1 w2 : World} {vK vO vK1 vO1 vK2 vO2 : Value} (h1 : Wm F M w w1 vK vO vK1 vO1) (h2 : Wm F M w1 w2 vK1 vO1 vK2 vO2) : Wm F M w w2 vK vO vK2 vO2 := by
  have hs := h1.ch.size
  refine ⟨⟨h2.ch.os.trans h1.ch.os, h2.ch.tape.trans h1.ch.tape, h2.ch.output.trans h1.ch.output, Nat.le_trans hs h2.ch.size, fun k hk hn => ?_⟩, fun q hq => ?_, fun q hq => ?_⟩
  · refine (h2.ch.block k (by omega) (fun hm => hn ?_)).trans (h1.ch.block k hk hn)
    rw [wl_mem] at hm ⊢
    rcases hm with h | h | h | h | h
    · exact .inl h
    · exact .inr (.inl h)
    · exact .inr (.inr (.inl h))
    · rcases h1.nk k h with h | h
      · exact .inr (.inr (.inr (.inl h)))
      · omega
    · rcases h1.no k h with h | h
      · exact .inr (.inr (.inr (.inr h)))
      · omega
  · rcases h2.nk q hq with h | h
    · exact h1.nk q h
    · exact .inr (by omega)
  · rcases h2.no q hq with h | h
    · exact h1.no q h
    · exact .inr (by omega)
theorem Wm.of {F M : Nat} {w w' : World} {vK vO : Value} (h : Ch w w' [F]) : Wm F M w w' vK vO vK vO := ⟨h.mono (fun k _ hk => by rw [wl_mem]; simp at hk; exact .inl hk), fun _ h => .inl h, fun _ h => .inl h⟩
theorem grown_ch {w w' : World} {v : Value} (hg : w.grownBy w' v.ownBlock) : Ch w w' v.ownBlock.toList := ⟨hg.os, hg.tape, hg.output, hg.size, fun k hk hn => hg.block k hk (fun e => hn (by rw [← e]; simp))⟩
/-- kinds appended and kept -/
theorem Ws.putK {N : Nat} {w w1 : World} {T : Nat → Ty.TyV} {n : Nat} {a : Option Addr} {c bf bt ba F M : Nat} {vK vO vK' : Value} {ks os ks' : List Int} (h : Ws N w T n a c bf bt ba F M vK vO ks os)
    (ho : OwnZ w1 (M + 5) vK' ks') (hg : w.grownBy w1 vK.ownBlock) (hq : ∀ q, vK'.ownBlock = some q → vK.ownBlock = some q ∨ w.heap.size ≤ q) :
    Ws N (w1.setCell ⟨M + 2, 0, none⟩ vK') T n a c bf bt ba F M vK' vO ks' os ∧ Wm F M w (w1.setCell ⟨M + 2, 0, none⟩ vK') vK vO vK' vO := by
  have hs := h.sz
  have hNF := h.A.nF
  have l1 := h.l1
  have l2 := h.l2
  have l3 := h.l3
  have l4 := h.l4
  have bK := h.oK.base
  have c1 : Ch w w1 ((M + 2) :: vK.ownBlock.toList) := (grown_ch hg).mono (fun k _ hk => by simp at hk ⊢; exact .inr hk)
  have c2 : Ch w1 (w1.setCell ⟨M + 2, 0, none⟩ vK') ((M + 2) :: vK.ownBlock.toList) := Ch.one (grown_set _ _ _ _) (by simp)
  have c0 := c1.trans c2
  have nb : ∀ q, q < M + 5 → q ≠ M + 2 → q ∉ (M + 2) :: vK.ownBlock.toList := fun q h1 h2 hm => by
    simp at hm
    rcases hm with e | e
    · exact h2 e
    · have := bK q e; omega
  have cK1 : w1.cell? ⟨M + 2, 0, none⟩ = some vK := (grown_ch hg).cell h.cK (by simp; intro e; have := bK _ e; omega)
  refine ⟨⟨h.A.ch c0 (fun k hk => ?_) (nb _ (by omega) (by omega)) (nb _ (by omega) (by omega)) (nb _ (by omega) (by omega)) (nb _ (by omega) (by omega)), l1, l2, l3, l4, c0.cell h.ct (nb _ (by omega) (by omega)), c0.cell h.ck (nb _ (by omega) (by omega)), World.cell?_setCell_same _ _ _ cK1, c0.cell h.cO (nb _ (by omega) (by omega)), c0.cell h.cw (nb _ (by omega) (by omega)), ?_, frozen_ch c0 (by omega) (nb _ (by omega) (by omega)) h.zO, ?_, ?_, ?_⟩, ⟨c0.mono (fun k _ hk => ?_), hq, fun _ h => .inl h⟩⟩
  · simp at hk
    rcases hk with e | e
    · omega
    · have := bK k e; omega
  · rw [World.frozen?_setCell]
    exact frozen_ch (grown_ch hg) (by omega) (by simp; intro e; have := bK _ e; omega) h.zK
  · exact ho.ch (l := [M + 2]) (Ch.one (grown_set _ _ _ _) (by simp)) (fun q hq' => by have := ho.base q hq'; simp; omega)
  · exact h.oO.ch c0 (fun q hq' hm => by
      simp at hm
      rcases hm with e | e
      · have := h.oO.base q hq'; omega
      · exact h.ap q e hq')
  · intro q hq'
    rcases hq q hq' with e | e
    · exact h.ap q e
    · intro e2; have := h.oO.lt q e2; omega
  · rw [wl_mem]
    simp at hk
    rcases hk with e | e
    · exact .inr (.inl e)
    · exact .inr (.inr (.inr (.inl e)))
/-- offsets appended and kept -/
theorem Ws.putO {N : Nat} {w w1 : World} {T : Nat → Ty.TyV} {n : Nat} {a : Option Addr} {c bf bt ba F M : Nat} {vK vO vO' : Value} {ks os os' : List Int} (h : Ws N w T n a c bf bt ba F M vK vO ks os)
    (ho : OwnZ w1 (M + 5) vO' os') (hg : w.grownBy w1 vO.ownBlock) (hq : ∀ q, vO'.ownBlock = some q → vO.ownBlock = some q ∨ w.heap.size ≤ q) :
    Ws N (w1.setCell ⟨M + 3, 0, none⟩ vO') T n a c bf bt ba F M vK vO' ks os' ∧ Wm F M w (w1.setCell ⟨M + 3, 0, none⟩ vO') vK vO vK vO' := by
  have hs := h.sz
  have hNF := h.A.nF
  have l1 := h.l1
  have l2 := h.l2
  have l3 := h.l3
  have l4 := h.l4
  have bO := h.oO.base
  have c1 : Ch w w1 ((M + 3) :: vO.ownBlock.toList) := (grown_ch hg).mono (fun k _ hk => by simp at hk ⊢; exact .inr hk)
  have c2 : Ch w1 (w1.setCell ⟨M + 3, 0, none⟩ vO') ((M + 3) :: vO.ownBlock.toList) := Ch.one (grown_set _ _ _ _) (by simp)
  have c0 := c1.trans c2
  have nb : ∀ q, q < M + 5 → q ≠ M + 3 → q ∉ (M + 3) :: vO.ownBlock.toList := fun q h1 h2 hm => by
    simp at hm
    rcases hm with e | e
    · exact h2 e
    · have := bO q e; omega
  have cO1 : w1.cell? ⟨M + 3, 0, none⟩ = some vO := (grown_ch hg).cell h.cO (by simp; intro e; have := bO _ e; omega)
  refine ⟨⟨h.A.ch c0 (fun k hk => ?_) (nb _ (by omega) (by omega)) (nb _ (by omega) (by omega)) (nb _ (by omega) (by omega)) (nb _ (by omega) (by omega)), l1, l2, l3, l4, c0.cell h.ct (nb _ (by omega) (by omega)), c0.cell h.ck (nb _ (by omega) (by omega)), c0.cell h.cK (nb _ (by omega) (by omega)), World.cell?_setCell_same _ _ _ cO1, c0.cell h.cw (nb _ (by omega) (by omega)), frozen_ch c0 (by omega) (nb _ (by omega) (by omega)) h.zK, ?_, ?_, ?_, ?_⟩, ⟨c0.mono (fun k _ hk => ?_), fun _ h => .inl h, hq⟩⟩
  · simp at hk
    rcases hk with e | e
    · omega
    · have := bO k e; omega
  · rw [World.frozen?_setCell]
    exact frozen_ch (grown_ch hg) (by omega) (by simp; intro e; have := bO _ e; omega) h.zO
  · exact h.oK.ch c0 (fun q hq' hm => by
      simp at hm
      rcases hm with e | e
      · have := h.oK.base q hq'; omega
      · exact h.ap q hq' e)
  · exact ho.ch (l := [M + 3]) (Ch.one (grown_set _ _ _ _) (by simp)) (fun q hq' => by have := ho.base q hq'; simp; omega)
  · intro q hq' e2
    rcases hq q e2 with e | e
    · exact h.ap q hq' e
    · have := h.oK.lt q hq'; omega
  · rw [wl_mem]
    simp at hk
    rcases hk with e | e
    · exact .inr (.inr (.inl e))
    · exact .inr (.inr (.inr (.inr e)))
end Go.Proofs.Ytlkldehapkgdaaa

/- The walk over an entry's words. -/
namespace Go.Proofs.Ytlkldehapkgdaaa
open Go.RowKit
set_option linter.unusedVariables false

theorem Ty.ws_mono {x : Ty.TyV} {L : Nat → Ty.Li} : ∀ {k m : Nat}, k ≤ m → (∀ j, j < m → Ty.Good (Ty.fl x L j)) → Ty.ws x L k ≤ Ty.ws x L m
  | k, 0, h, _ => by obtain rfl : k = 0 := by omega
                     exact Int.le_refl _
  | k, m + 1, h, hg => by
    by_cases e : k = m + 1
    · subst e; exact Int.le_refl _
    · have h1 := ws_mono (k := k) (m := m) (by omega) fun j hj => hg j (by omega)
      have h2 := (hg m (by omega)).w0
      rw [Ty.ws]
      omega
theorem Ws.midK {N : Nat} {w w1 : World} {T : Nat → Ty.TyV} {n : Nat} {a : Option Addr} {c bf bt ba F M : Nat} {vK vO : Value} {ks os : List Int} (h : Ws N w T n a c bf bt ba F M vK vO ks os) (hg : w.grownBy w1 vK.ownBlock) : w1.cell? ⟨M + 2, 0, none⟩ = some vK ∧ w1.frozen? ⟨M + 2, 0, none⟩ = false := by
  have hs := h.sz
  have bK := h.oK.base
  exact ⟨(grown_ch hg).cell h.cK (by simp; intro e; have := bK _ e; omega), frozen_ch (grown_ch hg) (by omega) (by simp; intro e; have := bK _ e; omega) h.zK⟩
theorem Ws.midO {N : Nat} {w w1 : World} {T : Nat → Ty.TyV} {n : Nat} {a : Option Addr} {c bf bt ba F M : Nat} {vK vO : Value} {ks os : List Int} (h : Ws N w T n a c bf bt ba F M vK vO ks os) (hg : w.grownBy w1 vO.ownBlock) : w1.cell? ⟨M + 3, 0, none⟩ = some vO ∧ w1.frozen? ⟨M + 3, 0, none⟩ = false := by
  have hs := h.sz
  have bO := h.oO.base
  exact ⟨(grown_ch hg).cell h.cO (by simp; intro e; have := bO _ e; omega), frozen_ch (grown_ch hg) (by omega) (by simp; intro e; have := bO _ e; omega) h.zO⟩
def Ty.k1 (l : List (Int × Int)) : List Int := l.map (·.1)
def Ty.k2 (l : List (Int × Int)) : List Int := l.map (·.2)
/-- the walk tells the words of the first K -/
def WalkOk (N : Nat) (T : Nat → Ty.TyV) (n : Nat) (a : Option Addr) (c bf bt ba F M K : Nat) : Prop :=
  ∀ j, j < K → ∀ (at' : Int) w vK vO ks os, Ws N w T n a c bf bt ba F M vK vO ks os → 0 ≤ at' → at' + (Ty.lie T j).size ≤ 1099511627776 → (ks.length : Int) + (Ty.lie T j).words ≤ 1000000 → (os.length : Int) + (Ty.lie T j).words ≤ 1000000 →
    Calls Try.prog 50 #[.int .i64 j, .int .i64 at', .pointer (some ⟨M, 0, none⟩), .pointer (some ⟨M + 1, 0, none⟩), .pointer (some ⟨M + 4, 0, none⟩), .pointer (some ⟨M + 2, 0, none⟩), .pointer (some ⟨M + 3, 0, none⟩)] w fun e w' =>
      e = .returned (.tuple #[]) ∧ ∃ vK' vO', Ws N w' T n a c bf bt ba F M vK' vO' (ks ++ Ty.k1 (Ty.wk T j)) (os ++ Ty.k2 (Ty.sh at' (Ty.wk T j))) ∧ Wm F M w w' vK vO vK' vO'
set_option maxRecDepth 100000 in
set_option maxHeartbeats 8000000 in
theorem walk_step {N : Nat} {T : Nat → Ty.TyV} {n : Nat} {a : Option Addr} {c bf bt ba F M K : Nat} (hW : WalkOk N T n a c bf bt ba F M K) (hF : Ty.Fine T n n) (hn : K < n) : WalkOk N T n a c bf bt ba F M (K + 1) := by
  intro j hj
  by_cases hjK : j < K
  · exact hW j hjK
  obtain rfl : j = K := by omega
  clear hj hjK
  intro at' w vK vO ks os hS h0 h1 hk1 hk2
  have hok := (hF j hn).1
  obtain ⟨hgd, hsz⟩ := hF.good j hn
  have hO := ask_all (N := N) (a := a) (c := c) (bf := bf) (bt := bt) (ba := ba) (F := F) hF (Nat.le_refl _)
  have hn' : (j : Int) < n := by omega
  have hwl := Ty.wk_len (T := T) (n := n) (i := j) fun k hk => (hF k (by omega)).1
  have hwe := Ty.wk_eq hok
  have hM := hS.sz
  have hl4 := hS.l4
  obtain ⟨b, off, fa, fc, rfl, hb, hty⟩ := hS.A.ty.at hn
  obtain ⟨W1, hW1⟩ : ∃ W1, W1 = w.alloc (.cells #[.int .i64 (T j).kind, .int .i64 (T j).elem, .int .i64 (T j).n, .slice fa (T j).nf fc] 41) := ⟨_, rfl⟩
  have hg1 : w.grownBy W1 none := by rw [hW1]; exact World.grownBy_alloc _ _ _
  have hs1 : W1.heap.size = w.heap.size + 1 := by rw [hW1]; simp
  have hS1 := hS.grow hg1
  have x0 : W1.cell? ⟨w.heap.size, 0, none⟩ = some (.int .i64 (T j).kind) := by rw [hW1]; simp
  have x3 : W1.cell? ⟨w.heap.size, 3, none⟩ = some (.slice fa (T j).nf fc) := by rw [hW1]; simp
  have HAsk := hO j hn W1 hS1.A
  obtain ⟨L, hL⟩ : ∃ L, L = Ty.lie T j := ⟨_, rfl⟩
  rw [← hL] at HAsk h1 hk1 hk2 hgd hsz hwl
  have HC : Hid (Calls Try.prog 48 #[.int .i64 j, .pointer (some ⟨bf, 0, none⟩), .pointer (some ⟨bt, 0, none⟩), .pointer (some ⟨ba, 0, none⟩)] W1 fun e w' =>
      e = .returned (.agg #[.int .i64 L.size, .int .i64 L.align, .int .i64 L.words, .bool L.arr]) ∧ Ak N w' T n (some ⟨b, off, none⟩) c bf bt ba F ∧ Ch W1 w' [F]) := HAsk
  have HS1 : Hid (Ws N W1 T n (some ⟨b, off, none⟩) c bf bt ba F M vK vO ks os) := hS1
  have HX0 : Hid (W1.cell? ⟨w.heap.size, 0, none⟩ = some (.int .i64 (T j).kind)) := x0
  have HX3 : Hid (W1.cell? ⟨w.heap.size, 3, none⟩ = some (.slice fa (T j).nf fc)) := x3
  have hfd := field_words L
  have hBF : w.heap.size ∉ [F] := by simp; omega
  have ct := hS.ct
  have t0 := hty.c0
  have t1 := hty.c1
  have t2 := hty.c2
  have t3 := hty.c3
  have HG1 : Hid (w.grownBy W1 none) := hg1
  have ck := hS1.ck
  rw [hW1] at ck
  have HW1 : Hid (W1 = w.alloc (.cells #[.int .i64 (T j).kind, .int .i64 (T j).elem, .int .i64 (T j).n, .slice fa (T j).nf fc] 41)) := hW1
  by_cases hw0 : L.words = 0
  · have e : Ty.wk T j = [] := List.length_eq_zero_iff.1 (by omega)
    rw [e]
    clear e hW hF hok hO hS hS1 HAsk hL hwe hwl hgd hsz hty hW1 x0 x3 hg1
    rw [hw0] at hfd HC
    generalize T j = x at *
    go_enter Try.func50, Try.ntmps50
    go_wp2_with (go_at_call 48; rw [← HW1.out]; refine HC.out.mono ?_; rintro e w3 ⟨rfl, hA3, hg3⟩)
    go_end0
    refine ⟨rfl, vK, vO, ?_, ?_⟩
    · rw [show Ty.k1 [] = [] from rfl, show Ty.k2 (Ty.sh at' []) = [] from rfl, List.append_nil, List.append_nil]
      exact HS1.out.asked hA3 hg3
    · exact (Wm.of (Ch.of HG1.out)).trans (Wm.of hg3)
  have hw0' : (L.words == 0) = false := by simpa using hw0
  rcases Ty.ok_cases hok with ⟨hk, _⟩ | ⟨hk, i3, i4, h16, hf⟩ | ⟨hk, i3, i4⟩ | ⟨i1, i2, i3, i4⟩
  · exfalso
    apply hw0
    rw [hL, Ty.lie_eq hok]
    unfold Ty.lieOf
    rw [if_pos hk]
  · have hgf : ∀ k, k < (T j).nf → Ty.Good (Ty.fl (T j) (Ty.lie T) k) ∧ (Ty.fl (T j) (Ty.lie T) k).size ≤ 65536 := fun k hk' => hF.good _ (by have := hf k hk'; omega)
    have hLw : L.words = Ty.ws (T j) (Ty.lie T) (T j).nf := by rw [hL, Ty.lie_eq hok]; unfold Ty.lieOf; rw [if_neg (by omega), if_pos hk]
    have e : Ty.wk T j = Ty.cat (T j) (Ty.lie T) (Ty.wk T) (T j).nf := by rw [hwe]; unfold Ty.wkOf; rw [if_neg (by omega), if_pos hk]
    have hcl : ∀ k, k ≤ (T j).nf → ((Ty.cat (T j) (Ty.lie T) (Ty.wk T) k).length : Int) = Ty.ws (T j) (Ty.lie T) k := fun k hk' => Ty.cat_len fun q hq => Ty.wk_len (n := n) fun r hr => (hF r (by have := hf q (by omega); omega)).1
    have HP : Hid (∀ W, Ak N W T n (some ⟨b, off, none⟩) c bf bt ba F → N ≤ W.heap.size → NumIn N W fa (T j).nf fc (T j).F → Calls Try.prog 41 #[.slice fa (T j).nf fc, .func (.func 48) #[] #[.pointer (some ⟨bf, 0, none⟩), .pointer (some ⟨bt, 0, none⟩), .pointer (some ⟨ba, 0, none⟩)]] W fun e w' =>
      ∃ v, e = .returned (.tuple #[v, .int .i64 (Ty.en (T j) (Ty.lie T) (T j).nf)]) ∧ OwnZ w' W.heap.size v ((List.range (T j).nf).map (Ty.bg (T j) (Ty.lie T))) ∧ Ak N w' T n (some ⟨b, off, none⟩) c bf bt ba F ∧ Ch W w' [F]) := fun W hA' hN' hx' => places7_any hA' (hO.low (Nat.le_of_lt hn)) hN' (hF.mono (Nat.le_of_lt hn)) hx' h16 hf
    have HR : Hid (∀ k, k < (T j).nf → ∀ W vK1 vO1 , Ws N W T n (some ⟨b, off, none⟩) c bf bt ba F M vK1 vO1 (ks ++ Ty.k1 (Ty.cat (T j) (Ty.lie T) (Ty.wk T) k)) (os ++ Ty.k2 (Ty.sh at' (Ty.cat (T j) (Ty.lie T) (Ty.wk T) k))) →
      Calls Try.prog 50 #[.int .i64 ((T j).F k), .int .i64 (at' + Ty.bg (T j) (Ty.lie T) k), .pointer (some ⟨M, 0, none⟩), .pointer (some ⟨M + 1, 0, none⟩), .pointer (some ⟨M + 4, 0, none⟩), .pointer (some ⟨M + 2, 0, none⟩), .pointer (some ⟨M + 3, 0, none⟩)] W fun e w' =>
      e = .returned (.tuple #[]) ∧ ∃ vK' vO', Ws N w' T n (some ⟨b, off, none⟩) c bf bt ba F M vK' vO' (ks ++ Ty.k1 (Ty.cat (T j) (Ty.lie T) (Ty.wk T) (k + 1))) (os ++ Ty.k2 (Ty.sh at' (Ty.cat (T j) (Ty.lie T) (Ty.wk T) (k + 1)))) ∧ Wm F M W w' vK1 vO1 vK' vO') := by
      intro k hk' W vK1 vO1 hSk
      have hfk := hf k hk'
      have hbi := Ty.bg_in (hF.mono (Nat.le_of_lt hn)) hok hk hk'
      have hfl : Ty.fl (T j) (Ty.lie T) k = Ty.lie T ((T j).F k).toNat := rfl
      have hwm := Ty.ws_mono (x := T j) (L := Ty.lie T) (k := k + 1) (m := (T j).nf) hk' fun q hq => (hgf q hq).1
      rw [Ty.ws, hfl] at hwm
      rw [hfl, ← hL] at hbi
      have hck := hcl k (by omega)
      have := hW ((T j).F k).toNat (by omega) (at' + Ty.bg (T j) (Ty.lie T) k) W vK1 vO1 _ _ hSk (by omega) (by omega) (by rw [List.length_append, Ty.k1, List.length_map]; push_cast; omega) (by rw [List.length_append, Ty.k2, List.length_map, Ty.sh_len]; push_cast; omega)
      rw [Int.toNat_of_nonneg hfk.1] at this
      refine this.mono ?_
      rintro e' w' ⟨rfl, vK', vO', h5, h6⟩
      refine ⟨rfl, vK', vO', ?_, h6⟩
      have e1 : ks ++ Ty.k1 (Ty.cat (T j) (Ty.lie T) (Ty.wk T) (k + 1)) = ks ++ Ty.k1 (Ty.cat (T j) (Ty.lie T) (Ty.wk T) k) ++ Ty.k1 (Ty.wk T ((T j).F k).toNat) := by
        rw [Ty.cat, List.append_assoc]
        congr 1
        simp [Ty.k1, Ty.sh, Function.comp_def]
      have e2 : os ++ Ty.k2 (Ty.sh at' (Ty.cat (T j) (Ty.lie T) (Ty.wk T) (k + 1))) = os ++ Ty.k2 (Ty.sh at' (Ty.cat (T j) (Ty.lie T) (Ty.wk T) k)) ++ Ty.k2 (Ty.sh (at' + Ty.bg (T j) (Ty.lie T) k) (Ty.wk T ((T j).F k).toNat)) := by
        rw [Ty.cat, List.append_assoc, Ty.sh_app, Ty.sh_sh]
        congr 1
        simp [Ty.k2]
      rw [e1, e2]
      exact h5
    have HB : Hid (∀ k, k < (T j).nf → 0 ≤ Ty.bg (T j) (Ty.lie T) k ∧ Ty.bg (T j) (Ty.lie T) k ≤ 65536) := fun k hk' => by
      have h1 := Ty.bg_in (hF.mono (Nat.le_of_lt hn)) hok hk hk'
      have h2 := (hgf k hk').1.w0
      have h3 := (hgf k hk').1.ws
      rw [← hL] at h1
      omega
    have HBg : Hid (∀ k, k < (T j).nf → Ty.bg (T j) (Ty.lie T) k = ((List.range (T j).nf).map (Ty.bg (T j) (Ty.lie T))).getD k 0) := fun k hk => by simp [List.getD_eq_getElem?_getD, hk]
    have hl : ((List.range (T j).nf).map (Ty.bg (T j) (Ty.lie T))).length = (T j).nf := by simp
    have HNX : Hid (NumIn N W1 fa (T j).nf fc (T j).F) := hty.f.ch (l := []) (Ch.of hg1) (by simp)
    have hat : at' ≤ 1099511627776 := by have := hgd.w0; have := hgd.ws; omega
    have hNF : N ≤ F := hS.A.nF
    have hfcl := hty.f.le
    have hfcm := hty.f.max
    unfold maxLen at hfcm
    rw [e]
    clear e hwe hwl hW hF hok hO hS hS1 HAsk hL hgd hsz hty hW1 x0 x3 hg1 hk1 hk2 i3 i4 hf hgf hLw hcl h1
    generalize T j = x at *
    generalize (List.range x.nf).map (Ty.bg x (Ty.lie T)) = Z at *
    generalize Ty.en x (Ty.lie T) x.nf = E at *
    rw [hk] at ck HX0 HW1 t0
    clear hk
    go_enter Try.func50, Try.ntmps50
    go_wp2_with (first
      | (go_at_call 48; rw [← HW1.out]; refine HC.out.mono ?_; rintro e w3 ⟨rfl, hA3, hg3⟩; have HS3 : Hid (Ws N w3 T n (some ⟨b, off, none⟩) c bf bt ba F M vK vO ks os) := HS1.out.asked hA3 hg3; have HG3 : Hid (Ch W1 w3 [F]) := hg3; have HY3 : Hid (w3.cell? ⟨w.heap.size, 3, none⟩ = some (.slice fa x.nf fc)) := hg3.cell HX3.out hBF; have y0 := hg3.cell HX0.out hBF; have y3 := HY3.out; have ck3 := HS3.out.ck; have hs3 := HS3.out.sz; clear hA3 hg3)
      | (go_at_call 41; refine (HP.out _ HS3.out.A (by omega) (HNX.out.ch HG3.out (by simp; exact hNF))).mono ?_; rintro e w4 ⟨v4, rfl, ho4, hA4, hg4⟩; have HS4 : Hid (Ws N w4 T n (some ⟨b, off, none⟩) c bf bt ba F M vK vO ks os) := HS3.out.asked hA4 hg4; have HO4 : Hid (OwnZ w4 w3.heap.size v4 Z) := ho4; have HG4 : Hid (Ch w3 w4 [F]) := hg4; have y4 := hg4.cell HY3.out hBF; clear hA4 hg4 ho4))
    obtain ⟨av, cv, hv4, hcv, hcm, hav⟩ := HO4.out.slice
    rw [hl] at hv4 hcv hav
    subst hv4
    have HAV : Hid (0 < x.nf → ∃ T, av = some ⟨T, 0, none⟩ ∧ w3.heap.size ≤ T ∧ T < w4.heap.size) := hav
    have HNX4 : Hid (NumIn N w4 fa x.nf fc x.F) := (HNX.out.ch HG3.out (by simp; exact hNF)).ch HG4.out (by simp; exact hNF)
    have hsz4 := HG4.out.size
    clear hav
    go_loopw [47] (fun ix wr => ∃ (k : Nat) (vK1 vO1 : Value), ix = .int .i64 k ∧ k ≤ x.nf ∧ Ws N wr T n (some ⟨b, off, none⟩) c bf bt ba F M vK1 vO1 (ks ++ Ty.k1 (Ty.cat x (Ty.lie T) (Ty.wk T) k)) (os ++ Ty.k2 (Ty.sh at' (Ty.cat x (Ty.lie T) (Ty.wk T) k))) ∧ Wm F M w4 wr vK vO vK1 vO1) (fun ix _ => x.nf - (intOf ix).toNat)
    case atStart => exact ⟨0, vK, vO, rfl, Nat.zero_le _, by rw [Ty.cat, show Ty.k1 [] = [] from rfl, show Ty.k2 (Ty.sh at' []) = [] from rfl, List.append_nil, List.append_nil]; exact HS4.out, Wm.refl _ _ _ _ _⟩
    case round =>
      obtain ⟨k, vK1, vO1, rfl, hk, hSr, hMr⟩ := hrel
      have HSr : Hid (Ws N wr T n (some ⟨b, off, none⟩) c bf bt ba F M vK1 vO1 (ks ++ Ty.k1 (Ty.cat x (Ty.lie T) (Ty.wk T) k)) (os ++ Ty.k2 (Ty.sh at' (Ty.cat x (Ty.lie T) (Ty.wk T) k)))) := hSr
      have HMr : Hid (Wm F M w4 wr vK vO vK1 vO1) := hMr
      clear hSr hMr
      by_cases hkn : k < x.nf
      · have hkn' : (k : Int) < x.nf := by omega
        obtain ⟨Tb, rfl, hT1, hT2⟩ := HAV.out (by omega)
        have hlw : ∀ q, q ∈ wl F M vK vO → N ≤ q := fun q hq => by
          have h5 := HS4.out.oK.base q
          have h6 := HS4.out.oO.base q
          rw [wl_mem] at hq
          rcases hq with e | e | e | e | e
          · omega
          · omega
          · omega
          · have := h5 e; omega
          · have := h6 e; omega
        have hTw : Tb ∉ wl F M vK vO := fun hq => by
          have h5 := HS3.out.oK.lt Tb
          have h6 := HS3.out.oO.lt Tb
          rw [wl_mem] at hq
          rcases hq with e | e | e | e | e
          · omega
          · omega
          · omega
          · have := h5 e; omega
          · have := h6 e; omega
        obtain ⟨bb, oo, rfl, hbb, hcc⟩ := (HNX4.out.ch HMr.out.ch hlw).at hkn
        have hon := (HO4.out.ch HMr.out.ch (fun q hq => by simp [Value.ownBlock] at hq; subst hq; exact hTw)).n
        rw [hl] at hon
        have hbk := hon.cell (i := k) (by omega)
        clear hon
        have hBk := HB.out k hkn
        have HBk := HBg.out k hkn
        have HRk := HR.out k hkn
        rw [← HBk] at hbk
        have cw := HSr.out.cw
        obtain ⟨W5, hW5⟩ : ∃ W5, W5 = wr.drew := ⟨_, rfl⟩
        have HD : Hid (wr.grownBy W5 none) := by show World.grownBy _ _ _; rw [hW5]; exact grown_drew (World.grownBy.refl _ _)
        have cw5 : W5.cell? ⟨M + 4, 0, none⟩ = _ := (Ch.of (l := []) HD.out).cell cw (by simp)
        have hb5 : W5.cell? ⟨Tb, k, none⟩ = _ := (Ch.of (l := []) HD.out).cell hbk (by simp)
        have HR5 : Hid (Calls Try.prog 50 #[.int .i64 (x.F k), .int .i64 (at' + Ty.bg x (Ty.lie T) k), .pointer (some ⟨M, 0, none⟩), .pointer (some ⟨M + 1, 0, none⟩), .pointer (some ⟨M + 4, 0, none⟩), .pointer (some ⟨M + 2, 0, none⟩), .pointer (some ⟨M + 3, 0, none⟩)] W5 fun e w' =>
          e = .returned (.tuple #[]) ∧ ∃ vK' vO', Ws N w' T n (some ⟨b, off, none⟩) c bf bt ba F M vK' vO' (ks ++ Ty.k1 (Ty.cat x (Ty.lie T) (Ty.wk T) (k + 1))) (os ++ Ty.k2 (Ty.sh at' (Ty.cat x (Ty.lie T) (Ty.wk T) (k + 1)))) ∧ Wm F M W5 w' vK1 vO1 vK' vO') := HRk W5 vK1 vO1 (HSr.out.grow HD.out)
        clear HRk HBk hbk cw
        generalize x.F k = y at *
        generalize Ty.bg x (Ty.lie T) k = G at hBk hb5 HR5
        go_wp2_with fail
        refine tail_quiet 8 (by kernel_rfl) (by kernel_rfl) ?_
        rw [← hW5]
        clear hW5
        simp only [List.take_succ_cons, List.take_zero, List.drop_succ_cons, List.drop_zero]
        repeat (go_big_quiet_step (exact rfl))
        refine wpQuiet_nil ?_
        go_wp2_with (go_at_call 50; refine HR5.out.mono ?_; rintro e w6 ⟨rfl, vK2, vO2, hS6, hM6⟩)
        go_roundw
        case rel => exact ⟨k + 1, vK2, vO2, by go_num, by omega, hS6, (HMr.out.trans (Wm.of (Ch.of HD.out))).trans hM6⟩
        case measure => simp [intOf]; omega
      · obtain rfl : k = x.nf := by omega
        go_wp2
        go_end0
        exact ⟨rfl, vK1, vO1, HSr.out, (((Wm.of (Ch.of HG1.out)).trans (Wm.of HG3.out)).trans (Wm.of HG4.out)).trans HMr.out⟩
  · have e : Ty.wk T j = [(11, 0), (5, 8)] := by rw [hwe]; unfold Ty.wkOf; rw [if_neg (by omega), if_neg (by omega), if_pos hk]
    have k1 : ((T j).kind == 13) = false := by simp; omega
    have hw1 := hgd.w0
    have hw2 := hgd.ws
    have e1 : Ty.k1 (Ty.wk T j) = [11, 5] := by rw [e]; rfl
    have e2 : Ty.k2 (Ty.sh at' (Ty.wk T j)) = [at', at' + 8] := by rw [e]; simp [Ty.k2, Ty.sh]
    rw [e1, e2]
    have hl2 : L.words = 2 := by rw [e] at hwl; simp at hwl; omega
    have hk1' : ks.length ≤ 2000000 := by omega
    have hk2' : os.length ≤ 2000000 := by omega
    have hat : at' ≤ 1099511627776 := by omega
    have hkk : (T j).kind = 14 ∨ ((T j).kind == 14) = false ∧ (T j).kind = 15 := by simp; omega
    clear e e1 e2 hW hF hok hO hS hS1 HAsk hL hwe hwl hgd hsz hty hW1 x0 x3 hg1 hk1 hk2 hk i3 i4 hw1 hw2 hl2
    generalize T j = x at *
    obtain ⟨xk, xe, xn, xf, xF⟩ := x
    simp only at *
    rcases hkk with rfl | ⟨hk14, rfl⟩
    all_goals (
      go_enter Try.func50, Try.ntmps50
      go_wp2_with (first
        | (go_at_call 48; rw [← HW1.out]; refine HC.out.mono ?_; rintro e w3 ⟨rfl, hA3, hg3⟩; have HS3 : Hid (Ws N w3 T n (some ⟨b, off, none⟩) c bf bt ba F M vK vO ks os) := HS1.out.asked hA3 hg3; have HG3 : Hid (Ch W1 w3 [F]) := hg3; have y0 := hg3.cell HX0.out hBF; have cK3 := HS3.out.cK; have hs3 := HS3.out.sz; clear hA3 hg3)
        | (at_builtin; refine wp_appY2 rfl _ _ rfl (M + 5) vK ks 11 5 rfl HS3.out.oK rfl (by simp) hk1' (by omega) ?_; intro v4 w4 ho4 hg4 hq4; obtain ⟨hc4, hz4⟩ := HS3.out.midK hg4; obtain ⟨a4, p4, hv4, _⟩ := ho4.slice; simp only [List.length_append, List.length_cons, List.length_nil, Nat.zero_add, Nat.reduceAdd] at hv4; subst hv4; obtain ⟨hS5, hM5⟩ := HS3.out.putK ho4 hg4 hq4; have HS5 := hS5; have hcO5 := hS5.cO; have hs5 := hS5.sz)
        | (at_builtin; refine wp_appY2 rfl _ _ rfl (M + 5) vO os at' (at' + 8) rfl HS5.oO rfl (by simp) hk2' (by omega) ?_; intro v6 w6 ho6 hg6 hq6; obtain ⟨hc6, hz6⟩ := HS5.midO hg6; obtain ⟨a6, p6, hv6, _⟩ := ho6.slice; simp only [List.length_append, List.length_cons, List.length_nil, Nat.zero_add, Nat.reduceAdd] at hv6; subst hv6; obtain ⟨hS7, hM7⟩ := HS5.putO ho6 hg6 hq6))
      go_end0
      exact ⟨rfl, _, _, hS7, (((Wm.of (Ch.of HG1.out)).trans (Wm.of HG3.out)).trans hM5).trans hM7⟩)
  · have e : Ty.wk T j = [((T j).kind, 0)] := by rw [hwe]; unfold Ty.wkOf; rw [if_neg (by omega), if_neg (by omega), if_neg (by omega)]
    have k1 : ((T j).kind == 13) = false := by simp; omega
    have k2 : ((T j).kind == 14) = false := by simp; omega
    have k3 : ((T j).kind == 15) = false := by simp; omega
    have hw1 := hgd.w0
    have e1 : Ty.k1 (Ty.wk T j) = [(T j).kind] := by rw [e]; rfl
    have e2 : Ty.k2 (Ty.sh at' (Ty.wk T j)) = [at'] := by rw [e]; simp [Ty.k2, Ty.sh]
    rw [e1, e2]
    have hk1' : ks.length ≤ 2000000 := by omega
    have hk2' : os.length ≤ 2000000 := by omega
    clear e e1 e2 hW hF hok hO hS hS1 HAsk hL hwe hwl hgd hsz hty hW1 x0 x3 hg1 hk1 hk2 i1 i2 i3 i4
    generalize T j = x at *
    go_enter Try.func50, Try.ntmps50
    go_wp2_with (first
      | (go_at_call 48; rw [← HW1.out]; refine HC.out.mono ?_; rintro e w3 ⟨rfl, hA3, hg3⟩; have HS3 : Hid (Ws N w3 T n (some ⟨b, off, none⟩) c bf bt ba F M vK vO ks os) := HS1.out.asked hA3 hg3; have HG3 : Hid (Ch W1 w3 [F]) := hg3; have y0 := hg3.cell HX0.out hBF; have cK3 := HS3.out.cK; have hs3 := HS3.out.sz; clear hA3 hg3)
      | (at_builtin; refine wp_appY1 rfl _ _ rfl (M + 5) vK ks x.kind rfl HS3.out.oK rfl (by simp) hk1' (by omega) ?_; intro v4 w4 ho4 hg4 hq4; obtain ⟨hc4, hz4⟩ := HS3.out.midK hg4; obtain ⟨a4, p4, hv4, _⟩ := ho4.slice; simp only [List.length_append, List.length_cons, List.length_nil, Nat.zero_add] at hv4; subst hv4; obtain ⟨hS5, hM5⟩ := HS3.out.putK ho4 hg4 hq4; have HS5 := hS5; have hcO5 := hS5.cO; have hs5 := hS5.sz)
      | (at_builtin; refine wp_appY1 rfl _ _ rfl (M + 5) vO os at' rfl HS5.oO rfl (by simp) hk2' (by omega) ?_; intro v6 w6 ho6 hg6 hq6; obtain ⟨hc6, hz6⟩ := HS5.midO hg6; obtain ⟨a6, p6, hv6, _⟩ := ho6.slice; simp only [List.length_append, List.length_cons, List.length_nil, Nat.zero_add] at hv6; subst hv6; obtain ⟨hS7, hM7⟩ := HS5.putO ho6 hg6 hq6))
    go_end0
    exact ⟨rfl, _, _, hS7, (((Wm.of (Ch.of HG1.out)).trans (Wm.of HG3.out)).trans hM5).trans hM7⟩
end Go.Proofs.Ytlkldehapkgdaaa

/- An entry's words told: words, Words. -/
namespace Go.Proofs.Ytlkldehapkgdaaa
open Go.RowKit
set_option linter.unusedVariables false

theorem walk_all {N : Nat} {T : Nat → Ty.TyV} {n : Nat} {a : Option Addr} {c bf bt ba F M : Nat} (hF : Ty.Fine T n n) : ∀ {K : Nat}, K ≤ n → WalkOk N T n a c bf bt ba F M K
  | 0, _ => fun j hj => by omega
  | K + 1, hn => walk_step (walk_all hF (by omega)) hF (by omega)
theorem cell_new {w : World} (v : Value) (t : TypeId) {b : Nat} (hb : b = w.heap.size) : (w.alloc (.cells #[v] t)).cell? ⟨b, 0, none⟩ = some v := by subst hb; simp
theorem cell_old {w : World} {b : Nat} {v : Value} (h : w.cell? ⟨b, 0, none⟩ = some v) (o : Obj) : (w.alloc o).cell? ⟨b, 0, none⟩ = some v := (Ch.of (l := []) (World.grownBy_alloc w o none)).cell h (by simp)
theorem fz_new {w : World} (v : Value) (t : TypeId) {b : Nat} (hb : b = w.heap.size) : (w.alloc (.cells #[v] t)).frozen? ⟨b, 0, none⟩ = false := by subst hb; simp
theorem fz_old {w : World} {b : Nat} (h : w.frozen? ⟨b, 0, none⟩ = false) (hb : b < w.heap.size) (o : Obj) : (w.alloc o).frozen? ⟨b, 0, none⟩ = false := frozen_ch (l := []) (Ch.of (World.grownBy_alloc w o none)) hb (by simp) h
set_option maxRecDepth 100000 in
set_option maxHeartbeats 8000000 in
theorem words7_in {N : Nat} {w : World} {T : Nat → Ty.TyV} {n : Nat} {a : Option Addr} {c bf bt ba F : Nat} (hA : Ak N w T n a c bf bt ba F) (hF : Ty.Fine T n n) {i : Nat} (hi : i < n) :
    Calls Try.prog 39 #[.slice a n c, .func (.func 48) #[] #[.pointer (some ⟨bf, 0, none⟩), .pointer (some ⟨bt, 0, none⟩), .pointer (some ⟨ba, 0, none⟩)], .int .i64 i] w fun e w' =>
      ∃ vK vO, e = .returned (.tuple #[vK, vO]) ∧ OwnZ w' w.heap.size vK (Ty.k1 (Ty.wk T i)) ∧ OwnZ w' w.heap.size vO (Ty.k2 (Ty.wk T i)) ∧ (∀ q, vK.ownBlock = some q → vO.ownBlock ≠ some q) ∧ Ch w w' [F] := by
  obtain ⟨hgd, hsz⟩ := hF.good i hi
  obtain ⟨b1, b2, b3⟩ := hA.bl
  have b4 := hA.lt
  have hw0 := hgd.w0
  have hws := hgd.ws
  obtain ⟨W5, hW5⟩ : ∃ W5, W5 = ((((w.alloc (.cells #[.slice a n c] 24)).alloc (.cells #[.func (.func 48) #[] #[.pointer (some ⟨bf, 0, none⟩), .pointer (some ⟨bt, 0, none⟩), .pointer (some ⟨ba, 0, none⟩)]] 46)).alloc (.cells #[.slice none 0 0] 25)).alloc (.cells #[.slice none 0 0] 25)).alloc (.cells #[.func (.func 50) #[] #[.pointer (some ⟨w.heap.size, 0, none⟩), .pointer (some ⟨w.heap.size + 1, 0, none⟩), .pointer (some ⟨w.heap.size + 1 + 1 + 1 + 1, 0, none⟩), .pointer (some ⟨w.heap.size + 1 + 1, 0, none⟩), .pointer (some ⟨w.heap.size + 1 + 1 + 1, 0, none⟩)]] 84) := ⟨_, rfl⟩
  have hg5 : w.grownBy W5 none := by rw [hW5]; exact ga (ga (ga (ga (World.grownBy_alloc _ _ _) _) _) _) _
  have hs5 : W5.heap.size = w.heap.size + 5 := by rw [hW5]; simp
  have hS5 : Ws N W5 T n a c bf bt ba F w.heap.size (.slice none 0 0) (.slice none 0 0) [] [] := by
    refine ⟨hA.grow hg5, b1, b2, b3, b4, ?_, ?_, ?_, ?_, ?_, ?_, ?_, ownZ_nil _ _, ownZ_nil _ _, fun q hq => by cases hq⟩
    all_goals rw [hW5]
    · exact cell_old (cell_old (cell_old (cell_old (cell_new _ _ rfl) _) _) _) _
    · exact cell_old (cell_old (cell_old (cell_new _ _ (by simp)) _) _) _
    · exact cell_old (cell_old (cell_new _ _ (by simp)) _) _
    · exact cell_old (cell_new _ _ (by simp)) _
    · exact cell_new _ _ (by simp)
    · exact fz_old (fz_old (fz_new _ _ (by simp)) (by simp) _) (by simp) _
    · exact fz_old (fz_new _ _ (by simp)) (by simp) _
  have hC := walk_all (N := N) (a := a) (c := c) (bf := bf) (bt := bt) (ba := ba) (F := F) (M := w.heap.size) hF (Nat.le_refl _) i hi 0 W5 _ _ _ _ hS5 (Int.le_refl _) (by omega) (by simp; omega) (by simp; omega)
  rw [hW5] at hC
  have HC : Hid (Calls Try.prog _ _ _ _) := hC
  have HG5 : Hid (w.grownBy W5 none) := hg5
  have HW5 : Hid (W5 = _) := hW5
  clear hA hF hgd hS5 hg5 hW5 hC
  go_enter Try.func39, Try.ntmps39
  go_wp2_with (go_at_call 50; refine HC.out.mono ?_; rintro e w6 ⟨rfl, vK, vO, hS6, hM6⟩)
  have HS6 : Hid (Ws N w6 T n a c bf bt ba F w.heap.size vK vO ([] ++ Ty.k1 (Ty.wk T i)) ([] ++ Ty.k2 (Ty.sh 0 (Ty.wk T i)))) := hS6
  have HM6 : Hid (Wm F w.heap.size W5 w6 (.slice none 0 0) (.slice none 0 0) vK vO) := by rw [HW5.out]; exact hM6
  have cK : w6.cell? ⟨w.heap.size + 1 + 1, 0, none⟩ = some vK := hS6.cK
  have cO : w6.cell? ⟨w.heap.size + 1 + 1 + 1, 0, none⟩ = some vO := hS6.cO
  have zK : w6.frozen? ⟨w.heap.size + 1 + 1, 0, none⟩ = false := hS6.zK
  have zO : w6.frozen? ⟨w.heap.size + 1 + 1 + 1, 0, none⟩ = false := hS6.zO
  obtain ⟨aK, pK, hvK, _⟩ := hS6.oK.slice
  obtain ⟨aO, pO, hvO, _⟩ := hS6.oO.slice
  generalize ([] ++ Ty.k1 (Ty.wk T i)).length = lK at hvK
  generalize ([] ++ Ty.k2 (Ty.sh 0 (Ty.wk T i))).length = lO at hvO
  subst hvK hvO
  obtain ⟨sK, hsK⟩ : ∃ s, s = w.heap.size + 1 + 1 := ⟨_, rfl⟩
  obtain ⟨sO, hsO⟩ : ∃ s, s = w.heap.size + 1 + 1 + 1 := ⟨_, rfl⟩
  rw [← hsO, ← hsK]
  rw [← hsK] at cK zK
  rw [← hsO] at cO zO
  have hne : ¬ sK = sO := by omega
  have HsK : Hid (sK = w.heap.size + 2) := hsK
  have HsO : Hid (sO = w.heap.size + 3) := hsO
  clear hS6 hM6 hsK hsO HC
  go_region
  all_goals (try go_wp2)
  have r0 : ((w6.setCell ⟨sK, 0, none⟩ (.slice aK lK pK)).setCell ⟨sO, 0, none⟩ (.slice aO lO pO)).drew.cell? ⟨sK, 0, none⟩ = some (.slice aK lK pK) := (World.cell?_setCell_other _ _ _ _ (fun e => by injection e with e; omega)).trans (World.cell?_setCell_same _ _ _ cK)
  have r1 : ((w6.setCell ⟨sK, 0, none⟩ (.slice aK lK pK)).setCell ⟨sO, 0, none⟩ (.slice aO lO pO)).drew.cell? ⟨sO, 0, none⟩ = some (.slice aO lO pO) := World.cell?_setCell_same _ _ _ ((World.cell?_setCell_other _ _ _ _ (fun e => by injection e with e; omega)).trans cO)
  obtain ⟨W9, hW9⟩ : ∃ W9, W9 = ((w6.setCell ⟨sK, 0, none⟩ (.slice aK lK pK)).setCell ⟨sO, 0, none⟩ (.slice aO lO pO)).drew := ⟨_, rfl⟩
  rw [← hW9] at r0 r1 ⊢
  refine bodyPost_ret (by simp [results, Try.results39, go_sem, r0, r1]; try rfl) rfl ?_
  have hS := HS6.out
  have hsK := HsK.out
  have hsO := HsO.out
  have hb1 := hS.oK.base
  have hb2 := hS.oO.base
  have g9 : Ch w6 W9 [sK, sO] := by
    rw [hW9]
    exact ((Ch.one (grown_set _ _ _ _) (by simp)).trans (Ch.one (grown_set _ _ _ _) (by simp))).trans (Ch.of (grown_drew (World.grownBy.refl _ _)))
  refine ⟨_, _, rfl, ?_, ?_, hS.ap, ?_⟩
  · exact (hS.oK.ch g9 (fun q hq => by have := hb1 q hq; simp; omega)).low (by omega)
  · have e : Ty.k2 (Ty.wk T i) = [] ++ Ty.k2 (Ty.sh 0 (Ty.wk T i)) := by simp [Ty.k2, Ty.sh]
    rw [e]
    exact (hS.oO.ch g9 (fun q hq => by have := hb2 q hq; simp; omega)).low (by omega)
  · have h1 := (Ch.of (l := F :: [sK, sO]) HG5.out).trans ((HM6.out.ch.mono (fun k _ hk => ?_)).trans (g9.mono (fun k _ hk => List.mem_cons_of_mem _ hk)))
    · exact h1.mono (fun k hk hm => by simp at hm ⊢; omega)
    · rw [wl_mem] at hk
      rcases hk with e | e | e | e | e
      · simp [e]
      · simp [e, hsK]
      · simp [e, hsO]
      · cases e
      · cases e
set_option maxRecDepth 100000 in
set_option maxHeartbeats 4000000 in
theorem words7_no {N : Nat} {w : World} {T : Nat → Ty.TyV} {n : Nat} {a : Option Addr} {c : Nat} (h : TysIn N w a n c T) (hN : N ≤ w.heap.size) {i : Int} (hi : Ty.cod T n i ≠ 0) :
    Calls Try.prog 22 #[.slice a n c, .int .i64 i] w fun e w' => e = .returned (.tuple #[.slice none 0 0, .slice none 0 0, .int .i64 (Ty.cod T n i)]) ∧ w.grownBy w' none := by
  have HC : Hid (Calls Try.prog 30 #[.slice a n c, .int .i64 i] w fun e w' => e = .returned (.tuple #[.nilFunc, .int .i64 (Ty.cod T n i)]) ∧ w.grownBy w' none) := takeEntry_no h hN hi
  have hz : (Ty.cod T n i != 0) = true := by simpa using hi
  generalize Ty.cod T n i = z at *
  clear h hi
  go_enter Try.func22, Try.ntmps22
  go_wp2_with (go_at_call 30; refine HC.out.mono ?_; rintro e w3 ⟨rfl, hg3⟩)
  refine bodyPost_ret (by simp [results, Try.results22, go_sem]; try rfl) rfl ?_
  exact ⟨rfl, hg3⟩
set_option maxRecDepth 100000 in
set_option maxHeartbeats 4000000 in
theorem words7_none {N : Nat} {w : World} {T : Nat → Ty.TyV} {n : Nat} {a : Option Addr} {c : Nat} (h : TysIn N w a n c T) (hN : N ≤ w.heap.size) (hc : Ty.chk T n = 0) {i : Nat} (hi : i < n) (hv : Ty.valB (Ty.lie T i) = false) :
    Calls Try.prog 22 #[.slice a n c, .int .i64 i] w fun e w' => e = .returned (.tuple #[.slice none 0 0, .slice none 0 0, .int .i64 70]) ∧ w.grownBy w' none := by
  have HC : Hid (Calls Try.prog 30 #[.slice a n c, .int .i64 i] w fun e w' => ∃ bf bt ba F, e = .returned (.tuple #[.func (.func 48) #[] #[.pointer (some ⟨bf, 0, none⟩), .pointer (some ⟨bt, 0, none⟩), .pointer (some ⟨ba, 0, none⟩)], .int .i64 0]) ∧
      Ak N w' T n a c bf bt ba F ∧ w.heap.size ≤ F ∧ w.grownBy w' none) := takeEntry_ok h hN hc hi
  have HO : Hid (∀ bf bt ba F, ∀ W, Ak N W T n a c bf bt ba F → Calls Try.prog 48 #[.int .i64 i, .pointer (some ⟨bf, 0, none⟩), .pointer (some ⟨bt, 0, none⟩), .pointer (some ⟨ba, 0, none⟩)] W fun e w' =>
        e = .returned (.agg #[.int .i64 (Ty.lie T i).size, .int .i64 (Ty.lie T i).align, .int .i64 (Ty.lie T i).words, .bool (Ty.lie T i).arr]) ∧ Ak N w' T n a c bf bt ba F ∧ Ch W w' [F]) := fun bf bt ba F => ask_all (Ty.chk_ok hc).2 (Nat.le_refl _) i hi
  generalize Ty.lie T i = L at *
  have HV : Hid (∀ W, Calls Try.prog 38 #[.agg #[.int .i64 L.size, .int .i64 L.align, .int .i64 L.words, .bool L.arr]] W fun e w' => e = .returned (.bool false) ∧ W.grownBy w' none) := fun W => by rw [← hv]; exact value_any L W
  clear h hc hv
  go_enter Try.func22, Try.ntmps22
  go_wp2_with (first
    | (go_at_call 30; refine HC.out.mono ?_; rintro e w3 ⟨bf, bt, ba, F, rfl, hA3, hF3, hg3⟩; have HA3 : Hid (Ak N w3 T n a c bf bt ba F) := hA3; have HG3 : Hid (w.heap.size ≤ F ∧ w.grownBy w3 none) := ⟨hF3, hg3⟩; clear hA3 hF3 hg3)
    | (go_at_call 48; refine (HO.out bf bt ba F _ HA3.out).mono ?_; rintro e w5 ⟨rfl, hA5, hg5⟩)
    | (go_at_call 38; refine (HV.out _).mono ?_; rintro e w6 ⟨rfl, hg6⟩))
  refine bodyPost_ret (by simp [results, Try.results22, go_sem]; try rfl) rfl ?_
  exact ⟨rfl, grown_trans (Ch.fresh HG3.out.2 HG3.out.1 hg5) hg6⟩
set_option maxRecDepth 100000 in
set_option maxHeartbeats 4000000 in
theorem words7_ok {N : Nat} {w : World} {T : Nat → Ty.TyV} {n : Nat} {a : Option Addr} {c : Nat} (h : TysIn N w a n c T) (hN : N ≤ w.heap.size) (hc : Ty.chk T n = 0) {i : Nat} (hi : i < n) (hv : Ty.valB (Ty.lie T i) = true) :
    Calls Try.prog 22 #[.slice a n c, .int .i64 i] w fun e w' => ∃ vK vO, e = .returned (.tuple #[vK, vO, .int .i64 0]) ∧ OwnZ w' w.heap.size vK (Ty.k1 (Ty.wk T i)) ∧ OwnZ w' w.heap.size vO (Ty.k2 (Ty.wk T i)) ∧ (∀ q, vK.ownBlock = some q → vO.ownBlock ≠ some q) ∧ w.grownBy w' none := by
  have HC : Hid (Calls Try.prog 30 #[.slice a n c, .int .i64 i] w fun e w' => ∃ bf bt ba F, e = .returned (.tuple #[.func (.func 48) #[] #[.pointer (some ⟨bf, 0, none⟩), .pointer (some ⟨bt, 0, none⟩), .pointer (some ⟨ba, 0, none⟩)], .int .i64 0]) ∧
      Ak N w' T n a c bf bt ba F ∧ w.heap.size ≤ F ∧ w.grownBy w' none) := takeEntry_ok h hN hc hi
  have HO : Hid (∀ bf bt ba F, ∀ W, Ak N W T n a c bf bt ba F → Calls Try.prog 48 #[.int .i64 i, .pointer (some ⟨bf, 0, none⟩), .pointer (some ⟨bt, 0, none⟩), .pointer (some ⟨ba, 0, none⟩)] W fun e w' =>
        e = .returned (.agg #[.int .i64 (Ty.lie T i).size, .int .i64 (Ty.lie T i).align, .int .i64 (Ty.lie T i).words, .bool (Ty.lie T i).arr]) ∧ Ak N w' T n a c bf bt ba F ∧ Ch W w' [F]) := fun bf bt ba F => ask_all (Ty.chk_ok hc).2 (Nat.le_refl _) i hi
  have HWd : Hid (∀ bf bt ba F W, Ak N W T n a c bf bt ba F → Calls Try.prog 39 #[.slice a n c, .func (.func 48) #[] #[.pointer (some ⟨bf, 0, none⟩), .pointer (some ⟨bt, 0, none⟩), .pointer (some ⟨ba, 0, none⟩)], .int .i64 i] W fun e w' =>
      ∃ vK vO, e = .returned (.tuple #[vK, vO]) ∧ OwnZ w' W.heap.size vK (Ty.k1 (Ty.wk T i)) ∧ OwnZ w' W.heap.size vO (Ty.k2 (Ty.wk T i)) ∧ (∀ q, vK.ownBlock = some q → vO.ownBlock ≠ some q) ∧ Ch W w' [F]) := fun bf bt ba F W hA' => words7_in hA' (Ty.chk_ok hc).2 hi
  generalize Ty.k1 (Ty.wk T i) = Z1 at *
  generalize Ty.k2 (Ty.wk T i) = Z2 at *
  generalize Ty.lie T i = L at *
  have HV : Hid (∀ W, Calls Try.prog 38 #[.agg #[.int .i64 L.size, .int .i64 L.align, .int .i64 L.words, .bool L.arr]] W fun e w' => e = .returned (.bool true) ∧ W.grownBy w' none) := fun W => by rw [← hv]; exact value_any L W
  clear h hc hv
  go_enter Try.func22, Try.ntmps22
  go_wp2_with (first
    | (go_at_call 30; refine HC.out.mono ?_; rintro e w3 ⟨bf, bt, ba, F, rfl, hA3, hF3, hg3⟩; have HA3 : Hid (Ak N w3 T n a c bf bt ba F) := hA3; have HG3 : Hid (w.heap.size ≤ F ∧ w.grownBy w3 none) := ⟨hF3, hg3⟩; clear hA3 hF3 hg3)
    | (go_at_call 48; refine (HO.out bf bt ba F _ HA3.out).mono ?_; rintro e w5 ⟨rfl, hA5, hg5⟩; have HA5 : Hid (Ak N w5 T n a c bf bt ba F) := hA5; have HG5 : Hid (Ch w3 w5 [F]) := hg5; clear hA5 hg5)
    | (go_at_call 38; refine (HV.out _).mono ?_; rintro e w6 ⟨rfl, hg6⟩; have HG6 : Hid (w5.grownBy w6 none) := hg6; clear hg6)
    | (go_at_call 39; refine (HWd.out bf bt ba F _ (HA5.out.grow HG6.out)).mono ?_; rintro e w7 ⟨vK, vO, rfl, oK, oO, hap, hg7⟩))
  refine bodyPost_ret (by simp [results, Try.results22, go_sem]; try rfl) rfl ?_
  have hs3 := HG3.out.2.size
  have hs5 := HG5.out.size
  have hs6 := HG6.out.size
  exact ⟨vK, vO, rfl, oK.low (by omega), oO.low (by omega), hap, Ch.fresh HG3.out.2 HG3.out.1 ((HG5.out.trans (Ch.of HG6.out)).trans hg7)⟩
end Go.Proofs.Ytlkldehapkgdaaa

/- Tables that came in, opened. -/
namespace Go.Proofs.Ytlkldehapkgdaaa
open Go.RowKit
set_option linter.unusedVariables false

theorem addr_add (b off n : Nat) : (⟨b, off, none⟩ : Addr).add n = ⟨b, off + n, none⟩ := by simp [Addr.add]
/-- a row of things of c cells, by bytes each -/
structure RowB {α : Type} (c by' : Nat) (Q : World → Nat → Nat → α → Prop) (W : World) (a : Option Addr) (len cap : Nat) (V : Nat → α) : Prop where
  nil : a = none → len = 0 ∧ cap = 0
  le : len ≤ cap
  max : cap ≤ maxLen
  fits : len * by' ≤ reachBytes
  bs : len = 0 ∨ ∃ b off, a = some ⟨b, off, none⟩ ∧ b < W.heap.size ∧ ∀ i, i < len → Q W b (off + i * c) (V i)
theorem Fits.lenB {H : Type} {t e : TypeId} {l r : List (DataW H)} (ht : Try.prog.underlying t = some (.slice e)) (h : Fits t (.slice l r)) : l.length * Try.prog.bytesOf e ≤ reachBytes := by
  have := h ((l.length + r.length) * Try.prog.bytesOf e) (by simp [DataW.weights, ht])
  exact Nat.le_trans (Nat.mul_le_mul_right _ (Nat.le_add_right _ _)) this
theorem open_rowB {α : Type} {t e : TypeId} {c by' : Nat} {H : Type} {enc : TypeId × Value → H} {W : World} {spare : Nat → Bool} {held : Bool} {fuel : Nat} {cs : List Value} {x : DataW H × List MemPlace} (dflt : α) (Q : World → Nat → Nat → α → Prop)
    (ht : Try.prog.underlying t = some (.slice e)) (hc : Try.prog.cellsOf e = c) (c0 : 0 < c) (hby : Try.prog.bytesOf e = by') (hs : Fits t x.1)
    (each : ∀ (n : Nat) (cs : List Value) (b o : Nat) (y : DataW H × List MemPlace), cs.length = c → b < W.heap.size → (∀ j v, cs[j]? = some v → W.cell? ⟨b, o + j, none⟩ = some v) → DataW.trod enc Try.prog W 0 spare held n e cs = some y → Fits e y.1 → ∃ z : α, Q W b o z)
    (h : DataW.trod enc Try.prog W 0 spare held fuel t cs = some x) : ∃ a len cap V, cs = [.slice a len cap] ∧ RowB c by' Q W a len cap V := by
  rcases Go.Deep.open_slice ht h with ⟨hcs, _⟩ | ⟨a', len, cap, m, n, D, Pl, hcs, hb, hl, hm, hmm, hxx, hx⟩
  · exact ⟨none, 0, 0, fun _ => dflt, hcs, fun _ => ⟨rfl, rfl⟩, Nat.le_refl _, Nat.zero_le _, by simp, .inl rfl⟩
  · have hlm : len ≤ m := by rw [hmm]; split <;> omega
    rw [hxx] at hs
    have hfl : len * by' ≤ reachBytes := by have := Fits.lenB ht hs; rw [hby] at this; simpa using this
    by_cases h0 : len = 0
    · exact ⟨_, _, _, fun _ => dflt, hcs, (fun h => by cases h), hl, hm, hfl, .inl h0⟩
    obtain ⟨b, off, spot⟩ := a'
    have h00 : spot = none ∧ b < W.heap.size := by
      obtain ⟨cs', h1, h2⟩ := hx 0 (by omega)
      rw [hc] at h1
      obtain ⟨_, hlen, hcell⟩ := World.cells?_some h1
      have k0 := hcell 0 (by omega)
      obtain ⟨v, hv⟩ : ∃ v, W.cell? ⟨b, off, spot⟩ = some v := by
        have : W.cell? ⟨b, off, spot⟩ = cs'[0]? := by simpa [Addr.add] using k0
        rw [List.getElem?_eq_getElem (by omega)] at this
        exact ⟨_, this⟩
      exact ⟨World.cell?_spot hv, World.block_lt_of_cell? _ _ hv⟩
    obtain ⟨rfl, hlt⟩ := h00
    have each' : ∀ i, i < len → ∃ z : α, Q W b (off + i * c) z := by
      intro i hi
      obtain ⟨cs', h1, h2⟩ := hx i (by omega)
      rw [hc] at h1
      obtain ⟨_, hlen, hcell⟩ := World.cells?_some h1
      refine each n cs' b (off + i * c) _ hlen hlt (fun j v hv => ?_) h2 (Fits.elem ht hs (List.mem_map.2 ⟨i, List.mem_range.2 hi, rfl⟩))
      have hj : j < c := by rw [← hlen]; exact (List.getElem?_eq_some_iff.1 hv).1
      have k := hcell j hj
      rw [addr_add, addr_add] at k
      exact k.trans hv
    have : ∃ V : Nat → α, ∀ i, i < len → Q W b (off + i * c) (V i) :=
      ⟨fun i => if hi : i < len then Classical.choose (each' i hi) else dflt, fun i hi => by simp only [dif_pos hi]; exact Classical.choose_spec (each' i hi)⟩
    obtain ⟨V, hV⟩ := this
    exact ⟨_, _, _, V, hcs, (fun h => by cases h), hl, hm, hfl, .inr ⟨b, off, rfl, hlt, hV⟩⟩
/-- numbers -/
def NumC (W : World) (b o : Nat) (z : Int) : Prop := W.cell? ⟨b, o, none⟩ = some (.int .i64 z)
theorem open_nums {H : Type} {enc : TypeId × Value → H} {W : World} {spare : Nat → Bool} {held : Bool} {fuel : Nat} {cs : List Value} {x : DataW H × List MemPlace}
    (h : DataW.trod enc Try.prog W 0 spare held fuel 25 cs = some x) (hs : Fits 25 x.1) : ∃ a len cap V, cs = [.slice a len cap] ∧ RowB 1 8 NumC W a len cap V := by
  refine open_rowB 0 NumC Try.underlying25 (c := 1) (by kernel_rfl) (by decide) (by kernel_rfl) hs (fun n cs b o y hl hb hc hy hz => ?_) h
  obtain ⟨z, e, _, f⟩ := DataW.trod_int Try.underlying3 hy
  subst e
  exact ⟨z, hc 0 _ rfl⟩
theorem RowB.num {W : World} {a : Option Addr} {len cap : Nat} {V : Nat → Int} (h : RowB 1 8 NumC W a len cap V) : NumIn W.heap.size W a len cap V :=
  ⟨h.le, h.max, by
    rcases h.bs with h0 | ⟨b, off, e, hl, hq⟩
    · exact .inl h0
    · exact .inr ⟨b, off, e, hl, fun i hi => by have := hq i hi; rw [Nat.mul_one] at this; exact this⟩⟩
/-- an entry that came in -/
def TyQ (W : World) (b o : Nat) (x : Ty.TyV) : Prop := (∃ fa fc, TyC W.heap.size W b o x fa fc) ∧ x.nf * 8 ≤ reachBytes
set_option maxRecDepth 100000 in
theorem open_types {H : Type} {enc : TypeId × Value → H} {W : World} {spare : Nat → Bool} {held : Bool} {fuel : Nat} {cs : List Value} {x : DataW H × List MemPlace}
    (h : DataW.trod enc Try.prog W 0 spare held fuel 24 cs = some x) (hs : Fits 24 x.1) : ∃ a len cap V, cs = [.slice a len cap] ∧ RowB 4 48 TyQ W a len cap V := by
  have c3 : Try.prog.cellsOf 3 = 1 := by kernel_rfl
  have c4 : Try.prog.cellsOf 25 = 1 := by kernel_rfl
  refine open_rowB ⟨0, 0, 0, 0, fun _ => 0⟩ TyQ Try.underlying24 (c := 4) (by kernel_rfl) (by decide) (by kernel_rfl) hs (fun n cs b o y hl hb hc hy hz => ?_) h
  obtain ⟨xs, kk, hk, hxy, _, hxl, hf⟩ := DataW.trod_struct Try.underlying41 hy
  match xs, hxl, cs, hl with
  | [z0, z1, z2, z3], _, [v0, v1, v2, v3], _ =>
    have g0 := hf 0 _ rfl
    have g1 := hf 1 _ rfl
    have g2 := hf 2 _ rfl
    have g3 := hf 3 _ rfl
    simp [c3, c4] at g0 g1 g2 g3
    obtain ⟨n0, e0, _⟩ := DataW.trod_int Try.underlying3 g0
    obtain ⟨n1, e1, _⟩ := DataW.trod_int Try.underlying3 g1
    obtain ⟨n2, e2, _⟩ := DataW.trod_int Try.underlying3 g2
    obtain ⟨a3, l3, p3, V3, e3, f3⟩ := open_nums g3 (hz.field Try.underlying41 hxy (i := 3) rfl rfl)
    simp at e0 e1 e2 e3
    subst e0 e1 e2 e3
    exact ⟨⟨n0, n1, n2, l3, V3⟩, ⟨a3, p3, hc 0 _ rfl, hc 1 _ rfl, hc 2 _ rfl, hc 3 _ rfl, f3.num, f3.nil⟩, f3.fits⟩
theorem RowB.tys {W : World} {a : Option Addr} {len cap : Nat} {V : Nat → Ty.TyV} (h : RowB 4 48 TyQ W a len cap V) : TysIn W.heap.size W a len cap V ∧ ∀ i, i < len → (V i).nf * 8 ≤ reachBytes := by
  refine ⟨⟨h.le, h.max, ?_⟩, ?_⟩
  · rcases h.bs with h0 | ⟨b, off, e, hl, hq⟩
    · exact .inl h0
    · exact .inr ⟨b, off, e, hl, fun i hi => (hq i hi).1⟩
  · rcases h.bs with h0 | ⟨b, off, e, hl, hq⟩
    · exact fun i hi => by omega
    · exact fun i hi => (hq i hi).2
/-- what is asked: a table, entries, fields -/
structure TbV where
  ta : Option Addr
  tn : Nat
  tc : Nat
  T : Nat → Ty.TyV
  ia : Option Addr
  im : Nat
  ic : Nat
  I : Nat → Int
  fa : Option Addr
  fm : Nat
  fc : Nat
  F : Nat → Int
structure TbAt (W : World) (b o : Nat) (v : TbV) : Prop where
  c0 : W.cell? ⟨b, o, none⟩ = some (.slice v.ta v.tn v.tc)
  c1 : W.cell? ⟨b, o + 1, none⟩ = some (.slice v.ia v.im v.ic)
  c2 : W.cell? ⟨b, o + 2, none⟩ = some (.slice v.fa v.fm v.fc)
  t : TysIn W.heap.size W v.ta v.tn v.tc v.T
  tf : ∀ i, i < v.tn → (v.T i).nf * 8 ≤ reachBytes
  tz : v.tn * 48 ≤ reachBytes
  i : NumIn W.heap.size W v.ia v.im v.ic v.I
  f : NumIn W.heap.size W v.fa v.fm v.fc v.F
set_option maxRecDepth 100000 in
theorem open_tables {H : Type} {enc : TypeId × Value → H} {W : World} {spare : Nat → Bool} {held : Bool} {fuel : Nat} {cs : List Value} {x : DataW H × List MemPlace}
    (h : DataW.trod enc Try.prog W 0 spare held fuel 22 cs = some x) (hs : Fits 22 x.1) : ∃ a len cap V, cs = [.slice a len cap] ∧ RowB 3 72 TbAt W a len cap V := by
  have c3 : Try.prog.cellsOf 24 = 1 := by kernel_rfl
  have c4 : Try.prog.cellsOf 25 = 1 := by kernel_rfl
  refine open_rowB ⟨none, 0, 0, fun _ => ⟨0, 0, 0, 0, fun _ => 0⟩, none, 0, 0, fun _ => 0, none, 0, 0, fun _ => 0⟩ TbAt Try.underlying22 (c := 3) (by kernel_rfl) (by decide) (by kernel_rfl) hs (fun n cs b o y hl hb hc hy hz => ?_) h
  obtain ⟨xs, kk, hk, hxy, _, hxl, hf⟩ := DataW.trod_struct Try.underlying27 hy
  match xs, hxl, cs, hl with
  | [z0, z1, z2], _, [v0, v1, v2], _ =>
    have g0 := hf 0 _ rfl
    have g1 := hf 1 _ rfl
    have g2 := hf 2 _ rfl
    simp [c3, c4] at g0 g1 g2
    obtain ⟨a0, l0, p0, V0, e0, f0⟩ := open_types g0 (hz.field Try.underlying27 hxy (i := 0) rfl rfl)
    obtain ⟨a1, l1, p1, V1, e1, f1⟩ := open_nums g1 (hz.field Try.underlying27 hxy (i := 1) rfl rfl)
    obtain ⟨a2, l2, p2, V2, e2, f2⟩ := open_nums g2 (hz.field Try.underlying27 hxy (i := 2) rfl rfl)
    simp at e0 e1 e2
    subst e0 e1 e2
    exact ⟨⟨a0, l0, p0, V0, a1, l1, p1, V1, a2, l2, p2, V2⟩, hc 0 _ rfl, hc 1 _ rfl, hc 2 _ rfl, f0.tys.1, f0.tys.2, f0.fits, f1.num, f2.num⟩
end Go.Proofs.Ytlkldehapkgdaaa

/- Copies of tables; whether more is asked than is played. -/
namespace Go.Proofs.Ytlkldehapkgdaaa
open Go.RowKit
set_option linter.unusedVariables false

theorem num7_any (x : Int) (w : World) :
    Calls Try.prog 8 #[.int .i64 x] w fun e w' => e = .returned (.int .i64 x) ∧ w' = w := by
  go_enter Try.func8, Try.ntmps8
  go_wp2
  go_ret
  exact ⟨rfl, rfl⟩
/-- a block of numbers -/
def IntB (w : World) (b : Nat) : Prop := ∃ cur, w.heap[b]? = some (.cells cur 3 (0, 0))
theorem IntB.lt {w : World} {b : Nat} (h : IntB w b) : b < w.heap.size := by obtain ⟨cur, h⟩ := h; exact (Array.getElem?_eq_some_iff.1 h).1
theorem IntB.ch {w w' : World} {b : Nat} {l : List Nat} (h : IntB w b) (hg : Ch w w' l) (hb : b ∉ l) : IntB w' b := by
  have hl := h.lt
  obtain ⟨cur, h⟩ := h
  exact ⟨cur, (hg.block b hl hb).trans h⟩
theorem NumIn.grow {N : Nat} {w w' : World} {a : Option Addr} {n c : Nat} {M : Nat → Int} (h : NumIn N w a n c M) (hg : w.grownBy w' none) : NumIn N w' a n c M := h.ch (l := []) (Ch.of hg) (by simp)
theorem TysIn.grow {N : Nat} {w w' : World} {a : Option Addr} {n c : Nat} {T : Nat → Ty.TyV} (h : TysIn N w a n c T) (hg : w.grownBy w' none) : TysIn N w' a n c T := h.ch (l := []) (Ch.of hg) (by simp)
theorem OwnZ.numIn {w : World} {base : Nat} {v : Value} {l : List Int} {M : Nat → Int} {n : Nat} (h : OwnZ w base v l) (hn : l.length = n) (hM : ∀ i, i < n → l.getD i 0 = M i) : ∃ a c, v = .slice a n c ∧ NumIn w.heap.size w a n c M := by
  subst hn
  obtain ⟨a, c, rfl, h1, h2, h3⟩ := h.slice
  refine ⟨a, c, rfl, h1, h2, ?_⟩
  by_cases h0 : l.length = 0
  · exact .inl h0
  · obtain ⟨T, rfl, _, hT⟩ := h3 (by omega)
    exact .inr ⟨T, 0, rfl, hT, fun i hi => by rw [Nat.zero_add, ← hM i hi]; exact h.n.cell hi⟩
theorem NumIn.ch2 {N : Nat} {w w' : World} {a : Option Addr} {n c : Nat} {M : Nat → Int} {l : List Nat} (h : NumIn N w a n c M) (hg : Ch w w' l) (hl : ∀ b o, a = some ⟨b, o, none⟩ → b ∉ l) : NumIn N w' a n c M :=
  ⟨h.le, h.max, by
    rcases h.lie with h0 | ⟨b, off, e, hb, hi⟩
    · exact .inl h0
    · exact .inr ⟨b, off, e, hb, fun i hi' => hg.cell (hi i hi') (hl b off e)⟩⟩
theorem cells_new {w : World} (c : Array Value) (t : TypeId) {b : Nat} (hb : b = w.heap.size) (j : Nat) : (w.alloc (.cells c t)).cell? ⟨b, j, none⟩ = c[j]? := by subst hb; exact World.cell?_alloc_new _ _ _ _
theorem fzs_new {w : World} (c : Array Value) (t : TypeId) {b : Nat} (hb : b = w.heap.size) (j : Nat) : (w.alloc (.cells c t)).frozen? ⟨b, j, none⟩ = false := by subst hb; simp
set_option maxRecDepth 100000 in
set_option maxHeartbeats 4000000 in
theorem copyNums_any {N : Nat} {w : World} {a : Option Addr} {n c : Nat} {M : Nat → Int} (h : NumIn N w a n c M) (hz : a = none → n = 0 ∧ c = 0) (hf : n * 8 ≤ reachBytes) :
    Calls Try.prog 32 #[.slice a n c] w fun e w' => ∃ a' c', e = .returned (.slice a' n c') ∧ NumIn w'.heap.size w' a' n c' M ∧ (a' = none → n = 0 ∧ c' = 0) ∧ (∀ b o, a' = some ⟨b, o, none⟩ → w.heap.size ≤ b ∧ IntB w' b) ∧ w.grownBy w' none := by
  obtain ⟨i, hi, hz0, hz1, hz2⟩ := info_parts info_int
  have hf' : n * 8 ≤ 140737488351232 := hf
  have hle := h.le
  have hmx := h.max
  have hmx' := h.max
  unfold maxLen at hmx
  cases a with
  | none =>
    obtain ⟨rfl, rfl⟩ := hz rfl
    go_enter Try.func32, Try.ntmps32
    go_wp2_with (at_builtin; refine wpList_append_own_none rfl _ _ 25 rfl w.heap.size 3 i 1 Try.underlying25 hi (.slice none 0 0) 0 [] rfl (World.ownsRow_nil _ _ _ _) rfl ?_)
    go_ret
    exact ⟨none, 0, rfl, ⟨Nat.le_refl _, Nat.zero_le _, .inl rfl⟩, fun _ => by simp, (fun b o e => by cases e), World.grownBy.refl _ _⟩
  | some ad =>
    have HL : Hid (∀ j u, (((List.range n).map M).map (Value.int .i64))[j]? = some u → w.cell? (ad.add j) = some u) := by
      intro j u hj
      have hjn : j < n := by have := (List.getElem?_eq_some_iff.1 hj).1; simpa using this
      obtain ⟨b, off, e, _, hc⟩ := h.at hjn
      injection e with e
      subst e
      rw [addr_add, hc, ← hj]
      simp [hjn]
    have hl : (((List.range n).map M).map (Value.int .i64)).length = n * 1 := by simp
    have h1c : ∀ u ∈ ((List.range n).map M).map (Value.int .i64), u.oneCell' = true := by intro y hy; obtain ⟨z, _, rfl⟩ := List.mem_map.mp hy; rfl
    obtain ⟨Z, hZ⟩ : ∃ Z, Z = ((List.range n).map M).map (Value.int .i64) := ⟨_, rfl⟩
    rw [← hZ] at HL hl h1c
    have HZ : Hid (Z = ((List.range n).map M).map (Value.int .i64)) := hZ
    clear h hZ hz
    go_enter Try.func32, Try.ntmps32
    go_wp2_with (at_builtin; refine wpList_append_own _ rfl _ _ 25 rfl w.heap.size 3 i (.int .i64 0) 1 8 Try.underlying25 hi hz0 hz1 hz2 rfl (by decide) (.slice none 0 0) 0 [] rfl (World.ownsRow_nil _ _ _ _) ad n c Z rfl hl HL.out h1c (by unfold maxLen; omega) (by omega) (Nat.le_refl _) ?_; intro v' w2 ho2 hg2 hv2)
    go_ret
    have ho : OwnZ w2 w.heap.size v' ((List.range n).map M) := by
      unfold OwnZ
      rw [List.length_map, List.length_range, ← HZ.out]
      simpa using ho2
    obtain ⟨a', c', rfl, hN⟩ := ho.numIn (M := M) (n := n) (by simp) (fun i hi => by simp [List.getD_eq_getElem?_getD, hi])
    refine ⟨a', c', rfl, hN, fun e => ?_, fun b o e => ?_, hg2⟩
    rotate_left
    · subst e
      rcases ho.2 with ⟨e, h0⟩ | ⟨T5, c5, cur, e, hb5, hg5, _⟩
      · cases e
      · injection e with e1 e2 e3
        injection e1 with e1
        injection e1 with e1
        subst e1
        exact ⟨hb5, cur, hg5⟩
    subst e
    rcases ho.2 with ⟨e, h0⟩ | ⟨T5, c5, cur, e, _⟩
    · injection e with e1 e2 e3
      exact ⟨by simpa using h0, e3⟩
    · cases e
set_option maxRecDepth 100000 in
set_option maxHeartbeats 4000000 in
theorem copyType_any {N : Nat} {w : World} {x : Ty.TyV} {fa : Option Addr} {fc : Nat} (h : NumIn N w fa x.nf fc x.F) (hz : fa = none → x.nf = 0 ∧ fc = 0) (hf : x.nf * 8 ≤ reachBytes) :
    Calls Try.prog 18 #[.agg #[.int .i64 x.kind, .int .i64 x.elem, .int .i64 x.n, .slice fa x.nf fc]] w fun e w' => ∃ a' c', e = .returned (.agg #[.int .i64 x.kind, .int .i64 x.elem, .int .i64 x.n, .slice a' x.nf c']) ∧ NumIn w'.heap.size w' a' x.nf c' x.F ∧ (a' = none → x.nf = 0 ∧ c' = 0) ∧ (∀ b o, a' = some ⟨b, o, none⟩ → w.heap.size ≤ b ∧ IntB w' b) ∧ w.grownBy w' none := by
  obtain ⟨W3, hW3⟩ : ∃ W3, W3 = ((w.alloc (.cells #[.int .i64 x.kind, .int .i64 x.elem, .int .i64 x.n, .slice fa x.nf fc] 41)).alloc (.cells #[.int .i64 0, .int .i64 0, .int .i64 0, .slice none 0 0] 41)).alloc (.cells #[.int .i64 x.kind, .int .i64 x.elem, .int .i64 x.n, .slice fa x.nf fc] 41) := ⟨_, rfl⟩
  have hg3 : w.grownBy W3 none := by rw [hW3]; exact ga (ga (World.grownBy_alloc _ _ _) _) _
  have hs3 : W3.heap.size = w.heap.size + 3 := by rw [hW3]; simp
  have hC := copyNums_any (h.grow hg3) hz hf
  have HC : Hid (Calls Try.prog 32 #[.slice fa x.nf fc] W3 fun e w' => ∃ a' c', e = .returned (.slice a' x.nf c') ∧ NumIn w'.heap.size w' a' x.nf c' x.F ∧ (a' = none → x.nf = 0 ∧ c' = 0) ∧ (∀ b o, a' = some ⟨b, o, none⟩ → W3.heap.size ≤ b ∧ IntB w' b) ∧ W3.grownBy w' none) := hC
  have HG3 : Hid (w.grownBy W3 none) := hg3
  have HW3 : Hid (W3 = ((w.alloc (.cells #[.int .i64 x.kind, .int .i64 x.elem, .int .i64 x.n, .slice fa x.nf fc] 41)).alloc (.cells #[.int .i64 0, .int .i64 0, .int .i64 0, .slice none 0 0] 41)).alloc (.cells #[.int .i64 x.kind, .int .i64 x.elem, .int .i64 x.n, .slice fa x.nf fc] 41)) := hW3
  have K : Hid ((∀ j v, (#[.int .i64 x.kind, .int .i64 x.elem, .int .i64 x.n, .slice fa x.nf fc] : Array Value)[j]? = some v → W3.cell? ⟨w.heap.size + 2, j, none⟩ = some v) ∧ (∀ q, W3.frozen? ⟨w.heap.size + 2, q, none⟩ = false) ∧ (∀ j v, (#[.int .i64 0, .int .i64 0, .int .i64 0, .slice none 0 0] : Array Value)[j]? = some v → W3.cell? ⟨w.heap.size + 1, j, none⟩ = some v) ∧ (∀ q, W3.frozen? ⟨w.heap.size + 1, q, none⟩ = false)) := by
    rw [hW3]
    refine ⟨fun j v hv => ?_, fun q => ?_, fun j v hv => ?_, fun q => ?_⟩
    · rw [← hv]; exact cells_new _ _ (by simp) _
    · exact fzs_new _ _ (by simp) _
    · exact (Ch.of (l := []) (World.grownBy_alloc _ _ _)).cell ((cells_new _ _ (by simp) _).trans hv) (by simp)
    · exact frozen_ch (l := []) (Ch.of (World.grownBy_alloc _ _ _)) (by simp) (by simp) (fzs_new _ _ (by simp) _)
  clear h hz hf hC hg3 hW3
  go_enter Try.func18, Try.ntmps18
  go_wp2_with (go_at_call 32; rw [← HW3.out]; refine HC.out.mono ?_; rintro e w4 ⟨a', c', rfl, hN4, hz4, hb4, hg4⟩; have HN4 : Hid (NumIn w4.heap.size w4 a' x.nf c' x.F ∧ (a' = none → x.nf = 0 ∧ c' = 0) ∧ (∀ b o, a' = some ⟨b, o, none⟩ → W3.heap.size ≤ b ∧ IntB w4 b)) := ⟨hN4, hz4, hb4⟩; have HG4 : Hid (W3.grownBy w4 none) := hg4; have k0 := (Ch.of (l := []) hg4).cell (K.out.1 0 _ rfl) (by simp); have k1 := (Ch.of (l := []) hg4).cell (K.out.1 1 _ rfl) (by simp); have k2 := (Ch.of (l := []) hg4).cell (K.out.1 2 _ rfl) (by simp); have k3 := (Ch.of (l := []) hg4).cell (K.out.1 3 _ rfl) (by simp); have z3 := frozen_ch (l := []) (Ch.of hg4) (by omega) (by simp) (K.out.2.1 3); have r0 := (Ch.of (l := []) hg4).cell (K.out.2.2.1 0 _ rfl) (by simp); have r1 := (Ch.of (l := []) hg4).cell (K.out.2.2.1 1 _ rfl) (by simp); have r2 := (Ch.of (l := []) hg4).cell (K.out.2.2.1 2 _ rfl) (by simp); have r3 := (Ch.of (l := []) hg4).cell (K.out.2.2.1 3 _ rfl) (by simp); have y0 := frozen_ch (l := []) (Ch.of hg4) (by omega) (by simp) (K.out.2.2.2 0); have y1 := frozen_ch (l := []) (Ch.of hg4) (by omega) (by simp) (K.out.2.2.2 1); have y2 := frozen_ch (l := []) (Ch.of hg4) (by omega) (by simp) (K.out.2.2.2 2); have y3 := frozen_ch (l := []) (Ch.of hg4) (by omega) (by simp) (K.out.2.2.2 3); clear hN4 hz4 hb4 hg4)
  refine bodyPost_ret (by simp [results, Try.results18, go_sem, r0, r1, r2, r3]; try rfl) rfl ?_
  have hs4 := HG4.out.size
  have g := grown_trans HG3.out HG4.out
  generalize hw9 : ((((w4.setCell _ _).setCell _ _).setCell _ _).setCell _ _).setCell _ _ = w9
  have c9 : Ch w4 w9 [w.heap.size + 1, w.heap.size + 2] := by
    rw [← hw9]
    exact ((((Ch.one (grown_set _ _ _ _) (by simp)).trans (Ch.one (grown_set _ _ _ _) (by simp))).trans (Ch.one (grown_set _ _ _ _) (by simp))).trans (Ch.one (grown_set _ _ _ _) (by simp))).trans (Ch.one (grown_set _ _ _ _) (by simp))
  refine ⟨a', c', rfl, ?_, HN4.out.2.1, fun b o e => ⟨by have := (HN4.out.2.2 b o e).1; omega, (HN4.out.2.2 b o e).2.ch c9 (by have := (HN4.out.2.2 b o e).1; simp; omega)⟩, ?_⟩
  · exact (HN4.out.1.ch2 c9 (fun b o e => by have := (HN4.out.2.2 b o e).1; simp; omega)).up c9.size
  · exact ((Ch.of g).trans c9).nil (by simp)
/-- an entry and where its fields lie -/
structure En where
  x : Ty.TyV
  fa : Option Addr
  fc : Nat
def cells4 (e : En) : List Value := [.int .i64 e.x.kind, .int .i64 e.x.elem, .int .i64 e.x.n, .slice e.fa e.x.nf e.fc]
def OwnT (w : World) (base : Nat) (v : Value) (l : List En) : Prop := w.ownsRow base 41 4 v l.length (l.flatMap cells4)
theorem info_ty : (Try.prog.info? 41).map (fun i => (i.zero, i.size, i.bytes)) = some (some (.agg #[.int .i64 0, .int .i64 0, .int .i64 0, .slice none 0 0]), 4, 48) := by kernel_rfl
theorem flat4_at : ∀ (l : List En) (i k : Nat) (hi : i < l.length), k < 4 → (l.flatMap cells4)[i * 4 + k]? = (cells4 l[i])[k]?
  | [], i, k, hi, _ => by simp at hi
  | v :: l, 0, k, _, hk => by
    rw [List.flatMap_cons, List.getElem?_append_left (by simp [cells4]; omega)]
    simp
  | v :: l, i + 1, k, hi, hk => by
    have h4 : (cells4 v).length = 4 := rfl
    rw [List.flatMap_cons, List.getElem?_append_right (by rw [h4]; omega), h4, show (i + 1) * 4 + k - 4 = i * 4 + k by omega]
    exact flat4_at l i k (by simpa using hi) hk
theorem OwnT.grow {w w' : World} {base : Nat} {v : Value} {l : List En} (h : OwnT w base v l) (hg : w.grownBy w' none) : OwnT w' base v l := World.ownsRow.kept h hg (Classical.em _)
theorem OwnT.base {w : World} {base : Nat} {v : Value} {l : List En} (h : OwnT w base v l) : ∀ k, v.ownBlock = some k → base ≤ k := fun k hk => (World.ownsRow.lt h k hk).1
/-- one entry more -/
theorem wp_appT {ops : Array Oper} {rest : List Oper} {o : Oper} {a : Act} {Q : Exit → Act → World → Prop} {W : World} (hgd : o.guard = none) (s x : Operand)
    (ho : o.op = .call { callee := .builtin .append, args := #[s, x], argTypes := #[24, 24] }) (base : Nat) (v : Value) (l : List En) (u : En) (hs : a.eval s = v) (hown : OwnT W base v l)
    (hx : a.eval x = .slice (some ⟨W.heap.size, 0, none⟩) 1 1) (hl : l.length ≤ 100000) (hb : base ≤ W.heap.size)
    (h : ∀ v' w', OwnT w' base v' (l ++ [u]) → W.grownBy w' v.ownBlock → wpList Try.prog ops Q rest (a.put o.dst v') w') : wpList Try.prog ops Q (o :: rest) a (W.alloc (Obj.cells #[.int .i64 u.x.kind, .int .i64 u.x.elem, .int .i64 u.x.n, .slice u.fa u.x.nf u.fc] 41)) := by
  obtain ⟨i, hi, hz0, hz1, hz2⟩ := info_parts info_ty
  refine wpList_append_own _ hgd s x 24 ho base 41 i _ 4 48 Try.underlying24 hi hz0 hz1 hz2 rfl (by decide) v l.length (l.flatMap cells4) hs (World.ownsRow.alloc hown _) ⟨W.heap.size, 0, none⟩ 1 1 (cells4 u) hx rfl
    (by intro j y hj; rw [addr_add, Nat.zero_add, cells_new _ _ rfl]; rw [← hj]; simp [cells4]) (by intro y hy; simp [cells4] at hy; rcases hy with rfl | rfl | rfl | rfl <;> rfl) (by unfold maxLen; omega) (by omega) (by simp; omega) ?_
  intro v' w2 ho2 hg2 _
  refine h v' w2 ?_ (grown_trans (grown_noneR _ (World.grownBy_alloc _ _ _)) hg2)
  unfold OwnT
  rw [List.length_append, List.flatMap_append]
  simpa using ho2
theorem OwnT.apart {w : World} {base b : Nat} {v : Value} {l : List En} (h : OwnT w base v l) (hb : IntB w b) : v.ownBlock ≠ some b := by
  intro e
  rcases h.2 with ⟨rfl, _⟩ | ⟨g, c, cur, rfl, _, hg, _⟩
  · cases e
  · simp [Value.ownBlock] at e
    subst e
    obtain ⟨cur', h'⟩ := hb
    rw [hg] at h'
    simp at h'
/-- a copy of a table -/
structure Cop (w wr : World) (T : Nat → Ty.TyV) (k : Nat) (v : Value) (l : List En) : Prop where
  own : OwnT wr w.heap.size v l
  len : l.length = k
  ent : ∀ i (hi : i < l.length), l[i].x = T i ∧ NumIn wr.heap.size wr l[i].fa (T i).nf l[i].fc (T i).F ∧ (l[i].fa = none → (T i).nf = 0 ∧ l[i].fc = 0) ∧ ∀ b o, l[i].fa = some ⟨b, o, none⟩ → IntB wr b
  gr : w.grownBy wr none
theorem Cop.tys {w wr : World} {T : Nat → Ty.TyV} {k : Nat} {v : Value} {l : List En} (h : Cop w wr T k v l) : ∃ a c, v = .slice a k c ∧ TysIn wr.heap.size wr a k c T := by
  have hl := h.len
  subst hl
  rcases h.own.2 with ⟨rfl, h0⟩ | ⟨g, c, cur, rfl, hb, hg, hc, hcm, _⟩
  · exact ⟨none, 0, by rw [h0], by omega, Nat.zero_le _, .inl h0⟩
  · refine ⟨_, c, rfl, hc, hcm, .inr ⟨g, 0, rfl, (World.ownsRow.lt h.own g rfl).2, fun i hi => ?_⟩⟩
    have e : ∀ q, q < 4 → wr.cell? ⟨g, i * 4 + q, none⟩ = (cells4 l[i])[q]? := fun q hq => (World.ownsRow.cellAt h.own (i * 4 + q) (by omega)).trans (flat4_at l i q hi hq)
    obtain ⟨e1, e2, e3, _⟩ := h.ent i hi
    rw [Nat.zero_add]
    refine ⟨l[i].fa, l[i].fc, ?_, ?_, ?_, ?_, e2, e3⟩
    · rw [← e1]; exact e 0 (by decide)
    · rw [← e1]; exact e 1 (by decide)
    · rw [← e1]; exact e 2 (by decide)
    · rw [← e1]; exact e 3 (by decide)
set_option maxRecDepth 100000 in
set_option maxHeartbeats 4000000 in
theorem copyTypes_any {N : Nat} {w : World} {a : Option Addr} {n c : Nat} {T : Nat → Ty.TyV} (h : TysIn N w a n c T) (hN : N ≤ w.heap.size) (hn : n ≤ 2000) (hf : ∀ i, i < n → (T i).nf * 8 ≤ reachBytes) :
    Calls Try.prog 6 #[.slice a n c] w fun e w' => ∃ a' c', e = .returned (.slice a' n c') ∧ TysIn w'.heap.size w' a' n c' T ∧ w.grownBy w' none := by
  have hle := h.le
  have hmx := h.max
  unfold maxLen at hmx
  have hn' : (n : Int) ≤ 2000 := by omega
  have HT : Hid (TysIn N w a n c T) := h
  have HF : Hid (∀ i, i < n → (T i).nf * 8 ≤ reachBytes) := hf
  clear h hf
  go_enter Try.func6, Try.ntmps6
  go_wp2_with fail
  go_loopw [3, 4] (fun v ix wr => ∃ (k : Nat) (l : List En), ix = .int .i64 k ∧ k ≤ n ∧ Cop w wr T k v l) (fun _ ix _ => n - (intOf ix).toNat)
  case atStart => exact ⟨0, [], rfl, Nat.zero_le _, World.ownsRow_nil _ _ _ _, rfl, (fun i hi => by simp at hi), World.grownBy.refl _ _⟩
  case round =>
    obtain ⟨k, l, rfl, hk, hc⟩ := hrel
    have HC : Hid (Cop w wr T k _ l) := hc
    by_cases hkn : k < n
    · have hkn' : (k : Int) < n := by omega
      obtain ⟨b, off, fa, fc, rfl, hb, hty⟩ := (HT.out.grow hc.gr).at hkn
      have HY : Hid (∃ av cv, u3 = .slice av k cv) := by obtain ⟨a1, c1, e, _⟩ := hc.tys; exact ⟨a1, c1, e⟩
      have hcp := copyType_any hty.f hty.nz (HF.out k hkn)
      have HCp : Hid (Calls Try.prog 18 #[.agg #[.int .i64 (T k).kind, .int .i64 (T k).elem, .int .i64 (T k).n, .slice fa (T k).nf fc]] wr fun e w' => ∃ a' c', e = .returned (.agg #[.int .i64 (T k).kind, .int .i64 (T k).elem, .int .i64 (T k).n, .slice a' (T k).nf c']) ∧ NumIn w'.heap.size w' a' (T k).nf c' (T k).F ∧ (a' = none → (T k).nf = 0 ∧ c' = 0) ∧ (∀ b o, a' = some ⟨b, o, none⟩ → wr.heap.size ≤ b ∧ IntB w' b) ∧ wr.grownBy w' none) := hcp
      have c0 := hty.c0
      have c1 := hty.c1
      have c2 := hty.c2
      have c3 := hty.c3
      have hlk := hc.len
      have hsz := hc.gr.size
      clear hc hcp hty
      obtain ⟨x, hx⟩ : ∃ x, x = T k := ⟨_, rfl⟩
      have HX : Hid (x = T k) := hx
      rw [← hx] at c0 c1 c2 c3 HCp
      clear hx
      go_wp2_with (first
        | (go_at_call 18; refine HCp.out.mono ?_; rintro e w4 ⟨a', c', rfl, hN4, hz4, hb4, hg4⟩; have HN4 : Hid (NumIn w4.heap.size w4 a' x.nf c' x.F ∧ (a' = none → x.nf = 0 ∧ c' = 0) ∧ (∀ b o, a' = some ⟨b, o, none⟩ → wr.heap.size ≤ b ∧ IntB w4 b)) := ⟨hN4, hz4, hb4⟩; have HG4 : Hid (wr.grownBy w4 none) := hg4; have hsz4 := hg4.size; clear hN4 hz4 hb4 hg4)
        | (at_builtin; refine wp_appT rfl _ _ rfl w.heap.size u3 l ⟨x, a', c'⟩ rfl (HC.out.own.grow HG4.out) rfl (by omega) (by omega) ?_; intro v6 w6 ho6 hg6))
      go_roundw
      case rel =>
        have o4 := HC.out.own.grow HG4.out
        have hch : Ch w4 w6 u3.ownBlock.toList := grown_ch hg6
        have hap : ∀ b, IntB w4 b → b ∉ u3.ownBlock.toList := fun b hb hm => o4.apart hb (by simpa using hm)
        refine ⟨k + 1, l ++ [⟨x, a', c'⟩], by go_num, by omega, ho6, by simp [hlk], fun i hi => ?_, ?_⟩
        · by_cases hil : i < l.length
          · rw [List.getElem_append_left hil]
            obtain ⟨e1, e2, e3, e4⟩ := HC.out.ent i hil
            have e4' : ∀ b o, l[i].fa = some ⟨b, o, none⟩ → IntB w4 b := fun b o e => (e4 b o e).ch (l := []) (Ch.of HG4.out) (by simp)
            exact ⟨e1, ((e2.grow HG4.out).ch2 hch (fun b o e => hap b (e4' b o e))).up (by have := hch.size; omega), e3, fun b o e => (e4' b o e).ch hch (hap b (e4' b o e))⟩
          · have hik : i = l.length := by simp at hi; omega
            subst hik
            have hT : T l.length = x := by rw [hlk]; exact HX.out.symm
            rw [List.getElem_append_right (Nat.le_refl _)]
            simp only [Nat.sub_self, List.getElem_cons_zero]
            rw [hT]
            exact ⟨rfl, (HN4.out.1.ch2 hch (fun b o e => hap b (HN4.out.2.2 b o e).2)).up hch.size, HN4.out.2.1, fun b o e => (HN4.out.2.2 b o e).2.ch hch (hap b (HN4.out.2.2 b o e).2)⟩
        · have := (Ch.of (l := u3.ownBlock.toList) (grown_trans HC.out.gr HG4.out)).trans hch
          exact this.nil (fun q hq => HC.out.own.base q (by simpa using hq))
      case measure => simp [intOf]; omega
    · obtain rfl : k = n := by omega
      obtain ⟨a1, c1, rfl, hT1⟩ := hc.tys
      clear hc
      go_wp2
      go_ret
      exact ⟨a1, c1, rfl, hT1, HC.out.gr⟩
end Go.Proofs.Ytlkldehapkgdaaa

/- Heavy; wakes. -/
namespace Go.Proofs.Ytlkldehapkgdaaa
open Go.RowKit
set_option linter.unusedVariables false

/-- what Heavy tells -/
def HvR (n : Nat) (e : Ending) : Prop := ∃ b, e = .returned (.bool b) ∧ (b = false → n ≤ 2000)
set_option maxRecDepth 100000 in
set_option maxHeartbeats 4000000 in
theorem heavy7_any {N : Nat} {w : World} {a : Option Addr} {n c : Nat} {T : Nat → Ty.TyV} (h : TysIn N w a n c T) (hz : n * 48 ≤ reachBytes) (hf : ∀ i, i < n → (T i).nf * 8 ≤ reachBytes) :
    Calls Try.prog 5 #[.slice a n c] w fun e w' => HvR n e ∧ w' = w := by
  have hle := h.le
  have hmx := h.max
  unfold maxLen at hmx
  have hz' : n * 48 ≤ 140737488351232 := hz
  have hn' : (n : Int) ≤ 140737488351232 := by omega
  have HT : Hid (TysIn N w a n c T) := h
  have HF : Hid (∀ i, i < n → ((T i).nf : Int) ≤ 140737488351232) := fun i hi => by have : (T i).nf * 8 ≤ 140737488351232 := hf i hi; omega
  clear h hf hz hz'
  go_enter Try.func5, Try.ntmps5
  go_wp2_with fail
  go_loopw [3, 4] (fun z ix wr => ∃ (k : Nat) (y : Int), ix = .int .i64 k ∧ z = .int .i64 y ∧ k ≤ n ∧ (n : Int) ≤ y ∧ y ≤ 4611686018427387904 ∧ wr = w) (fun _ ix _ => n - (intOf ix).toNat)
  case atStart => exact ⟨0, n, rfl, rfl, Nat.zero_le _, Int.le_refl _, by omega, rfl⟩
  case round =>
    obtain ⟨k, y, rfl, rfl, hk, hy1, hy2, rfl⟩ := hrel
    by_cases hkn : k < n
    · have hkn' : (k : Int) < n := by omega
      by_cases hy : y < 2000
      · obtain ⟨b, off, fa, fc, rfl, hb, hty⟩ := HT.out.at hkn
        have hfk := HF.out k hkn
        have c3 := hty.c3
        clear hty
        generalize T k = x at *
        go_wp2
        go_roundw
        case rel => exact ⟨k + 1, y + x.nf, by go_num, by go_num, by omega, by omega, by omega, by first | rfl | trivial⟩
        case measure => simp [intOf]; omega
      · go_wp2
        go_ret
        refine ⟨⟨_, rfl, fun e => ?_⟩, rfl⟩
        simp at e
        omega
    · obtain rfl : k = n := by omega
      go_wp2
      go_ret
      refine ⟨⟨_, rfl, fun e => ?_⟩, rfl⟩
      simp at e
      omega
/-- the table that wakes -/
def Ty.wT : Nat → Ty.TyV
  | 0 => ⟨6, 0, 0, 0, fun _ => 0⟩
  | 1 => ⟨5, 0, 0, 0, fun _ => 0⟩
  | _ => ⟨13, 0, 0, 3, fun k => if k = 1 then 1 else 0⟩
theorem Ty.wT_chk : Ty.chk Ty.wT 3 = 0 := by decide
theorem Ty.wT_size : (Ty.lie Ty.wT 2).size = 24 := by decide
theorem Ty.wT_off : Ty.offV (Ty.wT 2) (Ty.lie Ty.wT) 2 = 16 ∧ Ty.offE (Ty.wT 2) 2 = 0 := by decide
set_option maxRecDepth 100000 in
set_option maxHeartbeats 4000000 in
theorem wakes7_any (w : World) : Calls Try.prog 13 #[] w fun e w' => e = .returned (.bool true) ∧ w.grownBy w' none := by
  have HN : Hid (∀ x W, Calls Try.prog 8 #[.int .i64 x] W fun e w' => e = .returned (.int .i64 x) ∧ w' = W) := num7_any
  obtain ⟨W2, hW2⟩ : ∃ W2, W2 = (w.alloc (.cells #[.int .i64 0, .int .i64 1, .int .i64 0] 3)).alloc (.cells #[.int .i64 6, .int .i64 0, .int .i64 0, .slice none 0 0, .int .i64 5, .int .i64 0, .int .i64 0, .slice none 0 0, .int .i64 13, .int .i64 0, .int .i64 0, .slice (some ⟨w.heap.size, 0, none⟩) 3 3] 41) := ⟨_, rfl⟩
  have hg2 : w.grownBy W2 none := by rw [hW2]; exact ga (World.grownBy_alloc _ _ _) _
  have hs2 : W2.heap.size = w.heap.size + 2 := by rw [hW2]; simp
  have hT : TysIn W2.heap.size W2 (some ⟨w.heap.size + 1, 0, none⟩) 3 3 Ty.wT := by
    refine ⟨Nat.le_refl _, by decide, .inr ⟨_, 0, rfl, by omega, fun i hi => ?_⟩⟩
    have e : ∀ q, W2.cell? ⟨w.heap.size + 1, q, none⟩ = (#[.int .i64 6, .int .i64 0, .int .i64 0, .slice none 0 0, .int .i64 5, .int .i64 0, .int .i64 0, .slice none 0 0, .int .i64 13, .int .i64 0, .int .i64 0, .slice (some ⟨w.heap.size, 0, none⟩) 3 3] : Array Value)[q]? := fun q => by rw [hW2]; exact cells_new _ _ (by simp) _
    have e2 : ∀ q v, (#[.int .i64 0, .int .i64 1, .int .i64 0] : Array Value)[q]? = some v → W2.cell? ⟨w.heap.size, q, none⟩ = some v := fun q v hv => by rw [hW2]; exact (Ch.of (l := []) (World.grownBy_alloc _ _ _)).cell ((cells_new _ _ rfl _).trans hv) (by simp)
    have h3 : i = 0 ∨ i = 1 ∨ i = 2 := by omega
    rcases h3 with rfl | rfl | rfl
    · exact ⟨none, 0, e 0, e 1, e 2, e 3, ⟨Nat.le_refl _, Nat.zero_le _, .inl rfl⟩, fun _ => ⟨rfl, rfl⟩⟩
    · exact ⟨none, 0, e 4, e 5, e 6, e 7, ⟨Nat.le_refl _, Nat.zero_le _, .inl rfl⟩, fun _ => ⟨rfl, rfl⟩⟩
    · refine ⟨some ⟨w.heap.size, 0, none⟩, 3, e 8, e 9, e 10, e 11, ⟨Nat.le_refl _, by decide, .inr ⟨_, 0, rfl, by omega, fun k hk => ?_⟩⟩, fun h => by cases h⟩
      have hk3 : k < 3 := hk
      have h3 : k = 0 ∨ k = 1 ∨ k = 2 := by omega
      rcases h3 with rfl | rfl | rfl
      · exact e2 0 _ rfl
      · exact e2 1 _ rfl
      · exact e2 2 _ rfl
  have hC1 := size7_ok hT (Nat.le_refl _) Ty.wT_chk (i := 2) (by decide)
  rw [Ty.wT_size] at hC1
  have HC1 : Hid (Calls Try.prog 14 #[.slice (some ⟨w.heap.size + 1, 0, none⟩) 3 3, .int .i64 2] W2 fun e w' => e = .returned (.tuple #[.int .i64 24, .int .i64 0]) ∧ W2.grownBy w' none) := hC1
  have HC2 : Hid (∀ W, W2.grownBy W none → Calls Try.prog 27 #[.slice (some ⟨w.heap.size + 1, 0, none⟩) 3 3, .int .i64 2, .int .i64 2] W fun e w' => e = .returned (.tuple #[.int .i64 16, .int .i64 0]) ∧ W.grownBy w' none) := fun W hg => by
    have := offset7_ok (hT.grow hg) hg.size Ty.wT_chk (i := 2) (by decide) 2
    rw [Ty.wT_off.1, Ty.wT_off.2] at this
    exact this
  have HG2 : Hid (w.grownBy W2 none) := hg2
  have HW2 : Hid (W2 = _) := hW2
  clear hC1 hT hg2 hW2
  go_enter Try.func13, Try.ntmps13
  go_wp2_with (first
    | (go_at_call 14; rw [← HW2.out]; refine HC1.out.mono ?_; rintro e w3 ⟨rfl, hg3⟩; have HG3 : Hid (W2.grownBy w3 none) := hg3; clear hg3)
    | (go_at_call 27; refine (HC2.out _ HG3.out).mono ?_; rintro e w4 ⟨rfl, hg4⟩; have HG4 : Hid (w3.grownBy w4 none) := hg4; clear hg4)
    | (go_at_call 8; refine (HN.out _ _).mono ?_; rintro e w5 ⟨rfl, rfl⟩))
  go_ret
  exact ⟨rfl, grown_trans (grown_trans HG2.out HG3.out) HG4.out⟩
end Go.Proofs.Ytlkldehapkgdaaa

/- What the law asks of fields and of words. -/
namespace Go.Proofs.Ytlkldehapkgdaaa
open Go.RowKit
set_option linter.unusedVariables false

namespace Ty
end Ty
namespace Ty
/-- words lie one behind the other from s on, each as it is aligned, up to d -/
inductive Row : Int → Int → List (Int × Int) → Prop
  | nil {s d : Int} (h : s ≤ d) : Row s d []
  | cons {s d k o : Int} {l : List (Int × Int)} (h1 : 1 ≤ k) (h2 : k ≤ 11) (h3 : s ≤ o) (h4 : o % Wd.by' k = 0) (h : Row (o + Wd.by' k) d l) : Row s d ((k, o) :: l)
theorem Row.le {s d : Int} {l : List (Int × Int)} (h : Row s d l) : s ≤ d := by
  induction h with
  | nil h => exact h
  | cons h1 h2 h3 h4 h ih => have := (by_al h1 h2).pos; omega
theorem Row.low {s s' d : Int} {l : List (Int × Int)} (h : Row s d l) (hs : s' ≤ s) : Row s' d l := by
  cases h with
  | nil h => exact .nil (by omega)
  | cons h1 h2 h3 h4 h => exact .cons h1 h2 (by omega) h4 h
theorem Row.high {s d d' : Int} {l : List (Int × Int)} (h : Row s d l) (hd : d ≤ d') : Row s d' l := by
  induction h with
  | nil h => exact .nil (by omega)
  | cons h1 h2 h3 h4 h ih => exact .cons h1 h2 h3 h4 (ih hd)
theorem Row.app {s m d : Int} {l l' : List (Int × Int)} (h : Row s m l) (h' : Row m d l') : Row s d (l ++ l') := by
  induction h with
  | nil h => exact h'.low h
  | cons h1 h2 h3 h4 h ih => exact .cons h1 h2 h3 h4 (ih h')
/-- an entry's words lie within it, aligned no more than it -/
def Al8 (a : Int) (l : List (Int × Int)) : Prop := ∀ p ∈ l, 1 ≤ p.1 ∧ p.1 ≤ 11 ∧ Wd.by' p.1 ≤ a
theorem mod_add {d o b a : Int} (ha : Al a) (hb : Al b) (hba : b ≤ a) (hd : d % a = 0) (ho : o % b = 0) : (d + o) % b = 0 := by
  rcases ha with rfl | rfl | rfl | rfl <;> rcases hb with rfl | rfl | rfl | rfl <;> omega
theorem Row.sh {s d e a : Int} {l : List (Int × Int)} (h : Row s d l) (ha : Al a) (h8 : Al8 a l) (he : e % a = 0) : Row (e + s) (e + d) (Ty.sh e l) := by
  induction h with
  | nil h => exact .nil (by omega)
  | @cons s d k o l h1 h2 h3 h4 h ih =>
    have h5 := h8 (k, o) (by simp)
    refine .cons h1 h2 (by omega) (mod_add ha (by_al h1 h2) h5.2.2 he h4) ?_
    have := ih (fun p hp => h8 p (by simp [hp]))
    rwa [← Int.add_assoc] at this
theorem cat_row {x : TyV} {L : Nat → Li} {V : Nat → List (Int × Int)} : ∀ {k : Nat}, (∀ j, j < k → Good (fl x L j) ∧ (fl x L j).size ≤ 65536 ∧ Row 0 (fl x L j).size (V (x.F j).toNat) ∧ Al8 (fl x L j).align (V (x.F j).toNat)) → Row 0 (en x L k) (cat x L V k) ∧ Al8 (al x L k) (cat x L V k)
  | 0, _ => ⟨.nil (Int.le_refl _), fun p hp => by cases hp⟩
  | k + 1, h => by
    obtain ⟨h1, h2⟩ := cat_row (k := k) fun j hj => h j (by omega)
    obtain ⟨g1, g2, g3, g4⟩ := h k (by omega)
    have hu := up_spec (n := en x L k) g1.al
    refine ⟨?_, fun p hp => ?_⟩
    · rw [cat, en]
      refine h1.app ?_
      have := g3.sh g1.al g4 (e := bg x L k) hu.2.2
      exact this.low (by unfold bg; omega)
    · rw [cat, List.mem_append] at hp
      rw [al]
      rcases hp with hp | hp
      · have := h2 p hp; omega
      · unfold Ty.sh at hp
        obtain ⟨q, hq, rfl⟩ := List.mem_map.1 hp
        have := g4 q hq
        refine ⟨this.1, this.2.1, ?_⟩
        show Wd.by' q.1 ≤ _
        omega
theorem wk_row {T : Nat → TyV} {n : Nat} : ∀ {i : Nat}, Fine T n (i + 1) → Row 0 (lie T i).size (wk T i) ∧ Al8 (lie T i).align (wk T i) := by
  intro i
  induction i using Nat.strongRecOn with
  | ind i ih =>
    intro h
    have ho := (h i (by omega)).1
    have hgi := h.good i (by omega)
    have e1 := wk_eq ho
    have e2 := lie_eq ho
    rcases ok_cases ho with ⟨hk, _⟩ | ⟨hk, _, _, h16, hf⟩ | ⟨hk, _⟩ | ⟨i1, i2, _⟩
    · have ew : wk T i = [] := by rw [e1]; unfold wkOf; rw [if_pos hk]
      rw [ew]
      have := hgi.1.w0
      have := hgi.1.ws
      exact ⟨.nil (by omega), fun p hp => by cases hp⟩
    · have h12 : ¬ (T i).kind = 12 := by omega
      have ew : wk T i = cat (T i) (lie T) (wk T) (T i).nf := by rw [e1]; unfold wkOf; rw [if_neg h12, if_pos hk]
      have es : (lie T i).size = up (en (T i) (lie T) (T i).nf) (al (T i) (lie T) (T i).nf) ∧ (lie T i).align = al (T i) (lie T) (T i).nf := by
        rw [e2]; unfold lieOf; rw [if_neg h12, if_pos hk]; exact ⟨rfl, rfl⟩
      have hg : ∀ j, j < (T i).nf → Good (fl (T i) (lie T) j) ∧ (fl (T i) (lie T) j).size ≤ 65536 ∧ Row 0 (fl (T i) (lie T) j).size (wk T ((T i).F j).toNat) ∧ Al8 (fl (T i) (lie T) j).align (wk T ((T i).F j).toNat) := fun j hj => by
        have hfj := hf j hj
        have h1 := h.good ((T i).F j).toNat (by omega)
        have h2 := ih ((T i).F j).toNat (by omega) (h.mono (by omega))
        exact ⟨h1.1, h1.2, h2.1, h2.2⟩
      obtain ⟨c1, c2⟩ := cat_row hg
      rw [ew, es.1, es.2]
      exact ⟨c1.high (up_spec (al_al fun j hj => (hg j hj).1)).1, c2⟩
    · have h12 : ¬ (T i).kind = 12 := by omega
      have h13 : ¬ (T i).kind = 13 := by omega
      have ew : wk T i = [(11, 0), (5, 8)] := by rw [e1]; unfold wkOf; rw [if_neg h12, if_neg h13, if_pos hk]
      have el : lie T i = ⟨16, 8, 2, false⟩ := by rw [e2]; unfold lieOf; rw [if_neg h12, if_neg h13, if_pos hk]
      rw [ew, el]
      refine ⟨.cons (by decide) (by decide) (by decide) (by decide) (.cons (by decide) (by decide) (by decide) (by decide) (.nil (by decide))), fun p hp => ?_⟩
      simp at hp
      rcases hp with rfl | rfl <;> exact ⟨by decide, by decide, by decide⟩
    · have h12 : ¬ (T i).kind = 12 := by omega
      have h13 : ¬ (T i).kind = 13 := by omega
      have h14 : ¬ ((T i).kind = 14 ∨ (T i).kind = 15) := by omega
      have ew : wk T i = [((T i).kind, 0)] := by rw [e1]; unfold wkOf; rw [if_neg h12, if_neg h13, if_neg h14]
      have el : lie T i = ⟨Wd.by' (T i).kind, Wd.by' (T i).kind, 1, false⟩ := by rw [e2]; unfold lieOf; rw [if_neg h12, if_neg h13, if_neg h14]
      rw [ew, el]
      refine ⟨.cons i1 i2 (Int.le_refl _) (by simp) (.nil (by show 0 + _ ≤ Wd.by' _; omega)), fun p hp => ?_⟩
      simp at hp
      subst hp
      exact ⟨i1, i2, Int.le_refl _⟩
end Ty
end Go.Proofs.Ytlkldehapkgdaaa

/- TypesLie: the walk. -/
namespace Go.Proofs.Ytlkldehapkgdaaa
open Go.RowKit
set_option linter.unusedVariables false

theorem grown_below {w w' : World} (g : w.grownBy w' none) : Below w.heap.size w w' := (Below.refl _ _).grown g (Nat.le_refl _) (by simp)
theorem TbAt.grow {w w' : World} {b o : Nat} {v : TbV} (h : TbAt w b o v) (hg : w.grownBy w' none) : w'.cell? ⟨b, o, none⟩ = some (.slice v.ta v.tn v.tc) ∧ w'.cell? ⟨b, o + 1, none⟩ = some (.slice v.ia v.im v.ic) ∧ w'.cell? ⟨b, o + 2, none⟩ = some (.slice v.fa v.fm v.fc) ∧ TysIn w.heap.size w' v.ta v.tn v.tc v.T ∧ NumIn w.heap.size w' v.ia v.im v.ic v.I ∧ NumIn w.heap.size w' v.fa v.fm v.fc v.F :=
  ⟨(Ch.of (l := []) hg).cell h.c0 (by simp), (Ch.of (l := []) hg).cell h.c1 (by simp), (Ch.of (l := []) hg).cell h.c2 (by simp), h.t.grow hg, h.i.grow hg, h.f.grow hg⟩
end Go.Proofs.Ytlkldehapkgdaaa
