/- Contracts and plain facts that the walks share, text by text: RcE, RcT, CdLeaf, CdTz, RcF, RcG, RcR, RcQ, RcIns, RcRowsB. -/
import Derived.Test.YtbghjlamedlchaaDoorG1
import Derived.Test.YtbghjlamedlchaaDoorG2
import Derived.Deep.QuietTactic
import Derived.BigQuiet
import Derived.Deep.AppendLies
import Derived.Deep.Slices
import Derived.OpenShut
/- risc.fits: its contract. -/
namespace Go.Proofs.YtbghjlamedlchaaDoor
open Go.RowKit
set_option linter.unusedVariables false

namespace Rc
def fitB (v : InV) : Bool := !(v.op == 0) && regB v.a && regB v.b && regB v.c && kindB v
/-- an error of the kind alone says that there is no such operation -/
theorem bin_e (s k : Int) : ((Fl.binA s k 0 0).2 == 10) = !Wd.hasBinB s k := by
  unfold Fl.binA Fl.binF Wd.binI
  by_cases hk : k = 10
  · subst hk; rw [if_pos rfl]; cases Wd.hasBinB s 10 <;> rfl
  · rw [if_neg hk]
    cases Wd.hasBinB s k
    · rfl
    · rw [if_neg (by simp)]
      repeat' split
      all_goals rfl
theorem un_e (s k : Int) : ((Wd.unI s k 0).2 == 10) = !Wd.hasUnB s k := by
  unfold Wd.unI
  cases Wd.hasUnB s k
  · rfl
  · rw [if_neg (by simp)]
    repeat' split
    all_goals rfl
theorem conv_e (s k : Int) : ((Fl.convA s k 0).2 == 10) = !(Wd.numB s && Wd.numB k) := by
  unfold Fl.convA
  cases (Wd.numB s && Wd.numB k)
  · rfl
  · rw [if_neg (by simp)]
    repeat' split
    all_goals rfl
theorem wid_e (k : Int) : decide (0 < Wd.wid k) = Wd.wordB k := by
  unfold Wd.wid Wd.wordB
  rw [Bool.eq_iff_iff]
  simp only [decide_eq_true_eq, Bool.and_eq_true]
  repeat' split
  all_goals omega
theorem bin_ne (s k : Int) : ((Fl.binA s k 0 0).2 != 10) = Wd.hasBinB s k := by rw [bne, bin_e]; simp
theorem un_ne (s k : Int) : ((Wd.unI s k 0).2 != 10) = Wd.hasUnB s k := by rw [bne, un_e]; simp
theorem conv_ne (s k : Int) : ((Fl.convA s k 0).2 != 10) = (Wd.numB s && Wd.numB k) := by rw [bne, conv_e]; simp
theorem fit_c (v : InV) : fitB v = (!(v.op == 0) && regB v.a && regB v.b && regB v.c && kindC v) := by unfold fitB; rw [kind_c]
end Rc

end Go.Proofs.YtbghjlamedlchaaDoor

/- A region that draws its order, whose head only reads and whose tail is forced: one walk by the cheap step. -/
namespace Go.Proofs.YtbghjlamedlchaaDoor
open Go.RowKit
set_option linter.unusedVariables false

theorem still_of_quiet {P : Program} {ops : Array Oper} {w : World} {Q : Act → Prop} : ∀ (l : List Oper) (a : Act), wpQuiet P ops (fun w' => w' = w) Q l a → wpStill P ops w Q l a
  | [], _, h => h
  | o :: rest, a, h => by
    unfold wpQuiet at h
    unfold wpStill
    split
    · rename_i hw
      rw [if_pos hw] at h
      obtain ⟨v, h1, h2⟩ := h
      have h3 := h1 w rfl
      have h4 := still_of_quiet rest _ h2
      unfold Oper.quietAt at h3
      unfold Oper.still
      generalize (execOp a.eval o).run P w = r at h3
      match r, h3 with
      | .ok (.value u) w', h3 => obtain ⟨e1, e2⟩ := h3; exact ⟨e1, by rw [e2]; exact h4⟩
      | .ok .skip w', h3 => obtain ⟨e1, e2⟩ := h3; exact ⟨e1, by rw [← e2]; exact h4⟩
      | .ok (.enter f args) w', h3 => obtain ⟨e1, e2⟩ := h3; exact ⟨e1, v, e2, h4⟩
    · rename_i hw
      rw [if_neg hw] at h
      exact still_of_quiet rest _ h

theorem tail_quiet {P : Program} {id : Nat} {Q : Exit → Act → World → Prop} {a : Act} {w : World} {l : List Oper} (n : Nat) (hm : P.follows .mixedOrders = true) (hB : Region.lexTailB .any l.toArray n = true)
    (h : wpQuiet P l.toArray (fun w' => w' = w.drew) (fun a' => wpList P l.toArray Q (l.drop n) a' w.drew) (l.take n) a) : (Code.region id l.toArray true).wp P Q a w :=
  tail_drew n hm hB (still_of_quiet _ _ h)

/-- a world that has grown out of W -/
structure Gw (W : World) where
  w : World
  h : W.grownBy w none

/-- A region that draws its order, whose operations read what stood in W or call what only makes new memory: one walk of the lexical order. -/
theorem region_grown {P : Program} {id : Nat} {Q : Exit → Act → World → Prop} {a : Act} {w : World} {l : List Oper} (hm : P.follows .mixedOrders = true) (hB : Region.lexB .any l.toArray = true)
    (h : wpQuiet P l.toArray (fun w' => ∃ x : Gw w, w' = x.w) (fun a' => ∀ w', (∃ x : Gw w, w' = x.w) → Q .normal a' w') l a) : (Code.region id l.toArray true).wp P Q a w :=
  wp_region_quiet (C := fun w' => ∃ x : Gw w, w' = x.w) hm hB ⟨⟨w.drew, grown_drew (World.grownBy.refl _ _)⟩, rfl⟩ (by simpa using h)
theorem Gw.call {P : Program} {f : FuncId} {args : Array Value} {W : World} {x : Gw W} {v : Value}
    (h : Calls P f args x.w fun e w' => e = .returned v ∧ x.w.grownBy w' none) : Calls P f args x.w fun e w'' => e = .returned v ∧ ∃ y : Gw W, w'' = y.w :=
  h.mono fun _ w'' ⟨he, hg⟩ => ⟨he, ⟨w'', grown_trans x.h hg⟩, rfl⟩

end Go.Proofs.YtbghjlamedlchaaDoor

/- Small functions of cisc, gantryref4 and gantrylaw4: contracts. -/
namespace Go.Proofs.YtbghjlamedlchaaDoor
open Go.RowKit
set_option linter.unusedVariables false

set_option maxHeartbeats 400000 in
theorem cnum_any (x : Int) (w : World) :
    Calls Tryd.prog 9 #[.int .i64 x] w fun e w' => e = .returned (.int .i64 x) ∧ w' = w := by
  go_enter Tryd.func9, Tryd.ntmps9
  go_wp2
  go_ret
  exact ⟨rfl, rfl⟩

set_option maxHeartbeats 400000 in
theorem rcmp_any (k : Int) (w : World) :
    Calls Tryd.prog 46 #[.int .i64 k] w fun e w' => e = .returned (.bool (Wd.cmpB k)) ∧ w' = w := by
  go_enter Tryd.func46, Tryd.ntmps46
  go_wp2
  all_goals (go_ret; refine ⟨ret_bool ?_, rfl⟩; simp only [Wd.cmpB] at *; first | (rw [Bool.eq_iff_iff]; simp at *; omega))

set_option maxHeartbeats 400000 in
theorem rcond_any (k : Int) (w : World) :
    Calls Tryd.prog 31 #[.int .i64 k] w fun e w' => e = .returned (.bool (Wd.cmpB k)) ∧ w' = w := by
  go_enter Tryd.func31, Tryd.ntmps31
  go_wp2_with (go_at_call 46; refine (rcmp_any _ _).mono ?_; rintro e w' ⟨rfl, rfl⟩)
  go_ret
  exact ⟨rfl, rfl⟩

set_option maxHeartbeats 400000 in
theorem rsize_any (n : Int) (w : World) :
    Calls Tryd.prog 32 #[.int .i64 n] w fun e w' => e = .returned (.int .i64 (Cc.size n)) ∧ w' = w := by
  go_enter Tryd.func32, Tryd.ntmps32
  go_wp2_with (go_at_call 21; refine (rsmall_any _ _).mono ?_; rintro e w' ⟨rfl, rfl⟩)
  all_goals (go_ret; refine ⟨ret_i64 ?_, rfl⟩; (try simp only [Rc.smallB, Bool.and_eq_true, Bool.and_eq_false_iff, decide_eq_true_eq, decide_eq_false_iff_not] at *); unfold Cc.size; (repeat' split) <;> omega)

set_option maxHeartbeats 400000 in
theorem rbytes4_any (s : Int) (w : World) :
    Calls Tryd.prog 35 #[.int .i64 s] w fun e w' => e = .returned (.int .i64 (Cc.cnt s)) ∧ w' = w := by
  go_enter Tryd.func35, Tryd.ntmps35
  go_wp2
  all_goals (go_ret; refine ⟨ret_i64 ?_, rfl⟩; simp only [beq_iff_eq, beq_eq_false_iff_ne] at *; unfold Cc.cnt; simp [*])

set_option maxHeartbeats 400000 in
theorem rlog_any (s : Int) (w : World) :
    Calls Tryd.prog 33 #[.int .i64 s] w fun e w' => e = .returned (.int .i64 (Cc.lg s)) ∧ w' = w := by
  go_enter Tryd.func33, Tryd.ntmps33
  go_wp2
  all_goals (go_ret; refine ⟨ret_i64 ?_, rfl⟩; simp only [beq_iff_eq, beq_eq_false_iff_ne] at *; unfold Cc.lg; simp [*])

set_option maxHeartbeats 400000 in
theorem rscale_any (s : Int) (w : World) (h1 : 0 ≤ s) (h2 : s < 16) :
    Calls Tryd.prog 58 #[.int .i64 s] w fun e w' => e = .returned (.int .i64 (Cc.scl s)) ∧ w' = w := by
  obtain h | h | h | h | h | h : s = 0 ∨ s = 1 ∨ s = 2 ∨ s = 3 ∨ s = 15 ∨ (3 < s ∧ s < 15) := by omega
  · subst h
    go_enter Tryd.func58, Tryd.ntmps58
    go_wp2
    go_ret
    exact ⟨rfl, rfl⟩
  · subst h
    go_enter Tryd.func58, Tryd.ntmps58
    go_wp2
    go_ret
    exact ⟨rfl, rfl⟩
  · subst h
    go_enter Tryd.func58, Tryd.ntmps58
    go_wp2
    go_ret
    exact ⟨rfl, rfl⟩
  · subst h
    go_enter Tryd.func58, Tryd.ntmps58
    go_wp2
    go_ret
    exact ⟨rfl, rfl⟩
  · subst h
    go_enter Tryd.func58, Tryd.ntmps58
    go_wp2
    go_ret
    exact ⟨rfl, rfl⟩
  · have b0 : (s == 0) = false := by rw [beq_eq_false_iff_ne]; omega
    have b1 : (s == 1) = false := by rw [beq_eq_false_iff_ne]; omega
    have b2 : (s == 2) = false := by rw [beq_eq_false_iff_ne]; omega
    have b3 : (s == 3) = false := by rw [beq_eq_false_iff_ne]; omega
    have b15 : (s == 15) = false := by rw [beq_eq_false_iff_ne]; omega
    go_enter Tryd.func58, Tryd.ntmps58
    go_wp2
    go_ret
    refine ⟨ret_i64 ?_, rfl⟩
    unfold Cc.scl
    rw [if_neg (by omega), if_neg (by omega), if_neg (by omega), if_neg (by omega), if_neg (by omega)]

theorem wrap_i8 (x : Int) : IntKind.i8.wrap x = (x + 128) % 256 - 128 := by
  simp [IntKind.wrap, IntKind.bits, IntKind.signed]
  split <;> omega
set_option maxHeartbeats 400000 in
theorem csize_any (n : Int) (w : World) (h1 : -9223372036854775808 ≤ n) (h2 : n ≤ 9223372036854775807) :
    Calls Tryd.prog 39 #[.int .i64 n] w fun e w' => e = .returned (.int .i64 (Cc.size n)) ∧ w' = w := by
  go_enter Tryd.func39, Tryd.ntmps39
  go_wp2
  all_goals (go_ret; refine ⟨ret_i64 ?_, rfl⟩; simp only [beq_iff_eq, beq_eq_false_iff_ne, ne_eq] at *; unfold Cc.size; simp only [wrap64, wrap32, wrap_i8] at *; (repeat' split) <;> omega)

set_option maxHeartbeats 400000 in
theorem cbytes_any (s : Int) (w : World) :
    Calls Tryd.prog 44 #[.int .i64 s] w fun e w' => e = .returned (.int .i64 (Cc.cnt s)) ∧ w' = w := by
  go_enter Tryd.func44, Tryd.ntmps44
  go_wp2
  all_goals (go_ret; refine ⟨ret_i64 ?_, rfl⟩; simp only [beq_iff_eq, beq_eq_false_iff_ne] at *; unfold Cc.cnt; simp [*])

set_option maxHeartbeats 400000 in
theorem cpair_any (a b : Int) (w : World) :
    Calls Tryd.prog 41 #[.int .i64 a, .int .i64 b] w fun e w' => e = .returned (.int .u8 ((16 * a + b) % 256)) ∧ w' = w := by
  go_enter Tryd.func41, Tryd.ntmps41
  go_wp2
  go_ret
  refine ⟨?_, rfl⟩
  have e : ∀ x y : Int, x = y → Ending.returned (.int .u8 x) = .returned (.int .u8 y) := fun _ _ h => by rw [h]
  exact e _ _ (by simp only [wrap64]; omega)

set_option maxHeartbeats 400000 in
theorem cshift_any (k : Int) (w : World) :
    Calls Tryd.prog 53 #[.int .i64 k] w fun e w' => e = .returned (.bool (Wd.shB k)) ∧ w' = w := by
  go_enter Tryd.func53, Tryd.ntmps53
  go_wp2
  all_goals (go_ret; refine ⟨ret_bool ?_, rfl⟩; simp only [Wd.shB] at *; (try simp_all))

set_option maxHeartbeats 400000 in
theorem ccond_any (k : Int) (w : World) :
    Calls Tryd.prog 57 #[.int .i64 k] w fun e w' => e = .returned (.bool (Wd.cmpB k)) ∧ w' = w := by
  go_enter Tryd.func57, Tryd.ntmps57
  go_wp2
  all_goals (go_ret; refine ⟨ret_bool ?_, rfl⟩; simp only [Wd.cmpB] at *; first | (rw [Bool.eq_iff_iff]; simp at *; omega))

set_option maxHeartbeats 400000 in
theorem cint_any (k : Int) (w : World) :
    Calls Tryd.prog 70 #[.int .i64 k] w fun e w' => e = .returned (.bool (Wd.intB k)) ∧ w' = w := by
  go_enter Tryd.func70, Tryd.ntmps70
  go_wp2
  all_goals (go_ret; refine ⟨ret_bool ?_, rfl⟩; simp only [Wd.intB] at *; first | (rw [Bool.eq_iff_iff]; simp at *; omega))

set_option maxHeartbeats 400000 in
theorem cword_any (k : Int) (w : World) :
    Calls Tryd.prog 56 #[.int .i64 k] w fun e w' => e = .returned (.bool (Wd.wordB k)) ∧ w' = w := by
  go_enter Tryd.func56, Tryd.ntmps56
  go_wp2_with (go_at_call 74; refine (width_any _ _).mono ?_; rintro e w' ⟨rfl, rfl⟩)
  go_ret
  exact ⟨ret_bool (Rc.wid_e k), rfl⟩

namespace Cc
def divB (s k : Int) : Bool := Wd.intB k && (s == 4 || s == 5)
/-- does a number of 32 bits stand for a word of the kind? -/
def fnB (s k n : Int) : Bool := Wd.intB k && (Rc.s32 (Wd.canon (if Wd.shB s then 9 else k) (n % 18446744073709551616)) == n)
/-- 1 shifted -/
def sclC (n : Int) : Int := if n = 15 then 0 else 2 ^ n.toNat
end Cc

set_option maxHeartbeats 400000 in
theorem cdiv_any (s k : Int) (w : World) :
    Calls Tryd.prog 51 #[.int .i64 s, .int .i64 k] w fun e w' => e = .returned (.bool (Cc.divB s k)) ∧ w' = w := by
  cases hk : Wd.intB k
  all_goals
    go_enter Tryd.func51, Tryd.ntmps51
    go_wp2_with (go_at_call 70; refine (cint_any _ _).mono ?_; rw [hk]; rintro e w' ⟨rfl, rfl⟩)
    all_goals (go_ret; refine ⟨ret_bool ?_, rfl⟩; simp only [Cc.divB] at *; simp_all)

set_option maxHeartbeats 400000 in
theorem chasBin_any (s k : Int) (w : World) :
    Calls Tryd.prog 49 #[.int .i64 s, .int .i64 k] w fun e w' => e = .returned (.bool (Wd.hasBinB s k)) ∧ ∃ n, w' = w.drewN n := by
  go_enter Tryd.func49, Tryd.ntmps49
  go_wp2_with (go_at_call 69; refine (binA_any _ _ 0 0 _ (by decide) (by decide) (by decide) (by decide)).mono ?_; rintro e w' ⟨rfl, n, rfl⟩)
  go_ret
  exact ⟨ret_bool (Rc.bin_ne s k), n, rfl⟩
set_option maxHeartbeats 400000 in
theorem chasUn_any (s k : Int) (w : World) :
    Calls Tryd.prog 54 #[.int .i64 s, .int .i64 k] w fun e w' => e = .returned (.bool (Wd.hasUnB s k)) ∧ w' = w := by
  go_enter Tryd.func54, Tryd.ntmps54
  go_wp2_with (go_at_call 72; refine (un_any _ _ 0 _ (by decide) (by decide)).mono ?_; rintro e w' ⟨rfl, rfl⟩)
  go_ret
  exact ⟨ret_bool (Rc.un_ne s k), rfl⟩
set_option maxHeartbeats 400000 in
theorem chasConv_any (s k : Int) (w : World) :
    Calls Tryd.prog 55 #[.int .i64 s, .int .i64 k] w fun e w' => e = .returned (.bool (Wd.numB s && Wd.numB k)) ∧ w' = w := by
  go_enter Tryd.func55, Tryd.ntmps55
  go_wp2_with (go_at_call 73; refine (conv_any _ _ 0 _ (by decide) (by decide)).mono ?_; rintro e w' ⟨rfl, rfl⟩)
  go_ret
  exact ⟨ret_bool (Rc.conv_ne s k), rfl⟩

end Go.Proofs.YtbghjlamedlchaaDoor

/- The number of zero bits behind a word's lowest one: package math/bits, by its table; cisc.logOf. -/
namespace Go.Proofs.YtbghjlamedlchaaDoor
open Go.RowKit
set_option linter.unusedVariables false

namespace Cc
/-- what package math/bits's table of 64 bytes holds -/
def tzL : List Int := [0, 1, 56, 2, 57, 49, 28, 3, 61, 58, 42, 50, 38, 29, 17, 4, 62, 47, 59, 36, 45, 43, 51, 22, 53, 39, 33, 30, 24, 18, 12, 5, 63, 55, 48, 27, 60, 41, 37, 16, 46, 35, 44, 21, 52, 32, 23, 11, 54, 26, 40, 15, 34, 20, 31, 10, 25, 14, 19, 9, 13, 8, 7, 6]
end Cc
/-- .. and where it lies -/
def TabAt (w : World) : Prop := 1 < w.heap.size ∧ ∀ i, i < 64 → w.cell? ⟨1, i, none⟩ = some (.int .u8 (Cc.tzL.getD i 0))
theorem TabAt.kept {w w' : World} {row : Option Nat} (h : TabAt w) (hg : w.grownBy w' row) (hr : some 1 ≠ row) : TabAt w' := ⟨Nat.lt_of_lt_of_le h.1 hg.size, fun i hi => hg.cell (h.2 i hi) hr⟩
theorem TabAt.below {w w' : World} {N : Nat} (h : TabAt w) (hg : Below N w w') (hN : N = w.heap.size) : TabAt w' := ⟨Nat.lt_of_lt_of_le h.1 hg.size, fun i hi => (hg.cell (p := ⟨1, i, none⟩) (by rw [hN]; exact h.1)).trans (h.2 i hi)⟩

namespace Cc
def tzI (x : Int) : Int := IntKind.u64.wrap (bits BinOp.and IntKind.u64 x (IntKind.u64.wrap (-x)) * 285870213051353865) / 288230376151711744
theorem tzI_rng (x : Int) : 0 ≤ tzI x ∧ tzI x < 64 := by
  unfold tzI
  rw [IntKind.wrap_u64]
  omega
end Cc

set_option maxHeartbeats 800000 in
theorem tz_any (x : Int) (w : World) (hT : TabAt w) (h0 : (x == 0) = false) :
    Calls Tryd.prog 76 #[.int .u64 x] w fun e w' => ∃ L, e = .returned (.int .i64 L) ∧ ((x = 1 → L = 0) ∧ (x = 2 → L = 1) ∧ (x = 4 → L = 2) ∧ (x = 8 → L = 3)) ∧ ∃ n, w' = w.drewN n := by
  have hI := Cc.tzI_rng x
  have hc := hT.2 (Cc.tzI x).toNat (by omega)
  have HV : Hid ((x = 1 → Cc.tzL.getD (Cc.tzI x).toNat 0 = 0) ∧ (x = 2 → Cc.tzL.getD (Cc.tzI x).toNat 0 = 1) ∧ (x = 4 → Cc.tzL.getD (Cc.tzI x).toNat 0 = 2) ∧ (x = 8 → Cc.tzL.getD (Cc.tzI x).toNat 0 = 3)) :=
    ⟨fun h => by subst h; decide, fun h => by subst h; decide, fun h => by subst h; decide, fun h => by subst h; decide⟩
  generalize hL : Cc.tzL.getD (Cc.tzI x).toNat 0 = L at hc HV
  clear hT hL
  unfold Cc.tzI at hI hc
  go_enter Tryd.func76, Tryd.ntmps76
  go_wp2
  go_ret
  refine ⟨_, rfl, ?_, 0, rfl⟩
  have H := HV.out
  refine ⟨fun h => ?_, fun h => ?_, fun h => ?_, fun h => ?_⟩
  · rw [H.1 h]; unfold wrap64; omega
  · rw [H.2.1 h]; unfold wrap64; omega
  · rw [H.2.2.1 h]; unfold wrap64; omega
  · rw [H.2.2.2 h]; unfold wrap64; omega

set_option maxHeartbeats 800000 in
theorem tzu_any (x : Int) (w : World) (hT : TabAt w) (h1 : 0 ≤ x) (h2 : x < 18446744073709551616) (h0 : (x == 0) = false) :
    Calls Tryd.prog 60 #[.int .u64 x] w fun e w' => ∃ L, e = .returned (.int .i64 L) ∧ ((x = 1 → L = 0) ∧ (x = 2 → L = 1) ∧ (x = 4 → L = 2) ∧ (x = 8 → L = 3)) ∧ ∃ n, w' = w.drewN n := by
  have e1 : x % 18446744073709551616 = x := by omega
  go_enter Tryd.func60, Tryd.ntmps60
  go_wp2_with (go_at_call 76; refine (tz_any x _ hT h0).mono ?_; rintro e w' ⟨L, rfl, hL, n, rfl⟩)
  go_ret
  exact ⟨L, rfl, hL, n, rfl⟩

/-- what logOf tells of a Scale: the logarithm of those that there are; of others some number -/
def LogIs (s L : Int) : Prop := (s = 0 → L = 15) ∧ (s = 1 → L = 0) ∧ (s = 2 → L = 1) ∧ (s = 4 → L = 2) ∧ (s = 8 → L = 3)

set_option maxHeartbeats 800000 in
theorem clog_any (s : Int) (w : World) (hT : TabAt w) (h1 : -9223372036854775808 ≤ s) (h2 : s ≤ 9223372036854775807) :
    Calls Tryd.prog 42 #[.int .i64 s] w fun e w' => ∃ L, e = .returned (.int .i64 L) ∧ LogIs s L ∧ ∃ n, w' = w.drewN n := by
  by_cases h0 : s = 0
  · subst h0
    go_enter Tryd.func42, Tryd.ntmps42
    go_wp2
    go_ret
    exact ⟨15, rfl, ⟨fun _ => rfl, by omega, by omega, by omega, by omega⟩, 0, rfl⟩
  · have hb : (s == 0) = false := by rw [beq_eq_false_iff_ne]; exact h0
    have hb2 : (s % 18446744073709551616 == 0) = false := by rw [beq_eq_false_iff_ne]; omega
    have h3 : 0 ≤ s % 18446744073709551616 := by omega
    have h4 : s % 18446744073709551616 < 18446744073709551616 := by omega
    have HI : Hid ((s = 1 → s % 18446744073709551616 = 1) ∧ (s = 2 → s % 18446744073709551616 = 2) ∧ (s = 4 → s % 18446744073709551616 = 4) ∧ (s = 8 → s % 18446744073709551616 = 8)) := ⟨by omega, by omega, by omega, by omega⟩
    go_enter Tryd.func42, Tryd.ntmps42
    go_wp2_with (go_at_call 60; refine (tzu_any _ _ hT h3 h4 hb2).mono ?_; rintro e w' ⟨L, rfl, hL, n, rfl⟩)
    go_ret
    exact ⟨L, rfl, ⟨fun h => absurd h h0, fun h => hL.1 (HI.out.1 h), fun h => hL.2.1 (HI.out.2.1 h), fun h => hL.2.2.1 (HI.out.2.2.1 h), fun h => hL.2.2.2 (HI.out.2.2.2 h)⟩, n, rfl⟩

end Go.Proofs.YtbghjlamedlchaaDoor

/- form.bytes, gantryref3.Encode: contracts. -/
namespace Go.Proofs.YtbghjlamedlchaaDoor
open Go.RowKit
set_option linter.unusedVariables false

namespace Rc
/-- a form's bytes -/
def fb (f : FmV) (i : Nat) : Int :=
  if i = 0 then f.code % 256 else if i = 1 then f.a % 256 else if i = 2 then f.b % 256 else if i = 3 then f.c % 256 else Mm.by8 f.n (i - 4)
theorem bytes8 (g : Nat → Int) : bytesL 8 g = [.int .u8 (g 0), .int .u8 (g 1), .int .u8 (g 2), .int .u8 (g 3), .int .u8 (g 4), .int .u8 (g 5), .int .u8 (g 6), .int .u8 (g 7)] := rfl
end Rc
theorem own8 {w : World} {base : Nat} (hb : base ≤ w.heap.size) (g : Nat → Int) (x0 x1 x2 x3 x4 x5 x6 x7 : Int) (h0 : x0 = g 0) (h1 : x1 = g 1) (h2 : x2 = g 2) (h3 : x3 = g 3) (h4 : x4 = g 4) (h5 : x5 = g 5) (h6 : x6 = g 6) (h7 : x7 = g 7) :
    OwnB (w.alloc (.cells #[.int .u8 x0, .int .u8 x1, .int .u8 x2, .int .u8 x3, .int .u8 x4, .int .u8 x5, .int .u8 x6, .int .u8 x7] 5)) base (.slice (some ⟨w.heap.size, 0, none⟩) 8 8) 8 g := by
  subst h0 h1 h2 h3 h4 h5 h6 h7
  exact World.ownsRow_lit w #[.int .u8 (g 0), .int .u8 (g 1), .int .u8 (g 2), .int .u8 (g 3), .int .u8 (g 4), .int .u8 (g 5), .int .u8 (g 6), .int .u8 (g 7)] 8 hb (by decide) (by rfl)
theorem size_alloc (w : World) (o : Obj) : (w.alloc o).heap.size = w.heap.size + 1 := by simp

end Go.Proofs.YtbghjlamedlchaaDoor

/- risc.formOf: its contract. -/
namespace Go.Proofs.YtbghjlamedlchaaDoor
open Go.RowKit
set_option linter.unusedVariables false

namespace Rc
def fo (g : Nat → Int) : FmV := ⟨g 0, g 1, g 2, g 3, s32 (Mm.ld g 4 4)⟩
theorem s32_rng (u : Int) : -2147483648 ≤ s32 u ∧ s32 u < 2147483648 := by unfold s32; omega
theorem u32_ld {g : Nat → Int} (hg : Mm.Fit g) : bits .or .u32 (bits .or .u32 (bits .or .u32 (g 4 % 4294967296) (g 5 % 4294967296 * 256 % 4294967296)) (g 6 % 4294967296 * 65536 % 4294967296)) (g 7 % 4294967296 * 16777216 % 4294967296) = Mm.ld g 4 4 := by
  have h4 := hg 4
  have h5 := hg 5
  have h6 := hg 6
  have h7 := hg 7
  have e : Mm.ld g 4 4 = g 4 + g 5 * 2 ^ 8 + g 6 * 2 ^ 16 + g 7 * 2 ^ 24 := by
    show 0 + g 4 * 1 + g 5 * 256 + g 6 * 65536 + g 7 * 16777216 = _
    omega
  rw [e, show g 4 % 4294967296 = g 4 by omega, show g 5 % 4294967296 * 256 % 4294967296 = g 5 * 2 ^ 8 by omega, show g 6 % 4294967296 * 65536 % 4294967296 = g 6 * 2 ^ 16 by omega, show g 7 % 4294967296 * 16777216 % 4294967296 = g 7 * 2 ^ 24 by omega]
  have b : ((2 : Int) ^ IntKind.u32.bits) = 4294967296 := rfl
  have o1 : bits .or .u32 (g 4) (g 5 * 2 ^ 8) = g 4 + g 5 * 2 ^ 8 := Mm.or_high rfl (by omega) (by omega) (by omega) (by omega)
  have o2 : bits .or .u32 (g 4 + g 5 * 2 ^ 8) (g 6 * 2 ^ 16) = g 4 + g 5 * 2 ^ 8 + g 6 * 2 ^ 16 := Mm.or_high rfl (by omega) (by omega) (by omega) (by omega)
  have o3 : bits .or .u32 (g 4 + g 5 * 2 ^ 8 + g 6 * 2 ^ 16) (g 7 * 2 ^ 24) = g 4 + g 5 * 2 ^ 8 + g 6 * 2 ^ 16 + g 7 * 2 ^ 24 := Mm.or_high rfl (by omega) (by omega) (by omega) (by omega)
  rw [o1, o2, o3]
end Rc

theorem wrap64_byte {x : Int} (h1 : 0 ≤ x) (h2 : x < 256) : wrap64 x = x := by unfold wrap64; omega
theorem wrap_s32 (x : Int) : wrap64 (wrap32 x) = Rc.s32 x := by unfold wrap64 wrap32 Rc.s32; omega

end Go.Proofs.YtbghjlamedlchaaDoor

/- What eight bytes are told to be: plain; and how worlds grow. -/
namespace Go.Proofs.YtbghjlamedlchaaDoor
open Go.RowKit
set_option linter.unusedVariables false

theorem ga {w w1 : World} (h : w.grownBy w1 none) (o : Obj) : w.grownBy (w1.alloc o) none := grown_trans h (World.grownBy_alloc _ _ _)
theorem gs {w w1 : World} (h : w.grownBy w1 none) {b : Nat} (i : Nat) (v : Value) (hb : w.heap.size ≤ b) : w.grownBy (w1.setCell ⟨b, i, none⟩ v) none := grown_two h (grown_setCell _ _ _ _) hb
theorem gn {w w1 : World} (h : w.grownBy w1 none) (n : Nat) : w.grownBy (w1.drewN n) none := grown_drewN h n
def zeroI : InV := ⟨0, 0, 0, 0, 0, 0, 0, 0, 0⟩
namespace Rc
/-- what eight bytes are told to be -/
def dv (g : Nat → Int) : InV := if okB g then rd g else zeroI
def de (g : Nat → Int) : Int := if okB g then 0 else 30
theorem dv_ok {g : Nat → Int} (h : okB g = true) : dv g = rd g := by unfold dv; rw [if_pos h]
theorem de_ok {g : Nat → Int} (h : okB g = true) : de g = 0 := by unfold de; rw [if_pos h]
theorem dv_no {g : Nat → Int} (h : okB g = false) : dv g = zeroI := by unfold dv; rw [if_neg (by simp [h])]
theorem de_no {g : Nat → Int} (h : okB g = false) : de g = 30 := by unfold de; rw [if_neg (by simp [h])]
theorem ok_wide {g : Nat → Int} (h : g 0 = 4 ∨ g 0 = 7 ∨ g 0 = 8) (hN : s32 (Mm.ld g 4 4) < 0 ∨ 65536 ≤ s32 (Mm.ld g 4 4)) : okB g = false := by
  unfold okB wideB
  have e : ((g 0 == 4 || g 0 == 7 || g 0 == 8) && (decide (s32 (Mm.ld g 4 4) < 0) || decide (65536 ≤ s32 (Mm.ld g 4 4)))) = true := by
    simp only [Bool.and_eq_true, Bool.or_eq_true, beq_iff_eq, decide_eq_true_eq]; omega
  rw [e]; rfl
theorem ok_in {g : Nat → Int} (hN : 0 ≤ s32 (Mm.ld g 4 4) ∧ s32 (Mm.ld g 4 4) < 65536) : okB g = mayB (rd g) := by
  unfold okB wideB
  have e : ((g 0 == 4 || g 0 == 7 || g 0 == 8) && (decide (s32 (Mm.ld g 4 4) < 0) || decide (65536 ≤ s32 (Mm.ld g 4 4)))) = false := by
    rw [Bool.and_eq_false_iff]; right; simp; omega
  rw [e]; rfl
theorem ok_other {g : Nat → Int} (h : ¬ (g 0 = 4 ∨ g 0 = 7 ∨ g 0 = 8)) : okB g = mayB (rd g) := by
  unfold okB wideB
  have e : ((g 0 == 4 || g 0 == 7 || g 0 == 8) && (decide (s32 (Mm.ld g 4 4) < 0) || decide (65536 ≤ s32 (Mm.ld g 4 4)))) = false := by
    rw [Bool.and_eq_false_iff]; left; simp; omega
  rw [e]; rfl
theorem rd_1 {g : Nat → Int} (h : g 0 = 4 ∨ g 0 = 7 ∨ g 0 = 8) : rd g = ⟨g 0, g 1, g 2, g 3, s32 (Mm.ld g 4 4) % 256, s32 (Mm.ld g 4 4) / 256, 0, 0, 0⟩ := by unfold rd; rw [if_pos h]
theorem rd_2 {g : Nat → Int} (h : g 0 = 11 ∨ g 0 = 13) : rd g = ⟨g 0, g 1, g 2, 0, g 3, 0, 0, s32 (Mm.ld g 4 4), 0⟩ := by unfold rd; rw [if_neg (by omega), if_pos h]
theorem rd_3 {g : Nat → Int} (h : ¬ (g 0 = 4 ∨ g 0 = 7 ∨ g 0 = 8)) (h' : ¬ (g 0 = 11 ∨ g 0 = 13)) : rd g = ⟨g 0, g 1, g 2, g 3, 0, 0, 0, s32 (Mm.ld g 4 4), 0⟩ := by unfold rd; rw [if_neg h, if_neg h']
end Rc


end Go.Proofs.YtbghjlamedlchaaDoor

/- An instruction that lies in a block of its own. -/
namespace Go.Proofs.YtbghjlamedlchaaDoor
open Go.RowKit
set_option linter.unusedVariables false

/-- the nine cells of block B hold the instruction v -/
structure InstAt (W : World) (B : Nat) (v : InV) : Prop where
  c0 : W.cell? ⟨B, 0, none⟩ = some (.int .i64 v.op)
  c1 : W.cell? ⟨B, 1, none⟩ = some (.int .i64 v.a)
  c2 : W.cell? ⟨B, 2, none⟩ = some (.int .i64 v.b)
  c3 : W.cell? ⟨B, 3, none⟩ = some (.int .i64 v.c)
  c4 : W.cell? ⟨B, 4, none⟩ = some (.int .i64 v.k)
  c5 : W.cell? ⟨B, 5, none⟩ = some (.int .i64 v.sub)
  c6 : W.cell? ⟨B, 6, none⟩ = some (.int .i64 v.scale)
  c7 : W.cell? ⟨B, 7, none⟩ = some (.int .i64 v.imm)
  c8 : W.cell? ⟨B, 8, none⟩ = some (.int .i64 v.label)
  fz : ∀ k, W.frozen? ⟨B, k, none⟩ = false

theorem InstAt.lt {W : World} {B : Nat} {v : InV} (h : InstAt W B v) : B < W.heap.size := World.block_lt_of_cell? _ _ h.c0
theorem InstAt.new (W : World) (v : InV) : InstAt (W.alloc (.cells #[.int .i64 v.op, .int .i64 v.a, .int .i64 v.b, .int .i64 v.c, .int .i64 v.k, .int .i64 v.sub, .int .i64 v.scale, .int .i64 v.imm, .int .i64 v.label] 28)) W.heap.size v := by
  constructor <;> intros <;> simp
theorem InstAt.kept {W W' : World} {B : Nat} {v : InV} {row : Option Nat} (h : InstAt W B v) (hg : W.grownBy W' row) (hne : some B ≠ row) : InstAt W' B v :=
  ⟨hg.cell h.c0 hne, hg.cell h.c1 hne, hg.cell h.c2 hne, hg.cell h.c3 hne, hg.cell h.c4 hne, hg.cell h.c5 hne, hg.cell h.c6 hne, hg.cell h.c7 hne, hg.cell h.c8 hne, fun k => (hg.frozen_far ⟨B, k, none⟩ h.lt hne).trans (h.fz k)⟩
theorem InstAt.below {W W' : World} {B N : Nat} {v : InV} (h : InstAt W B v) (hg : Below N W W') (hb : B < N) : InstAt W' B v :=
  ⟨(hg.cell (p := ⟨B, 0, none⟩) hb).trans h.c0, (hg.cell (p := ⟨B, 1, none⟩) hb).trans h.c1, (hg.cell (p := ⟨B, 2, none⟩) hb).trans h.c2, (hg.cell (p := ⟨B, 3, none⟩) hb).trans h.c3, (hg.cell (p := ⟨B, 4, none⟩) hb).trans h.c4, (hg.cell (p := ⟨B, 5, none⟩) hb).trans h.c5, (hg.cell (p := ⟨B, 6, none⟩) hb).trans h.c6, (hg.cell (p := ⟨B, 7, none⟩) hb).trans h.c7, (hg.cell (p := ⟨B, 8, none⟩) hb).trans h.c8, fun k => (hg.frozen (p := ⟨B, k, none⟩) hb).trans (h.fz k)⟩
theorem InstAt.drewN {W : World} {B : Nat} {v : InV} (h : InstAt W B v) (n : Nat) : InstAt (W.drewN n) B v := h.kept (grown_drewN (World.grownBy.refl _ none) n) (by simp)
theorem InstAt.set3 {W : World} {B : Nat} {v : InV} (h : InstAt W B v) (x : Int) : InstAt (W.setCell ⟨B, 3, none⟩ (.int .i64 x)) B { v with c := x } :=
  ⟨(World.cell?_setCell_other _ _ _ _ (by simp)).trans h.c0, (World.cell?_setCell_other _ _ _ _ (by simp)).trans h.c1, (World.cell?_setCell_other _ _ _ _ (by simp)).trans h.c2, World.cell?_setCell_same _ _ _ h.c3, (World.cell?_setCell_other _ _ _ _ (by simp)).trans h.c4, (World.cell?_setCell_other _ _ _ _ (by simp)).trans h.c5, (World.cell?_setCell_other _ _ _ _ (by simp)).trans h.c6, (World.cell?_setCell_other _ _ _ _ (by simp)).trans h.c7, (World.cell?_setCell_other _ _ _ _ (by simp)).trans h.c8, fun j => (World.frozen?_setCell _ _ _ _).trans (h.fz j)⟩
theorem InstAt.set4 {W : World} {B : Nat} {v : InV} (h : InstAt W B v) (x : Int) : InstAt (W.setCell ⟨B, 4, none⟩ (.int .i64 x)) B { v with k := x } :=
  ⟨(World.cell?_setCell_other _ _ _ _ (by simp)).trans h.c0, (World.cell?_setCell_other _ _ _ _ (by simp)).trans h.c1, (World.cell?_setCell_other _ _ _ _ (by simp)).trans h.c2, (World.cell?_setCell_other _ _ _ _ (by simp)).trans h.c3, World.cell?_setCell_same _ _ _ h.c4, (World.cell?_setCell_other _ _ _ _ (by simp)).trans h.c5, (World.cell?_setCell_other _ _ _ _ (by simp)).trans h.c6, (World.cell?_setCell_other _ _ _ _ (by simp)).trans h.c7, (World.cell?_setCell_other _ _ _ _ (by simp)).trans h.c8, fun j => (World.frozen?_setCell _ _ _ _).trans (h.fz j)⟩
theorem InstAt.set5 {W : World} {B : Nat} {v : InV} (h : InstAt W B v) (x : Int) : InstAt (W.setCell ⟨B, 5, none⟩ (.int .i64 x)) B { v with sub := x } :=
  ⟨(World.cell?_setCell_other _ _ _ _ (by simp)).trans h.c0, (World.cell?_setCell_other _ _ _ _ (by simp)).trans h.c1, (World.cell?_setCell_other _ _ _ _ (by simp)).trans h.c2, (World.cell?_setCell_other _ _ _ _ (by simp)).trans h.c3, (World.cell?_setCell_other _ _ _ _ (by simp)).trans h.c4, World.cell?_setCell_same _ _ _ h.c5, (World.cell?_setCell_other _ _ _ _ (by simp)).trans h.c6, (World.cell?_setCell_other _ _ _ _ (by simp)).trans h.c7, (World.cell?_setCell_other _ _ _ _ (by simp)).trans h.c8, fun j => (World.frozen?_setCell _ _ _ _).trans (h.fz j)⟩
theorem InstAt.set7 {W : World} {B : Nat} {v : InV} (h : InstAt W B v) (x : Int) : InstAt (W.setCell ⟨B, 7, none⟩ (.int .i64 x)) B { v with imm := x } :=
  ⟨(World.cell?_setCell_other _ _ _ _ (by simp)).trans h.c0, (World.cell?_setCell_other _ _ _ _ (by simp)).trans h.c1, (World.cell?_setCell_other _ _ _ _ (by simp)).trans h.c2, (World.cell?_setCell_other _ _ _ _ (by simp)).trans h.c3, (World.cell?_setCell_other _ _ _ _ (by simp)).trans h.c4, (World.cell?_setCell_other _ _ _ _ (by simp)).trans h.c5, (World.cell?_setCell_other _ _ _ _ (by simp)).trans h.c6, World.cell?_setCell_same _ _ _ h.c7, (World.cell?_setCell_other _ _ _ _ (by simp)).trans h.c8, fun j => (World.frozen?_setCell _ _ _ _).trans (h.fz j)⟩

end Go.Proofs.YtbghjlamedlchaaDoor

/- Instructions that came in: a slice of them, opened; bytes of one's own compared. -/
namespace Go.Proofs.YtbghjlamedlchaaDoor
open Go.RowKit
set_option linter.unusedVariables false

/-- the nine cells from o on hold the instruction v -/
structure InAt (w : World) (b o : Nat) (v : InV) : Prop where
  c0 : w.cell? ⟨b, o, none⟩ = some (.int .i64 v.op)
  c1 : w.cell? ⟨b, o + 1, none⟩ = some (.int .i64 v.a)
  c2 : w.cell? ⟨b, o + 2, none⟩ = some (.int .i64 v.b)
  c3 : w.cell? ⟨b, o + 3, none⟩ = some (.int .i64 v.c)
  c4 : w.cell? ⟨b, o + 4, none⟩ = some (.int .i64 v.k)
  c5 : w.cell? ⟨b, o + 5, none⟩ = some (.int .i64 v.sub)
  c6 : w.cell? ⟨b, o + 6, none⟩ = some (.int .i64 v.scale)
  c7 : w.cell? ⟨b, o + 7, none⟩ = some (.int .i64 v.imm)
  c8 : w.cell? ⟨b, o + 8, none⟩ = some (.int .i64 v.label)

structure InFit (v : InV) : Prop where
  i1 : -9223372036854775808 ≤ v.imm
  i2 : v.imm ≤ 9223372036854775807

theorem InAt.kept {w w' : World} {b o : Nat} {v : InV} {row : Option Nat} (h : InAt w b o v) (hg : w.grownBy w' row) (hne : some b ≠ row) : InAt w' b o v :=
  ⟨hg.cell h.c0 hne, hg.cell h.c1 hne, hg.cell h.c2 hne, hg.cell h.c3 hne, hg.cell h.c4 hne, hg.cell h.c5 hne, hg.cell h.c6 hne, hg.cell h.c7 hne, hg.cell h.c8 hne⟩
theorem InAt.below {w w' : World} {b o N : Nat} {v : InV} (h : InAt w b o v) (hg : Below N w w') (hb : b < N) : InAt w' b o v :=
  ⟨(hg.cell (p := ⟨b, o, none⟩) hb).trans h.c0, (hg.cell (p := ⟨b, o + 1, none⟩) hb).trans h.c1, (hg.cell (p := ⟨b, o + 2, none⟩) hb).trans h.c2, (hg.cell (p := ⟨b, o + 3, none⟩) hb).trans h.c3, (hg.cell (p := ⟨b, o + 4, none⟩) hb).trans h.c4, (hg.cell (p := ⟨b, o + 5, none⟩) hb).trans h.c5, (hg.cell (p := ⟨b, o + 6, none⟩) hb).trans h.c6, (hg.cell (p := ⟨b, o + 7, none⟩) hb).trans h.c7, (hg.cell (p := ⟨b, o + 8, none⟩) hb).trans h.c8⟩

def IsInsts (w : World) (a : Option Addr) (len cap : Nat) (V : Nat → InV) : Prop :=
  len ≤ cap ∧ cap ≤ maxLen ∧ (len = 0 ∨ ∃ b off, a = some ⟨b, off, none⟩ ∧ b < w.heap.size ∧ ∀ i, i < len → InAt w b (off + i * 9) (V i) ∧ InFit (V i))

/-- the slice that came in, opened -/
theorem open_insts {H : Type} {enc : TypeId × Value → H} {W : World} {spare : Nat → Bool} {held : Bool} {fuel : Nat} {cs : List Value} {x : DataW H × List MemPlace}
    (h : DataW.trod enc Tryd.prog W 0 spare held fuel 22 cs = some x) : ∃ a len cap V, cs = [.slice a len cap] ∧ IsInsts W a len cap V := by
  rcases Go.Deep.open_slice Tryd.underlying22 h with ⟨hcs, _⟩ | ⟨a', len, cap, m, n, D, Pl, hcs, hb, hl, hm, hmm, _, hx⟩
  · exact ⟨none, 0, 0, fun _ => zeroI, hcs, Nat.le_refl _, Nat.zero_le _, .inl rfl⟩
  · have hlm : len ≤ m := by rw [hmm]; split <;> omega
    by_cases h0 : len = 0
    · exact ⟨_, _, _, fun _ => zeroI, hcs, hl, hm, .inl h0⟩
    have ce : Tryd.prog.cellsOf 28 = 9 := by kernel_rfl
    have c3 : Tryd.prog.cellsOf 3 = 1 := by kernel_rfl
    have c2 : Tryd.prog.cellsOf 2 = 1 := by kernel_rfl
    obtain ⟨b, off, spot⟩ := a'
    have h00 : spot = none ∧ b < W.heap.size := by
      obtain ⟨cs', h1, h2⟩ := hx 0 (by omega)
      rw [ce] at h1
      obtain ⟨_, hlen, hcell⟩ := World.cells?_some h1
      match cs', hlen with
      | [v0, v1, v2, v3, v4, v5, v6, v7, v8], _ =>
        have k0 := hcell 0 (by omega)
        have k0 : W.cell? ⟨b, off, spot⟩ = some v0 := by simpa [Addr.add] using k0
        exact ⟨World.cell?_spot k0, World.block_lt_of_cell? _ _ k0⟩
    obtain ⟨rfl, hlt⟩ := h00
    have each : ∀ i, i < len → ∃ v : InV, InAt W b (off + i * 9) v ∧ InFit v := by
      intro i hi
      obtain ⟨cs', h1, h2⟩ := hx i (by omega)
      rw [ce] at h1
      obtain ⟨_, hlen, hcell⟩ := World.cells?_some h1
      obtain ⟨xs, kk, hk, hxy, _, hxl, hf⟩ := DataW.trod_struct Tryd.underlying28 h2
      match xs, hxl, cs', hlen with
      | [z0, z1, z2, z3, z4, z5, z6, z7, z8], _, [v0, v1, v2, v3, v4, v5, v6, v7, v8], _ =>
        have g0 := hf 0 _ rfl
        have g1 := hf 1 _ rfl
        have g2 := hf 2 _ rfl
        have g3 := hf 3 _ rfl
        have g4 := hf 4 _ rfl
        have g5 := hf 5 _ rfl
        have g6 := hf 6 _ rfl
        have g7 := hf 7 _ rfl
        have g8 := hf 8 _ rfl
        simp [c3, c2] at g0 g1 g2 g3 g4 g5 g6 g7 g8
        obtain ⟨n0, e0, _, f0⟩ := DataW.trod_int Tryd.underlying3 g0
        obtain ⟨n1, e1, _, f1⟩ := DataW.trod_int Tryd.underlying3 g1
        obtain ⟨n2, e2, _, f2⟩ := DataW.trod_int Tryd.underlying3 g2
        obtain ⟨n3, e3, _, f3⟩ := DataW.trod_int Tryd.underlying3 g3
        obtain ⟨n4, e4, _, f4⟩ := DataW.trod_int Tryd.underlying3 g4
        obtain ⟨n5, e5, _, f5⟩ := DataW.trod_int Tryd.underlying3 g5
        obtain ⟨n6, e6, _, f6⟩ := DataW.trod_int Tryd.underlying3 g6
        obtain ⟨n7, e7, _, f7⟩ := DataW.trod_int Tryd.underlying2 g7
        obtain ⟨n8, e8, _, f8⟩ := DataW.trod_int Tryd.underlying3 g8
        simp at e0 e1 e2 e3 e4 e5 e6 e7 e8
        subst e0 e1 e2 e3 e4 e5 e6 e7 e8
        have k0 := hcell 0 (by omega)
        have k1 := hcell 1 (by omega)
        have k2 := hcell 2 (by omega)
        have k3 := hcell 3 (by omega)
        have k4 := hcell 4 (by omega)
        have k5 := hcell 5 (by omega)
        have k6 := hcell 6 (by omega)
        have k7 := hcell 7 (by omega)
        have k8 := hcell 8 (by omega)
        rw [add_none, add_none] at k0 k1 k2 k3 k4 k5 k6 k7 k8
        have f7 := bounds_i64 f7
        exact ⟨⟨n0, n1, n2, n3, n4, n5, n6, n7, n8⟩, ⟨k0, k1, k2, k3, k4, k5, k6, k7, k8⟩, by constructor <;> dsimp only <;> omega⟩
    have : ∃ V : Nat → InV, ∀ i, i < len → InAt W b (off + i * 9) (V i) ∧ InFit (V i) :=
      ⟨fun i => if hi : i < len then Classical.choose (each i hi) else zeroI, fun i hi => by simp only [dif_pos hi]; exact Classical.choose_spec (each i hi)⟩
    obtain ⟨V, hV⟩ := this
    exact ⟨_, _, _, V, hcs, hl, hm, .inr ⟨b, off, rfl, hlt, hV⟩⟩

theorem eq_own {w : World} {b1 b2 T1 T2 n k1 k2 : Nat} {g g' : Nat → Int} (hn : (n : Int) ≤ 140737488351232) (h1 : OwnB w b1 (.slice (some ⟨T1, 0, none⟩) n k1) n g) (h2 : OwnB w b2 (.slice (some ⟨T2, 0, none⟩) n k2) n g') :
    Calls Tryd.prog 10 #[.slice (some ⟨T1, 0, none⟩) n k1, .slice (some ⟨T2, 0, none⟩) n k2] w fun e w' => e = .returned (.bool (eqF n g g')) ∧ ∃ d, w' = w.drewN d :=
  eq_gen n k1 k2 T1 0 T2 0 g g' w hn (fun i hi => by rw [Nat.zero_add]; exact h1.cellAt hi) (fun i hi => by rw [Nat.zero_add]; exact h2.cellAt hi)
theorem eq_own_true {w : World} {b1 b2 T1 T2 n k1 k2 : Nat} {g g' : Nat → Int} (hn : (n : Int) ≤ 140737488351232) (h1 : OwnB w b1 (.slice (some ⟨T1, 0, none⟩) n k1) n g) (h2 : OwnB w b2 (.slice (some ⟨T2, 0, none⟩) n k2) n g') (e : ∀ i, i < n → g i = g' i) :
    Calls Tryd.prog 10 #[.slice (some ⟨T1, 0, none⟩) n k1, .slice (some ⟨T2, 0, none⟩) n k2] w fun e w' => e = .returned (.bool true) ∧ ∃ d, w' = w.drewN d := by
  rw [← eqF_true e]; exact eq_own hn h1 h2

end Go.Proofs.YtbghjlamedlchaaDoor

/- Rows of bytes that came in: opened. -/
namespace Go.Proofs.YtbghjlamedlchaaDoor
open Go.RowKit
set_option linter.unusedVariables false

/-- a slice of bytes that came in -/
structure BsIn (W : World) (ao : Option Addr) (len cap : Nat) (g : Nat → Int) : Prop where
  nil : ao = none → len = 0 ∧ cap = 0
  le : len ≤ cap
  max : cap ≤ maxLen
  fit : Mm.Fit g
  bs : Bs W ao len g
  lt : ∀ b off, 0 < len → ao = some ⟨b, off, none⟩ → b < W.heap.size

theorem open_bytes {H : Type} {enc : TypeId × Value → H} {W : World} {spare : Nat → Bool} {held : Bool} {fuel : Nat} {cs : List Value} {x : DataW H × List MemPlace}
    (h : DataW.trod enc Tryd.prog W 0 spare held fuel 23 cs = some x) : ∃ ao len cap g, cs = [.slice ao len cap] ∧ BsIn W ao len cap g := by
  have ce : Tryd.prog.cellsOf 5 = 1 := by kernel_rfl
  rcases Go.Deep.open_slice1 Tryd.underlying23 ce h with ⟨hcs, _⟩ | ⟨a, len, cap, m, n, V, D, Pl, hcs, hb, hl, hm, hmm, _, hx⟩
  · exact ⟨none, 0, 0, fun _ => 0, hcs, ⟨fun _ => ⟨rfl, rfl⟩, Nat.le_refl _, Nat.zero_le _, fun _ => by omega, .inl rfl, fun _ _ h => by omega⟩⟩
  · have hlm : len ≤ m := by rw [hmm]; split <;> omega
    have each : ∀ i, i < len → ∃ z : Int, V i = .int .u8 z ∧ 0 ≤ z ∧ z < 256 := by
      intro i hi
      obtain ⟨_, h2⟩ := hx i (by omega)
      obtain ⟨z, e, _, f⟩ := DataW.trod_int Tryd.underlying5 h2
      simp at e
      have f := bounds_u8 f
      exact ⟨z, e, by omega, by omega⟩
    by_cases h0 : len = 0
    · subst h0
      exact ⟨some a, 0, cap, fun _ => 0, hcs, ⟨(fun h => by cases h), hl, hm, fun _ => by omega, .inl rfl, fun _ _ h => by omega⟩⟩
    obtain ⟨b, off, spot⟩ := a
    obtain ⟨c0, _⟩ := hx 0 (by omega)
    have c0 : W.cell? ⟨b, off, spot⟩ = some (V 0) := by simpa [Addr.add] using c0
    obtain rfl : spot = none := World.cell?_spot c0
    have hlt := World.block_lt_of_cell? _ _ c0
    refine ⟨some ⟨b, off, none⟩, len, cap, fun i => if h : i < len then Classical.choose (each i h) else 0, hcs, ⟨(fun h => by cases h), hl, hm, fun i => ?_, .inr ⟨b, off, rfl, fun i hi => ?_⟩, fun b' off' _ e => ?_⟩⟩
    · by_cases h : i < len
      · simp only [dif_pos h]; exact (Classical.choose_spec (each i h)).2
      · simp only [dif_neg h]; omega
    · simp only [dif_pos hi]
      rw [← (Classical.choose_spec (each i hi)).1, ← add_none]
      exact (hx i (by omega)).1
    · injection e with e
      injection e with e
      subst e
      exact hlt

theorem BsIn.below {W W' : World} {ao : Option Addr} {n cap N : Nat} {g : Nat → Int} (h : BsIn W ao n cap g) (hg : Below N W W') (hN : N = W.heap.size) : BsIn W' ao n cap g := by
  refine ⟨h.nil, h.le, h.max, h.fit, ?_, fun b off h0 e => Nat.lt_of_lt_of_le (h.lt b off h0 e) hg.size⟩
  rcases h.bs with h0 | ⟨b, off, e, hc⟩
  · exact .inl h0
  · by_cases h0 : n = 0
    · exact .inl h0
    · exact .inr ⟨b, off, e, fun i hi => (hg.cell (p := ⟨b, off + i, none⟩) (by rw [hN]; exact h.lt b off (by omega) e)).trans (hc i hi)⟩
theorem BsIn.kept {W W' : World} {ao : Option Addr} {n cap : Nat} {g : Nat → Int} (h : BsIn W ao n cap g) (hg : W.grownBy W' none) : BsIn W' ao n cap g := by
  refine ⟨h.nil, h.le, h.max, h.fit, ?_, fun b off h0 e => Nat.lt_of_lt_of_le (h.lt b off h0 e) hg.size⟩
  rcases h.bs with h0 | ⟨b, off, e, hc⟩
  · exact .inl h0
  · exact .inr ⟨b, off, e, fun i hi => hg.cell (hc i hi) (by simp)⟩

theorem own_slice {w : World} {base n : Nat} {x : Value} {g : Nat → Int} (h : OwnB w base x n g) (hn : 0 < n) : ∃ T cap, x = .slice (some ⟨T, 0, none⟩) n cap ∧ n ≤ cap ∧ base ≤ T := by
  rcases h.2 with ⟨_, h0⟩ | ⟨T, cap, cur, rfl, hb, _, hc, _⟩
  · omega
  · exact ⟨T, cap, rfl, hc, hb⟩

/-- rows of bytes -/
structure RowV where
  ao : Option Addr
  n : Nat
  cap : Nat
  g : Nat → Int

def IsRowsB (w : World) (a : Option Addr) (len cap : Nat) (V : Nat → RowV) : Prop :=
  len ≤ cap ∧ cap ≤ maxLen ∧ (len = 0 ∨ ∃ b off, a = some ⟨b, off, none⟩ ∧ b < w.heap.size ∧ ∀ i, i < len → w.cell? ⟨b, off + i, none⟩ = some (.slice (V i).ao (V i).n (V i).cap) ∧ BsIn w (V i).ao (V i).n (V i).cap (V i).g)

theorem open_rows {H : Type} {enc : TypeId × Value → H} {W : World} {spare : Nat → Bool} {held : Bool} {fuel : Nat} {cs : List Value} {x : DataW H × List MemPlace}
    (h : DataW.trod enc Tryd.prog W 0 spare held fuel 36 cs = some x) : ∃ a len cap V, cs = [.slice a len cap] ∧ IsRowsB W a len cap V := by
  have ce : Tryd.prog.cellsOf 23 = 1 := by kernel_rfl
  rcases Go.Deep.open_slice1 Tryd.underlying36 ce h with ⟨hcs, _⟩ | ⟨a, len, cap, m, n, U, D, Pl, hcs, hb, hl, hm, hmm, _, hx⟩
  · exact ⟨none, 0, 0, fun _ => ⟨none, 0, 0, fun _ => 0⟩, hcs, Nat.le_refl _, Nat.zero_le _, .inl rfl⟩
  · have hlm : len ≤ m := by rw [hmm]; split <;> omega
    by_cases h0 : len = 0
    · exact ⟨_, _, _, fun _ => ⟨none, 0, 0, fun _ => 0⟩, hcs, hl, hm, .inl h0⟩
    have each : ∀ i, i < len → ∃ v : RowV, U i = .slice v.ao v.n v.cap ∧ BsIn W v.ao v.n v.cap v.g := by
      intro i hi
      obtain ⟨_, h2⟩ := hx i (by omega)
      obtain ⟨ao, l, c, g, e, hbs⟩ := open_bytes h2
      simp at e
      exact ⟨⟨ao, l, c, g⟩, e, hbs⟩
    obtain ⟨b, off, spot⟩ := a
    obtain ⟨c0, _⟩ := hx 0 (by omega)
    have c0 : W.cell? ⟨b, off, spot⟩ = some (U 0) := by simpa [Addr.add] using c0
    obtain rfl : spot = none := World.cell?_spot c0
    have hlt := World.block_lt_of_cell? _ _ c0
    refine ⟨some ⟨b, off, none⟩, len, cap, fun i => if h : i < len then Classical.choose (each i h) else ⟨none, 0, 0, fun _ => 0⟩, hcs, hl, hm, .inr ⟨b, off, rfl, hlt, fun i hi => ?_⟩⟩
    simp only [dif_pos hi]
    have sp := Classical.choose_spec (each i hi)
    refine ⟨?_, sp.2⟩
    rw [← sp.1, ← add_none]
    exact (hx i (by omega)).1

theorem Bs.kept {w w' : World} {ao : Option Addr} {n : Nat} {g : Nat → Int} (h : Bs w ao n g) (hg : w.grownBy w' none) : Bs w' ao n g := by
  rcases h with h | ⟨b, off, e, hc⟩
  · exact .inl h
  · exact .inr ⟨b, off, e, fun i hi => hg.cell (hc i hi) (by simp)⟩

end Go.Proofs.YtbghjlamedlchaaDoor
