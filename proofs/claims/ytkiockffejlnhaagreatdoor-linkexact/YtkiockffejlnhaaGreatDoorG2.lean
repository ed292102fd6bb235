/- Contracts and plain facts that the walks share. -/
import Derived.Test.YtkiockffejlnhaaGreatDoorG1
import Derived.Laws.CopyOwn
import Derived.Laws.AppendOwnNone
import Derived.Deep.QuietTactic
import Derived.BigQuiet
import Derived.Deep.AppendLies
import Derived.Deep.Slices
import Derived.OpenShut
import Derived.Deep.Onto
namespace Go.Proofs.YtkiockffejlnhaaGreatDoor
open Go.RowKit
set_option linter.unusedVariables false
def bytesL (n : Nat) (g : Nat → Int) : List Value := (List.range n).map fun i => .int .u8 (g i)
theorem bytesL_len (n : Nat) (g : Nat → Int) : (bytesL n g).length = n := by simp [bytesL]
theorem bytesL_get {n : Nat} {g : Nat → Int} {j : Nat} {v : Value} (h : (bytesL n g)[j]? = some v) : j < n ∧ v = .int .u8 (g j) := by
 have hj : j < n := by
  rw [← bytesL_len n g]
  exact (List.getElem?_eq_some_iff.1 h).1
 refine ⟨hj, ?_⟩
 simp [bytesL, hj] at h
 exact h.symm
theorem bytesL_at {n : Nat} (g : Nat → Int) {j : Nat} (h : j < n) : (bytesL n g)[j]? = some (.int .u8 (g j)) := by simp [bytesL, h]
theorem bytesL_one (n : Nat) (g : Nat → Int) : ∀ v ∈ bytesL n g, v.oneCell' = true := by
 intro v hv
 obtain ⟨i, _, rfl⟩ := List.mem_map.1 hv
 rfl
theorem add_none (b off n : Nat) : (⟨b, off, none⟩ : Addr).add n = ⟨b, off + n, none⟩ := by
 unfold Addr.add; split <;> simp_all
def OwnB (w : World) (base : Nat) (v : Value) (n : Nat) (g : Nat → Int) : Prop := w.ownsRow base 5 1 v n (bytesL n g)
theorem OwnB.kept {w w' : World} {base n : Nat} {v : Value} {g : Nat → Int} {row : Option Nat} (h : OwnB w base v n g) (hg : w.grownBy w' row) (hne : v.ownBlock = none ∨ v.ownBlock ≠ row) : OwnB w' base v n g := World.ownsRow.kept h hg hne
theorem OwnB.lt {w : World} {base n : Nat} {v : Value} {g : Nat → Int} (h : OwnB w base v n g) : ∀ k, v.ownBlock = some k → base ≤ k ∧ k < w.heap.size := World.ownsRow.lt h
theorem OwnB.shape {w : World} {base n : Nat} {v : Value} {g : Nat → Int} (h : OwnB w base v n g) : ∃ ao cap, v = .slice ao n cap ∧ (ao = none → n = 0 ∧ cap = 0) ∧ n ≤ cap ∧ cap ≤ maxLen ∧ Bs w ao n g := by
 obtain ⟨hl, h⟩ := h
 rcases h with ⟨rfl, rfl⟩ | ⟨b, cap, cur, rfl, hb, hh, hn, hc, hs, ht⟩
 ·exact ⟨none, 0, rfl, fun _ => ⟨rfl, rfl⟩, Nat.le_refl _, by unfold maxLen; omega, .inl rfl⟩
 ·refine ⟨some ⟨b, 0, none⟩, cap, rfl, (fun h => by cases h), hn, hc, .inr ⟨b, 0, rfl, fun i hi => ?_⟩⟩
  have h1 : (bytesL n g)[i]? = some (.int .u8 (g i)) := bytesL_at g hi
  rw [← ht, List.getElem?_take, if_pos (by omega)] at h1
  simp only [World.cell?, hh]
  simpa using h1
end Go.Proofs.YtkiockffejlnhaaGreatDoor
namespace Go.Proofs.YtkiockffejlnhaaGreatDoor
set_option maxRecDepth 100000
set_option maxHeartbeats 32000000
open Go.RowKit
set_option linter.unusedVariables false
theorem bytesL_set (n : Nat) (g : Nat → Int) (k : Nat) (y : Int) : (bytesL n g).set k (.int .u8 y) = bytesL n (fun j => if j = k then y else g j) := by
 refine List.ext_getElem? fun i => ?_
 by_cases hi : i < n
 ·rw [bytesL_at _ hi, List.getElem?_set]
  by_cases e : k = i
  ·subst e; simp [bytesL_len, hi]
  ·rw [if_neg e, bytesL_at _ hi, if_neg (fun h => e (Eq.symm h))]
 ·rw [List.getElem?_eq_none (by rw [List.length_set, bytesL_len]; omega), List.getElem?_eq_none (by rw [bytesL_len]; omega)]
theorem Bs.at {w : World} {ao : Option Addr} {n : Nat} {g : Nat → Int} (h : Bs w ao n g) (hn : 0 < n) : ∃ b off, ao = some ⟨b, off, none⟩ ∧ ∀ i, i < n → w.cell? ⟨b, off + i, none⟩ = some (.int .u8 (g i)) := by
 rcases h with h | h
 ·omega
 ·exact h
theorem eq_true (n ca cb b o b' o' : Nat) (g g' : Nat → Int) (w : World) (hn : (n : Int) ≤ 140737488351232)
  (ha : ∀ i, i < n → w.cell? ⟨b, o + i, none⟩ = some (.int .u8 (g i))) (hb : ∀ i, i < n → w.cell? ⟨b', o' + i, none⟩ = some (.int .u8 (g' i))) (he : ∀ i, i < n → g i = g' i) :
  Calls Tryz.prog 10 #[.slice (some ⟨b, o, none⟩) n ca, .slice (some ⟨b', o', none⟩) n cb] w fun e w' => e = .returned (.bool true) ∧ ∃ d, w' = w.drewN d := by
 have HA : Hid (∀ i, i < n → w.cell? ⟨b, o + i, none⟩ = some (.int .u8 (g i))) := ha
 have HB : Hid (∀ i, i < n → w.cell? ⟨b', o' + i, none⟩ = some (.int .u8 (g' i))) := hb
 have HE : Hid (∀ i, i < n → g i = g' i) := he
 clear ha hb he
 go_enter Tryz.func10, Tryz.ntmps10
 go_wp2
 go_loopw [5] (fun s wr => ∃ k : Nat, k ≤ n ∧ s = .int .i64 k ∧ ∃ d, wr = w.drewN d) (fun s _ => n - (intOf s).toNat)
 case atStart => exact ⟨0, Nat.zero_le _, rfl, 0, rfl⟩
 case round =>
  obtain ⟨k, hk, rfl, d, rfl⟩ := hrel
  by_cases hlt : k < n
  ·have c1 : (w.drewN d).cell? ⟨b, o + k, none⟩ = some (.int .u8 (g k)) := HA.out k hlt
   have c2 : (w.drewN d).cell? ⟨b', o' + k, none⟩ = some (.int .u8 (g k)) := by rw [HE.out k hlt]; exact HB.out k hlt
   have HW : Hid (∃ d', w.drewN d = w.drewN d') := ⟨d, rfl⟩
   have hlt' : (k : Int) < (n : Int) := by omega
   generalize w.drewN d = W at *
   generalize g k = y at *
   go_wp2_with fail
   go_quiet (fail)
   go_wp2
   go_roundw
   case rel => obtain ⟨d', rfl⟩ := HW.out; exact ⟨k + 1, by omega, by go_num, _, World.drewN_drewN _ _ _⟩
   case measure => simp [intOf]; omega
  ·obtain rfl : k = n := by omega
   go_wp2
   go_ret
   exact ⟨rfl, d, rfl⟩
theorem eq_none (ca cb : Nat) (ao bo : Option Addr) (w : World) :
  Calls Tryz.prog 10 #[.slice ao 0 ca, .slice bo 0 cb] w fun e w' => e = .returned (.bool true) ∧ ∃ d, w' = w.drewN d := by
 go_enter Tryz.func10, Tryz.ntmps10
 go_wp2
 go_loopw [5] (fun s wr => s = .int .i64 0 ∧ wr = w) (fun s _ => 0)
 case atStart => exact ⟨rfl, rfl⟩
 case round =>
  obtain ⟨rfl, rfl⟩ := hrel
  go_wp2
  go_ret
  exact ⟨rfl, 0, rfl⟩
theorem eqB (n ca cb : Nat) (ao bo : Option Addr) (g g' : Nat → Int) (w : World) (hn : (n : Int) ≤ 140737488351232) (ha : Bs w ao n g) (hb : Bs w bo n g') (he : ∀ i, i < n → g i = g' i) :
  Calls Tryz.prog 10 #[.slice ao n ca, .slice bo n cb] w fun e w' => e = .returned (.bool true) ∧ ∃ d, w' = w.drewN d := by
 by_cases h0 : n = 0
 ·subst h0; exact eq_none ca cb ao bo w
 ·obtain ⟨b, o, rfl, ha1⟩ := ha.at (by omega)
  obtain ⟨b', o', rfl, hb1⟩ := hb.at (by omega)
  exact eq_true n ca cb b o b' o' g g' w hn ha1 hb1 he
theorem copyB (n cap : Nat) (ao : Option Addr) (g : Nat → Int) (w : World) (hn : (n : Int) ≤ 140737488351232) (h0 : ao = none → n = 0 ∧ cap = 0) (ha : Bs w ao n g) :
  Calls Tryz.prog 7 #[.slice ao n cap] w fun e w' => ∃ v, e = .returned v ∧ OwnB w' w.heap.size v n g ∧ w.grownBy w' none := by
 obtain ⟨i, hi, hz0, hz1, hz2⟩ := info_parts info_u8
 cases ao with
 | none =>
  obtain ⟨rfl, rfl⟩ := h0 rfl
  go_enter Tryz.func7, Tryz.ntmps7
  go_wp2_with (at_builtin; refine wpList_append_own_none rfl _ _ 24 rfl w.heap.size 5 i 1 Tryz.underlying24 hi _ 0 [] rfl (World.ownsRow_nil _ _ _ _) rfl ?_)
  go_ret
  exact ⟨_, rfl, World.ownsRow_nil _ _ _ _, gr0⟩
 | some ad =>
  have HC : Hid (∀ j u, (bytesL n g)[j]? = some u → w.cell? (ad.add j) = some u) := by
   intro j u hu
   obtain ⟨hj, rfl⟩ := bytesL_get hu
   obtain ⟨b, o, e, hc⟩ := ha.at (by omega)
   injection e with e
   subst e
   rw [add_none]
   exact hc j hj
  clear ha h0
  go_enter Tryz.func7, Tryz.ntmps7
  go_wp2_with (at_builtin; refine wpList_append_own _ rfl _ _ 24 rfl w.heap.size 5 i (.int .u8 0) 1 1 Tryz.underlying24 hi hz0 hz1 hz2 rfl (by decide) _ 0 [] rfl (World.ownsRow_nil _ _ _ _) ad n cap (bytesL n g) rfl (by rw [bytesL_len]; omega) HC.out (bytesL_one _ _) (by unfold maxLen; omega) (by omega) (Nat.le_refl _) ?_; intro v' w2 ho2 hg2 hv2; simp only [Nat.zero_add, List.nil_append] at ho2)
  go_ret
  exact ⟨_, rfl, ho2, hg2⟩
theorem OwnB.store {w : World} {base n b cap : Nat} {g : Nat → Int} (h : OwnB w base (.slice (some ⟨b, 0, none⟩) n cap) n g) (k : Nat) (y : Int) :
  OwnB (w.setCell ⟨b, k, none⟩ (.int .u8 y)) base (.slice (some ⟨b, 0, none⟩) n cap) n (fun j => if j = k then y else g j) := by
 have := World.ownsRow.stored h k (.int .u8 y)
 rw [bytesL_set] at this
 exact this.1
theorem OwnB.cellAt {w : World} {base n b cap : Nat} {g : Nat → Int} (h : OwnB w base (.slice (some ⟨b, 0, none⟩) n cap) n g) {k : Nat} (hk : k < n) : w.cell? ⟨b, k, none⟩ = some (.int .u8 (g k)) :=
 (World.ownsRow.cellAt h k (by omega)).trans (bytesL_at g hk)
theorem spoil_nil (base : Nat) (w : World) :
  Calls Tryz.prog 32 #[.slice none 0 0] w fun e w' => e = .returned (.tuple #[]) ∧ w.grownBy w' none := by
 obtain ⟨i, hi, hz0, hz1, hz2⟩ := info_parts info_u8
 go_enter Tryz.func32, Tryz.ntmps32
 go_wp2
 go_loopw [2] (fun s wr => s = .int .i64 0 ∧ wr = w) (fun s _ => 0)
 case atStart => exact ⟨rfl, rfl⟩
 case round =>
  obtain ⟨rfl, rfl⟩ := hrel
  go_wp2_with (at_builtin; refine wpList_append_own _ rfl _ _ 24 rfl wr.heap.size 5 i (.int .u8 0) 1 1 Tryz.underlying24 hi hz0 hz1 hz2 rfl (by decide) _ 0 [] rfl (World.ownsRow_nil _ _ _ _) ⟨wr.heap.size, 0, none⟩ 2 2 [.int .u8 7, .int .u8 7] rfl rfl (by intro j u hj; match j, hj with | 0, hj => simp at hj; subst hj; simp [Addr.add] | 1, hj => simp at hj; subst hj; simp [Addr.add]) (by simp; rfl) (by unfold maxLen; omega) (by omega) (by simp) ?_; intro v' w2 ho2 hg2 hv2)
  go_end0
  exact ⟨rfl, gtr gal hg2⟩
theorem spoil_some (base b n cap : Nat) (g : Nat → Int) (w : World) (hn : (n : Int) ≤ 1048576) (hb : base ≤ w.heap.size) (h : OwnB w base (.slice (some ⟨b, 0, none⟩) n cap) n g) :
  Calls Tryz.prog 32 #[.slice (some ⟨b, 0, none⟩) n cap] w fun e w' => e = .returned (.tuple #[]) ∧ w.grownBy w' (some b) := by
 obtain ⟨i, hi, hz0, hz1, hz2⟩ := info_parts info_u8
 go_enter Tryz.func32, Tryz.ntmps32
 go_wp2
 go_loopw [2] (fun s wr => ∃ k : Nat, k ≤ n ∧ s = .int .i64 k ∧ (∃ g', OwnB wr base (.slice (some ⟨b, 0, none⟩) n cap) n g') ∧ w.grownBy wr (some b)) (fun s _ => n - (intOf s).toNat)
 case atStart => exact ⟨0, Nat.zero_le _, rfl, ⟨g, h⟩, gr0⟩
 case round =>
  obtain ⟨k, hk, rfl, ⟨g', ho⟩, hgr⟩ := hrel
  by_cases hlt : k < n
  ·have c := ho.cellAt hlt
   have f := World.ownsRow.frozenAt ho k
   go_wp2
   go_roundw
   case rel => exact ⟨k + 1, by omega, by go_num, ⟨_, ho.store k _⟩, gtr hgr (grown_setCell _ _ _ _)⟩
   case measure => simp [intOf]; omega
  ·obtain rfl : k = n := by omega
   have hsz := hgr.size
   have hown : Hid ((wr.alloc (.cells #[.int .u8 7, .int .u8 7] 5)).ownsRow base 5 1 (.slice (some ⟨b, 0, none⟩) k cap) k (bytesL k g')) := World.ownsRow.alloc ho _
   go_wp2_with (at_builtin; refine wpList_append_own _ rfl _ _ 24 rfl base 5 i (.int .u8 0) 1 1 Tryz.underlying24 hi hz0 hz1 hz2 rfl (by decide) _ k (bytesL k g') rfl hown.out ⟨wr.heap.size, 0, none⟩ 2 2 [.int .u8 7, .int .u8 7] rfl rfl (by intro j u hj; match j, hj with | 0, hj => simp at hj; subst hj; simp [Addr.add] | 1, hj => simp at hj; subst hj; simp [Addr.add]) (by simp; rfl) (by unfold maxLen; omega) (by omega) (by simp; omega) ?_; intro v' w2 ho2 hg2 hv2)
   go_end0
   exact ⟨rfl, gtr hgr (gtr gal hg2)⟩
theorem spoilB (base n : Nat) (v : Value) (g : Nat → Int) (w : World) (hn : (n : Int) ≤ 1048576) (hb : base ≤ w.heap.size) (h : OwnB w base v n g) :
  Calls Tryz.prog 32 #[v] w fun e w' => e = .returned (.tuple #[]) ∧ w.grownBy w' v.ownBlock := by
 rcases h.2 with ⟨rfl, rfl⟩ | ⟨b, cap, cur, rfl, _⟩
 ·exact spoil_nil base w
 ·exact spoil_some base b n cap g w hn hb h
namespace Rc
def fb (f : FmV) (i : Nat) : Int :=
 if i = 0 then f.code % 256 else if i = 1 then f.a % 256 else if i = 2 then f.b % 256 else if i = 3 then f.c % 256 else Mm.by8 f.n (i - 4)
end Rc
theorem own8 {w : World} {base : Nat} (hb : base ≤ w.heap.size) (g : Nat → Int) (x0 x1 x2 x3 x4 x5 x6 x7 : Int) (h0 : x0 = g 0) (h1 : x1 = g 1) (h2 : x2 = g 2) (h3 : x3 = g 3) (h4 : x4 = g 4) (h5 : x5 = g 5) (h6 : x6 = g 6) (h7 : x7 = g 7) :
  OwnB (w.alloc (.cells #[.int .u8 x0, .int .u8 x1, .int .u8 x2, .int .u8 x3, .int .u8 x4, .int .u8 x5, .int .u8 x6, .int .u8 x7] 5)) base (.slice (some ⟨w.heap.size, 0, none⟩) 8 8) 8 g := by
 subst h0 h1 h2 h3 h4 h5 h6 h7
 exact World.ownsRow_lit w #[.int .u8 (g 0), .int .u8 (g 1), .int .u8 (g 2), .int .u8 (g 3), .int .u8 (g 4), .int .u8 (g 5), .int .u8 (g 6), .int .u8 (g 7)] 8 hb (by decide) (by rfl)
theorem size_alloc (w : World) (o : Obj) : (w.alloc o).heap.size = w.heap.size + 1 := by simp
theorem fbytes_any (f : FmV) (w : World) :
  Calls Tryz.prog 91 #[formv f] w fun e w' => ∃ T, e = .returned (.slice (some ⟨T, 0, none⟩) 8 8) ∧ OwnB w' w.heap.size (.slice (some ⟨T, 0, none⟩) 8 8) 8 (Rc.fb f) ∧ w.grownBy w' none := by
 unfold formv
 go_enter Tryz.func91, Tryz.ntmps91
 go_wp2
 go_returns
 refine ⟨w.heap.size + 1, rfl, ?_, grown_alloc2 _ _ _⟩
 rw [← size_alloc w]
 refine own8 (by rw [size_alloc]; omega) (Rc.fb f) _ _ _ _ _ _ _ _ rfl rfl rfl rfl ?_ rfl rfl rfl
 show _ = Mm.by8 f.n 0
 unfold Mm.by8
 simp
theorem rencode_any (v : InV) (w : World) :
  Calls Tryz.prog 53 #[inst v] w fun e w' => ∃ T, e = .returned (.slice (some ⟨T, 0, none⟩) 8 8) ∧ OwnB w' w.heap.size (.slice (some ⟨T, 0, none⟩) 8 8) 8 (Rc.enc v) ∧ w.grownBy w' none := by
 unfold inst
 go_enter Tryz.func53, Tryz.ntmps53
 go_wp2
 all_goals
  go_returns
  refine ⟨w.heap.size + 1, rfl, ?_, grown_alloc2 _ _ _⟩
  rw [← size_alloc w]
  simp only [beq_iff_eq, beq_eq_false_iff_ne] at *
  refine own8 (by rw [size_alloc]; omega) (Rc.enc v) _ _ _ _ _ _ _ _ rfl rfl rfl ?_ ?_ ?_ ?_ ?_
  ·show _ = Rc.cc v % 256
   unfold Rc.cc
   simp [*]
  all_goals
   first | show _ = Rc.nn v % 4294967296 / 1 % 256 | show _ = Rc.nn v % 4294967296 / 256 % 256 | show _ = Rc.nn v % 4294967296 / 65536 % 256 | show _ = Rc.nn v % 4294967296 / 16777216 % 256
   unfold Rc.nn
   simp only [*, if_true, if_false, or_true, or_self, or_false, Int.reduceEq] <;> (try unfold wrap64) <;> omega
end Go.Proofs.YtkiockffejlnhaaGreatDoor
namespace Go.Proofs.YtkiockffejlnhaaGreatDoor
open Go.RowKit
set_option linter.unusedVariables false
theorem still_of_quiet {P : Program} {ops : Array Oper} {w : World} {Q : Act → Prop} : ∀ (l : List Oper) (a : Act), wpQuiet P ops (fun w' => w' = w) Q l a → wpStill P ops w Q l a
 | [], _, h => h
 | o :: rest, a, h => by
  unfold wpQuiet at h
  unfold wpStill
  split
  ·rename_i hw
   rw [if_pos hw] at h
   obtain ⟨v, h1, h2⟩ := h
   have h3 := h1 w rfl
   have h4 := still_of_quiet rest _ h2
   unfold Oper.quietAt at h3
   unfold Oper.still
   generalize (execOp a.eval o).run P w = r at h3
   match r, h3 with
   | .ok (.value u) w', h3 => obtain ⟨e1, e2⟩ := h3; exact ⟨e1, by rw [e2]; exact h4⟩
   | .ok .skip w', h3 => obtain ⟨e1, e2⟩ := h3; exact ⟨e1, by rw [← e2]; exact h4⟩
   | .ok (.enter f args) w', h3 => obtain ⟨e1, e2⟩ := h3; exact ⟨e1, v, e2, h4⟩
  ·rename_i hw
   rw [if_neg hw] at h
   exact still_of_quiet rest _ h
theorem tail_quiet {P : Program} {id : Nat} {Q : Exit → Act → World → Prop} {a : Act} {w : World} {l : List Oper} (n : Nat) (hm : P.follows .mixedOrders = true) (hB : Region.lexTailB .any l.toArray n = true)
  (h : wpQuiet P l.toArray (fun w' => w' = w.drew) (fun a' => wpList P l.toArray Q (l.drop n) a' w.drew) (l.take n) a) : (Code.region id l.toArray true).wp P Q a w :=
 tail_drew n hm hB (still_of_quiet _ _ h)
structure Gw (W : World) where
 w : World
 h : W.grownBy w none
theorem region_grown {P : Program} {id : Nat} {Q : Exit → Act → World → Prop} {a : Act} {w : World} {l : List Oper} (hm : P.follows .mixedOrders = true) (hB : Region.lexB .any l.toArray = true)
  (h : wpQuiet P l.toArray (fun w' => ∃ x : Gw w, w' = x.w) (fun a' => ∀ w', (∃ x : Gw w, w' = x.w) → Q .normal a' w') l a) : (Code.region id l.toArray true).wp P Q a w :=
 wp_region_quiet (C := fun w' => ∃ x : Gw w, w' = x.w) hm hB ⟨⟨w.drew, grown_drew gr0⟩, rfl⟩ (by simpa using h)
theorem Gw.call {P : Program} {f : FuncId} {args : Array Value} {W : World} {x : Gw W} {v : Value}
  (h : Calls P f args x.w fun e w' => e = .returned v ∧ x.w.grownBy w' none) : Calls P f args x.w fun e w'' => e = .returned v ∧ ∃ y : Gw W, w'' = y.w :=
 h.mono fun _ w'' ⟨he, hg⟩ => ⟨he, ⟨w'', gtr x.h hg⟩, rfl⟩
namespace Rc
def fo (g : Nat → Int) : FmV := ⟨g 0, g 1, g 2, g 3, s32 (Mm.ld g 4 4)⟩
end Rc
theorem wrap_s32 (x : Int) : wrap64 (wrap32 x) = Rc.s32 x := by unfold wrap64 wrap32 Rc.s32; omega
def zeroI : InV := ⟨0, 0, 0, 0, 0, 0, 0, 0, 0⟩
namespace Rc
def dv (g : Nat → Int) : InV := if okB g then rd g else zeroI
end Rc
structure InstAt (W : World) (B : Nat) (v : InV) : Prop where
 c0 : W.cell? ⟨B, 0, none⟩ = some (.int .i64 v.op)
 c1 : W.cell? ⟨B, 1, none⟩ = some (.int .i64 v.a)
 c2 : W.cell? ⟨B, 2, none⟩ = some (.int .i64 v.b)
 c3 : W.cell? ⟨B, 3, none⟩ = some (.int .i64 v.c)
 c4 : W.cell? ⟨B, 4, none⟩ = some (.int .i64 v.k)
 c5 : W.cell? ⟨B, 5, none⟩ = some (.int .i64 v.sub)
 c6 : W.cell? ⟨B, 6, none⟩ = some (.int .i64 v.scale)
 c7 : W.cell? ⟨B, 7, none⟩ = some (.int .i64 v.imm)
 c8 : W.cell? ⟨B, 8, none⟩ = some (.int .i64 v.label)
 fz : ∀ k, W.frozen? ⟨B, k, none⟩ = false
theorem InstAt.lt {W : World} {B : Nat} {v : InV} (h : InstAt W B v) : B < W.heap.size := World.block_lt_of_cell? _ _ h.c0
theorem InstAt.new (W : World) (v : InV) : InstAt (W.alloc (.cells #[.int .i64 v.op, .int .i64 v.a, .int .i64 v.b, .int .i64 v.c, .int .i64 v.k, .int .i64 v.sub, .int .i64 v.scale, .int .i64 v.imm, .int .i64 v.label] 50)) W.heap.size v := by
 constructor <;> intros <;> simp
theorem InstAt.kept {W W' : World} {B : Nat} {v : InV} {row : Option Nat} (h : InstAt W B v) (hg : W.grownBy W' row) (hne : some B ≠ row) : InstAt W' B v :=
 ⟨hg.cell h.c0 hne, hg.cell h.c1 hne, hg.cell h.c2 hne, hg.cell h.c3 hne, hg.cell h.c4 hne, hg.cell h.c5 hne, hg.cell h.c6 hne, hg.cell h.c7 hne, hg.cell h.c8 hne, fun k => (hg.frozen_far ⟨B, k, none⟩ h.lt hne).trans (h.fz k)⟩
theorem InstAt.below {W W' : World} {B N : Nat} {v : InV} (h : InstAt W B v) (hg : Below N W W') (hb : B < N) : InstAt W' B v :=
 ⟨(hg.cell (p := ⟨B, 0, none⟩) hb).trans h.c0, (hg.cell (p := ⟨B, 1, none⟩) hb).trans h.c1, (hg.cell (p := ⟨B, 2, none⟩) hb).trans h.c2, (hg.cell (p := ⟨B, 3, none⟩) hb).trans h.c3, (hg.cell (p := ⟨B, 4, none⟩) hb).trans h.c4, (hg.cell (p := ⟨B, 5, none⟩) hb).trans h.c5, (hg.cell (p := ⟨B, 6, none⟩) hb).trans h.c6, (hg.cell (p := ⟨B, 7, none⟩) hb).trans h.c7, (hg.cell (p := ⟨B, 8, none⟩) hb).trans h.c8, fun k => (hg.frozen (p := ⟨B, k, none⟩) hb).trans (h.fz k)⟩
theorem InstAt.drewN {W : World} {B : Nat} {v : InV} (h : InstAt W B v) (n : Nat) : InstAt (W.drewN n) B v := h.kept (grown_drewN (World.grownBy.refl _ none) n) (by simp)
theorem InstAt.set3 {W : World} {B : Nat} {v : InV} (h : InstAt W B v) (x : Int) : InstAt (W.setCell ⟨B, 3, none⟩ (.int .i64 x)) B { v with c := x } :=
 ⟨(World.cell?_setCell_other _ _ _ _ (by simp)).trans h.c0, (World.cell?_setCell_other _ _ _ _ (by simp)).trans h.c1, (World.cell?_setCell_other _ _ _ _ (by simp)).trans h.c2, World.cell?_setCell_same _ _ _ h.c3, (World.cell?_setCell_other _ _ _ _ (by simp)).trans h.c4, (World.cell?_setCell_other _ _ _ _ (by simp)).trans h.c5, (World.cell?_setCell_other _ _ _ _ (by simp)).trans h.c6, (World.cell?_setCell_other _ _ _ _ (by simp)).trans h.c7, (World.cell?_setCell_other _ _ _ _ (by simp)).trans h.c8, fun j => (World.frozen?_setCell _ _ _ _).trans (h.fz j)⟩
theorem InstAt.set4 {W : World} {B : Nat} {v : InV} (h : InstAt W B v) (x : Int) : InstAt (W.setCell ⟨B, 4, none⟩ (.int .i64 x)) B { v with k := x } :=
 ⟨(World.cell?_setCell_other _ _ _ _ (by simp)).trans h.c0, (World.cell?_setCell_other _ _ _ _ (by simp)).trans h.c1, (World.cell?_setCell_other _ _ _ _ (by simp)).trans h.c2, (World.cell?_setCell_other _ _ _ _ (by simp)).trans h.c3, World.cell?_setCell_same _ _ _ h.c4, (World.cell?_setCell_other _ _ _ _ (by simp)).trans h.c5, (World.cell?_setCell_other _ _ _ _ (by simp)).trans h.c6, (World.cell?_setCell_other _ _ _ _ (by simp)).trans h.c7, (World.cell?_setCell_other _ _ _ _ (by simp)).trans h.c8, fun j => (World.frozen?_setCell _ _ _ _).trans (h.fz j)⟩
theorem InstAt.set5 {W : World} {B : Nat} {v : InV} (h : InstAt W B v) (x : Int) : InstAt (W.setCell ⟨B, 5, none⟩ (.int .i64 x)) B { v with sub := x } :=
 ⟨(World.cell?_setCell_other _ _ _ _ (by simp)).trans h.c0, (World.cell?_setCell_other _ _ _ _ (by simp)).trans h.c1, (World.cell?_setCell_other _ _ _ _ (by simp)).trans h.c2, (World.cell?_setCell_other _ _ _ _ (by simp)).trans h.c3, (World.cell?_setCell_other _ _ _ _ (by simp)).trans h.c4, World.cell?_setCell_same _ _ _ h.c5, (World.cell?_setCell_other _ _ _ _ (by simp)).trans h.c6, (World.cell?_setCell_other _ _ _ _ (by simp)).trans h.c7, (World.cell?_setCell_other _ _ _ _ (by simp)).trans h.c8, fun j => (World.frozen?_setCell _ _ _ _).trans (h.fz j)⟩
theorem InstAt.set7 {W : World} {B : Nat} {v : InV} (h : InstAt W B v) (x : Int) : InstAt (W.setCell ⟨B, 7, none⟩ (.int .i64 x)) B { v with imm := x } :=
 ⟨(World.cell?_setCell_other _ _ _ _ (by simp)).trans h.c0, (World.cell?_setCell_other _ _ _ _ (by simp)).trans h.c1, (World.cell?_setCell_other _ _ _ _ (by simp)).trans h.c2, (World.cell?_setCell_other _ _ _ _ (by simp)).trans h.c3, (World.cell?_setCell_other _ _ _ _ (by simp)).trans h.c4, (World.cell?_setCell_other _ _ _ _ (by simp)).trans h.c5, (World.cell?_setCell_other _ _ _ _ (by simp)).trans h.c6, World.cell?_setCell_same _ _ _ h.c7, (World.cell?_setCell_other _ _ _ _ (by simp)).trans h.c8, fun j => (World.frozen?_setCell _ _ _ _).trans (h.fz j)⟩
structure InAt (w : World) (b o : Nat) (v : InV) : Prop where
 c0 : w.cell? ⟨b, o, none⟩ = some (.int .i64 v.op)
 c1 : w.cell? ⟨b, o + 1, none⟩ = some (.int .i64 v.a)
 c2 : w.cell? ⟨b, o + 2, none⟩ = some (.int .i64 v.b)
 c3 : w.cell? ⟨b, o + 3, none⟩ = some (.int .i64 v.c)
 c4 : w.cell? ⟨b, o + 4, none⟩ = some (.int .i64 v.k)
 c5 : w.cell? ⟨b, o + 5, none⟩ = some (.int .i64 v.sub)
 c6 : w.cell? ⟨b, o + 6, none⟩ = some (.int .i64 v.scale)
 c7 : w.cell? ⟨b, o + 7, none⟩ = some (.int .i64 v.imm)
 c8 : w.cell? ⟨b, o + 8, none⟩ = some (.int .i64 v.label)
theorem InAt.kept {w w' : World} {b o : Nat} {v : InV} {row : Option Nat} (h : InAt w b o v) (hg : w.grownBy w' row) (hne : some b ≠ row) : InAt w' b o v :=
 ⟨hg.cell h.c0 hne, hg.cell h.c1 hne, hg.cell h.c2 hne, hg.cell h.c3 hne, hg.cell h.c4 hne, hg.cell h.c5 hne, hg.cell h.c6 hne, hg.cell h.c7 hne, hg.cell h.c8 hne⟩
theorem InAt.below {w w' : World} {b o N : Nat} {v : InV} (h : InAt w b o v) (hg : Below N w w') (hb : b < N) : InAt w' b o v :=
 ⟨(hg.cell (p := ⟨b, o, none⟩) hb).trans h.c0, (hg.cell (p := ⟨b, o + 1, none⟩) hb).trans h.c1, (hg.cell (p := ⟨b, o + 2, none⟩) hb).trans h.c2, (hg.cell (p := ⟨b, o + 3, none⟩) hb).trans h.c3, (hg.cell (p := ⟨b, o + 4, none⟩) hb).trans h.c4, (hg.cell (p := ⟨b, o + 5, none⟩) hb).trans h.c5, (hg.cell (p := ⟨b, o + 6, none⟩) hb).trans h.c6, (hg.cell (p := ⟨b, o + 7, none⟩) hb).trans h.c7, (hg.cell (p := ⟨b, o + 8, none⟩) hb).trans h.c8⟩
structure BsIn (W : World) (ao : Option Addr) (len cap : Nat) (g : Nat → Int) : Prop where
 nil : ao = none → len = 0 ∧ cap = 0
 le : len ≤ cap
 max : cap ≤ maxLen
 fit : Mm.Fit g
 bs : Bs W ao len g
 lt : ∀ b off, 0 < len → ao = some ⟨b, off, none⟩ → b < W.heap.size
theorem open_bytes {H : Type} {enc : TypeId × Value → H} {W : World} {spare : Nat → Bool} {held : Bool} {fuel : Nat} {cs : List Value} {x : DataW H × List MemPlace}
  (h : DataW.trod enc Tryz.prog W 0 spare held fuel 24 cs = some x) : ∃ ao len cap g, cs = [.slice ao len cap] ∧ BsIn W ao len cap g := by
 have ce : Tryz.prog.cellsOf 5 = 1 := by kernel_rfl
 rcases Go.Deep.open_slice1 Tryz.underlying24 ce h with ⟨hcs, _⟩ | ⟨a, len, cap, m, n, V, D, Pl, hcs, hb, hl, hm, hmm, _, hx⟩
 ·exact ⟨none, 0, 0, fun _ => 0, hcs, ⟨fun _ => ⟨rfl, rfl⟩, Nat.le_refl _, Nat.zero_le _, fun _ => by omega, .inl rfl, fun _ _ h => by omega⟩⟩
 ·have hlm : len ≤ m := by rw [hmm]; split <;> omega
  have each : ∀ i, i < len → ∃ z : Int, V i = .int .u8 z ∧ 0 ≤ z ∧ z < 256 := by
   intro i hi
   obtain ⟨_, h2⟩ := hx i (by omega)
   obtain ⟨z, e, _, f⟩ := DataW.trod_int Tryz.underlying5 h2
   simp at e
   have f := bounds_u8 f
   exact ⟨z, e, by omega, by omega⟩
  by_cases h0 : len = 0
  ·subst h0
   exact ⟨some a, 0, cap, fun _ => 0, hcs, ⟨(fun h => by cases h), hl, hm, fun _ => by omega, .inl rfl, fun _ _ h => by omega⟩⟩
  obtain ⟨b, off, spot⟩ := a
  obtain ⟨c0, _⟩ := hx 0 (by omega)
  have c0 : W.cell? ⟨b, off, spot⟩ = some (V 0) := by simpa [Addr.add] using c0
  obtain rfl : spot = none := World.cell?_spot c0
  have hlt := World.block_lt_of_cell? _ _ c0
  refine ⟨some ⟨b, off, none⟩, len, cap, fun i => if h : i < len then Classical.choose (each i h) else 0, hcs, ⟨(fun h => by cases h), hl, hm, fun i => ?_, .inr ⟨b, off, rfl, fun i hi => ?_⟩, fun b' off' _ e => ?_⟩⟩
  ·by_cases h : i < len
   ·simp only [dif_pos h]; exact (Classical.choose_spec (each i h)).2
   ·simp only [dif_neg h]; omega
  ·simp only [dif_pos hi]
   rw [← (Classical.choose_spec (each i hi)).1, ← add_none]
   exact (hx i (by omega)).1
  ·injection e with e
   injection e with e
   subst e
   exact hlt
theorem BsIn.below {W W' : World} {ao : Option Addr} {n cap N : Nat} {g : Nat → Int} (h : BsIn W ao n cap g) (hg : Below N W W') (hN : N = W.heap.size) : BsIn W' ao n cap g := by
 refine ⟨h.nil, h.le, h.max, h.fit, ?_, fun b off h0 e => Nat.lt_of_lt_of_le (h.lt b off h0 e) hg.size⟩
 rcases h.bs with h0 | ⟨b, off, e, hc⟩
 ·exact .inl h0
 ·by_cases h0 : n = 0
  ·exact .inl h0
  ·exact .inr ⟨b, off, e, fun i hi => (hg.cell (p := ⟨b, off + i, none⟩) (by rw [hN]; exact h.lt b off (by omega) e)).trans (hc i hi)⟩
theorem BsIn.kept {W W' : World} {ao : Option Addr} {n cap : Nat} {g : Nat → Int} (h : BsIn W ao n cap g) (hg : W.grownBy W' none) : BsIn W' ao n cap g := by
 refine ⟨h.nil, h.le, h.max, h.fit, ?_, fun b off h0 e => Nat.lt_of_lt_of_le (h.lt b off h0 e) hg.size⟩
 rcases h.bs with h0 | ⟨b, off, e, hc⟩
 ·exact .inl h0
 ·exact .inr ⟨b, off, e, fun i hi => hg.cell (hc i hi) (by simp)⟩
theorem own_slice {w : World} {base n : Nat} {x : Value} {g : Nat → Int} (h : OwnB w base x n g) (hn : 0 < n) : ∃ T cap, x = .slice (some ⟨T, 0, none⟩) n cap ∧ n ≤ cap ∧ base ≤ T := by
 rcases h.2 with ⟨_, h0⟩ | ⟨T, cap, cur, rfl, hb, _, hc, _⟩
 ·omega
 ·exact ⟨T, cap, rfl, hc, hb⟩
theorem Bs.kept {w w' : World} {ao : Option Addr} {n : Nat} {g : Nat → Int} (h : Bs w ao n g) (hg : w.grownBy w' none) : Bs w' ao n g := by
 rcases h with h | ⟨b, off, e, hc⟩
 ·exact .inl h
 ·exact .inr ⟨b, off, e, fun i hi => hg.cell (hc i hi) (by simp)⟩
end Go.Proofs.YtkiockffejlnhaaGreatDoor
namespace Go.Proofs.YtkiockffejlnhaaGreatDoor
set_option linter.unusedVariables false
namespace Cc
def row (op : Int) : List Int :=
  if op = 1 then [110, 105] else if op = 3 ∨ op = 26 ∨ op = 27 ∨ op = 28 then [97] else if op = 4 ∨ op = 7 ∨ op = 8 then [97, 75, 83] else if op = 5 then [110, 75, 83, 105]
  else if op = 6 then [97, 75, 83, 52] else if op = 10 then [97, 99, 52] else if op = 11 ∨ op = 13 then [97, 75, 52] else if op = 12 ∨ op = 14 then [97, 99, 75, 52]
  else if op = 15 ∨ op = 18 then [97, 83] else if op = 16 then [97, 75] else if op = 17 then [110, 75, 105] else if op = 19 then [106, 105] else if op = 22 then [74, 105]
  else if op = 23 ∨ op = 25 ∨ op = 29 then [52] else if op = 24 then [45] else []
def useL (op l c : Int) : Bool :=
  if l = 97 then c == 65 || (c == 66 && op != 7 && op != 27 && op != 28 && op != 18) else if l = 110 then c == 65 else if l = 99 then c == 67 else if l = 75 then c == 75
  else if l = 83 ∨ l = 74 then c == 83 else if l = 105 ∨ l = 52 then c == 73 else false
def usesB (op c : Int) : Bool := (row op).any fun l => useL op l c
def immB (sub k n : Int) : Bool :=
  Wd.intB k && Wd.hasBinB sub k && sub != 4 && sub != 5 && Rc.smallB n && (Rc.s32 (Wd.canon (if Wd.shB sub then 9 else k) (n % 18446744073709551616)) == n)
def binB (v : InV) : Bool :=
  Wd.hasBinB v.sub v.k && (if Wd.shB v.sub then v.b == 1 && v.a != 1 else if Wd.intB v.k && (v.sub == 4 || v.sub == 5) then v.a == 0 && v.b != 0 && v.b != 2 else true)
def sclB (v : InV) : Bool := v.scale == 1 || v.scale == 2 || v.scale == 4 || v.scale == 8 || (v.scale == 0 && v.c == 0 && v.op == 10)
def kindB (v : InV) : Bool :=
  if v.op = 4 then binB v else if v.op = 5 then immB v.sub v.k v.imm else if v.op = 6 then Wd.hasBinB v.sub v.k && !Wd.shB v.sub && (!Wd.intB v.k || (v.sub != 4 && v.sub != 5))
  else if v.op = 7 then Wd.hasUnB v.sub v.k else if v.op = 8 then Wd.numB v.sub && Wd.numB v.k else if v.op = 10 then sclB v else if v.op = 12 ∨ v.op = 14 then sclB v && Wd.wordB v.k
  else if v.op = 11 ∨ v.op = 13 ∨ v.op = 16 then Wd.wordB v.k else if v.op = 17 then immB 2 v.k v.imm else if v.op = 15 ∨ v.op = 18 ∨ v.op = 22 then Wd.cmpB v.sub
  else if v.op = 25 then decide (0 ≤ v.imm) else if v.op = 29 then decide (0 < v.imm) else true
def mayB (v : InV) : Bool :=
  !(row v.op).isEmpty && v.label == 0 && Rc.regB v.a && Rc.regB v.b && Rc.regB v.c && (usesB v.op 65 || v.a == 0) && (usesB v.op 66 || v.b == 0) && (usesB v.op 67 || (v.c == 0 && v.scale == 0)) &&
  (usesB v.op 75 || v.k == 0) && (usesB v.op 83 || v.sub == 0) && (usesB v.op 73 || v.imm == 0) && (v.op == 1 || Rc.smallB v.imm) && kindB v
def size (n : Int) : Int := if -128 ≤ n ∧ n < 128 then 0 else if -2147483648 ≤ n ∧ n < 2147483648 then 1 else 2
def cnt (s : Int) : Nat := if s = 0 then 1 else if s = 1 then 4 else 8
def lg (s : Int) : Int := if s = 1 then 0 else if s = 2 then 1 else if s = 4 then 2 else if s = 8 then 3 else 15
def low (n : Int) (c : Nat) : List Int := (List.range c).map (Mm.by8 (n % 18446744073709551616))
def letB (v : InV) (l : Int) : List Int :=
  if l = 97 then [(16 * v.a + v.b) % 256] else if l = 110 then [(16 * v.a + size v.imm) % 256] else if l = 106 then [size v.imm % 256] else if l = 74 then [(16 * (v.sub - 11) + size v.imm) % 256]
  else if l = 99 then [(16 * v.c + lg v.scale) % 256] else if l = 75 then [v.k % 256] else if l = 83 then [v.sub % 256] else if l = 105 then low v.imm (cnt (size v.imm)) else if l = 52 then low v.imm 4 else []
def enc (v : InV) : List Int := v.op % 256 :: (row v.op).flatMap (letB v)
def num (g : Nat → Int) (at' c : Nat) : Int :=
  if c = 1 then (Mm.ld g at' 1 + 128) % 256 - 128 else if c = 4 then Rc.s32 (Mm.ld g at' 4) else Wd.sg (Mm.ld g at' 8)
def scl (n : Int) : Int := if n = 0 then 1 else if n = 1 then 2 else if n = 2 then 4 else if n = 3 then 8 else if n = 15 then 0 else -1
def lcnt (l s : Int) : Nat := if l = 105 then cnt s else if l = 52 then 4 else 1
def lset (l : Int) (v : InV) (x y : Int) : InV :=
  if l = 97 then { v with a := x / 16, b := x % 16 } else if l = 110 then { v with a := x / 16 } else if l = 106 then v else if l = 74 then { v with sub := x / 16 + 11 }
  else if l = 99 then { v with c := x / 16, scale := scl (x % 16) } else if l = 75 then { v with k := x } else if l = 83 then { v with sub := x } else { v with imm := y }
def lsz (l s x : Int) : Int := if l = 110 ∨ l = 74 then x % 16 else if l = 106 then x else s
def rdL (N : Nat) (g : Nat → Int) : List Int → InV → Int → Nat → InV × Int
  | [], v, _, p => (v, p)
  | l :: s, v, z, p =>
    if N < p + lcnt l z then (v, 0)
    else if 2 < lsz l z (g p) ∨ (lsz l z (g p) = 2 ∧ v.op ≠ 1) then (lset l v (g p) (num g p (lcnt l z)), -1)
    else rdL N g s (lset l v (g p) (num g p (lcnt l z))) (lsz l z (g p)) (p + lcnt l z)
def rrow (op : Int) : List Int := if op = 24 then [] else row op
def read (N : Nat) (g : Nat → Int) : InV × Int := rdL N g (rrow (g 0)) ⟨g 0, 0, 0, 0, 0, 0, 0, 0, 0⟩ 0 1
def zero : InV := ⟨0, 0, 0, 0, 0, 0, 0, 0, 0⟩
def startsB (l : List Int) (g : Nat → Int) : Bool := decide (∀ i, i < l.length → g i = l.getD i 0)
def dec (N : Nat) (g : Nat → Int) : InV × Int × Int :=
  if N = 0 then (zero, 0, 41) else if (row (g 0)).isEmpty then (zero, 0, 40) else if (read N g).2 = 0 then (zero, 0, 41)
  else if (read N g).2 < 0 ∨ mayB (read N g).1 = false ∨ (((enc (read N g).1).length : Int) ≠ (read N g).2 ∨ startsB (enc (read N g).1) g = false) then (zero, 0, 40) else ((read N g).1, (read N g).2, 0)
theorem rd_congr {N : Nat} {g g' : Nat → Int} (h : ∀ i, i < N → g i = g' i) : ∀ (s : List Int) (v : InV) (z : Int) (p : Nat), rdL N g s v z p = rdL N g' s v z p := by
  intro s
  induction s with
  | nil => intro v z p; rfl
  | cons l s ih =>
    intro v z p
    unfold rdL
    by_cases h1 : N < p + lcnt l z
    · rw [if_pos h1, if_pos h1]
    · have hl : 1 ≤ lcnt l z := by unfold lcnt cnt; repeat' split
                                   all_goals omega
      have e1 : g p = g' p := h p (by omega)
      have e2 : num g p (lcnt l z) = num g' p (lcnt l z) := by
        have hc : ∀ c, c ≤ lcnt l z → Mm.ld g p c = Mm.ld g' p c := fun c hc => Mm.ld_congr fun i hi => h _ (by omega)
        unfold num
        by_cases c1 : lcnt l z = 1
        · rw [if_pos c1, if_pos c1, hc 1 (by omega)]
        · by_cases c4 : lcnt l z = 4
          · rw [if_neg c1, if_neg c1, if_pos c4, if_pos c4, hc 4 (by omega)]
          · have : lcnt l z = 8 := by
              revert c1 c4; unfold lcnt cnt; repeat' split
              all_goals omega
            rw [if_neg c1, if_neg c1, if_neg c4, if_neg c4, hc 8 (by omega)]
      rw [if_neg h1, if_neg h1, e1, e2, ih]
theorem num_low {g : Nat → Int} {p c : Nat} {n : Int} (hc : (c = 1 ∧ -128 ≤ n ∧ n < 128) ∨ (c = 4 ∧ -2147483648 ≤ n ∧ n < 2147483648) ∨ (c = 8 ∧ -9223372036854775808 ≤ n ∧ n ≤ 9223372036854775807)) (h : ∀ i, i < c → g (p + i) = Mm.by8 (n % 18446744073709551616) i) : num g p c = n := by
  have e : Mm.ld g p c = (n % 18446744073709551616) % 256 ^ c := by
    rw [← Mm.ld_by8]
    exact Mm.ld_congr fun i hi => by rw [h i hi, Nat.zero_add]
  unfold num
  rcases hc with ⟨rfl, h1, h2⟩ | ⟨rfl, h1, h2⟩ | ⟨rfl, h1, h2⟩
  · rw [if_pos rfl, e]
    have : (256 : Int) ^ 1 = 256 := rfl
    omega
  · rw [if_neg (by decide), if_pos rfl, e]
    have : (256 : Int) ^ 4 = 4294967296 := rfl
    unfold Rc.s32; omega
  · rw [if_neg (by decide), if_neg (by decide), e]
    have : (256 : Int) ^ 8 = 18446744073709551616 := rfl
    unfold Wd.sg; omega
end Cc
end Go.Proofs.YtkiockffejlnhaaGreatDoor
namespace Go.Proofs.YtkiockffejlnhaaGreatDoor
open Go.RowKit
set_option linter.unusedVariables false
def OwnL (w : World) (base : Nat) (v : Value) (l : List Int) : Prop := w.ownsRow base 5 1 v l.length (l.map (Value.int .u8))
theorem bytesL_list (l : List Int) : bytesL l.length (fun i => l.getD i 0) = l.map (Value.int .u8) := by
 refine List.ext_getElem? fun i => ?_
 by_cases hi : i < l.length
 ·rw [bytesL_at _ hi, List.getElem?_map, List.getElem?_eq_getElem hi]
  simp [List.getD_eq_getElem?_getD, List.getElem?_eq_getElem hi]
 ·rw [List.getElem?_eq_none (by rw [bytesL_len]; omega), List.getElem?_eq_none (by rw [List.length_map]; omega)]
theorem OwnL.toB {w : World} {base : Nat} {v : Value} {l : List Int} (h : OwnL w base v l) : OwnB w base v l.length (fun i => l.getD i 0) := by
 unfold OwnB; rw [bytesL_list]; exact h
theorem OwnB.toL {w : World} {base n : Nat} {v : Value} {g : Nat → Int} (h : OwnB w base v n g) : OwnL w base v ((List.range n).map g) := by
 unfold OwnL
 rw [List.length_map, List.length_range, List.map_map]
 exact h
theorem OwnL.nil (w : World) (base : Nat) : OwnL w base (.slice none 0 0) [] := World.ownsRow_nil _ _ _ _
theorem OwnL.kept {w w' : World} {base : Nat} {v : Value} {l : List Int} {row : Option Nat} (h : OwnL w base v l) (hg : w.grownBy w' row) (hne : v.ownBlock = none ∨ v.ownBlock ≠ row) : OwnL w' base v l := World.ownsRow.kept h hg hne
theorem OwnL.low {w : World} {base base' : Nat} {v : Value} {l : List Int} (h : OwnL w base v l) (hb : base' ≤ base) : OwnL w base' v l := World.ownsRow.mono h hb
theorem OwnL.app {w : World} {base : Nat} {v : Value} {l m : List Int} (h : w.ownsRow base 5 1 v (l.length + m.length) (l.map (Value.int .u8) ++ m.map (Value.int .u8))) : OwnL w base v (l ++ m) := by
 unfold OwnL
 rw [List.length_append, List.map_append]
 exact h
theorem OwnL.one {w : World} {base : Nat} {v : Value} {l : List Int} {x : Int} (h : w.ownsRow base 5 1 v (l.length + 1) (l.map (Value.int .u8) ++ [.int .u8 x])) : OwnL w base v (l ++ [x]) := OwnL.app (m := [x]) h
theorem OwnL.lit (w : World) (base : Nat) (l : List Int) (hb : base ≤ w.heap.size) (hm : l.length ≤ maxLen) : OwnL (w.alloc (.cells (l.map (Value.int .u8)).toArray 5)) base (.slice (some ⟨w.heap.size, 0, none⟩) l.length l.length) l := by
 have := World.ownsRow_lit (base := base) (e := 5) (size := 1) w (l.map (Value.int .u8)).toArray l.length hb hm (by simp)
 simpa [OwnL] using this
namespace Cc
theorem low_zero (n : Int) : low n 0 = [] := rfl
theorem low_succ (n : Int) (c : Nat) : low n (c + 1) = low n c ++ [Mm.by8 (n % 18446744073709551616) c] := by
 unfold low
 rw [List.range_succ, List.map_append]; rfl
theorem low_len (n : Int) (c : Nat) : (low n c).length = c := by unfold low; simp
theorem flat_succ (v : InV) (s : List Int) (k : Nat) (hk : k < s.length) : (s.take (k + 1)).flatMap (letB v) = (s.take k).flatMap (letB v) ++ letB v s[k] := by
 rw [List.take_succ_eq_append_getElem hk, List.flatMap_append]
 simp
end Cc
end Go.Proofs.YtkiockffejlnhaaGreatDoor
namespace Go.Proofs.YtkiockffejlnhaaGreatDoor
set_option maxRecDepth 100000
set_option maxHeartbeats 32000000
open Go.RowKit
set_option linter.unusedVariables false
namespace Rc
theorem fld_size (o : Int) : (fld o).size ≤ 1000 := by
 unfold fld
 repeat' split
 all_goals decide
def unB (s : ByteArray) (c n : Int) : Bool := hasS s c || n == 0
def kindC (v : InV) : Bool :=
 cond (v.op == 4) (Wd.hasBinB v.sub v.k) (cond (v.op == 7) (Wd.hasUnB v.sub v.k) (cond (v.op == 8) (Wd.numB v.sub && Wd.numB v.k) (cond (v.op == 11) (Wd.wordB v.k) (cond (v.op == 13) (Wd.wordB v.k)
 (cond (v.op == 15) (decide (0 ≤ v.imm) && decide (v.imm < 16)) (cond (v.op == 25) (decide (0 ≤ v.imm)) (cond (v.op == 29) (decide (0 < v.imm)) true)))))))
theorem kind_c (v : InV) : kindB v = kindC v := by
 unfold kindB kindC
 simp only [Bool.cond_eq_ite, beq_iff_eq]
 repeat' split
 all_goals first | rfl | omega
theorem may_un (v : InV) (h : (fld v.op).data.isEmpty = false) : mayB v = (v.scale == 0 && v.label == 0 && regB v.a && regB v.b && regB v.c && smallB v.imm &&
  unB (fld v.op) 65 v.a && unB (fld v.op) 66 v.b && unB (fld v.op) 67 v.c && unB (fld v.op) 75 v.k && unB (fld v.op) 83 v.sub && (hasS (fld v.op) 73 || v.imm == 0) && kindC v) := by
 rw [← kind_c]; unfold mayB unB; rw [h]; rfl
theorem may_no (v : InV) (h : (fld v.op).data.isEmpty = true) : mayB v = false := by
 unfold mayB; rw [h]; rfl
theorem toList_nil (s : ByteArray) : s.toList = s.data.toList := by rw [ByteArray.toList_eq]
end Rc
theorem unusedU (s : ByteArray) (c n : Int) (w : World) (hs : s.size ≤ 1000) :
  Calls Tryz.prog 96 #[.string s, .int .u8 c, .int .i64 n] w fun e w' => e = .returned (.bool (Rc.unB s c n)) ∧ w' = w := unused_any s c n w hs
theorem rmay_empty (v : InV) (w : World) (h1 : (Rc.fld v.op).toList = []) :
  Calls Tryz.prog 68 #[inst v] w fun e w' => e = .returned (.bool false) ∧ w' = w.alloc (Obj.cells #[.int .i64 v.op, .int .i64 v.a, .int .i64 v.b, .int .i64 v.c, .int .i64 v.k, .int .i64 v.sub, .int .i64 v.scale, .int .i64 v.imm, .int .i64 v.label] 50) := by
 unfold inst
 go_enter Tryz.func68, Tryz.ntmps68
 go_wp2_with (go_at_call 94; refine (fields_any _ _).mono ?_; rintro e w' ⟨rfl, rfl⟩)
 go_ret
 exact ⟨rfl, rfl⟩
theorem rmay_full (v : InV) (w : World) (h1 : ((Rc.fld v.op).toList = []) = False) (h2 : (Rc.fld v.op).toList.isEmpty = false) (h3 : ((Rc.fld v.op).toList == []) = false) (h4 : (Rc.fld v.op).data.isEmpty = false) :
  Calls Tryz.prog 68 #[inst v] w fun e w' => e = .returned (.bool (Rc.mayB v)) ∧ w' = w.alloc (Obj.cells #[.int .i64 v.op, .int .i64 v.a, .int .i64 v.b, .int .i64 v.c, .int .i64 v.k, .int .i64 v.sub, .int .i64 v.scale, .int .i64 v.imm, .int .i64 v.label] 50) := by
 have hs := Rc.fld_size v.op
 have HM : Hid (Rc.mayB v = _) := Rc.may_un v h4
 clear h4
 unfold inst
 go_enter Tryz.func68, Tryz.ntmps68
 go_wp2_with (first
  | (go_at_call 94; refine (fields_any _ _).mono ?_; rintro e w' ⟨rfl, rfl⟩)
  | (go_at_call 95; refine (rreg_any _ _).mono ?_; rintro e w' ⟨rfl, rfl⟩)
  | (go_at_call 71; refine (rsmall_any _ _).mono ?_; rintro e w' ⟨rfl, rfl⟩)
  | (go_at_call 96; refine (unusedU _ _ _ _ hs).mono ?_; rintro e w' ⟨rfl, rfl⟩)
  | (go_at_call 97; refine (has_any _ _ _ hs).mono ?_; rintro e w' ⟨rfl, rfl⟩)
  | (go_at_call 98; refine (rhasBin_any _ _ _).mono ?_; rintro e w' ⟨rfl, rfl⟩)
  | (go_at_call 99; refine (rhasUn_any _ _ _).mono ?_; rintro e w' ⟨rfl, rfl⟩)
  | (go_at_call 100; refine (rhasConv_any _ _ _).mono ?_; rintro e w' ⟨rfl, rfl⟩)
  | (go_at_call 101; refine (rword_any _ _).mono ?_; rintro e w' ⟨rfl, rfl⟩))
 all_goals
  go_ret
  refine ⟨ret_bool ?_, by first | rfl | (simp only [*]; done) | (simp [*]; done) | (simp_all; done)⟩
  rw [HM.out]
  generalize Rc.unB (Rc.fld v.op) 65 v.a = u1 at *
  generalize Rc.unB (Rc.fld v.op) 66 v.b = u2 at *
  generalize Rc.unB (Rc.fld v.op) 67 v.c = u3 at *
  generalize Rc.unB (Rc.fld v.op) 75 v.k = u4 at *
  generalize Rc.unB (Rc.fld v.op) 83 v.sub = u5 at *
  generalize Rc.hasS (Rc.fld v.op) 73 = u6 at *
  unfold Rc.kindC
  first | (simp [*]; done) | (simp_all; done) | (simp_all; omega)
theorem rmay_w (v : InV) (w : World) :
  Calls Tryz.prog 68 #[inst v] w fun e w' => e = .returned (.bool (Rc.mayB v)) ∧ w' = w.alloc (Obj.cells #[.int .i64 v.op, .int .i64 v.a, .int .i64 v.b, .int .i64 v.c, .int .i64 v.k, .int .i64 v.sub, .int .i64 v.scale, .int .i64 v.imm, .int .i64 v.label] 50) := by
 have e := Rc.toList_nil (Rc.fld v.op)
 cases h : (Rc.fld v.op).data.isEmpty
 ·have h0 : (Rc.fld v.op).toList ≠ [] := by rw [e]; simpa using h
  exact rmay_full v w (eq_false h0) (by simpa using h0) (by simpa using h0) h
 ·rw [Rc.may_no v h]
  exact rmay_empty v w (by rw [e]; simpa using h)
theorem rmay_any (v : InV) (w : World) :
  Calls Tryz.prog 68 #[inst v] w fun e w' => e = .returned (.bool (Rc.mayB v)) ∧ w.grownBy w' none :=
 (rmay_w v w).mono fun _ _ ⟨h1, h2⟩ => ⟨h1, h2 ▸ gal⟩
end Go.Proofs.YtkiockffejlnhaaGreatDoor
namespace Go.Proofs.YtkiockffejlnhaaGreatDoor
set_option maxRecDepth 100000
set_option maxHeartbeats 32000000
open Go.RowKit
theorem compareU_any (op a b : Int) (w : World) :
  Calls Tryz.prog 151 #[.int .i64 op, .int .u64 a, .int .u64 b] w fun e w' => e = .returned (.int .u64 (Wd.cmpI op a b)) ∧ w' = w := by
 go_enter Tryz.func151, Tryz.ntmps151
 go_wp2
 all_goals (go_ret; refine ⟨ret_u64 ?_, rfl⟩; simp only [beq_iff_eq, beq_eq_false_iff_ne] at *; unfold Wd.cmpI Wd.tr; simp_all <;> omega)
theorem compareI_any (op a b : Int) (w : World) :
  Calls Tryz.prog 150 #[.int .i64 op, .int .i64 a, .int .i64 b] w fun e w' => e = .returned (.int .u64 (Wd.cmpI op a b)) ∧ w' = w := by
 go_enter Tryz.func150, Tryz.ntmps150
 go_wp2
 all_goals (go_ret; refine ⟨ret_u64 ?_, rfl⟩; simp only [beq_iff_eq, beq_eq_false_iff_ne] at *; unfold Wd.cmpI Wd.tr; simp_all <;> omega)
end Go.Proofs.YtkiockffejlnhaaGreatDoor
namespace Go.Proofs.YtkiockffejlnhaaGreatDoor
set_option maxRecDepth 100000
set_option maxHeartbeats 32000000
open Go.RowKit
set_option linter.unusedVariables false
theorem ops16 {op : Int} (h1 : 1 ≤ op) (h2 : op ≤ 16) : op = 1 ∨ op = 2 ∨ op = 3 ∨ op = 4 ∨ op = 5 ∨ op = 6 ∨ op = 7 ∨ op = 8 ∨ op = 9 ∨ op = 10 ∨ op = 11 ∨ op = 12 ∨ op = 13 ∨ op = 14 ∨ op = 15 ∨ op = 16 := by omega
theorem wrap_rng (x : Int) : 0 ≤ IntKind.u64.wrap x ∧ IntKind.u64.wrap x < 18446744073709551616 := by rw [IntKind.wrap_u64]; omega
theorem land_lt {a b : Int} (ha : 0 ≤ a) (ha2 : a < 18446744073709551616) (hb : 0 ≤ b) (hb2 : b < 18446744073709551616) : ((a.toNat &&& b.toNat : Nat) : Int) < 18446744073709551616 := by
  have := Nat.and_lt_two_pow (n := 64) a.toNat (y := b.toNat) (by omega); omega
theorem lor_lt {a b : Int} (ha : 0 ≤ a) (ha2 : a < 18446744073709551616) (hb : 0 ≤ b) (hb2 : b < 18446744073709551616) : ((a.toNat ||| b.toNat : Nat) : Int) < 18446744073709551616 := by
  have := Nat.or_lt_two_pow (n := 64) (x := a.toNat) (y := b.toNat) (by omega) (by omega); omega
theorem lxor_lt {a b : Int} (ha : 0 ≤ a) (ha2 : a < 18446744073709551616) (hb : 0 ≤ b) (hb2 : b < 18446744073709551616) : ((a.toNat ^^^ b.toNat : Nat) : Int) < 18446744073709551616 := by
  have := Nat.xor_lt_two_pow (n := 64) (x := a.toNat) (y := b.toNat) (by omega) (by omega); omega
theorem div_rng {x y : Int} (hx : 0 ≤ x) (hx2 : x < 18446744073709551616) (hy : 0 < y) : 0 ≤ x / y ∧ x / y < 18446744073709551616 :=
  ⟨Int.ediv_nonneg hx (by omega), Int.lt_of_le_of_lt (Int.ediv_le_self y hx) hx2⟩
theorem mod_rng {x y : Int} (hx : 0 ≤ x) (hy2 : y < 18446744073709551616) (hy : 0 < y) : 0 ≤ x % y ∧ x % y < 18446744073709551616 :=
  ⟨Int.emod_nonneg x (by omega), Int.lt_trans (Int.emod_lt_of_pos x hy) hy2⟩
theorem shr_rng {x : Int} (n : Nat) (hx : 0 ≤ x) (hx2 : x < 18446744073709551616) : 0 ≤ x / 2 ^ n ∧ x / 2 ^ n < 18446744073709551616 :=
  div_rng hx hx2 (Int.pow_pos (by omega))
theorem binU_any (op k x y : Int) (w : World) (hx : 0 ≤ x) (hx2 : x < 18446744073709551616) (hy : 0 ≤ y) (hy2 : y < 18446744073709551616) (h1 : 1 ≤ op) (h2 : op ≤ 16) (hz : op = 4 ∨ op = 5 → 0 < y) :
    Calls Tryz.prog 136 #[.int .i64 op, .int .i64 k, .int .u64 x, .int .u64 y] w fun e w' => e = .returned (.int .u64 (Wd.bu op k x y)) ∧ w' = w := by
  have Hz : Hid (op = 4 ∨ op = 5 → 0 < y) := hz
  clear hz
  rcases ops16 h1 h2 with h | h | h | h | h | h | h | h | h | h | h | h | h | h | h | h
  all_goals
    subst h
    first | have hy0 : 0 < y := Hz.out (by decide) | skip
    clear Hz h1 h2
    go_enter Tryz.func136, Tryz.ntmps136
    go_wp2_with (first | (go_at_call 145; go_in) | (go_at_call 151; refine (compareU_any _ _ _ _).mono ?_; rintro e w' ⟨rfl, rfl⟩))
    first
      | (go_ret; exact ⟨rfl, rfl⟩)
      | (refine (canon_any _ _ _ ?_ ?_).mono ?_
         · first | exact (wrap_rng _).1 | exact (div_rng hx hx2 hy0).1 | exact (mod_rng hx hy2 hy0).1 | exact (shr_rng _ hx hx2).1 | (simp only [Go.u64_and _ _ hx hx2 hy hy2, Go.u64_or _ _ hx hx2 hy hy2, Go.u64_xor _ _ hx hx2 hy hy2]; omega)
         · first | exact (wrap_rng _).2 | exact (div_rng hx hx2 hy0).2 | exact (mod_rng hx hy2 hy0).2 | exact (shr_rng _ hx hx2).2 | (rw [Go.u64_and _ _ hx hx2 hy hy2]; exact land_lt hx hx2 hy hy2) | (rw [Go.u64_or _ _ hx hx2 hy hy2]; exact lor_lt hx hx2 hy hy2) | (rw [Go.u64_xor _ _ hx hx2 hy hy2]; exact lxor_lt hx hx2 hy hy2)
         · rintro e w' ⟨rfl, rfl⟩
           go_wp2
           go_ret
           refine ⟨ret_u64 ?_, rfl⟩
           simp only [Wd.bu1, Wd.bu2, Wd.bu3, Wd.bu4, Wd.bu5, Wd.bu6, Wd.bu7, Wd.bu8, Wd.bu9, Wd.bu10, Wd.canon_wrap, Go.u64_and _ _ hx hx2 hy hy2, Go.u64_or _ _ hx hx2 hy hy2, Go.u64_xor _ _ hx hx2 hy hy2])
theorem sg_wrap (x : Int) : wrap64 x = Wd.sg x := by unfold wrap64 Wd.sg; rfl
theorem sg_ne {y : Int} (h : 0 < y) (h2 : y < 18446744073709551616) : (wrap64 y == 0) = false := by rw [beq_eq_false_iff_ne]; unfold wrap64; omega
theorem canon_sg (k x : Int) : Wd.canon k (Wd.sg x) = Wd.canon k x := by
  rw [← Wd.canon_mod k x, ← Wd.canon_mod k (Wd.sg x)]; congr 1; unfold Wd.sg; omega
theorem binS_any (op k x y : Int) (w : World) (hx : 0 ≤ x) (hx2 : x < 18446744073709551616) (hy : 0 ≤ y) (hy2 : y < 18446744073709551616) (h1 : 1 ≤ op) (h2 : op ≤ 16) (hz : op = 4 ∨ op = 5 → 0 < y) :
    Calls Tryz.prog 135 #[.int .i64 op, .int .i64 k, .int .u64 x, .int .u64 y] w fun e w' => e = .returned (.int .u64 (Wd.bs op k x y)) ∧ w' = w := by
  have Hz : Hid (op = 4 ∨ op = 5 → 0 < y) := hz
  clear hz
  rcases ops16 h1 h2 with h | h | h | h | h | h | h | h | h | h | h | h | h | h | h | h
  all_goals
    subst h
    first | (have hy0 : 0 < y := Hz.out (by decide); have hy3 : ¬ wrap64 y = 0 := by have := sg_ne hy0 hy2; simpa using this) | skip
    clear Hz h1 h2
    go_enter Tryz.func135, Tryz.ntmps135
    go_wp2_with (first | (go_at_call 145; go_in) | (go_at_call 150; refine (compareI_any _ _ _ _).mono ?_; rintro e w' ⟨rfl, rfl⟩) | (go_at_call 136; refine (binU_any _ _ _ _ _ (by assumption) (by assumption) (by assumption) (by assumption) (by decide) (by decide) (by intro h; simp at h)).mono ?_; rintro e w' ⟨rfl, rfl⟩))
    first
      | (go_ret; refine ⟨ret_u64 ?_, rfl⟩; first | exact (Wd.bsu _ _ _ _ (by decide) (by decide) (by decide) (by decide)).symm | (rw [Wd.bsc _ _ _ _ (by decide)]; simp only [sg_wrap]) | (rw [Wd.bs10, IntKind.wrap_u64, sg_wrap]))
      | (refine (canon_any _ _ _ (wrap_rng _).1 (wrap_rng _).2).mono ?_
         rintro e w' ⟨rfl, rfl⟩
         go_wp2
         go_ret
         refine ⟨ret_u64 ?_, rfl⟩
         simp only [Wd.bs4, Wd.bs5, Wd.canon_wrap, canon_sg, sg_wrap])
theorem ret_bin {a b c d : Int} (h : (c, d) = (a, b)) : Ending.returned (.tuple #[.int .u64 a, .int .i64 b]) = .returned (.tuple #[.int .u64 c, .int .i64 d]) := by cases h; rfl
theorem opcases (op : Int) : op = 9 ∨ op = 10 ∨ op = 4 ∨ op = 5 ∨ ((op == 9) = false ∧ (op == 10) = false ∧ (op == 4) = false ∧ (op == 5) = false) := by
 simp only [beq_eq_false_iff_ne]; omega
theorem binI_kind (op k x y : Int) (w : World) (hh : Wd.hasBinB op k = false) :
  Calls Tryz.prog 111 #[.int .i64 op, .int .i64 k, .int .u64 x, .int .u64 y] w fun e w' => e = .returned (.tuple #[.int .u64 0, .int .i64 10]) ∧ w' = w := by
 go_enter Tryz.func111, Tryz.ntmps111
 go_wp2_with (go_at_call 131; refine (hasBin_any _ _ _).mono ?_; rintro e w' ⟨rfl, rfl⟩)
 go_ret2
 exact ⟨rfl, rfl⟩
theorem binI_form (op k x y : Int) (w : World) (hx : 0 ≤ x) (hx2 : x < 18446744073709551616) (hy : 0 ≤ y) (hy2 : y < 18446744073709551616)
  (hh : Wd.hasBinB op k = true) (hf : Wd.isB k x = false ∨ Wd.isB (if Wd.shB op then 9 else k) y = false) :
  Calls Tryz.prog 111 #[.int .i64 op, .int .i64 k, .int .u64 x, .int .u64 y] w fun e w' => e = .returned (.tuple #[.int .u64 0, .int .i64 11]) ∧ w' = w := by
 cases hix : Wd.isB k x
 ·clear hf
  rcases opcases op with h | h | h | h | ⟨h9, h10, h4, h5⟩
  all_goals
   first | subst h | skip
   go_enter Tryz.func111, Tryz.ntmps111
   go_wp2_with (first | (go_at_call 131; refine (hasBin_any _ _ _).mono ?_; rintro e w' ⟨rfl, rfl⟩) | (go_at_call 132; refine (is_any _ _ _ (by assumption) (by assumption)).mono ?_; rintro e w' ⟨rfl, rfl⟩))
   go_ret2
   exact ⟨rfl, rfl⟩
 ·have Hf : Hid (Wd.isB (if Wd.shB op then 9 else k) y = false) := by rcases hf with h | h; { rw [hix] at h; cases h }; exact h
  clear hf
  rcases opcases op with h | h | h | h | ⟨h9, h10, h4, h5⟩
  all_goals
   first | subst h | skip
   first
    | have hf : Wd.isB 9 y = false := Hf.out
    | have hf : Wd.isB k y = false := Hf.out
    | have hf : Wd.isB k y = false := by have := Hf.out; unfold Wd.shB at this; rw [h9, h10] at this; exact this
   clear Hf
   go_enter Tryz.func111, Tryz.ntmps111
   go_wp2_with (first | (go_at_call 131; refine (hasBin_any _ _ _).mono ?_; rintro e w' ⟨rfl, rfl⟩) | (go_at_call 132; refine (is_any _ _ _ (by assumption) (by assumption)).mono ?_; rintro e w' ⟨rfl, rfl⟩))
   go_ret2
   exact ⟨rfl, rfl⟩
theorem binI_zero (op k x : Int) (w : World) (hx : 0 ≤ x) (hx2 : x < 18446744073709551616) (ho : op = 4 ∨ op = 5) (hk : (k == 10) = false)
  (hh : Wd.hasBinB op k = true) (hix : Wd.isB k x = true) (hiy : Wd.isB k 0 = true) :
  Calls Tryz.prog 111 #[.int .i64 op, .int .i64 k, .int .u64 x, .int .u64 0] w fun e w' => e = .returned (.tuple #[.int .u64 0, .int .i64 12]) ∧ w' = w := by
 rcases ho with h | h
 all_goals
  subst h
  go_enter Tryz.func111, Tryz.ntmps111
  go_wp2_with (first | (go_at_call 131; refine (hasBin_any _ _ _).mono ?_; rintro e w' ⟨rfl, rfl⟩) | (go_at_call 132; refine (is_any _ _ _ (by first | assumption | decide) (by first | assumption | decide)).mono ?_; rintro e w' ⟨rfl, rfl⟩))
  go_ret2
  exact ⟨rfl, rfl⟩
theorem binI_ok (op k x y : Int) (w : World) (hx : 0 ≤ x) (hx2 : x < 18446744073709551616) (hy : 0 ≤ y) (hy2 : y < 18446744073709551616) (hk : (k == 10) = false)
  (hh : Wd.hasBinB op k = true) (hix : Wd.isB k x = true) (hf : Wd.isB (if Wd.shB op then 9 else k) y = true) (hz : op = 4 ∨ op = 5 → 0 < y) :
  Calls Tryz.prog 111 #[.int .i64 op, .int .i64 k, .int .u64 x, .int .u64 y] w fun e w' => e = .returned (.tuple #[.int .u64 (if Wd.sgnB k then Wd.bs op k x y else Wd.bu op k x y), .int .i64 0]) ∧ w' = w := by
 have Hz : Hid (op = 4 ∨ op = 5 → 0 < y) := hz
 obtain ⟨ho1, ho2⟩ := Wd.hasBin_ops hh
 have hfc : (op = 9 ∨ op = 10) ∧ Wd.isB 9 y = true ∨ ((op == 9) = false ∧ (op == 10) = false) ∧ Wd.isB k y = true := by
  by_cases h : op = 9 ∨ op = 10
  ·left; refine ⟨h, ?_⟩; have e : Wd.shB op = true := by rcases h with rfl | rfl <;> rfl
   rw [e] at hf; exact hf
  ·right; have e : (op == 9) = false ∧ (op == 10) = false := by simp only [beq_eq_false_iff_ne]; omega
   refine ⟨e, ?_⟩; unfold Wd.shB at hf; rw [e.1, e.2] at hf; exact hf
 clear hf
 have hyc : y = 0 ∧ (op == 4) = false ∧ (op == 5) = false ∨ (y == 0) = false := by
  by_cases h : y = 0
  ·left; refine ⟨h, ?_⟩; simp only [beq_eq_false_iff_ne]; constructor <;> (intro e; have := hz (by omega); omega)
  ·right; simpa using h
 clear hz
 cases hs : Wd.sgnB k
 all_goals
  rcases hyc with ⟨rfl, h4, h5⟩ | hyc
  all_goals
   rcases hfc with ⟨rfl | rfl, hf⟩ | ⟨⟨h9, h10⟩, hf⟩
   all_goals
    go_enter Tryz.func111, Tryz.ntmps111
    go_wp2_with (first | (go_at_call 131; refine (hasBin_any _ _ _).mono ?_; rintro e w' ⟨rfl, rfl⟩) | (go_at_call 132; refine (is_any _ _ _ (by first | assumption | decide) (by first | assumption | decide)).mono ?_; rintro e w' ⟨rfl, rfl⟩) | (go_at_call 134; refine (signed_any _ _).mono ?_; rintro e w' ⟨rfl, rfl⟩) | (go_at_call 135; refine (binS_any _ _ _ _ _ (by assumption) (by assumption) (by first | assumption | decide) (by first | assumption | decide) (by first | assumption | decide) (by first | assumption | decide) Hz.out).mono ?_; rintro e w' ⟨rfl, rfl⟩) | (go_at_call 136; refine (binU_any _ _ _ _ _ (by assumption) (by assumption) (by first | assumption | decide) (by first | assumption | decide) (by first | assumption | decide) (by first | assumption | decide) Hz.out).mono ?_; rintro e w' ⟨rfl, rfl⟩))
    all_goals
     go_ret2
     exact ⟨ret_bin rfl, rfl⟩
theorem binI_any (op k x y : Int) (w : World) (hx : 0 ≤ x) (hx2 : x < 18446744073709551616) (hy : 0 ≤ y) (hy2 : y < 18446744073709551616) (hk : k ≠ 10) :
  Calls Tryz.prog 111 #[.int .i64 op, .int .i64 k, .int .u64 x, .int .u64 y] w fun e w' => e = .returned (.tuple #[.int .u64 (Wd.binI op k x y).1, .int .i64 (Wd.binI op k x y).2]) ∧ w' = w := by
 have hk' : (k == 10) = false := by simpa using hk
 unfold Wd.binI
 cases hh : Wd.hasBinB op k
 ·rw [if_pos rfl]; exact binI_kind op k x y w hh
 ·rw [if_neg (by simp)]
  by_cases hf : Wd.isB k x = false ∨ Wd.isB (if Wd.shB op then 9 else k) y = false
  ·rw [if_pos hf]; exact binI_form op k x y w hx hx2 hy hy2 hh hf
  ·rw [if_neg hf]
   have hix : Wd.isB k x = true := by cases h : Wd.isB k x; { exact absurd (.inl h) hf }; rfl
   have hiy : Wd.isB (if Wd.shB op then 9 else k) y = true := by cases h : Wd.isB (if Wd.shB op then 9 else k) y; { exact absurd (.inr h) hf }; rfl
   by_cases hz : y = 0 ∧ (op = 4 ∨ op = 5)
   ·rw [if_pos hz]
    obtain ⟨rfl, ho⟩ := hz
    have hs : Wd.shB op = false := by rcases ho with rfl | rfl <;> rfl
    rw [hs] at hiy
    exact binI_zero op k x w hx hx2 ho hk' hh hix hiy
   ·rw [if_neg hz]
    refine (binI_ok op k x y w hx hx2 hy hy2 hk' hh hix hiy (by intro h; have : y ≠ 0 := fun e => hz ⟨e, h⟩; omega)).mono ?_
    rintro e w' ⟨rfl, rfl⟩
    refine ⟨?_, rfl⟩
    split <;> rfl
end Go.Proofs.YtkiockffejlnhaaGreatDoor
namespace Go.Proofs.YtkiockffejlnhaaGreatDoor
open Go.RowKit
set_option linter.unusedVariables false
namespace Wd
def bv (op k x y : Int) : Int := (binI op k x y).1
end Wd
end Go.Proofs.YtkiockffejlnhaaGreatDoor
