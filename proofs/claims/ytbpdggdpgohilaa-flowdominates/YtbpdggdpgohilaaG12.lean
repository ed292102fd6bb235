/- Contracts and plain facts that the walks share. -/
import Derived.Test.YtbpdggdpgohilaaG9
import Derived.Test.YtbpdggdpgohilaaRows
import Derived.Test.YtbpdggdpgohilaaG8
import Derived.Defers
import Derived.Recover
import Derived.Shelf.SlIterI.Sorted
import Derived.Shelf.SortM.Plain
import Derived.Shelf.SortM.SortNone
import Derived.RangeFuncBox
import Derived.RangeFuncLeaves
import Derived.RangeFuncWrites
import Derived.OwnWalkIn
import Derived.TacticsInMore
import Derived.LoopNIn
import Derived.LoopIn
import Derived.Maps.AppendAt
import Derived.Sort.OwnSortedInts
namespace Go.Proofs.Ytbpdggdpgohilaa
open Go.RowKit
set_option linter.unusedVariables false
set_option maxRecDepth 100000
set_option maxHeartbeats 4000000
theorem saOfF {w : World} {PB : Nat} {x : Except Int Unit} (hc : Calls Try.prog 36 #[.pointer (some ⟨PB, 0, none⟩)] (w.alloc (Obj.cells #[.int .i64 0] 32)) fun e w' => e = saX x ∧ (w.alloc (Obj.cells #[.int .i64 0] 32)).grownBy w' none) :
    Calls Try.prog 35 #[.func (.func 36) #[] #[.pointer (some ⟨PB, 0, none⟩)]] w fun e w' => e = .returned (.int .i64 (Sa.num x)) ∧ w.grownBy w' none := by
  have hmf : ∀ (fn : Fn) (first cap : Array Value) (w : World), (Instr.makeFunc fn first cap).run Try.prog w = .ok (.func fn first cap) w := fun _ _ _ _ => rfl
  have HC : Hid (Calls Try.prog 36 #[.pointer (some ⟨PB, 0, none⟩)] (w.alloc (Obj.cells #[.int .i64 0] 32)) fun e w' => e = saX x ∧ (w.alloc (Obj.cells #[.int .i64 0] 32)).grownBy w' none) := hc
  clear hc
  have HK : Hid (Bk (w.alloc (Obj.cells #[.int .i64 0] 32)) w.heap.size 32 [.int .i64 0]) := Bk.new _ _ _
  cases x with
  | error er =>
    simp only [saX] at HC
    go_enter_defers Try.func35, Try.ntmps35
    go_wp2_with fail
    refine Calls.mono HC.out ?_
    rintro e w1 ⟨rfl, g1⟩
    have E1 := HK.out.grow g1
    have G1 : Ch w w1 [] := Ch.of (grown_trans (World.grownBy_alloc _ _ _) g1)
    clear g1 HC HK
    refine leaves_cons (f := 45) (args := #[.pointer (some ⟨w.heap.size, 0, none⟩)]) (by simp) (by simp [go_sem]) ?_
    refine (saCaught w.heap.size er _ [] _ E1).mono ?_
    rintro e u' w3 ⟨rfl, rfl, E3, G3⟩
    have x2 := E3.cell (i := 0) rfl
    have GG : w.grownBy w3 none := ((G1.mono (l' := [w.heap.size]) (by simp)).trans G3).nil (by simp)
    clear E1 G1 E3 G3
    simp [Leaves, settle, results, Try.results35, go_sem, x2, GG, Sa.num]
  | ok u =>
    simp only [saX] at HC
    go_enter_defers Try.func35, Try.ntmps35
    go_wp2_with fail
    refine Calls.mono HC.out ?_
    rintro e w1 ⟨rfl, g1⟩
    have E1 := HK.out.grow g1
    have G1 : Hid (w.grownBy w1 none) := grown_trans (World.grownBy_alloc _ _ _) g1
    have k0 := E1.cell (i := 0) rfl
    have k1 := E1.frozen 0
    have HE1 : Hid (Bk w1 w.heap.size 32 [.int .i64 0]) := E1
    clear g1 HC HK E1
    go_wp2_with fail
    have E2 := HE1.out.set 0 (.int .i64 0)
    have G2 : w.grownBy (w1.setCell ⟨w.heap.size, 0, none⟩ (.int .i64 0)) none := ((Ch.of (l := [w.heap.size]) G1.out).trans (Ch.one (grown_set _ _ _ _) (by simp))).nil (by simp)
    refine leaves_cons (f := 45) (args := #[.pointer (some ⟨w.heap.size, 0, none⟩)]) (by simp) (by simp [go_sem]) ?_
    refine (saIdle _ _).mono ?_
    rintro e u' w3 ⟨rfl, rfl, d, rfl⟩
    have x2 := (E2.grow (grown_drewN (World.grownBy.refl _ none) d)).cell (i := 0) rfl
    have GG := grown_drewN G2 d
    simp [Leaves, settle, results, Try.results35, go_sem, x2, GG, Sa.num]
end Go.Proofs.Ytbpdggdpgohilaa
namespace Go.Proofs.Ytbpdggdpgohilaa
open Go.RowKit Go.Shelf
set_option maxRecDepth 100000
def sortedA_ren : Go.Shelf.Ren := ⟨fun | 6 => 58 | 8 => 62 | 9 => 63 | 11 => 65 | 13 => 67 | 12 => 66 | 23 => 77 | 24 => 78 | 14 => 68 | 15 => 69 | 16 => 70 | 17 => 71 | 18 => 72 | 19 => 73 | 20 => 74 | 21 => 75 | 22 => 76 | 25 => 79 | 26 => 80 | 27 => 81 | 28 => 82 | 29 => 83 | 30 => 84 | 31 => 85 | n => n, fun | 26 => 3 | 28 => 102 | 24 => 24 | 0 => 0 | 3 => 3 | 37 => 80 | 48 => 92 | 50 => 95 | 4 => 4 | 40 => 111 | 39 => 110 | 45 => 115 | 5 => 5 | 9 => 9 | 51 => 119 | 55 => 123 | 57 => 125 | 58 => 126 | 33 => 78 | n => n, fun | n => n⟩
theorem sortedA : Go.Proofs.SlLaysZI.n6 Try.prog sortedA_ren := {
  mixed := by kernel_rfl
  f6 := ⟨Try.f58.name, by decide, Try.func58.trans (congrArg some (by kernel_rfl))⟩
  f8 := ⟨Try.f62.name, by decide, Try.func62.trans (congrArg some (by kernel_rfl))⟩
  f11 := ⟨Try.f65.name, by decide, Try.func65.trans (congrArg some (by kernel_rfl))⟩
  t0 := Try.underlying0
  a0 := Try.isAgg0
  z0 := Try.sizeOf0
  v0 := Try.zeroValue0
  t24 := Try.underlying24
  a24 := Try.isAgg24
  z24 := Try.sizeOf24
  v24 := Try.zeroValue24
  t26 := Try.underlying3
  a26 := Try.isAgg3
  z26 := Try.sizeOf3
  v26 := Try.zeroValue3
  t28 := Try.underlying102
  a28 := Try.isAgg102
  z28 := Try.sizeOf102
  v28 := Try.zeroValue102
  i26 := by kernel_rfl }
def sortA_ren : Go.Shelf.Ren := ⟨fun | 5 => 63 | 8 => 67 | 7 => 66 | 19 => 77 | 20 => 78 | 10 => 68 | 11 => 69 | 12 => 70 | 13 => 71 | 14 => 72 | 15 => 73 | 16 => 74 | 17 => 75 | 18 => 76 | 30 => 79 | 31 => 80 | 32 => 81 | 33 => 82 | 34 => 83 | 35 => 84 | 40 => 85 | n => n, fun | 23 => 24 | 25 => 3 | 3 => 3 | 32 => 80 | 22 => 24 | 0 => 0 | 44 => 92 | 46 => 95 | 4 => 4 | 36 => 111 | 35 => 110 | 41 => 115 | 5 => 5 | 9 => 9 | 53 => 119 | 57 => 123 | 63 => 125 | 64 => 126 | n => n, fun | n => n⟩
theorem sortA : Go.Proofs.SlLaysM.n5 Try.prog sortA_ren := {
  mixed := by kernel_rfl
  f5 := ⟨Try.f63.name, by decide, Try.func63.trans (congrArg some (by kernel_rfl))⟩
  f7 := ⟨Try.f66.name, by decide, Try.func66.trans (congrArg some (by kernel_rfl))⟩
  f8 := Try.func67.trans (congrArg some (by kernel_rfl))
  f10 := ⟨Try.f68.name, by decide, Try.func68.trans (congrArg some (by kernel_rfl))⟩
  f11 := ⟨Try.f69.name, by decide, Try.func69.trans (congrArg some (by kernel_rfl))⟩
  f12 := ⟨Try.f70.name, by decide, Try.func70.trans (congrArg some (by kernel_rfl))⟩
  f13 := ⟨Try.f71.name, by decide, Try.func71.trans (congrArg some (by kernel_rfl))⟩
  f14 := ⟨Try.f72.name, by decide, Try.func72.trans (congrArg some (by kernel_rfl))⟩
  f15 := ⟨Try.f73.name, by decide, Try.func73.trans (congrArg some (by kernel_rfl))⟩
  f16 := ⟨Try.f74.name, by decide, Try.func74.trans (congrArg some (by kernel_rfl))⟩
  f17 := ⟨Try.f75.name, by decide, Try.func75.trans (congrArg some (by kernel_rfl))⟩
  f18 := ⟨Try.f76.name, by decide, Try.func76.trans (congrArg some (by kernel_rfl))⟩
  f19 := Try.func77.trans (congrArg some (by kernel_rfl))
  f20 := Try.func78.trans (congrArg some (by kernel_rfl))
  f30 := ⟨Try.f79.name, by decide, Try.func79.trans (congrArg some (by kernel_rfl))⟩
  f31 := Try.func80.trans (congrArg some (by kernel_rfl))
  f32 := Try.func81.trans (congrArg some (by kernel_rfl))
  f33 := ⟨Try.f82.name, by decide, Try.func82.trans (congrArg some (by kernel_rfl))⟩
  f34 := ⟨Try.f83.name, by decide, Try.func83.trans (congrArg some (by kernel_rfl))⟩
  f35 := ⟨Try.f84.name, by decide, Try.func84.trans (congrArg some (by kernel_rfl))⟩
  f40 := ⟨Try.f85.name, by decide, Try.func85.trans (congrArg some (by kernel_rfl))⟩
  t0 := Try.underlying0
  a0 := Try.isAgg0
  z0 := Try.sizeOf0
  v0 := Try.zeroValue0
  t3 := Try.underlying3
  a3 := Try.isAgg3
  z3 := Try.sizeOf3
  v3 := Try.zeroValue3
  t4 := Try.underlying4
  a4 := Try.isAgg4
  z4 := Try.sizeOf4
  v4 := Try.zeroValue4
  t5 := Try.underlying5
  a5 := Try.isAgg5
  z5 := Try.sizeOf5
  v5 := Try.zeroValue5
  t9 := Try.underlying9
  a9 := Try.isAgg9
  z9 := Try.sizeOf9
  v9 := Try.zeroValue9
  t22 := Try.underlying24
  a22 := Try.isAgg24
  z22 := Try.sizeOf24
  v22 := Try.zeroValue24
  t23 := Try.underlying24
  a23 := Try.isAgg24
  z23 := Try.sizeOf24
  v23 := Try.zeroValue24
  t25 := Try.underlying3
  a25 := Try.isAgg3
  z25 := Try.sizeOf3
  v25 := Try.zeroValue3
  t32 := Try.underlying80
  a32 := Try.isAgg80
  z32 := Try.sizeOf80
  v32 := Try.zeroValue80
  t35 := Try.underlying110
  a35 := Try.isAgg110
  z35 := Try.sizeOf110
  v35 := Try.zeroValue110
  t36 := Try.underlying111
  a36 := Try.isAgg111
  z36 := Try.sizeOf111
  v36 := Try.zeroValue111
  t41 := Try.underlying115
  a41 := Try.isAgg115
  z41 := Try.sizeOf115
  v41 := Try.zeroValue115
  t44 := Try.underlying92
  a44 := Try.isAgg92
  z44 := Try.sizeOf92
  v44 := Try.zeroValue92
  t46 := Try.underlying95
  a46 := Try.isAgg95
  z46 := Try.sizeOf95
  v46 := Try.zeroValue95
  t53 := Try.underlying119
  a53 := Try.isAgg119
  z53 := Try.sizeOf119
  v53 := Try.zeroValue119
  t57 := Try.underlying123
  a57 := Try.isAgg123
  z57 := Try.sizeOf123
  v57 := Try.zeroValue123
  t63 := Try.underlying125
  a63 := Try.isAgg125
  z63 := Try.sizeOf125
  v63 := Try.zeroValue125
  t64 := Try.underlying126
  a64 := Try.isAgg126
  z64 := Try.sizeOf126
  v64 := Try.zeroValue126 }
end Go.Proofs.Ytbpdggdpgohilaa
namespace Go.Proofs.Ytbpdggdpgohilaa
open Go.RowKit Go.Shelf Go.Sort
set_option linter.unusedVariables false
attribute [local go_sem] Oper.semAt_some

theorem NumL.below {n : Nat} {W W' : World} {a : Option Addr} {k : Nat} {l : List Int} (h : NumL (· < n) W a k l) (g : Below n W W') : NumL (· < n) W' a k l := NumL.ch h (Ch.ofBelow g) (fun q hq hm => by have := (List.mem_range'_1.1 hm).1; omega) (fun _ h => h)
set_option maxRecDepth 100000 in
set_option maxHeartbeats 2000000 in
theorem saVals1_in (F : Fence) (n : Nat) (hf : F.fn 64) (hro : F.round = none) (hn : 1 ≤ n) (l Bs n₀ : Nat) (a : Option Addr) (k : Nat) (zs : List Int) (J Jx : List Int → World → Prop)
    (hY : ∀ pre x W, J pre W → pre.length < zs.length → YieldAt F (n - 1) Try.prog l #[.int .i64 x] W fun e W' =>
      (e = .returned (.bool true) ∧ J (pre ++ [x]) W' ∧ Below n₀ W W') ∨ (e = .returned (.bool false) ∧ Jx (pre ++ [x]) W'))
    (W : World) (hBs : W.cell? ⟨Bs, 0, none⟩ = some (.slice a zs.length k)) (hc : NumL (· < n₀) W a k zs) (h0 : J [] W) :
    CallsIn F n Try.prog 64 #[.func (.yield l) #[] #[], .pointer (some ⟨Bs, 0, none⟩)] W fun e W' => (∃ v, e = .returned v) ∧
      ((∃ ys, ys = zs ∧ J ys W') ∨ (∃ pre, pre <+: zs ∧ Jx pre W')) := by
  have hle := hc.le
  have hmx := hc.max
  unfold maxLen at hmx
  have HC : Hid (∀ W', Below n₀ W W' → NumL (· < n₀) W' a k zs) := fun W' g => hc.below g
  clear hc
  refine callsIn_of_wp Try.func64 rfl hf ?_ hro
  simp only [Try.ntmps64, List.size_toArray, List.length_cons, List.length_nil, Nat.reduceAdd, Nat.reduceSub, Array.replicate_succ, Array.replicate_zero, List.push_toArray, List.append_toArray, List.nil_append, List.cons_append]
  gi_wp2
  gi_loopw [7] (fun ix wr => ∃ i : Nat, i ≤ zs.length ∧ ix = .int .i64 i ∧ J (zs.take i) wr ∧ Below n₀ W wr) (fun ix _ => zs.length - (intOf ix).toNat)
  case atStart => exact ⟨0, Nat.zero_le _, rfl, h0, Below.refl _ _⟩
  case round =>
    obtain ⟨i, hi, rfl, hJs, hnx⟩ := hrel
    by_cases hlt : i < zs.length
    · obtain ⟨b, o, rfl, _, hz⟩ := (HC.out wr hnx).at hlt
      unfold NumQ at hz
      rw [Nat.mul_one] at hz
      obtain ⟨fn, tmps, assign, body, hy, hR⟩ := hY _ zs[i] wr hJs (by rw [List.length_take]; omega)
      have ht : zs.take (i + 1) = zs.take i ++ [zs[i]] := List.take_succ_eq_append_getElem hlt
      have HT : Hid (zs.take (i + 1) = zs.take i ++ [zs[i]]) := ht
      rw [← ht] at hR
      clear ht
      have hltI : (i : Int) < zs.length := by omega
      generalize zs[i] = z at *
      gi_wp2
      refine hR.mono ?_
      rintro e W3 (⟨rfl, hJ3, hk3⟩ | ⟨rfl, hJx3⟩)
      · gi_wp2
        go_roundw
        case rel => exact ⟨i + 1, by omega, by simp, hJ3, hnx.trans hk3⟩
        case measure => simp [intOf]; omega
      · gi_wp2
        refine bodyPost_ret (results_none rfl _ _ _) rfl ?_
        exact ⟨⟨_, rfl⟩, .inr ⟨_, List.take_prefix _ _, hJx3⟩⟩
    · obtain rfl : i = zs.length := by omega
      rw [List.take_length] at hJs
      gi_wp2
      go_end0
      exact ⟨⟨_, rfl⟩, .inl ⟨_, rfl, hJs⟩⟩
theorem saValues_in (F : Fence) (n : Nat) (hf : F.fn 59) (hro : F.round = none) (a : Option Addr) (len cap : Nat) (w : World) :
    CallsIn F n Try.prog 59 #[.slice a len cap] w fun e w' => e = .returned (.func (.func 64) #[] #[.pointer (some ⟨w.heap.size, 0, none⟩)]) ∧ w' = w.alloc (.cells #[.slice a len cap] 24) := by
  refine callsIn_of_wp Try.func59 rfl hf ?_ hro
  simp only [Try.ntmps59, List.size_toArray, List.length_cons, List.length_nil, Nat.reduceAdd, Nat.reduceSub, Array.replicate_succ, Array.replicate_zero, List.push_toArray, List.append_toArray, List.nil_append, List.cons_append]
  gi_wp2
  go_ret
  exact ⟨rfl, rfl⟩
theorem saVals_stops (F : Fence) (n : Nat) (hf : F.fn 64) (hro : F.round = none) (hn : 1 ≤ n) (Bs n₀ : Nat) (a : Option Addr) (k : Nat) (zs : List Int) (w : World) (hBs : Bs < w.heap.size) (hn₀ : n₀ ≤ w.heap.size)
    (hc : w.cell? ⟨Bs, 0, none⟩ = some (.slice a zs.length k)) (hI : NumL (· < n₀) w a k zs) :
    SeqStopsK F n Try.prog 64 #[.pointer (some ⟨Bs, 0, none⟩)] (fun x : Int => #[Value.int .i64 x]) (Below n₀) (fun ys => ys = zs) (fun pre => pre <+: zs) zs.length w := fun l J Jx W hW _ _ hY h0 =>
  saVals1_in F n hf hro hn l Bs n₀ a k zs J Jx hY W ((hW.cell (p := ⟨Bs, 0, none⟩) hBs).trans hc) (hI.below (hW.mono hn₀)) h0
set_option maxRecDepth 100000 in
set_option maxHeartbeats 2000000 in
theorem saAppSeq_in (F : Fence) (n : Nat) (hf : F.fn 65) (hf1 : F.fn 64) (hro : F.round = none) (hn : 3 ≤ n) (Bs : Nat) (a : Option Addr) (k : Nat) (zs : List Int) (hlen : zs.length ≤ 2000000) (w : World) (hBs : Bs < w.heap.size)
    (hc : w.cell? ⟨Bs, 0, none⟩ = some (.slice a zs.length k)) (hI : NumL (· < w.heap.size) w a k zs) :
    CallsIn F n Try.prog 65 #[.slice none 0 0, .func (.func 64) #[] #[.pointer (some ⟨Bs, 0, none⟩)]] w fun e W' => ∃ v, e = .returned v ∧ OwnZ W' w.heap.size v zs ∧ Below w.heap.size w W' := by
  have h1 : 1 ≤ n := by omega
  obtain ⟨i0, hi, hz0, hz1, hz2⟩ := info_parts info_int
  refine callsIn_of_wp_marks Try.func65 rfl hf ?_ hro
  simp only [Try.ntmps65, List.size_toArray, List.length_cons, List.length_nil, Nat.reduceAdd, Nat.reduceSub, Array.replicate_succ, Array.replicate_zero, List.push_toArray, List.append_toArray, List.nil_append, List.cons_append]
  gi_wp2
  have bO := Boxed.new w 24 (.slice none 0 0)
  have hB0 : Below w.heap.size w (w.alloc (.cells #[.slice none 0 0] 24)) := (Below.refl _ w).alloc (Nat.le_refl _) _
  refine wpIn_rangeFunc_ownG hro h1 (gf := 64) (lb := #[.pointer (some ⟨Bs, 0, none⟩)]) rfl hf1 (enters_of Try.func64 (by kernel_rfl) rfl)
    (saVals_stops F (n - 1) hf1 hro (by omega) Bs w.heap.size a k zs (w.alloc (.cells #[.slice none 0 0] 24)) (by simp; omega) (by simp) ((hB0.cell (p := ⟨Bs, 0, none⟩) hBs).trans hc) (hI.below hB0)) belowK_t (belowK_b (by simp)) (Below.refl _ _) (fun _ => rfl)
    (fun pre W => (∃ v, Boxed W w.heap.size 24 v ∧ W.ownsRow w.heap.size 3 1 v pre.length (pre.map (Value.int .i64)) ∧ True) ∧ Below w.heap.size w W)
    (fun _ _ _ => False)
    (OwnFrom.and (Own.from (holdsRow_own w.heap.size w.heap.size 24 3 1 (fun pre : List Int => pre.length) (fun pre => pre.map (Value.int .i64)) (fun _ _ => True)) _) (ownFrom_below (Nat.le_refl _) (by simp)))
    (fun _ _ _ _ _ hs _ _ => hs)
    ⟨⟨_, bO, World.ownsRow_nil _ _ _ _, trivial⟩, hB0⟩
    (fun x => { tmps := #[.slice none 0 0, .func (.func 64) #[] #[.pointer (some ⟨Bs, 0, none⟩)], .pointer (some ⟨w.heap.size, 0, none⟩), undef, .slice none 0 0, .int .i64 x, .func (.func 64) #[] #[.pointer (some ⟨Bs, 0, none⟩)], .int .i64 x, undef, undef, undef, undef, undef], defers := [] }) ?assign ?body ?done ?stop
  case assign =>
    intro l x W K hK
    gi_wp2
    exact hK
  case body =>
    rintro l pre x W ⟨⟨v, hv, hrow, -⟩, hB⟩ hlt
    have hc := hv.cell
    gi_wp2_with (gi_at_builtin; refine wpListIn_append_own _ rfl _ _ 24 rfl w.heap.size 3 i0 (.int .i64 0) 1 8 Try.underlying24 hi hz0 hz1 hz2 rfl (by decide) _ _ _ rfl (hrow.alloc _) ⟨W.heap.size, 0, none⟩ 1 1 [.int .i64 x] rfl rfl (cell_one_new _ _ _) (by simp [Value.oneCell']) (by unfold maxLen; omega) (by omega) (by have := hB.size; simp; omega) ?_; intro v' w1 hown' hgrow _; obtain ⟨g', cap', rfl⟩ := ownsRow_succ hown'; obtain ⟨hv1, hv2, hr2, hk2, hb2⟩ := hv.appended (by decide) hrow hB.size (Nat.le_refl _) hown' hgrow; have hc1 := hv1.cell; have hf1 := hv1.frozen)
    exact ⟨hk2.from _, hb2, ⟨_, hv2, by simpa using hr2, trivial⟩, hB.trans hb2⟩
  case done =>
    rintro D ys W hD rfl ⟨⟨v, hv, hrow, -⟩, hB⟩ hK
    have hc := hv.cell
    gi_wp2
    refine ⟨by simp, .inl ⟨_, _, rfl, run_takeDeferred hK, ?_⟩⟩
    exact ⟨_, results_tmp rfl _ _ _, v, rfl, ownsRow_putObj hrow _ hK rfl, hB.trans (belowK_b (w := w) (Nat.le_refl _) W D _ _ (by simp at hD; omega) hK rfl rfl)⟩
  case stop =>
    rintro D c pre W _ _ h _
    exact h.elim
set_option maxHeartbeats 1000000 in
theorem saCollect_in (F : Fence) (n : Nat) (hc' : F.fn 62) (hf : F.fn 65) (hf1 : F.fn 64) (hro : F.round = none) (hn : 4 ≤ n) (Bs : Nat) (a : Option Addr) (k : Nat) (zs : List Int) (hlen : zs.length ≤ 2000000) (w : World) (hBs : Bs < w.heap.size)
    (hc : w.cell? ⟨Bs, 0, none⟩ = some (.slice a zs.length k)) (hI : NumL (· < w.heap.size) w a k zs) :
    CallsIn F n Try.prog 62 #[.func (.func 64) #[] #[.pointer (some ⟨Bs, 0, none⟩)]] w fun e W' => ∃ v, e = .returned v ∧ OwnZ W' w.heap.size v zs ∧ Below w.heap.size w W' := by
  have h1 : 1 ≤ n := by omega
  have cA := saAppSeq_in F (n - 1) hf hf1 hro (by omega) Bs a k zs hlen w hBs hc hI
  clear hc hI
  refine callsIn_of_wp Try.func62 rfl hc' ?_ hro
  simp only [Try.ntmps62, List.size_toArray, List.length_cons, List.length_nil, Nat.reduceAdd, Nat.reduceSub, Array.replicate_succ, Array.replicate_zero, List.push_toArray, List.append_toArray, List.nil_append, List.cons_append]
  gi_wp2_with (gi_at_call 65; refine cA.mono ?_; rintro e w' ⟨v, rfl, hrow, hb⟩)
  go_ret
  exact ⟨v, rfl, hrow, hb⟩

theorem saSort_any (blk cap : Nat) (zs : List Int) (w : World) (hH : Holds (Value.int .i64) w blk 0 zs.toArray) (hblk : blk < w.heap.size) (hsz : zs.length < 4611686018427387904) : Calls Try.prog 63 #[.slice (some ⟨blk, 0, none⟩) zs.length cap] w fun e w' => e = .returned (.tuple #[]) ∧ ∃ n os, w' = grow (putRow (Value.int .i64) (Sort.ahead w n) blk 0 (zs.mergeSort fun x y => decide (x ≤ y)).toArray) os := AnyM.slices_Sort_int sortA blk 0 cap zs w hH hblk hsz
theorem saSort_none (p : Option Addr) (cap : Nat) (w : World) : Calls Try.prog 63 #[.slice p 0 cap] w fun e w' => e = .returned (.tuple #[]) ∧ w' = w := AnyM.slices_Sort_int_none sortA p cap w
set_option maxHeartbeats 1000000 in
theorem saSorted_any (Bs : Nat) (a : Option Addr) (k : Nat) (zs : List Int) (hlen : zs.length ≤ 2000000) (w : World) (hBs : Bs < w.heap.size) (hc : w.cell? ⟨Bs, 0, none⟩ = some (.slice a zs.length k)) (hI : NumL (· < w.heap.size) w a k zs) :
    Calls Try.prog 58 #[.func (.func 64) #[] #[.pointer (some ⟨Bs, 0, none⟩)]] w fun e w' => ∃ v, e = .returned v ∧ OwnZ w' w.heap.size v (zs.mergeSort fun x y => decide (x ≤ y)) ∧ w.grownBy w' none := by
  have cC : Calls Try.prog 62 #[.func (.func 64) #[] #[.pointer (some ⟨Bs, 0, none⟩)]] w fun e W' => ∃ v, e = .returned v ∧ OwnZ W' w.heap.size v zs ∧ Below w.heap.size w W' := (callsIn_wide (n := 5)).1 (saCollect_in Fence.wide 5 trivial trivial trivial rfl (by omega) Bs a k zs hlen w hBs hc hI)
  clear hc hI
  go_enter Try.func58, Try.ntmps58
  go_wp2_with (go_at_call 62; refine cC.mono ?_; rintro e W ⟨v, rfl, hrow, hb⟩)
  rcases hrow.2 with ⟨rfl, hz⟩ | ⟨gb, cap, cur, rfl, hbase, hgb, r1, r2, r3, r4⟩
  · have hss : zs = [] := List.eq_nil_of_length_eq_zero hz
    subst hss
    clear hrow hz
    have HB : Hid (Below w.heap.size w W) := hb
    clear hb
    go_wp2_with (go_at_call 63; refine (saSort_none none 0 W).mono ?_; rintro e w' ⟨rfl, hw'⟩; rw [hw']; clear hw' w')
    go_ret
    exact ⟨_, rfl, by rw [List.mergeSort_nil]; exact World.ownsRow_nil _ _ _ _, belowNone HB.out⟩
  · have hH : Holds (Value.int .i64) W gb 0 zs.toArray := holds_of_blockI hgb (by simpa using r4)
    have hgl : gb < W.heap.size := (Array.getElem?_eq_some_iff.1 hgb).1
    have cS := saSort_any gb cap zs W hH hgl (by omega)
    have HB : Hid (Below w.heap.size w W) := hb
    have HO : Hid (∀ nn os, OwnZ (grow (putRow (Value.int .i64) (Sort.ahead W nn) gb 0 (zs.mergeSort fun x y => decide (x ≤ y)).toArray) os) w.heap.size (.slice (some ⟨gb, 0, none⟩) zs.length cap) (zs.mergeSort fun x y => decide (x ≤ y)) ∧ Below w.heap.size w (grow (putRow (Value.int .i64) (Sort.ahead W nn) gb 0 (zs.mergeSort fun x y => decide (x ≤ y)).toArray) os)) := fun nn os => by
      refine ⟨?_, hb.grown (grownBy_sortedI _) hb.size (fun j hj => by cases hj; exact hbase)⟩
      have := ownsRow_sortedI (w := W) (n := nn) (os := os) (ss := zs) (ts := zs.mergeSort fun x y => decide (x ≤ y)) (by simp) hbase hgb r1 r2 r3
      unfold OwnZ
      rw [show (zs.mergeSort fun x y => decide (x ≤ y)).length = zs.length by simp]
      exact this
    clear hH hgl hb hrow hgb r1 r2 r3 r4
    go_wp2_with (go_at_call 63; refine cS.mono ?_; rintro e w' ⟨rfl, nn, os, hw'⟩; have HW : Hid (w' = grow (putRow (Value.int .i64) (Sort.ahead W nn) gb 0 (zs.mergeSort fun x y => decide (x ≤ y)).toArray) os) := hw'; clear hw')
    go_ret
    exact ⟨_, rfl, by rw [HW.out]; exact (HO.out nn os).1, by rw [HW.out]; exact belowNone (HO.out nn os).2⟩
end Go.Proofs.Ytbpdggdpgohilaa
namespace Go.Proofs.Ytbpdggdpgohilaa
open Go.RowKit
set_option linter.unusedVariables false
theorem NumIn.grow0 {N : Nat} {w w' : World} {a : Option Addr} {n c : Nat} {M : Nat → Int} (h : NumIn N w a n c M) (g : w.grownBy w' none) : NumIn N w' a n c M := NumIn.ch h (Ch.of (l := []) g) (by simp)
set_option maxRecDepth 100000 in
set_option maxHeartbeats 4000000 in
theorem saEqual0_any {N M : Nat} {w : World} {a b : Option Addr} {ac bc : Nat} {l m : List Int} (hl : NumIn N w a l.length ac (fun i => l.getD i 0)) (hm : NumIn M w b m.length bc (fun i => m.getD i 0)) :
    Calls Try.prog 57 #[.slice a l.length ac, .slice b m.length bc] w fun r w' => r = .returned (.bool (l == m)) ∧ w.grownBy w' none := by
  have hll := hl.le
  have hml := hm.le
  have hlx := hl.max
  have hmx := hm.max
  unfold maxLen at hlx hmx
  by_cases he : l.length = m.length
  · have HL : Hid (∀ W, w.grownBy W none → NumIn N W a l.length ac (fun i => l.getD i 0)) := fun W g => hl.grow0 g
    have HM : Hid (∀ W, w.grownBy W none → NumIn M W b l.length bc (fun i => m.getD i 0)) := fun W g => by rw [he]; exact hm.grow0 g
    obtain ⟨R, hR⟩ : ∃ R : Bool, R = (l == m) := ⟨_, rfl⟩
    have HR1 : Hid ((∀ k, k < l.length → l.getD k 0 = m.getD k 0) → R = true) := fun hh => by
      rw [hR, beq_iff_eq]
      refine List.ext_getElem he fun k h1 h2 => ?_
      have := hh k h1
      simpa [List.getD_eq_getElem?_getD, h1, h2] using this
    have HR0 : Hid (∀ k, k < l.length → l.getD k 0 ≠ m.getD k 0 → R = false) := fun k hk hne => by
      rw [hR, beq_eq_false_iff_ne]
      intro e
      exact hne (by rw [e])
    rw [← hR, ← he]
    clear hR hl hm
    generalize l.length = n at *
    have hn' : (n : Int) ≤ 9223372036854775807 := by omega
    clear he hml
    have hbl : n ≤ bc := (HM.out w (World.grownBy.refl _ _)).le
    go_enter Try.func57, Try.ntmps57
    go_wp2_with fail
    go_loopw [13] (fun ix wr => ∃ k : Nat, ix = .int .i64 k ∧ k ≤ n ∧ w.grownBy wr none ∧ ∀ j, j < k → l.getD j 0 = m.getD j 0) (fun ix _ => n - (intOf ix).toNat)
    case atStart => exact ⟨0, rfl, Nat.zero_le _, World.grownBy.refl _ _, fun j hj => by omega⟩
    case round =>
      obtain ⟨k, rfl, hk, hg, heq⟩ := hrel
      have HG : Hid (w.grownBy wr none) := hg
      have HEq : Hid (∀ j, j < k → l.getD j 0 = m.getD j 0) := heq
      by_cases hkn : k < n
      · have hkn' : (k : Int) < n := by omega
        obtain ⟨b1, o1, e1, _, c1⟩ := (HL.out wr hg).at hkn
        obtain ⟨b2, o2, e2, _, c2⟩ := (HM.out wr hg).at hkn
        subst e1 e2
        have HN := HR0.out k hkn
        obtain ⟨x, hx⟩ : ∃ x, x = l.getD k 0 := ⟨_, rfl⟩
        obtain ⟨y, hy⟩ : ∃ y, y = m.getD k 0 := ⟨_, rfl⟩
        rw [← hx] at c1 HN
        rw [← hy] at c2 HN
        have HX : Hid (x = l.getD k 0 ∧ y = m.getD k 0) := ⟨hx, hy⟩
        clear hx hy hg heq
        by_cases hxy : x = y
        · clear HN
          have hb : (x != y) = false := by simp [hxy]
          have HXY : Hid (x = y) := hxy
          clear hxy
          go_wp2_with fail
          go_quiet (fail)
          go_wp2
          go_roundw
          case rel => exact ⟨k + 1, by go_num, by omega, grown_trans HG.out (grown_drewN (World.grownBy.refl _ none) _), fun j hj => by
            by_cases e : j < k
            · exact HEq.out j e
            · obtain rfl : j = k := by omega
              rw [← HX.out.1, ← HX.out.2, HXY.out]⟩
          case measure => simp [intOf]; omega
        · obtain rfl := HN hxy
          have hb : (x != y) = true := by simp [hxy]
          go_wp2_with fail
          go_quiet (fail)
          go_wp2
          go_ret
          exact ⟨rfl, grown_trans HG.out (grown_drewN (World.grownBy.refl _ none) _)⟩
      · obtain rfl : n = k := by omega
        obtain rfl := HR1.out heq
        clear hg heq
        go_wp2_with fail
        go_ret
        exact ⟨rfl, HG.out⟩
  · have hb : ((l.length : Int) != m.length) = true := by simp; omega
    have hr : (l == m) = false := by rw [beq_eq_false_iff_ne]; intro e; exact he (by rw [e])
    rw [hr]
    clear hl hm
    generalize l.length = n at *
    generalize m.length = q at *
    go_enter Try.func57, Try.ntmps57
    go_wp2_with fail
    go_ret
    exact ⟨rfl, World.grownBy.refl _ _⟩
end Go.Proofs.Ytbpdggdpgohilaa
namespace Go.Proofs.Ytbpdggdpgohilaa
open Go.RowKit
set_option linter.unusedVariables false
set_option maxRecDepth 100000
set_option maxHeartbeats 4000000
theorem OwnN.num2 {w : World} {base n : Nat} {v : Value} {g : Nat → Int} (h : OwnN w base v n g) : ∃ a c, v = .slice a n c ∧ NumIn w.heap.size w a n c g := by
  obtain ⟨a, c, hv, h1, h2, h3⟩ := h.slice
  refine ⟨a, c, hv, h1, h2, ?_⟩
  rcases Nat.eq_zero_or_pos n with h0 | h0
  · exact .inl h0
  · obtain ⟨T, e1, e2, e3⟩ := h3 h0
    subst hv e1
    exact .inr ⟨T, 0, rfl, e3, fun i hi => by rw [Nat.zero_add]; exact h.cell hi⟩
theorem NumL.in2 {B : Nat → Prop} {w : World} {a : Option Addr} {c N : Nat} {l : List Int} (h : NumL B w a c l) (hB : ∀ q, B q → q < N) : NumIn N w a l.length c (fun i => l.getD i 0) := by
  refine ⟨h.le, h.max, ?_⟩
  rcases h.lie with h0 | ⟨b, o, e, hb, hx⟩
  · exact .inl (by rw [h0]; rfl)
  · refine .inr ⟨b, o, e, hB b hb, fun i hi => ?_⟩
    have := hx i _ (List.getElem?_eq_getElem hi)
    unfold NumQ at this
    rw [Nat.mul_one] at this
    rw [this]
    simp [List.getD_eq_getElem?_getD, hi]
theorem saIsSame_any {B : Nat → Prop} {w : World} {a a2 : Option Addr} {k k2 : Nat} {r l : List Int} (hB : ∀ q, B q → q < w.heap.size) (hr : NumL B w a k r) (hl : NumL (· < w.heap.size) w a2 k2 l) (hlen : r.length ≤ 2000000) : Calls Try.prog 50 #[.slice a r.length k, .slice a2 l.length k2] w fun e w' => e = .returned (.bool (Sa.isSame r l)) ∧ w.grownBy w' none := by
  have h1 := hr.le
  have h2 := hr.max
  have h3 := hl.le
  have h4 := hl.max
  unfold maxLen at h2 h4
  by_cases he : r.length = l.length
  case neg =>
    have e1 : ((r.length : Int) == (l.length : Int)) = false := by simp; omega
    have HE : Hid (Sa.isSame r l = false) := by
      show Sa.isSame r l = false
      unfold Sa.isSame
      rw [show (r.length == l.length) = false by simp [he]]
      rfl
    clear hr hl he
    go_enter Try.func50, Try.ntmps50
    go_wp2
    go_ret
    exact ⟨by rw [HE.out]; rfl, World.grownBy.refl _ _⟩
  have e1 : ((r.length : Int) == (l.length : Int)) = true := by simp; omega
  have hg := World.grownBy_alloc w (Obj.cells #[.slice a2 l.length k2] 24) none
  have HG : Hid (w.grownBy (w.alloc (Obj.cells #[.slice a2 l.length k2] 24)) none) := hg
  have HV : Hid (Calls Try.prog 59 #[.slice a2 l.length k2] w fun e w' => e = .returned (.func (.func 64) #[] #[.pointer (some ⟨w.heap.size, 0, none⟩)]) ∧ w' = w.alloc (.cells #[.slice a2 l.length k2] 24)) := (callsIn_wide (n := 5)).1 (saValues_in Fence.wide 5 trivial rfl a2 l.length k2 w)
  have HS : Hid (Calls Try.prog 58 #[.func (.func 64) #[] #[.pointer (some ⟨w.heap.size, 0, none⟩)]] (w.alloc (Obj.cells #[.slice a2 l.length k2] 24)) fun e w' => ∃ v, e = .returned v ∧ OwnZ w' (w.alloc (Obj.cells #[.slice a2 l.length k2] 24)).heap.size v (l.mergeSort fun x y => decide (x ≤ y)) ∧ (w.alloc (Obj.cells #[.slice a2 l.length k2] 24)).grownBy w' none) :=
    saSorted_any w.heap.size a2 k2 l (by omega) _ (by simp) ((Bk.new w 24 [.slice a2 l.length k2]).cell (i := 0) rfl) (RowL.mono (NumL.grow1 hl hg) (fun q hq => by simp; omega) (fun _ _ _ _ _ h => h))
  have HQ : Hid (∀ W v, w.grownBy W none → OwnZ W (w.alloc (Obj.cells #[.slice a2 l.length k2] 24)).heap.size v (l.mergeSort fun x y => decide (x ≤ y)) → ∃ a3 c3, v = .slice a3 (l.mergeSort fun x y => decide (x ≤ y)).length c3 ∧ Calls Try.prog 57 #[.slice a r.length k, .slice a3 (l.mergeSort fun x y => decide (x ≤ y)).length c3] W fun e w' => e = .returned (.bool (Sa.isSame r l)) ∧ W.grownBy w' none) := fun W v g hO => by
    obtain ⟨a3, c3, hv, hn⟩ := OwnN.num2 (OwnZ.n hO)
    refine ⟨a3, c3, hv, ?_⟩
    have h9 := saEqual0_any (NumL.in2 (NumL.grow1 hr g) (fun q hq => Nat.lt_of_lt_of_le (hB q hq) g.size)) hn
    refine h9.mono fun e w' h => ⟨?_, h.2⟩
    rw [h.1]
    unfold Sa.isSame
    rw [show (r.length == l.length) = true by simp [he], Bool.true_and]
  clear hr hl he hg
  generalize Sa.isSame r l = ze at *
  generalize (l.mergeSort fun x y => decide (x ≤ y)) = srt at *
  go_enter Try.func50, Try.ntmps50
  go_wp2_with (first
    | (go_at_call 59; refine HV.out.mono ?_; rintro e w1 ⟨rfl, hw1⟩; rw [hw1]; clear hw1 w1)
    | (go_at_call 58; refine HS.out.mono ?_; rintro e w2 ⟨v, rfl, ho, hg2⟩; have HG2 : Hid (w.grownBy w2 none) := grown_trans HG.out hg2; obtain ⟨a3, c3, rfl, hE⟩ := HQ.out w2 v HG2.out ho; clear ho hg2)
    | (go_at_call 57; refine hE.mono ?_; rintro e w3 ⟨rfl, hg3⟩; have HG3 : Hid (w.grownBy w3 none) := grown_trans HG2.out hg3; clear hg3))
  go_ret
  exact ⟨rfl, HG3.out⟩
end Go.Proofs.Ytbpdggdpgohilaa
