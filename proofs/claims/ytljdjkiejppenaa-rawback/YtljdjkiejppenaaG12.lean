/- Contracts and plain facts that the walks share. -/
import Derived.Test.YtljdjkiejppenaaRdP
import Derived.Test.YtljdjkiejppenaaG11
import Derived.Test.YtljdjkiejppenaaG6
import Derived.Test.YtljdjkiejppenaaBtPg
import Derived.Test.YtljdjkiejppenaaPgEq
namespace Go.Proofs.Ytljdjkiejppenaa
open Go.RowKit
set_option linter.unusedVariables false
set_option maxRecDepth 100000 in
set_option maxHeartbeats 4000000 in
theorem fault_idle (pp pe : Addr) (w : World) :
    CallsD Try.prog 59 #[.pointer (some pp), .pointer (some pe)] .returning w fun e u' w' => e = .returned (.tuple #[]) ∧ u' = .returning ∧ ∃ d, w' = w.drewN d := by
  refine callsD_of_wpS Try.func59 rfl fun c₀ cs hu => ?_
  apply wpS_seq
  apply wpS_region
  simp [wpOpsS, go_sem, recoverD, hu, Try.ntmps59, Exit.thenS]
  refine wpS_of_wp ?_
  have ht : #[Value.pointer (some pp), Value.pointer (some pe)] ++
          ((Array.replicate 17 undef).setIfInBounds 3 Value.nilIface).setIfInBounds 0 Value.nilIface
      = #[.pointer (some pp), .pointer (some pe), .nilIface, undef, undef, .nilIface, undef, undef, undef, undef, undef, undef, undef, undef, undef, undef, undef, undef, undef] := by kernel_rfl
  rw [ht]
  clear ht
  go_wp2
  cases c₀
  simp_all [bodyPostS, results, Try.results59]
  exact ⟨0, rfl⟩
/-- a cut program: the reader's own panic, 80 -/
theorem read_cut {w : World} {a : Option Addr} {c : Nat} {L : List Int} (h : Lf w a c L)
    (hP : Calls Try.prog 60 #[.pointer (some ⟨w.heap.size + 1 + 1, 0, none⟩)] (rdW8 w (.slice a L.length c)) fun e w' => e = faults 80 ∧ (rdW8 w (.slice a L.length c)).grownBy w' (some (w.heap.size + 1 + 1))) :
    Calls Try.prog 33 #[.slice a L.length c] w fun e w' => e = .returned (.tuple #[.agg #[.slice none 0 0, .slice none 0 0], .int .i64 80]) ∧ w.grownBy w' none := by
  have hmf : ∀ (fn : Fn) (first cap : Array Value) (w : World), (Instr.makeFunc fn first cap).run Try.prog w = .ok (.func fn first cap) w := fun _ _ _ _ => rfl
  obtain ⟨q1, q2, q3, q4⟩ := rdW8_ok w a c L h
  have HP : Hid (Calls Try.prog 60 #[.pointer (some ⟨w.heap.size + 1 + 1, 0, none⟩)] (rdW8 w (.slice a L.length c)) fun e w' => e = faults 80 ∧ (rdW8 w (.slice a L.length c)).grownBy w' (some (w.heap.size + 1 + 1))) := hP
  have Q2 : Hid ((rdW8 w (.slice a L.length c)).heap[w.heap.size]? = some (.cells #[.slice none 0 0, .slice none 0 0] 27)) := q2
  have Q3 : Hid ((rdW8 w (.slice a L.length c)).heap[w.heap.size + 1]? = some (.cells #[.int .i64 0] 30)) := q3
  have Q4 : Hid (w.grownBy (rdW8 w (.slice a L.length c)) none) := q4
  clear hP q1 q2 q3 q4 h
  go_enter_defers Try.func33, Try.ntmps33
  go_wp2_with fail
  refine Calls.mono HP.out ?_
  rintro e w1 ⟨rfl, g1⟩
  have P1 : w1.heap[w.heap.size]? = some (.cells #[.slice none 0 0, .slice none 0 0] 27) := (g1.block _ (Array.getElem?_eq_some_iff.1 Q2.out).1 (by simp; omega)).trans Q2.out
  have E1 : w1.heap[w.heap.size + 1]? = some (.cells #[.int .i64 0] 30) := (g1.block _ (Array.getElem?_eq_some_iff.1 Q3.out).1 (by simp)).trans Q3.out
  have G1 : Ch w w1 [] := Ch.new (Ch.of Q4.out) (by omega) g1
  unfold faults
  clear g1 HP Q2 Q3 Q4
  refine leaves_cons (f := 59) (args := #[.pointer (some ⟨w.heap.size, 0, none⟩), .pointer (some ⟨w.heap.size + 1, 0, none⟩)]) (by simp) (by simp [go_sem]) ?_
  refine (fault_caught w.heap.size (w.heap.size + 1) 80 _ _ _ [] _ P1 E1 (by omega)).mono ?_
  rintro e u' w3 ⟨rfl, rfl, P3, E3, G3⟩
  have x0 : w3.cell? ⟨w.heap.size, 0, none⟩ = some (.slice none 0 0) := rcell P3 0
  have x1 : w3.cell? ⟨w.heap.size, 1, none⟩ = some (.slice none 0 0) := rcell P3 1
  have x2 : w3.cell? ⟨w.heap.size + 1, 0, none⟩ = some (.int .i64 80) := rcell E3 0
  have GG : w.grownBy w3 none := ((G1.mono (l' := [w.heap.size, w.heap.size + 1]) (by simp)).trans G3).nil (by simp)
  clear P1 E1 G1 P3 E3 G3
  simp [Leaves, settle, results, Try.results33, go_sem, x0, x1, x2, GG]
set_option maxRecDepth 100000 in
set_option maxHeartbeats 4000000 in
/-- a program, and nothing behind it -/
theorem read_full {w : World} {a : Option Addr} {c : Nat} {L : List Int} {x : Pg.Pr} {n d : Nat} (h : Lf w a c L)
    (hP : Calls Try.prog 60 #[.pointer (some ⟨w.heap.size + 1 + 1, 0, none⟩)] (rdW8 w (.slice a L.length c)) fun e w' => ∃ a1 k1 a2 k2, e = .returned (.agg #[.slice a1 x.types.length k1, .slice a2 x.funcs.length k2]) ∧ TpL (Fresh (rdW8 w (.slice a L.length c)) w') w' a1 k1 x.types ∧ FnL (Fresh (rdW8 w (.slice a L.length c)) w') w' a2 k2 x.funcs ∧ Rd w.heap.size w' (w.heap.size + 1 + 1) [] n d ∧ (rdW8 w (.slice a L.length c)).grownBy w' (some (w.heap.size + 1 + 1))) :
    Calls Try.prog 33 #[.slice a L.length c] w fun e w' => ∃ a1 k1 a2 k2, e = .returned (.tuple #[.agg #[.slice a1 x.types.length k1, .slice a2 x.funcs.length k2], .int .i64 0]) ∧ TpL (Fresh w w') w' a1 k1 x.types ∧ FnL (Fresh w w') w' a2 k2 x.funcs ∧ w.grownBy w' none := by
  have hmf : ∀ (fn : Fn) (first cap : Array Value) (w : World), (Instr.makeFunc fn first cap).run Try.prog w = .ok (.func fn first cap) w := fun _ _ _ _ => rfl
  obtain ⟨q1, q2, q3, q4⟩ := rdW8_ok w a c L h
  have HP : Hid (Calls Try.prog 60 #[.pointer (some ⟨w.heap.size + 1 + 1, 0, none⟩)] (rdW8 w (.slice a L.length c)) fun e w' => ∃ a1 k1 a2 k2, e = .returned (.agg #[.slice a1 x.types.length k1, .slice a2 x.funcs.length k2]) ∧ TpL (Fresh (rdW8 w (.slice a L.length c)) w') w' a1 k1 x.types ∧ FnL (Fresh (rdW8 w (.slice a L.length c)) w') w' a2 k2 x.funcs ∧ Rd w.heap.size w' (w.heap.size + 1 + 1) [] n d ∧ (rdW8 w (.slice a L.length c)).grownBy w' (some (w.heap.size + 1 + 1))) := hP
  have Q2 : Hid ((rdW8 w (.slice a L.length c)).heap[w.heap.size]? = some (.cells #[.slice none 0 0, .slice none 0 0] 27)) := q2
  have Q3 : Hid ((rdW8 w (.slice a L.length c)).heap[w.heap.size + 1]? = some (.cells #[.int .i64 0] 30)) := q3
  have Q4 : Hid (w.grownBy (rdW8 w (.slice a L.length c)) none) := q4
  have hsz : w.heap.size + 1 + 1 + 1 ≤ (rdW8 w (.slice a L.length c)).heap.size := q1.lt
  clear hP q1 q2 q3 q4 h
  go_enter_defers Try.func33, Try.ntmps33
  go_wp2_with fail
  refine Calls.mono HP.out ?_
  rintro e w1 ⟨a0, c0, a1, c1, rfl, t1, f1, h1, g1⟩
  have P1 : w1.heap[w.heap.size]? = some (.cells #[.slice none 0 0, .slice none 0 0] 27) := (g1.block _ (Array.getElem?_eq_some_iff.1 Q2.out).1 (by simp; omega)).trans Q2.out
  have E1 : w1.heap[w.heap.size + 1]? = some (.cells #[.int .i64 0] 30) := (g1.block _ (Array.getElem?_eq_some_iff.1 Q3.out).1 (by simp)).trans Q3.out
  have G1 : Ch w w1 [] := Ch.new (Ch.of Q4.out) (by omega) g1
  have s1 := g1.size
  have T1 : Hid (TpL (fun q => w.heap.size + 1 + 1 < q ∧ q < w1.heap.size) w1 a0 c0 x.types ∧ FnL (fun q => w.heap.size + 1 + 1 < q ∧ q < w1.heap.size) w1 a1 c1 x.funcs) := ⟨TpL.ch t1 (Ch.refl w1 []) (by simp) (fun q hq => ⟨by have := hq.1; omega, hq.2⟩), FnL.ch f1 (Ch.refl w1 []) (by simp) (fun q hq => ⟨by have := hq.1; omega, hq.2⟩)⟩
  clear t1 f1 g1 HP Q2 Q3 Q4
  have m0 : w1.cell? ⟨w.heap.size, 0, none⟩ = some (.slice none 0 0) := rcell P1 0
  have m1 : w1.cell? ⟨w.heap.size, 1, none⟩ = some (.slice none 0 0) := rcell P1 1
  have m2 : w1.cell? ⟨w.heap.size + 1, 0, none⟩ = some (.int .i64 0) := rcell E1 0
  have k2 : w1.frozen? ⟨w.heap.size + 1, 0, none⟩ = false := rfrozen E1 0
  have k0 : w1.frozen? ⟨w.heap.size, 0, none⟩ = false := rfrozen P1 0
  have k1 : w1.frozen? ⟨w.heap.size, 1, none⟩ = false := rfrozen P1 1
  have P2 := rset (rset P1 0 (.slice a0 x.types.length c0)) 1 (.slice a1 x.funcs.length c1)
  have E2 : ((w1.setCell ⟨w.heap.size, 0, none⟩ (.slice a0 x.types.length c0)).setCell ⟨w.heap.size, 1, none⟩ (.slice a1 x.funcs.length c1)).heap[w.heap.size + 1]? = some (.cells #[.int .i64 0] 30) := by
    rw [(grown_setCell _ w.heap.size 1 (.slice a1 x.funcs.length c1)).block _ (by simp; exact (Array.getElem?_eq_some_iff.1 E1).1) (by simp), (grown_setCell w1 w.heap.size 0 (.slice a0 x.types.length c0)).block _ (Array.getElem?_eq_some_iff.1 E1).1 (by simp)]
    exact E1
  have h2 := (h1.kept (grown_setCell w1 w.heap.size 0 (.slice a0 x.types.length c0)) (Nat.le_refl _) (by omega)).kept (grown_setCell _ w.heap.size 1 (.slice a1 x.funcs.length c1)) (Nat.le_refl _) (by omega)
  have G2 : Ch w1 ((w1.setCell ⟨w.heap.size, 0, none⟩ (.slice a0 x.types.length c0)).setCell ⟨w.heap.size, 1, none⟩ (.slice a1 x.funcs.length c1)) [w.heap.size, w.heap.size + 1] := (Ch.one (grown_setCell w1 w.heap.size 0 (.slice a0 x.types.length c0)) (by simp)).trans (Ch.one (grown_setCell _ w.heap.size 1 (.slice a1 x.funcs.length c1)) (by simp))
  obtain ⟨b, k, h3, h4, h5⟩ := h2
  have HH : Hid (w1.heap.size ≤ ((w1.setCell ⟨w.heap.size, 0, none⟩ (.slice a0 x.types.length c0)).setCell ⟨w.heap.size, 1, none⟩ (.slice a1 x.funcs.length c1)).heap.size ∧ ((w1.setCell ⟨w.heap.size, 0, none⟩ (.slice a0 x.types.length c0)).setCell ⟨w.heap.size, 1, none⟩ (.slice a1 x.funcs.length c1)).heap[w.heap.size]? = some (.cells #[.slice a0 x.types.length c0, .slice a1 x.funcs.length c1] 27) ∧ ((w1.setCell ⟨w.heap.size, 0, none⟩ (.slice a0 x.types.length c0)).setCell ⟨w.heap.size, 1, none⟩ (.slice a1 x.funcs.length c1)).heap[w.heap.size + 1]? = some (.cells #[.int .i64 0] 30) ∧ Ch w1 ((w1.setCell ⟨w.heap.size, 0, none⟩ (.slice a0 x.types.length c0)).setCell ⟨w.heap.size, 1, none⟩ (.slice a1 x.funcs.length c1)) [w.heap.size, w.heap.size + 1]) := ⟨G2.size, P2, E2, G2⟩
  have HG : Hid (Ch w w1 []) := G1
  have r0 : ((w1.setCell ⟨w.heap.size, 0, none⟩ (.slice a0 x.types.length c0)).setCell ⟨w.heap.size, 1, none⟩ (.slice a1 x.funcs.length c1)).cell? ⟨w.heap.size + 1 + 1, 0, none⟩ = some (.slice b 0 k) := rcell h3 0
  clear h1 P1 E1 G1 P2 E2 G2 h3 h4 h5
  go_wp2
  obtain ⟨s5, P5, E5, G5⟩ := HH.out
  have P6 := rset (rset P5 0 (.slice a0 x.types.length c0)) 1 (.slice a1 x.funcs.length c1)
  have G6 := (G5.trans (Ch.one (grown_setCell ((w1.setCell ⟨w.heap.size, 0, none⟩ (.slice a0 x.types.length c0)).setCell ⟨w.heap.size, 1, none⟩ (.slice a1 x.funcs.length c1)) w.heap.size 0 (.slice a0 x.types.length c0)) (by simp))).trans (Ch.one (grown_setCell _ w.heap.size 1 (.slice a1 x.funcs.length c1)) (by simp))
  have E6 : ((((w1.setCell ⟨w.heap.size, 0, none⟩ (.slice a0 x.types.length c0)).setCell ⟨w.heap.size, 1, none⟩ (.slice a1 x.funcs.length c1)).setCell ⟨w.heap.size, 0, none⟩ (.slice a0 x.types.length c0)).setCell ⟨w.heap.size, 1, none⟩ (.slice a1 x.funcs.length c1)).heap[w.heap.size + 1]? = some (.cells #[.int .i64 0] 30) := by
    rw [(grown_setCell _ w.heap.size 1 (.slice a1 x.funcs.length c1)).block _ (by simpa using (Array.getElem?_eq_some_iff.1 E5).1) (by simp), (grown_setCell ((w1.setCell ⟨w.heap.size, 0, none⟩ (.slice a0 x.types.length c0)).setCell ⟨w.heap.size, 1, none⟩ (.slice a1 x.funcs.length c1)) w.heap.size 0 (.slice a0 x.types.length c0)).block _ (Array.getElem?_eq_some_iff.1 E5).1 (by simp)]
    exact E5
  have E7 := rset E6 0 (.int .i64 0)
  have P7 : (((((w1.setCell ⟨w.heap.size, 0, none⟩ (.slice a0 x.types.length c0)).setCell ⟨w.heap.size, 1, none⟩ (.slice a1 x.funcs.length c1)).setCell ⟨w.heap.size, 0, none⟩ (.slice a0 x.types.length c0)).setCell ⟨w.heap.size, 1, none⟩ (.slice a1 x.funcs.length c1)).setCell ⟨w.heap.size + 1, 0, none⟩ (.int .i64 0)).heap[w.heap.size]? = some (.cells #[.slice a0 x.types.length c0, .slice a1 x.funcs.length c1] 27) := by
    rw [(grown_setCell _ (w.heap.size + 1) 0 (.int .i64 0)).block _ (Array.getElem?_eq_some_iff.1 P6).1 (by simp)]
    exact P6
  have G7 := G6.trans (Ch.one (grown_setCell _ (w.heap.size + 1) 0 (.int .i64 0)) (by simp))
  clear m0 m1 m2 k0 k1 k2 r0 HH P5 E5 G5 P6 E6 G6
  generalize (((((w1.setCell ⟨w.heap.size, 0, none⟩ (.slice a0 x.types.length c0)).setCell ⟨w.heap.size, 1, none⟩ (.slice a1 x.funcs.length c1)).setCell ⟨w.heap.size, 0, none⟩ (.slice a0 x.types.length c0)).setCell ⟨w.heap.size, 1, none⟩ (.slice a1 x.funcs.length c1)).setCell ⟨w.heap.size + 1, 0, none⟩ (.int .i64 0)) = W7 at *
  refine leaves_cons (f := 59) (args := #[.pointer (some ⟨w.heap.size, 0, none⟩), .pointer (some ⟨w.heap.size + 1, 0, none⟩)]) (by simp) (by simp [go_sem]) ?_
  refine (fault_idle _ _ _).mono ?_
  rintro e u' w2 ⟨rfl, rfl, d, rfl⟩
  have gd : W7.grownBy (W7.drewN d) none := grown_drewN (World.grownBy.refl _ none) d
  have P8 : (W7.drewN d).heap[w.heap.size]? = some (.cells #[.slice a0 x.types.length c0, .slice a1 x.funcs.length c1] 27) := (gd.block _ (Array.getElem?_eq_some_iff.1 P7).1 (by simp)).trans P7
  have E8 : (W7.drewN d).heap[w.heap.size + 1]? = some (.cells #[.int .i64 0] 30) := (gd.block _ (Array.getElem?_eq_some_iff.1 E7).1 (by simp)).trans E7
  have G8 := G7.trans (Ch.of gd)
  clear P7 E7 G7 gd
  generalize W7.drewN d = W8 at *
  have x0 : W8.cell? ⟨w.heap.size, 0, none⟩ = some (.slice a0 x.types.length c0) := rcell P8 0
  have x1 : W8.cell? ⟨w.heap.size, 1, none⟩ = some (.slice a1 x.funcs.length c1) := rcell P8 1
  have x2 : W8.cell? ⟨w.heap.size + 1, 0, none⟩ = some (.int .i64 0) := rcell E8 0
  have GG : w.grownBy W8 none := ((HG.out.mono (l' := [w.heap.size, w.heap.size + 1]) (by simp)).trans G8).nil (by simp)
  have s8 := G8.size
  have X1 : TpL (Fresh w W8) W8 a0 c0 x.types := TpL.ch T1.out.1 G8 (fun q hq => by have := hq.1; simp; omega) (fun q hq => ⟨by have := hq.1; omega, by have := hq.2; omega⟩)
  have X2 : FnL (Fresh w W8) W8 a1 c1 x.funcs := FnL.ch T1.out.2 G8 (fun q hq => by have := hq.1; simp; omega) (fun q hq => ⟨by have := hq.1; omega, by have := hq.2; omega⟩)
  clear P8 E8 G8 HG T1
  have HX : Hid (TpL (Fresh w W8) W8 a0 c0 x.types ∧ FnL (Fresh w W8) W8 a1 c1 x.funcs ∧ w.grownBy W8 none) := ⟨X1, X2, GG⟩
  clear X1 X2 GG
  simp [Leaves, settle, results, Try.results33, go_sem, x0, x1, x2]
  exact ⟨a0, c0, a1, c1, ⟨⟨rfl, rfl⟩, ⟨rfl, rfl⟩⟩, HX.out⟩
set_option maxRecDepth 100000 in
set_option maxHeartbeats 4000000 in
/-- a program's bytes: the program, and no error -/
theorem decode_full {w : World} {a : Option Addr} {c : Nat} {x : Pg.Pr} (h : Lf w a c x.dl.en) (hx : x.dl.may = true) (hr : ∀ f, f ∈ x.funcs → ∀ y, y ∈ f.body → StR y) (hn : x.dl.nd ≤ 2048) (hd : x.dl.dp ≤ 32) :
    Calls Try.prog 17 #[.slice a x.dl.en.length c] w fun e w' => ∃ a1 k1 a2 k2, e = .returned (.tuple #[.agg #[.slice a1 x.types.length k1, .slice a2 x.funcs.length k2], .int .i64 0]) ∧ TpL (Fresh w w') w' a1 k1 x.types ∧ FnL (Fresh w w') w' a2 k2 x.funcs ∧ w.grownBy w' none := by
  have g1 := World.grownBy_alloc w (.cells #[.slice none 0 0, .slice none 0 0] 27) none
  have hz : (w.alloc (.cells #[.slice none 0 0, .slice none 0 0] 27)).heap.size = w.heap.size + 1 := by simp
  have HC : Hid (Calls Try.prog 33 #[.slice a x.dl.en.length c] (w.alloc (.cells #[.slice none 0 0, .slice none 0 0] 27)) fun e w' => ∃ a1 k1 a2 k2, e = .returned (.tuple #[.agg #[.slice a1 x.types.length k1, .slice a2 x.funcs.length k2], .int .i64 0]) ∧ TpL (Fresh (w.alloc (.cells #[.slice none 0 0, .slice none 0 0] 27)) w') w' a1 k1 x.types ∧ FnL (Fresh (w.alloc (.cells #[.slice none 0 0, .slice none 0 0] 27)) w') w' a2 k2 x.funcs ∧ (w.alloc (.cells #[.slice none 0 0, .slice none 0 0] 27)).grownBy w' none) := by
    have h1 := h.kept g1 (by simp)
    obtain ⟨q1, _, _, q4⟩ := rdW8_ok _ a c x.dl.en h1
    exact read_full (n := 0 + x.dl.nd) (d := 0) h1 (prog_rd x hx hr _ _ _ [] 0 0 (by rw [List.append_nil]; exact q1) q4.size (by omega) (by omega))
  have HP : Hid ((w.alloc (.cells #[.slice none 0 0, .slice none 0 0] 27)).heap[w.heap.size]? = some (.cells #[.slice none 0 0, .slice none 0 0] 27)) := heap_alloc_new w _
  have HG : Hid (w.grownBy (w.alloc (.cells #[.slice none 0 0, .slice none 0 0] 27)) none) := g1
  have HZ : Hid ((w.alloc (.cells #[.slice none 0 0, .slice none 0 0] 27)).heap.size = w.heap.size + 1) := hz
  clear h g1 hx hr hn hd hz
  go_enter Try.func17, Try.ntmps17
  go_wp2_with (go_at_call 33; refine HC.out.mono ?_; rintro e w4 ⟨a0, c0, a1, c1, rfl, t4, f4, g4⟩; have T4 : Hid (TpL (fun q => w.heap.size < q ∧ q < w4.heap.size) w4 a0 c0 x.types ∧ FnL (fun q => w.heap.size < q ∧ q < w4.heap.size) w4 a1 c1 x.funcs) := (by have hz := HZ.out; exact ⟨TpL.ch t4 (Ch.refl w4 []) (by simp) (fun q hq => ⟨by have := hq.1; omega, hq.2⟩), FnL.ch f4 (Ch.refl w4 []) (by simp) (fun q hq => ⟨by have := hq.1; omega, hq.2⟩)⟩); have P4 : Hid (w4.heap[w.heap.size]? = some (.cells #[.slice none 0 0, .slice none 0 0] 27)) := ((g4.block _ (Array.getElem?_eq_some_iff.1 HP.out).1 (by simp)).trans HP.out); have G4 : Hid (w.grownBy w4 none) := grown_trans HG.out g4; have m0 : w4.cell? ⟨w.heap.size, 0, none⟩ = some (.slice none 0 0) := rcell P4.out 0; have m1 : w4.cell? ⟨w.heap.size, 1, none⟩ = some (.slice none 0 0) := rcell P4.out 1; have k0 : w4.frozen? ⟨w.heap.size, 0, none⟩ = false := rfrozen P4.out 0; have k1 : w4.frozen? ⟨w.heap.size, 1, none⟩ = false := rfrozen P4.out 1; clear t4 f4 g4 HC)
  have P5 := rset (rset P4.out 0 (.slice a0 x.types.length c0)) 1 (.slice a1 x.funcs.length c1)
  have C5 : Ch w4 ((w4.setCell ⟨w.heap.size, 0, none⟩ (.slice a0 x.types.length c0)).setCell ⟨w.heap.size, 1, none⟩ (.slice a1 x.funcs.length c1)) [w.heap.size] := (Ch.one (grown_setCell w4 w.heap.size 0 (.slice a0 x.types.length c0)) (by simp)).trans (Ch.one (grown_setCell _ w.heap.size 1 (.slice a1 x.funcs.length c1)) (by simp))
  clear m0 m1 k0 k1
  generalize ((w4.setCell ⟨w.heap.size, 0, none⟩ (.slice a0 x.types.length c0)).setCell ⟨w.heap.size, 1, none⟩ (.slice a1 x.funcs.length c1)) = W5 at *
  have x0 : W5.cell? ⟨w.heap.size, 0, none⟩ = some (.slice a0 x.types.length c0) := rcell P5 0
  have x1 : W5.cell? ⟨w.heap.size, 1, none⟩ = some (.slice a1 x.funcs.length c1) := rcell P5 1
  have s5 := C5.size
  refine bodyPost_ret (by simp [results, Try.results17, go_sem, x0, x1]; try rfl) rfl ?_
  exact ⟨a0, c0, a1, c1, rfl, TpL.ch T4.out.1 C5 (fun q hq => by have := hq.1; simp; omega) (fun q hq => ⟨by have := hq.1; omega, by have := hq.2; omega⟩), FnL.ch T4.out.2 C5 (fun q hq => by have := hq.1; simp; omega) (fun q hq => ⟨by have := hq.1; omega, by have := hq.2; omega⟩), ((Ch.of (l := [w.heap.size]) G4.out).trans C5).nil (by simp)⟩
/-- a beginning of a program's bytes: 80 -/
theorem decode_cut {w : World} {a : Option Addr} {c : Nat} {x : Pg.Pr} {M : List Int} (h : Lf w a c M) (hc : Cut M x.dl.en) (hx : x.dl.may = true) (hr : ∀ f, f ∈ x.funcs → ∀ y, y ∈ f.body → StR y) (hn : x.dl.nd ≤ 2048) (hd : x.dl.dp ≤ 32) :
    Calls Try.prog 17 #[.slice a M.length c] w fun e w' => e = .returned (.tuple #[.agg #[.slice none 0 0, .slice none 0 0], .int .i64 80]) ∧ w.grownBy w' none :=
  decode_of ⟨_, _, _, rfl⟩ ⟨_, _, _, rfl⟩ fun W g => by
    have h1 := h.kept g (by simp)
    obtain ⟨q1, _, _, q4⟩ := rdW8_ok W a c M h1
    exact read_cut h1 (prog_cut x hx hr _ _ _ M 0 0 q1 hc q4.size (by omega) (by omega))
set_option maxRecDepth 100000 in
set_option maxHeartbeats 4000000 in
theorem read_rest {w : World} {a : Option Addr} {c : Nat} {L R : List Int} {x : Pg.Pr} {n d : Nat} (h : Lf w a c L) (hR : R ≠ [])
    (hP : Calls Try.prog 60 #[.pointer (some ⟨w.heap.size + 1 + 1, 0, none⟩)] (rdW8 w (.slice a L.length c)) fun e w' => ∃ a1 k1 a2 k2, e = .returned (.agg #[.slice a1 x.types.length k1, .slice a2 x.funcs.length k2]) ∧ Rd w.heap.size w' (w.heap.size + 1 + 1) R n d ∧ (rdW8 w (.slice a L.length c)).grownBy w' (some (w.heap.size + 1 + 1))) :
    Calls Try.prog 33 #[.slice a L.length c] w fun e w' => e = .returned (.tuple #[.agg #[.slice none 0 0, .slice none 0 0], .int .i64 84]) ∧ w.grownBy w' none := by
  have hmf : ∀ (fn : Fn) (first cap : Array Value) (w : World), (Instr.makeFunc fn first cap).run Try.prog w = .ok (.func fn first cap) w := fun _ _ _ _ => rfl
  obtain ⟨q1, q2, q3, q4⟩ := rdW8_ok w a c L h
  have HP : Hid (Calls Try.prog 60 #[.pointer (some ⟨w.heap.size + 1 + 1, 0, none⟩)] (rdW8 w (.slice a L.length c)) fun e w' => ∃ a1 k1 a2 k2, e = .returned (.agg #[.slice a1 x.types.length k1, .slice a2 x.funcs.length k2]) ∧ Rd w.heap.size w' (w.heap.size + 1 + 1) R n d ∧ (rdW8 w (.slice a L.length c)).grownBy w' (some (w.heap.size + 1 + 1))) := hP
  have Q2 : Hid ((rdW8 w (.slice a L.length c)).heap[w.heap.size]? = some (.cells #[.slice none 0 0, .slice none 0 0] 27)) := q2
  have Q3 : Hid ((rdW8 w (.slice a L.length c)).heap[w.heap.size + 1]? = some (.cells #[.int .i64 0] 30)) := q3
  have Q4 : Hid (w.grownBy (rdW8 w (.slice a L.length c)) none) := q4
  have hrl : 0 < R.length := List.length_pos_iff.2 hR
  have hz : 0 < (R.length : Int) := by omega
  have hz' : decide (0 < (R.length : Int)) = true := decide_eq_true hz
  clear hP q1 q2 q3 q4 h hR
  go_enter_defers Try.func33, Try.ntmps33
  go_wp2_with fail
  refine Calls.mono HP.out ?_
  rintro e w1 ⟨a0, c0, a1, c1, rfl, h1, g1⟩
  have P1 : w1.heap[w.heap.size]? = some (.cells #[.slice none 0 0, .slice none 0 0] 27) := (g1.block _ (Array.getElem?_eq_some_iff.1 Q2.out).1 (by simp; omega)).trans Q2.out
  have E1 : w1.heap[w.heap.size + 1]? = some (.cells #[.int .i64 0] 30) := (g1.block _ (Array.getElem?_eq_some_iff.1 Q3.out).1 (by simp)).trans Q3.out
  have G1 : Ch w w1 [] := Ch.new (Ch.of Q4.out) (by omega) g1
  have m0 : w1.cell? ⟨w.heap.size, 0, none⟩ = some (.slice none 0 0) := rcell P1 0
  have m1 : w1.cell? ⟨w.heap.size, 1, none⟩ = some (.slice none 0 0) := rcell P1 1
  have k0 : w1.frozen? ⟨w.heap.size, 0, none⟩ = false := rfrozen P1 0
  have k1 : w1.frozen? ⟨w.heap.size, 1, none⟩ = false := rfrozen P1 1
  have P2 := rset (rset P1 0 (.slice a0 x.types.length c0)) 1 (.slice a1 x.funcs.length c1)
  have E2 : ((w1.setCell ⟨w.heap.size, 0, none⟩ (.slice a0 x.types.length c0)).setCell ⟨w.heap.size, 1, none⟩ (.slice a1 x.funcs.length c1)).heap[w.heap.size + 1]? = some (.cells #[.int .i64 0] 30) := by
    rw [(grown_setCell _ w.heap.size 1 (.slice a1 x.funcs.length c1)).block _ (by simp; exact (Array.getElem?_eq_some_iff.1 E1).1) (by simp), (grown_setCell w1 w.heap.size 0 (.slice a0 x.types.length c0)).block _ (Array.getElem?_eq_some_iff.1 E1).1 (by simp)]
    exact E1
  have h2 := (h1.kept (grown_setCell w1 w.heap.size 0 (.slice a0 x.types.length c0)) (Nat.le_refl _) (by omega)).kept (grown_setCell _ w.heap.size 1 (.slice a1 x.funcs.length c1)) (Nat.le_refl _) (by omega)
  have G2 := (G1.new (Nat.le_refl _) (grown_setCell w1 w.heap.size 0 (.slice a0 x.types.length c0))).new (Nat.le_refl _) (grown_setCell _ w.heap.size 1 (.slice a1 x.funcs.length c1))
  have HH : Hid (((w1.setCell ⟨w.heap.size, 0, none⟩ (.slice a0 x.types.length c0)).setCell ⟨w.heap.size, 1, none⟩ (.slice a1 x.funcs.length c1)).heap[w.heap.size]? = some (.cells #[.slice a0 x.types.length c0, .slice a1 x.funcs.length c1] 27) ∧ ((w1.setCell ⟨w.heap.size, 0, none⟩ (.slice a0 x.types.length c0)).setCell ⟨w.heap.size, 1, none⟩ (.slice a1 x.funcs.length c1)).heap[w.heap.size + 1]? = some (.cells #[.int .i64 0] 30) ∧ Ch w ((w1.setCell ⟨w.heap.size, 0, none⟩ (.slice a0 x.types.length c0)).setCell ⟨w.heap.size, 1, none⟩ (.slice a1 x.funcs.length c1)) []) := ⟨P2, E2, G2⟩
  obtain ⟨b, k, h3, h4, h5⟩ := h2
  have r0 : ((w1.setCell ⟨w.heap.size, 0, none⟩ (.slice a0 x.types.length c0)).setCell ⟨w.heap.size, 1, none⟩ (.slice a1 x.funcs.length c1)).cell? ⟨w.heap.size + 1 + 1, 0, none⟩ = some (.slice b R.length k) := rcell h3 0
  clear h1 g1 P1 E1 G1 P2 E2 G2 h3 h4 h5 HP
  go_wp2
  refine leaves_cons (f := 59) (args := #[.pointer (some ⟨w.heap.size, 0, none⟩), .pointer (some ⟨w.heap.size + 1, 0, none⟩)]) (by simp) (by simp [go_sem]) ?_
  obtain ⟨P2, E2, G2⟩ := HH.out
  refine (fault_caught w.heap.size (w.heap.size + 1) 84 _ _ _ [] _ P2 E2 (by omega)).mono ?_
  rintro e u' w3 ⟨rfl, rfl, P3, E3, G3⟩
  have x0 : w3.cell? ⟨w.heap.size, 0, none⟩ = some (.slice none 0 0) := rcell P3 0
  have x1 : w3.cell? ⟨w.heap.size, 1, none⟩ = some (.slice none 0 0) := rcell P3 1
  have x2 : w3.cell? ⟨w.heap.size + 1, 0, none⟩ = some (.int .i64 84) := rcell E3 0
  have GG : w.grownBy w3 none := ((G2.mono (l' := [w.heap.size, w.heap.size + 1]) (by simp)).trans G3).nil (by simp)
  clear HH P2 E2 G2 P3 E3 G3 m0 m1 k0 k1 r0
  simp [Leaves, settle, results, Try.results33, go_sem, x0, x1, x2, GG]
/-- a program's bytes and more: 84 -/
theorem decode_rest {w : World} {a : Option Addr} {c : Nat} {x : Pg.Pr} {R : List Int} (h : Lf w a c (x.dl.en ++ R)) (hR : R ≠ []) (hx : x.dl.may = true) (hr : ∀ f, f ∈ x.funcs → ∀ y, y ∈ f.body → StR y) (hn : x.dl.nd ≤ 2048) (hd : x.dl.dp ≤ 32) :
    Calls Try.prog 17 #[.slice a (x.dl.en ++ R).length c] w fun e w' => e = .returned (.tuple #[.agg #[.slice none 0 0, .slice none 0 0], .int .i64 84]) ∧ w.grownBy w' none :=
  decode_of ⟨_, _, _, rfl⟩ ⟨_, _, _, rfl⟩ fun W g => by
    have h1 := h.kept g (by simp)
    obtain ⟨q1, _, _, q4⟩ := rdW8_ok W a c (x.dl.en ++ R) h1
    exact read_rest (x := x) (n := 0 + x.dl.nd) (d := 0) h1 hR ((prog_rd x hx hr _ _ _ R 0 0 q1 q4.size (by omega) (by omega)).mono (by rintro e w' ⟨a1, k1, a2, k2, e1, _, _, r1, g1⟩; exact ⟨a1, k1, a2, k2, e1, r1, g1⟩))
theorem num8 (e : Int) (w : World) : Calls Try.prog 10 #[.int .i64 e] w fun r w' => r = .returned (.int .i64 e) ∧ w' = w := by
  go_enter Try.func10, Try.ntmps10
  go_wp2
  go_ret
  exact ⟨rfl, rfl⟩
/-- bytes of one's own are told to be equal -/
theorem eqL {w : World} {b1 b2 : Nat} {v1 v2 : Value} {l : List Int} (h1 : OwnL w b1 v1 l) (h2 : OwnL w b2 v2 l) (hn : l.length ≤ 1000000000) : Calls Try.prog 11 #[v1, v2] w fun e w' => e = .returned (.bool true) ∧ w.grownBy w' none := by
  obtain ⟨a1, c1, rfl, _, _, _, q1⟩ := h1.toB.shape
  obtain ⟨a2, c2, rfl, _, _, _, q2⟩ := h2.toB.shape
  exact (eqB l.length c1 c2 a1 a2 _ _ w (by omega) q1 q2 (fun _ _ => rfl)).mono fun e w' ⟨he, d, hd⟩ => ⟨he, by rw [hd]; exact grown_drewN (World.grownBy.refl _ _) d⟩
theorem rowL_nil {α : Type} {c by' : Nat} {B : Nat → Prop} {Q : Nat → Nat → α → Prop} : RowL c by' B Q none 0 ([] : List α) := ⟨fun _ => ⟨rfl, rfl⟩, Nat.le_refl _, Nat.zero_le _, by simp, .inl rfl⟩
theorem en_empty : (⟨[], []⟩ : Pg.Pr).dl.en = [0, 0] ∧ (⟨[], []⟩ : Pg.Pr).err = 0 ∧ Rm ⟨false, 0, 0, 0⟩ [] (⟨[], []⟩ : Pg.Pr).dl := by
  have h1 : Pg.okB 0 = true := by decide
  have h2 : Pg.dCnt 0 = ⟨true, 0, 0, [0]⟩ := by
    have : Pg.grp 0 = [0] := Pg.grp_small (by decide)
    simp [Pg.dCnt, h1, this]
  have h3 : (⟨[], []⟩ : Pg.Pr).dl = ⟨true, 0, 0, [0, 0]⟩ := by
    simp only [Pg.Pr.dl, Pg.dTs, Pg.dFs, List.length_nil, Pg.Dl.app_nil]
    rw [show ((0 : Nat) : Int) = 0 from rfl, h2]
    rfl
  refine ⟨by rw [h3], ?_, ?_⟩
  · unfold Pg.Pr.err; rw [h3]; decide
  · rw [h3]; exact ⟨by decide, by decide, by decide⟩
theorem eq_two {w1 w2 : World} {base : Nat} {ao : Option Addr} {cp : Nat} {o : Obj} (h : OwnL w1 base (.slice ao 2 cp) [0, 0]) (g : w1.grownBy w2 none) :
    Calls Try.prog 11 #[.slice ao 2 cp, .slice (some ⟨w2.heap.size + 1, 0, none⟩) 2 2] ((w2.alloc o).alloc (.cells #[.int .u8 0, .int .u8 0] 5)) fun e w' => e = .returned (.bool true) ∧ ((w2.alloc o).alloc (.cells #[.int .u8 0, .int .u8 0] 5)).grownBy w' none := by
  have h1 : OwnL ((w2.alloc o).alloc (.cells #[.int .u8 0, .int .u8 0] 5)) base (.slice ao 2 cp) [0, 0] := h.kept (grown_trans g (ga (World.grownBy_alloc _ _ _) _)) (Classical.em _)
  have h2 := OwnL.lit (w2.alloc o) 0 [0, 0] (Nat.zero_le _) (by decide)
  rw [show (w2.alloc o).heap.size = w2.heap.size + 1 from by simp] at h2
  exact eqL h1 h2 (by decide)
set_option maxRecDepth 100000 in
set_option maxHeartbeats 4000000 in
theorem wakes8 (w : World) : Calls Try.prog 15 #[] w fun e w' => e = .returned (.bool true) ∧ w.grownBy w' none := by
  obtain ⟨e1, e2, e3⟩ := en_empty
  have HC : Hid (Calls Try.prog 8 #[.agg #[.slice none 0 0, .slice none 0 0]] w fun e w' => ∃ v, e = .returned (.tuple #[v, .int .i64 0]) ∧ OwnL w' w.heap.size v [0, 0] ∧ w.grownBy w' none) := by
    have := encode_ok (w := w) (p := ⟨[], []⟩) (a1 := none) (a2 := none) (k1 := 0) (k2 := 0) ⟨rowL_nil, rowL_nil⟩ e3 e2
    rw [e1] at this
    exact this
  clear e1 e2 e3
  go_enter Try.func15, Try.ntmps15
  go_wp2_with (first
    | (go_at_call 8; refine HC.out.mono ?_; rintro e w1 ⟨v, rfl, ho, hg⟩; obtain ⟨ao, cp, rfl, _⟩ := ho.toB.shape; have O1 : Hid (OwnL w1 w.heap.size (.slice ao 2 cp) [0, 0]) := ho; have G1 : Hid (w.grownBy w1 none) := hg; have HD : Hid (Calls Try.prog 17 #[.slice (some ⟨w1.heap.size, 0, none⟩) 3 3] (w1.alloc (.cells #[.int .u8 0, .int .u8 0, .int .u8 0] 5)) fun e w' => e = .returned (.tuple #[.agg #[.slice none 0 0, .slice none 0 0], .int .i64 84]) ∧ (w1.alloc (.cells #[.int .u8 0, .int .u8 0, .int .u8 0] 5)).grownBy w' none) := (decode_wake ⟨by decide, by decide, (fun h => by cases h), (fun g off s e => by injection e with e; injection e with e1 e2 e3; subst e1; subst e2; subst e3; exact ⟨rfl, by simp, fun j z hj => by rw [Nat.zero_add, World.cell?_alloc_new]; match j, hj with | 0, hj => simp at hj; subst hj; rfl | 1, hj => simp at hj; subst hj; rfl | 2, hj => simp at hj; subst hj; rfl⟩)⟩); clear ho hg HC)
    | (go_at_call 17; refine HD.out.mono ?_; rintro e w2 ⟨rfl, hg⟩; have G2 : Hid (w1.grownBy w2 none) := grown_trans (World.grownBy_alloc _ _ _) hg; clear hg HD)
    | (go_at_call 10; refine (num8 _ _).mono ?_; rintro e w3 ⟨rfl, hw⟩; rw [hw]; clear hw w3)
    | (go_at_call 11; refine (eq_two O1.out G2.out).mono ?_; rintro e w4 ⟨rfl, hg⟩; have G4 : Hid (w2.grownBy w4 none) := grown_trans (ga (World.grownBy_alloc _ _ _) _) hg; clear hg))
  go_ret
  exact ⟨rfl, grown_trans G1.out (grown_trans G2.out G4.out)⟩
theorem OwnL.lf {w : World} {base n : Nat} {ao : Option Addr} {cp : Nat} {l : List Int} (h : OwnL w base (.slice ao n cp) l) : Lf w ao cp l ∧ n = l.length := by
  obtain ⟨a2, c2, e, q1, q2, q3, q4⟩ := h.toB.shape
  injection e with e1 e2 e3
  subst e1
  subst e2
  subst e3
  have hlt := h.toB.lt
  refine ⟨⟨q2, q3, fun h => (q1 h).2, fun g off s e => ?_⟩, rfl⟩
  subst e
  have h1 := h
  rcases h1.2 with ⟨e, _⟩ | ⟨b, cap, cur, e, _⟩
  · cases e
  · injection e with e1 _ _
    injection e1 with e1
    injection e1 with x1 x2 x3
    subst x1
    subst x2
    subst x3
    refine ⟨rfl, (hlt g rfl).2, fun j z hj => ?_⟩
    have hjl : j < l.length := (List.getElem?_eq_some_iff.1 hj).1
    rcases q4 with h0 | ⟨b', off', e', hc⟩
    · omega
    · injection e' with e'
      injection e' with y1 y2 _
      subst y1
      subst y2
      rw [hc j hjl]
      simp [List.getD_eq_getElem?_getD, hj]
theorem OwnL.some {w : World} {base : Nat} {v : Value} {l : List Int} (h : OwnL w base v l) (hl : 1 ≤ l.length) : ∃ q cp, v = .slice (.some ⟨q, 0, none⟩) l.length cp ∧ l.length ≤ cp ∧ cp ≤ maxLen ∧ base ≤ q ∧ q < w.heap.size := by
  have hlt := h.toB.lt
  rcases h.2 with ⟨e, h0⟩ | ⟨b, cap, cur, e, hb, hh, hn, hc, hs, ht⟩
  · omega
  · subst e
    exact ⟨b, cap, rfl, hn, hc, (hlt b rfl).1, (hlt b rfl).2⟩
theorem range_take (l : List Int) (k : Nat) (hk : k ≤ l.length) : (List.range k).map (fun i => l.getD i 0) = l.take k := by
  refine List.ext_getElem? fun i => ?_
  by_cases hi : i < k
  · have : i < l.length := by omega
    simp [hi, List.getD_eq_getElem?_getD, List.getElem?_eq_getElem this]
  · simp [hi]; omega
/-- a copy of bytes, or of their beginning -/
theorem copyL {w : World} {base : Nat} {ao : Option Addr} {n cp : Nat} {l : List Int} (h : OwnL w base (.slice ao n cp) l) (k cp' : Nat) (hk : k ≤ l.length) (ha : ao ≠ none) (hn : l.length ≤ 1000000000) :
    Calls Try.prog 16 #[.slice ao k cp'] w fun e w' => ∃ a c, e = .returned (.slice a k c) ∧ OwnL w' w.heap.size (.slice a k c) (l.take k) ∧ w.grownBy w' none := by
  obtain ⟨a2, c2, e, q1, q2, q3, q4⟩ := h.toB.shape
  injection e with e1 e2 e3
  subst e1
  subst e2
  subst e3
  have hb : Bs w ao k (fun i => l.getD i 0) := by
    rcases q4 with h0 | ⟨b, off, e, hc⟩
    · exact .inl (by omega)
    · exact .inr ⟨b, off, e, fun i hi => hc i (by omega)⟩
  refine (copyB k cp' ao _ w (by omega) (fun h => absurd h ha) hb).mono ?_
  rintro e w' ⟨v, rfl, ho, hg⟩
  obtain ⟨a, c, rfl, _⟩ := ho.shape
  have := ho.toL
  rw [range_take l k hk] at this
  exact ⟨a, c, rfl, this, hg⟩
/-- one byte more, behind many -/
theorem wp_app9 {ops : Array Oper} {rest : List Oper} {o : Oper} {a : Act} {Q : Exit → Act → World → Prop} {W : World} (hgd : o.guard = none) (s x : Operand)
    (ho : o.op = .call { callee := .builtin .append, args := #[s, x], argTypes := #[29, 29] }) (base : Nat) (v : Value) (l : List Int) (X : Int) (hs : a.eval s = v) (hown : OwnL W base v l)
    (hx : a.eval x = .slice (some ⟨W.heap.size, 0, none⟩) 1 1) (hl : l.length ≤ 1000000000) (hb : base ≤ W.heap.size)
    (h : ∀ v' w', OwnL w' base v' (l ++ [X]) → W.grownBy w' v.ownBlock → wpList Try.prog ops Q rest (a.put o.dst v') w') : wpList Try.prog ops Q (o :: rest) a (W.alloc (Obj.cells #[.int .u8 X] 5)) := by
  obtain ⟨i, hi, hz0, hz1, hz2⟩ := info_parts info_u8
  refine wpList_append_own _ hgd s x 29 ho base 5 i (.int .u8 0) 1 1 Try.underlying29 hi hz0 hz1 hz2 rfl (by decide) v l.length (l.map (Value.int .u8)) hs (World.ownsRow.alloc hown _) ⟨W.heap.size, 0, none⟩ 1 1 [.int .u8 X] hx rfl
    (by intro j u hj; match j, hj with | 0, hj => simp at hj; subst hj; simp [Addr.add]) (by simp; rfl) (by unfold maxLen; omega) (by omega) (by simp; omega) ?_
  intro v' w2 ho2 hg2 _
  exact h v' w2 (OwnL.one ho2) (grown_trans (grown_noneR _ (World.grownBy_alloc _ _ _)) hg2)
/-- what no error means -/
theorem rerr_zero {p : Pg.Pr} (h : p.rerr = 0) : p.may = true ∧ p.dl.nd ≤ 2048 ∧ p.dl.dp ≤ 32 := by
  unfold Pg.Pr.rerr at h
  split at h
  · split at h
    · split at h
      · exact ⟨by assumption, by assumption, by assumption⟩
      · cases h
    · cases h
  · cases h
theorem pr_pos {p : Pg.Pr} (h : p.dl.may = true) : 1 ≤ p.dl.en.length := by
  have h1 := Pg.Pr.parts2 p h
  have := Pg.cnt_pos (n := (p.types.length : Int)) (by rw [dCnt_may]; exact h1.1)
  rw [h1.2.2.2.2, List.length_append, List.length_append]
  omega
theorem cut_lt {l : List Int} {k : Nat} (h : k < l.length) : Cut (l.take k) l := ⟨List.take_prefix _ _, by rw [List.length_take]; omega⟩
end Go.Proofs.Ytljdjkiejppenaa
