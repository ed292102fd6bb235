/- check.refusal, check.Check. -/
import Derived.Test.YtpcgkggpmipiaaaGreatCkTake
import Derived.Defers
import Derived.Recover
namespace Go.Proofs.YtpcgkggpmipiaaaGreat
open Go.RowKit
set_option linter.unusedVariables false
set_option maxRecDepth 100000
set_option maxHeartbeats 4000000
theorem assert_ck (x : Int) (w : World) : (Instr.typeAssert (.iface 102 (.agg #[.int .i64 x])) 20 102 true).run Tryz.prog w = .ok (.tuple #[.agg #[.int .i64 x], .bool true]) w := by kernel_rfl
theorem ckCaught (EB : Nat) (x : Int) (z : Value) (older : List PanicEntry) (w : World) (he : Bk w EB 30 [z]) :
    CallsD Tryz.prog 54 #[.pointer (some ⟨EB, 0, none⟩)] (.panicking ({ v := .iface 102 (.agg #[.int .i64 x]), recovered := false } :: older)) w fun e u' w' => e = .returned (.tuple #[]) ∧ u' = .panicking ({ v := .iface 102 (.agg #[.int .i64 x]), recovered := true } :: older) ∧ Bk w' EB 30 [.int .i64 x] ∧ Ch w w' [EB] := by
  refine callsD_of_wpS Tryz.func54 rfl fun c₀ cs hu => ?_
  apply wpS_seq
  apply wpS_region
  simp [wpOpsS, go_sem, recoverD, hu, Tryz.ntmps54, Exit.thenS]
  refine wpS_of_wp ?_
  have ht : #[Value.pointer (some ⟨EB, 0, none⟩)] ++
          ((Array.replicate 16 undef).setIfInBounds 3 (Value.iface 102 (Value.agg #[Value.int IntKind.i64 x]))).setIfInBounds 0 (Value.iface 102 (Value.agg #[Value.int IntKind.i64 x]))
      = #[.pointer (some ⟨EB, 0, none⟩), .iface 102 (.agg #[.int .i64 x]), undef, undef, .iface 102 (.agg #[.int .i64 x]), undef, undef, undef, undef, undef, undef, undef, undef, undef, undef, undef, undef] := by kernel_rfl
  rw [ht]
  clear ht
  have ha := assert_ck x
  have hel : EB < w.heap.size := he.lt
  have HE : Hid (Bk w EB 30 [z]) := he
  have c2 := he.cell (i := 0) rfl
  have f2 := he.frozen 0
  clear he
  go_wp2_with fail
  have E3 : Bk ((w.setCell ⟨EB, 0, none⟩ (.int .i64 x)).alloc (.cells #[.int .i64 x] 102)) EB 30 [.int .i64 x] := (HE.out.set 0 _).grow (World.grownBy_alloc _ _ _)
  have G3 : Ch w ((w.setCell ⟨EB, 0, none⟩ (.int .i64 x)).alloc (.cells #[.int .i64 x] 102)) [EB] := (Ch.one (grown_set _ _ _ _) (by simp)).trans (Ch.of (World.grownBy_alloc _ _ _))
  simp [bodyPostS, results, Tryz.results54]
  exact ⟨E3, G3⟩
theorem ckIdle (pe : Addr) (w : World) :
    CallsD Tryz.prog 54 #[.pointer (some pe)] .returning w fun e u' w' => e = .returned (.tuple #[]) ∧ u' = .returning ∧ ∃ d, w' = w.drewN d := by
  refine callsD_of_wpS Tryz.func54 rfl fun c₀ cs hu => ?_
  apply wpS_seq
  apply wpS_region
  simp [wpOpsS, go_sem, recoverD, hu, Tryz.ntmps54, Exit.thenS]
  refine wpS_of_wp ?_
  have ht : #[Value.pointer (some pe)] ++
          ((Array.replicate 16 undef).setIfInBounds 3 Value.nilIface).setIfInBounds 0 Value.nilIface
      = #[.pointer (some pe), .nilIface, undef, undef, .nilIface, undef, undef, undef, undef, undef, undef, undef, undef, undef, undef, undef, undef] := by kernel_rfl
  rw [ht]
  clear ht
  go_wp2
  cases c₀
  simp_all [bodyPostS, results, Tryz.results54]
  exact ⟨0, rfl⟩
def Ck.num : Except Int Unit → Int
  | .ok _ => 0
  | .error e => e
theorem ckRefusal {w : World} {PB : Nat} {x : Except Int Unit} (hc : Calls Tryz.prog 28 #[.pointer (some ⟨PB, 0, none⟩)] (w.alloc (Obj.cells #[.int .i64 0] 30)) fun e w' => e = ckE (fun _ => Value.tuple #[]) x ∧ (w.alloc (Obj.cells #[.int .i64 0] 30)).grownBy w' none) :
    Calls Tryz.prog 27 #[.func (.func 28) #[] #[.pointer (some ⟨PB, 0, none⟩)]] w fun e w' => e = .returned (.int .i64 (Ck.num x)) ∧ w.grownBy w' none := by
  have hmf : ∀ (fn : Fn) (first cap : Array Value) (w : World), (Instr.makeFunc fn first cap).run Tryz.prog w = .ok (.func fn first cap) w := fun _ _ _ _ => rfl
  have HC : Hid (Calls Tryz.prog 28 #[.pointer (some ⟨PB, 0, none⟩)] (w.alloc (Obj.cells #[.int .i64 0] 30)) fun e w' => e = ckE (fun _ => Value.tuple #[]) x ∧ (w.alloc (Obj.cells #[.int .i64 0] 30)).grownBy w' none) := hc
  clear hc
  have HK : Hid (Bk (w.alloc (Obj.cells #[.int .i64 0] 30)) w.heap.size 30 [.int .i64 0]) := Bk.new _ _ _
  cases x with
  | error er =>
    simp only [ckE, ckF] at HC
    go_enter_defers Tryz.func27, Tryz.ntmps27
    go_wp2_with fail
    refine Calls.mono HC.out ?_
    rintro e w1 ⟨rfl, g1⟩
    have E1 := HK.out.grow g1
    have G1 : Ch w w1 [] := Ch.of (grown_trans (World.grownBy_alloc _ _ _) g1)
    clear g1 HC HK
    refine leaves_cons (f := 54) (args := #[.pointer (some ⟨w.heap.size, 0, none⟩)]) (by simp) (by simp [go_sem]) ?_
    refine (ckCaught w.heap.size er _ [] _ E1).mono ?_
    rintro e u' w3 ⟨rfl, rfl, E3, G3⟩
    have x2 := E3.cell (i := 0) rfl
    have GG : w.grownBy w3 none := ((G1.mono (l' := [w.heap.size]) (by simp)).trans G3).nil (by simp)
    clear E1 G1 E3 G3
    simp [Leaves, settle, results, Tryz.results27, go_sem, x2, GG, Ck.num]
  | ok u =>
    simp only [ckE] at HC
    go_enter_defers Tryz.func27, Tryz.ntmps27
    go_wp2_with fail
    refine Calls.mono HC.out ?_
    rintro e w1 ⟨rfl, g1⟩
    have E1 := HK.out.grow g1
    have G1 : Hid (w.grownBy w1 none) := grown_trans (World.grownBy_alloc _ _ _) g1
    have k0 := E1.cell (i := 0) rfl
    have k1 := E1.frozen 0
    have HE1 : Hid (Bk w1 w.heap.size 30 [.int .i64 0]) := E1
    clear g1 HC HK E1
    go_wp2_with fail
    have E2 := HE1.out.set 0 (.int .i64 0)
    have G2 : w.grownBy (w1.setCell ⟨w.heap.size, 0, none⟩ (.int .i64 0)) none := ((Ch.of (l := [w.heap.size]) G1.out).trans (Ch.one (grown_set _ _ _ _) (by simp))).nil (by simp)
    refine leaves_cons (f := 54) (args := #[.pointer (some ⟨w.heap.size, 0, none⟩)]) (by simp) (by simp [go_sem]) ?_
    refine (ckIdle _ _).mono ?_
    rintro e u' w3 ⟨rfl, rfl, d, rfl⟩
    have x2 := (E2.grow (grown_drewN (World.grownBy.refl _ none) d)).cell (i := 0) rfl
    have GG := grown_drewN G2 d
    simp [Leaves, settle, results, Tryz.results27, go_sem, x2, GG, Ck.num]
theorem ckCheck1 {w : World} {PB : Nat} {p : Pg.Pr} {a1 a2 : Option Addr} {k1 k2 : Nat} (hk : Bk w PB 27 [.slice a1 p.types.length k1, .slice a2 p.funcs.length k2]) (h : PrC (fun k => k < w.heap.size) w p a1 a2 k1 k2) (hr : Rm ⟨false, 0, 0, 0⟩ [] p.dl) (hn : p.types.length ≤ 1000000) :
    Calls Tryz.prog 28 #[.pointer (some ⟨PB, 0, none⟩)] w fun e w' => e = ckE (fun _ => Value.tuple #[]) (Ck.takeP p) ∧ w.grownBy w' none := by
  have c0 := hk.cell (i := 0) rfl
  have c1 := hk.cell (i := 1) rfl
  have HC : Hid (Calls Tryz.prog 29 #[.agg #[.slice a1 p.types.length k1, .slice a2 p.funcs.length k2]] w fun e w' => TakeE w p a1 k1 e w') := ckTake h hr hn
  clear h hr hn hk
  cases hx : Ck.takeP p with
  | error er =>
    have HC2 : Hid (Calls Tryz.prog 29 #[.agg #[.slice a1 p.types.length k1, .slice a2 p.funcs.length k2]] w fun e w' => e = ckF er ∧ w.grownBy w' none) := HC.out.mono fun e w' h9 => by
      unfold TakeE at h9
      rw [hx] at h9
      exact ⟨h9.2, h9.1⟩
    clear HC hx
    go_enter Tryz.func28, Tryz.ntmps28
    go_wp2_with (go_at_call 29; refine HC2.out.mono ?_; rintro e w3 ⟨rfl, hg3⟩; have HG3 : Hid (w.grownBy w3 none) := hg3; clear hg3)
    exact ⟨rfl, rfl, HG3.out⟩
  | ok u =>
    have HC2 : Hid (Calls Tryz.prog 29 #[.agg #[.slice a1 p.types.length k1, .slice a2 p.funcs.length k2]] w fun e w' => (∃ va vc, e = .returned (.agg #[.slice a1 p.types.length k1, .slice va p.types.length vc])) ∧ w.grownBy w' none) := HC.out.mono fun e w' h9 => by
      unfold TakeE at h9
      rw [hx] at h9
      obtain ⟨hg, va, vc, N, he, _⟩ := h9
      exact ⟨⟨va, vc, he⟩, hg⟩
    clear HC hx
    go_enter Tryz.func28, Tryz.ntmps28
    go_wp2_with (go_at_call 29; refine HC2.out.mono ?_; rintro e w3 ⟨⟨va, vc, rfl⟩, hg3⟩; have HG3 : Hid (w.grownBy w3 none) := hg3; clear hg3)
    refine ⟨rfl, .tuple #[], by simp [results, Tryz.results28], rfl, HG3.out⟩
theorem ckCheck {w : World} {p : Pg.Pr} {a1 a2 : Option Addr} {k1 k2 : Nat} (h : PrC (fun k => k < w.heap.size) w p a1 a2 k1 k2) (hr : Rm ⟨false, 0, 0, 0⟩ [] p.dl) (hn : p.types.length ≤ 1000000) :
    Calls Tryz.prog 11 #[.agg #[.slice a1 p.types.length k1, .slice a2 p.funcs.length k2]] w fun e w' => e = .returned (.int .i64 (Ck.num (Ck.takeP p))) ∧ w.grownBy w' none := by
  have hmf : ∀ (fn : Fn) (first cap : Array Value) (w : World), (Instr.makeFunc fn first cap).run Tryz.prog w = .ok (.func fn first cap) w := fun _ _ _ _ => rfl
  have HC : Hid (Calls Tryz.prog 27 #[.func (.func 28) #[] #[.pointer (some ⟨w.heap.size, 0, none⟩)]] (w.alloc (Obj.cells #[.slice a1 p.types.length k1, .slice a2 p.funcs.length k2] 27)) fun e w' => e = .returned (.int .i64 (Ck.num (Ck.takeP p))) ∧ w.grownBy w' none) := by
    have g1 := World.grownBy_alloc w (Obj.cells #[.slice a1 p.types.length k1, .slice a2 p.funcs.length k2] 27) none
    have g2 := World.grownBy_alloc (w.alloc (Obj.cells #[.slice a1 p.types.length k1, .slice a2 p.funcs.length k2] 27)) (Obj.cells #[.int .i64 0] 30) none
    have hk : Bk (w.alloc (Obj.cells #[.slice a1 p.types.length k1, .slice a2 p.funcs.length k2] 27)) w.heap.size 27 [.slice a1 p.types.length k1, .slice a2 p.funcs.length k2] := Bk.new _ _ _
    refine Calls.mono (ckRefusal (ckCheck1 (hk.grow g2) (PrC.ch (l := []) (Ch.of (grown_trans g1 g2)) (by simp) (fun k hk => by have := (grown_trans g1 g2).size; omega) h) hr hn)) fun e w' h9 => ⟨h9.1, grown_trans g1 h9.2⟩
  clear h hr hn
  generalize Ck.num (Ck.takeP p) = x at *
  go_enter Tryz.func11, Tryz.ntmps11
  go_wp2_with (go_at_call 27; refine HC.out.mono ?_; rintro e w3 ⟨rfl, hg3⟩; have HG3 : Hid (w.grownBy w3 none) := hg3; clear hg3)
  go_ret
  exact ⟨rfl, HG3.out⟩
end Go.Proofs.YtpcgkggpmipiaaaGreat
