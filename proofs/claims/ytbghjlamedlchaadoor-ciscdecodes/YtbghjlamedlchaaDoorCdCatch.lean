/- cisc.read's deferred closure: what it makes of a panic, and of none. -/
import Derived.Test.YtbghjlamedlchaaDoorCdInst
import Derived.Defers
import Derived.Recover
namespace Go.Proofs.YtbghjlamedlchaaDoor
open Go.RowKit
set_option linter.unusedVariables false

theorem assert_nil (w : World) : (Instr.typeAssert .nilIface 20 24 true).run Tryd.prog w = .ok (.tuple #[.int .i64 0, .bool false]) w := by kernel_rfl
theorem assert_err (x : Int) (w : World) : (Instr.typeAssert (.iface 24 (.int .i64 x)) 20 24 true).run Tryd.prog w = .ok (.tuple #[.int .i64 x, .bool true]) w := by kernel_rfl

set_option maxRecDepth 100000 in
set_option maxHeartbeats 4000000 in
theorem catch_idle (pi pn pe : Addr) (w : World) :
    CallsD Tryd.prog 47 #[.pointer (some pi), .pointer (some pn), .pointer (some pe)] .returning w fun e u' w' => e = .returned (.tuple #[]) ∧ u' = .returning ∧ ∃ d, w' = w.drewN d := by
  refine callsD_of_wpS Tryd.func47 rfl fun c₀ cs hu => ?_
  apply wpS_seq
  apply wpS_region
  simp [wpOpsS, go_sem, recoverD, hu, Tryd.ntmps47, Exit.thenS, assert_nil]
  refine wpS_of_wp ?_
  have ht : #[Value.pointer (some pi), Value.pointer (some pn), Value.pointer (some pe)] ++
          (((((((Array.replicate 10 undef).setIfInBounds 3 Value.nilIface).setIfInBounds 4
                                (Value.tuple #[Value.int IntKind.i64 0, Value.bool false])).setIfInBounds
                            2 (Value.tuple #[Value.int IntKind.i64 0, Value.bool false])).setIfInBounds
                        5 (Value.int IntKind.i64 0)).setIfInBounds
                    6 (Value.bool false)).setIfInBounds
                0 (Value.int IntKind.i64 0)).setIfInBounds
            1 (Value.bool false) = #[.pointer (some pi), .pointer (some pn), .pointer (some pe), .int .i64 0, .bool false, .tuple #[.int .i64 0, .bool false], .nilIface, .tuple #[.int .i64 0, .bool false], .int .i64 0, .bool false, undef, undef, undef] := by kernel_rfl
  rw [ht]
  clear ht
  go_wp2
  cases c₀
  simp_all [bodyPostS, results, Tryd.results47]
  exact ⟨0, rfl⟩
set_option maxRecDepth 100000 in
set_option maxHeartbeats 4000000 in
theorem catch_panic (I N E : Nat) (x y z : Int) (v : InV) (older : List PanicEntry) (w : World) (hi : InstAt w I v) (hn : w.cell? ⟨N, 0, none⟩ = some (.int .i64 y)) (he : w.cell? ⟨E, 0, none⟩ = some (.int .i64 z)) (fn : w.frozen? ⟨N, 0, none⟩ = false) (fe : w.frozen? ⟨E, 0, none⟩ = false) (h1 : I ≠ N) (h2 : I ≠ E) (h3 : N ≠ E) :
    CallsD Tryd.prog 47 #[.pointer (some ⟨I, 0, none⟩), .pointer (some ⟨N, 0, none⟩), .pointer (some ⟨E, 0, none⟩)] (.panicking ({ v := .iface 24 (.int .i64 x), recovered := false } :: older)) w fun e u' w' => e = .returned (.tuple #[]) ∧ u' = .panicking ({ v := .iface 24 (.int .i64 x), recovered := true } :: older) ∧ w' = ((put9 w I Cc.zero).setCell ⟨N, 0, none⟩ (.int .i64 0)).setCell ⟨E, 0, none⟩ (.int .i64 x) := by
  obtain ⟨d0, d1, d2, d3, d4, d5, d6, d7, d8, fz⟩ := hi
  have z0 := fz 0
  have z1 := fz 1
  have z2 := fz 2
  have z3 := fz 3
  have z4 := fz 4
  have z5 := fz 5
  have z6 := fz 6
  have z7 := fz 7
  have z8 := fz 8
  clear fz
  refine callsD_of_wpS Tryd.func47 rfl fun c₀ cs hu => ?_
  apply wpS_seq
  apply wpS_region
  simp [wpOpsS, go_sem, recoverD, hu, Tryd.ntmps47, Exit.thenS, assert_err]
  refine wpS_of_wp ?_
  have ht : #[Value.pointer (some ⟨I, 0, none⟩), Value.pointer (some ⟨N, 0, none⟩), Value.pointer (some ⟨E, 0, none⟩)] ++
          (((((((Array.replicate 10 undef).setIfInBounds 3 (Value.iface 24 (Value.int IntKind.i64 x))).setIfInBounds 4
                                (Value.tuple #[Value.int IntKind.i64 x, Value.bool true])).setIfInBounds
                            2 (Value.tuple #[Value.int IntKind.i64 x, Value.bool true])).setIfInBounds
                        5 (Value.int IntKind.i64 x)).setIfInBounds
                    6 (Value.bool true)).setIfInBounds
                0 (Value.int IntKind.i64 x)).setIfInBounds
            1 (Value.bool true) = #[.pointer (some ⟨I, 0, none⟩), .pointer (some ⟨N, 0, none⟩), .pointer (some ⟨E, 0, none⟩), .int .i64 x, .bool true, .tuple #[.int .i64 x, .bool true], .iface 24 (.int .i64 x), .tuple #[.int .i64 x, .bool true], .int .i64 x, .bool true, undef, undef, undef] := by kernel_rfl
  rw [ht]
  clear ht
  go_wp2
  change bodyPostS _ _ _ _ _ _ _ _ (((put9 w I Cc.zero).setCell ⟨N, 0, none⟩ (.int .i64 0)).setCell ⟨E, 0, none⟩ (.int .i64 x))
  simp [bodyPostS, results, Tryd.results47]
end Go.Proofs.YtbghjlamedlchaaDoor
