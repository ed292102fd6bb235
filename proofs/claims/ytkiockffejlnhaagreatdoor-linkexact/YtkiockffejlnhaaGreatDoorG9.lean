/- Contracts and plain facts that the walks share. -/
import Derived.Test.YtkiockffejlnhaaGreatDoorCdInst
import Derived.Defers
import Derived.Recover
import Derived.BigRegion
namespace Go.Proofs.YtkiockffejlnhaaGreatDoor
set_option maxRecDepth 100000
set_option maxHeartbeats 32000000
open Go.RowKit
set_option linter.unusedVariables false
theorem assert_nil (w : World) : (Instr.typeAssert .nilIface 20 33 true).run Tryz.prog w = .ok (.tuple #[.int .i64 0, .bool false]) w := by kernel_rfl
theorem assert_err (x : Int) (w : World) : (Instr.typeAssert (.iface 33 (.int .i64 x)) 20 33 true).run Tryz.prog w = .ok (.tuple #[.int .i64 x, .bool true]) w := by kernel_rfl
theorem catch_idle (pi pn pe : Addr) (w : World) :
    CallsD Tryz.prog 80 #[.pointer (some pi), .pointer (some pn), .pointer (some pe)] .returning w fun e u' w' => e = .returned (.tuple #[]) ∧ u' = .returning ∧ ∃ d, w' = w.drewN d := by
  refine callsD_of_wpS Tryz.func80 rfl fun c₀ cs hu => ?_
  apply wpS_seq
  apply wpS_region
  simp [wpOpsS, go_sem, recoverD, hu, Tryz.ntmps80, Exit.thenS, assert_nil]
  refine wpS_of_wp ?_
  have ht : #[Value.pointer (some pi), Value.pointer (some pn), Value.pointer (some pe)] ++
          (((((((Array.replicate 10 undef).setIfInBounds 3 Value.nilIface).setIfInBounds 4
                                (Value.tuple #[Value.int IntKind.i64 0, Value.bool false])).setIfInBounds
                            2 (Value.tuple #[Value.int IntKind.i64 0, Value.bool false])).setIfInBounds
                        5 (Value.int IntKind.i64 0)).setIfInBounds
                    6 (Value.bool false)).setIfInBounds
                0 (Value.int IntKind.i64 0)).setIfInBounds
            1 (Value.bool false) = #[.pointer (some pi), .pointer (some pn), .pointer (some pe), .int .i64 0, .bool false, .tuple #[.int .i64 0, .bool false], .nilIface, .tuple #[.int .i64 0, .bool false], .int .i64 0, .bool false, undef, undef, undef] := by kernel_rfl
  rw [ht]
  clear ht
  go_wp2
  cases c₀
  simp_all [bodyPostS, results, Tryz.results80]
  exact ⟨0, rfl⟩
theorem catch_panic (I N E : Nat) (x y z : Int) (v : InV) (older : List PanicEntry) (w : World) (hi : InstAt w I v) (hn : w.cell? ⟨N, 0, none⟩ = some (.int .i64 y)) (he : w.cell? ⟨E, 0, none⟩ = some (.int .i64 z)) (fn : w.frozen? ⟨N, 0, none⟩ = false) (fe : w.frozen? ⟨E, 0, none⟩ = false) (h1 : I ≠ N) (h2 : I ≠ E) (h3 : N ≠ E) :
    CallsD Tryz.prog 80 #[.pointer (some ⟨I, 0, none⟩), .pointer (some ⟨N, 0, none⟩), .pointer (some ⟨E, 0, none⟩)] (.panicking ({ v := .iface 33 (.int .i64 x), recovered := false } :: older)) w fun e u' w' => e = .returned (.tuple #[]) ∧ u' = .panicking ({ v := .iface 33 (.int .i64 x), recovered := true } :: older) ∧ w' = ((put9 w I Cc.zero).setCell ⟨N, 0, none⟩ (.int .i64 0)).setCell ⟨E, 0, none⟩ (.int .i64 x) := by
  obtain ⟨d0, d1, d2, d3, d4, d5, d6, d7, d8, fz⟩ := hi
  have z0 := fz 0
  have z1 := fz 1
  have z2 := fz 2
  have z3 := fz 3
  have z4 := fz 4
  have z5 := fz 5
  have z6 := fz 6
  have z7 := fz 7
  have z8 := fz 8
  clear fz
  refine callsD_of_wpS Tryz.func80 rfl fun c₀ cs hu => ?_
  apply wpS_seq
  apply wpS_region
  simp [wpOpsS, go_sem, recoverD, hu, Tryz.ntmps80, Exit.thenS, assert_err]
  refine wpS_of_wp ?_
  have ht : #[Value.pointer (some ⟨I, 0, none⟩), Value.pointer (some ⟨N, 0, none⟩), Value.pointer (some ⟨E, 0, none⟩)] ++
          (((((((Array.replicate 10 undef).setIfInBounds 3 (Value.iface 33 (Value.int IntKind.i64 x))).setIfInBounds 4
                                (Value.tuple #[Value.int IntKind.i64 x, Value.bool true])).setIfInBounds
                            2 (Value.tuple #[Value.int IntKind.i64 x, Value.bool true])).setIfInBounds
                        5 (Value.int IntKind.i64 x)).setIfInBounds
                    6 (Value.bool true)).setIfInBounds
                0 (Value.int IntKind.i64 x)).setIfInBounds
            1 (Value.bool true) = #[.pointer (some ⟨I, 0, none⟩), .pointer (some ⟨N, 0, none⟩), .pointer (some ⟨E, 0, none⟩), .int .i64 x, .bool true, .tuple #[.int .i64 x, .bool true], .iface 33 (.int .i64 x), .tuple #[.int .i64 x, .bool true], .int .i64 x, .bool true, undef, undef, undef] := by kernel_rfl
  rw [ht]
  clear ht
  go_wp2
  change bodyPostS _ _ _ _ _ _ _ _ (((put9 w I Cc.zero).setCell ⟨N, 0, none⟩ (.int .i64 0)).setCell ⟨E, 0, none⟩ (.int .i64 x))
  simp [bodyPostS, results, Tryz.results80]
theorem inst_norow {w : World} {B b off n cap : Nat} {g : Nat → Int} (h : RdAt w B b off n cap g 0) (hn : 0 < n) (hr : (Cc.row (g 0)).isEmpty = true) :
  Calls Tryz.prog 81 #[.pointer (some ⟨B, 0, none⟩)] w fun e w' => e = panics 40 ∧ w.grownBy w' (some B) := by
 have HR : Hid (∀ W, Calls Tryz.prog 116 #[.int .i64 (g 0)] W fun e w' => e = .returned (.tuple #[.agg #[.int .i64 ((Cc.prt (g 0)).getD 0 0), .int .i64 ((Cc.prt (g 0)).getD 1 0), .int .i64 ((Cc.prt (g 0)).getD 2 0), .int .i64 ((Cc.prt (g 0)).getD 3 0)], .bool false]) ∧ W.grownBy w' none) := fun W => by
  have := crow_any (g 0) W
  rw [hr] at this
  exact this
 generalize (Cc.prt (g 0)).getD 0 0 = q0 at *
 generalize (Cc.prt (g 0)).getD 1 0 = q1 at *
 generalize (Cc.prt (g 0)).getD 2 0 = q2 at *
 generalize (Cc.prt (g 0)).getD 3 0 = q3 at *
 go_enter Tryz.func81, Tryz.ntmps81
 go_wp2_with (first
  | (go_at_call 115; refine (next_in (h.kept (World.grownBy_alloc _ _ none) (by simp) (by simp)) hn).mono ?_; rintro e w1 ⟨rfl, r1, g1⟩)
  | (go_at_call 116; refine (HR.out _).mono ?_; rintro e w2 ⟨rfl, g2⟩))
 exact ⟨rfl, rfl, gtr (gtr (gtr (gtr (grown_noneR _ gal) g1) (grown_noneR _ gal)) (grown_noneR _ g2)) (grown_noneR _ gal)⟩
theorem inst_none {w : World} {B cap : Nat} {ao : Option Addr} (c0 : w.cell? ⟨B, 0, none⟩ = some (.slice ao 0 cap)) (c1 : w.cell? ⟨B, 1, none⟩ = some (.int .i64 (0 : Nat))) :
  Calls Tryz.prog 81 #[.pointer (some ⟨B, 0, none⟩)] w fun e w' => e = panics 41 ∧ w.grownBy w' (some B) := by
 go_enter Tryz.func81, Tryz.ntmps81
 go_wp2_with (go_at_call 115; refine (next_out ((World.grownBy_alloc _ _ none).cell c0 (by simp)) ((World.grownBy_alloc _ _ none).cell c1 (by simp)) (Nat.le_refl _)).mono ?_; rintro e w1 ⟨rfl, g1⟩)
 exact ⟨rfl, rfl, gtr (grown_noneR _ gal) g1⟩
def rdW (w : World) (sl : Value) : World :=
 (((w.alloc (Obj.cells #[.int .i64 0, .int .i64 0, .int .i64 0, .int .i64 0, .int .i64 0, .int .i64 0, .int .i64 0, .int .i64 0, .int .i64 0] 50)).alloc (Obj.cells #[.int .i64 0] 3)).alloc (Obj.cells #[.int .i64 0] 33)).alloc (Obj.cells #[sl, .int .i64 0] 115)
structure VarAt (W : World) (B : Nat) (v : Value) : Prop where
 c : W.cell? ⟨B, 0, none⟩ = some v
 f : W.frozen? ⟨B, 0, none⟩ = false
theorem VarAt.new (W : World) (x : Int) (t : TypeId) : VarAt (W.alloc (Obj.cells #[.int .i64 x] t)) W.heap.size (.int .i64 x) := ⟨by simp, by simp⟩
theorem VarAt.kept {W W' : World} {B : Nat} {v : Value} {row : Option Nat} (h : VarAt W B v) (hg : W.grownBy W' row) (hne : some B ≠ row) : VarAt W' B v :=
 ⟨hg.cell h.c hne, (hg.frozen_far ⟨B, 0, none⟩ (World.block_lt_of_cell? _ _ h.c) hne).trans h.f⟩
theorem VarAt.set {W : World} {B : Nat} {v : Value} (h : VarAt W B v) (u : Value) : VarAt (W.setCell ⟨B, 0, none⟩ u) B u := ⟨World.cell?_setCell_same _ _ _ h.c, (World.frozen?_setCell _ _ _ _).trans h.f⟩
structure RdW (w W : World) : Prop where
 ia : InstAt W w.heap.size Cc.zero
 cn : VarAt W (w.heap.size + 1) (.int .i64 0)
 ce : VarAt W (w.heap.size + 1 + 1) (.int .i64 0)
 sz : w.heap.size + 4 ≤ W.heap.size
 gr : w.grownBy W none
theorem rdW_ok (w : World) (sl : Value) : RdW w (rdW w sl) := by
 have hg1 := World.grownBy_alloc w (Obj.cells #[.int .i64 0, .int .i64 0, .int .i64 0, .int .i64 0, .int .i64 0, .int .i64 0, .int .i64 0, .int .i64 0, .int .i64 0] 50) none
 have hn := VarAt.new (w.alloc (Obj.cells #[.int .i64 0, .int .i64 0, .int .i64 0, .int .i64 0, .int .i64 0, .int .i64 0, .int .i64 0, .int .i64 0, .int .i64 0] 50)) 0 3
 have he := VarAt.new ((w.alloc (Obj.cells #[.int .i64 0, .int .i64 0, .int .i64 0, .int .i64 0, .int .i64 0, .int .i64 0, .int .i64 0, .int .i64 0, .int .i64 0] 50)).alloc (Obj.cells #[.int .i64 0] 3)) 0 33
 rw [size_alloc] at hn
 rw [size_alloc, size_alloc] at he
 refine ⟨?_, (hn.kept (World.grownBy_alloc _ _ none) (by simp)).kept (World.grownBy_alloc _ _ none) (by simp), he.kept (World.grownBy_alloc _ _ none) (by simp), by simp [rdW], ga (ga (ga hg1 _) _) _⟩
 exact ((((InstAt.new w Cc.zero).kept (World.grownBy_alloc _ _ none) (by simp)).kept (World.grownBy_alloc _ _ none) (by simp)).kept (World.grownBy_alloc _ _ none) (by simp))
theorem RdW.kept {w W W' : World} (h : RdW w W) (hg : W.grownBy W' (some (w.heap.size + 1 + 1 + 1))) : RdW w W' :=
 ⟨h.ia.kept hg (by simp; omega), h.cn.kept hg (by simp), h.ce.kept hg (by simp), Nat.le_trans h.sz hg.size, grown_newR h.gr hg (by omega)⟩
theorem read_panic {w : World} {ao : Option Addr} {n cap : Nat} {x : Int} (hI : Calls Tryz.prog 81 #[.pointer (some ⟨w.heap.size + 1 + 1 + 1, 0, none⟩)] (rdW w (.slice ao n cap)) fun e w' => e = panics x ∧ (rdW w (.slice ao n cap)).grownBy w' (some (w.heap.size + 1 + 1 + 1))) :
  Calls Tryz.prog 58 #[.slice ao n cap] w fun e w' => e = .returned (.tuple #[.agg #[.int .i64 0, .int .i64 0, .int .i64 0, .int .i64 0, .int .i64 0, .int .i64 0, .int .i64 0, .int .i64 0, .int .i64 0], .int .i64 0, .int .i64 x]) ∧ w.grownBy w' none := by
 have hmf : ∀ (fn : Fn) (first cap : Array Value) (w : World), (Instr.makeFunc fn first cap).run Tryz.prog w = .ok (.func fn first cap) w := fun _ _ _ _ => rfl
 have HI : Hid (Calls Tryz.prog 81 #[.pointer (some ⟨w.heap.size + 1 + 1 + 1, 0, none⟩)] (rdW w (.slice ao n cap)) fun e w' => e = panics x ∧ (rdW w (.slice ao n cap)).grownBy w' (some (w.heap.size + 1 + 1 + 1))) := hI
 clear hI
 go_enter_defers Tryz.func58, Tryz.ntmps58
 go_wp2_with fail
 refine Calls.mono HI.out ?_
 rintro e w1 ⟨rfl, g1⟩
 have R1 := (rdW_ok w (.slice ao n cap)).kept g1
 go_wp2
 refine leaves_cons (f := 80) (args := #[.pointer (some ⟨w.heap.size, 0, none⟩), .pointer (some ⟨w.heap.size + 1, 0, none⟩), .pointer (some ⟨w.heap.size + 1 + 1, 0, none⟩)]) (by simp) (by simp [go_sem]) ?_
 refine (catch_panic w.heap.size (w.heap.size + 1) (w.heap.size + 1 + 1) x 0 0 Cc.zero [] _ R1.ia R1.cn.c R1.ce.c R1.cn.f R1.ce.f (by omega) (by omega) (by omega)).mono ?_
 rintro e u' w2 ⟨rfl, rfl, rfl⟩
 have hp := R1.ia.put9 Cc.zero
 have hgp := grown_put9 w1 w.heap.size Cc.zero
 have hn := R1.cn.kept hgp (by simp)
 have he := R1.ce.kept hgp (by simp; omega)
 have hp2 := (hp.kept (grown_setCell _ (w.heap.size + 1) 0 (.int .i64 0)) (by simp)).kept (grown_setCell _ (w.heap.size + 1 + 1) 0 (.int .i64 x)) (by simp; omega)
 have hn2 := (hn.set (.int .i64 0)).kept (grown_setCell _ (w.heap.size + 1 + 1) 0 (.int .i64 x)) (by simp)
 have he2 := (he.kept (grown_setCell _ (w.heap.size + 1) 0 (.int .i64 0)) (by simp)).set (.int .i64 x)
 have G2 := grown_newR (grown_newR (grown_newR R1.gr hgp (Nat.le_refl _)) (grown_setCell _ (w.heap.size + 1) 0 (.int .i64 0)) (by omega)) (grown_setCell _ (w.heap.size + 1 + 1) 0 (.int .i64 x)) (by omega)
 generalize ((put9 w1 w.heap.size Cc.zero).setCell ⟨w.heap.size + 1, 0, none⟩ (.int .i64 0)).setCell ⟨w.heap.size + 1 + 1, 0, none⟩ (.int .i64 x) = W2 at *
 obtain ⟨x0, x1, x2, x3, x4, x5, x6, x7, x8, xz⟩ := hp2
 have n0 := hn2.c
 have e0 := he2.c
 simp only [Cc.zero] at x0 x1 x2 x3 x4 x5 x6 x7 x8
 clear hp hgp hn he hn2 he2 xz HI R1 g1
 simp [Leaves, settle, results, Tryz.results58, go_sem, x0, x1, x2, x3, x4, x5, x6, x7, x8, n0, e0, G2]
theorem read_ret {w : World} {ao : Option Addr} {n cap : Nat} {v : InV} {T : Int} (hI : Calls Tryz.prog 81 #[.pointer (some ⟨w.heap.size + 1 + 1 + 1, 0, none⟩)] (rdW w (.slice ao n cap)) fun e w' => (e = .returned (.agg #[.int .i64 v.op, .int .i64 v.a, .int .i64 v.b, .int .i64 v.c, .int .i64 v.k, .int .i64 v.sub, .int .i64 v.scale, .int .i64 v.imm, .int .i64 v.label]) ∧ w'.cell? ⟨w.heap.size + 1 + 1 + 1, 1, none⟩ = some (.int .i64 T)) ∧ (rdW w (.slice ao n cap)).grownBy w' (some (w.heap.size + 1 + 1 + 1))) :
  Calls Tryz.prog 58 #[.slice ao n cap] w fun e w' => e = .returned (.tuple #[.agg #[.int .i64 v.op, .int .i64 v.a, .int .i64 v.b, .int .i64 v.c, .int .i64 v.k, .int .i64 v.sub, .int .i64 v.scale, .int .i64 v.imm, .int .i64 v.label], .int .i64 T, .int .i64 0]) ∧ w.grownBy w' none := by
 have hmf : ∀ (fn : Fn) (first cap : Array Value) (w : World), (Instr.makeFunc fn first cap).run Tryz.prog w = .ok (.func fn first cap) w := fun _ _ _ _ => rfl
 have HI : Hid (Calls Tryz.prog 81 #[.pointer (some ⟨w.heap.size + 1 + 1 + 1, 0, none⟩)] (rdW w (.slice ao n cap)) fun e w' => (e = .returned (.agg #[.int .i64 v.op, .int .i64 v.a, .int .i64 v.b, .int .i64 v.c, .int .i64 v.k, .int .i64 v.sub, .int .i64 v.scale, .int .i64 v.imm, .int .i64 v.label]) ∧ w'.cell? ⟨w.heap.size + 1 + 1 + 1, 1, none⟩ = some (.int .i64 T)) ∧ (rdW w (.slice ao n cap)).grownBy w' (some (w.heap.size + 1 + 1 + 1))) := hI
 clear hI
 go_enter_defers Tryz.func58, Tryz.ntmps58
 go_wp2_with fail
 refine Calls.mono HI.out ?_
 rintro e w1 ⟨⟨rfl, hT⟩, g1⟩
 have R1 := (rdW_ok w (.slice ao n cap)).kept g1
 obtain ⟨x0, x1, x2, x3, x4, x5, x6, x7, x8, xz⟩ := R1.ia
 have z0 := xz 0
 have z1 := xz 1
 have z2 := xz 2
 have z3 := xz 3
 have z4 := xz 4
 have z5 := xz 5
 have z6 := xz 6
 have z7 := xz 7
 have z8 := xz 8
 have n0 := R1.cn.c
 have n1 := R1.cn.f
 have e0 := R1.ce.c
 have e1 := R1.ce.f
 clear xz
 go_wp2_with fail
 have P9 := R1.ia.put9 v
 have G9 := grown_put9 w1 w.heap.size v
 have N9 := R1.cn.kept G9 (by simp)
 have E9 := R1.ce.kept G9 (by simp; omega)
 have T9 := G9.cell hT (by simp; omega)
 have GG := grown_newR R1.gr G9 (Nat.le_refl _)
 clear x0 x1 x2 x3 x4 x5 x6 x7 x8 z0 z1 z2 z3 z4 z5 z6 z7 z8 n0 n1 e0 e1 hT
 change Code.wp _ _ _ _ (put9 w1 w.heap.size v)
 generalize put9 w1 w.heap.size v = W9 at *
 clear R1 g1 G9 HI
 have P8 := P9
 obtain ⟨x0, x1, x2, x3, x4, x5, x6, x7, x8, xz⟩ := P9
 have z0 := xz 0
 have z1 := xz 1
 have z2 := xz 2
 have z3 := xz 3
 have z4 := xz 4
 have z5 := xz 5
 have z6 := xz 6
 have z7 := xz 7
 have z8 := xz 8
 have n0 := N9.c
 have n1 := N9.f
 have e0 := E9.c
 have e1 := E9.f
 clear xz
 go_region
 have Q9 := (N9.kept (grown_put9 W9 w.heap.size v) (by simp)).set (.int .i64 T)
 have Q8 := ((E9.kept (grown_put9 W9 w.heap.size v) (by simp; omega)).kept (grown_setCell _ (w.heap.size + 1) 0 (.int .i64 T)) (by simp)).set (.int .i64 0)
 have Q7 := Q9.kept (grown_setCell _ (w.heap.size + 1 + 1) 0 (.int .i64 0)) (by simp)
 have Q6 := ((P8.put9 v).kept (grown_setCell _ (w.heap.size + 1) 0 (.int .i64 T)) (by simp)).kept (grown_setCell _ (w.heap.size + 1 + 1) 0 (.int .i64 0)) (by simp; omega)
 have GQ := grown_newR (grown_newR (grown_newR GG (grown_put9 W9 w.heap.size v) (Nat.le_refl _)) (grown_setCell _ (w.heap.size + 1) 0 (.int .i64 T)) (by omega)) (grown_setCell _ (w.heap.size + 1 + 1) 0 (.int .i64 0)) (by omega)
 clear x0 x1 x2 x3 x4 x5 x6 x7 x8 z0 z1 z2 z3 z4 z5 z6 z7 z8 n0 n1 e0 e1 Q9
 change Exit.then _ _ _ _ (((put9 W9 w.heap.size v).setCell ⟨w.heap.size + 1, 0, none⟩ (.int .i64 T)).setCell ⟨w.heap.size + 1 + 1, 0, none⟩ (.int .i64 0)).drew
 generalize ((put9 W9 w.heap.size v).setCell ⟨w.heap.size + 1, 0, none⟩ (.int .i64 T)).setCell ⟨w.heap.size + 1 + 1, 0, none⟩ (.int .i64 0) = W7 at *
 have HQ : Hid (VarAt W7 (w.heap.size + 1 + 1) (.int .i64 0) ∧ VarAt W7 (w.heap.size + 1) (.int .i64 T) ∧ InstAt W7 w.heap.size v ∧ w.grownBy W7 none) := ⟨Q8, Q7, Q6, GQ⟩
 clear Q8 Q7 Q6 GQ
 go_wp2
 refine leaves_cons (f := 80) (args := #[.pointer (some ⟨w.heap.size, 0, none⟩), .pointer (some ⟨w.heap.size + 1, 0, none⟩), .pointer (some ⟨w.heap.size + 1 + 1, 0, none⟩)]) (by simp) (by simp [go_sem]) ?_
 refine (catch_idle _ _ _ _).mono ?_
 rintro e u' w2 ⟨rfl, rfl, d, rfl⟩
 obtain ⟨Q8, Q7, Q6, GQ⟩ := HQ.out
 have Q8' := Q8.kept (grown_drewN (grown_drew (World.grownBy.refl _ none)) d) (by simp)
 have Q7' := Q7.kept (grown_drewN (grown_drew (World.grownBy.refl _ none)) d) (by simp)
 have Q6' := Q6.kept (grown_drewN (grown_drew (World.grownBy.refl _ none)) d) (by simp)
 have GQ' := grown_drewN (grown_drew GQ) d
 generalize W7.drew.drewN d = W6 at *
 obtain ⟨x0, x1, x2, x3, x4, x5, x6, x7, x8, xz⟩ := Q6'
 have n0 := Q7'.c
 have e0 := Q8'.c
 simp [Leaves, settle, results, Tryz.results58, go_sem, x0, x1, x2, x3, x4, x5, x6, x7, x8, n0, e0, GQ']
def Cc.rtell (N : Nat) (g : Nat → Int) : InV × Int × Int :=
 if N = 0 then (Cc.zero, 0, 41) else if (Cc.row (g 0)).isEmpty then (Cc.zero, 0, 40) else if (Cc.cread N g).2 = 0 then (Cc.zero, 0, 41) else if (Cc.cread N g).2 < 0 then (Cc.zero, 0, 40) else ((Cc.cread N g).1, (Cc.cread N g).2, 0)
theorem two_c0 (W : World) (x y : Value) (t : TypeId) : (W.alloc (Obj.cells #[x, y] t)).cell? ⟨W.heap.size, 0, none⟩ = some x := by simp
theorem two_c1 (W : World) (x y : Value) (t : TypeId) : (W.alloc (Obj.cells #[x, y] t)).cell? ⟨W.heap.size, 1, none⟩ = some y := by simp
theorem two_fz (W : World) (x y : Value) (t : TypeId) (k : Nat) : (W.alloc (Obj.cells #[x, y] t)).frozen? ⟨W.heap.size, k, none⟩ = false := by simp
theorem rdW_c0 (w : World) (sl : Value) : (rdW w sl).cell? ⟨w.heap.size + 1 + 1 + 1, 0, none⟩ = some sl := by
 have := two_c0 (((w.alloc (Obj.cells #[.int .i64 0, .int .i64 0, .int .i64 0, .int .i64 0, .int .i64 0, .int .i64 0, .int .i64 0, .int .i64 0, .int .i64 0] 50)).alloc (Obj.cells #[.int .i64 0] 3)).alloc (Obj.cells #[.int .i64 0] 33)) sl (.int .i64 0) 115
 rw [size_alloc, size_alloc, size_alloc] at this
 exact this
theorem rdW_c1 (w : World) (sl : Value) : (rdW w sl).cell? ⟨w.heap.size + 1 + 1 + 1, 1, none⟩ = some (.int .i64 0) := by
 have := two_c1 (((w.alloc (Obj.cells #[.int .i64 0, .int .i64 0, .int .i64 0, .int .i64 0, .int .i64 0, .int .i64 0, .int .i64 0, .int .i64 0, .int .i64 0] 50)).alloc (Obj.cells #[.int .i64 0] 3)).alloc (Obj.cells #[.int .i64 0] 33)) sl (.int .i64 0) 115
 rw [size_alloc, size_alloc, size_alloc] at this
 exact this
theorem rdW_fz (w : World) (sl : Value) (k : Nat) : (rdW w sl).frozen? ⟨w.heap.size + 1 + 1 + 1, k, none⟩ = false := by
 have := two_fz (((w.alloc (Obj.cells #[.int .i64 0, .int .i64 0, .int .i64 0, .int .i64 0, .int .i64 0, .int .i64 0, .int .i64 0, .int .i64 0, .int .i64 0] 50)).alloc (Obj.cells #[.int .i64 0] 3)).alloc (Obj.cells #[.int .i64 0] 33)) sl (.int .i64 0) 115 k
 rw [size_alloc, size_alloc, size_alloc] at this
 exact this
theorem read_any {w : World} {ao : Option Addr} {n cap : Nat} {g : Nat → Int} (h : BsIn w ao n cap g) :
  Calls Tryz.prog 58 #[.slice ao n cap] w fun e w' => e = .returned (.tuple #[.agg #[.int .i64 (Cc.rtell n g).1.op, .int .i64 (Cc.rtell n g).1.a, .int .i64 (Cc.rtell n g).1.b, .int .i64 (Cc.rtell n g).1.c, .int .i64 (Cc.rtell n g).1.k, .int .i64 (Cc.rtell n g).1.sub, .int .i64 (Cc.rtell n g).1.scale, .int .i64 (Cc.rtell n g).1.imm, .int .i64 (Cc.rtell n g).1.label], .int .i64 (Cc.rtell n g).2.1, .int .i64 (Cc.rtell n g).2.2]) ∧ w.grownBy w' none := by
 by_cases h0 : n = 0
 ·subst h0
  have e : Cc.rtell 0 g = (Cc.zero, 0, 41) := by unfold Cc.rtell; rw [if_pos rfl]
  rw [e]
  exact read_panic (inst_none (rdW_c0 w _) (rdW_c1 w _))
 ·obtain ⟨b, off, rfl, hc⟩ := h.bs.at (by omega)
  have hb := h.lt b off (by omega) rfl
  have R : RdAt (rdW w (.slice (some ⟨b, off, none⟩) n cap)) (w.heap.size + 1 + 1 + 1) b off n cap g 0 :=
   ⟨rdW_c0 w _, rdW_c1 w _, rdW_fz w _, fun i hi => (rdW_ok w (.slice (some ⟨b, off, none⟩) n cap)).gr.cell (hc i hi) (by simp), h.fit, by omega, Nat.le_trans h.le h.max, Nat.zero_le _⟩
  cases hr : (Cc.row (g 0)).isEmpty
  ·have hI := inst_any R (by omega) hr
   by_cases h1 : (Cc.cread n g).2 = 0
   ·have e : Cc.rtell n g = (Cc.zero, 0, 41) := by unfold Cc.rtell; rw [if_neg h0, hr, if_neg (by decide), if_pos h1]
    rw [e]
    refine read_panic (hI.mono fun e w' hE => ⟨?_, hE.1⟩)
    rcases hE.2 with ⟨a, _⟩ | ⟨_, a⟩ | ⟨a, _⟩
    ·omega
    ·exact a
    ·omega
   ·by_cases h2 : (Cc.cread n g).2 < 0
    ·have e : Cc.rtell n g = (Cc.zero, 0, 40) := by unfold Cc.rtell; rw [if_neg h0, hr, if_neg (by decide), if_neg h1, if_pos h2]
     rw [e]
     refine read_panic (hI.mono fun e w' hE => ⟨?_, hE.1⟩)
     rcases hE.2 with ⟨a, _⟩ | ⟨a, _⟩ | ⟨_, a⟩
     ·omega
     ·omega
     ·exact a
    ·have e : Cc.rtell n g = ((Cc.cread n g).1, (Cc.cread n g).2, 0) := by unfold Cc.rtell; rw [if_neg h0, hr, if_neg (by decide), if_neg h1, if_neg h2]
     rw [e]
     refine read_ret (hI.mono fun e w' hE => ⟨?_, hE.1⟩)
     rcases hE.2 with ⟨_, a⟩ | ⟨a, _⟩ | ⟨a, _⟩
     ·exact a
     ·omega
     ·omega
  ·have e : Cc.rtell n g = (Cc.zero, 0, 40) := by unfold Cc.rtell; rw [if_neg h0, hr]; rfl
   rw [e]
   exact read_panic (inst_norow R (by omega) hr)
end Go.Proofs.YtkiockffejlnhaaGreatDoor
