/- The program's machine: what single instructions do: pb19, pb23f, pb23, pb23n, pb24, pb24n, pb25t, pb25f, pb26, pb27, pb28, pb29. -/
import Derived.Test.YtdklaeppcjopoaaGreatDoorG7
namespace Go.Proofs.YtdklaeppcjopoaaGreatDoor
open Go.RowKit
set_option linter.unusedVariables false

set_option maxRecDepth 100000 in
set_option maxHeartbeats 4000000 in
theorem pb19 {w : World} {h : Pd} {s : Ru.St} (x : IsC w h s) (a b c : Nat) (a16 : a < 16) (b16 : b < 16) (c16 : c < 16) (k sub sc lb : Int) (imm : Int) :
    Calls Tryz.prog 145 #[.pointer (some ⟨h.B, 0, none⟩), .agg #[.int .i64 19, .int .i64 a, .int .i64 b, .int .i64 c, .int .i64 k, .int .i64 sub, .int .i64 sc, .int .i64 imm, .int .i64 lb]] w fun r w' => r = .returned (.tuple #[]) ∧ IsC w' h (s.goto (s.pl + imm)) ∧ Mc h w w' := by
  have G := World.grownBy_alloc w (Obj.cells #[.int .i64 19, .int .i64 a, .int .i64 b, .int .i64 c, .int .i64 k, .int .i64 sub, .int .i64 sc, .int .i64 imm, .int .i64 lb] 34) none
  have HX1 : Hid (IsC (w.alloc (Obj.cells #[.int .i64 19, .int .i64 a, .int .i64 b, .int .i64 c, .int .i64 k, .int .i64 sub, .int .i64 sc, .int .i64 imm, .int .i64 lb] 34)) h s) := x.kept G
  have HV1 : Hid (Mc h w (w.alloc (Obj.cells #[.int .i64 19, .int .i64 a, .int .i64 b, .int .i64 c, .int .i64 k, .int .i64 sub, .int .i64 sc, .int .i64 imm, .int .i64 lb] 34))) := Mc.refl.grown G
  have HJ1 : Hid (InstAt (w.alloc (Obj.cells #[.int .i64 19, .int .i64 a, .int .i64 b, .int .i64 c, .int .i64 k, .int .i64 sub, .int .i64 sc, .int .i64 imm, .int .i64 lb] 34)) w.heap.size ⟨19, a, b, c, k, sub, sc, imm, lb⟩) := InstAt.new w ⟨19, a, b, c, k, sub, sc, imm, lb⟩
  have HK : Hid (w.heap.size ≠ h.B) := fun e => by have := x.hd.lt; omega
  have HX : Hid (IsC w h s) := x
  obtain ⟨N1, hN1⟩ : ∃ N, N = w.heap.size := ⟨_, rfl⟩
  have hN : Hid (w.heap.size ≤ N1) := by rw [hN1]; exact Nat.le_refl _
  have a16' : (a : Int) < 16 := by omega
  have b16' : (b : Int) < 16 := by omega
  have c16' : (c : Int) < 16 := by omega
  have eW : IntKind.u64.wrap imm = Ru.wr imm := by rw [IntKind.wrap_u64]; rfl
  have HA : Hid (∀ i, Ru.W64 (s.r i)) := x.ok.r
  have HW : Hid (Ru.W64 (Ru.wr imm)) := Ru.wr_w imm
  clear x G
  go_enter Tryz.func145, Tryz.ntmps145
  go_wp2_with fail
  rw [← hN1] at HJ1 HK
  rw [← hN1]
  clear hN1
  generalize w.alloc (Obj.cells #[.int .i64 19, .int .i64 a, .int .i64 b, .int .i64 c, .int .i64 k, .int .i64 sub, .int .i64 sc, .int .i64 imm, .int .i64 lb] 34) = W at *
  go_wp2_with fail
  refine (pjump HX1.out imm).mono ?_
  rintro r w6 ⟨rfl, x6, v6⟩
  have HX6 : Hid (IsC w6 h _) := x6
  have HV6 : Hid (Mc h w w6) := HV1.out.trans v6
  have HJ6 : Hid (InstAt w6 N1 ⟨19, a, b, c, k, sub, sc, imm, lb⟩) := v6.inst HJ1.out HX.out hN.out
  clear x6 v6 HX1 HV1 HJ1
  go_wp2
  first | go_end0 | go_returns
  exact ⟨rfl, HX6.out, HV6.out⟩
set_option maxRecDepth 100000 in
set_option maxHeartbeats 4000000 in
theorem pb23f {w : World} {h : Pd} {s : Ru.St} (x : IsC w h s) (a b c : Nat) (a16 : a < 16) (b16 : b < 16) (c16 : c < 16) (k sub sc lb : Int) (imm : Int) (hl : Ru.wr (s.r 15 - 8) < (h.S : Int) - 4096) :
    Calls Tryz.prog 145 #[.pointer (some ⟨h.B, 0, none⟩), .agg #[.int .i64 23, .int .i64 a, .int .i64 b, .int .i64 c, .int .i64 k, .int .i64 sub, .int .i64 sc, .int .i64 imm, .int .i64 lb]] w fun r w' => r = .returned (.tuple #[]) ∧ IsC w' h ({ s.put 15 (Ru.wr (s.r 15 - 8)) with e := 4, n := 0 }) ∧ Mc h w w' := by
  have G := World.grownBy_alloc w (Obj.cells #[.int .i64 23, .int .i64 a, .int .i64 b, .int .i64 c, .int .i64 k, .int .i64 sub, .int .i64 sc, .int .i64 imm, .int .i64 lb] 34) none
  have HX1 : Hid (IsC (w.alloc (Obj.cells #[.int .i64 23, .int .i64 a, .int .i64 b, .int .i64 c, .int .i64 k, .int .i64 sub, .int .i64 sc, .int .i64 imm, .int .i64 lb] 34)) h s) := x.kept G
  have HV1 : Hid (Mc h w (w.alloc (Obj.cells #[.int .i64 23, .int .i64 a, .int .i64 b, .int .i64 c, .int .i64 k, .int .i64 sub, .int .i64 sc, .int .i64 imm, .int .i64 lb] 34))) := Mc.refl.grown G
  have HJ1 : Hid (InstAt (w.alloc (Obj.cells #[.int .i64 23, .int .i64 a, .int .i64 b, .int .i64 c, .int .i64 k, .int .i64 sub, .int .i64 sc, .int .i64 imm, .int .i64 lb] 34)) w.heap.size ⟨23, a, b, c, k, sub, sc, imm, lb⟩) := InstAt.new w ⟨23, a, b, c, k, sub, sc, imm, lb⟩
  have HK : Hid (w.heap.size ≠ h.B) := fun e => by have := x.hd.lt; omega
  have HX : Hid (IsC w h s) := x
  obtain ⟨N1, hN1⟩ : ∃ N, N = w.heap.size := ⟨_, rfl⟩
  have hN : Hid (w.heap.size ≤ N1) := by rw [hN1]; exact Nat.le_refl _
  have a16' : (a : Int) < 16 := by omega
  have b16' : (b : Int) < 16 := by omega
  have c16' : (c : Int) < 16 := by omega
  have eW : IntKind.u64.wrap imm = Ru.wr imm := by rw [IntKind.wrap_u64]; rfl
  have HA : Hid (∀ i, Ru.W64 (s.r i)) := x.ok.r
  have HW : Hid (Ru.W64 (Ru.wr imm)) := Ru.wr_w imm
  clear x G
  go_enter Tryz.func145, Tryz.ntmps145
  go_wp2_with fail
  rw [← hN1] at HJ1 HK
  rw [← hN1]
  clear hN1
  generalize w.alloc (Obj.cells #[.int .i64 23, .int .i64 a, .int .i64 b, .int .i64 c, .int .i64 k, .int .i64 sub, .int .i64 sc, .int .i64 imm, .int .i64 lb] 34) = W at *
  go_wp2_with fail
  refine (pcall_full HX1.out imm hl).mono ?_
  rintro r w6 ⟨rfl, x6, v6⟩
  have HX6 : Hid (IsC w6 h _) := x6
  have HV6 : Hid (Mc h w w6) := HV1.out.trans v6
  have HJ6 : Hid (InstAt w6 N1 ⟨23, a, b, c, k, sub, sc, imm, lb⟩) := v6.inst HJ1.out HX.out hN.out
  clear x6 v6 HX1 HV1 HJ1
  go_wp2
  first | go_end0 | go_returns
  exact ⟨rfl, HX6.out, HV6.out⟩
set_option maxRecDepth 100000 in
set_option maxHeartbeats 4000000 in
theorem pb23 {w : World} {h : Pd} {s : Ru.St} (x : IsC w h s) (a b c : Nat) (a16 : a < 16) (b16 : b < 16) (c16 : c < 16) (k sub sc lb : Int) (imm : Int) (hl : (h.S : Int) - 4096 ≤ Ru.wr (s.r 15 - 8)) (he : Mm.lE h.S 9 (Ru.wr (s.r 15 - 8)) = 0) :
    Calls Tryz.prog 145 #[.pointer (some ⟨h.B, 0, none⟩), .agg #[.int .i64 23, .int .i64 a, .int .i64 b, .int .i64 c, .int .i64 k, .int .i64 sub, .int .i64 sc, .int .i64 imm, .int .i64 lb]] w fun r w' => r = .returned (.tuple #[]) ∧ IsC w' h (((s.put 15 (Ru.wr (s.r 15 - 8))).lay h.S (Ru.wr (s.r 15 - 8)) 9 (Ru.wr s.pl)).goto (((s.put 15 (Ru.wr (s.r 15 - 8))).lay h.S (Ru.wr (s.r 15 - 8)) 9 (Ru.wr s.pl)).pl + imm)) ∧ Mc h w w' := by
  have G := World.grownBy_alloc w (Obj.cells #[.int .i64 23, .int .i64 a, .int .i64 b, .int .i64 c, .int .i64 k, .int .i64 sub, .int .i64 sc, .int .i64 imm, .int .i64 lb] 34) none
  have HX1 : Hid (IsC (w.alloc (Obj.cells #[.int .i64 23, .int .i64 a, .int .i64 b, .int .i64 c, .int .i64 k, .int .i64 sub, .int .i64 sc, .int .i64 imm, .int .i64 lb] 34)) h s) := x.kept G
  have HV1 : Hid (Mc h w (w.alloc (Obj.cells #[.int .i64 23, .int .i64 a, .int .i64 b, .int .i64 c, .int .i64 k, .int .i64 sub, .int .i64 sc, .int .i64 imm, .int .i64 lb] 34))) := Mc.refl.grown G
  have HJ1 : Hid (InstAt (w.alloc (Obj.cells #[.int .i64 23, .int .i64 a, .int .i64 b, .int .i64 c, .int .i64 k, .int .i64 sub, .int .i64 sc, .int .i64 imm, .int .i64 lb] 34)) w.heap.size ⟨23, a, b, c, k, sub, sc, imm, lb⟩) := InstAt.new w ⟨23, a, b, c, k, sub, sc, imm, lb⟩
  have HK : Hid (w.heap.size ≠ h.B) := fun e => by have := x.hd.lt; omega
  have HX : Hid (IsC w h s) := x
  obtain ⟨N1, hN1⟩ : ∃ N, N = w.heap.size := ⟨_, rfl⟩
  have hN : Hid (w.heap.size ≤ N1) := by rw [hN1]; exact Nat.le_refl _
  have a16' : (a : Int) < 16 := by omega
  have b16' : (b : Int) < 16 := by omega
  have c16' : (c : Int) < 16 := by omega
  have eW : IntKind.u64.wrap imm = Ru.wr imm := by rw [IntKind.wrap_u64]; rfl
  have HA : Hid (∀ i, Ru.W64 (s.r i)) := x.ok.r
  have HW : Hid (Ru.W64 (Ru.wr imm)) := Ru.wr_w imm
  clear x G
  go_enter Tryz.func145, Tryz.ntmps145
  go_wp2_with fail
  rw [← hN1] at HJ1 HK
  rw [← hN1]
  clear hN1
  generalize w.alloc (Obj.cells #[.int .i64 23, .int .i64 a, .int .i64 b, .int .i64 c, .int .i64 k, .int .i64 sub, .int .i64 sc, .int .i64 imm, .int .i64 lb] 34) = W at *
  go_wp2_with fail
  refine (pcall_ok HX1.out imm hl he).mono ?_
  rintro r w6 ⟨rfl, x6, v6⟩
  have HX6 : Hid (IsC w6 h _) := x6
  have HV6 : Hid (Mc h w w6) := HV1.out.trans v6
  have HJ6 : Hid (InstAt w6 N1 ⟨23, a, b, c, k, sub, sc, imm, lb⟩) := v6.inst HJ1.out HX.out hN.out
  clear x6 v6 HX1 HV1 HJ1
  go_wp2
  first | go_end0 | go_returns
  exact ⟨rfl, HX6.out, HV6.out⟩
set_option maxRecDepth 100000 in
set_option maxHeartbeats 4000000 in
theorem pb23n {w : World} {h : Pd} {s : Ru.St} (x : IsC w h s) (a b c : Nat) (a16 : a < 16) (b16 : b < 16) (c16 : c < 16) (k sub sc lb : Int) (imm : Int) (hl : (h.S : Int) - 4096 ≤ Ru.wr (s.r 15 - 8)) (he : (Mm.lE h.S 9 (Ru.wr (s.r 15 - 8)) != 0) = true) :
    Calls Tryz.prog 145 #[.pointer (some ⟨h.B, 0, none⟩), .agg #[.int .i64 23, .int .i64 a, .int .i64 b, .int .i64 c, .int .i64 k, .int .i64 sub, .int .i64 sc, .int .i64 imm, .int .i64 lb]] w fun r w' => r = .panicked stk ∧ (∃ s', IsC w' h s') ∧ Mc h w w' := by
  have G := World.grownBy_alloc w (Obj.cells #[.int .i64 23, .int .i64 a, .int .i64 b, .int .i64 c, .int .i64 k, .int .i64 sub, .int .i64 sc, .int .i64 imm, .int .i64 lb] 34) none
  have HX1 : Hid (IsC (w.alloc (Obj.cells #[.int .i64 23, .int .i64 a, .int .i64 b, .int .i64 c, .int .i64 k, .int .i64 sub, .int .i64 sc, .int .i64 imm, .int .i64 lb] 34)) h s) := x.kept G
  have HV1 : Hid (Mc h w (w.alloc (Obj.cells #[.int .i64 23, .int .i64 a, .int .i64 b, .int .i64 c, .int .i64 k, .int .i64 sub, .int .i64 sc, .int .i64 imm, .int .i64 lb] 34))) := Mc.refl.grown G
  have HJ1 : Hid (InstAt (w.alloc (Obj.cells #[.int .i64 23, .int .i64 a, .int .i64 b, .int .i64 c, .int .i64 k, .int .i64 sub, .int .i64 sc, .int .i64 imm, .int .i64 lb] 34)) w.heap.size ⟨23, a, b, c, k, sub, sc, imm, lb⟩) := InstAt.new w ⟨23, a, b, c, k, sub, sc, imm, lb⟩
  have HK : Hid (w.heap.size ≠ h.B) := fun e => by have := x.hd.lt; omega
  have HX : Hid (IsC w h s) := x
  obtain ⟨N1, hN1⟩ : ∃ N, N = w.heap.size := ⟨_, rfl⟩
  have hN : Hid (w.heap.size ≤ N1) := by rw [hN1]; exact Nat.le_refl _
  have a16' : (a : Int) < 16 := by omega
  have b16' : (b : Int) < 16 := by omega
  have c16' : (c : Int) < 16 := by omega
  have eW : IntKind.u64.wrap imm = Ru.wr imm := by rw [IntKind.wrap_u64]; rfl
  have HA : Hid (∀ i, Ru.W64 (s.r i)) := x.ok.r
  have HW : Hid (Ru.W64 (Ru.wr imm)) := Ru.wr_w imm
  clear x G
  go_enter Tryz.func145, Tryz.ntmps145
  go_wp2_with fail
  rw [← hN1] at HJ1 HK
  rw [← hN1]
  clear hN1
  generalize w.alloc (Obj.cells #[.int .i64 23, .int .i64 a, .int .i64 b, .int .i64 c, .int .i64 k, .int .i64 sub, .int .i64 sc, .int .i64 imm, .int .i64 lb] 34) = W at *
  go_wp2_with fail
  refine (pcall_no HX1.out imm hl he).mono ?_
  rintro r w6 ⟨rfl, x6, v6⟩
  exact ⟨rfl, rfl, x6, HV1.out.trans v6⟩
set_option maxRecDepth 100000 in
set_option maxHeartbeats 4000000 in
theorem pb24 {w : World} {h : Pd} {s : Ru.St} (x : IsC w h s) (a b c : Nat) (a16 : a < 16) (b16 : b < 16) (c16 : c < 16) (k sub sc lb : Int) (imm : Int) (v : Int) (hv : Mm.lV h.S s.m 9 (s.r 15) = v) (he : Mm.lE h.S 9 (s.r 15) = 0) :
    Calls Tryz.prog 145 #[.pointer (some ⟨h.B, 0, none⟩), .agg #[.int .i64 24, .int .i64 a, .int .i64 b, .int .i64 c, .int .i64 k, .int .i64 sub, .int .i64 sc, .int .i64 imm, .int .i64 lb]] w fun r w' => r = .returned (.tuple #[]) ∧ IsC w' h ({ s.put 15 (Ru.wr (s.r 15 + 8)) with pl := Wd.sg v }) ∧ Mc h w w' := by
  have G := World.grownBy_alloc w (Obj.cells #[.int .i64 24, .int .i64 a, .int .i64 b, .int .i64 c, .int .i64 k, .int .i64 sub, .int .i64 sc, .int .i64 imm, .int .i64 lb] 34) none
  have HX1 : Hid (IsC (w.alloc (Obj.cells #[.int .i64 24, .int .i64 a, .int .i64 b, .int .i64 c, .int .i64 k, .int .i64 sub, .int .i64 sc, .int .i64 imm, .int .i64 lb] 34)) h s) := x.kept G
  have HV1 : Hid (Mc h w (w.alloc (Obj.cells #[.int .i64 24, .int .i64 a, .int .i64 b, .int .i64 c, .int .i64 k, .int .i64 sub, .int .i64 sc, .int .i64 imm, .int .i64 lb] 34))) := Mc.refl.grown G
  have HJ1 : Hid (InstAt (w.alloc (Obj.cells #[.int .i64 24, .int .i64 a, .int .i64 b, .int .i64 c, .int .i64 k, .int .i64 sub, .int .i64 sc, .int .i64 imm, .int .i64 lb] 34)) w.heap.size ⟨24, a, b, c, k, sub, sc, imm, lb⟩) := InstAt.new w ⟨24, a, b, c, k, sub, sc, imm, lb⟩
  have HK : Hid (w.heap.size ≠ h.B) := fun e => by have := x.hd.lt; omega
  have HX : Hid (IsC w h s) := x
  obtain ⟨N1, hN1⟩ : ∃ N, N = w.heap.size := ⟨_, rfl⟩
  have hN : Hid (w.heap.size ≤ N1) := by rw [hN1]; exact Nat.le_refl _
  have a16' : (a : Int) < 16 := by omega
  have b16' : (b : Int) < 16 := by omega
  have c16' : (c : Int) < 16 := by omega
  have eW : IntKind.u64.wrap imm = Ru.wr imm := by rw [IntKind.wrap_u64]; rfl
  have HVw : Hid (Ru.W64 v) := by rw [← hv]; exact Ru.lv_w _ _ _ _
  have r15 : (w.alloc (Obj.cells #[.int .i64 24, .int .i64 a, .int .i64 b, .int .i64 c, .int .i64 k, .int .i64 sub, .int .i64 sc, .int .i64 imm, .int .i64 lb] 34)).cell? ⟨h.B, 17, none⟩ = some (.int .u64 (s.r 15)) := HX1.out.rc (a := 15) (by decide)
  have HA : Hid (∀ i, Ru.W64 (s.r i)) := x.ok.r
  have HW : Hid (Ru.W64 (Ru.wr imm)) := Ru.wr_w imm
  clear x G
  go_enter Tryz.func145, Tryz.ntmps145
  go_wp2_with fail
  rw [← hN1] at HJ1 HK
  rw [← hN1]
  clear hN1
  generalize w.alloc (Obj.cells #[.int .i64 24, .int .i64 a, .int .i64 b, .int .i64 c, .int .i64 k, .int .i64 sub, .int .i64 sc, .int .i64 imm, .int .i64 lb] 34) = W at *
  refine (pload_ok HX1.out (s.r 15) 9 v (HA.out 15) hv he).mono ?_
  rintro r W4 ⟨rfl, g⟩
  have HX4 : Hid (IsC W4 h s) := HX1.out.kept g
  have HV4 : Hid (Mc h w W4) := HV1.out.grown g
  have HJ4 : Hid (InstAt W4 N1 ⟨24, a, b, c, k, sub, sc, imm, lb⟩) := HJ1.out.kept g (by simp)
  clear g HX1 HV1 HJ1
  have p1 := HX4.out.c1
  have q1 := HX4.out.fz 1
  have ew : Ru.wr (Wd.sg v) = v := by obtain ⟨h1, h2⟩ := HVw.out; unfold Ru.wr Wd.sg; omega
  have HX7 : Hid (IsC (W4.setCell ⟨h.B, 1, none⟩ (.int .u64 v)) h { s with pl := Wd.sg v }) := by have := HX4.out.pl (Ru.sg_b v); rw [ew] at this; exact this
  have HV7 : Hid (Mc h w (W4.setCell ⟨h.B, 1, none⟩ (.int .u64 v))) := HV4.out.setB _ _
  clear ew r15
  go_wp2_with fail
  generalize (W4.setCell ⟨h.B, 1, none⟩ (.int .u64 v)) = W7 at *
  refine tail_quiet 7 (by kernel_rfl) (by kernel_rfl) ?_
  have HX5 : Hid (IsC W7.drew h { s with pl := Wd.sg v }) := HX7.out.kept (grown_drew (World.grownBy.refl _ none))
  have HV5 : Hid (Mc h w W7.drew) := HV7.out.grown (grown_drew (World.grownBy.refl _ none))
  clear HX4 HV4 HJ4 HX7 HV7 p1 q1
  generalize W7.drew = W5 at *
  have r15 : W5.cell? ⟨h.B, 17, none⟩ = some (.int .u64 (s.r 15)) := HX5.out.rc (a := 15) (by decide)
  have f15 := HX5.out.fz 17
  simp only [List.take_succ_cons, List.take_zero, List.drop_succ_cons, List.drop_zero]
  repeat (go_big_quiet_step (exact rfl))
  refine wpQuiet_nil ?_
  have HX6 : Hid (IsC (W5.setCell ⟨h.B, 17, none⟩ (.int .u64 (IntKind.u64.wrap (s.r 15 + 8)))) h { s.put 15 (Ru.wr (s.r 15 + 8)) with pl := Wd.sg v }) := by
    rw [show IntKind.u64.wrap (s.r 15 + 8) = Ru.wr (s.r 15 + 8) by rw [IntKind.wrap_u64]; rfl]
    exact HX5.out.put (a := 15) (by decide) (Ru.wr_w _)
  have HV6 : Hid (Mc h w (W5.setCell ⟨h.B, 17, none⟩ (.int .u64 (IntKind.u64.wrap (s.r 15 + 8))))) := HV5.out.setB _ _
  clear HX5 HV5
  go_wp2
  first | go_end0 | go_returns
  exact ⟨rfl, HX6.out, HV6.out⟩
set_option maxRecDepth 100000 in
set_option maxHeartbeats 4000000 in
theorem pb24n {w : World} {h : Pd} {s : Ru.St} (x : IsC w h s) (a b c : Nat) (a16 : a < 16) (b16 : b < 16) (c16 : c < 16) (k sub sc lb : Int) (imm : Int) (he : (Mm.lE h.S 9 (s.r 15) != 0) = true) :
    Calls Tryz.prog 145 #[.pointer (some ⟨h.B, 0, none⟩), .agg #[.int .i64 24, .int .i64 a, .int .i64 b, .int .i64 c, .int .i64 k, .int .i64 sub, .int .i64 sc, .int .i64 imm, .int .i64 lb]] w fun r w' => r = .panicked stk ∧ (∃ s', IsC w' h s') ∧ Mc h w w' := by
  have G := World.grownBy_alloc w (Obj.cells #[.int .i64 24, .int .i64 a, .int .i64 b, .int .i64 c, .int .i64 k, .int .i64 sub, .int .i64 sc, .int .i64 imm, .int .i64 lb] 34) none
  have HX1 : Hid (IsC (w.alloc (Obj.cells #[.int .i64 24, .int .i64 a, .int .i64 b, .int .i64 c, .int .i64 k, .int .i64 sub, .int .i64 sc, .int .i64 imm, .int .i64 lb] 34)) h s) := x.kept G
  have HV1 : Hid (Mc h w (w.alloc (Obj.cells #[.int .i64 24, .int .i64 a, .int .i64 b, .int .i64 c, .int .i64 k, .int .i64 sub, .int .i64 sc, .int .i64 imm, .int .i64 lb] 34))) := Mc.refl.grown G
  have HJ1 : Hid (InstAt (w.alloc (Obj.cells #[.int .i64 24, .int .i64 a, .int .i64 b, .int .i64 c, .int .i64 k, .int .i64 sub, .int .i64 sc, .int .i64 imm, .int .i64 lb] 34)) w.heap.size ⟨24, a, b, c, k, sub, sc, imm, lb⟩) := InstAt.new w ⟨24, a, b, c, k, sub, sc, imm, lb⟩
  have HK : Hid (w.heap.size ≠ h.B) := fun e => by have := x.hd.lt; omega
  have HX : Hid (IsC w h s) := x
  obtain ⟨N1, hN1⟩ : ∃ N, N = w.heap.size := ⟨_, rfl⟩
  have hN : Hid (w.heap.size ≤ N1) := by rw [hN1]; exact Nat.le_refl _
  have a16' : (a : Int) < 16 := by omega
  have b16' : (b : Int) < 16 := by omega
  have c16' : (c : Int) < 16 := by omega
  have eW : IntKind.u64.wrap imm = Ru.wr imm := by rw [IntKind.wrap_u64]; rfl
  have r15 : (w.alloc (Obj.cells #[.int .i64 24, .int .i64 a, .int .i64 b, .int .i64 c, .int .i64 k, .int .i64 sub, .int .i64 sc, .int .i64 imm, .int .i64 lb] 34)).cell? ⟨h.B, 17, none⟩ = some (.int .u64 (s.r 15)) := HX1.out.rc (a := 15) (by decide)
  have HA : Hid (∀ i, Ru.W64 (s.r i)) := x.ok.r
  have HW : Hid (Ru.W64 (Ru.wr imm)) := Ru.wr_w imm
  clear x G
  go_enter Tryz.func145, Tryz.ntmps145
  go_wp2_with fail
  rw [← hN1] at HJ1 HK
  rw [← hN1]
  clear hN1
  generalize w.alloc (Obj.cells #[.int .i64 24, .int .i64 a, .int .i64 b, .int .i64 c, .int .i64 k, .int .i64 sub, .int .i64 sc, .int .i64 imm, .int .i64 lb] 34) = W at *
  refine (pload_no HX1.out (s.r 15) 9 (HA.out 15) he).mono ?_
  rintro r w6 ⟨rfl, g⟩
  exact ⟨rfl, rfl, ⟨_, HX1.out.kept g⟩, HV1.out.grown g⟩
set_option maxRecDepth 100000 in
set_option maxHeartbeats 4000000 in
theorem pb25t {w : World} {h : Pd} {s : Ru.St} (x : IsC w h s) (a b c : Nat) (a16 : a < 16) (b16 : b < 16) (c16 : c < 16) (k sub sc lb : Int) (imm : Int) (hl : s.r 15 < Ru.wr (h.S - 4096 + imm)) :
    Calls Tryz.prog 145 #[.pointer (some ⟨h.B, 0, none⟩), .agg #[.int .i64 25, .int .i64 a, .int .i64 b, .int .i64 c, .int .i64 k, .int .i64 sub, .int .i64 sc, .int .i64 imm, .int .i64 lb]] w fun r w' => r = .returned (.tuple #[]) ∧ IsC w' h ({ s with e := 4, n := 0 }) ∧ Mc h w w' := by
  have G := World.grownBy_alloc w (Obj.cells #[.int .i64 25, .int .i64 a, .int .i64 b, .int .i64 c, .int .i64 k, .int .i64 sub, .int .i64 sc, .int .i64 imm, .int .i64 lb] 34) none
  have HX1 : Hid (IsC (w.alloc (Obj.cells #[.int .i64 25, .int .i64 a, .int .i64 b, .int .i64 c, .int .i64 k, .int .i64 sub, .int .i64 sc, .int .i64 imm, .int .i64 lb] 34)) h s) := x.kept G
  have HV1 : Hid (Mc h w (w.alloc (Obj.cells #[.int .i64 25, .int .i64 a, .int .i64 b, .int .i64 c, .int .i64 k, .int .i64 sub, .int .i64 sc, .int .i64 imm, .int .i64 lb] 34))) := Mc.refl.grown G
  have HJ1 : Hid (InstAt (w.alloc (Obj.cells #[.int .i64 25, .int .i64 a, .int .i64 b, .int .i64 c, .int .i64 k, .int .i64 sub, .int .i64 sc, .int .i64 imm, .int .i64 lb] 34)) w.heap.size ⟨25, a, b, c, k, sub, sc, imm, lb⟩) := InstAt.new w ⟨25, a, b, c, k, sub, sc, imm, lb⟩
  have HK : Hid (w.heap.size ≠ h.B) := fun e => by have := x.hd.lt; omega
  have HX : Hid (IsC w h s) := x
  obtain ⟨N1, hN1⟩ : ∃ N, N = w.heap.size := ⟨_, rfl⟩
  have hN : Hid (w.heap.size ≤ N1) := by rw [hN1]; exact Nat.le_refl _
  have a16' : (a : Int) < 16 := by omega
  have b16' : (b : Int) < 16 := by omega
  have c16' : (c : Int) < 16 := by omega
  have eW : IntKind.u64.wrap imm = Ru.wr imm := by rw [IntKind.wrap_u64]; rfl
  have eL : decide (s.r 15 < IntKind.u64.wrap ((h.S : Int) - 4096 + Ru.wr imm)) = true := by
    have e : IntKind.u64.wrap ((h.S : Int) - 4096 + Ru.wr imm) = Ru.wr (h.S - 4096 + imm) := by rw [IntKind.wrap_u64]; unfold Ru.wr; omega
    rw [e]
    exact decide_eq_true hl
  clear hl
  have HA : Hid (∀ i, Ru.W64 (s.r i)) := x.ok.r
  have HW : Hid (Ru.W64 (Ru.wr imm)) := Ru.wr_w imm
  clear x G
  go_enter Tryz.func145, Tryz.ntmps145
  go_wp2_with fail
  rw [← hN1] at HJ1 HK
  rw [← hN1]
  clear hN1
  generalize w.alloc (Obj.cells #[.int .i64 25, .int .i64 a, .int .i64 b, .int .i64 c, .int .i64 k, .int .i64 sub, .int .i64 sc, .int .i64 imm, .int .i64 lb] 34) = W at *
  have HD : Hid (∀ d, IsC (W.drewN d) h s ∧ Mc h w (W.drewN d)) := fun d => ⟨HX1.out.kept (grown_drewN (World.grownBy.refl W none) d), HV1.out.grown (grown_drewN (World.grownBy.refl W none) d)⟩
  obtain ⟨d0, d1, d2, d3, d4, d5, d6, d7, d8, dz⟩ := HJ1.out
  clear dz
  have r15 : W.cell? ⟨h.B, 17, none⟩ = some (.int .u64 (s.r 15)) := HX1.out.rc (a := 15) (by decide)
  have c20 := HX1.out.c20
  go_quiet (fail)
  go_wp2_with fail
  refine (pfinish (HD.out _).1 4 0).mono ?_
  rintro r w6 ⟨rfl, x6, v6⟩
  go_wp2
  first | go_end0 | go_returns
  exact ⟨rfl, x6, (HD.out _).2.trans v6⟩
set_option maxRecDepth 100000 in
set_option maxHeartbeats 4000000 in
theorem pb25f {w : World} {h : Pd} {s : Ru.St} (x : IsC w h s) (a b c : Nat) (a16 : a < 16) (b16 : b < 16) (c16 : c < 16) (k sub sc lb : Int) (imm : Int) (hl : ¬ s.r 15 < Ru.wr (h.S - 4096 + imm)) :
    Calls Tryz.prog 145 #[.pointer (some ⟨h.B, 0, none⟩), .agg #[.int .i64 25, .int .i64 a, .int .i64 b, .int .i64 c, .int .i64 k, .int .i64 sub, .int .i64 sc, .int .i64 imm, .int .i64 lb]] w fun r w' => r = .returned (.tuple #[]) ∧ IsC w' h (s) ∧ Mc h w w' := by
  have G := World.grownBy_alloc w (Obj.cells #[.int .i64 25, .int .i64 a, .int .i64 b, .int .i64 c, .int .i64 k, .int .i64 sub, .int .i64 sc, .int .i64 imm, .int .i64 lb] 34) none
  have HX1 : Hid (IsC (w.alloc (Obj.cells #[.int .i64 25, .int .i64 a, .int .i64 b, .int .i64 c, .int .i64 k, .int .i64 sub, .int .i64 sc, .int .i64 imm, .int .i64 lb] 34)) h s) := x.kept G
  have HV1 : Hid (Mc h w (w.alloc (Obj.cells #[.int .i64 25, .int .i64 a, .int .i64 b, .int .i64 c, .int .i64 k, .int .i64 sub, .int .i64 sc, .int .i64 imm, .int .i64 lb] 34))) := Mc.refl.grown G
  have HJ1 : Hid (InstAt (w.alloc (Obj.cells #[.int .i64 25, .int .i64 a, .int .i64 b, .int .i64 c, .int .i64 k, .int .i64 sub, .int .i64 sc, .int .i64 imm, .int .i64 lb] 34)) w.heap.size ⟨25, a, b, c, k, sub, sc, imm, lb⟩) := InstAt.new w ⟨25, a, b, c, k, sub, sc, imm, lb⟩
  have HK : Hid (w.heap.size ≠ h.B) := fun e => by have := x.hd.lt; omega
  have HX : Hid (IsC w h s) := x
  obtain ⟨N1, hN1⟩ : ∃ N, N = w.heap.size := ⟨_, rfl⟩
  have hN : Hid (w.heap.size ≤ N1) := by rw [hN1]; exact Nat.le_refl _
  have a16' : (a : Int) < 16 := by omega
  have b16' : (b : Int) < 16 := by omega
  have c16' : (c : Int) < 16 := by omega
  have eW : IntKind.u64.wrap imm = Ru.wr imm := by rw [IntKind.wrap_u64]; rfl
  have eL : decide (s.r 15 < IntKind.u64.wrap ((h.S : Int) - 4096 + Ru.wr imm)) = false := by
    have e : IntKind.u64.wrap ((h.S : Int) - 4096 + Ru.wr imm) = Ru.wr (h.S - 4096 + imm) := by rw [IntKind.wrap_u64]; unfold Ru.wr; omega
    rw [e]
    exact decide_eq_false hl
  clear hl
  have HA : Hid (∀ i, Ru.W64 (s.r i)) := x.ok.r
  have HW : Hid (Ru.W64 (Ru.wr imm)) := Ru.wr_w imm
  clear x G
  go_enter Tryz.func145, Tryz.ntmps145
  go_wp2_with fail
  rw [← hN1] at HJ1 HK
  rw [← hN1]
  clear hN1
  generalize w.alloc (Obj.cells #[.int .i64 25, .int .i64 a, .int .i64 b, .int .i64 c, .int .i64 k, .int .i64 sub, .int .i64 sc, .int .i64 imm, .int .i64 lb] 34) = W at *
  have HD : Hid (∀ d, IsC (W.drewN d) h s ∧ Mc h w (W.drewN d)) := fun d => ⟨HX1.out.kept (grown_drewN (World.grownBy.refl W none) d), HV1.out.grown (grown_drewN (World.grownBy.refl W none) d)⟩
  obtain ⟨d0, d1, d2, d3, d4, d5, d6, d7, d8, dz⟩ := HJ1.out
  clear dz
  have r15 : W.cell? ⟨h.B, 17, none⟩ = some (.int .u64 (s.r 15)) := HX1.out.rc (a := 15) (by decide)
  have c20 := HX1.out.c20
  go_quiet (fail)
  go_wp2
  first | go_end0 | go_returns
  exact ⟨rfl, HD.out _⟩
set_option maxRecDepth 100000 in
set_option maxHeartbeats 4000000 in
theorem pb26 {w : World} {h : Pd} {s : Ru.St} (x : IsC w h s) (a b c : Nat) (a16 : a < 16) (b16 : b < 16) (c16 : c < 16) (k sub sc lb : Int) (imm : Int) (he : s.e = 0) :
    Calls Tryz.prog 145 #[.pointer (some ⟨h.B, 0, none⟩), .agg #[.int .i64 26, .int .i64 a, .int .i64 b, .int .i64 c, .int .i64 k, .int .i64 sub, .int .i64 sc, .int .i64 imm, .int .i64 lb]] w fun r w' => r = .returned (.tuple #[]) ∧ IsC w' h (s.alloc h.im a (s.r b)) ∧ Mc h w w' := by
  have G := World.grownBy_alloc w (Obj.cells #[.int .i64 26, .int .i64 a, .int .i64 b, .int .i64 c, .int .i64 k, .int .i64 sub, .int .i64 sc, .int .i64 imm, .int .i64 lb] 34) none
  have HX1 : Hid (IsC (w.alloc (Obj.cells #[.int .i64 26, .int .i64 a, .int .i64 b, .int .i64 c, .int .i64 k, .int .i64 sub, .int .i64 sc, .int .i64 imm, .int .i64 lb] 34)) h s) := x.kept G
  have HV1 : Hid (Mc h w (w.alloc (Obj.cells #[.int .i64 26, .int .i64 a, .int .i64 b, .int .i64 c, .int .i64 k, .int .i64 sub, .int .i64 sc, .int .i64 imm, .int .i64 lb] 34))) := Mc.refl.grown G
  have HJ1 : Hid (InstAt (w.alloc (Obj.cells #[.int .i64 26, .int .i64 a, .int .i64 b, .int .i64 c, .int .i64 k, .int .i64 sub, .int .i64 sc, .int .i64 imm, .int .i64 lb] 34)) w.heap.size ⟨26, a, b, c, k, sub, sc, imm, lb⟩) := InstAt.new w ⟨26, a, b, c, k, sub, sc, imm, lb⟩
  have HK : Hid (w.heap.size ≠ h.B) := fun e => by have := x.hd.lt; omega
  have HX : Hid (IsC w h s) := x
  obtain ⟨N1, hN1⟩ : ∃ N, N = w.heap.size := ⟨_, rfl⟩
  have hN : Hid (w.heap.size ≤ N1) := by rw [hN1]; exact Nat.le_refl _
  have a16' : (a : Int) < 16 := by omega
  have b16' : (b : Int) < 16 := by omega
  have c16' : (c : Int) < 16 := by omega
  have eW : IntKind.u64.wrap imm = Ru.wr imm := by rw [IntKind.wrap_u64]; rfl
  have HA : Hid (∀ i, Ru.W64 (s.r i)) := x.ok.r
  have HW : Hid (Ru.W64 (Ru.wr imm)) := Ru.wr_w imm
  clear x G
  go_enter Tryz.func145, Tryz.ntmps145
  go_wp2_with fail
  rw [← hN1] at HJ1 HK
  rw [← hN1]
  clear hN1
  generalize w.alloc (Obj.cells #[.int .i64 26, .int .i64 a, .int .i64 b, .int .i64 c, .int .i64 k, .int .i64 sub, .int .i64 sc, .int .i64 imm, .int .i64 lb] 34) = W at *
  refine tail_quiet 9 (by kernel_rfl) (by kernel_rfl) ?_
  have g : W.grownBy W.drew none := (grown_drew (World.grownBy.refl _ none))
  have HX5 : Hid (IsC W.drew h s) := HX1.out.kept g
  have HV5 : Hid (Mc h w W.drew) := HV1.out.grown g
  have HJ5 : Hid (InstAt W.drew N1 ⟨26, a, b, c, k, sub, sc, imm, lb⟩) := HJ1.out.kept g (by simp)
  clear g HX1 HV1 HJ1
  generalize W.drew = W5 at *
  obtain ⟨d0, d1, d2, d3, d4, d5, d6, d7, d8, dz⟩ := HJ5.out
  clear dz
  have ra := HX5.out.rc a16
  have rb := HX5.out.rc b16
  have rc := HX5.out.rc c16
  have rf := HX5.out.fz (2 + a)
  simp only [List.take_succ_cons, List.take_zero, List.drop_succ_cons, List.drop_zero]
  repeat (go_big_quiet_step (exact rfl))
  refine wpQuiet_nil ?_
  clear d0 d1 d2 d3 d4 d5 d6 d7 d8
  clear ra rb rc rf
  go_wp2_with fail
  refine (palloc HX5.out he a16 (s.r b) (HA.out b)).mono ?_
  rintro r w6 ⟨rfl, x6, v6⟩
  have HX6 : Hid (IsC w6 h _) := x6
  have HV6 : Hid (Mc h w w6) := HV5.out.trans v6
  have HJ6 : Hid (InstAt w6 N1 ⟨26, a, b, c, k, sub, sc, imm, lb⟩) := v6.inst HJ5.out HX.out hN.out
  clear x6 v6 HX5 HV5 HJ5
  go_wp2
  first | go_end0 | go_returns
  exact ⟨rfl, HX6.out, HV6.out⟩
set_option maxRecDepth 100000 in
set_option maxHeartbeats 4000000 in
theorem pb27 {w : World} {h : Pd} {s : Ru.St} (x : IsC w h s) (a b c : Nat) (a16 : a < 16) (b16 : b < 16) (c16 : c < 16) (k sub sc lb : Int) (imm : Int) :
    Calls Tryz.prog 145 #[.pointer (some ⟨h.B, 0, none⟩), .agg #[.int .i64 27, .int .i64 a, .int .i64 b, .int .i64 c, .int .i64 k, .int .i64 sub, .int .i64 sc, .int .i64 imm, .int .i64 lb]] w fun r w' => r = .returned (.tuple #[]) ∧ IsC w' h (s) ∧ Mc h w w' := by
  have G := World.grownBy_alloc w (Obj.cells #[.int .i64 27, .int .i64 a, .int .i64 b, .int .i64 c, .int .i64 k, .int .i64 sub, .int .i64 sc, .int .i64 imm, .int .i64 lb] 34) none
  have HX1 : Hid (IsC (w.alloc (Obj.cells #[.int .i64 27, .int .i64 a, .int .i64 b, .int .i64 c, .int .i64 k, .int .i64 sub, .int .i64 sc, .int .i64 imm, .int .i64 lb] 34)) h s) := x.kept G
  have HV1 : Hid (Mc h w (w.alloc (Obj.cells #[.int .i64 27, .int .i64 a, .int .i64 b, .int .i64 c, .int .i64 k, .int .i64 sub, .int .i64 sc, .int .i64 imm, .int .i64 lb] 34))) := Mc.refl.grown G
  have HJ1 : Hid (InstAt (w.alloc (Obj.cells #[.int .i64 27, .int .i64 a, .int .i64 b, .int .i64 c, .int .i64 k, .int .i64 sub, .int .i64 sc, .int .i64 imm, .int .i64 lb] 34)) w.heap.size ⟨27, a, b, c, k, sub, sc, imm, lb⟩) := InstAt.new w ⟨27, a, b, c, k, sub, sc, imm, lb⟩
  have HK : Hid (w.heap.size ≠ h.B) := fun e => by have := x.hd.lt; omega
  have HX : Hid (IsC w h s) := x
  obtain ⟨N1, hN1⟩ : ∃ N, N = w.heap.size := ⟨_, rfl⟩
  have hN : Hid (w.heap.size ≤ N1) := by rw [hN1]; exact Nat.le_refl _
  have a16' : (a : Int) < 16 := by omega
  have b16' : (b : Int) < 16 := by omega
  have c16' : (c : Int) < 16 := by omega
  have eW : IntKind.u64.wrap imm = Ru.wr imm := by rw [IntKind.wrap_u64]; rfl
  clear x G
  go_enter Tryz.func145, Tryz.ntmps145
  go_wp2
  first | go_end0 | go_returns
  exact ⟨rfl, HX1.out, HV1.out⟩
set_option maxRecDepth 100000 in
set_option maxHeartbeats 4000000 in
theorem pb28 {w : World} {h : Pd} {s : Ru.St} (x : IsC w h s) (a b c : Nat) (a16 : a < 16) (b16 : b < 16) (c16 : c < 16) (k sub sc lb : Int) (imm : Int) :
    Calls Tryz.prog 145 #[.pointer (some ⟨h.B, 0, none⟩), .agg #[.int .i64 28, .int .i64 a, .int .i64 b, .int .i64 c, .int .i64 k, .int .i64 sub, .int .i64 sc, .int .i64 imm, .int .i64 lb]] w fun r w' => r = .returned (.tuple #[]) ∧ IsC w' h ({ s with e := 1, n := Wd.sg (s.r a) }) ∧ Mc h w w' := by
  have G := World.grownBy_alloc w (Obj.cells #[.int .i64 28, .int .i64 a, .int .i64 b, .int .i64 c, .int .i64 k, .int .i64 sub, .int .i64 sc, .int .i64 imm, .int .i64 lb] 34) none
  have HX1 : Hid (IsC (w.alloc (Obj.cells #[.int .i64 28, .int .i64 a, .int .i64 b, .int .i64 c, .int .i64 k, .int .i64 sub, .int .i64 sc, .int .i64 imm, .int .i64 lb] 34)) h s) := x.kept G
  have HV1 : Hid (Mc h w (w.alloc (Obj.cells #[.int .i64 28, .int .i64 a, .int .i64 b, .int .i64 c, .int .i64 k, .int .i64 sub, .int .i64 sc, .int .i64 imm, .int .i64 lb] 34))) := Mc.refl.grown G
  have HJ1 : Hid (InstAt (w.alloc (Obj.cells #[.int .i64 28, .int .i64 a, .int .i64 b, .int .i64 c, .int .i64 k, .int .i64 sub, .int .i64 sc, .int .i64 imm, .int .i64 lb] 34)) w.heap.size ⟨28, a, b, c, k, sub, sc, imm, lb⟩) := InstAt.new w ⟨28, a, b, c, k, sub, sc, imm, lb⟩
  have HK : Hid (w.heap.size ≠ h.B) := fun e => by have := x.hd.lt; omega
  have HX : Hid (IsC w h s) := x
  obtain ⟨N1, hN1⟩ : ∃ N, N = w.heap.size := ⟨_, rfl⟩
  have hN : Hid (w.heap.size ≤ N1) := by rw [hN1]; exact Nat.le_refl _
  have a16' : (a : Int) < 16 := by omega
  have b16' : (b : Int) < 16 := by omega
  have c16' : (c : Int) < 16 := by omega
  have eW : IntKind.u64.wrap imm = Ru.wr imm := by rw [IntKind.wrap_u64]; rfl
  have e2 : wrap64 (s.r a) = Wd.sg (s.r a) := by unfold wrap64 Wd.sg; omega
  have HA : Hid (∀ i, Ru.W64 (s.r i)) := x.ok.r
  have HW : Hid (Ru.W64 (Ru.wr imm)) := Ru.wr_w imm
  clear x G
  go_enter Tryz.func145, Tryz.ntmps145
  go_wp2_with fail
  rw [← hN1] at HJ1 HK
  rw [← hN1]
  clear hN1
  generalize w.alloc (Obj.cells #[.int .i64 28, .int .i64 a, .int .i64 b, .int .i64 c, .int .i64 k, .int .i64 sub, .int .i64 sc, .int .i64 imm, .int .i64 lb] 34) = W at *
  refine tail_quiet 8 (by kernel_rfl) (by kernel_rfl) ?_
  have g : W.grownBy W.drew none := (grown_drew (World.grownBy.refl _ none))
  have HX5 : Hid (IsC W.drew h s) := HX1.out.kept g
  have HV5 : Hid (Mc h w W.drew) := HV1.out.grown g
  have HJ5 : Hid (InstAt W.drew N1 ⟨28, a, b, c, k, sub, sc, imm, lb⟩) := HJ1.out.kept g (by simp)
  clear g HX1 HV1 HJ1
  generalize W.drew = W5 at *
  obtain ⟨d0, d1, d2, d3, d4, d5, d6, d7, d8, dz⟩ := HJ5.out
  clear dz
  have ra := HX5.out.rc a16
  have rb := HX5.out.rc b16
  have rc := HX5.out.rc c16
  have rf := HX5.out.fz (2 + a)
  simp only [List.take_succ_cons, List.take_zero, List.drop_succ_cons, List.drop_zero]
  repeat (go_big_quiet_step (exact rfl))
  refine wpQuiet_nil ?_
  clear d0 d1 d2 d3 d4 d5 d6 d7 d8
  clear ra rb rc rf
  go_wp2_with fail
  refine (pfinish HX5.out 1 (Wd.sg (s.r a))).mono ?_
  rintro r w6 ⟨rfl, x6, v6⟩
  have HX6 : Hid (IsC w6 h _) := x6
  have HV6 : Hid (Mc h w w6) := HV5.out.trans v6
  have HJ6 : Hid (InstAt w6 N1 ⟨28, a, b, c, k, sub, sc, imm, lb⟩) := v6.inst HJ5.out HX.out hN.out
  clear x6 v6 HX5 HV5 HJ5
  go_wp2
  first | go_end0 | go_returns
  exact ⟨rfl, HX6.out, HV6.out⟩
set_option maxRecDepth 100000 in
set_option maxHeartbeats 4000000 in
theorem pb29 {w : World} {h : Pd} {s : Ru.St} (x : IsC w h s) (a b c : Nat) (a16 : a < 16) (b16 : b < 16) (c16 : c < 16) (k sub sc lb : Int) (imm : Int) :
    Calls Tryz.prog 145 #[.pointer (some ⟨h.B, 0, none⟩), .agg #[.int .i64 29, .int .i64 a, .int .i64 b, .int .i64 c, .int .i64 k, .int .i64 sub, .int .i64 sc, .int .i64 imm, .int .i64 lb]] w fun r w' => r = .returned (.tuple #[]) ∧ IsC w' h ({ s with e := 2, n := imm }) ∧ Mc h w w' := by
  have G := World.grownBy_alloc w (Obj.cells #[.int .i64 29, .int .i64 a, .int .i64 b, .int .i64 c, .int .i64 k, .int .i64 sub, .int .i64 sc, .int .i64 imm, .int .i64 lb] 34) none
  have HX1 : Hid (IsC (w.alloc (Obj.cells #[.int .i64 29, .int .i64 a, .int .i64 b, .int .i64 c, .int .i64 k, .int .i64 sub, .int .i64 sc, .int .i64 imm, .int .i64 lb] 34)) h s) := x.kept G
  have HV1 : Hid (Mc h w (w.alloc (Obj.cells #[.int .i64 29, .int .i64 a, .int .i64 b, .int .i64 c, .int .i64 k, .int .i64 sub, .int .i64 sc, .int .i64 imm, .int .i64 lb] 34))) := Mc.refl.grown G
  have HJ1 : Hid (InstAt (w.alloc (Obj.cells #[.int .i64 29, .int .i64 a, .int .i64 b, .int .i64 c, .int .i64 k, .int .i64 sub, .int .i64 sc, .int .i64 imm, .int .i64 lb] 34)) w.heap.size ⟨29, a, b, c, k, sub, sc, imm, lb⟩) := InstAt.new w ⟨29, a, b, c, k, sub, sc, imm, lb⟩
  have HK : Hid (w.heap.size ≠ h.B) := fun e => by have := x.hd.lt; omega
  have HX : Hid (IsC w h s) := x
  obtain ⟨N1, hN1⟩ : ∃ N, N = w.heap.size := ⟨_, rfl⟩
  have hN : Hid (w.heap.size ≤ N1) := by rw [hN1]; exact Nat.le_refl _
  have a16' : (a : Int) < 16 := by omega
  have b16' : (b : Int) < 16 := by omega
  have c16' : (c : Int) < 16 := by omega
  have eW : IntKind.u64.wrap imm = Ru.wr imm := by rw [IntKind.wrap_u64]; rfl
  have HA : Hid (∀ i, Ru.W64 (s.r i)) := x.ok.r
  have HW : Hid (Ru.W64 (Ru.wr imm)) := Ru.wr_w imm
  clear x G
  go_enter Tryz.func145, Tryz.ntmps145
  go_wp2_with fail
  rw [← hN1] at HJ1 HK
  rw [← hN1]
  clear hN1
  generalize w.alloc (Obj.cells #[.int .i64 29, .int .i64 a, .int .i64 b, .int .i64 c, .int .i64 k, .int .i64 sub, .int .i64 sc, .int .i64 imm, .int .i64 lb] 34) = W at *
  go_wp2_with fail
  refine (pfinish HX1.out 2 imm).mono ?_
  rintro r w6 ⟨rfl, x6, v6⟩
  have HX6 : Hid (IsC w6 h _) := x6
  have HV6 : Hid (Mc h w w6) := HV1.out.trans v6
  have HJ6 : Hid (InstAt w6 N1 ⟨29, a, b, c, k, sub, sc, imm, lb⟩) := v6.inst HJ1.out HX.out hN.out
  clear x6 v6 HX1 HV1 HJ1
  go_wp2
  first | go_end0 | go_returns
  exact ⟨rfl, HX6.out, HV6.out⟩
end Go.Proofs.YtdklaeppcjopoaaGreatDoor
