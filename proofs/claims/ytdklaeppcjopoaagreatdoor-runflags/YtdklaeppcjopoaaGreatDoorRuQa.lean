/- The program's machine: what single instructions do: pb1, pb3, pb8, pb8n, pb11, pb11n, pb13, pb13n. -/
import Derived.Test.YtdklaeppcjopoaaGreatDoorG7
namespace Go.Proofs.YtdklaeppcjopoaaGreatDoor
open Go.RowKit
set_option linter.unusedVariables false

set_option maxRecDepth 100000 in
set_option maxHeartbeats 4000000 in
theorem pb1 {w : World} {h : Pd} {s : Ru.St} (x : IsC w h s) (a b c : Nat) (a16 : a < 16) (b16 : b < 16) (c16 : c < 16) (k sub sc lb : Int) (imm : Int) :
    Calls Tryz.prog 145 #[.pointer (some ⟨h.B, 0, none⟩), .agg #[.int .i64 1, .int .i64 a, .int .i64 b, .int .i64 c, .int .i64 k, .int .i64 sub, .int .i64 sc, .int .i64 imm, .int .i64 lb]] w fun r w' => r = .returned (.tuple #[]) ∧ IsC w' h (s.put a (Ru.wr imm)) ∧ Mc h w w' := by
  have G := World.grownBy_alloc w (Obj.cells #[.int .i64 1, .int .i64 a, .int .i64 b, .int .i64 c, .int .i64 k, .int .i64 sub, .int .i64 sc, .int .i64 imm, .int .i64 lb] 34) none
  have HX1 : Hid (IsC (w.alloc (Obj.cells #[.int .i64 1, .int .i64 a, .int .i64 b, .int .i64 c, .int .i64 k, .int .i64 sub, .int .i64 sc, .int .i64 imm, .int .i64 lb] 34)) h s) := x.kept G
  have HV1 : Hid (Mc h w (w.alloc (Obj.cells #[.int .i64 1, .int .i64 a, .int .i64 b, .int .i64 c, .int .i64 k, .int .i64 sub, .int .i64 sc, .int .i64 imm, .int .i64 lb] 34))) := Mc.refl.grown G
  have HJ1 : Hid (InstAt (w.alloc (Obj.cells #[.int .i64 1, .int .i64 a, .int .i64 b, .int .i64 c, .int .i64 k, .int .i64 sub, .int .i64 sc, .int .i64 imm, .int .i64 lb] 34)) w.heap.size ⟨1, a, b, c, k, sub, sc, imm, lb⟩) := InstAt.new w ⟨1, a, b, c, k, sub, sc, imm, lb⟩
  have HK : Hid (w.heap.size ≠ h.B) := fun e => by have := x.hd.lt; omega
  have HX : Hid (IsC w h s) := x
  obtain ⟨N1, hN1⟩ : ∃ N, N = w.heap.size := ⟨_, rfl⟩
  have hN : Hid (w.heap.size ≤ N1) := by rw [hN1]; exact Nat.le_refl _
  have a16' : (a : Int) < 16 := by omega
  have b16' : (b : Int) < 16 := by omega
  have c16' : (c : Int) < 16 := by omega
  have eW : IntKind.u64.wrap imm = Ru.wr imm := by rw [IntKind.wrap_u64]; rfl
  have HA : Hid (∀ i, Ru.W64 (s.r i)) := x.ok.r
  have HW : Hid (Ru.W64 (Ru.wr imm)) := Ru.wr_w imm
  clear x G
  go_enter Tryz.func145, Tryz.ntmps145
  go_wp2_with fail
  rw [← hN1] at HJ1 HK
  rw [← hN1]
  clear hN1
  generalize w.alloc (Obj.cells #[.int .i64 1, .int .i64 a, .int .i64 b, .int .i64 c, .int .i64 k, .int .i64 sub, .int .i64 sc, .int .i64 imm, .int .i64 lb] 34) = W at *
  refine tail_quiet 8 (by kernel_rfl) (by kernel_rfl) ?_
  have g : W.grownBy W.drew none := (grown_drew (World.grownBy.refl _ none))
  have HX5 : Hid (IsC W.drew h s) := HX1.out.kept g
  have HV5 : Hid (Mc h w W.drew) := HV1.out.grown g
  have HJ5 : Hid (InstAt W.drew N1 ⟨1, a, b, c, k, sub, sc, imm, lb⟩) := HJ1.out.kept g (by simp)
  clear g HX1 HV1 HJ1
  generalize W.drew = W5 at *
  obtain ⟨d0, d1, d2, d3, d4, d5, d6, d7, d8, dz⟩ := HJ5.out
  clear dz
  have ra := HX5.out.rc a16
  have rb := HX5.out.rc b16
  have rc := HX5.out.rc c16
  have rf := HX5.out.fz (2 + a)
  simp only [List.take_succ_cons, List.take_zero, List.drop_succ_cons, List.drop_zero]
  repeat (go_big_quiet_step (exact rfl))
  refine wpQuiet_nil ?_
  clear d0 d1 d2 d3 d4 d5 d6 d7 d8
  have HX6 : Hid (IsC (W5.setCell ⟨h.B, 2 + a, none⟩ (.int .u64 (Ru.wr imm))) h (s.put a (Ru.wr imm))) := by exact HX5.out.put (a := a) a16 HW.out
  have HV6 : Hid (Mc h w (W5.setCell ⟨h.B, 2 + a, none⟩ (.int .u64 (Ru.wr imm)))) := HV5.out.setB _ _
  have HJ6 : Hid (InstAt (W5.setCell ⟨h.B, 2 + a, none⟩ (.int .u64 (Ru.wr imm))) N1 ⟨1, a, b, c, k, sub, sc, imm, lb⟩) := HJ5.out.setB HK.out _
  clear HX5 HV5 HJ5
  go_wp2
  first | go_end0 | go_returns
  exact ⟨rfl, HX6.out, HV6.out⟩
set_option maxRecDepth 100000 in
set_option maxHeartbeats 4000000 in
theorem pb3 {w : World} {h : Pd} {s : Ru.St} (x : IsC w h s) (a b c : Nat) (a16 : a < 16) (b16 : b < 16) (c16 : c < 16) (k sub sc lb : Int) (imm : Int) :
    Calls Tryz.prog 145 #[.pointer (some ⟨h.B, 0, none⟩), .agg #[.int .i64 3, .int .i64 a, .int .i64 b, .int .i64 c, .int .i64 k, .int .i64 sub, .int .i64 sc, .int .i64 imm, .int .i64 lb]] w fun r w' => r = .returned (.tuple #[]) ∧ IsC w' h (s.put a (s.r b)) ∧ Mc h w w' := by
  have G := World.grownBy_alloc w (Obj.cells #[.int .i64 3, .int .i64 a, .int .i64 b, .int .i64 c, .int .i64 k, .int .i64 sub, .int .i64 sc, .int .i64 imm, .int .i64 lb] 34) none
  have HX1 : Hid (IsC (w.alloc (Obj.cells #[.int .i64 3, .int .i64 a, .int .i64 b, .int .i64 c, .int .i64 k, .int .i64 sub, .int .i64 sc, .int .i64 imm, .int .i64 lb] 34)) h s) := x.kept G
  have HV1 : Hid (Mc h w (w.alloc (Obj.cells #[.int .i64 3, .int .i64 a, .int .i64 b, .int .i64 c, .int .i64 k, .int .i64 sub, .int .i64 sc, .int .i64 imm, .int .i64 lb] 34))) := Mc.refl.grown G
  have HJ1 : Hid (InstAt (w.alloc (Obj.cells #[.int .i64 3, .int .i64 a, .int .i64 b, .int .i64 c, .int .i64 k, .int .i64 sub, .int .i64 sc, .int .i64 imm, .int .i64 lb] 34)) w.heap.size ⟨3, a, b, c, k, sub, sc, imm, lb⟩) := InstAt.new w ⟨3, a, b, c, k, sub, sc, imm, lb⟩
  have HK : Hid (w.heap.size ≠ h.B) := fun e => by have := x.hd.lt; omega
  have HX : Hid (IsC w h s) := x
  obtain ⟨N1, hN1⟩ : ∃ N, N = w.heap.size := ⟨_, rfl⟩
  have hN : Hid (w.heap.size ≤ N1) := by rw [hN1]; exact Nat.le_refl _
  have a16' : (a : Int) < 16 := by omega
  have b16' : (b : Int) < 16 := by omega
  have c16' : (c : Int) < 16 := by omega
  have eW : IntKind.u64.wrap imm = Ru.wr imm := by rw [IntKind.wrap_u64]; rfl
  have HA : Hid (∀ i, Ru.W64 (s.r i)) := x.ok.r
  have HW : Hid (Ru.W64 (Ru.wr imm)) := Ru.wr_w imm
  clear x G
  go_enter Tryz.func145, Tryz.ntmps145
  go_wp2_with fail
  rw [← hN1] at HJ1 HK
  rw [← hN1]
  clear hN1
  generalize w.alloc (Obj.cells #[.int .i64 3, .int .i64 a, .int .i64 b, .int .i64 c, .int .i64 k, .int .i64 sub, .int .i64 sc, .int .i64 imm, .int .i64 lb] 34) = W at *
  refine tail_quiet 11 (by kernel_rfl) (by kernel_rfl) ?_
  have g : W.grownBy W.drew none := (grown_drew (World.grownBy.refl _ none))
  have HX5 : Hid (IsC W.drew h s) := HX1.out.kept g
  have HV5 : Hid (Mc h w W.drew) := HV1.out.grown g
  have HJ5 : Hid (InstAt W.drew N1 ⟨3, a, b, c, k, sub, sc, imm, lb⟩) := HJ1.out.kept g (by simp)
  clear g HX1 HV1 HJ1
  generalize W.drew = W5 at *
  obtain ⟨d0, d1, d2, d3, d4, d5, d6, d7, d8, dz⟩ := HJ5.out
  clear dz
  have ra := HX5.out.rc a16
  have rb := HX5.out.rc b16
  have rc := HX5.out.rc c16
  have rf := HX5.out.fz (2 + a)
  simp only [List.take_succ_cons, List.take_zero, List.drop_succ_cons, List.drop_zero]
  repeat (go_big_quiet_step (exact rfl))
  refine wpQuiet_nil ?_
  clear d0 d1 d2 d3 d4 d5 d6 d7 d8
  have HX6 : Hid (IsC (W5.setCell ⟨h.B, 2 + a, none⟩ (.int .u64 (s.r b))) h (s.put a (s.r b))) := by exact HX5.out.put (a := a) a16 (HA.out b)
  have HV6 : Hid (Mc h w (W5.setCell ⟨h.B, 2 + a, none⟩ (.int .u64 (s.r b)))) := HV5.out.setB _ _
  have HJ6 : Hid (InstAt (W5.setCell ⟨h.B, 2 + a, none⟩ (.int .u64 (s.r b))) N1 ⟨3, a, b, c, k, sub, sc, imm, lb⟩) := HJ5.out.setB HK.out _
  clear HX5 HV5 HJ5
  go_wp2
  first | go_end0 | go_returns
  exact ⟨rfl, HX6.out, HV6.out⟩
set_option maxRecDepth 100000 in
set_option maxHeartbeats 4000000 in
theorem pb8 {w : World} {h : Pd} {s : Ru.St} (x : IsC w h s) (a b c : Nat) (a16 : a < 16) (b16 : b < 16) (c16 : c < 16) (k sub sc lb : Int) (imm : Int) (v : Int) (hF : Fl.convA sub k (Wd.canon sub (s.r b)) = (v, 0)) :
    Calls Tryz.prog 145 #[.pointer (some ⟨h.B, 0, none⟩), .agg #[.int .i64 8, .int .i64 a, .int .i64 b, .int .i64 c, .int .i64 k, .int .i64 sub, .int .i64 sc, .int .i64 imm, .int .i64 lb]] w fun r w' => r = .returned (.tuple #[]) ∧ IsC w' h (s.put a v) ∧ Mc h w w' := by
  have G := World.grownBy_alloc w (Obj.cells #[.int .i64 8, .int .i64 a, .int .i64 b, .int .i64 c, .int .i64 k, .int .i64 sub, .int .i64 sc, .int .i64 imm, .int .i64 lb] 34) none
  have HX1 : Hid (IsC (w.alloc (Obj.cells #[.int .i64 8, .int .i64 a, .int .i64 b, .int .i64 c, .int .i64 k, .int .i64 sub, .int .i64 sc, .int .i64 imm, .int .i64 lb] 34)) h s) := x.kept G
  have HV1 : Hid (Mc h w (w.alloc (Obj.cells #[.int .i64 8, .int .i64 a, .int .i64 b, .int .i64 c, .int .i64 k, .int .i64 sub, .int .i64 sc, .int .i64 imm, .int .i64 lb] 34))) := Mc.refl.grown G
  have HJ1 : Hid (InstAt (w.alloc (Obj.cells #[.int .i64 8, .int .i64 a, .int .i64 b, .int .i64 c, .int .i64 k, .int .i64 sub, .int .i64 sc, .int .i64 imm, .int .i64 lb] 34)) w.heap.size ⟨8, a, b, c, k, sub, sc, imm, lb⟩) := InstAt.new w ⟨8, a, b, c, k, sub, sc, imm, lb⟩
  have HK : Hid (w.heap.size ≠ h.B) := fun e => by have := x.hd.lt; omega
  have HX : Hid (IsC w h s) := x
  obtain ⟨N1, hN1⟩ : ∃ N, N = w.heap.size := ⟨_, rfl⟩
  have hN : Hid (w.heap.size ≤ N1) := by rw [hN1]; exact Nat.le_refl _
  have a16' : (a : Int) < 16 := by omega
  have b16' : (b : Int) < 16 := by omega
  have c16' : (c : Int) < 16 := by omega
  have eW : IntKind.u64.wrap imm = Ru.wr imm := by rw [IntKind.wrap_u64]; rfl
  have HVw : Hid (Ru.W64 v) := by have := Ru.conv_w (k := sub) (t := k) (Wd.canon_rng sub (s.r b)); rw [hF] at this; exact this
  have HC : Hid (∀ W, Calls Tryz.prog 149 #[.int .i64 sub, .int .i64 k, .int .u64 (s.r b)] W fun r w' => r = .returned (.int .u64 v) ∧ W.grownBy w' none) := fun W => pconv_ok _ _ _ _ (x.ok.r b) W hF
  clear hF
  have HA : Hid (∀ i, Ru.W64 (s.r i)) := x.ok.r
  have HW : Hid (Ru.W64 (Ru.wr imm)) := Ru.wr_w imm
  clear x G
  go_enter Tryz.func145, Tryz.ntmps145
  go_wp2_with fail
  rw [← hN1] at HJ1 HK
  rw [← hN1]
  clear hN1
  generalize w.alloc (Obj.cells #[.int .i64 8, .int .i64 a, .int .i64 b, .int .i64 c, .int .i64 k, .int .i64 sub, .int .i64 sc, .int .i64 imm, .int .i64 lb] 34) = W at *
  refine tail_class (fun w' => ∃ y : Gw W, w' = y.w) 16 (by kernel_rfl) (by kernel_rfl) ⟨⟨W.drew, grown_drew (World.grownBy.refl _ _)⟩, rfl⟩ ?_
  have d0 := fun y : Gw W => (HJ1.out.kept y.h (by simp)).c0
  have d1 := fun y : Gw W => (HJ1.out.kept y.h (by simp)).c1
  have d2 := fun y : Gw W => (HJ1.out.kept y.h (by simp)).c2
  have d3 := fun y : Gw W => (HJ1.out.kept y.h (by simp)).c3
  have d4 := fun y : Gw W => (HJ1.out.kept y.h (by simp)).c4
  have d5 := fun y : Gw W => (HJ1.out.kept y.h (by simp)).c5
  have d6 := fun y : Gw W => (HJ1.out.kept y.h (by simp)).c6
  have d7 := fun y : Gw W => (HJ1.out.kept y.h (by simp)).c7
  have d8 := fun y : Gw W => (HJ1.out.kept y.h (by simp)).c8
  have ra := fun y : Gw W => (HX1.out.kept y.h).rc a16
  have rb := fun y : Gw W => (HX1.out.kept y.h).rc b16
  have rc := fun y : Gw W => (HX1.out.kept y.h).rc c16
  simp only [List.take_succ_cons, List.take_zero, List.drop_succ_cons, List.drop_zero]
  repeat (go_big_quiet_step (first | exact rfl | (go_at_call 149; exact Gw.call (HC.out _))))
  refine wpQuiet_nil ?_
  rintro W5 ⟨y5, hy5⟩
  have g : W.grownBy W5 none := by rw [hy5]; exact y5.h
  clear hy5 y5 d0 d1 d2 d3 d4 d5 d6 d7 d8 ra rb rc
  have HX5 : Hid (IsC W5 h s) := HX1.out.kept g
  have HV5 : Hid (Mc h w W5) := HV1.out.grown g
  have HJ5 : Hid (InstAt W5 N1 ⟨8, a, b, c, k, sub, sc, imm, lb⟩) := HJ1.out.kept g (by simp)
  clear g HX1 HV1 HJ1
  have ra := HX5.out.rc a16
  have rb := HX5.out.rc b16
  have rc := HX5.out.rc c16
  have rf := HX5.out.fz (2 + a)
  have HX6 : Hid (IsC (W5.setCell ⟨h.B, 2 + a, none⟩ (.int .u64 (v))) h (s.put a (v))) := by exact HX5.out.put (a := a) a16 HVw.out
  have HV6 : Hid (Mc h w (W5.setCell ⟨h.B, 2 + a, none⟩ (.int .u64 (v)))) := HV5.out.setB _ _
  have HJ6 : Hid (InstAt (W5.setCell ⟨h.B, 2 + a, none⟩ (.int .u64 (v))) N1 ⟨8, a, b, c, k, sub, sc, imm, lb⟩) := HJ5.out.setB HK.out _
  clear HX5 HV5 HJ5
  go_wp2
  first | go_end0 | go_returns
  exact ⟨rfl, HX6.out, HV6.out⟩
set_option maxRecDepth 100000 in
set_option maxHeartbeats 4000000 in
theorem pb8n {w : World} {h : Pd} {s : Ru.St} (x : IsC w h s) (a b c : Nat) (a16 : a < 16) (b16 : b < 16) (c16 : c < 16) (k sub sc lb : Int) (imm : Int) (v e : Int) (hF : Fl.convA sub k (Wd.canon sub (s.r b)) = (v, e)) (he : (e != 0) = true) :
    Calls Tryz.prog 145 #[.pointer (some ⟨h.B, 0, none⟩), .agg #[.int .i64 8, .int .i64 a, .int .i64 b, .int .i64 c, .int .i64 k, .int .i64 sub, .int .i64 sc, .int .i64 imm, .int .i64 lb]] w fun r w' => r = .panicked stk ∧ (∃ s', IsC w' h s') ∧ Mc h w w' := by
  have G := World.grownBy_alloc w (Obj.cells #[.int .i64 8, .int .i64 a, .int .i64 b, .int .i64 c, .int .i64 k, .int .i64 sub, .int .i64 sc, .int .i64 imm, .int .i64 lb] 34) none
  have HX1 : Hid (IsC (w.alloc (Obj.cells #[.int .i64 8, .int .i64 a, .int .i64 b, .int .i64 c, .int .i64 k, .int .i64 sub, .int .i64 sc, .int .i64 imm, .int .i64 lb] 34)) h s) := x.kept G
  have HV1 : Hid (Mc h w (w.alloc (Obj.cells #[.int .i64 8, .int .i64 a, .int .i64 b, .int .i64 c, .int .i64 k, .int .i64 sub, .int .i64 sc, .int .i64 imm, .int .i64 lb] 34))) := Mc.refl.grown G
  have HJ1 : Hid (InstAt (w.alloc (Obj.cells #[.int .i64 8, .int .i64 a, .int .i64 b, .int .i64 c, .int .i64 k, .int .i64 sub, .int .i64 sc, .int .i64 imm, .int .i64 lb] 34)) w.heap.size ⟨8, a, b, c, k, sub, sc, imm, lb⟩) := InstAt.new w ⟨8, a, b, c, k, sub, sc, imm, lb⟩
  have HK : Hid (w.heap.size ≠ h.B) := fun e => by have := x.hd.lt; omega
  have HX : Hid (IsC w h s) := x
  obtain ⟨N1, hN1⟩ : ∃ N, N = w.heap.size := ⟨_, rfl⟩
  have hN : Hid (w.heap.size ≤ N1) := by rw [hN1]; exact Nat.le_refl _
  have a16' : (a : Int) < 16 := by omega
  have b16' : (b : Int) < 16 := by omega
  have c16' : (c : Int) < 16 := by omega
  have eW : IntKind.u64.wrap imm = Ru.wr imm := by rw [IntKind.wrap_u64]; rfl
  have HC : Hid (∀ W, Calls Tryz.prog 149 #[.int .i64 sub, .int .i64 k, .int .u64 (s.r b)] W fun r w' => r = .panicked stk ∧ W.grownBy w' none) := fun W => pconv_no _ _ _ _ _ (x.ok.r b) W hF he
  clear hF
  have HA : Hid (∀ i, Ru.W64 (s.r i)) := x.ok.r
  have HW : Hid (Ru.W64 (Ru.wr imm)) := Ru.wr_w imm
  clear x G
  go_enter Tryz.func145, Tryz.ntmps145
  go_wp2_with fail
  rw [← hN1] at HJ1 HK
  rw [← hN1]
  clear hN1
  generalize w.alloc (Obj.cells #[.int .i64 8, .int .i64 a, .int .i64 b, .int .i64 c, .int .i64 k, .int .i64 sub, .int .i64 sc, .int .i64 imm, .int .i64 lb] 34) = W at *
  refine region_panics (fun w' => ∃ y : Gw W, w' = y.w) (fun ch w' => ch = stk ∧ ∃ y : Gw W, w' = y.w) 13 14 1 _ rfl (by kernel_rfl) (by kernel_rfl) ⟨⟨W.drew, grown_drew (World.grownBy.refl _ _)⟩, rfl⟩ ?_ ?_
  · rintro a' ch w' hd ⟨rfl, y, rfl⟩
    exact ⟨hd, rfl, ⟨_, HX1.out.kept y.h⟩, HV1.out.grown y.h⟩
  · have d0 := fun y : Gw W => (HJ1.out.kept y.h (by simp)).c0
    have d1 := fun y : Gw W => (HJ1.out.kept y.h (by simp)).c1
    have d2 := fun y : Gw W => (HJ1.out.kept y.h (by simp)).c2
    have d3 := fun y : Gw W => (HJ1.out.kept y.h (by simp)).c3
    have d4 := fun y : Gw W => (HJ1.out.kept y.h (by simp)).c4
    have d5 := fun y : Gw W => (HJ1.out.kept y.h (by simp)).c5
    have d6 := fun y : Gw W => (HJ1.out.kept y.h (by simp)).c6
    have d7 := fun y : Gw W => (HJ1.out.kept y.h (by simp)).c7
    have d8 := fun y : Gw W => (HJ1.out.kept y.h (by simp)).c8
    have ra := fun y : Gw W => (HX1.out.kept y.h).rc a16
    have rb := fun y : Gw W => (HX1.out.kept y.h).rc b16
    have rc := fun y : Gw W => (HX1.out.kept y.h).rc c16
    simp only [List.take_succ_cons, List.take_zero, List.drop_succ_cons, List.drop_zero, List.cons_append, List.nil_append]
    repeat (go_big_quiet_step (first | exact rfl))
    refine wpQuiet_nil ⟨rfl, ?_⟩
    rintro w' ⟨y, rfl⟩
    refine ⟨149, #[.int .i64 sub, .int .i64 k, .int .u64 (s.r b)], by first | kernel_rfl | simp [go_sem], ?_⟩
    exact (HC.out _).mono fun r w' ⟨h1, h2⟩ => ⟨stk, h1, rfl, ⟨_, grown_trans y.h h2⟩, rfl⟩
set_option maxRecDepth 100000 in
set_option maxHeartbeats 4000000 in
theorem pb11 {w : World} {h : Pd} {s : Ru.St} (x : IsC w h s) (a b c : Nat) (a16 : a < 16) (b16 : b < 16) (c16 : c < 16) (k sub sc lb : Int) (imm : Int) (v : Int) (hv : Mm.lV h.S s.m k (Ru.wr (s.r b + imm)) = v) (he : Mm.lE h.S k (Ru.wr (s.r b + imm)) = 0) :
    Calls Tryz.prog 145 #[.pointer (some ⟨h.B, 0, none⟩), .agg #[.int .i64 11, .int .i64 a, .int .i64 b, .int .i64 c, .int .i64 k, .int .i64 sub, .int .i64 sc, .int .i64 imm, .int .i64 lb]] w fun r w' => r = .returned (.tuple #[]) ∧ IsC w' h (s.put a v) ∧ Mc h w w' := by
  have G := World.grownBy_alloc w (Obj.cells #[.int .i64 11, .int .i64 a, .int .i64 b, .int .i64 c, .int .i64 k, .int .i64 sub, .int .i64 sc, .int .i64 imm, .int .i64 lb] 34) none
  have HX1 : Hid (IsC (w.alloc (Obj.cells #[.int .i64 11, .int .i64 a, .int .i64 b, .int .i64 c, .int .i64 k, .int .i64 sub, .int .i64 sc, .int .i64 imm, .int .i64 lb] 34)) h s) := x.kept G
  have HV1 : Hid (Mc h w (w.alloc (Obj.cells #[.int .i64 11, .int .i64 a, .int .i64 b, .int .i64 c, .int .i64 k, .int .i64 sub, .int .i64 sc, .int .i64 imm, .int .i64 lb] 34))) := Mc.refl.grown G
  have HJ1 : Hid (InstAt (w.alloc (Obj.cells #[.int .i64 11, .int .i64 a, .int .i64 b, .int .i64 c, .int .i64 k, .int .i64 sub, .int .i64 sc, .int .i64 imm, .int .i64 lb] 34)) w.heap.size ⟨11, a, b, c, k, sub, sc, imm, lb⟩) := InstAt.new w ⟨11, a, b, c, k, sub, sc, imm, lb⟩
  have HK : Hid (w.heap.size ≠ h.B) := fun e => by have := x.hd.lt; omega
  have HX : Hid (IsC w h s) := x
  obtain ⟨N1, hN1⟩ : ∃ N, N = w.heap.size := ⟨_, rfl⟩
  have hN : Hid (w.heap.size ≤ N1) := by rw [hN1]; exact Nat.le_refl _
  have a16' : (a : Int) < 16 := by omega
  have b16' : (b : Int) < 16 := by omega
  have c16' : (c : Int) < 16 := by omega
  have eW : IntKind.u64.wrap imm = Ru.wr imm := by rw [IntKind.wrap_u64]; rfl
  have HVw : Hid (Ru.W64 v) := by rw [← hv]; exact Ru.lv_w _ _ _ _
  have eA : IntKind.u64.wrap (s.r b + Ru.wr imm) = Ru.wr (s.r b + imm) := by rw [IntKind.wrap_u64]; unfold Ru.wr; omega
  have HL : Hid (∀ W, IsC W h s → Calls Tryz.prog 150 #[.pointer (some ⟨h.B, 0, none⟩), .int .u64 (Ru.wr (s.r b + imm)), .int .i64 k] W fun r w' => r = .returned (.int .u64 v) ∧ W.grownBy w' none) := fun W hW => pload_ok hW _ k v (Ru.wr_w _) hv he
  clear hv he
  have HA : Hid (∀ i, Ru.W64 (s.r i)) := x.ok.r
  have HW : Hid (Ru.W64 (Ru.wr imm)) := Ru.wr_w imm
  clear x G
  go_enter Tryz.func145, Tryz.ntmps145
  go_wp2_with fail
  rw [← hN1] at HJ1 HK
  rw [← hN1]
  clear hN1
  generalize w.alloc (Obj.cells #[.int .i64 11, .int .i64 a, .int .i64 b, .int .i64 c, .int .i64 k, .int .i64 sub, .int .i64 sc, .int .i64 imm, .int .i64 lb] 34) = W at *
  refine tail_class (fun w' => ∃ y : Gw W, w' = y.w) 19 (by kernel_rfl) (by kernel_rfl) ⟨⟨W.drew, grown_drew (World.grownBy.refl _ _)⟩, rfl⟩ ?_
  have d0 := fun y : Gw W => (HJ1.out.kept y.h (by simp)).c0
  have d1 := fun y : Gw W => (HJ1.out.kept y.h (by simp)).c1
  have d2 := fun y : Gw W => (HJ1.out.kept y.h (by simp)).c2
  have d3 := fun y : Gw W => (HJ1.out.kept y.h (by simp)).c3
  have d4 := fun y : Gw W => (HJ1.out.kept y.h (by simp)).c4
  have d5 := fun y : Gw W => (HJ1.out.kept y.h (by simp)).c5
  have d6 := fun y : Gw W => (HJ1.out.kept y.h (by simp)).c6
  have d7 := fun y : Gw W => (HJ1.out.kept y.h (by simp)).c7
  have d8 := fun y : Gw W => (HJ1.out.kept y.h (by simp)).c8
  have ra := fun y : Gw W => (HX1.out.kept y.h).rc a16
  have rb := fun y : Gw W => (HX1.out.kept y.h).rc b16
  have rc := fun y : Gw W => (HX1.out.kept y.h).rc c16
  simp only [List.take_succ_cons, List.take_zero, List.drop_succ_cons, List.drop_zero]
  repeat (go_big_quiet_step (first | exact rfl | (go_at_call 150; exact Gw.call (HL.out _ (HX1.out.kept (Gw.h _))))))
  refine wpQuiet_nil ?_
  rintro W5 ⟨y5, hy5⟩
  have g : W.grownBy W5 none := by rw [hy5]; exact y5.h
  clear hy5 y5 d0 d1 d2 d3 d4 d5 d6 d7 d8 ra rb rc
  have HX5 : Hid (IsC W5 h s) := HX1.out.kept g
  have HV5 : Hid (Mc h w W5) := HV1.out.grown g
  have HJ5 : Hid (InstAt W5 N1 ⟨11, a, b, c, k, sub, sc, imm, lb⟩) := HJ1.out.kept g (by simp)
  clear g HX1 HV1 HJ1
  have ra := HX5.out.rc a16
  have rb := HX5.out.rc b16
  have rc := HX5.out.rc c16
  have rf := HX5.out.fz (2 + a)
  have HX6 : Hid (IsC (W5.setCell ⟨h.B, 2 + a, none⟩ (.int .u64 (v))) h (s.put a (v))) := by exact HX5.out.put (a := a) a16 HVw.out
  have HV6 : Hid (Mc h w (W5.setCell ⟨h.B, 2 + a, none⟩ (.int .u64 (v)))) := HV5.out.setB _ _
  have HJ6 : Hid (InstAt (W5.setCell ⟨h.B, 2 + a, none⟩ (.int .u64 (v))) N1 ⟨11, a, b, c, k, sub, sc, imm, lb⟩) := HJ5.out.setB HK.out _
  clear HX5 HV5 HJ5
  go_wp2
  first | go_end0 | go_returns
  exact ⟨rfl, HX6.out, HV6.out⟩
set_option maxRecDepth 100000 in
set_option maxHeartbeats 4000000 in
theorem pb11n {w : World} {h : Pd} {s : Ru.St} (x : IsC w h s) (a b c : Nat) (a16 : a < 16) (b16 : b < 16) (c16 : c < 16) (k sub sc lb : Int) (imm : Int) (he : (Mm.lE h.S k (Ru.wr (s.r b + imm)) != 0) = true) :
    Calls Tryz.prog 145 #[.pointer (some ⟨h.B, 0, none⟩), .agg #[.int .i64 11, .int .i64 a, .int .i64 b, .int .i64 c, .int .i64 k, .int .i64 sub, .int .i64 sc, .int .i64 imm, .int .i64 lb]] w fun r w' => r = .panicked stk ∧ (∃ s', IsC w' h s') ∧ Mc h w w' := by
  have G := World.grownBy_alloc w (Obj.cells #[.int .i64 11, .int .i64 a, .int .i64 b, .int .i64 c, .int .i64 k, .int .i64 sub, .int .i64 sc, .int .i64 imm, .int .i64 lb] 34) none
  have HX1 : Hid (IsC (w.alloc (Obj.cells #[.int .i64 11, .int .i64 a, .int .i64 b, .int .i64 c, .int .i64 k, .int .i64 sub, .int .i64 sc, .int .i64 imm, .int .i64 lb] 34)) h s) := x.kept G
  have HV1 : Hid (Mc h w (w.alloc (Obj.cells #[.int .i64 11, .int .i64 a, .int .i64 b, .int .i64 c, .int .i64 k, .int .i64 sub, .int .i64 sc, .int .i64 imm, .int .i64 lb] 34))) := Mc.refl.grown G
  have HJ1 : Hid (InstAt (w.alloc (Obj.cells #[.int .i64 11, .int .i64 a, .int .i64 b, .int .i64 c, .int .i64 k, .int .i64 sub, .int .i64 sc, .int .i64 imm, .int .i64 lb] 34)) w.heap.size ⟨11, a, b, c, k, sub, sc, imm, lb⟩) := InstAt.new w ⟨11, a, b, c, k, sub, sc, imm, lb⟩
  have HK : Hid (w.heap.size ≠ h.B) := fun e => by have := x.hd.lt; omega
  have HX : Hid (IsC w h s) := x
  obtain ⟨N1, hN1⟩ : ∃ N, N = w.heap.size := ⟨_, rfl⟩
  have hN : Hid (w.heap.size ≤ N1) := by rw [hN1]; exact Nat.le_refl _
  have a16' : (a : Int) < 16 := by omega
  have b16' : (b : Int) < 16 := by omega
  have c16' : (c : Int) < 16 := by omega
  have eW : IntKind.u64.wrap imm = Ru.wr imm := by rw [IntKind.wrap_u64]; rfl
  have eA : IntKind.u64.wrap (s.r b + Ru.wr imm) = Ru.wr (s.r b + imm) := by rw [IntKind.wrap_u64]; unfold Ru.wr; omega
  have HL : Hid (∀ W, IsC W h s → Calls Tryz.prog 150 #[.pointer (some ⟨h.B, 0, none⟩), .int .u64 (Ru.wr (s.r b + imm)), .int .i64 k] W fun r w' => r = .panicked stk ∧ W.grownBy w' none) := fun W hW => pload_no hW _ k (Ru.wr_w _) he
  clear he
  have HA : Hid (∀ i, Ru.W64 (s.r i)) := x.ok.r
  have HW : Hid (Ru.W64 (Ru.wr imm)) := Ru.wr_w imm
  clear x G
  go_enter Tryz.func145, Tryz.ntmps145
  go_wp2_with fail
  rw [← hN1] at HJ1 HK
  rw [← hN1]
  clear hN1
  generalize w.alloc (Obj.cells #[.int .i64 11, .int .i64 a, .int .i64 b, .int .i64 c, .int .i64 k, .int .i64 sub, .int .i64 sc, .int .i64 imm, .int .i64 lb] 34) = W at *
  refine region_panics (fun w' => ∃ y : Gw W, w' = y.w) (fun ch w' => ch = stk ∧ ∃ y : Gw W, w' = y.w) 16 17 1 _ rfl (by kernel_rfl) (by kernel_rfl) ⟨⟨W.drew, grown_drew (World.grownBy.refl _ _)⟩, rfl⟩ ?_ ?_
  · rintro a' ch w' hd ⟨rfl, y, rfl⟩
    exact ⟨hd, rfl, ⟨_, HX1.out.kept y.h⟩, HV1.out.grown y.h⟩
  · have d0 := fun y : Gw W => (HJ1.out.kept y.h (by simp)).c0
    have d1 := fun y : Gw W => (HJ1.out.kept y.h (by simp)).c1
    have d2 := fun y : Gw W => (HJ1.out.kept y.h (by simp)).c2
    have d3 := fun y : Gw W => (HJ1.out.kept y.h (by simp)).c3
    have d4 := fun y : Gw W => (HJ1.out.kept y.h (by simp)).c4
    have d5 := fun y : Gw W => (HJ1.out.kept y.h (by simp)).c5
    have d6 := fun y : Gw W => (HJ1.out.kept y.h (by simp)).c6
    have d7 := fun y : Gw W => (HJ1.out.kept y.h (by simp)).c7
    have d8 := fun y : Gw W => (HJ1.out.kept y.h (by simp)).c8
    have ra := fun y : Gw W => (HX1.out.kept y.h).rc a16
    have rb := fun y : Gw W => (HX1.out.kept y.h).rc b16
    have rc := fun y : Gw W => (HX1.out.kept y.h).rc c16
    simp only [List.take_succ_cons, List.take_zero, List.drop_succ_cons, List.drop_zero, List.cons_append, List.nil_append]
    repeat (go_big_quiet_step (first | exact rfl))
    refine wpQuiet_nil ⟨rfl, ?_⟩
    rintro w' ⟨y, rfl⟩
    refine ⟨150, #[.pointer (some ⟨h.B, 0, none⟩), .int .u64 (Ru.wr (s.r b + imm)), .int .i64 k], by first | kernel_rfl | simp [go_sem], ?_⟩
    exact (HL.out _ (HX1.out.kept (Gw.h _))).mono fun r w' ⟨h1, h2⟩ => ⟨stk, h1, rfl, ⟨_, grown_trans y.h h2⟩, rfl⟩
set_option maxRecDepth 100000 in
set_option maxHeartbeats 4000000 in
theorem pb13 {w : World} {h : Pd} {s : Ru.St} (x : IsC w h s) (a b c : Nat) (a16 : a < 16) (b16 : b < 16) (c16 : c < 16) (k sub sc lb : Int) (imm : Int) (he : Mm.lE h.S k (Ru.wr (s.r b + imm)) = 0) :
    Calls Tryz.prog 145 #[.pointer (some ⟨h.B, 0, none⟩), .agg #[.int .i64 13, .int .i64 a, .int .i64 b, .int .i64 c, .int .i64 k, .int .i64 sub, .int .i64 sc, .int .i64 imm, .int .i64 lb]] w fun r w' => r = .returned (.tuple #[]) ∧ IsC w' h (s.lay h.S (Ru.wr (s.r b + imm)) k (s.r a)) ∧ Mc h w w' := by
  have G := World.grownBy_alloc w (Obj.cells #[.int .i64 13, .int .i64 a, .int .i64 b, .int .i64 c, .int .i64 k, .int .i64 sub, .int .i64 sc, .int .i64 imm, .int .i64 lb] 34) none
  have HX1 : Hid (IsC (w.alloc (Obj.cells #[.int .i64 13, .int .i64 a, .int .i64 b, .int .i64 c, .int .i64 k, .int .i64 sub, .int .i64 sc, .int .i64 imm, .int .i64 lb] 34)) h s) := x.kept G
  have HV1 : Hid (Mc h w (w.alloc (Obj.cells #[.int .i64 13, .int .i64 a, .int .i64 b, .int .i64 c, .int .i64 k, .int .i64 sub, .int .i64 sc, .int .i64 imm, .int .i64 lb] 34))) := Mc.refl.grown G
  have HJ1 : Hid (InstAt (w.alloc (Obj.cells #[.int .i64 13, .int .i64 a, .int .i64 b, .int .i64 c, .int .i64 k, .int .i64 sub, .int .i64 sc, .int .i64 imm, .int .i64 lb] 34)) w.heap.size ⟨13, a, b, c, k, sub, sc, imm, lb⟩) := InstAt.new w ⟨13, a, b, c, k, sub, sc, imm, lb⟩
  have HK : Hid (w.heap.size ≠ h.B) := fun e => by have := x.hd.lt; omega
  have HX : Hid (IsC w h s) := x
  obtain ⟨N1, hN1⟩ : ∃ N, N = w.heap.size := ⟨_, rfl⟩
  have hN : Hid (w.heap.size ≤ N1) := by rw [hN1]; exact Nat.le_refl _
  have a16' : (a : Int) < 16 := by omega
  have b16' : (b : Int) < 16 := by omega
  have c16' : (c : Int) < 16 := by omega
  have eW : IntKind.u64.wrap imm = Ru.wr imm := by rw [IntKind.wrap_u64]; rfl
  have eA : IntKind.u64.wrap (s.r b + Ru.wr imm) = Ru.wr (s.r b + imm) := by rw [IntKind.wrap_u64]; unfold Ru.wr; omega
  have HA : Hid (∀ i, Ru.W64 (s.r i)) := x.ok.r
  have HW : Hid (Ru.W64 (Ru.wr imm)) := Ru.wr_w imm
  clear x G
  go_enter Tryz.func145, Tryz.ntmps145
  go_wp2_with fail
  rw [← hN1] at HJ1 HK
  rw [← hN1]
  clear hN1
  generalize w.alloc (Obj.cells #[.int .i64 13, .int .i64 a, .int .i64 b, .int .i64 c, .int .i64 k, .int .i64 sub, .int .i64 sc, .int .i64 imm, .int .i64 lb] 34) = W at *
  refine tail_quiet 19 (by kernel_rfl) (by kernel_rfl) ?_
  have g : W.grownBy W.drew none := (grown_drew (World.grownBy.refl _ none))
  have HX5 : Hid (IsC W.drew h s) := HX1.out.kept g
  have HV5 : Hid (Mc h w W.drew) := HV1.out.grown g
  have HJ5 : Hid (InstAt W.drew N1 ⟨13, a, b, c, k, sub, sc, imm, lb⟩) := HJ1.out.kept g (by simp)
  clear g HX1 HV1 HJ1
  generalize W.drew = W5 at *
  obtain ⟨d0, d1, d2, d3, d4, d5, d6, d7, d8, dz⟩ := HJ5.out
  clear dz
  have ra := HX5.out.rc a16
  have rb := HX5.out.rc b16
  have rc := HX5.out.rc c16
  have rf := HX5.out.fz (2 + a)
  simp only [List.take_succ_cons, List.take_zero, List.drop_succ_cons, List.drop_zero]
  repeat (go_big_quiet_step (exact rfl))
  refine wpQuiet_nil ?_
  clear d0 d1 d2 d3 d4 d5 d6 d7 d8
  clear ra rb rc rf
  go_wp2_with fail
  refine (pstore_ok HX5.out (Ru.wr (s.r b + imm)) k (s.r a) (Ru.wr_w _) (HA.out a) he).mono ?_
  rintro r w6 ⟨rfl, x6, v6⟩
  have HX6 : Hid (IsC w6 h _) := x6
  have HV6 : Hid (Mc h w w6) := HV5.out.trans v6
  have HJ6 : Hid (InstAt w6 N1 ⟨13, a, b, c, k, sub, sc, imm, lb⟩) := v6.inst HJ5.out HX.out hN.out
  clear x6 v6 HX5 HV5 HJ5
  go_wp2
  first | go_end0 | go_returns
  exact ⟨rfl, HX6.out, HV6.out⟩
set_option maxRecDepth 100000 in
set_option maxHeartbeats 4000000 in
theorem pb13n {w : World} {h : Pd} {s : Ru.St} (x : IsC w h s) (a b c : Nat) (a16 : a < 16) (b16 : b < 16) (c16 : c < 16) (k sub sc lb : Int) (imm : Int) (he : (Mm.lE h.S k (Ru.wr (s.r b + imm)) != 0) = true) :
    Calls Tryz.prog 145 #[.pointer (some ⟨h.B, 0, none⟩), .agg #[.int .i64 13, .int .i64 a, .int .i64 b, .int .i64 c, .int .i64 k, .int .i64 sub, .int .i64 sc, .int .i64 imm, .int .i64 lb]] w fun r w' => r = .panicked stk ∧ (∃ s', IsC w' h s') ∧ Mc h w w' := by
  have G := World.grownBy_alloc w (Obj.cells #[.int .i64 13, .int .i64 a, .int .i64 b, .int .i64 c, .int .i64 k, .int .i64 sub, .int .i64 sc, .int .i64 imm, .int .i64 lb] 34) none
  have HX1 : Hid (IsC (w.alloc (Obj.cells #[.int .i64 13, .int .i64 a, .int .i64 b, .int .i64 c, .int .i64 k, .int .i64 sub, .int .i64 sc, .int .i64 imm, .int .i64 lb] 34)) h s) := x.kept G
  have HV1 : Hid (Mc h w (w.alloc (Obj.cells #[.int .i64 13, .int .i64 a, .int .i64 b, .int .i64 c, .int .i64 k, .int .i64 sub, .int .i64 sc, .int .i64 imm, .int .i64 lb] 34))) := Mc.refl.grown G
  have HJ1 : Hid (InstAt (w.alloc (Obj.cells #[.int .i64 13, .int .i64 a, .int .i64 b, .int .i64 c, .int .i64 k, .int .i64 sub, .int .i64 sc, .int .i64 imm, .int .i64 lb] 34)) w.heap.size ⟨13, a, b, c, k, sub, sc, imm, lb⟩) := InstAt.new w ⟨13, a, b, c, k, sub, sc, imm, lb⟩
  have HK : Hid (w.heap.size ≠ h.B) := fun e => by have := x.hd.lt; omega
  have HX : Hid (IsC w h s) := x
  obtain ⟨N1, hN1⟩ : ∃ N, N = w.heap.size := ⟨_, rfl⟩
  have hN : Hid (w.heap.size ≤ N1) := by rw [hN1]; exact Nat.le_refl _
  have a16' : (a : Int) < 16 := by omega
  have b16' : (b : Int) < 16 := by omega
  have c16' : (c : Int) < 16 := by omega
  have eW : IntKind.u64.wrap imm = Ru.wr imm := by rw [IntKind.wrap_u64]; rfl
  have eA : IntKind.u64.wrap (s.r b + Ru.wr imm) = Ru.wr (s.r b + imm) := by rw [IntKind.wrap_u64]; unfold Ru.wr; omega
  have HA : Hid (∀ i, Ru.W64 (s.r i)) := x.ok.r
  have HW : Hid (Ru.W64 (Ru.wr imm)) := Ru.wr_w imm
  clear x G
  go_enter Tryz.func145, Tryz.ntmps145
  go_wp2_with fail
  rw [← hN1] at HJ1 HK
  rw [← hN1]
  clear hN1
  generalize w.alloc (Obj.cells #[.int .i64 13, .int .i64 a, .int .i64 b, .int .i64 c, .int .i64 k, .int .i64 sub, .int .i64 sc, .int .i64 imm, .int .i64 lb] 34) = W at *
  refine tail_quiet 19 (by kernel_rfl) (by kernel_rfl) ?_
  have g : W.grownBy W.drew none := (grown_drew (World.grownBy.refl _ none))
  have HX5 : Hid (IsC W.drew h s) := HX1.out.kept g
  have HV5 : Hid (Mc h w W.drew) := HV1.out.grown g
  have HJ5 : Hid (InstAt W.drew N1 ⟨13, a, b, c, k, sub, sc, imm, lb⟩) := HJ1.out.kept g (by simp)
  clear g HX1 HV1 HJ1
  generalize W.drew = W5 at *
  obtain ⟨d0, d1, d2, d3, d4, d5, d6, d7, d8, dz⟩ := HJ5.out
  clear dz
  have ra := HX5.out.rc a16
  have rb := HX5.out.rc b16
  have rc := HX5.out.rc c16
  have rf := HX5.out.fz (2 + a)
  simp only [List.take_succ_cons, List.take_zero, List.drop_succ_cons, List.drop_zero]
  repeat (go_big_quiet_step (exact rfl))
  refine wpQuiet_nil ?_
  clear d0 d1 d2 d3 d4 d5 d6 d7 d8
  clear ra rb rc rf
  go_wp2_with fail
  refine ((pstore_no HX5.out (Ru.wr (s.r b + imm)) k (s.r a) (Ru.wr_w _) (HA.out a) he).mono fun r w' ⟨h1, h2, h3⟩ => (⟨h1, ⟨_, h2⟩, h3⟩ : r = Ending.panicked stk ∧ (∃ s', IsC w' h s') ∧ Mc h W5 w')).mono ?_
  rintro r w6 ⟨rfl, x6, v6⟩
  exact ⟨rfl, rfl, x6, HV5.out.trans v6⟩
end Go.Proofs.YtdklaeppcjopoaaGreatDoor
