/- Contracts and plain facts that the walks share, text by text: RuSr, RuPe. -/
import Derived.Test.YtdklaeppcjopoaaGreatDoorG8
import Derived.Test.YtdklaeppcjopoaaGreatDoorRuQc
import Derived.Test.YtdklaeppcjopoaaGreatDoorRuQd
import Derived.Test.YtdklaeppcjopoaaGreatDoorG7
/- The program's R64: a step, by the plain machine. -/
namespace Go.Proofs.YtdklaeppcjopoaaGreatDoor
open Go.RowKit
set_option linter.unusedVariables false

theorem r64_both {op : Int} {h : Pd} {w : World} {s s1 : Ru.St} (x : IsC w h s) (he : s1.e = 0) (a b c : Nat) (a16 : a < 16) (b16 : b < 16) (c16 : c < 16) (k sub sc lb imm : Int)
    (HF : Hid (∀ W, IsC W h s → Calls Tryz.prog 140 #[.pointer (some ⟨h.B, 0, none⟩), .func (.func 141) #[] #[]] W fun r w' => r = .returned (.agg #[.int .i64 op, .int .i64 a, .int .i64 b, .int .i64 c, .int .i64 k, .int .i64 sub, .int .i64 sc, .int .i64 imm, .int .i64 lb]) ∧ IsC w' h s1 ∧ Mc h W w'))
    (ho : op = 1 ∨ op = 3 ∨ op = 8 ∨ op = 11 ∨ op = 13 ∨ op = 19 ∨ op = 23 ∨ op = 24 ∨ op = 25 ∨ op = 26 ∨ op = 27 ∨ op = 28 ∨ op = 29) (hsc : op = 11 ∨ op = 13 → sc = 0) :
    Calls Tryz.prog 139 #[.pointer (some ⟨h.B, 0, none⟩)] w (BoP h w (.agg #[.int .i64 op, .int .i64 a, .int .i64 b, .int .i64 c, .int .i64 k, .int .i64 sub, .int .i64 sc, .int .i64 imm, .int .i64 lb]) (Ru.exec h.im ⟨op, a, b, c, k, sub, sc, imm, lb⟩ s1)) := by
  have HB := fun W (hW : IsC W h s1) => both_any hW he op a b c a16 b16 c16 k sub sc lb imm ho hsc
  have ne : ∀ n : Int, n = 2 ∨ n = 4 ∨ n = 7 ∨ n = 9 ∨ n = 15 ∨ n = 20 ∨ n = 21 → (op == n) = false := fun n hn => by
    rw [beq_eq_false_iff_ne]; omega
  by_cases h5 : (Ru.exec h.im ⟨op, a, b, c, k, sub, sc, imm, lb⟩ s1).e = 5
  · exact BoP.no h5 (prdn x op a b c a16 b16 c16 k sub sc lb imm HF (ne 2 (by omega)) (ne 4 (by omega)) (ne 7 (by omega)) (ne 9 (by omega)) (ne 15 (by omega)) (ne 20 (by omega)) (ne 21 (by omega)) (fun W hW => BoP.toNo (HB W hW) h5))
  · exact BoP.ok rfl h5 (prd x op a b c a16 b16 c16 k sub sc lb imm HF _ (ne 2 (by omega)) (ne 4 (by omega)) (ne 7 (by omega)) (ne 9 (by omega)) (ne 15 (by omega)) (ne 20 (by omega)) (ne 21 (by omega)) (fun W hW => BoP.toOk (HB W hW) h5))
set_option maxHeartbeats 1000000 in
theorem r64_any {v : InV} {h : Pd} {w : World} {s s1 : Ru.St} (x : IsC w h s) (he : s1.e = 0) (hr : ∀ i, Ru.W64 (s1.r i)) (t1 : h.t = 1) (hm : Rc.mayB v = true)
    (HF : Hid (∀ W, IsC W h s → Calls Tryz.prog 140 #[.pointer (some ⟨h.B, 0, none⟩), .func (.func 141) #[] #[]] W fun r w' => r = .returned (.agg #[.int .i64 v.op, .int .i64 v.a, .int .i64 v.b, .int .i64 v.c, .int .i64 v.k, .int .i64 v.sub, .int .i64 v.scale, .int .i64 v.imm, .int .i64 v.label]) ∧ IsC w' h s1 ∧ Mc h W w')) :
    Calls Tryz.prog 139 #[.pointer (some ⟨h.B, 0, none⟩)] w (BoP h w (.agg #[.int .i64 v.op, .int .i64 v.a, .int .i64 v.b, .int .i64 v.c, .int .i64 v.k, .int .i64 v.sub, .int .i64 v.scale, .int .i64 v.imm, .int .i64 v.label]) (Ru.exec h.im v s1)) := by
  have hc := Rc.codes v hm
  have hR : v.scale = 0 ∧ 0 ≤ v.a ∧ v.a < 16 ∧ 0 ≤ v.b ∧ v.b < 16 ∧ 0 ≤ v.c ∧ v.c < 16 ∧ Rc.kindB v = true := by
    unfold Rc.mayB Rc.regB at hm
    simp only [Bool.and_eq_true, decide_eq_true_eq, beq_iff_eq] at hm
    refine ⟨?_, ?_, ?_, ?_, ?_, ?_, ?_, ?_⟩ <;> simp_all
  obtain ⟨op, a', b', c', k, sub, sc, imm, lb⟩ := v
  dsimp only at hc hR HF ⊢
  obtain ⟨rfl, a1, a2, b1, b2, c1, c2, hk⟩ := hR
  obtain ⟨a, rfl⟩ := Int.eq_ofNat_of_zero_le a1
  obtain ⟨b, rfl⟩ := Int.eq_ofNat_of_zero_le b1
  obtain ⟨c, rfl⟩ := Int.eq_ofNat_of_zero_le c1
  have a16 : a < 16 := by omega
  have b16 : b < 16 := by omega
  have c16 : c < 16 := by omega
  have hni : h.im.t ≠ 2 := by show h.t ≠ 2; omega
  by_cases hb : op = 1 ∨ op = 3 ∨ op = 8 ∨ op = 11 ∨ op = 13 ∨ op = 19 ∨ op = 23 ∨ op = 24 ∨ op = 25 ∨ op = 26 ∨ op = 27 ∨ op = 28 ∨ op = 29
  · exact r64_both x he a b c a16 b16 c16 k sub 0 lb imm HF hb (fun _ => rfl)
  · have hc' : op = 2 ∨ op = 4 ∨ op = 7 ∨ op = 9 ∨ op = 15 ∨ op = 20 ∨ op = 21 := by omega
    rcases hc' with rfl | rfl | rfl | rfl | rfl | rfl | rfl
    · exact BoP.ok rfl (Ru.put_e he _ _) (pr2 x a b c a16 b16 c16 k sub 0 lb imm HF (hr a))
    · obtain ⟨F, hF⟩ : ∃ F, Fl.binA sub k (Wd.canon k (s1.r b)) (Wd.canon (Ru.ky sub k) (s1.r c)) = F := ⟨_, rfl⟩
      have hE : Ru.exec h.im ⟨4, a, b, c, k, sub, 0, imm, lb⟩ s1 = s1.set a F.1 F.2 := by
        show (if h.im.t = 2 then s1.bin h.im.t a sub k (s1.reg a) (s1.reg b) else s1.bin h.im.t a sub k (s1.reg b) (s1.reg c)) = _
        rw [if_neg hni]
        unfold Ru.St.bin
        rw [if_neg (fun hh => hni hh.1), ← hF]
        rfl
      obtain ⟨u, e⟩ := F
      by_cases h0 : e = 0
      · subst h0
        exact BoP.ok (hE.trans (Ru.set_ok _ _ _ _ rfl)) (Ru.put_e he _ _) (pr4 x a b c a16 b16 c16 k sub 0 lb imm HF (hr b) (hr c) u hF)
      · exact BoP.no (by rw [hE, Ru.set_no _ _ _ _ h0]; exact Ru.stop5 he 0) (pr4n x a b c a16 b16 c16 k sub 0 lb imm HF (hr b) (hr c) u e hF (bne0 h0))
    · obtain ⟨F, hF⟩ : ∃ F, Wd.unI sub k (Wd.canon k (s1.r b)) = F := ⟨_, rfl⟩
      have hE : Ru.exec h.im ⟨7, a, b, c, k, sub, 0, imm, lb⟩ s1 = s1.set a F.1 F.2 := by
        show s1.set a (Wd.unI sub k (Wd.canon k (s1.reg (if h.im.t = 2 then (a : Int) else b)))).1 (Wd.unI sub k (Wd.canon k (s1.reg (if h.im.t = 2 then (a : Int) else b)))).2 = _
        rw [if_neg hni, ← hF]
        rfl
      obtain ⟨u, e⟩ := F
      by_cases h0 : e = 0
      · subst h0
        exact BoP.ok (hE.trans (Ru.set_ok _ _ _ _ rfl)) (Ru.put_e he _ _) (pr7 x a b c a16 b16 c16 k sub 0 lb imm HF (hr b) u hF)
      · exact BoP.no (by rw [hE, Ru.set_no _ _ _ _ h0]; exact Ru.stop5 he 0) (pr7n x a b c a16 b16 c16 k sub 0 lb imm HF (hr b) u e hF (bne0 h0))
    · have hE : Ru.exec h.im ⟨9, a, b, c, k, sub, 0, imm, lb⟩ s1 = s1.put a (s1.adr ⟨9, a, b, c, k, sub, 0, imm, lb⟩) := rfl
      rw [Ru.adr0] at hE
      exact BoP.ok hE (Ru.put_e he _ _) (pr9 x a b c a16 b16 c16 k sub 0 lb imm HF)
    · have hi : 0 ≤ imm ∧ imm < 16 := by
        unfold Rc.kindB at hk
        simpa using hk
      obtain ⟨n, rfl⟩ := Int.eq_ofNat_of_zero_le hi.1
      have hE : Ru.exec h.im ⟨15, a, b, c, k, sub, 0, (n : Nat), lb⟩ s1 = s1.put a (if s1.r b = 0 then s1.r n else s1.r c) := by
        show (if h.im.t = 2 then _ else s1.put a (if s1.reg b = 0 then s1.reg (n : Nat) else s1.reg c)) = _
        rw [if_neg hni]
        rfl
      by_cases h0 : s1.r b = 0
      · rw [if_pos h0] at hE
        exact BoP.ok hE (Ru.put_e he _ _) (pr15f x a b c a16 b16 c16 k sub 0 lb n (by omega) HF (by simpa using h0))
      · rw [if_neg h0] at hE
        exact BoP.ok hE (Ru.put_e he _ _) (pr15t x a b c a16 b16 c16 k sub 0 lb n HF (by simpa using h0))
    · have hE : Ru.exec h.im ⟨20, a, b, c, k, sub, 0, imm, lb⟩ s1 = if s1.r a = 0 then s1 else s1.goto (s1.pl + imm) := rfl
      by_cases h0 : s1.r a = 0
      · rw [if_pos h0] at hE
        exact BoP.ok hE (Ru.st_e he) (pr20f x a b c a16 b16 c16 k sub 0 lb imm HF (by simpa using h0))
      · rw [if_neg h0] at hE
        exact BoP.ok hE (Ru.goto_e he _) (pr20t x a b c a16 b16 c16 k sub 0 lb imm HF (by simpa using h0))
    · have hE : Ru.exec h.im ⟨21, a, b, c, k, sub, 0, imm, lb⟩ s1 = if s1.r a = 0 then s1.goto (s1.pl + imm) else s1 := rfl
      by_cases h0 : s1.r a = 0
      · rw [if_pos h0] at hE
        exact BoP.ok hE (Ru.goto_e he _) (pr21t x a b c a16 b16 c16 k sub 0 lb imm HF (by simpa using h0))
      · rw [if_neg h0] at hE
        exact BoP.ok hE (Ru.st_e he) (pr21f x a b c a16 b16 c16 k sub 0 lb imm HF (by simpa using h0))
end Go.Proofs.YtdklaeppcjopoaaGreatDoor

/- The program's C64: an operation of two registers. -/
namespace Go.Proofs.YtdklaeppcjopoaaGreatDoor
open Go.RowKit
set_option linter.unusedVariables false

set_option maxRecDepth 100000 in
set_option maxHeartbeats 4000000 in
theorem pbinA {w : World} {h : Pd} {s : Ru.St} (x : IsC w h s) (a b c : Nat) (a16 : a < 16) (b16 : b < 16) (k sub sc imm lb : Int) (o : Int) (ho : (if sub = 4 then 5 else if sub = 5 then (4 : Int) else 0) = o) (hc : ((o != 0) = false) ∨ ((o != 0) = true ∧ (k != 10) = false)) (v : Int) (hF : Fl.binA sub k (Wd.canon k (s.r a)) (Wd.canon (Ru.ky sub k) (s.r b)) = (v, 0)) :
    Calls Tryz.prog 160 #[.pointer (some ⟨h.B, 0, none⟩), .agg #[.int .i64 4, .int .i64 a, .int .i64 b, .int .i64 c, .int .i64 k, .int .i64 sub, .int .i64 sc, .int .i64 imm, .int .i64 lb]] w fun r w' => r = .returned (.tuple #[]) ∧ IsC w' h (s.put a v) ∧ Mc h w w' := by
  have G := World.grownBy_alloc w (Obj.cells #[.int .i64 4, .int .i64 a, .int .i64 b, .int .i64 c, .int .i64 k, .int .i64 sub, .int .i64 sc, .int .i64 imm, .int .i64 lb] 34) none
  have HX1 : Hid (IsC (w.alloc (Obj.cells #[.int .i64 4, .int .i64 a, .int .i64 b, .int .i64 c, .int .i64 k, .int .i64 sub, .int .i64 sc, .int .i64 imm, .int .i64 lb] 34)) h s) := x.kept G
  have HV1 : Hid (Mc h w (w.alloc (Obj.cells #[.int .i64 4, .int .i64 a, .int .i64 b, .int .i64 c, .int .i64 k, .int .i64 sub, .int .i64 sc, .int .i64 imm, .int .i64 lb] 34))) := Mc.refl.grown G
  have HJ1 : Hid (InstAt (w.alloc (Obj.cells #[.int .i64 4, .int .i64 a, .int .i64 b, .int .i64 c, .int .i64 k, .int .i64 sub, .int .i64 sc, .int .i64 imm, .int .i64 lb] 34)) w.heap.size ⟨4, a, b, c, k, sub, sc, imm, lb⟩) := InstAt.new w ⟨4, a, b, c, k, sub, sc, imm, lb⟩
  have HK : Hid (w.heap.size ≠ h.B) := fun e => by have := x.hd.lt; omega
  have HX : Hid (IsC w h s) := x
  have a16' : (a : Int) < 16 := by omega
  have b16' : (b : Int) < 16 := by omega
  have HA : Hid (∀ i, Ru.W64 (s.r i)) := x.ok.r
  have HVw : Hid (Ru.W64 v) := by have := Ru.bin_w sub k (Wd.canon k (s.r a)) (Wd.canon (Ru.ky sub k) (s.r b)); rw [hF] at this; exact this
  have HO : Hid (∀ W, Calls Tryz.prog 164 #[.int .i64 sub] W fun r w' => r = .returned (.int .i64 o) ∧ w' = W) := fun W => by have := pother sub W; rw [ho] at this; exact this
  have HBm : Hid (∀ W, Calls Tryz.prog 142 #[.int .i64 sub, .int .i64 k, .int .u64 (s.r a), .int .u64 (s.r b)] W fun r w' => r = .returned (.int .u64 v) ∧ W.grownBy w' none) := fun W => pbin_ok _ _ _ _ _ (HA.out a) (HA.out b) W hF
  clear hF ho
  rcases hc with hc | ⟨hc, hk⟩
  all_goals
    clear x G
    go_enter Tryz.func160, Tryz.ntmps160
    go_wp2_with fail
    obtain ⟨N1, hN1⟩ : ∃ N, N = w.heap.size := ⟨_, rfl⟩
    rw [← hN1] at HJ1 HK
    rw [← hN1]
    clear hN1
    generalize w.alloc (Obj.cells #[.int .i64 4, .int .i64 a, .int .i64 b, .int .i64 c, .int .i64 k, .int .i64 sub, .int .i64 sc, .int .i64 imm, .int .i64 lb] 34) = W at *
    obtain ⟨d0, d1, d2, d3, d4, d5, d6, d7, d8, dz⟩ := HJ1.out
    clear dz
    have ra := HX1.out.rc a16
    have rb := HX1.out.rc b16
    go_quiet (fail)
    have g : W.grownBy (W.drewN nq) none := grown_drewN (World.grownBy.refl _ none) nq
    clear d0 d1 d2 d3 d4 d5 d6 d7 d8 ra rb
    have HX2 : Hid (IsC (W.drewN nq) h s) := HX1.out.kept g
    have HV2 : Hid (Mc h w (W.drewN nq)) := HV1.out.grown g
    have HJ2 : Hid (InstAt (W.drewN nq) N1 ⟨4, a, b, c, k, sub, sc, imm, lb⟩) := HJ1.out.kept g (by simp)
    clear g HX1 HV1 HJ1
    generalize W.drewN nq = W2 at *
    obtain ⟨d0, d1, d2, d3, d4, d5, d6, d7, d8, dz⟩ := HJ2.out
    clear dz
    go_wp2_with (go_at_call 164; refine (HO.out _).mono ?_; rintro r w5 ⟨rfl, hw5⟩; rw [hw5]; clear hw5 w5)
    clear d0 d1 d2 d3 d4 d5 d6 d7 d8
    refine tail_class (fun w' => ∃ y : Gw W2, w' = y.w) 14 (by kernel_rfl) (by kernel_rfl) ⟨⟨W2.drew, grown_drew (World.grownBy.refl _ _)⟩, rfl⟩ ?_
    have d1 := fun y : Gw W2 => (HJ2.out.kept y.h (by simp)).c1
    have d4 := fun y : Gw W2 => (HJ2.out.kept y.h (by simp)).c4
    have d5 := fun y : Gw W2 => (HJ2.out.kept y.h (by simp)).c5
    simp only [List.take_succ_cons, List.take_zero, List.drop_succ_cons, List.drop_zero]
    repeat (go_big_quiet_step (first | exact rfl | (go_at_call 142; exact Gw.call (HBm.out _))))
    refine wpQuiet_nil ?_
    rintro W8 ⟨y8, hy8⟩
    have g : W2.grownBy W8 none := by rw [hy8]; exact y8.h
    clear hy8 y8 d1 d4 d5
    have HX8 : Hid (IsC W8 h _) := HX2.out.kept g
    have HV8 : Hid (Mc h w W8) := HV2.out.grown g
    clear g HX2 HV2 HJ2
    have ra := HX8.out.rc a16
    have rf := HX8.out.fz (2 + a)
    have HX9 : Hid (IsC (W8.setCell ⟨h.B, 2 + a, none⟩ (.int .u64 v)) h _) := HX8.out.put (a := a) a16 HVw.out
    have HV9 : Hid (Mc h w (W8.setCell ⟨h.B, 2 + a, none⟩ (.int .u64 v))) := HV8.out.setB _ _
    clear HX8 HV8
    go_wp2
    first | go_end0 | go_returns
    exact ⟨rfl, HX9.out, HV9.out⟩
set_option maxRecDepth 100000 in
set_option maxHeartbeats 4000000 in
theorem pbinAn {w : World} {h : Pd} {s : Ru.St} (x : IsC w h s) (a b c : Nat) (a16 : a < 16) (b16 : b < 16) (k sub sc imm lb : Int) (o : Int) (ho : (if sub = 4 then 5 else if sub = 5 then (4 : Int) else 0) = o) (hc : ((o != 0) = false) ∨ ((o != 0) = true ∧ (k != 10) = false)) (v e : Int) (hF : Fl.binA sub k (Wd.canon k (s.r a)) (Wd.canon (Ru.ky sub k) (s.r b)) = (v, e)) (he : (e != 0) = true) :
    Calls Tryz.prog 160 #[.pointer (some ⟨h.B, 0, none⟩), .agg #[.int .i64 4, .int .i64 a, .int .i64 b, .int .i64 c, .int .i64 k, .int .i64 sub, .int .i64 sc, .int .i64 imm, .int .i64 lb]] w fun r w' => r = .panicked stk ∧ (∃ s', IsC w' h s') ∧ Mc h w w' := by
  have G := World.grownBy_alloc w (Obj.cells #[.int .i64 4, .int .i64 a, .int .i64 b, .int .i64 c, .int .i64 k, .int .i64 sub, .int .i64 sc, .int .i64 imm, .int .i64 lb] 34) none
  have HX1 : Hid (IsC (w.alloc (Obj.cells #[.int .i64 4, .int .i64 a, .int .i64 b, .int .i64 c, .int .i64 k, .int .i64 sub, .int .i64 sc, .int .i64 imm, .int .i64 lb] 34)) h s) := x.kept G
  have HV1 : Hid (Mc h w (w.alloc (Obj.cells #[.int .i64 4, .int .i64 a, .int .i64 b, .int .i64 c, .int .i64 k, .int .i64 sub, .int .i64 sc, .int .i64 imm, .int .i64 lb] 34))) := Mc.refl.grown G
  have HJ1 : Hid (InstAt (w.alloc (Obj.cells #[.int .i64 4, .int .i64 a, .int .i64 b, .int .i64 c, .int .i64 k, .int .i64 sub, .int .i64 sc, .int .i64 imm, .int .i64 lb] 34)) w.heap.size ⟨4, a, b, c, k, sub, sc, imm, lb⟩) := InstAt.new w ⟨4, a, b, c, k, sub, sc, imm, lb⟩
  have HK : Hid (w.heap.size ≠ h.B) := fun e => by have := x.hd.lt; omega
  have HX : Hid (IsC w h s) := x
  have a16' : (a : Int) < 16 := by omega
  have b16' : (b : Int) < 16 := by omega
  have HA : Hid (∀ i, Ru.W64 (s.r i)) := x.ok.r
  have HO : Hid (∀ W, Calls Tryz.prog 164 #[.int .i64 sub] W fun r w' => r = .returned (.int .i64 o) ∧ w' = W) := fun W => by have := pother sub W; rw [ho] at this; exact this
  have HBm : Hid (∀ W, Calls Tryz.prog 142 #[.int .i64 sub, .int .i64 k, .int .u64 (s.r a), .int .u64 (s.r b)] W fun r w' => r = .panicked stk ∧ W.grownBy w' none) := fun W => pbin_no _ _ _ _ _ _ (HA.out a) (HA.out b) W hF he
  clear hF ho
  rcases hc with hc | ⟨hc, hk⟩
  all_goals
    clear x G
    go_enter Tryz.func160, Tryz.ntmps160
    go_wp2_with fail
    obtain ⟨N1, hN1⟩ : ∃ N, N = w.heap.size := ⟨_, rfl⟩
    rw [← hN1] at HJ1 HK
    rw [← hN1]
    clear hN1
    generalize w.alloc (Obj.cells #[.int .i64 4, .int .i64 a, .int .i64 b, .int .i64 c, .int .i64 k, .int .i64 sub, .int .i64 sc, .int .i64 imm, .int .i64 lb] 34) = W at *
    obtain ⟨d0, d1, d2, d3, d4, d5, d6, d7, d8, dz⟩ := HJ1.out
    clear dz
    have ra := HX1.out.rc a16
    have rb := HX1.out.rc b16
    go_quiet (fail)
    have g : W.grownBy (W.drewN nq) none := grown_drewN (World.grownBy.refl _ none) nq
    clear d0 d1 d2 d3 d4 d5 d6 d7 d8 ra rb
    have HX2 : Hid (IsC (W.drewN nq) h s) := HX1.out.kept g
    have HV2 : Hid (Mc h w (W.drewN nq)) := HV1.out.grown g
    have HJ2 : Hid (InstAt (W.drewN nq) N1 ⟨4, a, b, c, k, sub, sc, imm, lb⟩) := HJ1.out.kept g (by simp)
    clear g HX1 HV1 HJ1
    generalize W.drewN nq = W2 at *
    obtain ⟨d0, d1, d2, d3, d4, d5, d6, d7, d8, dz⟩ := HJ2.out
    clear dz
    go_wp2_with (go_at_call 164; refine (HO.out _).mono ?_; rintro r w5 ⟨rfl, hw5⟩; rw [hw5]; clear hw5 w5)
    clear d0 d1 d2 d3 d4 d5 d6 d7 d8
    refine region_panics (fun w' => ∃ y : Gw W2, w' = y.w) (fun ch w' => ch = stk ∧ ∃ y : Gw W2, w' = y.w) 9 10 3 _ rfl (by kernel_rfl) (by kernel_rfl) ⟨⟨W2.drew, grown_drew (World.grownBy.refl _ _)⟩, rfl⟩ ?_ ?_
    · rintro a' ch w' hd ⟨rfl, y, rfl⟩
      exact ⟨hd, rfl, ⟨_, HX2.out.kept y.h⟩, HV2.out.grown y.h⟩
    · have d1 := fun y : Gw W2 => (HJ2.out.kept y.h (by simp)).c1
      have d4 := fun y : Gw W2 => (HJ2.out.kept y.h (by simp)).c4
      have d5 := fun y : Gw W2 => (HJ2.out.kept y.h (by simp)).c5
      simp only [List.take_succ_cons, List.take_zero, List.drop_succ_cons, List.drop_zero, List.cons_append, List.nil_append]
      repeat (go_big_quiet_step (exact rfl))
      refine wpQuiet_nil ⟨rfl, ?_⟩
      rintro w' ⟨y, rfl⟩
      refine ⟨142, #[.int .i64 sub, .int .i64 k, .int .u64 (s.r a), .int .u64 (s.r b)], by first | kernel_rfl | simp [go_sem], ?_⟩
      exact (HBm.out _).mono fun r w' ⟨h1, h2⟩ => ⟨stk, h1, rfl, ⟨_, grown_trans y.h h2⟩, rfl⟩
set_option maxRecDepth 100000 in
set_option maxHeartbeats 4000000 in
theorem pbinB {w : World} {h : Pd} {s : Ru.St} (x : IsC w h s) (a b c : Nat) (a16 : a < 16) (b16 : b < 16) (k sub sc imm lb : Int) (o : Int) (ho : (if sub = 4 then 5 else if sub = 5 then (4 : Int) else 0) = o) (hc : (o != 0) = true) (hk : (k != 10) = true) (v v2 : Int) (hF : Fl.binA sub k (Wd.canon k (s.r a)) (Wd.canon (Ru.ky sub k) (s.r b)) = (v, 0)) (hG : Fl.binA o k (Wd.canon k (s.r a)) (Wd.canon (Ru.ky o k) (s.r b)) = (v2, 0)) :
    Calls Tryz.prog 160 #[.pointer (some ⟨h.B, 0, none⟩), .agg #[.int .i64 4, .int .i64 a, .int .i64 b, .int .i64 c, .int .i64 k, .int .i64 sub, .int .i64 sc, .int .i64 imm, .int .i64 lb]] w fun r w' => r = .returned (.tuple #[]) ∧ IsC w' h ((s.put 2 v2).put a v) ∧ Mc h w w' := by
  have G := World.grownBy_alloc w (Obj.cells #[.int .i64 4, .int .i64 a, .int .i64 b, .int .i64 c, .int .i64 k, .int .i64 sub, .int .i64 sc, .int .i64 imm, .int .i64 lb] 34) none
  have HX1 : Hid (IsC (w.alloc (Obj.cells #[.int .i64 4, .int .i64 a, .int .i64 b, .int .i64 c, .int .i64 k, .int .i64 sub, .int .i64 sc, .int .i64 imm, .int .i64 lb] 34)) h s) := x.kept G
  have HV1 : Hid (Mc h w (w.alloc (Obj.cells #[.int .i64 4, .int .i64 a, .int .i64 b, .int .i64 c, .int .i64 k, .int .i64 sub, .int .i64 sc, .int .i64 imm, .int .i64 lb] 34))) := Mc.refl.grown G
  have HJ1 : Hid (InstAt (w.alloc (Obj.cells #[.int .i64 4, .int .i64 a, .int .i64 b, .int .i64 c, .int .i64 k, .int .i64 sub, .int .i64 sc, .int .i64 imm, .int .i64 lb] 34)) w.heap.size ⟨4, a, b, c, k, sub, sc, imm, lb⟩) := InstAt.new w ⟨4, a, b, c, k, sub, sc, imm, lb⟩
  have HK : Hid (w.heap.size ≠ h.B) := fun e => by have := x.hd.lt; omega
  have HX : Hid (IsC w h s) := x
  have a16' : (a : Int) < 16 := by omega
  have b16' : (b : Int) < 16 := by omega
  have HA : Hid (∀ i, Ru.W64 (s.r i)) := x.ok.r
  have HVw : Hid (Ru.W64 v) := by have := Ru.bin_w sub k (Wd.canon k (s.r a)) (Wd.canon (Ru.ky sub k) (s.r b)); rw [hF] at this; exact this
  have HVo : Hid (Ru.W64 v2) := by have := Ru.bin_w o k (Wd.canon k (s.r a)) (Wd.canon (Ru.ky o k) (s.r b)); rw [hG] at this; exact this
  have HO : Hid (∀ W, Calls Tryz.prog 164 #[.int .i64 sub] W fun r w' => r = .returned (.int .i64 o) ∧ w' = W) := fun W => by have := pother sub W; rw [ho] at this; exact this
  have HBm : Hid (∀ W, Calls Tryz.prog 142 #[.int .i64 sub, .int .i64 k, .int .u64 (s.r a), .int .u64 (s.r b)] W fun r w' => r = .returned (.int .u64 v) ∧ W.grownBy w' none) := fun W => pbin_ok _ _ _ _ _ (HA.out a) (HA.out b) W hF
  have HBo : Hid (∀ W, Calls Tryz.prog 142 #[.int .i64 o, .int .i64 k, .int .u64 (s.r a), .int .u64 (s.r b)] W fun r w' => r = .returned (.int .u64 v2) ∧ W.grownBy w' none) := fun W => pbin_ok _ _ _ _ _ (HA.out a) (HA.out b) W hG
  clear hF hG ho
  clear x G
  go_enter Tryz.func160, Tryz.ntmps160
  go_wp2_with fail
  obtain ⟨N1, hN1⟩ : ∃ N, N = w.heap.size := ⟨_, rfl⟩
  rw [← hN1] at HJ1 HK
  rw [← hN1]
  clear hN1
  generalize w.alloc (Obj.cells #[.int .i64 4, .int .i64 a, .int .i64 b, .int .i64 c, .int .i64 k, .int .i64 sub, .int .i64 sc, .int .i64 imm, .int .i64 lb] 34) = W at *
  obtain ⟨d0, d1, d2, d3, d4, d5, d6, d7, d8, dz⟩ := HJ1.out
  clear dz
  have ra := HX1.out.rc a16
  have rb := HX1.out.rc b16
  go_quiet (fail)
  have g : W.grownBy (W.drewN nq) none := grown_drewN (World.grownBy.refl _ none) nq
  clear d0 d1 d2 d3 d4 d5 d6 d7 d8 ra rb
  have HX2 : Hid (IsC (W.drewN nq) h s) := HX1.out.kept g
  have HV2 : Hid (Mc h w (W.drewN nq)) := HV1.out.grown g
  have HJ2 : Hid (InstAt (W.drewN nq) N1 ⟨4, a, b, c, k, sub, sc, imm, lb⟩) := HJ1.out.kept g (by simp)
  clear g HX1 HV1 HJ1
  generalize W.drewN nq = W2 at *
  obtain ⟨d0, d1, d2, d3, d4, d5, d6, d7, d8, dz⟩ := HJ2.out
  clear dz
  go_wp2_with (go_at_call 164; refine (HO.out _).mono ?_; rintro r w5 ⟨rfl, hw5⟩; rw [hw5]; clear hw5 w5)
  clear d0 d1 d2 d3 d4 d5 d6 d7 d8
  refine tail_class (fun w' => ∃ y : Gw W2, w' = y.w) 11 (by kernel_rfl) (by kernel_rfl) ⟨⟨W2.drew, grown_drew (World.grownBy.refl _ _)⟩, rfl⟩ ?_
  have d4 := fun y : Gw W2 => (HJ2.out.kept y.h (by simp)).c4
  simp only [List.take_succ_cons, List.take_zero, List.drop_succ_cons, List.drop_zero]
  repeat (go_big_quiet_step (first | exact rfl | (go_at_call 142; exact Gw.call (HBo.out _))))
  refine wpQuiet_nil ?_
  rintro W4 ⟨y4, hy4⟩
  have g : W2.grownBy W4 none := by rw [hy4]; exact y4.h
  clear hy4 y4 d4 HBo
  have HX4 : Hid (IsC W4 h s) := HX2.out.kept g
  have HV4 : Hid (Mc h w W4) := HV2.out.grown g
  have HJ4 : Hid (InstAt W4 N1 ⟨4, a, b, c, k, sub, sc, imm, lb⟩) := HJ2.out.kept g (by simp)
  clear g HX2 HV2 HJ2
  have r2 : W4.cell? ⟨h.B, 4, none⟩ = some (.int .u64 (s.r 2)) := HX4.out.rc (a := 2) (by decide)
  have q2 := HX4.out.fz 4
  have HX7 : Hid (IsC (W4.setCell ⟨h.B, 4, none⟩ (.int .u64 v2)) h (s.put 2 v2)) := HX4.out.put (a := 2) (by decide) HVo.out
  have HV7 : Hid (Mc h w (W4.setCell ⟨h.B, 4, none⟩ (.int .u64 v2))) := HV4.out.setB _ _
  have HJ7 : Hid (InstAt (W4.setCell ⟨h.B, 4, none⟩ (.int .u64 v2)) N1 ⟨4, a, b, c, k, sub, sc, imm, lb⟩) := HJ4.out.setB HK.out _
  clear HX4 HV4 HJ4
  go_wp2_with fail
  generalize W4.setCell ⟨h.B, 4, none⟩ (.int .u64 v2) = W7 at *
  clear r2 q2
  refine tail_class (fun w' => ∃ y : Gw W7, w' = y.w) 14 (by kernel_rfl) (by kernel_rfl) ⟨⟨W7.drew, grown_drew (World.grownBy.refl _ _)⟩, rfl⟩ ?_
  have d1 := fun y : Gw W7 => (HJ7.out.kept y.h (by simp)).c1
  have d4 := fun y : Gw W7 => (HJ7.out.kept y.h (by simp)).c4
  have d5 := fun y : Gw W7 => (HJ7.out.kept y.h (by simp)).c5
  simp only [List.take_succ_cons, List.take_zero, List.drop_succ_cons, List.drop_zero]
  repeat (go_big_quiet_step (first | exact rfl | (go_at_call 142; exact Gw.call (HBm.out _))))
  refine wpQuiet_nil ?_
  rintro W8 ⟨y8, hy8⟩
  have g : W7.grownBy W8 none := by rw [hy8]; exact y8.h
  clear hy8 y8 d1 d4 d5
  have HX8 : Hid (IsC W8 h _) := HX7.out.kept g
  have HV8 : Hid (Mc h w W8) := HV7.out.grown g
  clear g HX7 HV7 HJ7
  have ra := HX8.out.rc a16
  have rf := HX8.out.fz (2 + a)
  have HX9 : Hid (IsC (W8.setCell ⟨h.B, 2 + a, none⟩ (.int .u64 v)) h _) := HX8.out.put (a := a) a16 HVw.out
  have HV9 : Hid (Mc h w (W8.setCell ⟨h.B, 2 + a, none⟩ (.int .u64 v))) := HV8.out.setB _ _
  clear HX8 HV8
  go_wp2
  first | go_end0 | go_returns
  exact ⟨rfl, HX9.out, HV9.out⟩
set_option maxRecDepth 100000 in
set_option maxHeartbeats 4000000 in
theorem pbinBn {w : World} {h : Pd} {s : Ru.St} (x : IsC w h s) (a b c : Nat) (a16 : a < 16) (b16 : b < 16) (k sub sc imm lb : Int) (o : Int) (ho : (if sub = 4 then 5 else if sub = 5 then (4 : Int) else 0) = o) (hc : (o != 0) = true) (hk : (k != 10) = true) (v2 e : Int) (hG : Fl.binA o k (Wd.canon k (s.r a)) (Wd.canon (Ru.ky o k) (s.r b)) = (v2, e)) (he : (e != 0) = true) :
    Calls Tryz.prog 160 #[.pointer (some ⟨h.B, 0, none⟩), .agg #[.int .i64 4, .int .i64 a, .int .i64 b, .int .i64 c, .int .i64 k, .int .i64 sub, .int .i64 sc, .int .i64 imm, .int .i64 lb]] w fun r w' => r = .panicked stk ∧ (∃ s', IsC w' h s') ∧ Mc h w w' := by
  have G := World.grownBy_alloc w (Obj.cells #[.int .i64 4, .int .i64 a, .int .i64 b, .int .i64 c, .int .i64 k, .int .i64 sub, .int .i64 sc, .int .i64 imm, .int .i64 lb] 34) none
  have HX1 : Hid (IsC (w.alloc (Obj.cells #[.int .i64 4, .int .i64 a, .int .i64 b, .int .i64 c, .int .i64 k, .int .i64 sub, .int .i64 sc, .int .i64 imm, .int .i64 lb] 34)) h s) := x.kept G
  have HV1 : Hid (Mc h w (w.alloc (Obj.cells #[.int .i64 4, .int .i64 a, .int .i64 b, .int .i64 c, .int .i64 k, .int .i64 sub, .int .i64 sc, .int .i64 imm, .int .i64 lb] 34))) := Mc.refl.grown G
  have HJ1 : Hid (InstAt (w.alloc (Obj.cells #[.int .i64 4, .int .i64 a, .int .i64 b, .int .i64 c, .int .i64 k, .int .i64 sub, .int .i64 sc, .int .i64 imm, .int .i64 lb] 34)) w.heap.size ⟨4, a, b, c, k, sub, sc, imm, lb⟩) := InstAt.new w ⟨4, a, b, c, k, sub, sc, imm, lb⟩
  have HK : Hid (w.heap.size ≠ h.B) := fun e => by have := x.hd.lt; omega
  have HX : Hid (IsC w h s) := x
  have a16' : (a : Int) < 16 := by omega
  have b16' : (b : Int) < 16 := by omega
  have HA : Hid (∀ i, Ru.W64 (s.r i)) := x.ok.r
  have HO : Hid (∀ W, Calls Tryz.prog 164 #[.int .i64 sub] W fun r w' => r = .returned (.int .i64 o) ∧ w' = W) := fun W => by have := pother sub W; rw [ho] at this; exact this
  have HBo : Hid (∀ W, Calls Tryz.prog 142 #[.int .i64 o, .int .i64 k, .int .u64 (s.r a), .int .u64 (s.r b)] W fun r w' => r = .panicked stk ∧ W.grownBy w' none) := fun W => pbin_no _ _ _ _ _ _ (HA.out a) (HA.out b) W hG he
  clear hG ho
  clear x G
  go_enter Tryz.func160, Tryz.ntmps160
  go_wp2_with fail
  obtain ⟨N1, hN1⟩ : ∃ N, N = w.heap.size := ⟨_, rfl⟩
  rw [← hN1] at HJ1 HK
  rw [← hN1]
  clear hN1
  generalize w.alloc (Obj.cells #[.int .i64 4, .int .i64 a, .int .i64 b, .int .i64 c, .int .i64 k, .int .i64 sub, .int .i64 sc, .int .i64 imm, .int .i64 lb] 34) = W at *
  obtain ⟨d0, d1, d2, d3, d4, d5, d6, d7, d8, dz⟩ := HJ1.out
  clear dz
  have ra := HX1.out.rc a16
  have rb := HX1.out.rc b16
  go_quiet (fail)
  have g : W.grownBy (W.drewN nq) none := grown_drewN (World.grownBy.refl _ none) nq
  clear d0 d1 d2 d3 d4 d5 d6 d7 d8 ra rb
  have HX2 : Hid (IsC (W.drewN nq) h s) := HX1.out.kept g
  have HV2 : Hid (Mc h w (W.drewN nq)) := HV1.out.grown g
  have HJ2 : Hid (InstAt (W.drewN nq) N1 ⟨4, a, b, c, k, sub, sc, imm, lb⟩) := HJ1.out.kept g (by simp)
  clear g HX1 HV1 HJ1
  generalize W.drewN nq = W2 at *
  obtain ⟨d0, d1, d2, d3, d4, d5, d6, d7, d8, dz⟩ := HJ2.out
  clear dz
  go_wp2_with (go_at_call 164; refine (HO.out _).mono ?_; rintro r w5 ⟨rfl, hw5⟩; rw [hw5]; clear hw5 w5)
  clear d0 d1 d2 d3 d4 d5 d6 d7 d8
  refine region_panics (fun w' => ∃ y : Gw W2, w' = y.w) (fun ch w' => ch = stk ∧ ∃ y : Gw W2, w' = y.w) 6 7 3 _ rfl (by kernel_rfl) (by kernel_rfl) ⟨⟨W2.drew, grown_drew (World.grownBy.refl _ _)⟩, rfl⟩ ?_ ?_
  · rintro a' ch w' hd ⟨rfl, y, rfl⟩
    exact ⟨hd, rfl, ⟨_, HX2.out.kept y.h⟩, HV2.out.grown y.h⟩
  · have d4 := fun y : Gw W2 => (HJ2.out.kept y.h (by simp)).c4
    simp only [List.take_succ_cons, List.take_zero, List.drop_succ_cons, List.drop_zero, List.cons_append, List.nil_append]
    repeat (go_big_quiet_step (exact rfl))
    refine wpQuiet_nil ⟨rfl, ?_⟩
    rintro w' ⟨y, rfl⟩
    refine ⟨142, #[.int .i64 o, .int .i64 k, .int .u64 (s.r a), .int .u64 (s.r b)], by first | kernel_rfl | simp [go_sem], ?_⟩
    exact (HBo.out _).mono fun r w' ⟨h1, h2⟩ => ⟨stk, h1, rfl, ⟨_, grown_trans y.h h2⟩, rfl⟩

end Go.Proofs.YtdklaeppcjopoaaGreatDoor
