/- check's question of the function 0. -/
import Derived.Test.YtpcgkggpmipiaaaGreatG21
namespace Go.Proofs.YtpcgkggpmipiaaaGreat
open Go.RowKit
set_option linter.unusedVariables false
set_option maxRecDepth 100000
set_option maxHeartbeats 8000000
theorem ckFirst {N : Nat} {w : World} {ea va : Option Addr} {ec vc : Nat} {c : Ck.En} (h : Tb N w ea ec va vc c.T c.n) (f : Pg.Fn) {b1 b2 b3 : Option Addr} {j1 j2 j3 : Nat} (hl : NumIn N w b1 f.locals.length j1 (fun i => f.locals.getD i 0)) (hr : NumIn N w b2 f.results.length j2 (fun i => f.results.getD i 0)) (hel : ∀ x, x ∈ f.locals → 0 ≤ x ∧ x < (c.n : Int)) (her : ∀ x, x ∈ f.results → 0 ≤ x ∧ x < (c.n : Int)) (hp : 0 ≤ f.params ∧ f.params ≤ f.locals.length) :
  Calls Tryz.prog 58 #[.agg #[.slice ea c.n ec, .slice va c.n vc], .agg #[.int .i64 f.params, .slice b1 f.locals.length j1, .slice b2 f.results.length j2, .slice b3 f.body.length j3]] w fun e w' => e = ckE (fun _ => Value.tuple #[]) (Ck.first c f) ∧ w.grownBy w' none := by
 obtain ⟨R, hR⟩ : ∃ R, R = ckE (fun _ => Value.tuple #[]) (Ck.first c f) := ⟨_, rfl⟩
 rw [← hR]
 obtain ⟨pn, hpn, _⟩ := ent_nat (k := f.locals.length + 1) (x := f.params) ⟨hp.1, by omega⟩
 have hpl : pn ≤ f.locals.length := by omega
 have HR : Hid (R = ckE (fun _ => Value.tuple #[]) (do Ck.must (f.results.length == 1 && Ck.kd c (f.results.getD 0 0) == 5) 91; Ck.must (decide ((pn : Int) ≤ 6) && (f.locals.take pn).all (Ck.plainK c)) 91)) := by show _ = _; rw [hR]; unfold Ck.first; rw [hpn, Int.toNat_natCast]
 rw [hpn]
 clear hR
 have HM : Hid (∀ (b : Bool) (e : Int) W, Calls Tryz.prog 42 #[.bool b, .int .i64 e] W fun r w' => r = (bif b then .returned (.tuple #[]) else ckF e) ∧ w' = W) := ckMust_any
 have hlm := hl.max
 have hll := hl.le
 have hrm := hr.max
 have hrl := hr.le
 unfold maxLen at hlm hrm
 have g1 : w.grownBy (w.alloc (Obj.cells #[.slice ea c.n ec, .slice va c.n vc] 74)) none := World.grownBy_alloc _ _ _
 have g2 : w.grownBy ((w.alloc (Obj.cells #[.slice ea c.n ec, .slice va c.n vc] 74)).alloc (Obj.cells #[.int .i64 pn, .slice b1 f.locals.length j1, .slice b2 f.results.length j2, .slice b3 f.body.length j3] 53)) none := grown_trans g1 (World.grownBy_alloc _ _ _)
 have kt : Bk ((w.alloc (Obj.cells #[.slice ea c.n ec, .slice va c.n vc] 74)).alloc (Obj.cells #[.int .i64 pn, .slice b1 f.locals.length j1, .slice b2 f.results.length j2, .slice b3 f.body.length j3] 53)) w.heap.size 74 [.slice ea c.n ec, .slice va c.n vc] := (Bk.new w _ _).grow (World.grownBy_alloc _ _ _)
 have kf : Bk ((w.alloc (Obj.cells #[.slice ea c.n ec, .slice va c.n vc] 74)).alloc (Obj.cells #[.int .i64 pn, .slice b1 f.locals.length j1, .slice b2 f.results.length j2, .slice b3 f.body.length j3] 53)) (w.heap.size + 1) 53 [.int .i64 pn, .slice b1 f.locals.length j1, .slice b2 f.results.length j2, .slice b3 f.body.length j3] := by
  have h9 := Bk.new (w.alloc (Obj.cells #[.slice ea c.n ec, .slice va c.n vc] 74)) 53 [.int .i64 pn, .slice b1 f.locals.length j1, .slice b2 f.results.length j2, .slice b3 f.body.length j3]
  simpa using h9
 obtain ⟨W1, hW1⟩ : ∃ W, W = ((w.alloc (Obj.cells #[.slice ea c.n ec, .slice va c.n vc] 74)).alloc (Obj.cells #[.int .i64 pn, .slice b1 f.locals.length j1, .slice b2 f.results.length j2, .slice b3 f.body.length j3] 53)) := ⟨_, rfl⟩
 obtain ⟨B2, hB2⟩ : ∃ B, B = w.heap.size := ⟨_, rfl⟩
 obtain ⟨B3, hB3⟩ : ∃ B, B = w.heap.size + 1 := ⟨_, rfl⟩
 rw [← hW1] at g2 kt kf
 rw [← hB2] at kt
 rw [← hB3] at kf
 have HW : Hid (((w.alloc (Obj.cells #[.slice ea c.n ec, .slice va c.n vc] 74)).alloc (Obj.cells #[.int .i64 pn, .slice b1 f.locals.length j1, .slice b2 f.results.length j2, .slice b3 f.body.length j3] 53)) = W1 ∧ w.heap.size + 1 = B3 ∧ w.heap.size = B2) := ⟨hW1.symm, hB3.symm, hB2.symm⟩
 have HG : Hid (w.grownBy W1 none) := g2
 have HX : Hid (∀ W, W1.grownBy W none → W.cell? ⟨B2, 0, none⟩ = some (.slice ea c.n ec) ∧ W.cell? ⟨B2, 1, none⟩ = some (.slice va c.n vc) ∧ W.cell? ⟨B3, 0, none⟩ = some (.int .i64 pn) ∧ W.cell? ⟨B3, 1, none⟩ = some (.slice b1 f.locals.length j1) ∧ W.cell? ⟨B3, 2, none⟩ = some (.slice b2 f.results.length j2)) := fun W g => ⟨(kt.grow g).cell (i := 0) rfl, (kt.grow g).cell (i := 1) rfl, (kf.grow g).cell (i := 0) rfl, (kf.grow g).cell (i := 1) rfl, (kf.grow g).cell (i := 2) rfl⟩
 have HTb : Hid (∀ W, W1.grownBy W none → Tb N W ea ec va vc c.T c.n) := fun W g => h.grow (grown_trans HG.out g)
 have HRn : Hid (∀ W, W1.grownBy W none → NumIn N W b2 f.results.length j2 (fun i => f.results.getD i 0)) := fun W g => hr.grow (grown_trans HG.out g)
 obtain ⟨za, hza⟩ : ∃ z : Bool, z = (f.locals.take pn).all (Ck.plainK c) := ⟨_, rfl⟩
 have hlt : (f.locals.take pn).length = pn := by rw [List.length_take]; omega
 have HA : Hid (∀ W, W1.grownBy W none → Calls Tryz.prog 91 #[.slice b1 pn j1, .func (.func 94) #[.agg #[.slice ea c.n ec, .slice va c.n vc]] #[]] W fun r w' => r = .returned (.bool za) ∧ W.grownBy w' none) := fun W g => by
  have h9 := ckAllP (M := N) (w := W) (ea := ea) (va := va) (n := c.n) (ec := ec) (vc := vc) (a := b1) (ac := j1) (l := f.locals.take pn) (p := Ck.plainK c) (by
   rw [hlt]
   have h8 := hl.grow (grown_trans HG.out g)
   exact ⟨by omega, h8.max, by
    rcases h8.lie with h0 | ⟨b, o, e1, e2, e3⟩
    ·exact .inl (by omega)
    ·exact .inr ⟨b, o, e1, e2, fun i hi => by rw [e3 i (by omega)]; simp [List.getD_eq_getElem?_getD, hi]⟩⟩) (fun x hx W2 g9 => by
   obtain ⟨xn, rfl, hxn⟩ := ent_nat (hel x (List.mem_of_mem_take hx))
   exact ckPlain_any ((HTb.out W g).grow g9) hxn)
  rw [hlt] at h9
  rw [hza]
  exact h9
 have HZa : Hid ((f.locals.take pn).all (Ck.plainK c) = za) := hza.symm
 clear hza hlt hW1 hB2 hB3 g1 g2 kt kf h hl hr hp hpn
 rcases Bool.eq_false_or_eq_true ((f.results.length : Int) == 1) with q1 | q1
 case inr =>
  have q1b : (f.results.length == 1) = false := by simp at q1 ⊢; omega
  have HQ1 : Hid ((f.results.length == 1 && Ck.kd c (f.results.getD 0 0) == 5) = false) := by show _ = _; rw [q1b]; rfl
  clear q1b
  go_enter Tryz.func58, Tryz.ntmps58
  go_wp2_with fail
  rw [HW.out.1, HW.out.2.1, HW.out.2.2]
  refine region_lg 13 (World.grownBy.refl _ _) (by kernel_rfl) (by kernel_rfl) (by kernel_rfl) (by kernel_rfl) ?_
  simp only [List.take_succ_cons, List.take_zero]
  repeat (first
   | (refine lx_end fun W0 GR => ?_)
   | (refine lx_no ?_ ?_ ?_; (· simp [Region.wanted, yielded]; done); (· kernel_rfl); simp only [Act.put, List.setIfInBounds_toArray, List.set_cons_succ, List.set_cons_zero])
   | (refine lx_val (v := ?_) ?_ ?_ ?_ ?_; rotate_left; (· kernel_rfl); (· exact ⟨by kernel_rfl, rfl⟩); (· intro W g; simp [go_sem, (HX.out W g).2.2.2.2, q1]; rfl); simp only [Act.put, List.setIfInBounds_toArray, List.set_cons_succ, List.set_cons_zero]))
  simp only [List.drop_succ_cons, List.drop_zero]
  go_wp2_with (go_at_call 42; refine (HM.out _ _ _).mono ?_; rintro e w3 ⟨rfl, hw3⟩; rw [hw3]; clear hw3 w3; simp only [cond_false])
  exact ⟨rfl, by rw [HR.out, HQ1.out]; rfl, grown_trans HG.out GR⟩
 have q1b : f.results.length = 1 := by simp at q1; omega
 obtain ⟨rb, ro, hrb, HRc, hj2⟩ := nums_at (HRn.out W1 (World.grownBy.refl _ _)) (by omega)
 obtain ⟨r0, hr0, hr1⟩ := ent_nat (her (f.results.getD 0 0) (by rw [List.getD_eq_getElem?_getD, List.getElem?_eq_getElem (by omega)]; exact List.getElem_mem _))
 have HRc0 : Hid (∀ W, W1.grownBy W none → W.cell? ⟨rb, ro, none⟩ = some (.int .i64 (r0 : Int))) := fun W g => by have h9 := HRc.out W g 0 (by omega); rw [Nat.add_zero] at h9; rw [h9, hr0]
 have HX2 : Hid (∀ W, W1.grownBy W none → W.cell? ⟨B3, 2, none⟩ = some (.slice (some ⟨rb, ro, none⟩) 1 j2)) := fun W g => by rw [← hrb, ← q1b]; exact (HX.out W g).2.2.2.2
 have hj21 : 1 ≤ j2 := by omega
 have HK : Hid (∀ W, W1.grownBy W none → Calls Tryz.prog 93 #[.agg #[.slice ea c.n ec, .slice va c.n vc], .int .i64 (r0 : Int)] W fun r w' => r = .returned (.int .i64 (c.T r0).kind) ∧ W.grownBy w' none) := fun W g => ckKind_any (HTb.out W g) hr1
 have HQk : Hid (Ck.kd c (f.results.getD 0 0) = (c.T r0).kind) := by show _ = _; rw [hr0]; rfl
 have HQl : Hid ((f.results.length == 1) = true) := by show _ = _; simpa using q1b
 have q1c : (0 : Int) < f.results.length := by omega
 clear hr0 hrb HRc q1b
 generalize (c.T r0).kind = v0 at *
 rcases Bool.eq_false_or_eq_true (v0 == 5) with q2 | q2
 case inr =>
  go_enter Tryz.func58, Tryz.ntmps58
  go_wp2_with fail
  rw [HW.out.1, HW.out.2.1, HW.out.2.2]
  refine region_lg 13 (World.grownBy.refl _ _) (by kernel_rfl) (by kernel_rfl) (by kernel_rfl) (by kernel_rfl) ?_
  simp only [List.take_succ_cons, List.take_zero]
  repeat (first
   | (refine lx_end fun W0 GR => ?_)
   | (refine lx_no ?_ ?_ ?_; (· simp [Region.wanted, yielded]; done); (· kernel_rfl); simp only [Act.put, List.setIfInBounds_toArray, List.set_cons_succ, List.set_cons_zero])
   | (refine lx_val (v := ?_) ?_ ?_ ?_ ?_; rotate_left; (· kernel_rfl); (· exact ⟨by kernel_rfl, rfl⟩); (· intro W g; simp [go_sem, (HX.out W g).1, (HX.out W g).2.1, HX2.out W g, HRc0.out W g, q2]; rfl); simp only [Act.put, List.setIfInBounds_toArray, List.set_cons_succ, List.set_cons_zero])
   | (refine lx_callg HK.out ?_ ?_ ?_ ?_; (· kernel_rfl); (· exact ⟨by kernel_rfl, rfl⟩); (· intro W g; simp [go_sem]; done); simp only [Act.put, List.setIfInBounds_toArray, List.set_cons_succ, List.set_cons_zero]))
  simp only [List.drop_succ_cons, List.drop_zero]
  go_wp2_with (go_at_call 42; refine (HM.out _ _ _).mono ?_; rintro e w3 ⟨rfl, hw3⟩; rw [hw3]; clear hw3 w3; simp only [cond_false])
  exact ⟨rfl, by rw [HR.out, HQl.out, HQk.out, q2]; rfl, grown_trans HG.out GR⟩
 have hpj : pn ≤ j1 := by omega
 have hpj2 : (pn : Int) ≤ j1 := by omega
 have hj1m : j1 ≤ 9223372036854775807 := by omega
 rcases Bool.eq_false_or_eq_true (decide ((pn : Int) ≤ 6)) with q3 | q3
 case inr =>
  go_enter Tryz.func58, Tryz.ntmps58
  go_wp2_with fail
  rw [HW.out.1, HW.out.2.1, HW.out.2.2]
  refine region_lg 13 (World.grownBy.refl _ _) (by kernel_rfl) (by kernel_rfl) (by kernel_rfl) (by kernel_rfl) ?_
  simp only [List.take_succ_cons, List.take_zero]
  repeat (first
   | (refine lx_end fun W0 GR => ?_)
   | (refine lx_no ?_ ?_ ?_; (· simp [Region.wanted, yielded]; done); (· kernel_rfl); simp only [Act.put, List.setIfInBounds_toArray, List.set_cons_succ, List.set_cons_zero])
   | (refine lx_val (v := ?_) ?_ ?_ ?_ ?_; rotate_left; (· kernel_rfl); (· exact ⟨by kernel_rfl, rfl⟩); (· intro W g; simp [go_sem, (HX.out W g).1, (HX.out W g).2.1, HX2.out W g, HRc0.out W g, q2]; rfl); simp only [Act.put, List.setIfInBounds_toArray, List.set_cons_succ, List.set_cons_zero])
   | (refine lx_callg HK.out ?_ ?_ ?_ ?_; (· kernel_rfl); (· exact ⟨by kernel_rfl, rfl⟩); (· intro W g; simp [go_sem]; done); simp only [Act.put, List.setIfInBounds_toArray, List.set_cons_succ, List.set_cons_zero]))
  simp only [List.drop_succ_cons, List.drop_zero]
  go_wp2_with (go_at_call 42; refine (HM.out _ _ _).mono ?_; rintro e w3 ⟨rfl, hw3⟩; rw [hw3]; clear hw3 w3; simp only [cond_true])
  refine region_lg 13 GR (by kernel_rfl) (by kernel_rfl) (by kernel_rfl) (by kernel_rfl) ?_
  simp only [List.take_succ_cons, List.take_zero]
  repeat (first
   | (refine lx_end fun V0 GV => ?_)
   | (refine lx_no ?_ ?_ ?_; (· simp [Region.wanted, yielded]; done); (· kernel_rfl); simp only [Act.put, List.setIfInBounds_toArray, List.set_cons_succ, List.set_cons_zero])
   | (refine lx_val (v := ?_) ?_ ?_ ?_ ?_; rotate_left; (· kernel_rfl); (· exact ⟨by kernel_rfl, rfl⟩); (· intro W g; simp [go_sem, (HX.out W g).2.2.1, q3]; rfl); simp only [Act.put, List.setIfInBounds_toArray, List.set_cons_succ, List.set_cons_zero])
   | (refine lx_callg HA.out ?_ ?_ ?_ ?_; (· kernel_rfl); (· exact ⟨by kernel_rfl, rfl⟩); (· intro W g; simp [go_sem]; done); simp only [Act.put, List.setIfInBounds_toArray, List.set_cons_succ, List.set_cons_zero]))
  simp only [List.drop_succ_cons, List.drop_zero]
  go_wp2_with (go_at_call 42; refine (HM.out _ _ _).mono ?_; rintro e w3 ⟨rfl, hw3⟩; rw [hw3]; clear hw3 w3; simp only [cond_false])
  exact ⟨rfl, by rw [HR.out, HQl.out, HQk.out, q2, q3]; rfl, grown_trans HG.out GV⟩
 cases za
 case false =>
  go_enter Tryz.func58, Tryz.ntmps58
  go_wp2_with fail
  rw [HW.out.1, HW.out.2.1, HW.out.2.2]
  refine region_lg 13 (World.grownBy.refl _ _) (by kernel_rfl) (by kernel_rfl) (by kernel_rfl) (by kernel_rfl) ?_
  simp only [List.take_succ_cons, List.take_zero]
  repeat (first
   | (refine lx_end fun W0 GR => ?_)
   | (refine lx_no ?_ ?_ ?_; (· simp [Region.wanted, yielded]; done); (· kernel_rfl); simp only [Act.put, List.setIfInBounds_toArray, List.set_cons_succ, List.set_cons_zero])
   | (refine lx_val (v := ?_) ?_ ?_ ?_ ?_; rotate_left; (· kernel_rfl); (· exact ⟨by kernel_rfl, rfl⟩); (· intro W g; simp [go_sem, (HX.out W g).1, (HX.out W g).2.1, HX2.out W g, HRc0.out W g, q2]; rfl); simp only [Act.put, List.setIfInBounds_toArray, List.set_cons_succ, List.set_cons_zero])
   | (refine lx_callg HK.out ?_ ?_ ?_ ?_; (· kernel_rfl); (· exact ⟨by kernel_rfl, rfl⟩); (· intro W g; simp [go_sem]; done); simp only [Act.put, List.setIfInBounds_toArray, List.set_cons_succ, List.set_cons_zero]))
  simp only [List.drop_succ_cons, List.drop_zero]
  go_wp2_with (go_at_call 42; refine (HM.out _ _ _).mono ?_; rintro e w3 ⟨rfl, hw3⟩; rw [hw3]; clear hw3 w3; simp only [cond_true])
  refine region_lg 13 GR (by kernel_rfl) (by kernel_rfl) (by kernel_rfl) (by kernel_rfl) ?_
  simp only [List.take_succ_cons, List.take_zero]
  repeat (first
   | (refine lx_end fun V0 GV => ?_)
   | (refine lx_no ?_ ?_ ?_; (· simp [Region.wanted, yielded]; done); (· kernel_rfl); simp only [Act.put, List.setIfInBounds_toArray, List.set_cons_succ, List.set_cons_zero])
   | (refine lx_val (v := ?_) ?_ ?_ ?_ ?_; rotate_left; (· kernel_rfl); (· exact ⟨by kernel_rfl, rfl⟩); (· intro W g; simp [go_sem, (HX.out W g).1, (HX.out W g).2.1, (HX.out W g).2.2.1, (HX.out W g).2.2.2.1, q3, hpj2]; rfl); simp only [Act.put, List.setIfInBounds_toArray, List.set_cons_succ, List.set_cons_zero])
   | (refine lx_callg HA.out ?_ ?_ ?_ ?_; (· kernel_rfl); (· exact ⟨by kernel_rfl, rfl⟩); (· intro W g; simp [go_sem]; done); simp only [Act.put, List.setIfInBounds_toArray, List.set_cons_succ, List.set_cons_zero]))
  simp only [List.drop_succ_cons, List.drop_zero]
  go_wp2_with (go_at_call 42; refine (HM.out _ _ _).mono ?_; rintro e w3 ⟨rfl, hw3⟩; rw [hw3]; clear hw3 w3; simp only [cond_false])
  exact ⟨rfl, by rw [HR.out, HQl.out, HQk.out, q2, q3, HZa.out]; rfl, grown_trans HG.out GV⟩
 go_enter Tryz.func58, Tryz.ntmps58
 go_wp2_with fail
 rw [HW.out.1, HW.out.2.1, HW.out.2.2]
 refine region_lg 13 (World.grownBy.refl _ _) (by kernel_rfl) (by kernel_rfl) (by kernel_rfl) (by kernel_rfl) ?_
 simp only [List.take_succ_cons, List.take_zero]
 repeat (first
  | (refine lx_end fun W0 GR => ?_)
  | (refine lx_no ?_ ?_ ?_; (· simp [Region.wanted, yielded]; done); (· kernel_rfl); simp only [Act.put, List.setIfInBounds_toArray, List.set_cons_succ, List.set_cons_zero])
  | (refine lx_val (v := ?_) ?_ ?_ ?_ ?_; rotate_left; (· kernel_rfl); (· exact ⟨by kernel_rfl, rfl⟩); (· intro W g; simp [go_sem, (HX.out W g).1, (HX.out W g).2.1, HX2.out W g, HRc0.out W g, q2]; rfl); simp only [Act.put, List.setIfInBounds_toArray, List.set_cons_succ, List.set_cons_zero])
  | (refine lx_callg HK.out ?_ ?_ ?_ ?_; (· kernel_rfl); (· exact ⟨by kernel_rfl, rfl⟩); (· intro W g; simp [go_sem]; done); simp only [Act.put, List.setIfInBounds_toArray, List.set_cons_succ, List.set_cons_zero]))
 simp only [List.drop_succ_cons, List.drop_zero]
 go_wp2_with (go_at_call 42; refine (HM.out _ _ _).mono ?_; rintro e w3 ⟨rfl, hw3⟩; rw [hw3]; clear hw3 w3; simp only [cond_true])
 refine region_lg 13 GR (by kernel_rfl) (by kernel_rfl) (by kernel_rfl) (by kernel_rfl) ?_
 simp only [List.take_succ_cons, List.take_zero]
 repeat (first
  | (refine lx_end fun V0 GV => ?_)
  | (refine lx_no ?_ ?_ ?_; (· simp [Region.wanted, yielded]; done); (· kernel_rfl); simp only [Act.put, List.setIfInBounds_toArray, List.set_cons_succ, List.set_cons_zero])
  | (refine lx_val (v := ?_) ?_ ?_ ?_ ?_; rotate_left; (· kernel_rfl); (· exact ⟨by kernel_rfl, rfl⟩); (· intro W g; simp [go_sem, (HX.out W g).1, (HX.out W g).2.1, (HX.out W g).2.2.1, (HX.out W g).2.2.2.1, q3, hpj2]; rfl); simp only [Act.put, List.setIfInBounds_toArray, List.set_cons_succ, List.set_cons_zero])
  | (refine lx_callg HA.out ?_ ?_ ?_ ?_; (· kernel_rfl); (· exact ⟨by kernel_rfl, rfl⟩); (· intro W g; simp [go_sem]; done); simp only [Act.put, List.setIfInBounds_toArray, List.set_cons_succ, List.set_cons_zero]))
 simp only [List.drop_succ_cons, List.drop_zero]
 go_wp2_with (go_at_call 42; refine (HM.out _ _ _).mono ?_; rintro e w3 ⟨rfl, hw3⟩; rw [hw3]; clear hw3 w3; simp only [cond_true])
 go_end0
 exact ⟨by rw [HR.out, HQl.out, HQk.out, q2, q3, HZa.out]; rfl, grown_trans HG.out GV⟩
end Go.Proofs.YtpcgkggpmipiaaaGreat
